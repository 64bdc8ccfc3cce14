import PyProof.Rows.All
import Wide.All
import OpenK.AllK
import Wide.FinOn
import Lean
import PyProof.EqAt
import PyProof.EqKinds
import PyProof.TupleCall
import PyProof.FString
import OpenK.KOwn
import KE.KTryMore
import PyProof.NsDelKeeps
import PyProof.StrBlock2
import PyProof.AutoListH
import KE.KIntText
import PyProof.Rows.StrIntSpec
import KE.KRevIter
import PyProof.StrWalks
import PyProof.CompUse
import PyProof.NeKinds
import PyProof.Rows.Range3
import PyProof.Rows.EnumRows
import PyProof.ConsumeWalk
import PyProof.Rows.SeqGen
import PyProof.StrLawsRepr
import PyProof.ZipIter
import PyProof.Rows.FactsT2
import PyProof.EnumMake
import PyProof.DictWalks
import PyProof.DictTruth
import PyProof.ListRange
import PyProof.ListStr
import KE.KRevSl
import PyProof.Rows.SeqMore
import PyProof.ListMulRoad
import PySem.Challenge.RW_cosetyard_k63_inner_rules
-- CHANGE: your row's module here, as the last of these rows
set_option Elab.async false
set_option linter.all false
set_option maxRecDepth 100000
namespace L2
open PySem PySem.Spec PyProof.Rows
abbrev Key := Sum Int Str
def keyIs : Key → Value → Bool
  | .inl k, v => Value.isInt k v
  | .inr x, v => Value.isStrOf x v
def keyH (w : World) : Key → Int
  | .inl k => hashInt k
  | .inr x => hashStr w x
theorem keyIs_shape : ∀ {k : Key} {v : Value}, keyIs k v = true → (∃ i t, k = Sum.inl i ∧ v = Value.int i t) ∨ (∃ x t, k = Sum.inr x ∧ v = Value.str x t)
  | .inl i, v, h => by
    obtain ⟨t, e⟩ := Value.isInt_shape (k := i) (v := v) h
    exact .inl ⟨i, t, rfl, e⟩
  | .inr x, v, h => by
    obtain ⟨t, e⟩ := Value.isStrOf_shape (x := x) (v := v) h
    exact .inr ⟨x, t, rfl, e⟩
theorem keyIs_int (i : Int) (t : Tok) : keyIs (.inl i) (.int i t) = true := by simp [keyIs, Value.isInt]
theorem keyIs_str (x : Str) (t : Tok) : keyIs (.inr x) (.str x t) = true := by simp [keyIs, Value.isStrOf]
theorem key_ll (a b : Int) : decide ((Sum.inl a : Key) = Sum.inl b) = (a == b) := by
  by_cases e : a = b
  · subst e; simp
  · have h : ¬ (Sum.inl a : Key) = Sum.inl b := fun q => e (Sum.inl.inj q)
    rw [decide_eq_false h]
    exact (beq_eq_false_iff_ne.mpr e).symm
theorem key_rr (a b : Str) : decide ((Sum.inr a : Key) = Sum.inr b) = decide (a = b) := by
  by_cases e : a = b
  · subst e; simp
  · have h : ¬ (Sum.inr a : Key) = Sum.inr b := fun q => e (Sum.inr.inj q)
    rw [decide_eq_false h, decide_eq_false e]
theorem key_lr (a : Int) (b : Str) : decide ((Sum.inl a : Key) = Sum.inr b) = false := decide_eq_false (fun q => nomatch q)
theorem key_rl (a : Str) (b : Int) : decide ((Sum.inr a : Key) = Sum.inl b) = false := decide_eq_false (fun q => nomatch q)
def mixKind (prog : Program) (w : World) : PySem.KeyKind prog w Key where
  is := keyIs
  hash := keyH w
  inj := fun v a b ha hb => by
    rcases keyIs_shape ha with ⟨i, t, rfl, rfl⟩ | ⟨x, t, rfl, rfl⟩
    · rcases keyIs_shape hb with ⟨j, u, rfl, e⟩ | ⟨y, u, rfl, e⟩
      · injection e with e1 _; rw [e1]
      · exact nomatch e
    · rcases keyIs_shape hb with ⟨j, u, rfl, e⟩ | ⟨y, u, rfl, e⟩
      · exact nomatch e
      · injection e with e1 _; rw [e1]
  byValue := fun k v h => by
    rcases keyIs_shape h with ⟨i, t, rfl, rfl⟩ | ⟨x, t, rfl, rfl⟩ <;> rfl
  pyHash := fun hv h => by
    rcases keyIs_shape hv with ⟨i, t, rfl, rfl⟩ | ⟨x, t, rfl, rfl⟩
    · exact wpAny_pyHash_int h
    · exact wpAny_pyHash_str h
  eqBool := fun hu hv h => by
    rcases keyIs_shape hu with ⟨i, t, rfl, rfl⟩ | ⟨x, t, rfl, rfl⟩
    · rcases keyIs_shape hv with ⟨j, u, rfl, rfl⟩ | ⟨y, u, rfl, rfl⟩
      · rw [key_ll] at h; exact wpAny_eqBool_int h
      · rw [key_lr] at h; exact SeqAt.EqAt.int_str i t y u _ _ _ _ h
    · rcases keyIs_shape hv with ⟨j, u, rfl, rfl⟩ | ⟨y, u, rfl, rfl⟩
      · rw [key_rl] at h; exact SeqAt.EqAt.str_int x t j u _ _ _ _ h
      · rw [key_rr] at h; exact wpAny_eqBool_str h
  «strs» := fun k x t v h => by
    rcases keyIs_shape h with ⟨i, u, rfl, e⟩ | ⟨y, u, rfl, e⟩
    · exact nomatch e
    · injection e with e1 _
      subst e1
      cases v <;> rfl
theorem mixKind_int (prog : Program) (w : World) (i : Int) (t : Tok) : (mixKind prog w).is (.inl i) (.int i t) = true := keyIs_int i t
theorem mixKind_str (prog : Program) (w : World) (x : Str) (t : Tok) : (mixKind prog w).is (.inr x) (.str x t) = true := keyIs_str x t
end L2
namespace L2
open PySem PySem.Spec PyProof.Rows
inductive V where
  | non | bl (b : Bool) | int (i : Int) | str (x : Str) | byt (b : Array UInt8) | flt (b : UInt64) | ref (a : Addr) | ty (n : String)
  deriving DecidableEq
def RelV : V → Value → Prop
  | .non, u => u = Value.none
  | .bl b, u => u = Value.bool b
  | .int i, u => ∃ t, u = Value.int i t
  | .str x, u => ∃ t, u = Value.str x t
  | .byt b, u => ∃ t, u = Value.bytes b t
  | .flt b, u => ∃ t, u = Value.float b t
  | .ref a, u => u = Value.ref a
  | .ty n, u => u = Value.type n
abbrev Vals : List V → List Value → Prop := Paired RelV
theorem Vals.length {xs : List V} {us : List Value} (r : Vals xs us) : xs.length = us.length := Paired.length r
theorem Vals.get : ∀ {xs : List V} {us : List Value} {i : Nat} {x : V}, Vals xs us → xs[i]? = some x → ∃ u, us[i]? = some u ∧ RelV x u
  | _, _, _, _, .nil, e => by simp at e
  | _, _, 0, _, .cons r _, e => by simp at e; subst e; exact ⟨_, rfl, r⟩
  | _, _, i + 1, x, .cons _ t, e => by
    obtain ⟨u, h1, h2⟩ := Vals.get (i := i) (x := x) t (by simpa using e)
    exact ⟨u, by simpa using h1, h2⟩
theorem Vals.set {x : V} {u : Value} (r : RelV x u) : ∀ {xs : List V} {us : List Value} (i : Nat), Vals xs us → Vals (xs.set i x) (us.set i u)
  | _, _, _, .nil => .nil
  | _, _, 0, .cons _ t => .cons r t
  | _, _, i + 1, .cons q t => .cons q (Vals.set r i t)
theorem Vals.append : ∀ {xs ys : List V} {us ws : List Value}, Vals xs us → Vals ys ws → Vals (xs ++ ys) (us ++ ws)
  | _, _, _, _, .nil, s => s
  | _, _, _, _, .cons r t, s => .cons r (Vals.append t s)
theorem Vals.take : ∀ {xs : List V} {us : List Value} (n : Nat), Vals xs us → Vals (xs.take n) (us.take n)
  | _, _, 0, _ => .nil
  | _, _, _ + 1, .nil => .nil
  | _, _, n + 1, .cons r t => .cons r (Vals.take n t)
theorem Vals.drop : ∀ {xs : List V} {us : List Value} (n : Nat), Vals xs us → Vals (xs.drop n) (us.drop n)
  | _, _, 0, r => r
  | _, _, _ + 1, .nil => .nil
  | _, _, n + 1, .cons _ t => Vals.drop n t
def RelO : Option V → Option Value → Prop
  | some v, some u => RelV v u
  | none, none => True
  | _, _ => False
def KV {κ : Type} : List (κ × V) → List (κ × Value) → Prop := Paired fun (p : κ × V) (q : κ × Value) => p.1 = q.1 ∧ RelV p.2 q.2
def kV : Key → V
  | .inl i => .int i
  | .inr x => .str x
inductive HO where
  /-- a list -/
  | lst (xs : List V)
  /-- a tuple (never changes) -/
  | tup (xs : List V)
  /-- a dict whose keys are ints and texts; one whose keys are tuples of ints and texts (the empty one is both) -/
  | dK (kvs : List (Key × V)) | dT (kvs : List (List Key × V))
  /-- a set of ints: its members, its size -/
  | set (S : Int → Bool) (n : Nat)
  /-- an instance of the class at C, its dict at dx, its attributes -/
  | ins (C dx : Addr) (fs : List (Str × V))
  /-- the dict of the instance at x -/
  | own (x : Addr)
  /-- the dict of an exception -/
  | xd (fs : List (Str × V))
  /-- a bound method, f of x -/
  | met (f x : Addr)
  /-- a range object lo, lo + 1, .. below hi -/
  | rng (lo hi : Int)
  /-- a thing that is known to the object (the script; a dict while a loop walks it): read, never written while it is so -/
  | frz (o : Obj) (u : HO)
  /-- a code object's table -/
  | tbl (ps : Array Value)
  /-- any other thing, by what is true of its one object (a def of one's own: SetO a S n := HO.ext fun h => ..) -/
  | ext (φ : Heap → Prop)
abbrev Hp := Addr → Option HO
def upd (H : Hp) (a : Addr) (o : HO) : Hp := fun b => if b = a then some o else H b
theorem upd_same {H : Hp} {a : Addr} {o : HO} : upd H a o a = some o := by unfold upd; rw [if_pos rfl]
theorem upd_ne {H : Hp} {a b : Addr} {o : HO} (h : b ≠ a) : upd H a o b = H b := by unfold upd; rw [if_neg h]
theorem ne_of {H : Hp} {a b : Addr} {o u : HO} (h : H a = some o) (h' : H b = some u) (d : o ≠ u) : a ≠ b := by
  intro e; subst e; rw [h] at h'; exact d (Option.some.inj h')
theorem ne_of_none {H : Hp} {a b : Addr} {o : HO} (h : H a = some o) (h' : H b = none) : a ≠ b := by
  intro e; subst e; rw [h] at h'; cases h'
section
variable (P : Program) (w : World)
def ObjOk (H : Hp) (h : Heap) (a : Addr) : HO → Prop
  | .lst xs => xs.length ≤ sizeLine ∧ ∃ (its : List Value) (n : Nat), Vals xs its ∧ h.get? a = some { cls := .type "list", data := .seq its.toArray n }
  | .tup xs => xs.length ≤ sizeLine ∧ ∃ its : List Value, Vals xs its ∧ IsTup h a its.toArray
  | .dK kvs => kvs.length ≤ sizeLine ∧ (a == sysModules) = false ∧ ∃ vs, KV kvs vs ∧ h.DictOf (mixKind P w) a vs
  | .dT kvs => kvs.length ≤ sizeLine ∧ (a == sysModules) = false ∧ ∃ xs : List (List Key × Addr × Value),
      Paired (fun (p : List Key × V) (q : List Key × Addr × Value) => p.1 = q.1 ∧ H q.2.1 = some (.tup (p.1.map kV)) ∧ RelV p.2 q.2.2) kvs xs ∧
      ∃ o es ep, h.get? a = some o ∧ o.ExactDict ∧ o.data = .dict es ep ∧ es.toList = xs.map (entryOfKey (tupleKind (mixKind P w))) ∧ (xs.map (·.1)).Nodup
  | .set S n => h.SetOf (intKind P w) a S n
  | .ins C dx fs => H dx = some (.own a) ∧ fs.length ≤ 1000 ∧ dx ≠ a ∧ h.get? a = some (PySem.W.instObj C dx) ∧
      ∃ mA, h.Ns1 dx mA ∧ (∀ f, RelO (fs.lookup f) (mA f)) ∧ PySem.Within mA (fs.map (·.1))
  | .own _ => ∃ o, h.get? a = some o
  | .xd fs => ∃ mA, h.Ns1 a mA ∧ ∀ f, RelO (fs.lookup f) (mA f)
  | .rng lo hi => ∃ t u v, h.get? a = some { cls := .type "range", data := .fields #[.int lo t, .int hi u, .int 1 v] }
  | .frz o u => h.get? a = some o ∧ ObjOk H h a u
  | .tbl ps => h.get? a = some { cls := .none, data := .fields ps }
  | .met f x => h.get? a = some (PySem.W.methodObj (.ref f) (.ref x))
  | .ext φ => φ h ∧ (∃ o, h.get? a = some o) ∧ ∀ h1 h2 : Heap, φ h1 → (∀ o, h1.get? a = some o → h2.get? a = some o) → φ h2
def HOk (H : Hp) (h : Heap) : Prop := ∀ a o, H a = some o → ObjOk P w H h a o
end
section
variable {P : Program} {w : World} {H H' : Hp} {h h' : Heap} {a : Addr} {o : HO}
theorem ObjOk.lt (x : ObjOk P w H h a o) : a < h.objs.size := by
  cases o with
  | lst xs => obtain ⟨_, _, _, _, e⟩ := x; exact Heap.lt_size e
  | tup xs => obtain ⟨_, _, _, p⟩ := x; exact p.lt
  | dK kvs => obtain ⟨_, _, _, _, o, _, _, e, _⟩ := x; exact Heap.lt_size e
  | dT kvs => obtain ⟨_, _, _, _, o, _, _, e, _⟩ := x; exact Heap.lt_size e
  | set S n => obtain ⟨o, _, _, _, e, _⟩ := x; exact Heap.lt_size e
  | ins C dx fs => obtain ⟨_, _, _, e, _⟩ := x; exact Heap.lt_size e
  | own y => obtain ⟨_, e⟩ := x; exact Heap.lt_size e
  | xd fs => obtain ⟨_, ⟨_, _, _, e, _⟩, _⟩ := x; exact Heap.lt_size e
  | rng lo hi => obtain ⟨_, _, _, e⟩ := x; exact Heap.lt_size e
  | frz ob u => obtain ⟨e, _⟩ := x; exact Heap.lt_size e
  | tbl ps => exact Heap.lt_size (show h.get? a = some _ from x)
  | met f y => exact Heap.lt_size (show h.get? a = some _ from x)
  | ext φ => obtain ⟨_, ⟨_, e⟩, _⟩ := x; exact Heap.lt_size e
theorem Paired.mapP {α β : Type} {F G : α → β → Prop} : ∀ {l₁ : List α} {l₂ : List β}, Paired F l₁ l₂ → (∀ a b, F a b → G a b) → Paired G l₁ l₂
  | _, _, .nil, _ => .nil
  | _, _, .cons r t, f => .cons (f _ _ r) (Paired.mapP t f)
theorem ObjOk.stay (x : ObjOk P w H h a o) (k : ∀ b u, (b = a ∨ H b = some (.own a)) → h.get? b = some u → h'.get? b = some u)
    (ho : ∀ b, H b = some (.own a) → H' b = some (.own a)) (ht : ∀ b xs, H b = some (.tup xs) → H' b = some (.tup xs)) : ObjOk P w H' h' a o := by
  induction o with
  | lst xs => obtain ⟨z, its, n, r, e⟩ := x; exact ⟨z, its, n, r, k _ _ (.inl rfl) e⟩
  | tup xs => obtain ⟨z, its, r, ob, e, c⟩ := x; exact ⟨z, its, r, ob, k _ _ (.inl rfl) e, c⟩
  | dK kvs => obtain ⟨z, y, vs, r, ob, es, ep, e, c⟩ := x; exact ⟨z, y, vs, r, ob, es, ep, k _ _ (.inl rfl) e, c⟩
  | dT kvs =>
    obtain ⟨z, y, xs, r, ob, es, ep, e, c⟩ := x
    exact ⟨z, y, xs, Paired.mapP r fun p q z => ⟨z.1, ht _ _ z.2.1, z.2.2⟩, ob, es, ep, k _ _ (.inl rfl) e, c⟩
  | set S n => obtain ⟨ob, es, ep, t, e, c⟩ := x; exact ⟨ob, es, ep, t, k _ _ (.inl rfl) e, c⟩
  | ins C dx fs =>
    obtain ⟨d, z, ne, e, mA, ⟨od, es, ep, e2, c⟩, r⟩ := x
    exact ⟨ho _ d, z, ne, k _ _ (.inl rfl) e, mA, ⟨od, es, ep, k _ _ (.inr d) e2, c⟩, r⟩
  | own y => obtain ⟨ob, e⟩ := x; exact ⟨ob, k _ _ (.inl rfl) e⟩
  | xd fs => obtain ⟨mA, ⟨od, es, ep, e, c⟩, r⟩ := x; exact ⟨mA, ⟨od, es, ep, k _ _ (.inl rfl) e, c⟩, r⟩
  | rng lo hi => obtain ⟨t, u, v, e⟩ := x; exact ⟨t, u, v, k _ _ (.inl rfl) e⟩
  | frz ob u ih => obtain ⟨e, q⟩ := x; exact ⟨k _ _ (.inl rfl) e, ih q⟩
  | tbl ps =>
    have e : h.get? a = some { cls := .none, data := .fields ps } := x
    show h'.get? a = some { cls := .none, data := .fields ps }
    exact k a _ (.inl rfl) e
  | met f y =>
    have e : h.get? a = some (PySem.W.methodObj (.ref f) (.ref y)) := x
    show h'.get? a = some (PySem.W.methodObj (.ref f) (.ref y))
    exact k a _ (.inl rfl) e
  | ext φ => obtain ⟨p, ⟨o, e⟩, st⟩ := x; exact ⟨st _ _ p fun o q => k _ _ (.inl rfl) q, ⟨o, k _ _ (.inl rfl) e⟩, st⟩
theorem HOk.lt (x : HOk P w H h) (e : H a = some o) : a < h.objs.size := (x a o e).lt
theorem HOk.fresh (x : HOk P w H h) (e : h.objs.size ≤ a) : H a = none := by
  cases q : H a with
  | none => rfl
  | some u => exact absurd (Nat.lt_of_lt_of_le (x.lt q) e) (Nat.lt_irrefl _)
theorem HOk.kept (x : HOk P w H h) (k : ∀ b u, h.get? b = some u → h'.get? b = some u) : HOk P w H h' := fun a o e =>
  (x a o e).stay (fun b u _ q => k b u q) (fun _ q => q) fun _ _ q => q
theorem HOk.laid (x : HOk P w H h) (k : ∀ b u, h.get? b = some u → h'.get? b = some u) (hp : h.objs.size ≤ a) (new : ObjOk P w (upd H a o) h' a o) : HOk P w (upd H a o) h' := fun b u e => by
  have hn := x.fresh hp
  by_cases hb : b = a
  · subst hb; rw [upd_same] at e; cases e; exact new
  · rw [upd_ne hb] at e
    exact (x b u e).stay (fun c v _ q => k c v q) (fun c q => by rw [upd_ne (ne_of_none q hn)]; exact q) fun c xs q => by rw [upd_ne (ne_of_none q hn)]; exact q
end
def Rd (H : Hp) (a : Addr) (u : HO) : Prop := H a = some u ∨ ∃ o, H a = some (.frz o u)
theorem Rd.of {H : Hp} {a : Addr} {u : HO} (h : H a = some u) : Rd H a u := .inl h
theorem Rd.ok {P : Program} {w : World} {H : Hp} {h : Heap} {a : Addr} {u : HO} (r : Rd H a u) (x : HOk P w H h) : ObjOk P w H h a u := by
  rcases r with r | ⟨o, r⟩
  · exact x a u r
  · obtain ⟨_, q⟩ := x a _ r
    exact q
def Mut : Option HO → Prop
  | some (.lst _) => True
  | some (.dK _) => True
  | some (.dT _) => True
  | some (.set _ _) => True
  | some (.ins _ _ _) => True
  | some (.ext _) => True
  | _ => False
section
variable {P : Program} {w : World} {H : Hp} {h h' : Heap} {x e : Addr} {o' : HO}
theorem HOk.write (ok : HOk P w H h) (mu : Mut (H x)) (he : e = x ∨ H e = some (.own x)) (k : ∀ b u, b ≠ e → h.get? b = some u → h'.get? b = some u) (heo : ∃ u, h'.get? e = some u)
    (new : ObjOk P w (upd H x o') h' x o') : HOk P w (upd H x o') h' := fun b u q => by
  have nown : ∀ c y, H c = some (.own y) → c ≠ x := fun c y r z => by subst z; rw [r] at mu; exact mu
  have ntup : ∀ c xs, H c = some (.tup xs) → c ≠ x := fun c xs r z => by subst z; rw [r] at mu; exact mu
  by_cases hb : b = x
  · subst hb; rw [upd_same] at q; cases q; exact new
  · rw [upd_ne hb] at q
    by_cases hbe : b = e
    · have q' : H b = some (.own x) := by
        rcases he with z | z
        · exact absurd (hbe.trans z) hb
        · rw [hbe]; exact z
      rw [q] at q'; cases q'
      obtain ⟨v, hv⟩ := heo
      exact ⟨v, by rw [hbe]; exact hv⟩
    · refine (ok b u q).stay (fun c v hc r => k c v ?_ r) (fun c r => by rw [upd_ne (nown c b r)]; exact r) fun c xs r => by rw [upd_ne (ntup c xs r)]; exact r
      rcases hc with rfl | hc
      · exact hbe
      · rintro rfl
        rcases he with z | z
        · exact nown c b hc z
        · rw [hc] at z; cases z; exact hb rfl
end
structure Un (fs ex : List Addr) (H H' : Hp) (h h' : Heap) : Prop where
  keep : ∀ b o, h.get? b = some o → H b = none → b ∉ fs → b ∉ ex → h'.get? b = some o
  slot : ∀ b o, h.get? b = some o → H b = none → b ∈ fs → b ∉ ex → ∃ sl, h'.get? b = some { o with slots := sl }
  free : ∀ b o, h.get? b = some o → H b = none → b ∉ ex → H' b = none
  there : ∀ b o, h.get? b = some o → b ∉ ex → ∃ o', h'.get? b = some o'
  tups : ∀ b xs, H b = some (.tup xs) → H' b = some (.tup xs)
  frzs : ∀ b o u, H b = some (.frz o u) → H' b = some (.frz o u)
  tbls : ∀ b ps, H b = some (.tbl ps) → ∃ more, H' b = some (.tbl (ps ++ more))
section
variable {fs fs' ex ex' : List Addr} {H H1 H2 : Hp} {h h1 h2 h' : Heap} {a x e : Addr} {o : HO}
theorem Un.any (u : Un fs ex H H1 h h1) {b : Addr} {ob : Obj} (q : h.get? b = some ob) (n : H b = none) (hx : b ∉ ex) : ∃ sl, h1.get? b = some { ob with slots := sl } := by
  by_cases hb : b ∈ fs
  · exact u.slot b ob q n hb hx
  · exact ⟨ob.slots, u.keep b ob q n hb hx⟩
theorem Un.trans (a : Un fs ex H H1 h h1) (b : Un fs ex H1 H2 h1 h2) : Un fs ex H H2 h h2 where
  keep := fun c ob q n hc hx => b.keep c ob (a.keep c ob q n hc hx) (a.free c ob q n hx) hc hx
  slot := fun c ob q n hc hx => by
    obtain ⟨sl, e1⟩ := a.slot c ob q n hc hx
    obtain ⟨sl', e2⟩ := b.slot c _ e1 (a.free c ob q n hx) hc hx
    exact ⟨sl', e2⟩
  free := fun c ob q n hx => by
    obtain ⟨o', e1⟩ := a.there c ob q hx
    exact b.free c o' e1 (a.free c ob q n hx) hx
  there := fun c ob q hx => by
    obtain ⟨o', e1⟩ := a.there c ob q hx
    exact b.there c o' e1 hx
  tups := fun c xs q => b.tups c xs (a.tups c xs q)
  frzs := fun c ob xs q => b.frzs c ob xs (a.frzs c ob xs q)
  tbls := fun c ps q => by
    obtain ⟨m1, e1⟩ := a.tbls c ps q
    obtain ⟨m2, e2⟩ := b.tbls c _ e1
    exact ⟨m1 ++ m2, by rw [e2, Array.append_assoc]⟩
theorem Un.kept (k : ∀ b u, h.get? b = some u → h'.get? b = some u) : Un fs ex H H h h' :=
  ⟨fun b ob q _ _ _ => k b ob q, fun b ob q _ _ _ => ⟨ob.slots, k b ob q⟩, fun _ _ _ n _ => n, fun b ob q _ => ⟨ob, k b ob q⟩, fun _ _ q => q, fun _ _ _ q => q, fun _ ps q => ⟨#[], by rw [q]; simp⟩⟩
theorem Un.refl : Un fs ex H H h h := Un.kept fun _ _ q => q
theorem Un.laid (k : ∀ b u, h.get? b = some u → h'.get? b = some u) (hp : h.objs.size ≤ a) (hn : H a = none) : Un fs ex H (upd H a o) h h' where
  keep := fun b u q _ _ _ => k b u q
  slot := fun b u q _ _ _ => ⟨u.slots, k b u q⟩
  free := fun b u q n _ => by rw [upd_ne (Nat.ne_of_lt (Nat.lt_of_lt_of_le (Heap.lt_size q) hp))]; exact n
  there := fun b u q _ => ⟨u, k b u q⟩
  tups := fun b xs q => by rw [upd_ne (ne_of_none q hn)]; exact q
  frzs := fun b u xs q => by rw [upd_ne (ne_of_none q hn)]; exact q
  tbls := fun b ps q => ⟨#[], by rw [upd_ne (ne_of_none q hn), q]; simp⟩
theorem Un.write (mu : Mut (H x)) (he : e = x ∨ H e = some (.own x)) (k : ∀ b u, b ≠ e → h.get? b = some u → h'.get? b = some u) (heo : ∃ u, h'.get? e = some u) : Un fs ex H (upd H x o) h h' := by
  have hx : ∀ b, H b = none → b ≠ x := fun b n z => by subst z; rw [n] at mu; exact mu
  have hb : ∀ b, H b = none → b ≠ e := fun b n z => by
    subst z
    rcases he with r | r
    · exact hx b n r
    · rw [n] at r; cases r
  have hm : ∀ b u, H b = some u → ¬ Mut (some u) → b ≠ x := fun b u q nm z => by subst z; rw [q] at mu; exact nm mu
  refine ⟨fun b u q n _ _ => k b u (hb b n) q, fun b u q n _ _ => ⟨u.slots, k b u (hb b n) q⟩, fun b u q n _ => by rw [upd_ne (hx b n)]; exact n, fun b u q _ => ?_,
    fun b xs q => by rw [upd_ne (hm b _ q fun z => z)]; exact q, fun b u xs q => by rw [upd_ne (hm b _ q fun z => z)]; exact q, fun b ps q => ⟨#[], by rw [upd_ne (hm b _ q fun z => z), q]; simp⟩⟩
  by_cases hbe : b = e
  · subst hbe; exact heo
  · exact ⟨u, k b u hbe q⟩
theorem Un.mono (u : Un fs ex H H1 h h1) (hs : ∀ b ∈ fs, b ∈ fs') (hx : ∀ b ∈ ex, b ∈ ex') : Un fs' ex' H H1 h h1 :=
  ⟨fun b ob q n hb he => u.keep b ob q n (fun z => hb (hs b z)) fun z => he (hx b z), fun _ _ q n _ he => u.any q n fun z => he (hx _ z), fun b ob q n he => u.free b ob q n fun z => he (hx b z), fun b ob q he => u.there b ob q fun z => he (hx b z), u.tups, u.frzs, u.tbls⟩
end
def trk (h : Heap) (H : Hp) : List Addr := (List.range h.objs.size).filter fun a => (H a).isSome
def hidT (h : Heap) (H : Hp) : Heap := PySem.W.hideAll h (trk h H)
theorem hidT_size (h : Heap) (H : Hp) : (hidT h H).objs.size = h.objs.size := PySem.W.hideAll_size _ _
theorem hidT_get {h : Heap} {H : Hp} {b : Addr} {o : Obj} (e : h.get? b = some o) (n : H b = none) : (hidT h H).get? b = some o :=
  PySem.W.hideAll_get _ e fun hm => by
    have q : (H b).isSome = true := (List.mem_filter.mp hm).2
    rw [n] at q; simp at q
theorem of_hidT {h : Heap} {H : Hp} {b : Addr} {o : Obj} (e : (hidT h H).get? b = some o) : h.get? b = some o ∧ H b = none := by
  have e' : h.get? b = some o := PySem.W.of_hideAll (trk h H) e
  refine ⟨e', ?_⟩
  cases q : H b with
  | none => rfl
  | some x =>
    have hm : b ∈ trk h H := List.mem_filter.mpr ⟨List.mem_range.mpr (Heap.lt_size e'), by simp [q]⟩
    have z : (hidT h H).get? b = none := PySem.W.hideAll_none (trk h H) hm
    rw [z] at e; cases e
def allNews (g h : Heap) (L : Addr) : List (Addr × Obj) := (List.range h.objs.size).filterMap fun a => if a = L ∨ (g.get? a).isSome = true then none else (h.get? a).map fun o => (a, o)
def rest (g h : Heap) (L d : Addr) : List (Addr × Obj) := (allNews g h L).filter fun p => decide (p.1 ≠ d)
end L2
namespace L2
open PySem PySem.Spec PyProof.Rows
structure Mod (K : PySem.W.Frag) (mg : Str → Option Value) (base : Heap) : Prop where
  kin : K.In base
  glob : base.Ns mainGlobals mg
  blt : ∃ mb, base.Ns builtinsNs mb ∧ ∀ x : Str, x ≠ "__name__" → mb x = bootBuiltins x
  nolimit : base.NoLimit
structure Cx where
  prog : Program
  w : World
  K : PySem.W.Frag
  mg : Str → Option Value
  base : Heap
  A : Around
  N : List Str
  s₀ : Shared
  H₀ : Hp
  env : Env
  outer : List Env
  stack : List Env
  ex : List Addr
  fn : Str → Bool
  calm : Bool
  pn : List (Addr × Obj)
  xe : Value → Shared → Prop
def frs (l : List Env) : List Addr := l.filterMap (·.frame)
abbrev Cx.fs (X : Cx) : List Addr := frs X.outer
def Vis (sc : Scope) (x : Str) : Prop := sc.names.lookup x = some .local ∨ sc.names.lookup x = some .cell ∨ sc.names.lookup x = some .free
def Loc (sc : Scope) (x : Str) : Prop := sc.names.lookup x = some .local ∨ sc.names.lookup x = some .cell
def Look (env : Env) (h : Heap) (m : Str → Option Value) (x : Str) (u : Value) : Prop :=
  (env.kindOf x = some .local ∧ m x = some u) ∨ ((env.kindOf x = some .cell ∨ env.kindOf x = some .free) ∧ ∃ c, env.cells.lookup x = some c ∧ h.IsCell c (some u))
structure Cx.Ok (X : Cx) : Prop where
  mod : Mod X.K X.mg X.base
  kind : X.env.scope.kind = .function
  glob : X.env.globals = mainGlobals
  blt : X.env.builtins = builtinsNs
  above : X.s₀.heap.objs.size ≤ X.env.locals
  inj : ∀ x y c, X.env.cells.lookup x = some c → X.env.cells.lookup y = some c → x = y
  has : ∀ x, (X.env.kindOf x = some .cell ∨ X.env.kindOf x = some .free) → ∃ c, X.env.cells.lookup x = some c
  cab : ∀ x c, X.fn x = true → X.env.cells.lookup x = some c → X.s₀.heap.objs.size ≤ c
  hd : X.calm = true → X.A.handled = none
  frames : X.A.frames = some X.stack
  stk : X.stack = X.outer ∨ (X.stack = X.env :: X.outer ∧ X.env.frame = some X.env.locals)
  exf : ∀ b ∈ X.ex, b ≠ X.env.locals ∧ ∀ x c, X.env.cells.lookup x = some c → c ≠ b
  bs : ∀ b o, X.base.get? b = some o → X.s₀.heap.get? b = some o ∧ X.H₀ b = none
  bsz : X.base.objs.size ≤ X.s₀.heap.objs.size
  noex : ∀ b o, X.base.get? b = some o → b ∉ X.ex
  exfs : ∀ b ∈ X.ex, b ∉ X.fs
  funs : X.s₀.heap.FunFrames X.base X.outer
  frf : ∀ b ∈ X.fs, X.H₀ b = none
structure Inv (X : Cx) (pins : List (Addr × Obj)) (σ : List (Option V)) (H : Hp) (s : Shared) : Prop where
  ok : X.Ok
  os : s.os = X.s₀.os
  bare : AllBare s.gens
  base : Un X.fs X.ex X.H₀ H X.s₀.heap s.heap
  loc : ∃ m, s.heap.Ns X.env.locals m ∧ ∀ (i : Nat) (x : Str) (v : V), X.N[i]? = some x → σ[i]? = some (some v) → Vis X.env.scope x → ∃ u, RelV v u ∧ Look X.env s.heap m x u
  cell : ∀ x c, X.env.cells.lookup x = some c → ∃ v, s.heap.IsCell c v
  free : H X.env.locals = none
  freeC : ∀ x c, X.env.cells.lookup x = some c → H c = none
  pin : ∀ p ∈ X.pn ++ pins, s.heap.get? p.1 = some p.2 ∧ H p.1 = none ∧ p.1 ≠ X.env.locals ∧ p.1 ∉ X.fs ∧ ∀ v, p.2.data ≠ .cell v
  hok : HOk X.prog X.w H s.heap
  len : σ.length = X.N.length
section
variable {X : Cx} {pins : List (Addr × Obj)} {σ : List (Option V)} {H H' : Hp} {s : Shared} {h' : Heap}
theorem Cx.Ok.nofr (ok : X.Ok) {b : Addr} {o : Obj} (e : X.base.get? b = some o) : b ∉ X.fs := fun hb => by
  have := (ok.funs.mem hb).1
  rw [e] at this; cases this
theorem Inv.bs (I : Inv X pins σ H s) : ∀ b o, X.base.get? b = some o → s.heap.get? b = some o ∧ H b = none := fun b o e =>
  ⟨I.base.keep b o (I.ok.bs b o e).1 (I.ok.bs b o e).2 (I.ok.nofr e) (I.ok.noex b o e), I.base.free b o (I.ok.bs b o e).1 (I.ok.bs b o e).2 (I.ok.noex b o e)⟩
theorem Inv.bk (I : Inv X pins σ H s) : ∀ b o, X.base.get? b = some o → s.heap.get? b = some o := fun b o e => (I.bs b o e).1
theorem Inv.mod (I : Inv X pins σ H s) : Mod X.K X.mg X.base := I.ok.mod
theorem Inv.kIn (I : Inv X pins σ H s) : X.K.In s.heap := I.ok.mod.kin.keeps I.bk
theorem Inv.nolimit (I : Inv X pins σ H s) : s.heap.NoLimit := I.ok.mod.nolimit.keeps I.bk
theorem Inv.lt (I : Inv X pins σ H s) : X.env.locals < s.heap.objs.size := let ⟨_, hn, _⟩ := I.loc; hn.lt
theorem Inv.sz (I : Inv X pins σ H s) : X.s₀.heap.objs.size ≤ s.heap.objs.size := Nat.le_trans I.ok.above (Nat.le_of_lt I.lt)
theorem Inv.nofs (I : Inv X pins σ H s) {a : Addr} (h : s.heap.objs.size ≤ a) : a ∉ X.fs := fun hb => by
  obtain ⟨_, o, ho, _⟩ := I.ok.funs.mem hb
  exact absurd (Nat.lt_of_lt_of_le (Heap.lt_size ho) (Nat.le_trans I.sz h)) (Nat.lt_irrefl _)
theorem Inv.cne (I : Inv X pins σ H s) : ∀ x c, X.env.cells.lookup x = some c → c ≠ X.env.locals := fun x c e z => by
  obtain ⟨v, o, ho, hd⟩ := I.cell x c e
  obtain ⟨m, ⟨o', es, ep, ho', hd', _⟩, _⟩ := I.loc
  rw [z, ho'] at ho; cases ho; rw [hd'] at hd; cases hd
theorem Inv.funs (I : Inv X pins σ H s) : s.heap.FunFrames X.base X.outer := by
  have all : ∀ (l : List Env), (∀ b ∈ frs l, b ∈ X.fs) → X.s₀.heap.FunFrames X.base l → s.heap.FunFrames X.base l := by
    intro l
    induction l with
    | nil => intro _ _; trivial
    | cons env r ih =>
      intro hs hl
      obtain ⟨hk, ⟨L, o, hf, hn, ho, hd⟩, hr⟩ := hl
      have hL : L ∈ X.fs := hs L (by unfold frs; rw [List.filterMap_cons, hf]; exact List.mem_cons_self)
      obtain ⟨sl, e⟩ := I.base.slot L o ho (I.ok.frf L hL) hL fun z => I.ok.exfs L z hL
      exact ⟨hk, ⟨L, _, hf, hn, e, hd⟩, ih (fun b hb => hs b (by unfold frs; rw [List.filterMap_cons, hf]; exact List.mem_cons_of_mem _ hb)) hr⟩
  exact all X.outer (fun _ hb => hb) I.ok.funs
theorem Inv.stack (I : Inv X pins σ H s) : s.heap.FunFrames X.base X.stack := by
  rcases I.ok.stk with e | ⟨e, hf⟩
  · rw [e]; exact I.funs
  · rw [e]
    obtain ⟨m, hn, _⟩ := I.loc
    refine .cons (by rw [I.ok.kind]; decide) hf hn ?_ I.funs
    exact Heap.get?_none_of_le (Nat.le_trans I.ok.bsz I.ok.above)
theorem Inv.stkSub (I : Inv X pins σ H s) : ∀ b ∈ frs X.stack, b ∈ X.env.locals :: X.fs := fun b hb => by
  rcases I.ok.stk with e | ⟨e, hf⟩
  · rw [e] at hb; exact List.mem_cons_of_mem _ hb
  · rw [e] at hb
    unfold frs at hb
    rw [List.filterMap_cons, hf] at hb
    exact hb
theorem Inv.stkFree (I : Inv X pins σ H s) : ∀ b ∈ frs X.stack, H b = none := fun b hb => by
  rcases List.mem_cons.mp (I.stkSub b hb) with e | hb
  · rw [e]; exact I.free
  · obtain ⟨_, o, ho, _⟩ := I.ok.funs.mem hb
    exact I.base.free b o ho (I.ok.frf b hb) fun z => I.ok.exfs b z hb
theorem Inv.step {g' : Array GenState} {t' : Nat} {d' : Drawn} {ch : List Addr} (I : Inv X pins σ H s)
    (hch : ∀ b ∈ ch, (b ∈ X.ex ∨ X.s₀.heap.objs.size ≤ b) ∧ b ≠ X.env.locals ∧ (∀ x c, X.env.cells.lookup x = some c → c ≠ b) ∧ ∀ p ∈ X.pn ++ pins, p.1 ≠ b)
    (keep : ∀ b o, b ≠ X.env.locals → b ∉ X.fs → b ∉ ch → s.heap.get? b = some o → H b = none → h'.get? b = some o)
    (slot : ∀ b o, b ≠ X.env.locals → b ∈ X.fs → b ∉ ch → s.heap.get? b = some o → H b = none → ∃ sl, h'.get? b = some { o with slots := sl }) (free : ∀ b o, b ∉ ch → s.heap.get? b = some o → H b = none → H' b = none)
    (there : ∀ b o, b ∉ ch → s.heap.get? b = some o → ∃ o', h'.get? b = some o')
    (tups : ∀ b xs, H b = some (.tup xs) → H' b = some (.tup xs)) (frzs : ∀ b o u, H b = some (.frz o u) → H' b = some (.frz o u)) (tbls : ∀ b ps, H b = some (.tbl ps) → ∃ more, H' b = some (.tbl (ps ++ more)))
    (ns : ∀ m, s.heap.Ns X.env.locals m → h'.Ns X.env.locals m) (hok : HOk X.prog X.w H' h') (hg : AllBare g') :
    Inv X pins σ H' { s with heap := h', gens := g', drawn := d', toks := t' } := by
  have neL : ∀ b o, X.s₀.heap.get? b = some o → b ≠ X.env.locals := fun b o e => Nat.ne_of_lt (Nat.lt_of_lt_of_le (Heap.lt_size e) I.ok.above)
  have neC : ∀ b o, X.s₀.heap.get? b = some o → b ∉ X.ex → b ∉ ch := fun b o e hx hb => by
    rcases (hch b hb).1 with z | z
    · exact hx z
    · exact absurd (Nat.lt_of_lt_of_le (Heap.lt_size e) z) (Nat.lt_irrefl _)
  have cellK : ∀ x c, X.env.cells.lookup x = some c → ∀ v, s.heap.IsCell c v → h'.IsCell c v := fun x c e v ⟨o, ho, hd⟩ => by
    have nch : c ∉ ch := fun z => (hch c z).2.2.1 x c e rfl
    by_cases hc : c ∈ X.fs
    · obtain ⟨sl, q⟩ := slot c o (I.cne x c e) hc nch ho (I.freeC x c e)
      exact ⟨_, q, hd⟩
    · exact ⟨o, keep c o (I.cne x c e) hc nch ho (I.freeC x c e), hd⟩
  refine ⟨I.ok, I.os, hg, ⟨fun b o e n hb hx => ?_, fun b o e n hb hx => ?_, fun b o e n hx => ?_, fun b o e hx => ?_, fun b xs e => tups b xs (I.base.tups b xs e), fun b o xs e => frzs b o xs (I.base.frzs b o xs e), fun b ps e => ?_⟩, ?_, fun x c e => ?_, ?_, fun x c e => ?_, fun p hp => ?_, hok, I.len⟩
  · exact keep b o (neL b o e) hb (neC b o e hx) (I.base.keep b o e n hb hx) (I.base.free b o e n hx)
  · obtain ⟨sl, e1⟩ := I.base.slot b o e n hb hx
    obtain ⟨sl', e2⟩ := slot b _ (neL b o e) hb (neC b o e hx) e1 (I.base.free b o e n hx)
    exact ⟨sl', e2⟩
  · obtain ⟨o', e1⟩ := I.base.there b o e hx
    exact free b o' (neC b o e hx) e1 (I.base.free b o e n hx)
  · obtain ⟨o', e1⟩ := I.base.there b o e hx
    exact there b o' (neC b o e hx) e1
  · obtain ⟨m1, e1⟩ := I.base.tbls b ps e
    obtain ⟨m2, e2⟩ := tbls b _ e1
    exact ⟨m1 ++ m2, by rw [e2, Array.append_assoc]⟩
  · obtain ⟨m, hn, hl⟩ := I.loc
    refine ⟨m, ns m hn, fun i x v e1 e2 e3 => ?_⟩
    obtain ⟨u, r, l⟩ := hl i x v e1 e2 e3
    refine ⟨u, r, ?_⟩
    rcases l with l | ⟨k, c, e, z⟩
    · exact .inl l
    · exact .inr ⟨k, c, e, cellK x c e _ z⟩
  · obtain ⟨v, z⟩ := I.cell x c e
    exact ⟨v, cellK x c e v z⟩
  · obtain ⟨m, ⟨o, _, _, ho, _⟩, _⟩ := I.loc
    exact free _ o (fun z => (hch _ z).2.1 rfl) ho I.free
  · obtain ⟨v, o, ho, hd⟩ := I.cell x c e
    exact free c o (fun z => (hch c z).2.2.1 x c e rfl) ho (I.freeC x c e)
  · obtain ⟨e, n, ne, nf, d⟩ := I.pin p hp
    have nch : p.1 ∉ ch := fun z => (hch p.1 z).2.2.2 p hp rfl
    exact ⟨keep p.1 p.2 ne nf nch e n, free p.1 p.2 nch e n, ne, nf, d⟩
theorem Inv.un {t' : Nat} (I : Inv X pins σ H s) (u : Un X.fs [] H H' s.heap h') (hok : HOk X.prog X.w H' h') : Inv X pins σ H' { s with heap := h', toks := t' } := by
  obtain ⟨m, ⟨o, es, ep, ho, r⟩, _⟩ := id I.loc
  obtain ⟨sl, hL⟩ := u.any ho I.free (by simp)
  exact I.step (g' := s.gens) (d' := s.drawn) (ch := []) (fun _ z => nomatch z) (fun b o _ hb _ e n => u.keep b o e n hb (by simp)) (fun b o _ hb _ e n => u.slot b o e n hb (by simp)) (fun b o _ e n => u.free b o e n (by simp)) (fun b o _ e => u.there b o e (by simp)) u.tups u.frzs u.tbls (fun m' hm => by
    obtain ⟨o', es', ep', ho', r'⟩ := hm
    rw [ho] at ho'; cases ho'
    exact ⟨_, es', ep', hL, r'⟩) hok I.bare
theorem Inv.call {g' : Array GenState} {t' : Nat} {d' : Drawn} {ch : List Addr} (I : Inv X pins σ H s) (u : Un (frs X.stack) ch H H' s.heap h') (hok : HOk X.prog X.w H' h') (hg : AllBare g')
    (hch : ∀ b ∈ ch, (b ∈ X.ex ∨ X.s₀.heap.objs.size ≤ b) ∧ b ≠ X.env.locals ∧ (∀ x c, X.env.cells.lookup x = some c → c ≠ b) ∧ ∀ p ∈ X.pn ++ pins, p.1 ≠ b) :
    Inv X pins σ H' { s with heap := h', gens := g', drawn := d', toks := t' } := by
  obtain ⟨m, ⟨o, es, ep, ho, r⟩, _⟩ := id I.loc
  obtain ⟨sl, hL⟩ := u.any ho I.free fun z => (hch _ z).2.1 rfl
  exact I.step (ch := ch) hch (fun b o hL hb hc e n => u.keep b o e n (fun z => (List.mem_cons.mp (I.stkSub b z)).elim hL hb) hc) (fun b o _ _ hc e n => u.any e n hc) (fun b o hc e n => u.free b o e n hc) (fun b o hc e => u.there b o e hc) u.tups u.frzs u.tbls (fun m' hm => by
    obtain ⟨o', es', ep', ho', r'⟩ := hm
    rw [ho] at ho'; cases ho'
    exact ⟨_, es', ep', hL, r'⟩) hok hg
theorem Inv.turned {t' : Nat} {it : Addr} (I : Inv X pins σ H s) (k : ∀ b o, b ≠ it → s.heap.get? b = some o → h'.get? b = some o) (hn : H it = none) (hL : it ≠ X.env.locals)
    (h1 : it ∈ X.ex ∨ X.s₀.heap.objs.size ≤ it) (h2 : ∀ x c, X.env.cells.lookup x = some c → c ≠ it) (h3 : ∀ p ∈ X.pn ++ pins, p.1 ≠ it) : Inv X pins σ H { s with heap := h', toks := t' } := by
  have nit : ∀ b u, H b = some u → b ≠ it := fun b u e z => by rw [z, hn] at e; cases e
  refine I.step (g' := s.gens) (d' := s.drawn) (ch := [it]) (fun b hb => ?_) (fun b o _ _ hc e _ => k b o (fun z => hc (by simp [z])) e) (fun b o _ _ hc e _ => ⟨o.slots, k b o (fun z => hc (by simp [z])) e⟩) (fun _ _ _ _ n => n)
    (fun b o hc e => ⟨o, k b o (fun z => hc (by simp [z])) e⟩) (fun _ _ e => e) (fun _ _ _ e => e) (fun b ps e => ⟨#[], by rw [e]; simp⟩) (fun m hm => ?_) (fun b u e => ?_) I.bare
  · have e : b = it := by simpa using hb
    subst e
    exact ⟨h1, hL, h2, h3⟩
  · obtain ⟨o, es, ep, ho, r⟩ := hm
    exact ⟨o, es, ep, k _ o (Ne.symm hL) ho, r⟩
  · refine (I.hok b u e).stay (fun c v hc q => k c v ?_ q) (fun _ q => q) fun _ _ q => q
    rcases hc with z | z
    · rw [z]; exact nit b u e
    · exact nit c _ z
theorem Inv.tok (I : Inv X pins σ H s) (t : Nat) : Inv X pins σ H { s with toks := t } := I.un (h' := s.heap) (t' := t) Un.refl I.hok
theorem Inv.kept {t' : Nat} (I : Inv X pins σ H s) (k : ∀ b u, s.heap.get? b = some u → h'.get? b = some u) : Inv X pins σ H { s with heap := h', toks := t' } := I.un (Un.kept k) (I.hok.kept k)
theorem Inv.laid {a : Addr} {o : HO} {t' : Nat} (I : Inv X pins σ H s) (k : ∀ b u, s.heap.get? b = some u → h'.get? b = some u) (hp : s.heap.objs.size ≤ a) (new : ObjOk X.prog X.w (upd H a o) h' a o) :
    Inv X pins σ (upd H a o) { s with heap := h', toks := t' } := I.un (Un.laid k hp (I.hok.fresh hp)) (I.hok.laid k hp new)
theorem Inv.write {x e : Addr} {o : HO} {t' : Nat} (I : Inv X pins σ H s) (mu : Mut (H x)) (he : e = x ∨ H e = some (.own x)) (k : ∀ b u, b ≠ e → s.heap.get? b = some u → h'.get? b = some u) (heo : ∃ u, h'.get? e = some u)
    (new : ObjOk X.prog X.w (upd H x o) h' x o) : Inv X pins σ (upd H x o) { s with heap := h', toks := t' } := I.un (Un.write mu he k heo) (I.hok.write mu he k heo new)
theorem Inv.pins_of {pins' : List (Addr × Obj)} (I : Inv X pins σ H s) (h : ∀ p ∈ pins', s.heap.get? p.1 = some p.2 ∧ H p.1 = none ∧ p.1 ≠ X.env.locals ∧ p.1 ∉ X.fs ∧ ∀ v, p.2.data ≠ .cell v) : Inv X pins' σ H s :=
  ⟨I.ok, I.os, I.bare, I.base, I.loc, I.cell, I.free, I.freeC, fun p hp => (List.mem_append.mp hp).elim (fun z => I.pin p (List.mem_append_left _ z)) (h p), I.hok, I.len⟩
theorem nodup_ix {N : List Str} (hN : N.Nodup) {i j : Nat} {x : Str} (a : N[i]? = some x) (b : N[j]? = some x) : i = j := by
  obtain ⟨h1, e1⟩ := List.getElem?_eq_some_iff.mp a
  obtain ⟨h2, e2⟩ := List.getElem?_eq_some_iff.mp b
  exact (List.getElem_inj hN).mp (e1.trans e2.symm)
theorem store_ok2 {M : Model} {A : Around} {E : Value → Shared → Prop} {i : Nat} {x : Str} {v : V} {u : Value} {Q : Unit → Shared → Prop} (I : Inv X pins σ H s) (hN : X.N.Nodup) (hi : X.N[i]? = some x) (hx : Loc X.env.scope x) (r : RelV v u)
    (h : ∀ s', Inv X pins (σ.set i (some v)) H s' → (∃ a, Heap.SameBut a s.heap s'.heap ∧ (a = X.env.locals ∨ X.env.cells.lookup x = some a)) → Q () s') (hf : X.fn x = true ∨ X.env.scope.names.lookup x = some .local := by first | exact .inl rfl | exact .inr rfl | assumption) : wpAny M A (storeName X.env x u) Q E s := by
  obtain ⟨m, hn, hl⟩ := id I.loc
  have hcls : (X.env.scope.kind == .class || (X.env.scope.kind == .module && X.env.locals != X.env.globals)) = false := by rw [I.ok.kind]; rfl
  have hiσ : i < σ.length := by rw [I.len]; exact (List.getElem?_eq_some_iff.mp hi).1
  have cne := I.cne
  have tracked : ∀ {a : Addr} {h' : Heap}, (∃ o, s.heap.get? a = some o ∧ H a = none) → Heap.SameBut a s.heap h' → HOk X.prog X.w H h' := fun {a h'} ha hs b ob e => by
    obtain ⟨_, _, hfree⟩ := ha
    refine (I.hok b ob e).stay (fun c w' hc q => (hs.2 c ?_).trans q) (fun _ q => q) fun _ _ q => q
    rintro rfl
    rcases hc with rfl | hc
    · rw [hfree] at e; cases e
    · rw [hfree] at hc; cases hc
  rcases hx with hk | hk
  · refine wpAny_storeName_local hk hn (fun h' hn' hs => ?_) hcls
    obtain ⟨oL, _, _, hoL, _⟩ := id hn
    refine h _ ⟨I.ok, I.os, I.bare, ⟨fun b o e n hb hx => ?_, fun b o e n hb hx => ?_, I.base.free, fun b o e hx => ?_, I.base.tups, I.base.frzs, I.base.tbls⟩, ⟨_, hn', fun j y v' e1 e2 e3 => ?_⟩, fun y c e => ?_, I.free, I.freeC, fun p hp => ?_, tracked ⟨oL, hoL, I.free⟩ hs, by simpa using I.len⟩ ⟨_, hs, .inl rfl⟩
    · exact (hs.2 b (Nat.ne_of_lt (Nat.lt_of_lt_of_le (Heap.lt_size e) I.ok.above))).trans (I.base.keep b o e n hb hx)
    · obtain ⟨sl, e1⟩ := I.base.slot b o e n hb hx
      exact ⟨sl, (hs.2 b (Nat.ne_of_lt (Nat.lt_of_lt_of_le (Heap.lt_size e) I.ok.above))).trans e1⟩
    · obtain ⟨o', e1⟩ := I.base.there b o e hx
      exact ⟨o', (hs.2 b (Nat.ne_of_lt (Nat.lt_of_lt_of_le (Heap.lt_size e) I.ok.above))).trans e1⟩
    · by_cases hj : j = i
      · subst hj
        rw [hi] at e1; cases e1
        rw [List.getElem?_set_self hiσ] at e2
        cases e2
        exact ⟨u, r, .inl ⟨hk, by simp⟩⟩
      · rw [List.getElem?_set_ne (Ne.symm hj)] at e2
        obtain ⟨u', r', q⟩ := hl j y v' e1 e2 e3
        refine ⟨u', r', ?_⟩
        rcases q with ⟨k, e⟩ | ⟨k, c, e, z⟩
        · refine .inl ⟨k, ?_⟩
          have : y ≠ x := fun e => hj (nodup_ix hN e1 (e ▸ hi))
          simp [this, e]
        · exact .inr ⟨k, c, e, z.sameBut hs (cne y c e)⟩
    · obtain ⟨w', z⟩ := I.cell y c e
      exact ⟨w', z.sameBut hs (cne y c e)⟩
    · obtain ⟨e, n, ne, nf, d⟩ := I.pin p hp
      exact ⟨(hs.2 p.1 ne).trans e, n, ne, nf, d⟩
  · have hfn : X.fn x = true := by
      rcases hf with z | z
      · exact z
      · rw [z] at hk; cases hk
    obtain ⟨c, hc⟩ := I.ok.has x (.inl hk)
    obtain ⟨w', z⟩ := I.cell x c hc
    refine wpAny_storeName_cell I.ok.kind hk hc z (fun h' hc' hs => ?_)
    obtain ⟨oc, hoc, hocd⟩ := id z
    refine h { s with heap := h' } ⟨I.ok, I.os, I.bare, ⟨fun b o e n hb hx => ?_, fun b o e n hb hx => ?_, I.base.free, fun b o e hx => ?_, I.base.tups, I.base.frzs, I.base.tbls⟩, ⟨m, hn.sameBut hs (Ne.symm (cne x c hc)), fun j y v' e1 e2 e3 => ?_⟩, fun y c' e => ?_, I.free, I.freeC, fun p hp => ?_, tracked ⟨oc, hoc, I.freeC x c hc⟩ hs, by simpa using I.len⟩ ⟨c, hs, .inr hc⟩
    · exact (hs.2 b (Nat.ne_of_lt (Nat.lt_of_lt_of_le (Heap.lt_size e) (I.ok.cab x c hfn hc)))).trans (I.base.keep b o e n hb hx)
    · obtain ⟨sl, e1⟩ := I.base.slot b o e n hb hx
      exact ⟨sl, (hs.2 b (Nat.ne_of_lt (Nat.lt_of_lt_of_le (Heap.lt_size e) (I.ok.cab x c hfn hc)))).trans e1⟩
    · obtain ⟨o', e1⟩ := I.base.there b o e hx
      exact ⟨o', (hs.2 b (Nat.ne_of_lt (Nat.lt_of_lt_of_le (Heap.lt_size e) (I.ok.cab x c hfn hc)))).trans e1⟩
    · by_cases hj : j = i
      · subst hj
        rw [hi] at e1; cases e1
        rw [List.getElem?_set_self hiσ] at e2
        cases e2
        exact ⟨u, r, .inr ⟨.inl hk, c, hc, hc'⟩⟩
      · rw [List.getElem?_set_ne (Ne.symm hj)] at e2
        obtain ⟨u', r', q⟩ := hl j y v' e1 e2 e3
        refine ⟨u', r', ?_⟩
        rcases q with q | ⟨k, c', e, z'⟩
        · exact .inl q
        · refine .inr ⟨k, c', e, z'.sameBut hs ?_⟩
          rintro rfl
          exact hj (nodup_ix hN e1 (I.ok.inj _ _ _ e hc ▸ hi))
    · by_cases hcc : c' = c
      · subst hcc; exact ⟨_, hc'⟩
      · obtain ⟨w2, z2⟩ := I.cell y c' e
        exact ⟨w2, z2.sameBut hs hcc⟩
    · obtain ⟨e, n, ne, nf, d⟩ := I.pin p hp
      refine ⟨(hs.2 p.1 ?_).trans e, n, ne, nf, d⟩
      intro q
      rw [q, hoc] at e
      have q' : oc = p.2 := Option.some.inj e
      exact d w' (by rw [← q']; exact hocd)
theorem store_ok {M : Model} {A : Around} {E : Value → Shared → Prop} {i : Nat} {x : Str} {v : V} {u : Value} {Q : Unit → Shared → Prop} (I : Inv X pins σ H s) (hN : X.N.Nodup) (hi : X.N[i]? = some x) (hx : Loc X.env.scope x) (r : RelV v u)
    (h : ∀ s', Inv X pins (σ.set i (some v)) H s' → Q () s') (hf : X.fn x = true ∨ X.env.scope.names.lookup x = some .local := by first | exact .inl rfl | exact .inr rfl | assumption) : wpAny M A (storeName X.env x u) Q E s :=
  store_ok2 I hN hi hx r (fun s' I' _ => h s' I') hf
theorem Inv.call' {s' : Shared} {ch : List Addr} (I : Inv X pins σ H s) (ho : s'.os = s.os) (u : Un (frs X.stack) ch H H' s.heap s'.heap) (hok : HOk X.prog X.w H' s'.heap) (hg : AllBare s'.gens)
    (hch : ∀ b ∈ ch, (b ∈ X.ex ∨ X.s₀.heap.objs.size ≤ b) ∧ b ≠ X.env.locals ∧ (∀ x c, X.env.cells.lookup x = some c → c ≠ b) ∧ ∀ p ∈ X.pn ++ pins, p.1 ≠ b) : Inv X pins σ H' s' := by
  obtain ⟨h', g', d', t', o'⟩ := s'
  have e : o' = s.os := ho
  subst e
  exact I.call (g' := g') (t' := t') (d' := d') u hok hg hch
end
abbrev XK := Value → Option Addr → Hp → Prop
abbrev St := List (Option V)
abbrev VK := V → Hp → Prop
abbrev TE := St → Hp → VK → Prop
abbrev TT := St → Hp → (Bool → Hp → Prop) → Prop
abbrev TA := St → Hp → (List V → Hp → Prop) → Prop
structure Ends where
  nx : St → Hp → Prop
  rt : VK
  bk : St → Hp → Prop := fun _ _ => False
  ct : St → Hp → Prop := fun _ _ => False
abbrev TS := Ends → St → Hp → Prop
def EP (X : Cx) (pins : List (Addr × Obj)) (σ : St) (Q : VK) (u : Value) (s' : Shared) : Prop := ∃ v H', Inv X pins σ H' s' ∧ RelV v u ∧ Q v H'
def TP (X : Cx) (pins : List (Addr × Obj)) (σ : St) (Q : Bool → Hp → Prop) (b : Bool) (s' : Shared) : Prop := ∃ H', Inv X pins σ H' s' ∧ Q b H'
def AP (X : Cx) (pins : List (Addr × Obj)) (σ : St) (Q : List V → Hp → Prop) (us : List Value) (s' : Shared) : Prop := ∃ vs H', Inv X pins σ H' s' ∧ Vals vs us ∧ Q vs H'
def SP (X : Cx) (pins : List (Addr × Obj)) (D : Ends) (f : Flow) (s' : Shared) : Prop :=
  match f with
  | .next => ∃ σ' H', Inv X pins σ' H' s' ∧ D.nx σ' H'
  | .brk => ∃ σ' H', Inv X pins σ' H' s' ∧ D.bk σ' H'
  | .cont => ∃ σ' H', Inv X pins σ' H' s' ∧ D.ct σ' H'
  | .ret u => ∃ v σ' H', Inv X pins σ' H' s' ∧ RelV v u ∧ D.rt v H'
def PE (X : Cx) (e : Expr) (t : TE) : Prop :=
  ∀ (pins : List (Addr × Obj)) (s : Shared) (σ : St) (H : Hp) (Q : VK), Inv X pins σ H s → t σ H Q → wpAny (model X.prog X.w) X.A (eval e X.env) (EP X pins σ Q) X.xe s
def PT (X : Cx) (e : Expr) (t : TT) : Prop :=
  ∀ (pins : List (Addr × Obj)) (s : Shared) (σ : St) (H : Hp) (Q : Bool → Hp → Prop), Inv X pins σ H s → t σ H Q → wpAny (model X.prog X.w) X.A (isTrue e X.env (eval e X.env)) (TP X pins σ Q) X.xe s
def PW (X : Cx) (e : Expr) (t : TT) : Prop :=
  ∀ (whole : Sem Value) (pins : List (Addr × Obj)) (s : Shared) (σ : St) (H : Hp) (Q : Bool → Hp → Prop), Inv X pins σ H s → t σ H Q → wpAny (model X.prog X.w) X.A (isTrue e X.env whole) (TP X pins σ Q) X.xe s
theorem PW.pt {X : Cx} {e : Expr} {t : TT} (h : PW X e t) : PT X e t := h _
def PA (X : Cx) (es : List Expr) (t : TA) : Prop :=
  ∀ (pos : Pos) (pins : List (Addr × Obj)) (s : Shared) (σ : St) (H : Hp) (Q : List V → Hp → Prop), Inv X pins σ H s → t σ H Q → wpAny (model X.prog X.w) X.A (spliced (backTo pos (starEach es X.env))) (AP X pins σ Q) X.xe s
def PS (X : Cx) (st : Stmt) (t : TS) : Prop :=
  ∀ (pins : List (Addr × Obj)) (s : Shared) (σ : St) (H : Hp) (D : Ends), Inv X pins σ H s → t D σ H → wpAny (model X.prog X.w) X.A (exec st X.env) (SP X pins D) X.xe s
def PSs (X : Cx) (st : List Stmt) (t : TS) : Prop :=
  ∀ (pins : List (Addr × Obj)) (s : Shared) (σ : St) (H : Hp) (D : Ends), Inv X pins σ H s → t D σ H → wpAny (model X.prog X.w) X.A (execs st X.env) (SP X pins D) X.xe s
theorem thn {α : Type} {t : Sem α} {Q Q' : α → Shared → Prop} {M : Model} {A : Around} {E : Value → Shared → Prop} {s : Shared} (h : wpAny M A t Q E s) (hQ : ∀ a s, Q a s → Q' a s) : wpAny M A t Q' E s := wpAny_mono h hQ fun _ _ x => x
end L2
namespace L2
open PySem PySem.Spec PyProof.Rows
section
variable {X : Cx}
def tVar (i : Nat) : TE := fun σ H Q => ∃ v, σ[i]? = some (some v) ∧ Q v H
def tC (v : V) : TE := fun _ H Q => Q v H
theorem pe_var {i : Nat} {x : Str} {pos : Pos} (hN : X.N[i]? = some x) (hv : Vis X.env.scope x) (hd : (x == ("__debug__" : Str)) = false := by decide) (hcd : (x == ("__classdict__" : Str)) = false := by decide) : PE X (.Name x pos) (tVar i) := by
  intro pins s σ H Q I h
  obtain ⟨v, e, h⟩ := h
  obtain ⟨m, hn, hl⟩ := I.loc
  obtain ⟨u, r, l⟩ := hl i x v hN e hv
  have fin : EP X pins σ Q u s := ⟨v, H, I, r, h⟩
  rcases l with ⟨hk, hm⟩ | ⟨hk, c, hc, hcell⟩
  · exact wpAny_Name (wpAny_loadName_local I.ok.kind hk hn hm fin) hd
  · rcases hk with hk | hk
    · exact wpAny_Name (wpAny_loadName_cell I.ok.kind hk hc hcell fin) hd
    · exact wpAny_Name (wpAny_loadName_free I.ok.kind hk hc hcell fin hcd) hd
theorem pe_int {i j pos} : PE X (.Constant (.int i) j pos) (tC (.int i)) := fun _ _ _ H _ I h => wpAny_Constant_int ⟨.int i, H, I.tok _, ⟨_, rfl⟩, h⟩
theorem pe_bl {b j pos} : PE X (.Constant (.bool b) j pos) (tC (.bl b)) := fun _ _ _ H _ I h => Constant_bool ⟨.bl b, H, I, rfl, h⟩
def Gl (X : Cx) (x : Str) : Prop := X.env.kindOf x = some .globalImplicit
theorem ld_glob {E : Value → Shared → Prop} {pins : List (Addr × Obj)} {s : Shared} {σ : St} {H : Hp} {x : Str} {u : Value} {pos : Pos} {Q : Value → Shared → Prop} (I : Inv X pins σ H s) (hg : Gl X x) (hm : X.mg x = some u) (h : Q u s)
    (hd : (x == ("__debug__" : Str)) = false := by decide) : wpAny (model X.prog X.w) X.A (eval (.Name x pos) X.env) Q E s :=
  Calls.Name_function_global I.ok.kind hg (Calls.loadGlobal_global (by rw [I.ok.glob]; exact I.mod.glob.keeps I.bk) hm h) hd
theorem ld_blt {E : Value → Shared → Prop} {pins : List (Addr × Obj)} {s : Shared} {σ : St} {H : Hp} {x : Str} {u : Value} {pos : Pos} {Q : Value → Shared → Prop} (I : Inv X pins σ H s) (hg : Gl X x) (hm : X.mg x = none) (hv : bootBuiltins x = some u) (h : Q u s)
    (hn : x ≠ "__name__" := by decide) (hd : (x == ("__debug__" : Str)) = false := by decide) : wpAny (model X.prog X.w) X.A (eval (.Name x pos) X.env) Q E s := by
  obtain ⟨mb, h1, h2⟩ := I.mod.blt
  exact Calls.Name_function_global I.ok.kind hg (Calls.loadGlobal_builtin (by rw [I.ok.glob]; exact I.mod.glob.keeps I.bk) hm (by rw [I.ok.blt]; exact h1.keeps I.bk) ((h2 x hn).trans hv) h) hd
theorem pe_bltn {x : Str} {v : V} {u : Value} {pos : Pos} (hg : Gl X x) (hm : X.mg x = none) (hv : bootBuiltins x = some u) (r : RelV v u) (hn : x ≠ "__name__" := by decide) (hd : (x == ("__debug__" : Str)) = false := by decide) : PE X (.Name x pos) (tC v) :=
  fun _ _ _ H _ I h => ld_blt I hg hm hv ⟨v, H, I, r, h⟩ hn hd
variable {a b : Expr} {ta tb : TE} {pos : Pos}
def PC (X : Cx) (op : CmpOp) (a b : Expr) (t : TE) : Prop :=
  ∀ (pins : List (Addr × Obj)) (s : Shared) (σ : St) (H : Hp) (Q : VK), Inv X pins σ H s → t σ H Q →
    wpAny (model X.prog X.w) X.A (eval a X.env) (fun v s₁ => wpAny (model X.prog X.w) X.A (eval b X.env) (fun u s₂ => wpAny (model X.prog X.w) X.A (compareOp op v u) (EP X pins σ Q) X.xe s₂) X.xe s₁) X.xe s
theorem nobehind (b : Expr) {op : CmpOp} (h : op ≠ .In) (h2 : op ≠ .NotIn) : behindInMarks op b = false := by
  have e1 : (op == CmpOp.In) = false := by cases op <;> first | rfl | exact absurd rfl h
  have e2 : (op == CmpOp.NotIn) = false := by cases op <;> first | rfl | exact absurd rfl h2
  cases b <;> simp [behindInMarks, e1, e2]
def tB (t : TE) : TT := fun σ H Q => t σ H fun x H1 => ∃ c, x = .bl c ∧ Q c H1
theorem pt_cmp {op : CmpOp} {t : TE} (h : PC X op a b t) (h1 : behindInMarks op b = false := by first | exact nobehind _ (by decide) (by decide) | rfl) : PT X (.Compare a [op] [b] pos) (tB t) := by
  intro pins s σ H Q I hw
  refine wpAny_isTrue_Compare1 (thn (h pins s σ H _ I hw) fun v s1 h1 => thn h1 fun u s2 h2 => thn h2 fun c s3 ⟨x, H1, I1, r1, q1⟩ => ?_) h1
  obtain ⟨d, rfl, q⟩ := q1
  cases r1
  exact wpAny_truthy_bool ⟨H1, I1, q⟩
theorem pt_val {e : Expr} {t : TE} (h : PE X e t) (he : ∀ whole, isTrue e X.env whole = (do let v ← whole; standAt e.pos; holding [v] (truthy v)) := by intro _; rfl) : PT X e (tB t) := by
  intro pins s σ H Q I hw
  refine isTrue_plain (thn (h pins s σ H _ I hw) fun v s1 ⟨x, H1, I1, r1, q1⟩ => ?_) (he _)
  obtain ⟨d, rfl, q⟩ := q1
  cases r1
  exact wpAny_truthy_bool ⟨H1, I1, q⟩
variable {tA tB' : TT} {rest : List Expr}
def tAnd (t u : TT) : TT := fun σ H Q => t σ H fun c H1 => if c = true then u σ H1 Q else Q false H1
def tOr (t u : TT) : TT := fun σ H Q => t σ H fun c H1 => if c = true then Q true H1 else u σ H1 Q
def tNot (t : TT) : TT := fun σ H Q => t σ H fun c H1 => Q (!c) H1
theorem pw_and1 (ha : PT X a tA) : PW X (.BoolOp .And [a] pos) tA := by
  intro wh pins s σ H Q I h
  refine isTrue_and (thn (ha pins s σ H Q I h) fun c s1 e => ?_)
  cases c with
  | true => exact isTrue_and_nil e
  | false => exact e
theorem pw_or1 (ha : PT X a tA) : PW X (.BoolOp .Or [a] pos) tA := by
  intro wh pins s σ H Q I h
  refine isTrue_or (thn (ha pins s σ H Q I h) fun c s1 e => ?_)
  cases c with
  | false => exact isTrue_or_nil e
  | true => exact e
theorem pw_and (ha : PT X a tA) (hb : PW X (.BoolOp .And (b :: rest) pos) tB') : PW X (.BoolOp .And (a :: b :: rest) pos) (tAnd tA tB') := by
  intro wh pins s σ H Q I h
  refine isTrue_and (thn (ha pins s σ H _ I h) fun c s1 ⟨H1, I1, q1⟩ => ?_)
  cases c with
  | true => exact hb wh pins s1 σ H1 Q I1 q1
  | false => exact ⟨H1, I1, q1⟩
theorem pw_or (ha : PT X a tA) (hb : PW X (.BoolOp .Or (b :: rest) pos) tB') : PW X (.BoolOp .Or (a :: b :: rest) pos) (tOr tA tB') := by
  intro wh pins s σ H Q I h
  refine isTrue_or (thn (ha pins s σ H _ I h) fun c s1 ⟨H1, I1, q1⟩ => ?_)
  cases c with
  | true => exact ⟨H1, I1, q1⟩
  | false => exact hb wh pins s1 σ H1 Q I1 q1
theorem pt_not (ha : PT X a tA) : PT X (.UnaryOp .Not a pos) (tNot tA) := by
  intro pins s σ H Q I h
  exact isTrue_not (ha pins s σ H (fun c H1 => Q (!c) H1) I h)
def tAndV (ta tb : TE) : TE := fun σ H Q => ta σ H fun x H1 => ∃ c, x = .bl c ∧ if c = true then tb σ H1 Q else Q (.bl false) H1
def tOrV (ta tb : TE) : TE := fun σ H Q => ta σ H fun x H1 => ∃ c, x = .bl c ∧ if c = true then Q (.bl true) H1 else tb σ H1 Q
def tNotV (ta : TE) : TE := fun σ H Q => ta σ H fun x H1 => ∃ c, x = .bl c ∧ Q (.bl (!c)) H1
theorem pe_one {op} {t : TE} (h : PE X a t) : PE X (.BoolOp op [a] pos) t := fun pins s σ H Q I hw => BoolOp_one (h pins s σ H Q I hw)
theorem pe_and (ha : PE X a ta) (hb : PE X (.BoolOp .And (b :: rest) pos) tb) : PE X (.BoolOp .And (a :: b :: rest) pos) (tAndV ta tb) := by
  intro pins s σ H Q I h
  refine BoolOp_and (thn (ha pins s σ H _ I h) fun v s1 ⟨x, H1, I1, r1, q1⟩ => ?_)
  obtain ⟨c, rfl, q1⟩ := q1
  cases r1
  refine wpAny_truthy_bool ?_
  cases c with
  | true => exact hb pins s1 σ H1 Q I1 q1
  | false => exact ⟨.bl false, H1, I1, rfl, q1⟩
theorem pe_or (ha : PE X a ta) (hb : PE X (.BoolOp .Or (b :: rest) pos) tb) : PE X (.BoolOp .Or (a :: b :: rest) pos) (tOrV ta tb) := by
  intro pins s σ H Q I h
  refine BoolOp_or (thn (ha pins s σ H _ I h) fun v s1 ⟨x, H1, I1, r1, q1⟩ => ?_)
  obtain ⟨c, rfl, q1⟩ := q1
  cases r1
  refine wpAny_truthy_bool ?_
  cases c with
  | false => exact hb pins s1 σ H1 Q I1 q1
  | true => exact ⟨.bl true, H1, I1, rfl, q1⟩
theorem pe_not (ha : PE X a ta) : PE X (.UnaryOp .Not a pos) (tNotV ta) := by
  intro pins s σ H Q I h
  refine UnaryOp_ (thn (ha pins s σ H _ I h) fun v s1 ⟨x, H1, I1, r1, q1⟩ => ?_)
  obtain ⟨c, rfl, q1⟩ := q1
  cases r1
  exact not_of (wpAny_truthy_bool ⟨.bl (!c), H1, I1, rfl, q1⟩)
end
end L2
namespace L2
open PySem PySem.Spec PyProof.Rows
def SqL (K : PySem.W.Frag) (H : Hp) (a : Addr) (xs : List V) : Prop :=
  Rd H a (.lst xs) ∨
    ∃ (o : Obj) (its : Array Value) (n : Nat), K.lookup a = some o ∧ o.cls = .type "list" ∧ o.dict = none ∧ o.data = .seq its n ∧ its.size ≤ sizeLine ∧ Vals xs its.toList
def SqT (K : PySem.W.Frag) (H : Hp) (a : Addr) (xs : List V) : Prop :=
  Rd H a (.tup xs) ∨
    ∃ (o : Obj) (its : Array Value) (n : Nat), K.lookup a = some o ∧ o.cls = .type "tuple" ∧ o.data = .seq its n ∧ its.size ≤ sizeLine ∧ Vals xs its.toList
def absV : Value → Option V
  | .none => some .non
  | .bool b => some (.bl b)
  | .int i _ => some (.int i)
  | .str x _ => some (.str x)
  | .bytes b _ => some (.byt b)
  | .float b _ => some (.flt b)
  | .ref a => some (.ref a)
  | .type n => some (.ty n)
  | _ => none
theorem RelV.abs {x : V} {u : Value} (r : RelV x u) : absV u = some x := by
  cases x with
  | non => cases r; rfl
  | bl _ => cases r; rfl
  | int _ => obtain ⟨t, rfl⟩ := r; rfl
  | str _ => obtain ⟨t, rfl⟩ := r; rfl
  | byt _ => obtain ⟨t, rfl⟩ := r; rfl
  | flt _ => obtain ⟨t, rfl⟩ := r; rfl
  | ref _ => cases r; rfl
  | ty _ => cases r; rfl
theorem RelV.inj {x y : V} {u : Value} (r : RelV x u) (q : RelV y u) : x = y := Option.some.inj (r.abs.symm.trans q.abs)
theorem Vals.inj : ∀ {xs ys : List V} {us : List Value}, Vals xs us → Vals ys us → xs = ys
  | _, _, _, .nil, .nil => rfl
  | _, _, _, .cons r t, .cons r' t' => by rw [r.inj r', Vals.inj t t']
section
variable {X : Cx} {pins : List (Addr × Obj)} {σ : St} {H : Hp} {s : Shared} {a : Addr} {xs ys : List V}
theorem SqL.of {K : PySem.W.Frag} (h : H a = some (.lst xs)) : SqL K H a xs := .inl (.inl h)
theorem SqT.of {K : PySem.W.Frag} (h : H a = some (.tup xs)) : SqT K H a xs := .inl (.inl h)
theorem Inv.list (I : Inv X pins σ H s) (h : SqL X.K H a xs) : ∃ its : List Value, Vals xs its ∧ PlainL s.heap a its.toArray ∧ xs.length ≤ sizeLine := by
  rcases h with h | ⟨o, its, n, hk, hc, hd, hs, hz, r⟩
  · obtain ⟨z, its, n, r, e⟩ := h.ok I.hok
    exact ⟨its, r, ⟨_, n, e, rfl, rfl, rfl⟩, z⟩
  · refine ⟨its.toList, r, ⟨o, n, I.kIn a o hk, hc, hd, by simpa using hs⟩, ?_⟩
    have e := r.length
    simp only [Array.length_toList] at e
    omega
theorem Inv.tuple (I : Inv X pins σ H s) (h : SqT X.K H a xs) : ∃ its : List Value, Vals xs its ∧ IsTup s.heap a its.toArray ∧ xs.length ≤ sizeLine := by
  rcases h with h | ⟨o, its, n, hk, hc, hs, hz, r⟩
  · obtain ⟨z, its, r, p⟩ := h.ok I.hok
    exact ⟨its, r, p, z⟩
  · refine ⟨its.toList, r, ⟨o, I.kIn a o hk, hc, n, by simpa using hs⟩, ?_⟩
    have e := r.length
    simp only [Array.length_toList] at e
    omega
theorem Inv.list_inj (I : Inv X pins σ H s) (h : SqL X.K H a xs) (h' : SqL X.K H a ys) : xs = ys := by
  obtain ⟨its, r, ⟨o, n, e, _, _, d⟩, _⟩ := I.list h
  obtain ⟨its', r', ⟨o', n', e', _, _, d'⟩, _⟩ := I.list h'
  rw [e] at e'; cases e'
  rw [d] at d'
  injection d' with d1 _
  have : its = its' := by simpa using congrArg Array.toList d1
  subst this
  exact r.inj r'
theorem Inv.tuple_inj (I : Inv X pins σ H s) (h : SqT X.K H a xs) (h' : SqT X.K H a ys) : xs = ys := by
  obtain ⟨its, r, ⟨o, e, _, n, d⟩, _⟩ := I.tuple h
  obtain ⟨its', r', ⟨o', e', _, n', d'⟩, _⟩ := I.tuple h'
  rw [e] at e'; cases e'
  rw [d] at d'
  injection d' with d1 _
  have : its = its' := by simpa using congrArg Array.toList d1
  subst this
  exact r.inj r'
end
abbrev Cx.wish (X : Cx) (E : Value → Shared → Prop) : Cx := { X with xe := E }
abbrev Cx.nox (X : Cx) : Cx := X.wish fun _ _ => False
theorem Cx.Ok.wish {X : Cx} (ok : X.Ok) (E : Value → Shared → Prop) : (X.wish E).Ok :=
  ⟨ok.mod, ok.kind, ok.glob, ok.blt, ok.above, ok.inj, ok.has, ok.cab, ok.hd, ok.frames, ok.stk, ok.exf, ok.bs, ok.bsz, ok.noex, ok.exfs, ok.funs, ok.frf⟩
theorem Cx.Ok.unwish {X : Cx} {E : Value → Shared → Prop} (ok : (X.wish E).Ok) : X.Ok :=
  ⟨ok.mod, ok.kind, ok.glob, ok.blt, ok.above, ok.inj, ok.has, ok.cab, ok.hd, ok.frames, ok.stk, ok.exf, ok.bs, ok.bsz, ok.noex, ok.exfs, ok.funs, ok.frf⟩
section
variable {X : Cx} {pins : List (Addr × Obj)} {σ : St} {H : Hp} {s : Shared} {E : Value → Shared → Prop}
theorem Inv.wish (I : Inv X pins σ H s) (E : Value → Shared → Prop) : Inv (X.wish E) pins σ H s := ⟨I.ok.wish E, I.os, I.bare, I.base, I.loc, I.cell, I.free, I.freeC, I.pin, I.hok, I.len⟩
theorem Inv.unwish (I : Inv (X.wish E) pins σ H s) : Inv X pins σ H s := ⟨I.ok.unwish, I.os, I.bare, I.base, I.loc, I.cell, I.free, I.freeC, I.pin, I.hok, I.len⟩
theorem SP.unwish {D : Ends} {f : Flow} {s' : Shared} (h : SP (X.wish E) pins D f s') : SP X pins D f s' := by
  cases f with
  | next => obtain ⟨σ', H', I, q⟩ := h; exact ⟨σ', H', I.unwish, q⟩
  | brk => obtain ⟨σ', H', I, q⟩ := h; exact ⟨σ', H', I.unwish, q⟩
  | cont => obtain ⟨σ', H', I, q⟩ := h; exact ⟨σ', H', I.unwish, q⟩
  | ret u => obtain ⟨v, σ', H', I, r, q⟩ := h; exact ⟨v, σ', H', I.unwish, r, q⟩
theorem PE.nox {e : Expr} {t : TE} (h : PE X.nox e t) : PE X e t := fun pins s σ H Q I hw =>
  wpAny_mono (h pins s σ H Q (I.wish _) hw) (fun _ _ ⟨v, H', I', r, q⟩ => ⟨v, H', I'.unwish, r, q⟩) fun _ _ z => False.elim z
theorem PT.nox {e : Expr} {t : TT} (h : PT X.nox e t) : PT X e t := fun pins s σ H Q I hw =>
  wpAny_mono (h pins s σ H Q (I.wish _) hw) (fun _ _ ⟨H', I', q⟩ => ⟨H', I'.unwish, q⟩) fun _ _ z => False.elim z
theorem PSs.nox {st : List Stmt} {t : TS} (h : PSs X.nox st t) : PSs X st t := fun pins s σ H D I hw =>
  wpAny_mono (h pins s σ H D (I.wish _) hw) (fun _ _ q => q.unwish) fun _ _ z => False.elim z
end
section
variable {X : Cx} {st : Stmt} {rest : List Stmt} {t u : TS} {e : Expr} {te : TE} {pos : Pos}
def tNext : TS := fun D σ H => D.nx σ H
def tSeq (t u : TS) : TS := fun D σ H => t { D with nx := u D } σ H
theorem pss_nil : PSs X [] tNext := fun _ _ σ H _ I h => wpAny_execs_nil ⟨σ, H, I, h⟩
theorem pss_cons (h1 : PS X st t) (h2 : PSs X rest u) : PSs X (st :: rest) (tSeq t u) := by
  intro pins s σ H D I h
  refine wpAny_execs_cons (thn (h1 pins s σ H { D with nx := u D } I h) fun f s1 q => ?_)
  cases f with
  | next =>
    obtain ⟨σ', H', I', q⟩ := q
    exact h2 pins s1 σ' H' D I' q
  | ret v => exact q
  | brk => exact q
  | cont => exact q
theorem pss_one (h1 : PS X st t) : PSs X [st] t := by
  intro pins s σ H D I h
  refine wpAny_execs_cons (thn (h1 pins s σ H D I h) fun f s1 q => ?_)
  cases f with
  | next => exact wpAny_execs_nil q
  | ret v => exact q
  | brk => exact q
  | cont => exact q
theorem Inv.quiet {pins : List (Addr × Obj)} {σ : St} {H : Hp} {s : Shared} (I : Inv X pins σ H s) : interactive X.env = false := by simp [interactive, I.ok.kind]
def tDrop (te : TE) : TS := fun D σ H => te σ H fun _ H1 => D.nx σ H1
theorem ps_expr (he : PE X e te) (hs : swapsWith e none pos.line X.env = pure false := by rfl) : PS X (.Expr e pos) (tDrop te) := by
  intro pins s σ H D I h
  exact wpAny_Expr_any (thn (he pins s σ H _ I h) fun v s1 ⟨x, H1, I1, r1, q1⟩ => ⟨σ, H1, I1, q1⟩) I.quiet hs
def tRet (te : TE) : TS := fun D σ H => te σ H D.rt
theorem ps_ret (he : PE X e te) : PS X (.Return (some e) pos) (tRet te) := by
  intro pins s σ H D I h
  exact wpAny_Return_some (thn (he pins s σ H _ I h) fun v s1 ⟨x, H1, I1, r1, q1⟩ => ⟨x, σ, H1, I1, r1, q1⟩)
def tIfS (c : TT) (t u : TS) : TS := fun D σ H => c σ H fun b H1 => if b = true then t D σ H1 else u D σ H1
theorem ps_if {c : Expr} {a b : List Stmt} {tc : TT} (hc : PT X c tc) (ha : PSs X a t) (hb : PSs X b u) : PS X (.If c a b pos) (tIfS tc t u) := by
  intro pins s σ H D I h
  refine wpAny_If (thn (hc pins s σ H _ I h) fun d s1 ⟨H1, I1, q1⟩ => ?_)
  cases d with
  | true => exact ha pins s1 σ H1 D I1 q1
  | false => exact hb pins s1 σ H1 D I1 q1
end
abbrev TG := V → St → Hp → (St → Hp → Prop) → Prop
abbrev TGs := List V → St → Hp → (St → Hp → Prop) → Prop
def PG (X : Cx) (target : Expr) (t : TG) : Prop :=
  ∀ (pins : List (Addr × Obj)) (s : Shared) (σ : St) (H : Hp) (v : V) (u : Value) (Q : St → Hp → Prop), Inv X pins σ H s → RelV v u → t v σ H Q →
    wpAny (model X.prog X.w) X.A (assign target X.env u) (fun _ s' => ∃ σ' H', Inv X pins σ' H' s' ∧ Q σ' H') X.xe s
def PGs (X : Cx) (ts : List Expr) (t : TGs) : Prop :=
  ∀ (pins : List (Addr × Obj)) (s : Shared) (σ : St) (H : Hp) (vs : List V) (us : List Value) (Q : St → Hp → Prop), Inv X pins σ H s → Vals vs us → t vs σ H Q →
    wpAny (model X.prog X.w) X.A (assignInOrder ((assignEach ts X.env).map (·.2)) us) (fun _ s' => ∃ σ' H', Inv X pins σ' H' s' ∧ Q σ' H') X.xe s
abbrev TSet := V → V → V → Hp → (Hp → Prop) → Prop
def PSet (X : Cx) (t : TSet) : Prop :=
  ∀ (pins : List (Addr × Obj)) (s : Shared) (σ : St) (H : Hp) (o i v : V) (ov iv u : Value) (Q : Hp → Prop), Inv X pins σ H s → RelV o ov → RelV i iv → RelV v u → t o i v H Q →
    wpAny (model X.prog X.w) X.A (setItem ov iv u) (fun _ s' => ∃ H', Inv X pins σ H' s' ∧ Q H') X.xe s
section
variable {X : Cx} {pos : Pos}
def gName (i : Nat) : TG := fun v σ H Q => Q (σ.set i (some v)) H
theorem pg_name {i : Nat} {x : Str} (hN : X.N.Nodup) (hi : X.N[i]? = some x) (hx : Loc X.env.scope x) (hf : X.fn x = true ∨ X.env.scope.names.lookup x = some .local := by first | exact .inl rfl | exact .inr rfl | assumption) : PG X (.Name x pos) (gName i) := by
  intro pins s σ H v u Q I r h
  exact wpAny_assign_Name (store_ok I hN hi hx r (fun s' I' => ⟨_, H, I', h⟩) hf)
def gNil : TGs := fun vs σ H Q => vs = [] ∧ Q σ H
def gCons (t : TG) (u : TGs) : TGs := fun vs σ H Q => ∃ v r, vs = v :: r ∧ t v σ H fun σ' H' => u r σ' H' Q
theorem pgs_nil : PGs X [] gNil := by
  intro pins s σ H vs us Q I r h
  obtain ⟨e, h⟩ := h
  subst e
  cases r
  exact assignInOrder_nil ⟨σ, H, I, h⟩
theorem pgs_cons {e : Expr} {es : List Expr} {t : TG} {u : TGs} (h1 : PG X e t) (h2 : PGs X es u)
    (hs : (assignEach (e :: es) X.env).map (·.2) = assign e X.env :: (assignEach es X.env).map (·.2) := by rfl) : PGs X (e :: es) (gCons t u) := by
  intro pins s σ H vs us Q I r h
  obtain ⟨v, vr, e1, h⟩ := h
  subst e1
  cases r with
  | cons r rr =>
    rw [hs]
    refine assignInOrder_cons (thn (h1 pins s σ H _ _ _ I r h) fun _ s1 ⟨σ1, H1, I1, q1⟩ => ?_)
    exact h2 pins s1 σ1 H1 _ _ Q I1 rr q1
def gTup (K : PySem.W.Frag) (n : Nat) (t : TGs) : TG := fun v σ H Q => ∃ a xs, v = .ref a ∧ SqT K H a xs ∧ xs.length = n ∧ t xs σ H Q
theorem pg_tup {es : List Expr} {k : Nat} {t : TGs} {n : Nat} (hc : X.calm = true) (h : PGs X es t)
    (hn : (assignEach es X.env).length = n := by rfl) (hst : (assignEach es X.env).findIdx? (·.1) = none := by rfl) : PG X (.Tuple es k pos) (gTup X.K n t) := by
  intro pins s σ H v u Q I r hw
  obtain ⟨a, xs, e1, hq, hl, hw⟩ := hw
  subst e1
  cases r
  obtain ⟨its, rv, ht, hz⟩ := I.tuple hq
  refine assign_Tuple_tuple (I.ok.hd hc) ht (by simp [hn, ← hl, rv.length]) hst fun h' hx => ?_
  have I1 : Inv X pins σ H { s with heap := h' } := I.kept (t' := s.toks) fun b o e => hx b o (Nat.ne_of_lt (Heap.lt_size e)) e
  exact h pins _ σ H xs _ Q I1 (by simpa using rv) hw
def gSub (to ti : TE) (t : TSet) : TG := fun v σ H Q => to σ H fun o H1 => ti σ H1 fun i H2 => t o i v H2 fun H3 => Q σ H3
theorem pg_sub {o i : Expr} {to ti : TE} {t : TSet} (ho : PE X o to) (hi : PE X i ti) (hs : PSet X t)
    (ha : ∀ v, assign (.Subscript o i pos) X.env v = (do
      let ov ← holding [v] (eval o X.env)
      let iv ← holding [v, ov] (eval i X.env)
      standAt pos
      holding [v, ov, iv] (setItem ov iv v)
      release [v, ov, iv] []) := by intro _; rfl) : PG X (.Subscript o i pos) (gSub to ti t) := by
  intro pins s σ H v u Q I r h
  rw [ha]
  refine wpAny_bind (wpAny_holding (thn (ho pins s σ H _ I h) fun ov s1 ⟨x, H1, I1, r1, q1⟩ => ?_))
  refine wpAny_bind (wpAny_holding (thn (hi pins s1 σ H1 _ I1 q1) fun iv s2 ⟨y, H2, I2, r2, q2⟩ => ?_))
  refine wpAny_bind (wpAny_standAt (wpAny_bind (wpAny_holding (thn (hs pins s2 σ H2 x y v ov iv u _ I2 r1 r2 r q2) fun _ s3 ⟨H3, I3, q3⟩ => ?_))))
  exact wpAny_release ⟨σ, H3, I3, q3⟩
def tAsg (te : TE) (g : TG) : TS := fun D σ H => te σ H fun x H1 => g x σ H1 D.nx
theorem ps_asg {tg e : Expr} {te : TE} {g : TG} (he : PE X e te) (hg : PG X tg g) (hs : swapsWithSole [tg] e pos.line X.env = pure false := by rfl) (hw : swappedStores [tg] e X.env = pure none := by rfl)
    (h1 : (assignEach [tg] X.env).map (·.2) = [assign tg X.env] := by rfl) : PS X (.Assign [tg] e pos) (tAsg te g) := by
  intro pins s σ H D I h
  refine wpAny_Assign_stores (thn (he pins s σ H _ I h) fun v s1 ⟨x, H1, I1, r1, q1⟩ => ?_) hs hw
  rw [h1]
  exact thn (hg pins s1 σ H1 x v _ I1 r1 q1) fun _ s2 q => q
theorem ps_set {i : Nat} {x : Str} {e : Expr} {te : TE} {pos' : Pos} (hN : X.N.Nodup) (hi : X.N[i]? = some x) (hx : Loc X.env.scope x) (he : PE X e te) (hs : swapsWith e (some (.Name x pos')) pos.line X.env = pure false := by rfl) (hf : X.fn x = true ∨ X.env.scope.names.lookup x = some .local := by first | exact .inl rfl | exact .inr rfl | assumption) :
    PS X (.Assign [.Name x pos'] e pos) (tAsg te (gName i)) := by
  intro pins s σ H D I h
  refine wpAny_Assign_Name (thn (he pins s σ H _ I h) fun v s1 ⟨y, H1, I1, r1, q1⟩ => ?_) hs
  exact store_ok I1 hN hi hx r1 (fun s2 I2 => ⟨_, H1, I2, q1⟩) hf
end
section
variable {X : Cx} {pos : Pos}
def tWhile (c : TT) (tb : TS) : TS := fun D σ H => ∃ W : Nat → St → Hp → Prop, (∃ m, W m σ H) ∧ ∀ m σ H, W m σ H →
  c σ H fun b H1 => if b = true then ∃ N : St → Hp → Prop, (∀ σ' H', N σ' H' → ∃ m', m' < m ∧ W m' σ' H') ∧ tb { D with nx := N, ct := N, bk := D.nx } σ H1 else D.nx σ H1
theorem ps_while {c : Expr} {body : List Stmt} {tc : TT} {tb : TS} (hp : PassesOwn (model X.prog X.w) X.A X.env X.xe) (hc : PT X c tc) (hb : PSs X body tb) : PS X (.While c body [] pos) (tWhile tc tb) := by
  intro pins s σ H D I h
  obtain ⟨W, ⟨m0, w0⟩, turn⟩ := h
  refine wpAny_While (codeAny_whileLoop (fun n s' => ∃ σ' H', Inv X pins σ' H' s' ∧ W n σ' H') ?_ m0 ⟨σ, H, I, w0⟩)
  rintro n s1 ⟨σ1, H1, I1, w1⟩
  refine wpAny_passesOwn hp (thn (hc pins s1 σ1 H1 _ I1 (turn n σ1 H1 w1)) fun b s2 ⟨H2, I2, q2⟩ => ?_)
  cases b with
  | true =>
    obtain ⟨N, hN, q2⟩ := q2
    rw [if_pos rfl]
    refine wpAny_passesOwn hp (thn (hb pins s2 σ1 H2 _ I2 q2) fun f s3 q3 => ?_)
    cases f with
    | next =>
      obtain ⟨σ3, H3, I3, n3⟩ := q3
      obtain ⟨m', hm, w3⟩ := hN σ3 H3 n3
      exact ⟨m', hm, σ3, H3, I3, w3⟩
    | cont =>
      obtain ⟨σ3, H3, I3, n3⟩ := q3
      obtain ⟨m', hm, w3⟩ := hN σ3 H3 n3
      exact ⟨m', hm, σ3, H3, I3, w3⟩
    | brk => exact q3
    | ret v => exact q3
  | false =>
    rw [if_neg Bool.false_ne_true]
    exact wpAny_execs_nil ⟨σ1, H2, I2, q2⟩
end
structure It where
  go : Nat → Hp → Prop
  yld : Nat → Hp → V → Hp → Prop
  stop : Nat → Hp → Prop
def FpOk (X : Cx) (pins : List (Addr × Obj)) (H : Hp) (b : Addr) : Prop :=
  H b = none ∧ b ≠ X.env.locals ∧ b ∉ X.fs ∧ (b ∈ X.ex ∨ X.s₀.heap.objs.size ≤ b) ∧ (∀ x c, X.env.cells.lookup x = some c → c ≠ b) ∧ ∀ p ∈ X.pn ++ pins, p.1 ≠ b
theorem Inv.fpOk {X : Cx} {pins : List (Addr × Obj)} {σ : St} {H H' : Hp} {s : Shared} {b : Addr} (I : Inv X pins σ H s) (hb : s.heap.objs.size ≤ b) (hn : H' b = none) : FpOk X pins H' b := by
  refine ⟨hn, Nat.ne_of_gt (Nat.lt_of_lt_of_le I.lt hb), I.nofs hb, .inr (Nat.le_trans I.sz hb), fun x c e z => ?_, fun p hp z => ?_⟩
  · obtain ⟨v, q⟩ := I.cell x c e
    exact absurd (Nat.lt_of_lt_of_le q.lt (by rw [z]; exact hb)) (Nat.lt_irrefl _)
  · exact absurd (Nat.lt_of_lt_of_le (Heap.lt_size (I.pin p hp).1) (by rw [z]; exact hb)) (Nat.lt_irrefl _)
structure Turn (P : Program) (w : World) (K : PySem.W.Frag) (tg : Expr) (J : It) (fp : List Addr) (it : Addr) (tn : Nat → Heap → Prop) : Prop where
  mem : it ∈ fp
  obj : ∀ i h, tn i h → ∀ b ∈ fp, ∃ o, h.get? b = some o ∧ ∀ v, o.data ≠ .cell v
  keep : ∀ i h h', tn i h → (∀ b ∈ fp, ∀ o, h.get? b = some o → h'.get? b = some o) → tn i h'
  item : ∀ (X : Cx), X.prog = P → X.w = w → X.K = K → X.calm = true → ∀ (i : Nat) (pins : List (Addr × Obj)) (s : Shared) (σ : St) (H : Hp) (E : Value → Shared → Prop), Inv X pins σ H s → (∀ b ∈ fp, FpOk X pins H b) → tn i s.heap → J.go i H →
    wpAny (model P w) X.A (pyNext (.ref it)) (fun r s1 => ∃ u, r = some u ∧
      wpAny (model P w) X.A (letOwnedTupleGo tg (.ref it) u) (fun _ s2 => ∃ x H', Inv X pins σ H' s2 ∧ RelV x u ∧ J.yld i H x H' ∧ tn (i + 1) s2.heap ∧ ∀ b ∈ fp, H' b = none) E s1) E s
  done : ∀ (X : Cx), X.prog = P → X.w = w → X.K = K → X.calm = true → ∀ (i : Nat) (pins : List (Addr × Obj)) (s : Shared) (σ : St) (H : Hp) (E : Value → Shared → Prop), Inv X pins σ H s → (∀ b ∈ fp, FpOk X pins H b) → tn i s.heap → J.stop i H →
    wpAny (model P w) X.A (pyNext (.ref it)) (fun r s1 => r = none ∧ Inv X pins σ H s1) E s
  self : ∀ (A : Around) (i : Nat) (s : Shared) (Q : Value → Shared → Prop) (E : Value → Shared → Prop), tn i s.heap → Q (.ref it) s → wpAny (model P w) A (pyIter (.ref it)) Q E s
abbrev TI := St → Hp → (It → Hp → Prop) → Prop
def PIE (X : Cx) (pins : List (Addr × Obj)) (σ : St) (tg : Expr) (R : It → Hp → Prop) (itv : Value) (s2 : Shared) : Prop :=
  ∃ (it : Addr) (fp : List Addr) (tn : Nat → Heap → Prop) (J : It) (H' : Hp), itv = .ref it ∧ Inv X pins σ H' s2 ∧ Turn X.prog X.w X.K tg J fp it tn ∧ tn 0 s2.heap ∧ (∀ b ∈ fp, FpOk X pins H' b) ∧ R J H'
def PI (X : Cx) (tg iter : Expr) (wi : TI) : Prop :=
  ∀ (pins : List (Addr × Obj)) (s : Shared) (σ : St) (H : Hp) (R : It → Hp → Prop), Inv X pins σ H s → wi σ H R →
    wpAny (model X.prog X.w) X.A (eval iter X.env) (fun v s1 => wpAny (model X.prog X.w) X.A (pyIter v) (PIE X pins σ tg R) X.xe s1) X.xe s
theorem go_of {M : Model} {A : Around} {E : Value → Shared → Prop} {s : Shared} {tg : Expr} {it : Addr} {u : Value} {o : Obj} {n : String} {vs : Array Value} {Q : Unit → Shared → Prop} (ho : s.heap.get? it = some o) (hc : o.cls = .type n) (hd : o.data = .fields vs)
    (hn : ["enumerate", "zip", "dict_itemiterator", "dict_reverseitemiterator", "odict_iterator", "itertools.zip_longest", "itertools.pairwise"].contains n = false) (hQ : Q () s) : wpAny M A (letOwnedTupleGo tg (.ref it) u) Q E s := by
  unfold letOwnedTupleGo
  cases tg <;> first
    | exact wpAny_pure hQ
    | (cases u <;> first
        | exact wpAny_pure hQ
        | (refine wpAny_bind (wpAny_load ho ?_)
           rw [hc, hd]
           show wpAny M A (if (["enumerate", "zip", "dict_itemiterator", "dict_reverseitemiterator", "odict_iterator", "itertools.zip_longest", "itertools.pairwise"].contains n && vs[0]? == some (rawInt _)) = true then _ else _) Q E s
           rw [if_neg (by intro h; rw [hn, Bool.false_and] at h; cases h)]
           exact wpAny_pure hQ))
def Itl (K : PySem.W.Frag) (a : Addr) : It :=
  ⟨fun i H => ∃ xs x, SqL K H a xs ∧ xs[i]? = some x, fun i H x H' => H' = H ∧ ∀ xs, SqL K H a xs → xs[i]? = some x, fun i H => ∃ xs, SqL K H a xs ∧ xs.length ≤ i⟩
def Itt (K : PySem.W.Frag) (a : Addr) : It :=
  ⟨fun i H => ∃ xs x, SqT K H a xs ∧ xs[i]? = some x, fun i H x H' => H' = H ∧ ∀ xs, SqT K H a xs → xs[i]? = some x, fun i H => ∃ xs, SqT K H a xs ∧ xs.length ≤ i⟩
def Itr (lo : Int) (n : Nat) : It := ⟨fun i _ => i < n, fun i H x H' => H' = H ∧ x = .int (lo + i), fun i _ => n ≤ i⟩
theorem turn_list {P : Program} {w : World} {K : PySem.W.Frag} {tg : Expr} (a it : Addr) : Turn P w K tg (Itl K a) [it] it (fun i h => h.IsListIter it a i) where
  mem := by simp
  obj := fun i h st b hb => by
    have e : b = it := by simpa using hb
    subst e
    obtain ⟨o, e, c, d⟩ := st
    exact ⟨o, e, fun v z => by rw [d] at z; cases z⟩
  keep := fun i h h' st k => st.at fun o e => k it (by simp) o e
  item := by
    intro X hP hw hK hc i pins s σ H E I hf st hg
    subst hP hw hK
    obtain ⟨xs, x, hq, hx⟩ := hg
    obtain ⟨its, rv, p, hz⟩ := I.list hq
    obtain ⟨u, hu, ru⟩ := rv.get hx
    obtain ⟨f0, f1, f2, f3, f4, f5⟩ := hf it (by simp)
    refine wpAny_pyNext_list_item st p.isList (x := u) (by simpa using hu) fun h' st' sb => ?_
    have I1 : Inv X pins σ H { s with heap := h' } := I.turned (t' := s.toks) (fun b o hb e => (sb.2 b hb).trans e) f0 f1 f3 f4 f5
    obtain ⟨o, e, c, d⟩ := id st'
    exact ⟨u, rfl, go_of (s := { s with heap := h' }) e c d (by decide) ⟨x, H, I1, ru, ⟨rfl, fun ys hy => by rw [I.list_inj hy hq]; exact hx⟩, st', fun b hb => (hf b hb).1⟩⟩
  done := by
    intro X hP hw hK hc i pins s σ H E I hf st hg
    subst hP hw hK
    obtain ⟨xs, hq, hx⟩ := hg
    obtain ⟨its, rv, p, hz⟩ := I.list hq
    obtain ⟨f0, f1, f2, f3, f4, f5⟩ := hf it (by simp)
    have hl := rv.length
    exact wpAny_pyNext_list_end (I.ok.hd hc) st p.isList (by simp; omega) fun h' eb => ⟨rfl, I.turned (t' := s.toks) (fun b o hb e => eb b o hb e) f0 f1 f3 f4 f5⟩
  self := fun _ _ _ _ _ st h => wpAny_pyIter_listiter st h
theorem turn_tuple {P : Program} {w : World} {K : PySem.W.Frag} {tg : Expr} (a it : Addr) : Turn P w K tg (Itt K a) [it] it (fun i h => h.IsTupleIter it a i) where
  mem := by simp
  obj := fun i h st b hb => by
    have e : b = it := by simpa using hb
    subst e
    obtain ⟨o, e, c, d⟩ := st
    exact ⟨o, e, fun v z => by rw [d] at z; cases z⟩
  keep := fun i h h' st k => st.at fun o e => k it (by simp) o e
  item := by
    intro X hP hw hK hc i pins s σ H E I hf st hg
    subst hP hw hK
    obtain ⟨xs, x, hq, hx⟩ := hg
    obtain ⟨its, rv, p, hz⟩ := I.tuple hq
    obtain ⟨u, hu, ru⟩ := rv.get hx
    obtain ⟨f0, f1, f2, f3, f4, f5⟩ := hf it (by simp)
    refine wpAny_pyNext_tuple_item st (show s.heap.IsTuple a its.toArray from p) (x := u) (by simpa using hu) fun h' st' sb => ?_
    have I1 : Inv X pins σ H { s with heap := h' } := I.turned (t' := s.toks) (fun b o hb e => (sb.2 b hb).trans e) f0 f1 f3 f4 f5
    obtain ⟨o, e, c, d⟩ := id st'
    exact ⟨u, rfl, go_of (s := { s with heap := h' }) e c d (by decide) ⟨x, H, I1, ru, ⟨rfl, fun ys hy => by rw [I.tuple_inj hy hq]; exact hx⟩, st', fun b hb => (hf b hb).1⟩⟩
  done := by
    intro X hP hw hK hc i pins s σ H E I hf st hg
    subst hP hw hK
    obtain ⟨xs, hq, hx⟩ := hg
    obtain ⟨its, rv, p, hz⟩ := I.tuple hq
    obtain ⟨f0, f1, f2, f3, f4, f5⟩ := hf it (by simp)
    have hl := rv.length
    exact wpAny_pyNext_tuple_end (I.ok.hd hc) st (show s.heap.IsTuple a its.toArray from p) (by simp; omega) fun h' eb => ⟨rfl, I.turned (t' := s.toks) (fun b o hb e => eb b o hb e) f0 f1 f3 f4 f5⟩
  self := fun _ _ _ _ _ st h => wpAny_pyIter_tupleiter st h
theorem turn_range {P : Program} {w : World} {K : PySem.W.Frag} {tg : Expr} (it : Addr) (lo : Int) (n : Nat) : Turn P w K tg (Itr lo n) [it] it (fun i h => IsRangeIter h it (lo + (i : Nat) * 1) ((n : Int) - (i : Nat)) 1) where
  mem := by simp
  obj := fun i h st b hb => by
    have e : b = it := by simpa using hb
    subst e
    exact ⟨_, st, fun v z => by
      have z' : Data.fields _ = Data.cell v := z
      cases z'⟩
  keep := fun i h h' st k => k it (by simp) _ st
  item := by
    intro X hP hw hK hc i pins s σ H E I hf st hg
    subst hP hw hK
    obtain ⟨f0, f1, f2, f3, f4, f5⟩ := hf it (by simp)
    have W := Walks.range (prog := X.prog) (w := X.w) (I.ok.hd hc) it lo 1 n
    refine W.item i s _ _ hg st fun v h' tk hv st' kk => ?_
    obtain ⟨t, rfl⟩ := hv
    have I1 : Inv X pins σ H { s with heap := h', toks := tk } := I.turned (fun b o hb e => kk b o (by simpa using hb) e) f0 f1 f3 f4 f5
    refine ⟨_, rfl, go_of (s := { s with heap := h', toks := tk }) (n := "range_iterator") st' rfl rfl (by decide) ⟨.int (lo + i), H, I1, ⟨t, ?_⟩, ⟨rfl, rfl⟩, st', fun b hb => (hf b hb).1⟩⟩
    rw [Int.mul_one]
  done := by
    intro X hP hw hK hc i pins s σ H E I hf st hg
    subst hP hw hK
    obtain ⟨f0, f1, f2, f3, f4, f5⟩ := hf it (by simp)
    exact wpAny_pyNext_range_end (I.ok.hd hc) st (by have : n ≤ i := hg; omega) fun h' eb => ⟨rfl, I.turned (t' := s.toks) (fun b o hb e => eb b o hb e) f0 f1 f3 f4 f5⟩
  self := fun _ _ _ _ _ st h => wpAny_pyIter_rangeiter st h
end L2
namespace L2
open PySem PySem.Spec PyProof.Rows
section
variable {X : Cx} {tg : Expr}
def iList (K : PySem.W.Frag) (tl : TE) : TI := fun σ H R => tl σ H fun x H1 => ∃ a, x = .ref a ∧ (∃ xs, SqL K H1 a xs) ∧ R (Itl K a) H1
def iTup (K : PySem.W.Frag) (tl : TE) : TI := fun σ H R => tl σ H fun x H1 => ∃ a, x = .ref a ∧ (∃ xs, SqT K H1 a xs) ∧ R (Itt K a) H1
theorem pi_list {l : Expr} {tl : TE} (hl : PE X l tl) : PI X tg l (iList X.K tl) := by
  intro pins s σ H R I h
  refine thn (hl pins s σ H _ I h) fun v s1 ⟨x, H1, I1, r1, q1⟩ => ?_
  obtain ⟨a, e, ⟨xs, hq⟩, q⟩ := q1
  subst e
  cases r1
  obtain ⟨its, rv, p, hz⟩ := I1.list hq
  refine wpAny_pyIter_list p.isList ?_
  refine ⟨s1.heap.objs.size, [s1.heap.objs.size], _, _, H1, rfl, I1.kept (t' := s1.toks) fun b o e => Heap.get?_push_of_some _ e, turn_list a _, ⟨_, Heap.get?_push_size _ rfl, rfl, rfl⟩, fun b hb => ?_, q⟩
  have e : b = s1.heap.objs.size := by simpa using hb
  subst e
  exact I1.fpOk (Nat.le_refl _) (I1.hok.fresh (Nat.le_refl _))
theorem pi_tup {l : Expr} {tl : TE} (hl : PE X l tl) : PI X tg l (iTup X.K tl) := by
  intro pins s σ H R I h
  refine thn (hl pins s σ H _ I h) fun v s1 ⟨x, H1, I1, r1, q1⟩ => ?_
  obtain ⟨a, e, ⟨xs, hq⟩, q⟩ := q1
  subst e
  cases r1
  obtain ⟨its, rv, p, hz⟩ := I1.tuple hq
  refine wpAny_pyIter_tuple (show s1.heap.IsTuple a its.toArray from p) ?_
  refine ⟨s1.heap.objs.size, [s1.heap.objs.size], _, _, H1, rfl, I1.kept (t' := s1.toks) fun b o e => Heap.get?_push_of_some _ e, turn_tuple a _, ⟨_, Heap.get?_push_size _ rfl, rfl, rfl⟩, fun b hb => ?_, q⟩
  have e : b = s1.heap.objs.size := by simpa using hb
  subst e
  exact I1.fpOk (Nat.le_refl _) (I1.hok.fresh (Nat.le_refl _))
theorem range_it {pins : List (Addr × Obj)} {σ : St} {H : Hp} {s : Shared} {R : It → Hp → Prop} {E : Value → Shared → Prop} {lo hi : Int} {t u v : Tok} {tk : Nat} (I : Inv X pins σ H s) (h1 : -(2 ^ 62) ≤ lo) (h2 : lo < 2 ^ 62) (h3 : -(2 ^ 62) ≤ hi) (h4 : hi < 2 ^ 62)
    (q : R (Itr lo (hi - lo).toNat) H) : wpAny (model X.prog X.w) X.A (pyIter (.ref s.heap.objs.size)) (PIE X pins σ tg R) E { s with heap := s.heap.push { cls := .type "range", data := .fields #[.int lo t, .int hi u, .int 1 v] }, toks := tk } := by
  refine wpAny_pyIter_range (IsRange.new ..) (small_one h1 h2 h3 h4) ?_
  have I1 : Inv X pins σ H { s with heap := s.heap.push { cls := .type "range", data := .fields #[.int lo t, .int hi u, .int 1 v] }, toks := tk } := I.kept fun b o e => Heap.get?_push_of_some _ e
  refine ⟨(s.heap.push { cls := .type "range", data := .fields #[.int lo t, .int hi u, .int 1 v] }).objs.size, [(s.heap.push { cls := .type "range", data := .fields #[.int lo t, .int hi u, .int 1 v] }).objs.size], _, _, H, rfl,
    I1.kept (t' := tk) fun b o e => Heap.get?_push_of_some _ e, turn_range _ lo (hi - lo).toNat, ?_, fun b hb => ?_, q⟩
  · have e1 : lo + ((0 : Nat) : Int) * 1 = lo := by simp
    have e2 : (((hi - lo).toNat : Nat) : Int) - ((0 : Nat) : Int) = Builtin.Range.rangeSize lo hi 1 := by rw [rangeSize_one]; split <;> omega
    show IsRangeIter _ _ (lo + ((0 : Nat) : Int) * 1) ((((hi - lo).toNat : Nat) : Int) - ((0 : Nat) : Int)) 1
    rw [e1, e2]
    exact Heap.get?_push_size _ rfl
  · have e : b = (s.heap.push { cls := .type "range", data := .fields #[.int lo t, .int hi u, .int 1 v] }).objs.size := by simpa using hb
    subst e
    exact I1.fpOk (Nat.le_refl _) (I1.hok.fresh (Nat.le_refl _))
def iRng1 (ta : TA) : TI := fun σ H R => ta σ H fun vs H1 => ∃ j : Int, vs = [.int j] ∧ -(2 ^ 62) ≤ j ∧ j < 2 ^ 62 ∧ R (Itr 0 j.toNat) H1
def iRng2 (ta : TA) : TI := fun σ H R => ta σ H fun vs H1 => ∃ i j : Int, vs = [.int i, .int j] ∧ (-(2 ^ 62) ≤ i ∧ i < 2 ^ 62 ∧ -(2 ^ 62) ≤ j ∧ j < 2 ^ 62) ∧ R (Itr i (j - i).toNat) H1
theorem pi_range1 {a : Expr} {ta : TA} {p pos : Pos} (hg : Gl X "range") (hm : X.mg "range" = none) (ha : PA X [a] ta) (hs : starEach [a] X.env = [(false, eval a X.env)] := by rfl) : PI X tg (.Call (.Name "range" p) [a] [] pos) (iRng1 ta) := by
  intro pins s σ H R I h
  refine Call_ (ld_blt I hg hm boot_range (PyProof.Rows.callWith_type1 (thn (ha pos pins s σ H _ I h) fun us s1 ⟨vs, H1, I1, r1, q1⟩ => ?_) hs rfl))
  obtain ⟨j, e, q1, q2, q⟩ := q1
  subst e
  cases r1 with
  | cons r rr =>
    cases rr
    obtain ⟨t, rfl⟩ := r
    exact call_range_1 (range_it I1 (by omega) (by omega) q1 q2 (by simpa using q))
theorem pi_range2 {a b : Expr} {ta : TA} {p pos : Pos} (hg : Gl X "range") (hm : X.mg "range" = none) (ha : PA X [a, b] ta) (hs : starEach [a, b] X.env = [(false, eval a X.env), (false, eval b X.env)] := by rfl) (hs2 : starEach [b] X.env = [(false, eval b X.env)] := by rfl) :
    PI X tg (.Call (.Name "range" p) [a, b] [] pos) (iRng2 ta) := by
  intro pins s σ H R I h
  refine Call_ (ld_blt I hg hm boot_range (PyProof.Rows.callWith_type1 (thn (ha pos pins s σ H _ I h) fun us s1 ⟨vs, H1, I1, r1, q1⟩ => ?_) (by rw [hs, hs2]) (by rw [hs2]; rfl)))
  obtain ⟨i, j, e, ⟨q1, q2, q3, q4⟩, q⟩ := q1
  subst e
  cases r1 with
  | cons r rr =>
    cases rr with
    | cons r' rr =>
      cases rr
      obtain ⟨t, rfl⟩ := r
      obtain ⟨t', rfl⟩ := r'
      exact call_range_2 (range_it I1 q1 q2 q3 q4 q)
def tFor (wi : TI) (g : TG) (tb : TS) : TS := fun D σ H => wi σ H fun J H1 => ∃ W : Nat → Nat → St → Hp → Prop, (∃ m, W 0 m σ H1) ∧ ∀ i m σ H, W i m σ H →
  (J.stop i H ∧ D.nx σ H) ∨ (J.go i H ∧ ∃ N : St → Hp → Prop, (∀ σ' H', N σ' H' → ∃ m', m' < m ∧ W (i + 1) m' σ' H') ∧ ∀ x H', J.yld i H x H' → g x σ H' fun σ2 H2 => tb { D with nx := N, ct := N, bk := D.nx } σ2 H2)
def pinsAt (fp : List Addr) (h : Heap) : List (Addr × Obj) := fp.filterMap fun b => (h.get? b).map fun o => (b, o)
theorem mem_pinsAt {fp : List Addr} {h : Heap} {b : Addr} {o : Obj} (hb : b ∈ fp) (e : h.get? b = some o) : (b, o) ∈ pinsAt fp h := List.mem_filterMap.mpr ⟨b, hb, by rw [e]; rfl⟩
theorem of_pinsAt {fp : List Addr} {h : Heap} {p : Addr × Obj} (hp : p ∈ pinsAt fp h) : p.1 ∈ fp ∧ h.get? p.1 = some p.2 := by
  obtain ⟨b, hb, e⟩ := List.mem_filterMap.mp hp
  cases q : h.get? b with
  | none => rw [q] at e; cases e
  | some o =>
    rw [q] at e
    have e' : (b, o) = p := Option.some.inj e
    subst e'
    exact ⟨hb, q⟩
theorem Inv.pinned {pins : List (Addr × Obj)} {σ : St} {H : Hp} {s : Shared} {fp : List Addr} (I : Inv X pins σ H s) (hf : ∀ b ∈ fp, FpOk X pins H b) (ho : ∀ b ∈ fp, ∃ o, s.heap.get? b = some o ∧ ∀ v, o.data ≠ .cell v) : Inv X (pins ++ pinsAt fp s.heap) σ H s :=
  I.pins_of fun p hp => (List.mem_append.mp hp).elim (fun z => I.pin p (List.mem_append_right _ z)) fun z => by
    obtain ⟨hb, e⟩ := of_pinsAt z
    obtain ⟨f0, f1, f2, _⟩ := hf p.1 hb
    obtain ⟨o, e', d⟩ := ho p.1 hb
    rw [e] at e'; cases e'
    exact ⟨e, f0, f1, f2, d⟩
theorem Inv.unpinned {pins pl : List (Addr × Obj)} {σ : St} {H : Hp} {s : Shared} (I : Inv X (pins ++ pl) σ H s) : Inv X pins σ H s := I.pins_of fun p hp => I.pin p (List.mem_append_right _ (List.mem_append_left _ hp))
theorem ps_for {iter : Expr} {body : List Stmt} {wi : TI} {g : TG} {tb : TS} {pos : Pos} (hp : PassesOwn (model X.prog X.w) X.A X.env X.xe) (hc : X.calm = true) (hi : PI X tg iter wi) (hg : PG X tg g) (hb : PSs X body tb)
    (hs : ∀ x, foldedSetIterable iter X.env x = pure x := by intro _; rfl) : PS X (.For tg iter body [] pos) (tFor wi g tb) := by
  intro pins s σ H D I h
  refine wpAny_For (thn (hi pins s σ H _ I h) fun v s1 h1 => thn h1 fun itv s2 h2 => ?_) hs
  obtain ⟨it, fp, tn, J, H2, e, I2, T, st2, f2, W, ⟨m0, w0⟩, turn⟩ := h2
  subst e
  -- what stays true of the iterator's objects through the loop
  have stat : ∀ {H' : Hp}, (∀ b ∈ fp, H' b = none) → ∀ b ∈ fp, FpOk X pins H' b := fun hn b hb => ⟨hn b hb, (f2 b hb).2⟩
  refine codeAny_forLoop_any (fun n s' => ∃ i σ' H', Inv X pins σ' H' s' ∧ tn i s'.heap ∧ (∀ b ∈ fp, H' b = none) ∧ W i n σ' H') ?_ m0 ⟨0, σ, H2, I2, st2, fun b hb => (f2 b hb).1, w0⟩
  rintro n s3 ⟨i, σ3, H3, I3, st3, fr3, w3⟩
  rcases turn i n σ3 H3 w3 with ⟨stop, qn⟩ | ⟨go, N, hN, step⟩
  · refine wpAny_passesOwn hp (thn (T.done X rfl rfl rfl hc i pins s3 σ3 H3 X.xe I3 (stat fr3) st3 stop) fun r s4 ⟨hr, I4⟩ => ?_)
    subst hr
    exact wpAny_execs_nil ⟨σ3, H3, I4, qn⟩
  · refine wpAny_passesOwn hp (thn (T.item X rfl rfl rfl hc i pins s3 σ3 H3 X.xe I3 (stat fr3) st3 go) fun r s4 ⟨u, hr, h4⟩ => ?_)
    subst hr
    refine wpAny_passesOwn hp (thn h4 fun _ s5 ⟨x, H5, I5, r5, y5, st5, fr5⟩ => ?_)
    have I5' := I5.pinned (stat fr5) (T.obj _ _ st5)
    refine wpAny_passesOwn hp (thn (hg _ s5 σ3 H5 x u _ I5' r5 (step x H5 y5)) fun _ s6 ⟨σ6, H6, I6, q6⟩ => ?_)
    refine wpAny_passesOwn hp (thn (hb _ s6 σ6 H6 _ I6 q6) fun f s7 q7 => ?_)
    have again : ∀ {σ7 : St} {H7 : Hp}, Inv X (pins ++ pinsAt fp s5.heap) σ7 H7 s7 → N σ7 H7 → ∃ m, m < n ∧ ∃ i σ' H', Inv X pins σ' H' s7 ∧ tn i s7.heap ∧ (∀ b ∈ fp, H' b = none) ∧ W i m σ' H' := fun {σ7 H7} I7 n7 => by
      obtain ⟨m', hm, w7⟩ := hN σ7 H7 n7
      refine ⟨m', hm, i + 1, σ7, H7, I7.unpinned, T.keep _ _ _ st5 fun b hb o e => (I7.pin (b, o) (List.mem_append_right _ (List.mem_append_right _ (mem_pinsAt hb e)))).1, fun b hb => ?_, w7⟩
      obtain ⟨o, e, d⟩ := T.obj _ _ st5 b hb
      exact (I7.pin (b, o) (List.mem_append_right _ (List.mem_append_right _ (mem_pinsAt hb e)))).2.1
    cases f with
    | next => obtain ⟨σ7, H7, I7, n7⟩ := q7; exact again I7 n7
    | cont => obtain ⟨σ7, H7, I7, n7⟩ := q7; exact again I7 n7
    | brk => obtain ⟨σ7, H7, I7, q7⟩ := q7; exact ⟨σ7, H7, I7.unpinned, q7⟩
    | ret v => obtain ⟨x7, σ7, H7, I7, r7, q7⟩ := q7; exact ⟨x7, σ7, H7, I7.unpinned, r7, q7⟩
end
theorem for_list {K : PySem.W.Frag} {a : Addr} {xs : List V} {g : TG} {tb : TS} {D : Ends} {σ : St} {H : Hp} (Pv : Nat → St → Hp → Prop) (h0 : Pv 0 σ H) (hl : ∀ i σ H, i ≤ xs.length → Pv i σ H → SqL K H a xs)
    (hs : ∀ i x σ H, xs[i]? = some x → Pv i σ H → g x σ H fun σ2 H2 => tb { D with nx := Pv (i + 1), ct := Pv (i + 1), bk := D.nx } σ2 H2) (hd : ∀ σ H, Pv xs.length σ H → D.nx σ H) :
    ∃ W : Nat → Nat → St → Hp → Prop, (∃ m, W 0 m σ H) ∧ ∀ i m σ H, W i m σ H →
      ((Itl K a).stop i H ∧ D.nx σ H) ∨ ((Itl K a).go i H ∧ ∃ N : St → Hp → Prop, (∀ σ' H', N σ' H' → ∃ m', m' < m ∧ W (i + 1) m' σ' H') ∧ ∀ x H', (Itl K a).yld i H x H' → g x σ H' fun σ2 H2 => tb { D with nx := N, ct := N, bk := D.nx } σ2 H2) := by
  refine ⟨fun i m σ H => m = xs.length - i ∧ i ≤ xs.length ∧ Pv i σ H, ⟨xs.length, by simp, Nat.zero_le _, h0⟩, ?_⟩
  rintro i m σ H ⟨rfl, hi, p⟩
  have q := hl i σ H hi p
  by_cases hlt : i < xs.length
  · refine .inr ⟨⟨xs, xs[i], q, by simp [hlt]⟩, Pv (i + 1), fun σ' H' p' => ⟨xs.length - (i + 1), by omega, rfl, hlt, p'⟩, fun x H' y => ?_⟩
    obtain ⟨e, y⟩ := y
    subst e
    exact hs i x σ _ (y xs q) p
  · have e : i = xs.length := by omega
    subst e
    exact .inl ⟨⟨xs, q, Nat.le_refl _⟩, hd σ H p⟩
theorem for_tup {K : PySem.W.Frag} {a : Addr} {xs : List V} {g : TG} {tb : TS} {D : Ends} {σ : St} {H : Hp} (Pv : Nat → St → Hp → Prop) (h0 : Pv 0 σ H) (hl : ∀ i σ H, i ≤ xs.length → Pv i σ H → SqT K H a xs)
    (hs : ∀ i x σ H, xs[i]? = some x → Pv i σ H → g x σ H fun σ2 H2 => tb { D with nx := Pv (i + 1), ct := Pv (i + 1), bk := D.nx } σ2 H2) (hd : ∀ σ H, Pv xs.length σ H → D.nx σ H) :
    ∃ W : Nat → Nat → St → Hp → Prop, (∃ m, W 0 m σ H) ∧ ∀ i m σ H, W i m σ H →
      ((Itt K a).stop i H ∧ D.nx σ H) ∨ ((Itt K a).go i H ∧ ∃ N : St → Hp → Prop, (∀ σ' H', N σ' H' → ∃ m', m' < m ∧ W (i + 1) m' σ' H') ∧ ∀ x H', (Itt K a).yld i H x H' → g x σ H' fun σ2 H2 => tb { D with nx := N, ct := N, bk := D.nx } σ2 H2) := by
  refine ⟨fun i m σ H => m = xs.length - i ∧ i ≤ xs.length ∧ Pv i σ H, ⟨xs.length, by simp, Nat.zero_le _, h0⟩, ?_⟩
  rintro i m σ H ⟨rfl, hi, p⟩
  have q := hl i σ H hi p
  by_cases hlt : i < xs.length
  · refine .inr ⟨⟨xs, xs[i], q, by simp [hlt]⟩, Pv (i + 1), fun σ' H' p' => ⟨xs.length - (i + 1), by omega, rfl, hlt, p'⟩, fun x H' y => ?_⟩
    obtain ⟨e, y⟩ := y
    subst e
    exact hs i x σ _ (y xs q) p
  · have e : i = xs.length := by omega
    subst e
    exact .inl ⟨⟨xs, q, Nat.le_refl _⟩, hd σ H p⟩
theorem for_range {lo : Int} {n : Nat} {g : TG} {tb : TS} {D : Ends} {σ : St} {H : Hp} (Pv : Nat → St → Hp → Prop) (h0 : Pv 0 σ H)
    (hs : ∀ i σ H, i < n → Pv i σ H → g (.int (lo + i)) σ H fun σ2 H2 => tb { D with nx := Pv (i + 1), ct := Pv (i + 1), bk := D.nx } σ2 H2) (hd : ∀ σ H, Pv n σ H → D.nx σ H) :
    ∃ W : Nat → Nat → St → Hp → Prop, (∃ m, W 0 m σ H) ∧ ∀ i m σ H, W i m σ H →
      ((Itr lo n).stop i H ∧ D.nx σ H) ∨ ((Itr lo n).go i H ∧ ∃ N : St → Hp → Prop, (∀ σ' H', N σ' H' → ∃ m', m' < m ∧ W (i + 1) m' σ' H') ∧ ∀ x H', (Itr lo n).yld i H x H' → g x σ H' fun σ2 H2 => tb { D with nx := N, ct := N, bk := D.nx } σ2 H2) := by
  refine ⟨fun i m σ H => m = n - i ∧ i ≤ n ∧ Pv i σ H, ⟨n, by simp, Nat.zero_le _, h0⟩, ?_⟩
  rintro i m σ H ⟨rfl, hi, p⟩
  by_cases hlt : i < n
  · refine .inr ⟨hlt, Pv (i + 1), fun σ' H' p' => ⟨n - (i + 1), by omega, rfl, hlt, p'⟩, fun x H' y => ?_⟩
    obtain ⟨e, y⟩ := y
    subst e y
    exact hs i σ _ hlt p
  · have e : i = n := by omega
    subst e
    exact .inl ⟨Nat.le_refl _, hd σ H p⟩
end L2
namespace L2
open PySem PySem.Spec PyProof.Rows
abbrev R2 := V → V → Hp → VK → Prop
def OpR (X : Cx) (f : Value → Value → Sem Value) (r : R2) : Prop :=
  ∀ (pins : List (Addr × Obj)) (s : Shared) (σ : St) (H : Hp) (x y : V) (v u : Value) (Q : VK), Inv X pins σ H s → RelV x v → RelV y u → r x y H Q →
    wpAny (model X.prog X.w) X.A (f v u) (EP X pins σ Q) X.xe s
def UnR (X : Cx) (f : Value → Sem Value) (r : V → Hp → VK → Prop) : Prop :=
  ∀ (pins : List (Addr × Obj)) (s : Shared) (σ : St) (H : Hp) (x : V) (v : Value) (Q : VK), Inv X pins σ H s → RelV x v → r x H Q →
    wpAny (model X.prog X.w) X.A (f v) (EP X pins σ Q) X.xe s
def CallR (X : Cx) (f : Value) (r : List V → Hp → VK → Prop) : Prop :=
  ∀ (pins : List (Addr × Obj)) (s : Shared) (σ : St) (H : Hp) (xs : List V) (us : List Value) (Q : VK), Inv X pins σ H s → Vals xs us → r xs H Q →
    wpAny (model X.prog X.w) X.A (call f us) (EP X pins σ Q) X.xe s
def TruR (X : Cx) (r : V → Hp → (Bool → Hp → Prop) → Prop) : Prop :=
  ∀ (pins : List (Addr × Obj)) (s : Shared) (σ : St) (H : Hp) (x : V) (v : Value) (Q : Bool → Hp → Prop), Inv X pins σ H s → RelV x v → r x H Q →
    wpAny (model X.prog X.w) X.A (truthy v) (TP X pins σ Q) X.xe s
def tOp (r : R2) (ta tb : TE) : TE := fun σ H Q => ta σ H fun x H1 => tb σ H1 fun y H2 => r x y H2 Q
def tUn (r : V → Hp → VK → Prop) (ta : TE) : TE := fun σ H Q => ta σ H fun x H1 => r x H1 Q
def rI (C : Int → Int → Prop) (g : Int → Int → V) : R2 := fun x y H Q => ∃ i j, x = .int i ∧ y = .int j ∧ C i j ∧ Q (g i j) H
def rI0 (g : Int → Int → V) : R2 := fun x y H Q => ∃ i j, x = .int i ∧ y = .int j ∧ Q (g i j) H
def rU (g : Int → V) : V → Hp → VK → Prop := fun x H Q => ∃ i, x = .int i ∧ Q (g i) H
section
variable {X : Cx} {a b c : Expr} {ta tb tc : TE} {pos : Pos}
theorem binT (ha : PE X a ta) (hb : PE X b tb) {pins : List (Addr × Obj)} {s : Shared} {σ : St} {H : Hp} {R : V → V → Hp → Prop} (I : Inv X pins σ H s)
    (h : ta σ H fun x H1 => tb σ H1 fun y H2 => R x y H2) {Q : Value → Shared → Prop} {f : Value → Value → Sem Value}
    (hf : ∀ v u s2 x y H2, Inv X pins σ H2 s2 → RelV x v → RelV y u → R x y H2 → wpAny (model X.prog X.w) X.A (f v u) Q X.xe s2) :
    wpAny (model X.prog X.w) X.A (eval a X.env) (fun v s₁ => wpAny (model X.prog X.w) X.A (eval b X.env) (fun u s₂ => wpAny (model X.prog X.w) X.A (f v u) Q X.xe s₂) X.xe s₁) X.xe s := by
  refine thn (ha pins s σ H _ I h) fun v s1 ⟨x, H1, I1, r1, q1⟩ => ?_
  refine thn (hb pins s1 σ H1 _ I1 q1) fun u s2 ⟨y, H2, I2, r2, q2⟩ => ?_
  exact hf v u s2 x y H2 I2 r1 r2 q2
theorem pe_op {op : Operator} {r : R2} (ho : OpR X (binaryOp op) r) (ha : PE X a ta) (hb : PE X b tb) : PE X (.BinOp a op b pos) (tOp r ta tb) := by
  intro pins s σ H Q I h
  exact wpAny_BinOp (binT ha hb I h fun v u s2 x y H2 I2 rx ry q => ho pins s2 σ H2 x y v u Q I2 rx ry q)
theorem pe_un {op : UnaryOp} {r : V → Hp → VK → Prop} (ho : UnR X (unaryOp op) r) (ha : PE X a ta) : PE X (.UnaryOp op a pos) (tUn r ta) := by
  intro pins s σ H Q I h
  exact UnaryOp_ (thn (ha pins s σ H _ I h) fun v s1 ⟨x, H1, I1, r1, q1⟩ => ho pins s1 σ H1 x v Q I1 r1 q1)
theorem opI {f : Value → Value → Sem Value} {C : Int → Int → Prop} {g : Int → Int → Int}
    (rule : ∀ (i j : Int) (t u : Tok) (s : Shared) (Q : Value → Shared → Prop) (E : Value → Shared → Prop), C i j → Q (.int (g i j) s.toks) { s with toks := s.toks + 1 } → wpAny (model X.prog X.w) X.A (f (.int i t) (.int j u)) Q E s) :
    OpR X f (rI C fun i j => .int (g i j)) := by
  intro pins s σ H x y v u Q I rx ry h
  obtain ⟨i, j, rfl, rfl, hc, q⟩ := h
  obtain ⟨t, rfl⟩ := rx
  obtain ⟨t', rfl⟩ := ry
  exact rule i j t t' s _ _ hc ⟨.int (g i j), H, I.tok _, ⟨_, rfl⟩, q⟩
theorem opI0 {f : Value → Value → Sem Value} {g : Int → Int → Int}
    (rule : ∀ (i j : Int) (t u : Tok) (s : Shared) (Q : Value → Shared → Prop) (E : Value → Shared → Prop), Q (.int (g i j) s.toks) { s with toks := s.toks + 1 } → wpAny (model X.prog X.w) X.A (f (.int i t) (.int j u)) Q E s) :
    OpR X f (rI0 fun i j => .int (g i j)) := by
  intro pins s σ H x y v u Q I rx ry h
  obtain ⟨i, j, rfl, rfl, q⟩ := h
  obtain ⟨t, rfl⟩ := rx
  obtain ⟨t', rfl⟩ := ry
  exact rule i j t t' s _ _ ⟨.int (g i j), H, I.tok _, ⟨_, rfl⟩, q⟩
theorem opB0 {f : Value → Value → Sem Value} {g : Int → Int → Bool}
    (rule : ∀ (i j : Int) (t u : Tok) (s : Shared) (Q : Value → Shared → Prop) (E : Value → Shared → Prop), Q (.bool (g i j)) s → wpAny (model X.prog X.w) X.A (f (.int i t) (.int j u)) Q E s) :
    OpR X f (rI0 fun i j => .bl (g i j)) := by
  intro pins s σ H x y v u Q I rx ry h
  obtain ⟨i, j, rfl, rfl, q⟩ := h
  obtain ⟨t, rfl⟩ := rx
  obtain ⟨t', rfl⟩ := ry
  exact rule i j t t' s _ _ ⟨.bl (g i j), H, I, rfl, q⟩
def CDiv (i j : Int) : Prop := 0 < j ∧ j < 1073741824
def CMul (i j : Int) : Prop := (-(2 ^ 64) < i ∧ i < 2 ^ 64) ∨ (-(2 ^ 64) < j ∧ j < 2 ^ 64)
theorem CMul.ok {i j : Int} (h : CMul i j) : IntMulOk i j := by
  rcases h with ⟨h1, h2⟩ | ⟨h1, h2⟩
  · exact .of_left (intBits_le_64 h1 h2)
  · exact .of_right (intBits_le_64 h1 h2)
theorem op_add : OpR X (binaryOp .Add) (rI0 fun i j => .int (i + j)) := opI0 fun _ _ _ _ _ _ _ q => add_int q
theorem op_sub : OpR X (binaryOp .Sub) (rI0 fun i j => .int (i - j)) := opI0 fun _ _ _ _ _ _ _ q => sub_int q
theorem op_mul : OpR X (binaryOp .Mult) (rI CMul fun i j => .int (i * j)) := opI fun _ _ _ _ _ _ _ hc q => mul_int q hc.ok
theorem op_fdiv : OpR X (binaryOp .FloorDiv) (rI CDiv fun i j => .int (i / j)) := opI fun i j _ _ _ _ _ hc q => by
  have h1 : (0 : Int) < j := hc.1
  have h2 : j < 1073741824 := hc.2
  exact floordiv_int (by omega) (by rw [Int.fdiv_eq_ediv_of_nonneg i (by omega)]; exact q) (.inl (PyProof.noPylong_small (by omega)))
theorem op_mod : OpR X (binaryOp .Mod) (rI (fun _ j => 0 < j) fun i j => .int (i % j)) := opI fun i j _ _ _ _ _ hc q => by
  have h1 : (0 : Int) < j := hc
  exact mod_int' (by omega) (by rw [Int.fmod_eq_emod_of_nonneg i (by omega)]; exact q)
theorem unI {f : Value → Sem Value} {g : Int → Int}
    (rule : ∀ (i : Int) (t : Tok) (s : Shared) (Q : Value → Shared → Prop) (E : Value → Shared → Prop), Q (.int (g i) s.toks) { s with toks := s.toks + 1 } → wpAny (model X.prog X.w) X.A (f (.int i t)) Q E s) :
    UnR X f (rU fun i => .int (g i)) := by
  intro pins s σ H x v Q I rx h
  obtain ⟨i, rfl, q⟩ := h
  obtain ⟨t, rfl⟩ := rx
  exact rule i t s _ _ ⟨.int (g i), H, I.tok _, ⟨_, rfl⟩, q⟩
theorem un_neg : UnR X (unaryOp .USub) (rU fun i => .int (-i)) := unI fun _ _ _ _ _ q => neg_int q
end
def scal : V → V → Bool
  | .non, .non => true | .non, .int _ => true | .int _, .non => true | .non, .bl _ => true | .bl _, .non => true | .non, .str _ => true | .str _, .non => true
  | .int _, .int _ => true | .bl _, .bl _ => true | .str _, .str _ => true | .byt _, .byt _ => true
  | .int _, .str _ => true | .str _, .int _ => true | .bl _, .str _ => true | .str _, .bl _ => true
  | _, _ => false
def rEq : R2 := fun x y H Q => scal x y = true ∧ Q (.bl (decide (x = y))) H
def rNe : R2 := fun x y H Q => scal x y = true ∧ Q (.bl (!decide (x = y))) H
theorem dec_int {i j : Int} : decide (V.int i = V.int j) = (i == j) := by
  rw [Bool.eq_iff_iff]
  simp
theorem dec_bl {i j : Bool} : decide (V.bl i = V.bl j) = (i == j) := by
  rw [Bool.eq_iff_iff]
  simp
theorem dec_str {i j : Str} : decide (V.str i = V.str j) = (i == j) := by
  rw [Bool.eq_iff_iff]
  simp
theorem dec_byt {i j : Array UInt8} : decide (V.byt i = V.byt j) = (i.toList == j.toList) := by
  rw [Bool.eq_iff_iff]
  cases i
  cases j
  simp
section
variable {X : Cx} {a b c : Expr} {ta tb tc : TE} {pos : Pos}
theorem fin_bl {pins : List (Addr × Obj)} {σ : St} {H : Hp} {s : Shared} {Q : VK} {k k' : Bool} (I : Inv X pins σ H s) (q : Q (.bl k) H) (e : k = k') : EP X pins σ Q (.bool k') s := by
  subst e
  exact ⟨.bl k, H, I, rfl, q⟩
theorem op_eq : OpR X (compareOp .Eq) rEq := by
  intro pins s σ H x y v u Q I rx ry h
  obtain ⟨hs, q⟩ := h
  cases x with
  | non =>
    cases rx
    cases y with
    | non => cases ry; exact PySem.EqNone.eq_none_none (fin_bl I q (by simp))
    | bl j => cases ry; exact PySem.EqNone.eq_none_bool (fin_bl I q (by simp))
    | int j => obtain ⟨t', rfl⟩ := ry; exact PySem.EqNone.eq_none_int (fin_bl I q (by simp))
    | str j => obtain ⟨t', rfl⟩ := ry; exact PySem.EqNone.eq_none_str (fin_bl I q (by simp))
    | _ => exact absurd (show false = true from hs) Bool.false_ne_true
  | bl i =>
    cases rx
    cases y with
    | non => cases ry; exact PySem.EqNone.eq_bool_none (fin_bl I q (by simp))
    | bl j => cases ry; exact eq_bool (fin_bl I q dec_bl)
    | str j => obtain ⟨t', rfl⟩ := ry; exact PySem.EqMixed.eq_bool_str (fin_bl I q (by simp))
    | _ => exact absurd (show false = true from hs) Bool.false_ne_true
  | int i =>
    obtain ⟨t, rfl⟩ := rx
    cases y with
    | non => cases ry; exact PySem.EqNone.eq_int_none (fin_bl I q (by simp))
    | int j => obtain ⟨t', rfl⟩ := ry; exact eq_int (fin_bl I q dec_int)
    | str j => obtain ⟨t', rfl⟩ := ry; exact PySem.EqMixed.eq_int_str (fin_bl I q (by simp))
    | _ => exact absurd (show false = true from hs) Bool.false_ne_true
  | str i =>
    obtain ⟨t, rfl⟩ := rx
    cases y with
    | non => cases ry; exact PySem.EqNone.eq_str_none (fin_bl I q (by simp))
    | bl j => cases ry; exact PySem.EqMixed.eq_str_bool (fin_bl I q (by simp))
    | int j => obtain ⟨t', rfl⟩ := ry; exact PySem.EqMixed.eq_str_int (fin_bl I q (by simp))
    | str j => obtain ⟨t', rfl⟩ := ry; exact eq_str (fin_bl I q dec_str)
    | _ => exact absurd (show false = true from hs) Bool.false_ne_true
  | byt i =>
    obtain ⟨t, rfl⟩ := rx
    cases y with
    | byt j => obtain ⟨t', rfl⟩ := ry; exact PySem.W.eq_bytes (fin_bl I q dec_byt)
    | _ => exact absurd (show false = true from hs) Bool.false_ne_true
  | _ => cases y <;> exact absurd (show false = true from hs) Bool.false_ne_true
theorem op_ne : OpR X (compareOp .NotEq) rNe := by
  intro pins s σ H x y v u Q I rx ry h
  obtain ⟨hs, q⟩ := h
  cases x with
  | non =>
    cases rx
    cases y with
    | non => cases ry; exact PySem.EqNone.ne_none_none (fin_bl I q (by simp))
    | bl j => cases ry; exact PySem.EqNone.ne_none_bool (fin_bl I q (by simp))
    | int j => obtain ⟨t', rfl⟩ := ry; exact PySem.EqNone.ne_none_int (fin_bl I q (by simp))
    | str j => obtain ⟨t', rfl⟩ := ry; exact PySem.EqNone.ne_none_str (fin_bl I q (by simp))
    | _ => exact absurd (show false = true from hs) Bool.false_ne_true
  | bl i =>
    cases rx
    cases y with
    | non => cases ry; exact PySem.EqNone.ne_bool_none (fin_bl I q (by simp))
    | bl j => cases ry; exact ne_bool (fin_bl I q (congrArg not dec_bl))
    | str j => obtain ⟨t', rfl⟩ := ry; exact PySem.EqMixed.ne_bool_str (fin_bl I q (by simp))
    | _ => exact absurd (show false = true from hs) Bool.false_ne_true
  | int i =>
    obtain ⟨t, rfl⟩ := rx
    cases y with
    | non => cases ry; exact PySem.EqNone.ne_int_none (fin_bl I q (by simp))
    | int j => obtain ⟨t', rfl⟩ := ry; exact ne_int (fin_bl I q (congrArg not dec_int))
    | str j => obtain ⟨t', rfl⟩ := ry; exact PySem.EqMixed.ne_int_str (fin_bl I q (by simp))
    | _ => exact absurd (show false = true from hs) Bool.false_ne_true
  | str i =>
    obtain ⟨t, rfl⟩ := rx
    cases y with
    | non => cases ry; exact PySem.EqNone.ne_str_none (fin_bl I q (by simp))
    | bl j => cases ry; exact PySem.EqMixed.ne_str_bool (fin_bl I q (by simp))
    | int j => obtain ⟨t', rfl⟩ := ry; exact PySem.EqMixed.ne_str_int (fin_bl I q (by simp))
    | str j => obtain ⟨t', rfl⟩ := ry; exact ne_str (fin_bl I q (congrArg not dec_str))
    | _ => exact absurd (show false = true from hs) Bool.false_ne_true
  | byt i =>
    obtain ⟨t, rfl⟩ := rx
    cases y with
    | byt j => obtain ⟨t', rfl⟩ := ry; exact PySem.W.ne_bytes (fin_bl I q (congrArg not dec_byt))
    | _ => exact absurd (show false = true from hs) Bool.false_ne_true
  | _ => cases y <;> exact absurd (show false = true from hs) Bool.false_ne_true
theorem op_lt : OpR X (compareOp .Lt) (rI0 fun i j => .bl (decide (i < j))) := opB0 fun _ _ _ _ _ _ _ q => lt_int q
theorem op_le : OpR X (compareOp .LtE) (rI0 fun i j => .bl (decide (i ≤ j))) := opB0 fun _ _ _ _ _ _ _ q => le_int q
theorem op_gt : OpR X (compareOp .Gt) (rI0 fun i j => .bl (decide (j < i))) := opB0 fun _ _ _ _ _ _ _ q => gt_int q
theorem nomark (b : Expr) {op : CmpOp} (h : op ≠ .In := by decide) (h2 : op ≠ .NotIn := by decide) : behindInMarks op b = false := by
  have e1 : (op == CmpOp.In) = false := by cases op <;> first | rfl | exact absurd rfl h
  have e2 : (op == CmpOp.NotIn) = false := by cases op <;> first | rfl | exact absurd rfl h2
  cases b <;> simp [behindInMarks, e1, e2]
theorem pe_cmpR {op : CmpOp} {r : R2} (ho : OpR X (compareOp op) r) (ha : PE X a ta) (hb : PE X b tb) (hm : behindInMarks op b = false) : PE X (.Compare a [op] [b] pos) (tOp r ta tb) := by
  intro pins s σ H Q I h
  exact wpAny_Compare1 (binT ha hb I h fun v u s2 x y H2 I2 rx ry q => ho pins s2 σ H2 x y v u Q I2 rx ry q) hm
def tTest (t : TE) : TT := fun σ H Q => t σ H fun x H' => ∃ k, x = .bl k ∧ Q k H'
theorem pt_cmpR {op : CmpOp} {r : R2} (ho : OpR X (compareOp op) r) (ha : PE X a ta) (hb : PE X b tb) (hm : behindInMarks op b = false) : PT X (.Compare a [op] [b] pos) (tTest (tOp r ta tb)) := by
  intro pins s σ H Q I h
  refine wpAny_isTrue_Compare1 (thn (ha pins s σ H _ I h) fun v s1 ⟨x, H1, I1, r1, q1⟩ => thn (hb pins s1 σ H1 _ I1 q1) fun u s2 ⟨y, H2, I2, r2, q2⟩ =>
    thn (ho pins s2 σ H2 x y v u _ I2 r1 r2 q2) fun c s3 ⟨z, H3, I3, r3, k, e, q3⟩ => ?_) hm
  subst e
  cases r3
  exact wpAny_truthy_bool ⟨H3, I3, q3⟩
def TruV (K : PySem.W.Frag) (x : V) (H : Hp) (k : Bool) : Prop :=
  match x with
  | .non => k = false
  | .bl b => k = b
  | .int i => k = (i != 0)
  | .str y => y.length ≤ sizeLine ∧ k = ((y.length : Int) != 0)
  | .byt y => y.size ≤ sizeLine ∧ k = ((y.size : Int) != 0)
  | .ref p => (∃ xs, SqL K H p xs ∧ k = !xs.isEmpty) ∨ (∃ xs, SqT K H p xs ∧ k = !xs.isEmpty) ∨ ∃ kvs, H p = some (.dK kvs) ∧ k = !kvs.isEmpty
  | _ => False
theorem isEmpty_kv {κ : Type} {kvs : List (κ × V)} {vs : List (κ × Value)} (r : KV kvs vs) : (!vs.isEmpty) = !kvs.isEmpty := by
  cases r <;> rfl
theorem isEmpty_of {xs : List V} {its : List Value} (r : Vals xs its) : (!its.toArray.isEmpty) = !xs.isEmpty := by
  cases r <;> simp
theorem line63 : (sizeLine : Nat) < 2 ^ 63 := by rw [sizeLine_eq]; decide
theorem tru_ok : TruR X (fun x H Q => ∃ k, TruV X.K x H k ∧ Q k H) := by
  intro pins s σ H x v Q I rx h
  obtain ⟨k, e, q⟩ := h
  have hl := line63
  have hs : sizeLine = 16777216 := sizeLine_eq
  cases x with
  | non =>
    cases rx
    have e' : k = false := e
    subst e'
    exact truthy_none ⟨H, I, q⟩
  | bl b =>
    cases rx
    have e' : k = b := e
    subst e'
    exact wpAny_truthy_bool ⟨H, I, q⟩
  | int i =>
    obtain ⟨t, rfl⟩ := rx
    have e' : k = (i != 0) := e
    subst e'
    exact PySem.P.truthy_int ⟨H, I, q⟩
  | str y =>
    obtain ⟨t, rfl⟩ := rx
    obtain ⟨hy, e'⟩ : y.length ≤ sizeLine ∧ k = ((y.length : Int) != 0) := e
    subst e'
    exact PySem.P.truthy_str (by omega) ⟨H, I.tok _, q⟩
  | byt y =>
    obtain ⟨t, rfl⟩ := rx
    obtain ⟨hy, e'⟩ : y.size ≤ sizeLine ∧ k = ((y.size : Int) != 0) := e
    subst e'
    exact PySem.W.truthy_bytes (by omega) ⟨H, I.tok _, q⟩
  | ref p =>
    cases rx
    have e' : (∃ xs, SqL X.K H p xs ∧ k = !xs.isEmpty) ∨ (∃ xs, SqT X.K H p xs ∧ k = !xs.isEmpty) ∨ ∃ kvs, H p = some (.dK kvs) ∧ k = !kvs.isEmpty := e
    rcases e' with ⟨xs, hx, e'⟩ | ⟨xs, hx, e'⟩ | ⟨kvs, hx, e'⟩
    · subst e'
      obtain ⟨its, r, pl, hz⟩ := I.list hx
      have hlen := r.length
      exact wpAny_truthy_list pl.isList (by simp only [List.size_toArray]; omega) ⟨H, I.tok _, by rw [isEmpty_of r]; exact q⟩
    · subst e'
      obtain ⟨its, r, pl, hz⟩ := I.tuple hx
      have hlen := r.length
      exact truthy_tuple pl (by simp only [List.size_toArray]; omega) ⟨H, I.tok _, by rw [isEmpty_of r]; exact q⟩
    · subst e'
      obtain ⟨hz, hS, vs, r, m⟩ : kvs.length ≤ sizeLine ∧ (p == sysModules) = false ∧ ∃ vs, KV kvs vs ∧ s.heap.DictOf (mixKind X.prog X.w) p vs := I.hok p _ hx
      have hlen : kvs.length = vs.length := Paired.length r
      exact wpAny_truthy_dict hS m (by omega) ⟨H, I.tok _, by rw [isEmpty_kv r]; exact q⟩
  | _ => exact (show False from e).elim
theorem pt_truth (ha : PE X a ta) (he : ∀ whole, isTrue a X.env whole = (do let v ← whole; standAt a.pos; holding [v] (truthy v))) :
    PT X a (fun σ H Q => ta σ H fun x H' => ∃ k, TruV X.K x H' k ∧ Q k H') := by
  intro pins s σ H Q I h
  exact isTrue_plain (thn (ha pins s σ H _ I h) fun v s1 ⟨x, H1, I1, r1, q1⟩ => tru_ok pins s1 σ H1 x v Q I1 r1 q1) (he _)
theorem vals1 {x : V} {us : List Value} (r : Vals [x] us) : ∃ u, us = [u] ∧ RelV x u := by
  cases r with
  | cons r1 r2 => cases r2; exact ⟨_, rfl, r1⟩
theorem vals2 {x y : V} {us : List Value} (r : Vals [x, y] us) : ∃ u w', us = [u, w'] ∧ RelV x u ∧ RelV y w' := by
  cases r with
  | cons r1 r2 =>
    cases r2 with
    | cons r3 r4 => cases r4; exact ⟨_, _, rfl, r1, r3⟩
theorem call_abs : CallR X (.builtin "abs") (fun xs H Q => ∃ i, xs = [.int i] ∧ Q (.int (if i < 0 then -i else i)) H) := by
  intro pins s σ H xs us Q I r h
  obtain ⟨i, rfl, q⟩ := h
  obtain ⟨u, rfl, t, rfl⟩ := vals1 r
  exact call_abs_int fun u tk => ⟨.int (if i < 0 then -i else i), H, I.tok _, ⟨_, rfl⟩, q⟩
end
end L2
namespace L2
open PySem PySem.Spec PyProof.Rows
structure ObjM (h : Heap) (x dx C : Addr) (mA : Str → Option Value) : Prop where
  obj : h.get? x = some (PySem.W.instObj C dx)
  ns : h.Ns1 dx mA
  ne : dx ≠ x
theorem lookIn_ns {h : Heap} {dx : Addr} {mA : Str → Option Value} (n : h.Ns1 dx mA) : ∃ od, h.get? dx = some od ∧ ∀ name, PySem.W.lookIn name od = some (mA name) := by
  obtain ⟨o, es, ep, ho, hd, hk, _, hm⟩ := n
  refine ⟨o, ho, fun name => ?_⟩
  have e := hm name
  unfold nsFind findBy at e
  rw [← Array.find?_toList] at e
  unfold PySem.W.lookIn
  rw [hd]
  dsimp only
  split
  · rename_i y q
    rw [q] at e
    exact congrArg some e
  · rename_i q
    rw [q] at e
    have a : es.toList.any (·.refKey) = false := by
      rw [List.any_eq_false]
      intro y hy
      obtain ⟨z, t, hkey⟩ := hk y (Array.mem_toList_iff.mp hy)
      simp [DictEntry.refKey, hkey]
    have a' : ¬ es.toList.any (·.refKey) = true := by rw [a]; exact Bool.false_ne_true
    rw [if_neg a']
    exact congrArg some e
theorem ObjM.look {h : Heap} {x dx C : Addr} {mA : Str → Option Value} (I : ObjM h x dx C mA) : ∃ od, PySem.W.InstAt h x (PySem.W.instObj C dx) C (some od) ∧ ∀ name, PySem.W.lookIn name od = some (mA name) :=
  let ⟨od, ho, hl⟩ := lookIn_ns I.ns
  ⟨od, ⟨I.obj, rfl, rfl, ho⟩, hl⟩
section
variable {prog : Program} {w : World} {A : Around} {E : Value → Shared → Prop} {s : Shared} {K : PySem.W.Frag} {x dx C f : Addr} {mA : Str → Option Value} {name : Str} {v : Value}
end
theorem RelO.some_of {v : V} {o : Option Value} (r : RelO (some v) o) : ∃ u, o = some u ∧ RelV v u := by
  cases o with
  | none => exact (show False from r).elim
  | some u => exact ⟨u, rfl, r⟩
section
variable {P : Program} {w : World} {H H' : Hp} {h h' : Heap} {a C dx : Addr} {fs fs' : List (Str × V)}
theorem ins_get (hok : HOk P w H h) (e : H a = some (.ins C dx fs)) : ∃ mA, ObjM h a dx C mA ∧ (∀ f, RelO (fs.lookup f) (mA f)) ∧ PySem.Within mA (fs.map (·.1)) ∧ fs.length ≤ 1000 ∧ H dx = some (.own a) := by
  obtain ⟨d, z, ne, ob, mA, n, r, q⟩ := (show ObjOk P w H h a (.ins C dx fs) from hok a _ e)
  exact ⟨mA, ⟨ob, n, ne⟩, r, q, z, d⟩
end
structure Cls (K : PySem.W.Frag) (C : Addr) : Prop where
  pg : PySem.W.plainGet K C Str.empty = true
  hd : PySem.W.hasDictIn K C = true
  po : PySem.W.plainOver K C = true
  sa : PySem.W.findIn K (.ref C) "__setattr__" = some (some (.builtin "object.__setattr__"))
theorem Cls.get {K : PySem.W.Frag} {C : Addr} (c : Cls K C) (f : Str) : PySem.W.plainGet K C f = true := c.pg
structure Con (K : PySem.W.Frag) (C : Addr) (f : Str) (v : V) (u : Value) : Prop where
  at_ : PySem.W.findIn K (.ref C) f = some (some u)
  rel : RelV v u
  get : PySem.W.specialIn K u "__get__" = some none
  cp : PySem.W.copiedNames.contains f = false
structure Meth (K : PySem.W.Frag) (C : Addr) (m : Str) (f : Addr) : Prop where
  at_ : PySem.W.findIn K (.ref C) m = some (some (.ref f))
  fn : PySem.W.isFn K (.ref f) = true
  kp : PySem.W.keepIn K (.ref f) = true
section
variable {X : Cx} {pins : List (Addr × Obj)} {σ : St} {H : Hp} {s : Shared} {a C dx : Addr} {fs : List (Str × V)} {f : Str} {v : V} {A : Around} {E : Value → Shared → Prop}
theorem Inv.made (I : Inv X pins σ H s) : Inv X pins σ (upd (upd H s.heap.objs.size (.own (s.heap.objs.size + 1))) (s.heap.objs.size + 1) (.ins C s.heap.objs.size []))
    { s with heap := (s.heap.push PySem.W.emptyDict).push (PySem.W.instObj C s.heap.objs.size) } := by
  have e1 : (s.heap.push PySem.W.emptyDict).get? s.heap.objs.size = some PySem.W.emptyDict := Heap.get?_push_size s.heap rfl
  have e2 : ((s.heap.push PySem.W.emptyDict).push (PySem.W.instObj C s.heap.objs.size)).get? (s.heap.objs.size + 1) = some (PySem.W.instObj C s.heap.objs.size) := by
    have := Heap.get?_push_size (s.heap.push PySem.W.emptyDict) (o := PySem.W.instObj C s.heap.objs.size) rfl
    rwa [Heap.size_push] at this
  have e3 : (s.heap.push PySem.W.emptyDict).Ns s.heap.objs.size (fun _ => none) := ⟨PySem.W.emptyDict, #[], _, e1, rfl, (fun e he => absurd he (by simp)), fun _ => rfl⟩
  have I1 := I.laid (a := s.heap.objs.size) (o := .own (s.heap.objs.size + 1)) (h' := s.heap.push PySem.W.emptyDict) (t' := s.toks) (fun b u q => Heap.get?_push_of_some _ q) (Nat.le_refl _) ⟨_, e1⟩
  refine I1.laid (a := s.heap.objs.size + 1) (o := .ins C s.heap.objs.size []) (t' := s.toks) (fun b u q => Heap.get?_push_of_some _ q) (Nat.le_of_eq (Heap.size_push _ _)) ?_
  have ne : s.heap.objs.size ≠ s.heap.objs.size + 1 := Nat.ne_of_lt (Nat.lt_succ_self _)
  refine ⟨by rw [upd_ne ne, upd_same], Nat.zero_le _, ne, e2, fun _ => none, (Heap.Ns1.of_empty e3).at fun o q => Heap.get?_push_of_some _ q, fun _ => True.intro, fun y hy => absurd rfl hy⟩
end
section
variable {X : Cx} {o e value : Expr} {f : Str} {pos pos' tpos : Pos} {ta tv : TE}
end
section
variable {X : Cx} {pins : List (Addr × Obj)} {σ : St} {H : Hp} {s : Shared} {A : Around} {E : Value → Shared → Prop} {Q : Value → Shared → Prop} {c : Value} {b : Bool}
inductive TyOf (K : PySem.W.Frag) (H : Hp) : V → Value → Prop where
  | non : TyOf K H .non (.type "NoneType")
  | bl (x : Bool) : TyOf K H (.bl x) (.type "bool")
  | int (i : Int) : TyOf K H (.int i) (.type "int")
  | str (x : Str) : TyOf K H (.str x) (.type "str")
  | flt (x : UInt64) : TyOf K H (.flt x) (.type "float")
  | lst {a : Addr} {xs : List V} (e : H a = some (.lst xs)) : TyOf K H (.ref a) (.type "list")
  | frz {a : Addr} {o : Obj} {xs : List V} (e : H a = some (.frz o (.lst xs))) : TyOf K H (.ref a) (.type "list")
  | tup {a : Addr} {xs : List V} (e : H a = some (.tup xs)) : TyOf K H (.ref a) (.type "tuple")
  | dK {a : Addr} {kvs : List (Key × V)} (e : H a = some (.dK kvs)) : TyOf K H (.ref a) (.type "dict")
  | dT {a : Addr} {kvs : List (List Key × V)} (e : H a = some (.dT kvs)) : TyOf K H (.ref a) (.type "dict")
  | ins {a C dx : Addr} {fs : List (Str × V)} (e : H a = some (.ins C dx fs)) (cl : Cls K C) (ha : PySem.W.findIn K (.ref C) "__class__" = some (some (.builtin "object.__class__")))
      (hn : PySem.W.specialIn K (.builtin "object.__class__") "__get__" = some (some (.builtin "getset_descriptor.__get__"))) (htk : PySem.W.takesIn K (.builtin "object.__class__") = some true)
      (hm : PySem.W.mroIn K C (.type "object") = some true) : TyOf K H (.ref a) (.ref C)
theorem isinst_ok {x : V} {u t : Value} (I : Inv X pins σ H s) (rx : RelV x u) (ty : TyOf X.K H x t) (e : PySem.W.kitOne X.K t c = some b) (h : ∀ tk, Q (.bool b) { s with toks := tk }) :
    wpAny (model X.prog X.w) A (call (.builtin "isinstance") [u, c]) Q E s := by
  cases ty with
  | non => cases (show u = Value.none from rx); exact PySem.W.kia_one PySem.W.kitx_none I.kIn True.intro e (fun z => nomatch z) h
  | bl y => cases (show u = Value.bool y from rx); exact PySem.W.kia_one PySem.W.kitx_bool I.kIn True.intro e (fun z => nomatch z) h
  | int i => obtain ⟨t, q⟩ := (show ∃ t, u = Value.int i t from rx); cases q; exact PySem.W.kia_one PySem.W.kitx_int I.kIn True.intro e (fun z => nomatch z) h
  | str y => obtain ⟨t, q⟩ := (show ∃ t, u = Value.str y t from rx); cases q; exact PySem.W.kia_one PySem.W.kitx_str I.kIn True.intro e (fun z => nomatch z) h
  | flt y => obtain ⟨t, q⟩ := (show ∃ t, u = Value.float y t from rx); cases q; exact PySem.W.kia_one PySem.W.kitx_float I.kIn True.intro e (fun z => nomatch z) h
  | @lst a xs ea =>
    cases (show u = Value.ref a from rx)
    obtain ⟨_, _, n, _, h1⟩ := (show ObjOk X.prog X.w H s.heap a (.lst xs) from I.hok a _ ea)
    exact PySem.W.kia_one PySem.W.kitx_list I.kIn ⟨_, h1, rfl⟩ e (fun z => nomatch z) h
  | @frz a ob xs ea =>
    cases (show u = Value.ref a from rx)
    obtain ⟨_, _, _, n, _, h1⟩ := (show ObjOk X.prog X.w H s.heap a (.frz ob (.lst xs)) from I.hok a _ ea)
    exact PySem.W.kia_one PySem.W.kitx_list I.kIn ⟨_, h1, rfl⟩ e (fun z => nomatch z) h
  | @tup a xs ea =>
    cases (show u = Value.ref a from rx)
    obtain ⟨_, _, _, p⟩ := (show ObjOk X.prog X.w H s.heap a (.tup xs) from I.hok a _ ea)
    obtain ⟨o, h1, h2, _⟩ := p
    exact PySem.W.kia_one PySem.W.kitx_tuple I.kIn ⟨o, h1, h2⟩ e (fun z => nomatch z) h
  | @dK a kvs ea =>
    cases (show u = Value.ref a from rx)
    obtain ⟨_, _, vs, _, p⟩ := (show ObjOk X.prog X.w H s.heap a (.dK kvs) from I.hok a _ ea)
    obtain ⟨o, es, ep, h1, h2, _⟩ := p
    exact PySem.W.kia_one PySem.W.kitx_dict I.kIn ⟨o, h1, h2.1⟩ e (fun z => nomatch z) h
  | @dT a kvs ea =>
    cases (show u = Value.ref a from rx)
    obtain ⟨_, _, xs, _, o, es, ep, h1, h2, _⟩ := (show ObjOk X.prog X.w H s.heap a (.dT kvs) from I.hok a _ ea)
    exact PySem.W.kia_one PySem.W.kitx_dict I.kIn ⟨o, h1, h2.1⟩ e (fun z => nomatch z) h
  | @ins a C dx fs ea cl ha hn htk hm =>
    cases (show u = Value.ref a from rx)
    obtain ⟨mA, O, _⟩ := ins_get I.hok ea
    obtain ⟨od, J, _⟩ := O.look
    exact PySem.W.kia_one (PySem.W.kitx_own (cl.get _) cl.hd ha hn htk hm) I.kIn J e (fun z => nomatch z) h
end
end L2
namespace L2
open PySem PySem.Spec PyProof.Rows
structure Room (k : Nat) (A : Around) : Prop where
  hd : A.handled = none
  dp : A.depth + 3 * k + 5 < recursionLimit
  un : A.units + 16 * k + 200 < cLine
theorem Room.mono {j k : Nat} {A : Around} (r : Room k A) (h : j ≤ k) : Room j A := ⟨r.hd, by have := r.dp; omega, by have := r.un; omega⟩
theorem Room.deeper {k : Nat} {A : Around} (r : Room (k + 1) A) (env : Env) : Room k (A.deeper env) :=
  ⟨r.hd, by have := r.dp; show A.depth + 1 + 3 * k + 5 < _; omega, by have := r.un; show A.units + 3 + 16 * k + 200 < _; omega⟩
theorem Room.in1 {k : Nat} {A : Around} (r : Room (k + 1) A) : Room k A.in1 :=
  ⟨r.hd, by have := r.dp; show A.depth + 3 * k + 5 < _; omega, by have := r.un; show A.units + 1 + 16 * k + 200 < _; omega⟩
theorem Room.depth {k : Nat} {A : Around} (r : Room k A) : A.depth < recursionLimit := by have := r.dp; omega
theorem Room.units {k : Nat} {A : Around} (r : Room k A) : A.units + 64 < cLine := by have := r.un; omega
def tNil : TA := fun _ H Q => Q [] H
def tCons (ta : TE) (tr : TA) : TA := fun σ H Q => ta σ H fun x H1 => tr σ H1 fun xs H2 => Q (x :: xs) H2
section
variable {X : Cx} {e : Expr} {es : List Expr} {te : TE} {t : TA} {pos : Pos}
theorem pa_nil : PA X [] tNil := fun _ _ _ _ H Q I h => Calls.spliced_nil ⟨[], H, I, .nil, h⟩
theorem pa_cons (ha : PE X e te) (hr : PA X es t) (hs : starEach (e :: es) X.env = (false, eval e X.env) :: starEach es X.env := by rfl) : PA X (e :: es) (tCons te t) := by
  intro pos pins s σ H Q I h
  rw [hs]
  show wpAny _ _ (spliced ((false, eval e X.env) :: backTo pos (starEach es X.env))) _ _ s
  refine Calls.spliced_cons (thn (ha pins s σ H _ I h) fun u s1 ⟨x, H1, I1, r1, q1⟩ => ?_)
  exact thn (hr pos pins s1 σ H1 _ I1 q1) fun us s2 ⟨xs, H2, I2, r2, q2⟩ => ⟨x :: xs, H2, I2, .cons r1 r2, q2⟩
def tTup (t : TA) : TE := fun σ H Q => t σ H fun xs H1 => xs.length ≤ sizeLine ∧ ∀ p, H1 p = none → Q (.ref p) (upd H1 p (.tup xs))
def tLst (t : TA) : TE := fun σ H Q => t σ H fun xs H1 => xs.length ≤ sizeLine ∧ ∀ p, H1 p = none → Q (.ref p) (upd H1 p (.lst xs))
theorem pe_tup {x1} (h : PA X es t) : PE X (.Tuple es x1 pos) (tTup t) := by
  intro pins s σ H Q I hq
  refine wpAny_Tuple_spliced (thn (h pos pins s σ H _ I hq) fun us s1 ⟨xs, H1, I1, r, z, q⟩ => ⟨by rw [← r.length]; exact z, ?_⟩)
  have hf : H1 s1.heap.objs.size = none := I1.hok.fresh (Nat.le_refl _)
  refine ⟨.ref s1.heap.objs.size, upd H1 s1.heap.objs.size (.tup xs), I1.laid (t' := s1.toks) (fun b u e => Heap.get?_push_of_some _ e) (Nat.le_refl _) ?_, rfl, q _ hf⟩
  exact ⟨z, us, r, ⟨_, Heap.get?_push_size _ rfl, rfl, _, rfl⟩⟩
theorem pe_lst (h : PA X es t) : PE X (.List es pos) (tLst t) := by
  intro pins s σ H Q I hq
  refine wpAny_List_spliced (thn (h pos pins s σ H _ I hq) fun us s1 ⟨xs, H1, I1, r, z, q⟩ => ⟨by rw [← r.length]; exact z, ?_⟩)
  have hf : H1 s1.heap.objs.size = none := I1.hok.fresh (Nat.le_refl _)
  refine ⟨.ref s1.heap.objs.size, upd H1 s1.heap.objs.size (.lst xs), I1.laid (t' := s1.toks) (fun b u e => Heap.get?_push_of_some _ e) (Nat.le_refl _) ?_, rfl, q _ hf⟩
  exact ⟨z, us, 0, r, Heap.get?_push_size _ rfl⟩
end
abbrev Sp := List V → Hp → VK → XK → Prop
abbrev CXT := List Env → Hp → Shared → XK → Value → Shared → Prop
structure Env0 (P : Program) (w : World) (K : PySem.W.Frag) (mg : Str → Option Value) (base : Heap) (A : Around) (outer : List Env) (s : Shared) (H : Hp) : Prop where
  frames : A.frames = some outer
  mod : Mod K mg base
  bs : ∀ b o, base.get? b = some o → s.heap.get? b = some o ∧ H b = none
  bsz : base.objs.size ≤ s.heap.objs.size
  funs : s.heap.FunFrames base outer
  frf : ∀ b ∈ frs outer, H b = none
  hok : HOk P w H s.heap
  bare : AllBare s.gens
def CE (outer : List Env) (P : Program) (w : World) (H : Hp) (s : Shared) (Q : VK) (u : Value) (s' : Shared) : Prop :=
  ∃ v H', s'.os = s.os ∧ AllBare s'.gens ∧ Un (frs outer) [] H H' s.heap s'.heap ∧ HOk P w H' s'.heap ∧ RelV v u ∧ Q v H'
def CR (CX : CXT) (outer : List Env) (P : Program) (w : World) (H : Hp) (s : Shared) (Q : VK) (E : XK) (r : Result) (s' : Shared) : Prop :=
  match r with
  | .ok (.ret u) => CE outer P w H s Q u s'
  | .ok _ => False
  | .error e => CX outer H s E e s'
structure FnOk (P : Program) (w : World) (K : PySem.W.Frag) (mg : Str → Option Value) (base : Heap) (CX : CXT) (k : Nat) (f : Addr) (fd : FuncData) (ps : List Str) (sp : Sp) : Prop where
  len : ∀ vs H Q E, sp vs H Q E → vs.length = ps.length
  run : ∀ (A : Around) (outer : List Env) (s : Shared) (H : Hp) (args : Args) (us : List Value) (vs : List V) (Q : VK) (E : XK), Room k A → Env0 P w K mg base A outer s H → BindsTo s fd args (ps.zip us) → Vals vs us → sp vs H Q E →
    codeAny (model P w) A (.call (.ref f) args) (CR CX outer P w H s Q E) s
theorem FnOk.mono {P : Program} {w : World} {K : PySem.W.Frag} {mg : Str → Option Value} {base : Heap} {CX : CXT} {j k : Nat} {f : Addr} {fd : FuncData} {ps : List Str} {sp : Sp} (F : FnOk P w K mg base CX j f fd ps sp) (h : j ≤ k) :
    FnOk P w K mg base CX k f fd ps sp := ⟨F.len, fun A outer s H args us vs Q E hr => F.run A outer s H args us vs Q E (hr.mono h)⟩
theorem FnOk.imp {P : Program} {w : World} {K : PySem.W.Frag} {mg : Str → Option Value} {base : Heap} {CX : CXT} {k : Nat} {f : Addr} {fd : FuncData} {ps : List Str} {sp sp' : Sp} (F : FnOk P w K mg base CX k f fd ps sp)
    (h : ∀ vs H Q E, sp' vs H Q E → sp vs H Q E) : FnOk P w K mg base CX k f fd ps sp' :=
  ⟨fun vs H Q E q => F.len vs H Q E (h _ _ _ _ q), fun A outer s H args us vs Q E hr he hb hv hs => F.run A outer s H args us vs Q E hr he hb hv (h _ _ _ _ hs)⟩
theorem Env0.in1 {P : Program} {w : World} {K : PySem.W.Frag} {mg : Str → Option Value} {base : Heap} {A : Around} {outer : List Env} {s : Shared} {H : Hp} (e : Env0 P w K mg base A outer s H) :
    Env0 P w K mg base A.in1 outer s H := ⟨e.frames, e.mod, e.bs, e.bsz, e.funs, e.frf, e.hok, e.bare⟩
section
variable {X : Cx} {pins : List (Addr × Obj)} {σ : St} {H : Hp} {s s' : Shared}
theorem Inv.env0 (I : Inv X pins σ H s) : Env0 X.prog X.w X.K X.mg X.base X.A X.stack s H :=
  ⟨I.ok.frames, I.ok.mod, I.bs, Nat.le_trans I.ok.bsz I.sz, I.stack, I.stkFree, I.hok, I.bare⟩
theorem Inv.after {Q : VK} {u : Value} (I : Inv X pins σ H s) (h : CE X.stack X.prog X.w H s Q u s') : EP X pins σ Q u s' := by
  obtain ⟨v, H', os, bare, un, hok, r, q⟩ := h
  obtain ⟨hh, g, d, t, os'⟩ := s'
  obtain rfl : os' = s.os := os
  exact ⟨v, H', I.call (h' := hh) (g' := g) (d' := d) (t' := t) (ch := []) un hok bare (fun b z => absurd z (by simp)), r, q⟩
end
def tCall (sp : Sp) (dvs : List V) (E : XK) (t : TA) : TE := fun σ H Q => t σ H fun vs H1 => sp (vs ++ dvs) H1 Q E
def Binds (K : PySem.W.Frag) (fd : FuncData) (ps : List Str) (ds : List Value) : Prop :=
  ∀ (s : Shared) (us : List Value), K.In s.heap → (us ++ ds).length = ps.length → BindsTo s fd ⟨us, []⟩ (ps.zip (us ++ ds))
theorem Binds.all {K : PySem.W.Frag} {fd : FuncData} {ps : List Str} (h : ∀ us : List Value, us.length = ps.length → bindArgs fd ⟨us, []⟩ = pure (ps.zip us)) : Binds K fd ps [] := fun s us _ hl => by
  rw [List.append_nil] at hl ⊢
  exact .of_eq (h us hl)
def Passes (CX : CXT) (X : Cx) (E : XK) : Prop := ∀ (pins : List (Addr × Obj)) (σ : St) (H : Hp) (s : Shared) (e : Value) (s' : Shared), Inv X pins σ H s → CX X.stack H s E e s' → X.xe e s'
section
variable {X : Cx} {CX : CXT} {k : Nat} {f C : Addr} {fd : FuncData} {ps : List Str} {sp : Sp} {dvs : List V} {ds : List Value} {E : XK} {x m : Str} {p pos apos : Pos} {e o : Expr} {es : List Expr} {ta : TE} {t : TA}
theorem run_fn {pins : List (Addr × Obj)} {σ : St} {H : Hp} {s : Shared} {Q : VK} {us : List Value} {vs : List V} (F : FnOk X.prog X.w X.K X.mg X.base CX k f fd ps sp) (hr : Room k X.A) (hb : Binds X.K fd ps ds) (hd : Vals dvs ds) (hx : Passes CX X E)
    (I : Inv X pins σ H s) (r : Vals vs us) (h : sp (vs ++ dvs) H Q E) : wpAny (model X.prog X.w) X.A (call (.ref f) us) (EP X pins σ Q) X.xe s := by
  have r2 : Vals (vs ++ dvs) (us ++ ds) := r.append hd
  have hl : (us ++ ds).length = ps.length := by rw [← r2.length]; exact F.len _ _ _ _ h
  refine wpAny_call (codeAny_mono (F.run X.A X.stack s H ⟨us, []⟩ (us ++ ds) (vs ++ dvs) Q E hr I.env0 (hb s us I.kIn hl) r2 h) fun r s' hq => ?_)
  cases r with
  | error e => exact hx pins σ H s e s' I hq
  | ok fl =>
    cases fl with
    | ret u => exact I.after hq
    | next => exact False.elim hq
    | brk => exact False.elim hq
    | cont => exact False.elim hq
theorem pe_call (F : FnOk X.prog X.w X.K X.mg X.base CX k f fd ps sp) (hr : Room k X.A) (hg : Gl X x) (hm : X.mg x = some (.ref f)) (hk : PySem.W.keepIn X.K (.ref f) = true) (hb : Binds X.K fd ps ds) (hd : Vals dvs ds) (hx : Passes CX X E)
    (ha : PA X (e :: es) t) (hdb : (x == ("__debug__" : Str)) = false := by decide) (he : starEach (e :: es) X.env = (false, eval e X.env) :: starEach es X.env := by rfl) (hpl : (backTo pos (starEach es X.env)).any (·.1) = false := by rfl) :
    PE X (.Call (.Name x p) (e :: es) [] pos) (tCall sp dvs E t) := by
  intro pins s σ H Q I h
  refine wpAny_Call_Name_kw (ld_glob I hg hm ?_ hdb)
  refine PySem.W.callWith_K (h₀ := X.base) I.ok.mod.kin hk (thn (ha pos pins s σ H _ I h) fun us s1 ⟨vs, H1, I1, r, q⟩ => ⟨I1.kIn, ?_⟩) he hpl
  exact run_fn F hr hb hd hx I1 r q
structure Mk (K : PySem.W.Frag) (C f : Addr) : Prop where
  makes : PySem.W.makesIn K C = true
  init : PySem.W.findIn K (.ref C) "__init__" = some (some (.ref f))
  fn : PySem.W.isFn K (.ref f) = true
  kp : PySem.W.keepIn K (.ref C) = true
end
def PK (X : Cx) (kws : List Keyword) (t : TA) : Prop :=
  ∀ (pos : Pos) (pins : List (Addr × Obj)) (s : Shared) (σ : St) (H : Hp) (Q : List V → Hp → Prop), Inv X pins σ H s → t σ H Q → wpAny (model X.prog X.w) X.A (evalAll ((backToKw pos (keywordEach kws X.env)).map (·.2))) (AP X pins σ Q) X.xe s
section
variable {X : Cx} {CX : CXT} {k : Nat} {f C : Addr} {fd : FuncData} {ps ks : List Str} {sp : Sp} {E : XK} {x m : Str} {p pos apos kpos : Pos} {e o : Expr} {es : List Expr} {kws : List Keyword} {te ta : TE} {t tk : TA} {nm : Option Str}
theorem pk_nil : PK X [] tNil := fun _ _ _ _ H Q I h => wpAny_evalAll_nil ⟨[], H, I, .nil, h⟩
theorem pk_cons (ha : PE X e te) (hr : PK X kws t) : PK X (⟨nm, e, kpos⟩ :: kws) (tCons te t) := by
  intro pos pins s σ H Q I h
  show wpAny _ _ (evalAll ((do let v ← eval e X.env; standAt pos; pure v) :: (backToKw pos (keywordEach kws X.env)).map (·.2))) _ _ s
  refine wpAny_evalAll_cons (wpAny_bind (thn (ha pins s σ H _ I h) fun u s1 ⟨x, H1, I1, r1, q1⟩ => wpAny_bind (wpAny_standAt (wpAny_pure ?_))))
  exact thn (hr pos pins s1 σ H1 _ I1 q1) fun us s2 ⟨xs, H2, I2, r2, q2⟩ => ⟨x :: xs, H2, I2, .cons r1 r2, q2⟩
structure KBinds (K : PySem.W.Frag) (fd : FuncData) (ps ks : List Str) (g : List Value → List Value → List Value) (gV : List V → List V → List V) : Prop where
  to : ∀ (s : Shared) (us ws : List Value), K.In s.heap → (g us ws).length = ps.length → BindsTo s fd ⟨us, ks.zip ws⟩ (ps.zip (g us ws))
  rel : ∀ {vs : List V} {us : List Value} {zs : List V} {ws : List Value}, Vals vs us → Vals zs ws → Vals (gV vs zs) (g us ws)
variable {g : List Value → List Value → List Value} {gV : List V → List V → List V}
end
structure FnScope (N P : List Str) (sc : Scope) : Prop where
  kind : sc.kind = .function
  co : sc.isCoroutine = false
  gen : sc.isGenerator = false
  nd : N.Nodup
  pre : N.take P.length = P
  par : ∀ x ∈ P, sc.names.lookup x = some .local ∨ sc.names.lookup x = some .cell
  nofree : ∀ y ∈ sc.names, y.2 ≠ .free
theorem bindL_out {kindOf : Str → Option NameKind} {x : Str} : ∀ {binds : List (Str × Value)} {m : Str → Option Value}, (∀ v, (x, v) ∉ binds) → bindL kindOf binds m x = m x
  | [], _, _ => rfl
  | (n, v) :: r, m, h => by
    unfold bindL
    rw [bindL_out fun w hw => h w (List.mem_cons_of_mem _ hw)]
    split
    · have : x ≠ n := by rintro rfl; exact h v List.mem_cons_self
      simp [this]
    · rfl
theorem bindC_out {kindOf : Str → Option NameKind} {x : Str} : ∀ {binds : List (Str × Value)} {m : Str → Option Value}, (∀ v, (x, v) ∉ binds) → bindC kindOf binds m x = m x
  | [], _, _ => rfl
  | (n, v) :: r, m, h => by
    unfold bindC
    rw [bindC_out fun w hw => h w (List.mem_cons_of_mem _ hw)]
    split
    · rfl
    · have : x ≠ n := by rintro rfl; exact h v List.mem_cons_self
      simp [this]
theorem bindL_get {kindOf : Str → Option NameKind} {x : Str} {v : Value} : ∀ {P : List Str} {vs : List Value} {i : Nat} {m : Str → Option Value}, P.Nodup → P[i]? = some x → vs[i]? = some v → kindOf x = some .local →
    bindL kindOf (P.zip vs) m x = some v
  | [], _, _, _, _, h, _, _ => by simp at h
  | _ :: _, [], _, _, _, _, h, _ => by simp at h
  | p :: P, w :: vs, 0, m, nd, h1, h2, hk => by
    simp at h1 h2; subst h1; subst h2
    show bindL kindOf ((p, w) :: P.zip vs) m p = _
    unfold bindL
    rw [bindL_out fun v hv => (List.nodup_cons.mp nd).1 (List.of_mem_zip hv).1, if_pos hk]
    simp
  | p :: P, w :: vs, i + 1, m, nd, h1, h2, hk => by
    show bindL kindOf ((p, w) :: P.zip vs) m x = _
    unfold bindL
    exact bindL_get (i := i) (List.nodup_cons.mp nd).2 (by simpa using h1) (by simpa using h2) hk
theorem bindC_get {kindOf : Str → Option NameKind} {x : Str} {v : Value} : ∀ {P : List Str} {vs : List Value} {i : Nat} {m : Str → Option Value}, P.Nodup → P[i]? = some x → vs[i]? = some v → kindOf x ≠ some .local →
    bindC kindOf (P.zip vs) m x = some v
  | [], _, _, _, _, h, _, _ => by simp at h
  | _ :: _, [], _, _, _, _, h, _ => by simp at h
  | p :: P, w :: vs, 0, m, nd, h1, h2, hk => by
    simp at h1 h2; subst h1; subst h2
    show bindC kindOf ((p, w) :: P.zip vs) m p = _
    unfold bindC
    rw [bindC_out fun v hv => (List.nodup_cons.mp nd).1 (List.of_mem_zip hv).1, if_neg hk]
    simp
  | p :: P, w :: vs, i + 1, m, nd, h1, h2, hk => by
    show bindC kindOf ((p, w) :: P.zip vs) m x = _
    unfold bindC
    exact bindC_get (i := i) (List.nodup_cons.mp nd).2 (by simpa using h1) (by simpa using h2) hk
def start (N : List Str) (vs : List V) : St := vs.map some ++ List.replicate (N.length - vs.length) none
def cxOf (CX : CXT) (P : Program) (w : World) (K : PySem.W.Frag) (mg : Str → Option Value) (base : Heap) (N : List Str) (qual : Str) (scope : Scope) (f : Addr) (cd : Value) (A : Around) (outer : List Env) (s : Shared) (H : Hp) (E : XK) : Cx where
  prog := P
  w := w
  K := K
  mg := mg
  base := base
  A := A.deeper (envOfC qual scope s.heap.objs.size f cd)
  N := N
  s₀ := s
  H₀ := H
  env := envOfC qual scope s.heap.objs.size f cd
  outer := outer
  stack := envOfC qual scope s.heap.objs.size f cd :: outer
  ex := []
  calm := true
  fn := fun _ => true
  pn := []
  xe := fun e s' => wpAny (model P w) (A.deeper (envOfC qual scope s.heap.objs.size f cd)) (leaving (envOfC qual scope s.heap.objs.size f cd) e) (fun _ s'' => CX outer H s E e s'') (fun e' s'' => CX outer H s E e' s'') s'
theorem cell_has {sc : Scope} {n : Nat} {x : Str} (h : sc.names.lookup x = some .cell) : ∃ c, (cellsFrom n sc.names []).lookup x = some c := by
  have q := PySem.W.cellsFrom_some sc.names n [] (.inl h)
  exact Option.isSome_iff_exists.mp q
theorem inv_start {CX : CXT} {P : Program} {w : World} {K : PySem.W.Frag} {mg : Str → Option Value} {base : Heap} {N ps : List Str} {qual : Str} {scope : Scope} {f : Addr} {cd : Value} {A : Around} {outer : List Env} {s s1 : Shared} {H : Hp} {E : XK} {us : List Value} {vs : List V}
    (S : FnScope N ps scope) (hd : A.handled = none) (e0 : Env0 P w K mg base A outer s H) (hl : vs.length = ps.length) (r : Vals vs us)
    (x : InCallC s s.heap.objs.size (bindL (envOfC qual scope s.heap.objs.size f cd).kindOf (ps.zip us) fun _ => none) (cellsFrom (s.heap.objs.size + 1) scope.names []) (bindC (envOfC qual scope s.heap.objs.size f cd).kindOf (ps.zip us) fun _ => none) s1) :
    Inv (cxOf CX P w K mg base N qual scope f cd A outer s H E) [] (start N vs) H s1 := by
  have hpl : ps.length ≤ N.length := by have := congrArg List.length S.pre; rw [List.length_take] at this; omega
  obtain ⟨h1, tk, rfl, hk⟩ := x.done
  have noA : ∀ b : Addr, b ∉ (cxOf CX P w K mg base N qual scope f cd A outer s H E).ex := fun b z => absurd (show b ∈ ([] : List Addr) from z) (by simp)
  refine ⟨⟨e0.mod, S.kind, rfl, rfl, Nat.le_refl _, fun y z c h1 h2 => ?_, fun y hy => ?_, fun y c _ h => ?_, fun _ => hd, Around.frames_deeper e0.frames, .inr ⟨rfl, rfl⟩, fun b z => absurd z (noA b), e0.bs, e0.bsz, fun b _ _ => noA b, fun b z => absurd z (noA b), e0.funs, e0.frf⟩,
    rfl, e0.bare, Un.kept hk, ⟨_, x.toInCall.ns, fun i y v h1 h2 h3 => ?_⟩, fun y c h => ⟨_, x.cell y c h⟩, e0.hok.fresh (Nat.le_refl _), fun y c h => ?_, fun p hp => absurd (show p ∈ ([] : List (Addr × Obj)) from hp) (by simp), e0.hok.kept hk, ?_⟩
  · exact name_of_addr x.apart (PySem.mem_of_lookup h1) (PySem.mem_of_lookup h2)
  · have hy : scope.names.lookup y = some .cell ∨ scope.names.lookup y = some .free := hy
    rcases hy with hy | hy
    · exact cell_has hy
    · exact absurd rfl (S.nofree _ (PySem.mem_of_lookup hy))
  · exact Nat.le_of_lt (x.above y c (PySem.mem_of_lookup h))
  · have hi : i < vs.length := by
      unfold start at h2
      by_cases hi : i < vs.length
      · exact hi
      · rw [List.getElem?_append_right (by simpa using hi)] at h2
        rw [List.getElem?_replicate] at h2
        split at h2 <;> cases h2
    have ha : vs[i]? = some v := by
      unfold start at h2
      rw [List.getElem?_append_left (by simpa using hi), List.getElem?_map] at h2
      cases e : vs[i]? with
      | none => rw [e] at h2; cases h2
      | some a => rw [e] at h2; cases h2; rfl
    obtain ⟨u, hu, rv⟩ := r.get ha
    have hp : ps[i]? = some y := by
      rw [← S.pre, List.getElem?_take_of_lt (by omega)]; exact h1
    have ndP : ps.Nodup := by rw [← S.pre]; exact S.nd.sublist (List.take_sublist _ _)
    refine ⟨u, rv, ?_⟩
    rcases S.par y (List.mem_of_getElem? hp) with k | k
    · exact .inl ⟨k, bindL_get ndP hp hu k⟩
    · obtain ⟨c, e⟩ := cell_has (n := s.heap.objs.size + 1) k
      refine .inr ⟨.inl k, c, e, ?_⟩
      have q := x.cell y c e
      rw [bindC_get ndP hp hu (by show scope.names.lookup y ≠ _; rw [k]; decide)] at q
      exact q
  · exact e0.hok.fresh (Nat.le_of_lt (x.above y c (PySem.mem_of_lookup h)))
  · unfold start
    show _ = N.length
    rw [List.length_append, List.length_map, List.length_replicate]
    omega
theorem fn_of {CX : CXT} {P : Program} {w : World} {K : PySem.W.Frag} {mg : Str → Option Value} {base : Heap} {k : Nat} {f : Addr} {name qual : Str} {params : Arguments} {body : List Stmt} {scope : Scope} {dV kV doc pm cdv ct oc : Value} {an od : Option Addr}
    {osl : Array (Option Value)} {N ps : List Str} {sp : Sp} (lk : K.lookup f = some ⟨oc, od, .func (PySem.W.fnOf name qual params body scope dV kV doc pm an cdv ct), osl⟩) (hcd : PySem.W.codeIn K cdv qual = true) (S : FnScope N ps scope)
    (len : ∀ vs H Q E, sp vs H Q E → vs.length = ps.length)
    (hbody : ∀ (A : Around) (outer : List Env) (s : Shared) (H : Hp) (vs : List V) (Q : VK) (E : XK), Room k (A.deeper (envOfC qual scope s.heap.objs.size f cdv)) → sp vs H Q E →
      ∃ t, PSs (cxOf CX P w K mg base N qual scope f cdv A outer s H E) body t ∧ t { nx := fun _ H' => Q .non H', rt := Q } (start N vs) H) :
    FnOk P w K mg base CX (k + 1) f (PySem.W.fnOf name qual params body scope dV kV doc pm an cdv ct) ps sp := by
  refine ⟨len, fun A outer s H args us vs Q E hr e0 hb r hsp => ?_⟩
  have hl := len _ _ _ _ hsp
  have KX : K.In s.heap := e0.mod.kin.keeps fun b o e => (e0.bs b o e).1
  have lim : s.heap.NoLimit := e0.mod.nolimit.keeps fun b o e => (e0.bs b o e).1
  have hkind : ∀ y ∈ ps.zip us, scope.names.lookup y.1 = some .local ∨ (scope.names.lookup y.1 = some .cell ∧ ((cellsFrom (s.heap.objs.size + 1) scope.names []).lookup y.1).isSome = true) := fun ⟨n, v⟩ hy => by
    rcases S.par n (List.of_mem_zip hy).1 with q | q
    · exact .inl q
    · exact .inr ⟨q, PySem.W.cellsFrom_some _ _ _ (.inl q)⟩
  refine codeAny_call_function hr.depth (KX _ _ lk) rfl S.co S.gen rfl (PySem.W.codeRec_of KX hcd) (hb _ _ _ _ ?_)
  refine wpAny_newFunctionEnv_cells S.kind hkind fun env he s1 x => ?_
  subst he
  refine ⟨lim.keeps x.toInCall.keep, codeAny_func ?_⟩
  obtain ⟨t, ht, hq⟩ := hbody A outer s H vs Q E (hr.deeper _) hsp
  have I : Inv (cxOf CX P w K mg base N qual scope f cdv A outer s H E) [] (start N vs) H s1 := inv_start S hr.hd e0 hl r x
  refine wpAny_mono (ht [] s1 (start N vs) H _ I hq) (fun fl s' hs => ?_) fun e s' hs => hs
  have fin : ∀ {σ' : St} {H' : Hp} {v : V} {u : Value}, Inv (cxOf CX P w K mg base N qual scope f cdv A outer s H E) [] σ' H' s' → RelV v u → Q v H' → CE outer P w H s Q u s' :=
    fun {σ' H' v u} J rv q => ⟨v, H', J.os, J.bare, J.base, J.hok, rv, q⟩
  cases fl with
  | ret u =>
    obtain ⟨v, σ', H', J, rv, q⟩ := hs
    exact fin J rv q
  | next =>
    obtain ⟨σ', H', J, q⟩ := hs
    exact fin (v := V.non) (u := Value.none) J rfl q
  | brk =>
    obtain ⟨_, _, _, q⟩ := hs
    exact False.elim q
  | cont =>
    obtain ⟨_, _, _, q⟩ := hs
    exact False.elim q
end L2
namespace L2
open PySem PySem.Spec PyProof.Rows
section
variable {X : Cx} {x : Str} {p pos : Pos} {e : Expr} {es : List Expr} {t : TA} {id T : String} {r : List V → Hp → VK → Prop}
def tCB (r : List V → Hp → VK → Prop) (t : TA) : TE := fun σ H Q => t σ H fun vs H1 => r vs H1 Q
theorem pe_callB (hc : CallR X (.builtin id) r) (hg : Gl X x) (hm : X.mg x = none) (hv : bootBuiltins x = some (.builtin id)) (ha : PA X (e :: es) t) (hn : x ≠ "__name__" := by decide) (hdb : (x == ("__debug__" : Str)) = false := by decide)
    (he : starEach (e :: es) X.env = (false, eval e X.env) :: starEach es X.env := by rfl) (hpl : (backTo pos (starEach es X.env)).any (·.1) = false := by rfl) : PE X (.Call (.Name x p) (e :: es) [] pos) (tCB r t) := by
  intro pins s σ H Q I h
  refine wpAny_Call_Name_kw (ld_blt I hg hm hv ?_ hn hdb)
  exact PyProof.Rows.callWith_builtin1 (thn (ha pos pins s σ H _ I h) fun us s1 ⟨vs, H1, I1, r1, q1⟩ => hc pins s1 σ H1 vs us Q I1 r1 q1) he hpl
theorem pe_callTy (hc : CallR X (.type T) r) (hg : Gl X x) (hm : X.mg x = none) (hv : bootBuiltins x = some (.type T)) (ha : PA X (e :: es) t) (hn : x ≠ "__name__" := by decide) (hdb : (x == ("__debug__" : Str)) = false := by decide)
    (he : starEach (e :: es) X.env = (false, eval e X.env) :: starEach es X.env := by rfl) (hpl : (backTo pos (starEach es X.env)).any (·.1) = false := by rfl) : PE X (.Call (.Name x p) (e :: es) [] pos) (tCB r t) := by
  intro pins s σ H Q I h
  refine wpAny_Call_Name_kw (ld_blt I hg hm hv ?_ hn hdb)
  exact PyProof.Rows.callWith_type1 (thn (ha pos pins s σ H _ I h) fun us s1 ⟨vs, H1, I1, r1, q1⟩ => hc pins s1 σ H1 vs us Q I1 r1 q1) he hpl
end
end L2
namespace HT
open PySem PyProof.Rows
section
open PySem.SeqAt
open PySem.AutoSeq1 (wpAny_loadPart')
open PySem.MeetsSeq PySem.MeetsSeq2 PySem.MeetsSeq3
end
section
variable {prog : Program} {w : World} {A : Around} {E : Value → Shared → Prop} {s : Shared}
theorem cat_tup {t b : Addr} {vs ws : List Value} {Q : Value → Shared → Prop} (ht : IsTup s.heap t vs.toArray) (hb : IsTup s.heap b ws.toArray) (hv : vs ≠ [])
    (h1 : ws = [] → Q (.ref t) s) (h2 : ws ≠ [] → Q (.ref s.heap.objs.size) { s with heap := s.heap.push { cls := .type "tuple", data := .seq (vs ++ ws).toArray } })
    (hsz : vs.length + ws.length ≤ sizeLine) : wpAny (model prog w) A (binaryOp .Add (.ref t) (.ref b)) Q E s := by
  obtain ⟨⟨cls, dd, data, sl⟩, ho, hc, n, hd⟩ := id ht
  obtain ⟨⟨cls2, dd2, data2, sl2⟩, ho2, hc2, n2, hd2⟩ := id hb
  simp only at hc hd hc2 hd2
  subst hc hd hc2 hd2
  have e : vs.toArray ++ ws.toArray = (vs ++ ws).toArray := by simp
  by_cases hw : ws = []
  · exact concat_meets ⟨_, ho, rfl⟩ ⟨_, ho2, rfl⟩ noFill_tuple_add seq_tuple_add PySem.F.slot_tuple_add PySem.F.entry_tuple_add (PySem.F.args_tuple_add_2 _ _)
      (tuple_addW1 t b vs.toArray ws.toArray n n2 dd dd2 sl sl2 (by simpa using hv) (by simp [hw])) ⟨ho, ho2, h1 hw⟩
  · refine concat_meets ⟨_, ho, rfl⟩ ⟨_, ho2, rfl⟩ noFill_tuple_add seq_tuple_add PySem.F.slot_tuple_add PySem.F.entry_tuple_add (PySem.F.args_tuple_add_2 _ _)
      (tuple_addW2 t b vs.toArray ws.toArray n n2 dd dd2 sl sl2 (by simpa using hv) (by simpa using hw) (by rw [List.size_toArray, List.size_toArray]; exact hsz)) ⟨ho, ho2, ?_⟩
    rw [e]
    exact h2 hw
def sIx (n d : Nat) : Option Int → Nat
  | none => d
  | some v => if v < 0 then (v + (n : Int)).toNat else min v.toNat n
theorem sIx_none (n d : Nat) : sIx n d none = d := rfl
theorem sIx_nat (n d k : Nat) : sIx n d (some (k : Int)) = min k n := by
  show (if (k : Int) < 0 then ((k : Int) + (n : Int)).toNat else min (k : Int).toNat n) = min k n
  rw [if_neg (by omega), Int.toNat_natCast]
theorem sIx_le (n d : Nat) (hd : d ≤ n) (o : Option Int) : sIx n d o ≤ n := by
  cases o with
  | none => exact hd
  | some v =>
    show (if v < 0 then (v + (n : Int)).toNat else min v.toNat n) ≤ n
    by_cases hv : v < 0
    · rw [if_pos hv]; omega
    · rw [if_neg hv]; exact Nat.min_le_right _ _
theorem clip_eq (v : Int) (n d : Nat) : (if v < 0 then max (v + (n : Int)) 0 else min v (n : Int)) = ((sIx n d (some v) : Nat) : Int) := by
  show (if v < 0 then max (v + (n : Int)) 0 else min v (n : Int)) = (((if v < 0 then (v + (n : Int)).toNat else min v.toNat n) : Nat) : Int)
  by_cases hv : v < 0
  · simp only [if_pos hv]; omega
  · simp only [if_neg hv]; omega
theorem adjust_gen (lo hi : Option Int) (n : Nat) : Builtin.Slice.sliceAdjust lo hi 1 (n : Int) = (((sIx n 0 lo : Nat) : Int), ((sIx n n hi : Nat) : Int)) := by
  have h1 : ¬ ((1 : Int) < 0) := by omega
  unfold Builtin.Slice.sliceAdjust
  simp only [h1, if_false]
  refine Prod.ext ?_ ?_
  · cases lo with
    | none => rfl
    | some v => exact clip_eq v n 0
  · cases hi with
    | none => rfl
    | some v => exact clip_eq v n n
theorem places_gen (i j : Nat) : Builtin.Slice.slicePlaces (i : Int) (j : Int) 1 = j - i := by
  unfold Builtin.Slice.slicePlaces
  have h1 : (1 : Int) > 0 := by omega
  simp only [h1, if_true, Int.ediv_one]
  split <;> omega
theorem slicePart_ {v : Value} {o : Option Int} {Q : Option Int → Shared → Prop} (p : IsPart v o) (h : Q o s) : wpAny (model prog w) A (Builtin.Slice.slicePartIndex v) Q E s := by
  cases p with
  | none => exact slicePart_none h
  | int i t => exact slicePart_int h
theorem sliceApplied_gen {sl : Addr} {vl vu : Value} {lo hi : Option Int} {n : Nat} {Q : Int × Int × Nat → Shared → Prop} (hs : s.heap.IsSliceOf sl vl vu .none) (pl : IsPart vl lo) (pu : IsPart vu hi)
    (h : Q (((sIx n 0 lo : Nat) : Int), 1, sIx n n hi - sIx n 0 lo) s) : wpAny (model prog w) A (Builtin.Slice.sliceApplied (.ref sl) (pure (n : Int))) Q E s := by
  obtain ⟨os, hos, hcs, hds⟩ := id hs
  unfold Builtin.Slice.sliceApplied Builtin.Slice.sliceFields
  refine wpAny_bind (wpAny_bind (wpAny_field hos hds (x := vl) rfl (wpAny_bind (wpAny_field hos hds (x := vu) rfl (wpAny_bind (wpAny_field hos hds (x := .none) rfl (wpAny_pure ?_)))))))
  refine wpAny_bind (slicePart_none ?_)
  show wpAny _ _ (if ((1 : Int) == 0) = true then _ else _) _ _ s
  rw [if_neg (by decide)]
  refine wpAny_bind (slicePart_ pl (wpAny_bind (slicePart_ pu (wpAny_bind (wpAny_pure ?_)))))
  show wpAny _ _ (match Builtin.Slice.sliceAdjust lo hi 1 (n : Int) with | (lo, hi) => pure (lo, (1 : Int), Builtin.Slice.slicePlaces lo hi 1)) _ _ s
  rw [adjust_gen lo hi n]
  show wpAny _ _ (pure (((sIx n 0 lo : Nat) : Int), (1 : Int), Builtin.Slice.slicePlaces ((sIx n 0 lo : Nat) : Int) ((sIx n n hi : Nat) : Int) 1)) _ _ s
  rw [places_gen]
  exact wpAny_pure h
theorem pick_gen (xs : Array Value) (i k : Nat) : ((List.range k).filterMap fun (m : Nat) => xs[((i : Int) + (m : Int) * 1).toNat]?).toArray = ((xs.toList.drop i).take k).toArray := by
  have e : (fun (m : Nat) => xs[((i : Int) + (m : Int) * 1).toNat]?) = fun m => xs[i + m]? := by
    funext m
    have : ((i : Int) + (m : Int) * 1).toNat = i + m := by omega
    rw [this]
  rw [e]
  have := pick_run xs i k
  rw [List.filterMap_map] at this
  have e2 : ((fun x => xs[x]?) ∘ fun x => i + x) = fun m => xs[i + m]? := rfl
  rw [e2] at this
  rw [this]
theorem getItem_tuple_cut {t sl : Addr} {items : Array Value} {vl vu : Value} {lo hi : Option Int} {Q : Value → Shared → Prop} (ht : IsTup s.heap t items) (hs : s.heap.IsSliceOf sl vl vu .none) (pl : IsPart vl lo) (pu : IsPart vu hi)
    (hw : ¬ (sIx items.size 0 lo = 0 ∧ sIx items.size items.size hi = items.size))
    (h : Q (.ref s.heap.objs.size) { s with heap := s.heap.push { cls := .type "tuple", data := .seq ((items.toList.drop (sIx items.size 0 lo)).take (sIx items.size items.size hi - sIx items.size 0 lo)).toArray } })
    (hsz : items.size ≤ sizeLine) : wpAny (model prog w) A (getItem (.ref t) (.ref sl)) Q E s := by
  have htake : sizeOk (.seq ((items.toList.drop (sIx items.size 0 lo)).take (sIx items.size items.size hi - sIx items.size 0 lo)).toArray) := by
    show ((items.toList.drop (sIx items.size 0 lo)).take (sIx items.size items.size hi - sIx items.size 0 lo)).toArray.size ≤ sizeLine
    rw [List.size_toArray, List.length_take, List.length_drop, Array.length_toList]
    omega
  have hj : sIx items.size items.size hi ≤ items.size := sIx_le _ _ (Nat.le_refl _) hi
  obtain ⟨os, hos, hcs, hds⟩ := id hs
  have hTs : s.TypeIs (.ref sl) "slice" := ⟨os, hos, hcs⟩
  unfold getItem
  try with_reducible refine wpAny_holding ?_
  first | refine wpAny_bind (wpAny_pure ?_) | skip
  refine wpAny_bind (wpAny_sequenceKey ht.typeIs (by decide) ?_)
  refine wpAny_bind (wpAny_callSpecial?_slot (name := Str.ofString "__getitem__") ht.typeIs PyProof.Rows.slot_tuple_getitem
    (wpAny_call_entry PyProof.Rows.slot_tuple_getitem ht.typeIs entry_tuple_getitem ?_ (args_tuple_getitem _ _)))
  show wpAny _ _ (Builtin.Tuple.tupleItemsOf (.ref t) >>= _) _ _ s
  refine wpAny_bind (tupleItemsOf_ ht ?_)
  refine wpAny_bind (wpAny_typeOf hTs ?_)
  rw [if_pos (by decide)]
  refine wpAny_bind (sliceApplied_gen hs pl pu ?_)
  have hno : ¬ ((((sIx items.size 0 lo : Nat) : Int) == 0 && (1 : Int) == 1 && (sIx items.size items.size hi - sIx items.size 0 lo) == items.size) = true) := by
    intro q
    rw [Bool.and_eq_true, Bool.and_eq_true] at q
    have q1 : ((sIx items.size 0 lo : Nat) : Int) = 0 := eq_of_beq q.1.1
    have q2 : sIx items.size items.size hi - sIx items.size 0 lo = items.size := eq_of_beq q.2
    exact hw ⟨by omega, by omega⟩
  show wpAny _ _ (if (((sIx items.size 0 lo : Nat) : Int) == 0 && (1 : Int) == 1 && (sIx items.size items.size hi - sIx items.size 0 lo) == items.size) = true then _ else _) _ _ s
  rw [if_neg hno, pick_gen]
  first
    | exact wpAny_bind (m := Builtin.Tuple.tupleExact _) (wpAny_newObj_type (wpAny_pure ⟨_, rfl, wpAny_pure h⟩) htake)
    | exact wpAny_bind (m := Builtin.Tuple.tupleExact _) (wpAny_newObj_type (wpAny_bind (wpAny_pure (wpAny_pure ⟨_, rfl, wpAny_pure h⟩))) htake)
    | exact wpAny_bind (wpAny_bind (m := Builtin.Tuple.tupleExact _) (wpAny_newObj_type (wpAny_pure (wpAny_pure ⟨_, rfl, wpAny_pure h⟩)) htake))
    | exact wpAny_bind (wpAny_bind (m := Builtin.Tuple.tupleExact _) (wpAny_newObj_type (wpAny_pure ⟨_, rfl, wpAny_pure h⟩) htake))
end
end HT
namespace L2
open PySem PySem.Spec PyProof.Rows
abbrev TO := St → Hp → (Option Int → Hp → Prop) → Prop
def PO (X : Cx) (e : Option Expr) (t : TO) : Prop :=
  ∀ (pins : List (Addr × Obj)) (s : Shared) (σ : St) (H : Hp) (Q : Option Int → Hp → Prop), Inv X pins σ H s → t σ H Q →
    wpAny (model X.prog X.w) X.A (evalPart e X.env) (fun u s' => ∃ o H', Inv X pins σ H' s' ∧ IsPart u o ∧ Q o H') X.xe s
def tNoPart : TO := fun _ H Q => Q none H
def tPart (t : TE) : TO := fun σ H Q => t σ H fun x H1 => ∃ i, x = .int i ∧ Q (some i) H1
section
variable {X : Cx} {e : Expr} {te : TE} {lo hi : Option Expr} {tl th : TO} {pos p2 : Pos}
theorem po_none : PO X none tNoPart := by
  intro pins s σ H Q I h
  rw [evalPart_none]
  exact wpAny_pure ⟨none, H, I, .none, h⟩
theorem po_some (h : PE X e te) : PO X (some e) (tPart te) := by
  intro pins s σ H Q I hw
  rw [evalPart_some]
  refine thn (h pins s σ H _ I hw) fun u s1 ⟨x, H1, I1, r1, q1⟩ => ?_
  obtain ⟨i, rfl, q⟩ := q1
  obtain ⟨t, rfl⟩ := r1
  exact ⟨some i, H1, I1, .int i t, q⟩
def SlR (X : Cx) (r : V → Option Int → Option Int → Hp → VK → Prop) : Prop :=
  ∀ (pins : List (Addr × Obj)) (s : Shared) (σ : St) (H : Hp) (x : V) (v vl vu : Value) (lo hi : Option Int) (sl : Addr) (Q : VK), Inv X pins σ H s → RelV x v → s.heap.IsSliceOf sl vl vu .none → IsPart vl lo → IsPart vu hi → r x lo hi H Q →
    ∃ T id, typeLookup (.type T) "__getitem__" = pure (some (.builtin id)) ∧ s.TypeIs v T ∧ wpAny (model X.prog X.w) X.A (getItem v (.ref sl)) (EP X pins σ Q) X.xe s
def tSl (r : V → Option Int → Option Int → Hp → VK → Prop) (te : TE) (tl th : TO) : TE := fun σ H Q => te σ H fun x H1 => tl σ H1 fun l H2 => th σ H2 fun u H3 => r x l u H3 Q
theorem pe_slice {r : V → Option Int → Option Int → Hp → VK → Prop} (hr : SlR X r) (he : PE X e te) (hl : PO X lo tl) (hu : PO X hi th) : PE X (.Subscript e (.Slice lo hi none p2) pos) (tSl r te tl th) := by
  intro pins s σ H Q I h
  refine Subscript_ (thn (he pins s σ H _ I h) fun v s1 ⟨x, H1, I1, r1, q1⟩ => ?_)
  refine wpAny_Slice (thn (hl pins s1 σ H1 _ I1 q1) fun vl s2 ⟨l, H2, I2, pl, q2⟩ => thn (hu pins s2 σ H2 _ I2 q2) fun vu s3 ⟨u, H3, I3, pu, q3⟩ => ?_)
  rw [evalPart_none]
  refine wpAny_pure ?_
  have I4 : Inv X pins σ H3 { s3 with heap := s3.heap.push { cls := .type "slice", data := .fields #[vl, vu, .none] } } := I3.kept (t' := s3.toks) fun b ob q => Heap.get?_push_of_some _ q
  obtain ⟨T, id, hT, ht, hg⟩ := hr pins { s3 with heap := s3.heap.push { cls := .type "slice", data := .fields #[vl, vu, .none] } } σ H3 x v vl vu l u s3.heap.objs.size Q I4 r1 (Heap.IsSliceOf.new ..) pl pu q3
  show wpAny (model X.prog X.w) X.A (subscriptTail e (.Slice lo hi none p2) v (.ref s3.heap.objs.size)) (EP X pins σ Q) X.xe { s3 with heap := s3.heap.push { cls := .type "slice", data := .fields #[vl, vu, .none] } }
  exact tail_any (ops := [.ref s3.heap.objs.size, v]) ht hT hg (by with_unfolding_all rfl)
def cutV (xs : List V) (lo hi : Option Int) : List V := (xs.drop (HT.sIx xs.length 0 lo)).take (HT.sIx xs.length xs.length hi - HT.sIx xs.length 0 lo)
theorem cutV_length (xs : List V) (lo hi : Option Int) : (cutV xs lo hi).length ≤ xs.length := by
  unfold cutV
  rw [List.length_take, List.length_drop]
  omega
def rSlT (K : PySem.W.Frag) : V → Option Int → Option Int → Hp → VK → Prop := fun x lo hi H Q => ∃ a xs, x = .ref a ∧ SqT K H a xs ∧
  ¬ (HT.sIx xs.length 0 lo = 0 ∧ HT.sIx xs.length xs.length hi = xs.length) ∧ ∀ p, H p = none → Q (.ref p) (upd H p (.tup (cutV xs lo hi)))
theorem sl_tup : SlR X (rSlT X.K) := by
  intro pins s σ H x v vl vu lo hi sl Q I rx hs pl pu h
  obtain ⟨a, xs, rfl, hx, hw, q⟩ := h
  cases rx
  obtain ⟨its, r, ht, hz⟩ := I.tuple hx
  have hlen : its.toArray.size = xs.length := by rw [List.size_toArray]; exact r.length.symm
  refine ⟨"tuple", _, PyProof.Rows.slot_tuple_getitem.lookup, ht.typeIs, ?_⟩
  refine HT.getItem_tuple_cut ht hs pl pu (by rw [hlen]; exact hw) ?_ (by rw [hlen]; exact hz)
  rw [hlen]
  refine ⟨.ref s.heap.objs.size, _, I.laid (t' := s.toks) (o := .tup (cutV xs lo hi)) (fun b ob q => Heap.get?_push_of_some _ q) (Nat.le_refl _) ?_, rfl, q _ (I.hok.fresh (Nat.le_refl _))⟩
  exact ⟨Nat.le_trans (cutV_length xs lo hi) hz, _, (r.drop (HT.sIx xs.length 0 lo)).take (HT.sIx xs.length xs.length hi - HT.sIx xs.length 0 lo), IsTup.new _ _⟩
def rCatT (K : PySem.W.Frag) : R2 := fun x y H Q => ∃ a b xs ys, x = .ref a ∧ y = .ref b ∧ SqT K H a xs ∧ SqT K H b ys ∧ xs ≠ [] ∧ xs.length + ys.length ≤ sizeLine ∧
  (ys = [] → Q (.ref a) H) ∧ (ys ≠ [] → ∀ p, H p = none → Q (.ref p) (upd H p (.tup (xs ++ ys))))
theorem Vals.nil_iff {xs : List V} {us : List Value} (r : Vals xs us) : us = [] ↔ xs = [] := by
  cases r with
  | nil => simp
  | cons _ _ => simp
theorem op_catT : OpR X (binaryOp .Add) (rCatT X.K) := by
  intro pins s σ H x y v u Q I rx ry h
  obtain ⟨a, b, xs, ys, rfl, rfl, ha, hb, hx, hz, q1, q2⟩ := h
  cases rx
  cases ry
  obtain ⟨its, r1, p1, _⟩ := I.tuple ha
  obtain ⟨its2, r2, p2, _⟩ := I.tuple hb
  refine HT.cat_tup p1 p2 (fun z => hx (r1.nil_iff.mp z)) (fun z => ⟨.ref a, H, I, rfl, q1 (r2.nil_iff.mp z)⟩) (fun z => ?_) (by rw [← r1.length, ← r2.length]; exact hz)
  refine ⟨.ref s.heap.objs.size, _, I.laid (t' := s.toks) (o := .tup (xs ++ ys)) (fun b ob q => Heap.get?_push_of_some _ q) (Nat.le_refl _) ?_, rfl, q2 (fun w => z (r2.nil_iff.mpr w)) _ (I.hok.fresh (Nat.le_refl _))⟩
  exact ⟨by rw [List.length_append]; exact hz, _, r1.append r2, IsTup.new _ _⟩
end
end L2
namespace L2
open PySem PySem.Spec PyProof.Rows
def ixN (n : Nat) (i : Int) : Option Nat := if 0 ≤ i then (if i < n then some i.toNat else none) else if -(n : Int) ≤ i then some (i + n).toNat else none
def atI {α : Type} (xs : List α) (i : Int) : Option α := (ixN xs.length i).bind fun j => xs[j]?
theorem ixN_seq {n : Nat} {i : Int} {j : Nat} (h : ixN n i = some j) : seqIndex? i n = some j ∧ j < n ∧ -(n : Int) ≤ i ∧ i < n := by
  unfold ixN at h
  by_cases h0 : 0 ≤ i
  · rw [if_pos h0] at h
    by_cases h1 : i < n
    · rw [if_pos h1] at h
      have e : i.toNat = j := Option.some.inj h
      exact ⟨by rw [seqIndex_of h0 h1, e], by omega, by omega, h1⟩
    · rw [if_neg h1] at h; cases h
  · rw [if_neg h0] at h
    by_cases h1 : -(n : Int) ≤ i
    · rw [if_pos h1] at h
      have e : (i + n).toNat = j := Option.some.inj h
      exact ⟨by rw [seqIndex_neg (by omega) h1, e], by omega, h1, by omega⟩
    · rw [if_neg h1] at h; cases h
theorem atI_get {α : Type} {xs : List α} {i : Int} {v : α} (h : atI xs i = some v) : ∃ j, seqIndex? i xs.length = some j ∧ xs[j]? = some v ∧ j < xs.length ∧ -(xs.length : Int) ≤ i ∧ i < xs.length := by
  unfold atI at h
  cases e : ixN xs.length i with
  | none => rw [e] at h; cases h
  | some j =>
    rw [e] at h
    obtain ⟨h1, h2, h3, h4⟩ := ixN_seq e
    exact ⟨j, h1, h, h2, h3, h4⟩
theorem atI_nat {α : Type} {xs : List α} {j : Nat} {v : α} (h : xs[j]? = some v) : atI xs (j : Int) = some v := by
  have hj : j < xs.length := (List.getElem?_eq_some_iff.mp h).1
  have e : ixN xs.length (j : Int) = some j := by
    unfold ixN
    rw [if_pos (by omega), if_pos (by omega)]; simp
  unfold atI; rw [e]; exact h
theorem atI_last {α : Type} (xs : List α) (v : α) : atI (xs ++ [v]) (-1) = some v := by
  have hl : (xs ++ [v]).length = xs.length + 1 := by simp
  have e : ixN (xs ++ [v]).length (-1) = some xs.length := by
    unfold ixN
    rw [hl, if_neg (by decide), if_pos (by omega)]
    congr 1
    omega
  unfold atI
  rw [e]
  show (xs ++ [v])[xs.length]? = some v
  simp
def PlainIx (b : Expr) : Prop := ∀ o i, subscripted b false o i = operate [o, i] (getItem o i)
def IxR (X : Cx) (r : R2) : Prop :=
  ∀ (value slice : Expr) (pins : List (Addr × Obj)) (s : Shared) (σ : St) (H : Hp) (x y : V) (v u : Value) (Q : VK), Inv X pins σ H s → RelV x v → RelV y u → r x y H Q →
    subscripted slice false v u = operate [v, u] (getItem v u) → wpAny (model X.prog X.w) X.A (subscriptTail value slice v u) (EP X pins σ Q) X.xe s
def MtR (X : Cx) (id : String) (r : V → List V → Hp → VK → Prop) : Prop :=
  ∀ (pins : List (Addr × Obj)) (s : Shared) (σ : St) (H : Hp) (x : V) (xs : List V) (v : Value) (us : List Value) (Q : VK), Inv X pins σ H s → RelV x v → Vals xs us → r x xs H Q →
    wpAny (model X.prog X.w) X.A (call (.builtin id) (v :: us)) (EP X pins σ Q) X.xe s
section
variable {X : Cx} {a b : Expr} {ta tb : TE} {pos : Pos}
theorem pe_ix {r : R2} (hr : IxR X r) (ha : PE X a ta) (hb : PE X b tb) (hs : PlainIx b) : PE X (.Subscript a b pos) (tOp r ta tb) := by
  intro pins s σ H Q I h
  exact Subscript_ (binT ha hb I h fun v u s2 x y H2 I2 rx ry q => hr a b pins s2 σ H2 x y v u Q I2 rx ry q (hs _ _))
def rIxL (K : PySem.W.Frag) : R2 := fun x y H Q => ∃ p xs i v, x = .ref p ∧ y = .int i ∧ SqL K H p xs ∧ atI xs i = some v ∧ Q v H
def rIxT (K : PySem.W.Frag) : R2 := fun x y H Q => ∃ p xs i v, x = .ref p ∧ y = .int i ∧ SqT K H p xs ∧ atI xs i = some v ∧ Q v H
theorem ix_list : IxR X (rIxL X.K) := by
  intro value slice pins s σ H x y v u Q I rx ry h hs
  obtain ⟨p, xs, i, z, rfl, rfl, hq, he, q⟩ := h
  cases rx
  obtain ⟨t, rfl⟩ := ry
  obtain ⟨its, r, pl, hz⟩ := I.list hq
  obtain ⟨j, h1, h2, h3, h4, h5⟩ := atI_get he
  obtain ⟨w, ew, rw'⟩ := r.get h2
  have hl := r.length
  have hn := line63
  have fin : EP X pins σ Q w s := ⟨z, H, I, rw', q⟩
  by_cases h0 : 0 ≤ i
  · have hj : i.toNat = j := by
      rw [seqIndex_of h0 h5] at h1
      exact Option.some.inj h1
    exact item_listR pl.isList h0 (by omega) (by rw [hj]; simpa using ew) fin hs
  · have hj : (i + (its.toArray.size : Int)).toNat = j := by
      rw [seqIndex_neg (by omega) h4] at h1
      rw [List.size_toArray, ← hl]
      exact Option.some.inj h1
    exact subscriptTail_builtinR (x := w) pl.isList.typeIs slot_list_getitem.lookup
      (wpAny_getItem_list_neg (Q := fun r s' => r = w ∧ EP X pins σ Q r s') pl.isList (by omega) (by rw [List.size_toArray] <;> omega) (by omega) (by rw [hj]; simpa using ew) ⟨rfl, fin⟩) hs
theorem ix_tup : IxR X (rIxT X.K) := by
  intro value slice pins s σ H x y v u Q I rx ry h hs
  obtain ⟨p, xs, i, z, rfl, rfl, hq, he, q⟩ := h
  cases rx
  obtain ⟨t, rfl⟩ := ry
  obtain ⟨its, r, pl, hz⟩ := I.tuple hq
  obtain ⟨j, h1, h2, h3, h4, h5⟩ := atI_get he
  obtain ⟨w, ew, rw'⟩ := r.get h2
  have hl := r.length
  have hn := line63
  have fin : EP X pins σ Q w s := ⟨z, H, I, rw', q⟩
  exact subscriptTail_builtinR (x := w) pl.typeIs slot_tuple_getitem.lookup
    (getItem_tuple (j := j) (Q := fun r s' => r = w ∧ EP X pins σ Q r s') pl (by omega) (by omega) (by rw [List.size_toArray, ← hl]; exact h1) (by simpa using ew) ⟨rfl, fin⟩) hs
theorem mapSeq_set (its : List Value) (n j : Nat) (u : Value) : Obj.mapSeq (·.setIfInBounds j u) { cls := .type "list", data := .seq its.toArray n } = { cls := .type "list", data := .seq (its.set j u).toArray n } := by
  simp [Obj.mapSeq]
theorem Inv.lst {pins : List (Addr × Obj)} {σ : St} {H : Hp} {s : Shared} {p : Addr} {xs : List V} (I : Inv X pins σ H s) (h : H p = some (.lst xs)) :
    ∃ (its : List Value) (n : Nat), Vals xs its ∧ s.heap.get? p = some { cls := .type "list", data := .seq its.toArray n } ∧ xs.length ≤ sizeLine := by
  obtain ⟨z, its, n, r, e⟩ := I.hok p _ h
  exact ⟨its, n, r, e, z⟩
theorem Inv.lstUpd {pins : List (Addr × Obj)} {σ : St} {H : Hp} {s : Shared} {p : Addr} {xs ys : List V} {its its' : List Value} {n n' : Nat} {f : Obj → Obj} (I : Inv X pins σ H s) (h : H p = some (.lst xs))
    (ho : s.heap.get? p = some { cls := .type "list", data := .seq its.toArray n }) (hf : f { cls := .type "list", data := .seq its.toArray n } = { cls := .type "list", data := .seq its'.toArray n' }) (r : Vals ys its') (hz : ys.length ≤ sizeLine) (t : Nat) :
    Inv X pins σ (upd H p (.lst ys)) { s with heap := s.heap.update p f, toks := t } := by
  have e : (s.heap.update p f).get? p = some { cls := .type "list", data := .seq its'.toArray n' } := by
    rw [Heap.get?_update_self f ho (by rw [hf] <;> rfl), hf]
  refine I.write (x := p) (e := p) (by rw [h]; trivial) (.inl rfl) (fun b u hb q => (Heap.get?_update_other _ _ (Ne.symm hb)).trans q) ⟨_, e⟩ ?_
  exact ⟨hz, its', n', r, e⟩
def rSetL : V → V → V → Hp → (Hp → Prop) → Prop := fun o i v H Q => ∃ p xs k j, o = .ref p ∧ i = .int k ∧ H p = some (.lst xs) ∧ ixN xs.length k = some j ∧ Q (upd H p (.lst (xs.set j v)))
theorem set_list : PSet X rSetL := by
  intro pins s σ H o i v ov iv u Q I ro ri rv h
  obtain ⟨p, xs, k, j, rfl, rfl, hp, hj, q⟩ := h
  cases ro
  obtain ⟨t, rfl⟩ := ri
  obtain ⟨its, n, r, ho, hz⟩ := I.lst hp
  obtain ⟨h1, h2, h3, h4⟩ := ixN_seq hj
  have hl := r.length
  have hn := line63
  have I' : Inv X pins σ (upd H p (.lst (xs.set j v))) { s with heap := s.heap.update p (Obj.mapSeq (·.setIfInBounds j u)) } :=
    I.lstUpd hp ho (mapSeq_set its n j u) (r.set rv j) (by rw [List.length_set]; exact hz) s.toks
  by_cases h0 : 0 ≤ k
  · have hk : k.toNat = j := by
      rw [seqIndex_of h0 h4] at h1
      exact Option.some.inj h1
    exact PySem.W.ki_setAt ho h0 (by omega) (by rw [List.size_toArray, ← hl]; exact h4) (by rw [hk]; exact ⟨_, I', q⟩)
  · have hk : (k + (its.toArray.size : Int)).toNat = j := by
      rw [seqIndex_neg (by omega) h3] at h1
      rw [List.size_toArray, ← hl]
      exact Option.some.inj h1
    exact PySem.W.ki_setBack ho (by omega) (by rw [List.size_toArray, ← hl]; exact h3) (by omega) (by rw [hk]; exact ⟨_, I', q⟩)
theorem slice_bounds (lo hi : Option Int) (n : Nat) : (sliceBounds lo hi none n).1 = ((HT.sIx n 0 lo : Nat) : Int) ∧ (sliceBounds lo hi none n).2.1 = ((HT.sIx n n hi : Nat) : Int) ∧ (sliceBounds lo hi none n).2.2 = 1 := by
  refine ⟨?_, ?_, rfl⟩
  · cases lo with
    | none => simp [sliceBounds, HT.sIx]
    | some i =>
      simp only [sliceBounds, HT.sIx, Option.getD_none, show (1 : Int) > 0 by decide, if_true]
      by_cases h : i < 0
      · simp only [h, if_true] <;> omega
      · simp only [h, if_false] <;> omega
  · cases hi with
    | none => simp [sliceBounds, HT.sIx]
    | some i =>
      simp only [sliceBounds, HT.sIx, Option.getD_none, show (1 : Int) > 0 by decide, if_true]
      by_cases h : i < 0
      · simp only [h, if_true] <;> omega
      · simp only [h, if_false] <;> omega
theorem slicePick_cut (its : List Value) (lo hi : Option Int) : slicePick its.toArray lo hi none = ((its.drop (HT.sIx its.length 0 lo)).take (HT.sIx its.length its.length hi - HT.sIx its.length 0 lo)).toArray := by
  obtain ⟨h1, h2, h3⟩ := slice_bounds lo hi its.toArray.size
  unfold slicePick
  rw [h1, h2, h3]
  simp only [sliceRange_one, pick_run, List.size_toArray] <;> rfl
def rSlL (K : PySem.W.Frag) : V → Option Int → Option Int → Hp → VK → Prop := fun x lo hi H Q => ∃ a xs, x = .ref a ∧ SqL K H a xs ∧ ∀ p, H p = none → Q (.ref p) (upd H p (.lst (cutV xs lo hi)))
theorem sl_list : SlR X (rSlL X.K) := by
  intro pins s σ H x v vl vu lo hi sl Q I rx hs pl pu h
  obtain ⟨a, xs, rfl, hx, q⟩ := h
  cases rx
  obtain ⟨its, r, ht, hz⟩ := I.list hx
  have hlen := r.length
  refine ⟨"list", _, slot_list_getitem.lookup, ht.isList.typeIs, ?_⟩
  refine wpAny_getItem_list_slice ht.isList hs pl pu .none (by simp) ?_ (by rw [List.size_toArray] <;> omega)
  rw [slicePick_cut, ← hlen]
  refine ⟨.ref s.heap.objs.size, _, I.laid (t' := s.toks) (o := .lst (cutV xs lo hi)) (fun b ob q => Heap.get?_push_of_some _ q) (Nat.le_refl _) ?_, rfl, q _ (I.hok.fresh (Nat.le_refl _))⟩
  exact ⟨Nat.le_trans (cutV_length xs lo hi) hz, _, 0, (r.drop (HT.sIx xs.length 0 lo)).take (HT.sIx xs.length xs.length hi - HT.sIx xs.length 0 lo), Heap.get?_push_size _ rfl⟩
theorem call_len_seq : CallR X (.builtin "len") (fun xs H Q => ∃ p ys, xs = [.ref p] ∧ (SqL X.K H p ys ∨ SqT X.K H p ys) ∧ Q (.int ys.length) H) := by
  intro pins s σ H xs us Q I r h
  obtain ⟨p, ys, rfl, hq, q⟩ := h
  obtain ⟨u, rfl, rx⟩ := vals1 r
  cases rx
  have hn := line63
  rcases hq with hq | hq
  · obtain ⟨its, r', pl, hz⟩ := I.list hq
    have hlen := r'.length
    exact Calls.call_len_list pl.isList (by simp only [List.size_toArray] <;> omega) ⟨.int ys.length, H, I.tok _, ⟨s.toks + 1, by rw [List.size_toArray, hlen]⟩, q⟩
  · obtain ⟨its, r', pl, hz⟩ := I.tuple hq
    have hlen := r'.length
    exact len_tuple pl (by simp only [List.size_toArray] <;> omega) ⟨.int ys.length, H, I.tok _, ⟨s.toks + 1, by rw [List.size_toArray, hlen]⟩, q⟩
theorem call_list_of : CallR X (.type "list") (fun xs H Q => ∃ p ys, xs = [.ref p] ∧ (SqL X.K H p ys ∨ SqT X.K H p ys) ∧ ∀ l, H l = none → Q (.ref l) (upd H l (.lst ys))) := by
  intro pins s σ H xs us Q I r h
  obtain ⟨p, ys, rfl, hq, q⟩ := h
  obtain ⟨u, rfl, rx⟩ := vals1 r
  cases rx
  have fin : ∀ (its : List Value), Vals ys its → ys.length ≤ sizeLine → ∀ (h' : Heap) (c' : Nat), (∀ b o', s.heap.get? b = some o' → h'.get? b = some o') →
      h'.get? s.heap.objs.size = some { cls := .type "list", dict := none, data := .seq its.toArray c', slots := #[] } → EP X pins σ Q (.ref s.heap.objs.size) { s with heap := h' } := fun its r' hz h' c' kp e =>
    ⟨.ref s.heap.objs.size, _, I.laid (t' := s.toks) kp (Nat.le_refl _) (show ObjOk X.prog X.w _ h' _ (.lst ys) from ⟨hz, its, c', r', e⟩), rfl, q _ (I.hok.fresh (Nat.le_refl _))⟩
  rcases hq with hq | hq
  · obtain ⟨its, r', pl, hz⟩ := I.list hq
    have hlen := r'.length
    obtain ⟨o, ho, hc, n, hd⟩ := pl.isList
    exact call_list_seq p (.inl rfl) ho hc hd (fun h' c' kp e => fin its r' hz h' c' kp e) (by simp only [List.size_toArray] <;> omega)
  · obtain ⟨its, r', pl, hz⟩ := I.tuple hq
    have hlen := r'.length
    obtain ⟨o, ho, hc, n, hd⟩ := pl
    exact call_list_seq p (.inr rfl) ho hc hd (fun h' c' kp e => fin its r' hz h' c' kp e) (by simp only [List.size_toArray] <;> omega)
theorem call_tuple_of : CallR X (.type "tuple") (fun xs H Q => ∃ p ys, xs = [.ref p] ∧ ((SqL X.K H p ys ∧ ∀ l, H l = none → Q (.ref l) (upd H l (.tup ys))) ∨ (SqT X.K H p ys ∧ Q (.ref p) H))) := by
  intro pins s σ H xs us Q I r h
  obtain ⟨p, ys, rfl, h⟩ := h
  obtain ⟨u, rfl, rx⟩ := vals1 r
  cases rx
  rcases h with ⟨hq, q⟩ | ⟨hq, q⟩
  · obtain ⟨its, r', pl, hz⟩ := I.list hq
    have hlen := r'.length
    refine call_tuple_list pl.isList (fun h' kp => ?_) (by simp only [List.size_toArray] <;> omega)
    have I1 : Inv X pins σ H { s with heap := h' } := I.kept (t' := s.toks) kp
    have I2 : Inv X pins σ (upd H h'.objs.size (.tup ys)) { s with heap := h'.push { cls := .type "tuple", data := .seq its.toArray } } :=
      I1.laid (t' := s.toks) (fun b o e => Heap.get?_push_of_some _ e) (Nat.le_refl _) (show ObjOk X.prog X.w _ _ _ (.tup ys) from ⟨hz, its, r', IsTup.new _ _⟩)
    exact ⟨.ref h'.objs.size, _, I2, rfl, q _ (I1.hok.fresh (Nat.le_refl _))⟩
  · obtain ⟨its, r', pl, hz⟩ := I.tuple hq
    exact call_tuple_same pl ⟨.ref p, H, I, rfl, q⟩
def tyV (K : PySem.W.Frag) (T : String) (x : V) (H : Hp) : Prop := match x with
  | .str _ => T = "str"
  | .int _ => T = "int"
  | .ref p => (T = "list" ∧ ∃ xs, SqL K H p xs) ∨ (T = "tuple" ∧ ∃ o, K.lookup p = some o ∧ o.cls = .type "tuple" ∧ o.dict = none) ∨
      (T = "dict" ∧ ((∃ kvs, H p = some (.dK kvs)) ∨ ∃ kvs, H p = some (.dT kvs))) ∨ (T = "set" ∧ ∃ S n, H p = some (.set S n))
  | _ => False
theorem tyV_is {pins : List (Addr × Obj)} {σ : St} {H : Hp} {s : Shared} {T : String} {x : V} {v : Value} (I : Inv X pins σ H s) (r : RelV x v) (ty : tyV X.K T x H) :
    s.TypeIs v T ∧ ∀ a, v = .ref a → ∃ ob, s.heap.get? a = some ob ∧ ob.dict = none := by
  cases x with
  | str z =>
    obtain ⟨t, rfl⟩ := r
    cases (show T = "str" from ty)
    exact ⟨typeIs_str s z t, fun _ e => nomatch e⟩
  | int i =>
    obtain ⟨t, rfl⟩ := r
    cases (show T = "int" from ty)
    exact ⟨typeIs_int s i t, fun _ e => nomatch e⟩
  | ref p =>
    cases r
    rcases ty with ⟨rfl, xs, hq⟩ | ⟨rfl, o, hk, hc, hd⟩ | ⟨rfl, hk⟩ | ⟨rfl, S, n, hk⟩
    · obtain ⟨its, _, pl, _⟩ := I.list hq
      refine ⟨pl.isList.typeIs, fun a e => ?_⟩
      cases e
      obtain ⟨o, n, e, c, hd, _⟩ := pl
      exact ⟨o, e, hd⟩
    · refine ⟨⟨o, I.kIn p o hk, hc⟩, fun a e => ?_⟩
      cases e
      exact ⟨o, I.kIn _ o hk, hd⟩
    · have z : ∃ o, s.heap.get? p = some o ∧ o.ExactDict := by
        rcases hk with ⟨kvs, hk⟩ | ⟨kvs, hk⟩
        · obtain ⟨_, _, _, _, o, _, _, e, ex, _⟩ := I.hok p _ hk
          exact ⟨o, e, ex⟩
        · obtain ⟨_, _, _, _, o, _, _, e, ex, _⟩ := I.hok p _ hk
          exact ⟨o, e, ex⟩
      obtain ⟨o, e, ex⟩ := z
      refine ⟨⟨o, e, ex.1⟩, fun a e2 => ?_⟩
      cases e2
      exact ⟨o, e, ex.2.1⟩
    · obtain ⟨o, _, _, _, e, ex, _⟩ := I.hok p _ hk
      refine ⟨⟨o, e, ex.1⟩, fun a e2 => ?_⟩
      cases e2
      exact ⟨o, e, ex.2.1⟩
  | _ => exact False.elim ty
def tBM0 (K : PySem.W.Frag) (T : String) (r : V → List V → Hp → VK → Prop) (to : TE) : TE := fun σ H Q => to σ H fun x H1 => tyV K T x H1 ∧ r x [] H1 Q
def tBM (K : PySem.W.Frag) (T : String) (r : V → List V → Hp → VK → Prop) (to : TE) (t : TA) : TE := fun σ H Q => to σ H fun x H1 => tyV K T x H1 ∧ t σ H1 fun xs H2 => r x xs H2 Q
variable {o e : Expr} {es : List Expr} {to : TE} {t : TA} {name : Str} {apos cpos : Pos} {T id : String} {r : V → List V → Hp → VK → Prop}
theorem pe_bm0 (pa : PlainAttrs T) (slot : Slot T name id) (hty : typeOf (.builtin id) = pure (.type "method_descriptor")) (hm : MtR X id r) (ho : PE X o to)
    (hbase : attributeBase o name X.env (eval o X.env) = eval o X.env := by rfl) (hline : (apos.endLine == cpos.line) = true := by rfl) : PE X (.Call (.Attribute o name apos) [] [] cpos) (tBM0 X.K T r to) := by
  intro pins s σ H Q I h
  refine wpAny_Call_method0_late hbase hline (thn (ho pins s σ H _ I h) fun v s1 ⟨x, H1, I1, r1, ty, q1⟩ => ?_)
  obtain ⟨h1, h2⟩ := tyV_is I1 r1 ty
  exact ⟨T, id, pa, slot, hty, h1, h2, Calls.callWith_builtin rfl (PySem.evalArgs_none (hm pins s1 σ H1 x [] v [] Q I1 r1 .nil q1))⟩
theorem pe_bm (pa : PlainAttrs T) (slot : Slot T name id) (hty : typeOf (.builtin id) = pure (.type "method_descriptor")) (hm : MtR X id r) (ho : PE X o to) (ha : PA X (e :: es) t)
    (hbase : attributeBase o name X.env (eval o X.env) = eval o X.env := by rfl)
    (hfew : ((backTo cpos (starEach (e :: es) X.env)).all (fun x => !x.1) && (backToKw cpos (keywordEach [] X.env)).all (fun x => x.1.isSome)
      && decide ((e :: es).length + ([] : List Keyword).length + (if ([] : List Keyword).isEmpty then 0 else 1) < 30)) = true := by rfl)
    (hline : (apos.endLine == cpos.line) = true := by rfl) (hs : starEach (e :: es) X.env = (false, eval e X.env) :: starEach es X.env := by rfl) (hplain : (backTo cpos (starEach es X.env)).any (·.1) = false := by rfl) :
    PE X (.Call (.Attribute o name apos) (e :: es) [] cpos) (tBM X.K T r to t) := by
  intro pins s σ H Q I h
  refine wpAny_Call_method_late hbase hfew hline rfl (thn (ho pins s σ H _ I h) fun v s1 ⟨x, H1, I1, r1, ty, q1⟩ => ?_)
  obtain ⟨h1, h2⟩ := tyV_is I1 r1 ty
  refine ⟨T, id, pa, slot, hty, h1, h2, ?_⟩
  have hA := ha cpos pins s1 σ H1 _ I1 q1
  rw [hs] at hA ⊢
  refine Calls.callWith_builtin (by show (false || (backTo cpos (starEach es X.env)).any (·.1)) = false; rw [hplain] <;> rfl) (Calls.evalArgs_plain ?_)
  exact thn hA fun us s2 ⟨vs, H2, I2, r2, q2⟩ => hm pins s2 σ H2 x vs v us Q I2 r1 r2 q2
/- xs.append(e), list.index on a module's tuple .. are MtR facts of 06m -/
end
end L2
namespace L2
open PySem PySem.Spec PyProof.Rows
def MtM (X : Cx) (id : String) (r : V → List V → Hp → VK → Prop) : Prop :=
  ∀ (pins : List (Addr × Obj)) (s : Shared) (σ : St) (H : Hp) (x : V) (xs : List V) (v : Value) (us : List Value) (Q : VK), Inv X pins σ H s → RelV x v → Vals xs us → r x xs H Q →
    wpAny (model X.prog X.w) X.A (call (.builtin id) (v :: us)) (EP X pins σ Q) X.xe s
theorem Vals.one : ∀ {x : V} {us : List Value}, Vals [x] us → ∃ u, us = [u] ∧ RelV x u
  | _, _, .cons r .nil => ⟨_, rfl, r⟩
theorem Vals.zero : ∀ {us : List Value}, Vals [] us → us = []
  | _, .nil => rfl
theorem Vals.dropLast {xs : List V} {us : List Value} (h : Vals xs us) : Vals xs.dropLast us.dropLast := by
  induction h with
  | nil => exact .nil
  | cons r t ih =>
    cases t with
    | nil => exact .nil
    | cons q t' => exact .cons r ih
theorem Vals.eraseIdx : ∀ {xs : List V} {us : List Value} (i : Nat), Vals xs us → Vals (xs.eraseIdx i) (us.eraseIdx i)
  | _, _, _, .nil => .nil
  | _, _, 0, .cons _ t => t
  | _, _, i + 1, .cons r t => .cons r (Vals.eraseIdx i t)
theorem Vals.reverse {xs : List V} {us : List Value} (h : Vals xs us) : Vals xs.reverse us.reverse := by
  induction h with
  | nil => exact .nil
  | cons r t ih => rw [List.reverse_cons, List.reverse_cons]; exact Vals.append ih (.cons r .nil)
theorem Vals.rep {xs : List V} {us : List Value} (h : Vals xs us) : ∀ k : Nat, Vals (List.replicate k xs).flatten (List.replicate k us).flatten
  | 0 => .nil
  | k + 1 => by
    rw [List.replicate_succ, List.replicate_succ, List.flatten_cons, List.flatten_cons]
    exact Vals.append h (Vals.rep h k)
theorem erase_last {α : Type} (l : List α) : l.eraseIdx (l.length - 1) = l.dropLast := by
  induction l with
  | nil => rfl
  | cons a r ih =>
    cases r with
    | nil => rfl
    | cons b r =>
      have e : (a :: b :: r).length - 1 = ((b :: r).length - 1) + 1 := by
        have h1 : (a :: b :: r).length = r.length + 2 := rfl
        have h2 : (b :: r).length = r.length + 1 := rfl
        omega
      rw [e, List.eraseIdx_cons_succ, ih]
      all_goals rfl
theorem len_erase {α : Type} : ∀ (l : List α) (i : Nat), (l.eraseIdx i).length ≤ l.length
  | [], _ => Nat.le_refl _
  | _ :: _, 0 => Nat.le_succ _
  | _ :: r, i + 1 => Nat.succ_le_succ (len_erase r i)
theorem foldl_rep (its : List Value) : ∀ (k : Nat) (acc : List Value),
    List.foldl (fun x1 x2 => x1 ++ x2) acc.toArray (List.replicate k its.toArray) = (acc ++ (List.replicate k its).flatten).toArray
  | 0, acc => by simp
  | k + 1, acc => by
    have e : acc.toArray ++ its.toArray = (acc ++ its).toArray := by simp
    have e2 : (acc ++ its) ++ (List.replicate k its).flatten = acc ++ (List.replicate (k + 1) its).flatten := by
      rw [List.replicate_succ, List.flatten_cons, List.append_assoc]
    rw [← e2, ← foldl_rep its k (acc ++ its), ← e, List.replicate_succ, List.foldl_cons]
section
variable {X : Cx} {pins : List (Addr × Obj)} {σ : St} {H : Hp} {s : Shared} {l b : Addr} {xs ys zs : List V}
theorem Inv.lset {its its' : List Value} {n : Nat} {f : Array Value → Array Value} {t' : Nat} (I : Inv X pins σ H s) (hH : H l = some (.lst xs))
    (e : s.heap.get? l = some { cls := .type "list", data := .seq its.toArray n }) (hf : f its.toArray = its'.toArray) (hv : Vals ys its') (hz : ys.length ≤ sizeLine) :
    Inv X pins σ (upd H l (.lst ys)) { s with heap := s.heap.update l (Obj.mapSeq f), toks := t' } := by
  have q := PySem.IsL.update e f
  rw [hf] at q
  refine I.write (x := l) (e := l) (by rw [hH]; exact trivial) (.inl rfl) (fun b' u hb hu => (Heap.get?_update_other s.heap (Obj.mapSeq f) (Ne.symm hb)).trans hu) ⟨_, q⟩ ?_
  exact ⟨hz, its', _, hv, q⟩
theorem Inv.lnew {its : List Value} {t' : Nat} (I : Inv X pins σ H s) (hv : Vals ys its) (hz : ys.length ≤ sizeLine) :
    Inv X pins σ (upd H s.heap.objs.size (.lst ys)) { s with heap := s.heap.push { cls := .type "list", data := .seq its.toArray }, toks := t' } :=
  I.laid (fun _ _ q => Heap.get?_push_of_some _ q) (Nat.le_refl _) ⟨hz, its, 0, hv, Heap.get?_push_size _ rfl⟩
theorem Inv.fresh (I : Inv X pins σ H s) : H s.heap.objs.size = none := I.hok.fresh (Nat.le_refl _)
theorem Inv.lstM (I : Inv X pins σ H s) (hH : H l = some (.lst xs)) : xs.length ≤ sizeLine ∧ ∃ (its : List Value) (n : Nat), Vals xs its ∧ xs.length = its.length ∧ s.heap.get? l = some { cls := .type "list", data := .seq its.toArray n } := by
  obtain ⟨z, its, n, r, e⟩ := I.hok l _ hH
  exact ⟨z, its, n, r, r.length, e⟩
theorem notLongL {n : Nat} (h : n ≤ sizeLine) : Builtin.List.listTooLong n = false := by
  unfold Builtin.List.listTooLong
  exact decide_eq_false (by omega)
end
section
variable {X : Cx}
def rAppend : V → List V → Hp → VK → Prop := fun x vs H Q => ∃ l xs y, x = .ref l ∧ vs = [y] ∧ H l = some (.lst xs) ∧ xs.length < sizeLine ∧ Q .non (upd H l (.lst (xs ++ [y])))
theorem mt_append : MtM X "list.append" rAppend := by
  intro pins s σ H x vs v us Q I rx rv h
  obtain ⟨l, xs, y, rfl, rfl, hH, hz, q⟩ := h
  cases rx
  obtain ⟨u, rfl, ru⟩ := rv.one
  obtain ⟨z, its, n, r, hl, e⟩ := I.lstM hH
  refine call_meets F.slot_list_append ⟨_, e, rfl⟩ F.entry_list_append (F.args_list_append_2 _ _) (PySem.list_append l its.toArray n u (by rw [List.size_toArray]; omega)) ⟨e, ?_⟩
  refine ⟨.non, _, I.lset (its' := its ++ [u]) hH e (by simp) (r.append (.cons ru .nil)) ?_, rfl, q⟩
  rw [List.length_append, List.length_singleton]
  omega
def rPop : V → List V → Hp → VK → Prop := fun x vs H Q => ∃ l xs y, x = .ref l ∧ vs = [] ∧ H l = some (.lst xs) ∧ xs[xs.length - 1]? = some y ∧ Q y (upd H l (.lst xs.dropLast))
theorem mt_pop : MtM X "list.pop" rPop := by
  intro pins s σ H x vs v us Q I rx rv h
  obtain ⟨l, xs, y, rfl, rfl, hH, hy, q⟩ := h
  cases rx
  have hus := rv.zero
  subst hus
  obtain ⟨z, its, n, r, hl, e⟩ := I.lstM hH
  obtain ⟨u, hu, ru⟩ := r.get hy
  have hy' : its.toArray[its.toArray.size - 1]? = some u := by
    show its.toArray[its.length - 1]? = some u
    rw [← Array.getElem?_toList, ← hl]
    exact hu
  refine call_meets F.slot_list_pop ⟨_, e, rfl⟩ F.entry_list_pop (F.args_list_pop_1 _) (MeetsSeq.list_pop_last l its.toArray n u hy' (by rw [List.size_toArray]; omega)) ⟨e, ?_⟩
  refine ⟨y, _, I.lset (its' := its.dropLast) hH e ?_ r.dropLast ?_, ru, q⟩
  · show its.toArray.eraseIdxIfInBounds (its.toArray.size - 1) = its.dropLast.toArray
    rw [List.size_toArray, List.eraseIdxIfInBounds_toArray, erase_last]
  · rw [List.length_dropLast]
    omega
def rPopAt : V → List V → Hp → VK → Prop := fun x vs H Q => ∃ l xs i k y, x = .ref l ∧ vs = [.int i] ∧ H l = some (.lst xs) ∧ -(2 ^ 63) ≤ i ∧ i < 2 ^ 63 ∧ seqIndex? i xs.length = some k ∧ xs[k]? = some y ∧ Q y (upd H l (.lst (xs.eraseIdx k)))
theorem mt_popAt : MtM X "list.pop" rPopAt := by
  intro pins s σ H x vs v us Q I rx rv h
  obtain ⟨l, xs, i, k, y, rfl, rfl, hH, h1, h2, hk, hy, q⟩ := h
  cases rx
  obtain ⟨u, rfl, ru⟩ := rv.one
  obtain ⟨t, rfl⟩ := ru
  obtain ⟨z, its, n, r, hl, e⟩ := I.lstM hH
  obtain ⟨w, hw, rw'⟩ := r.get hy
  refine call_meets F.slot_list_pop ⟨_, e, rfl⟩ F.entry_list_pop (F.args_list_pop_2 _ _)
    (MeetsSeq.list_pop_at l its.toArray n i t k w (fitsIndex_both h1 h2) (by rw [List.size_toArray, ← hl]; exact hk) (by rw [← Array.getElem?_toList]; exact hw) (by rw [List.size_toArray]; omega)) ⟨e, ?_⟩
  refine ⟨y, _, I.lset (its' := its.eraseIdx k) hH e ?_ (r.eraseIdx k) ?_, rw', q⟩
  · show its.toArray.eraseIdxIfInBounds k = (its.eraseIdx k).toArray
    rw [List.eraseIdxIfInBounds_toArray]
  · have := len_erase xs k
    omega
def rCat : R2 := fun x y H Q => ∃ l b xs zs, x = .ref l ∧ y = .ref b ∧ H l = some (.lst xs) ∧ H b = some (.lst zs) ∧ xs.length + zs.length ≤ sizeLine ∧ ∀ p, H p = none → Q (.ref p) (upd H p (.lst (xs ++ zs)))
theorem op_cat : OpR X (binaryOp .Add) rCat := by
  intro pins s σ H x y v u Q I rx ry h
  obtain ⟨l, b, xs, zs, rfl, rfl, hH, hB, hz, q⟩ := h
  cases rx
  cases ry
  obtain ⟨z, its, n, r, hl, e⟩ := I.lstM hH
  obtain ⟨z2, its2, n2, r2, hl2, e2⟩ := I.lstM hB
  refine PySem.P.add_list e e2 ?_ (by rw [List.size_toArray, List.size_toArray]; omega)
  have ea : its.toArray ++ its2.toArray = (its ++ its2).toArray := by simp
  rw [ea]
  exact ⟨.ref _, _, I.lnew (t' := s.toks) (r.append r2) (by rw [List.length_append]; omega), rfl, q _ I.fresh⟩
def rRep : R2 := fun x y H Q => ∃ l k xs, x = .ref l ∧ y = .int k ∧ H l = some (.lst xs) ∧ -(2 ^ 63) ≤ k ∧ k < 2 ^ 63 ∧ xs.length * k.toNat ≤ sizeLine ∧
  ∀ p, H p = none → Q (.ref p) (upd H p (.lst (List.replicate k.toNat xs).flatten))
theorem len_rep {α : Type} (xs : List α) (k : Nat) : (List.replicate k xs).flatten.length = k * xs.length := by
  induction k with
  | zero => simp
  | succ k ih => rw [List.replicate_succ, List.flatten_cons, List.length_append, ih, Nat.succ_mul, Nat.add_comm]
theorem op_rep : OpR X (binaryOp .Mult) rRep := by
  intro pins s σ H x y v u Q I rx ry h
  obtain ⟨l, k, xs, rfl, rfl, hH, h1, h2, hz, q⟩ := h
  cases rx
  obtain ⟨t, rfl⟩ := ry
  obtain ⟨z, its, n, r, hl, e⟩ := I.lstM hH
  have hlen : its.toArray.size * k.toNat ≤ sizeLine := by rw [List.size_toArray, ← hl]; exact hz
  have hcap : ¬ its.toArray.size * k.toNat > (2 ^ 63 - 1) / 8 := by
    have : (sizeLine : Nat) ≤ (2 ^ 63 - 1) / 8 := by decide
    omega
  have hfit : ¬ (!Builtin.List.listFitsIndex k) = true := by
    rw [fitsIndex_both h1 h2]
    exact Bool.false_ne_true
  have hlong : ¬ Builtin.List.listTooLong (its.toArray.size * k.toNat) = true := by
    rw [notLongL hlen]
    exact Bool.false_ne_true
  have hnew : List.foldl (fun x1 x2 => x1 ++ x2) #[] (List.replicate (if its.toArray.isEmpty = true then 0 else k.toNat) its.toArray) = (List.replicate k.toNat its).flatten.toArray := by
    have f0 : ∀ m : Nat, List.foldl (fun x1 x2 => x1 ++ x2) #[] (List.replicate m its.toArray) = (List.replicate m its).flatten.toArray := fun m => by
      have := foldl_rep its m []
      rw [List.nil_append] at this
      exact this
    rw [f0]
    cases its with
    | nil => simp
    | cons a r' => rw [if_neg (by simp)]
  refine wpAny_binaryOp_repeat_ref (T := "list") (U := "int") (by decide) ⟨_, e, rfl⟩ (fun s' => typeIs_int s' k t) noFill_list_mul F.fills_int_mul F.slot_int_rmul repeat_list F.slot_int_index.lookup
    (call_meets F.slot_int_rmul (typeIs_int s k t) F.entry_int_rmul (F.args_int_rmul_2 _ _) (int___rmul___int_list k t l its.toArray n)
      ⟨e, rfl, ⟨_, e, rfl⟩, call_meets F.slot_list_mul ⟨_, e, rfl⟩ F.entry_list_mul (F.args_list_mul_2 _ _) (AutoListH.list___mul___list_int_3 l its.toArray n k t hfit hcap hlong) ⟨e, ?_⟩⟩)
  rw [hnew]
  exact ⟨.ref _, _, I.lnew (t' := s.toks) (r.rep k.toNat) (by rw [len_rep, Nat.mul_comm]; exact hz), rfl, q _ I.fresh⟩
end
section
variable {prog : Program} {w : World} {A : Around} {E : Value → Shared → Prop} {s : Shared}
end
section
variable {X : Cx}
end
end L2
namespace Att
open PySem PySem.W PySem.Calls PyProof.Rows
theorem ints_of_wellAll {P : Params} {h : Heap} : ∀ (ns : List Int) (vs : List Value), WellAll P h vs (ns.map WData.int) → IntsAre vs ns := by
  intro ns
  induction ns with
  | nil =>
    intro vs w
    rw [List.map_nil] at w
    cases w
    exact .nil
  | cons n ns ih =>
    intro vs w
    rw [List.map_cons] at w
    cases w with
    | cons a b =>
      cases a
      exact .cons _ _ (ih _ b)
theorem script_of {l : OpenLaw} {n : Nat} (hn : l.most = some n) {P : Params} {h : Heap} {args : List WData} {vals : List Value}
    (hpre : l.row.toRowW.claim.pre args = true) (hwl : WellAll P h vals args) :
    ∃ a vs ns, vals = [Value.ref a] ∧ args = [WData.list (ns.map WData.int)] ∧ h.get? a = some { cls := .type "list", data := .seq vs.toArray } ∧ IntsAre vs ns ∧ ns.length ≤ n := by
  have hsh : WShape.hasAll [] args [.list .int] = true := (pre_splitW hpre).1
  have hc : l.pre.holds [] { args := args } = true := (pre_splitW hpre).2
  obtain ⟨d, r, rfl, h1, h2⟩ := hasAllW_cons hsh
  obtain rfl := hasAllW_nil h2
  obtain ⟨xs, rfl, h3⟩ := hasW_list h1
  obtain ⟨ns, rfl⟩ := items_int h3
  have hlen : ns.length ≤ n := by
    unfold OpenLaw.pre at hc
    have h4 : (WTm.not (.lt (.lit (.int (n : Int))) (.len (.arg 0)))).holds [] { args := [.list (ns.map .int)] } = true := by
      have h4 := (holds_andW hc).1
      rw [hn] at h4
      exact h4
    have h5 := condW_of h4 (w_not (w_lt w_lit (w_len_list (w_arg rfl))))
    rw [List.length_map] at h5
    refine Nat.le_of_not_lt fun q => ?_
    have q' : (n : Int) < ((ns.length : Nat) : Int) := by omega
    first
      | (rw [decide_eq_true q'] at h5; exact absurd h5 (by decide))
      | (simp at h5; omega)
  cases hwl with
  | cons w1 w2 =>
    cases w2
    cases w1 with
    | list ho hall => exact ⟨_, _, ns, rfl, rfl, ho, ints_of_wellAll ns _ hall, hlen⟩
theorem post_true (l : OpenLaw) (args : List WData) : l.row.toRowW.claim.post args (.bool true) args = true :=
  postW_of (r := l.row.toRowW) (X := (true == true))
    (show WShape.has [] (.bool true) .bool = true by first | rfl | decide | simp [WShape.has, WShape.arms, WShape.armsAll])
    (show (WTm.eq .res (.lit (.bool true))).value [] { args := args, res := some (.bool true), after := args } = some (.bool (true == true)) from w_eq_bool (w_res rfl) w_lit) rfl
theorem attach_call {l : OpenLaw} {n : Nat} {q : Program} {loose : List Str} {XP : (Str → Option Value) → Heap → Prop} {YP : World → Heap → Prop} {d : DefRec}
    (hn : l.most = some n) (hdf : d.params.defaults = [])
    (call : ∀ (w : World) (s₀ s₁ : Shared) (mg mb : Str → Option Value) (fa : Addr) (o : Obj) (pm cd doc : Value) (a : Addr) (vs : List Value) (ns : List Int),
      Ground q loose [] XP w s₀ mg mb s₁.heap → YP w s₁.heap →
      s₁.heap.get? fa = some o → o.data = .func (docDef d.name d.params d.body d.scope pm cd doc) → s₁.heap.CodeRec cd d.name → mg d.name = some (.ref fa) →
      s₁.heap.get? a = some { cls := .type "list", data := .seq vs.toArray } → IntsAre vs ns → ns.length ≤ n → s₁.gens = #[] →
      codeAny (model l.prog w) callerA (.call (.ref fa) ⟨[.ref a], []⟩) (fun r s' => r = .ok (.ret (.bool true)) ∧ OldK s₁.heap s'.heap ∧ s'.os = s₁.os ∧ AllBare s'.gens) s₁) :
    WalkO q loose XP YP l.row.toRowW d [] (fun f vs => PySem.call f vs) := by
  intro w s₀ s₁ mg mb G Y fa o pm cd doc dV kV ho hd hcd hD hmg hg args vals as hpre hlay hrd hwl hlo
  obtain rfl : dV = .none := Dflts.none hD hdf
  obtain rfl : kV = .none := Dflts.noKw hD
  obtain ⟨a, vs, ns, rfl, rfl, hobj, hints, hlen⟩ := script_of hn hpre hwl
  refine enter_call (codeAny_mono (call w s₀ s₁ mg mb fa o pm cd doc a vs ns G Y ho (fd_plain hd) hcd hmg hobj hints hlen hg) fun r s' hq => ?_)
  obtain ⟨rfl, h2, h3, h4⟩ := hq
  exact ⟨.inl ⟨.bool true, .bool true, [], rfl, fun _ => rfl, .bool true, post_true l _, fun _ => ⟨List.Pairwise.nil, fun _ hm => (nomatch hm)⟩⟩, h2, h3, h4⟩
section
variable {prog : Program} {w : World} {A : Around} {E : Value → Shared → Prop} {s : Shared} {K : Frag}
end
end Att
namespace L2
open PySem PySem.Spec PyProof.Rows
theorem vals_ints : ∀ {vs : List Value} {ns : List Int}, IntsAre vs ns → Vals (ns.map V.int) vs
  | _, _, .nil => .nil
  | _, _, .cons n t h => .cons ⟨t, rfl⟩ (vals_ints h)
def Only (H : Hp) : Prop := ∀ b, H b = none ∨ ∃ o xs, H b = some (.frz o (.lst xs))
theorem law_call {P : Program} {w : World} {K : PySem.W.Frag} {mg mb : Str → Option Value} {CX : CXT} {k : Nat} {fa a : Addr} {fd : FuncData} {x : Str} {sp : Sp} {s₁ : Shared} {vs : List Value} {ns : List Int}
    (KX : K.In s₁.heap) (hns : s₁.heap.Ns mainGlobals mg) (hb : s₁.heap.Ns builtinsNs mb) (hbb : ∀ x : Str, x ≠ "__name__" → mb x = bootBuiltins x) (hlim : s₁.heap.NoLimit) (hg : s₁.gens = #[])
    (ha : s₁.heap.get? a = some { cls := .type "list", data := .seq vs.toArray }) (hi : IntsAre vs ns) (hl : ns.length ≤ sizeLine) (hr : Room k callerA)
    (F : ∀ base : Heap, K.In base → base.Ns mainGlobals mg → FnOk P w K mg base CX k fa fd [x] sp) (hbind : ∀ (s : Shared) (u : Value), BindsTo s fd ⟨[u], []⟩ [(x, u)])
    (hsp : ∀ H : Hp, Only H → SqL K H a (ns.map V.int) → sp [.ref a] H (fun v _ => v = .bl true) fun _ _ _ => False)
    (hCX : ∀ H e s', CX [] H s₁ (fun _ _ _ => False) e s' → False) :
    codeAny (model P w) callerA (.call (.ref fa) ⟨[.ref a], []⟩) (fun r s' => r = .ok (.ret (.bool true)) ∧ OldK s₁.heap s'.heap ∧ s'.os = s₁.os ∧ AllBare s'.gens) s₁ := by
  have rv := vals_ints hi
  have lenV := hi.length
  -- from an abstract heap in which nothing but the script may be tracked
  have core : ∀ H : Hp, Only H → SqL K H a (ns.map V.int) → HOk P w H s₁.heap → (∀ b, H b ≠ none → b = a) → (H a ≠ none → K.lookup a = none) →
      codeAny (model P w) callerA (.call (.ref fa) ⟨[.ref a], []⟩) (fun r s' => r = .ok (.ret (.bool true)) ∧ OldK s₁.heap s'.heap ∧ s'.os = s₁.os ∧ AllBare s'.gens) s₁ := by
    intro H hO hS hok hA hK
    have base_of : ∀ {b : Addr} {o : Obj}, s₁.heap.get? b = some o → H b = none → (hidT s₁.heap H).get? b = some o := fun e n => hidT_get e n
    have noA : ∀ {b : Addr} {o : Obj} {es : Array DictEntry} {ep : Nat}, s₁.heap.get? b = some o → o.data = .dict es ep → H b = none := fun {b o es ep} e d => by
      cases q : H b with
      | none => rfl
      | some u =>
        have e' : b = a := hA b (by rw [q]; simp)
        subst e'
        rw [ha] at e; cases e
        have d' : Data.seq vs.toArray _ = Data.dict es ep := d
        cases d'
    have nsK : ∀ {b : Addr} {m : Str → Option Value}, s₁.heap.Ns b m → (hidT s₁.heap H).Ns b m := fun {b m} ⟨o, es, ep, e, d, r⟩ => ⟨o, es, ep, base_of e (noA e d), d, r⟩
    have hKb : K.In (hidT s₁.heap H) := fun b o e => base_of (KX b o e) (by
      cases q : H b with
      | none => rfl
      | some u =>
        have e' : b = a := hA b (by rw [q]; simp)
        subst e'
        rw [hK (by rw [q]; simp)] at e; cases e)
    have hM : Mod K mg (hidT s₁.heap H) := ⟨hKb, nsK hns, ⟨mb, nsK hb, hbb⟩, let ⟨mc, h1, h2⟩ := hlim; ⟨mc, nsK h1, h2⟩⟩
    have e0 : Env0 P w K mg (hidT s₁.heap H) callerA [] s₁ H := ⟨rfl, hM, fun b o e => of_hidT e, Nat.le_of_eq (hidT_size _ _), trivial, fun b hb => absurd (show b ∈ ([] : List Addr) from hb) (by simp), hok, .of_eq hg⟩
    refine codeAny_mono ((F _ hKb (nsK hns)).run callerA [] s₁ H ⟨[.ref a], []⟩ [.ref a] [.ref a] _ _ hr e0 (hbind s₁ (.ref a)) (.cons rfl .nil) (hsp H hO hS)) fun r s' h => ?_
    cases r with
    | error e => exact (hCX H e s' h).elim
    | ok fl =>
      cases fl with
      | next => exact False.elim h
      | brk => exact False.elim h
      | cont => exact False.elim h
      | ret u =>
        obtain ⟨v, H', os, bare, un, hok', r', q⟩ := h
        have q' : v = .bl true := q
        subst q'
        obtain rfl : u = Value.bool true := r'
        refine ⟨rfl, OldK.of_keep fun b o e => ?_, os, bare⟩
        cases q : H b with
        | none => exact un.keep b o e q (by intro z; exact absurd (show b ∈ ([] : List Addr) from z) (by simp)) (by simp)
        | some u =>
          rcases hO b with z | ⟨ob, xs, z⟩
          · rw [q] at z; cases z
          · have z2 := un.frzs b ob _ z
            obtain ⟨e1, _⟩ := hok b _ z
            obtain ⟨e2, _⟩ := hok' b _ z2
            rw [e] at e1; cases e1
            exact e2
  cases hk : K.lookup a with
  | some o =>
    -- the script is one of the module's own objects
    have e := KX a o hk
    rw [ha] at e
    cases e
    refine core (fun _ => none) (fun _ => .inl rfl) (.inr ⟨_, vs.toArray, _, hk, rfl, rfl, rfl, by rw [List.size_toArray, lenV]; exact hl, by simpa using rv⟩) (fun b u z => by have z' : (none : Option HO) = some u := z; cases z') (fun b z => absurd rfl z) fun z => absurd rfl z
  | none =>
    refine core (fun b => if b = a then some (.frz { cls := .type "list", data := .seq vs.toArray } (.lst (ns.map V.int))) else none) (fun b => ?_) (.inl (.inr ⟨{ cls := .type "list", data := .seq vs.toArray }, if_pos rfl⟩)) (fun b u z => ?_) (fun b z => ?_) fun _ => hk
    · by_cases hb : b = a
      · exact .inr ⟨_, _, if_pos hb⟩
      · exact .inl (if_neg hb)
    · by_cases hb : b = a
      · have z' := (if_pos hb).symm.trans z
        cases z'
        subst hb
        exact ⟨ha, by rw [List.length_map]; exact hl, vs, _, rv, ha⟩
      · have z' := (if_neg hb).symm.trans z
        cases z'
    · by_cases hb : b = a
      · exact hb
      · exact absurd (if_neg hb) z
end L2
namespace L2
open PySem PySem.Spec PyProof.Rows
theorem walk_of {l : PySem.W.OpenLaw} {n k : Nat} {q : Program} {loose : List Str} {XP : (Str → Option Value) → Heap → Prop} {YP : World → Heap → Prop} {d : DefRec} {K : Params → PySem.W.Frag} {CX : World → CXT} {sp : World → Sp} {x : Str}
    (hn : l.most = some n) (hn2 : n ≤ sizeLine) (hdf : d.params.defaults = []) (hr : Room k callerA)
    (hY : ∀ (w : World) (h : Heap), YP w h → (K w.params).In h)
    (F : ∀ (w : World) (mg : Str → Option Value) (fa : Addr) (h : Heap), (K w.params).In h → h.Ns mainGlobals mg → mg d.name = some (.ref fa) →
      ∃ fd : FuncData, (∀ (s : Shared) (u : Value), BindsTo s fd ⟨[u], []⟩ [(x, u)]) ∧
        ∀ base : Heap, (K w.params).In base → base.Ns mainGlobals mg → FnOk l.prog w (K w.params) mg base (CX w) k fa fd [x] (sp w))
    (hsp : ∀ (w : World) (H : Hp) (a : Addr) (ns : List Int), ns.length ≤ n → Only H → SqL (K w.params) H a (ns.map V.int) → sp w [.ref a] H (fun v _ => v = .bl true) fun _ _ _ => False)
    (hCX : ∀ (w : World) (H : Hp) (s : Shared) (e : Value) (s' : Shared), CX w [] H s (fun _ _ _ => False) e s' → False) :
    PySem.W.WalkO q loose XP YP l.row.toRowW d [] (fun f vs => PySem.call f vs) := by
  refine Att.attach_call hn hdf fun w s₀ s₁ mg mb fa o pm cd doc a vs ns G Y ho hd hcd hmg hobj hints hlen hg => ?_
  have KX := hY w _ Y
  obtain ⟨fd, hb, hF⟩ := F w mg fa _ KX G.T.g hmg
  exact law_call KX G.T.g G.T.b G.T.builtins G.T.nolimit hg hobj hints (Nat.le_trans hlen hn2) hr hF hb (fun H hO hS => hsp w H a ns hlen hO hS) fun H e s' => hCX w H s₁ e s'
end L2
namespace L2
open PySem PySem.Spec PyProof.Rows
def defArgs (s : Stmt) : Arguments := match s with
  | .FunctionDef _ a _ _ _ _ _ _ _ _ => a
  | _ => { posonlyargs := [], args := [], vararg := none, kwonlyargs := [], kw_defaults := [], kwarg := none, defaults := [] }
def defBody (s : Stmt) : List Stmt := match s with
  | .FunctionDef _ _ b _ _ _ _ _ _ _ => b
  | _ => []
def defScope (s : Stmt) : Scope := match s with
  | .FunctionDef _ _ _ _ _ _ sc _ _ _ => sc
  | _ => { kind := .function, names := [], isGenerator := false, isCoroutine := false }
abbrev CX0 : CXT := fun _ _ _ _ _ _ => False
abbrev E0 : XK := fun _ _ _ => False
theorem pass0 {X : Cx} : Passes CX0 X E0 := fun _ _ _ _ _ _ _ h => h.elim
structure Fun (K : PySem.W.Frag) (x qual : Str) (st : Stmt) (f : Addr) (fd : FuncData) : Prop where
  ex : ∃ (oc : Value) (od : Option Addr) (kV doc pm : Value) (an : Option Addr) (cdv ct : Value) (osl : Array (Option Value)),
    fd = PySem.W.fnOf x qual (defArgs st) (defBody st) (defScope st) .none kV doc pm an cdv ct ∧ K.lookup f = some ⟨oc, od, .func fd, osl⟩ ∧ PySem.W.codeIn K cdv qual = true
  kp : PySem.W.keepIn K (.ref f) = true
section
variable {P : Program} {w : World} {K : PySem.W.Frag} {mg : Str → Option Value} {base : Heap}
theorem Fun.ok {x qual : Str} {st : Stmt} {f : Addr} {fd : FuncData} {N ps : List Str} {k : Nat} {sp : Sp} (F : Fun K x qual st f fd) (S : FnScope N ps (defScope st)) (len : ∀ vs H Q E, sp vs H Q E → vs.length = ps.length)
    (hbody : ∀ (cdv : Value) (A : Around) (outer : List Env) (s : Shared) (H : Hp) (vs : List V) (Q : VK) (E : XK), Room k (A.deeper (envOfC qual (defScope st) s.heap.objs.size f cdv)) → sp vs H Q E →
      ∃ t, PSs (cxOf CX0 P w K mg base N qual (defScope st) f cdv A outer s H E).nox (defBody st) t ∧ t { nx := fun _ H' => Q .non H', rt := Q } (start N vs) H) : FnOk P w K mg base CX0 (k + 1) f fd ps sp := by
  obtain ⟨oc, od, kV, doc, pm, an, cdv, ct, osl, rfl, lk, hcd⟩ := F.ex
  refine fn_of lk hcd S len fun A outer s H vs Q E hr hsp => ?_
  obtain ⟨t, h, q⟩ := hbody cdv A outer s H vs Q E hr hsp
  exact ⟨t, h.nox, q⟩
theorem Fun.binds {x qual : Str} {st : Stmt} {f : Addr} {fd : FuncData} {ps : List Str} (F : Fun K x qual st f fd)
    (h : ∀ (kV doc pm : Value) (an : Option Addr) (cdv ct : Value) (us : List Value), us.length = ps.length → bindArgs (PySem.W.fnOf x qual (defArgs st) (defBody st) (defScope st) .none kV doc pm an cdv ct) ⟨us, []⟩ = pure (ps.zip us)) : Binds K fd ps [] := by
  obtain ⟨oc, od, kV, doc, pm, an, cdv, ct, osl, rfl, lk, hcd⟩ := F.ex
  exact .all (h kV doc pm an cdv ct)
theorem fun_mk {x qual : Str} {st : Stmt} {f : Addr} {oc : Value} {od an : Option Addr} {osl : Array (Option Value)} {kV doc pm cdv ct : Value} (l : K.lookup f = some ⟨oc, od, .func (PySem.W.fnOf x qual (defArgs st) (defBody st) (defScope st) .none kV doc pm an cdv ct), osl⟩)
    (c : PySem.W.codeIn K cdv qual = true) (k : PySem.W.keepIn K (.ref f) = true) : Fun K x qual st f (PySem.W.fnOf x qual (defArgs st) (defBody st) (defScope st) .none kV doc pm an cdv ct) := ⟨⟨oc, od, kV, doc, pm, an, cdv, ct, osl, rfl, l, c⟩, k⟩
end
theorem hu_of {A : Around} {k : Nat} (hr : Room k A) : A.units + 1 < cLine := Nat.lt_of_le_of_lt (Nat.add_le_add_left (by decide : 1 ≤ 64) _) hr.units
section
variable {X : Cx}
theorem pv (i : Nat) {x : Str} {pos : Pos} (hN : X.N[i]? = some x := by rfl) (hv : Vis X.env.scope x := by first | exact Or.inl rfl | exact Or.inr (Or.inl rfl) | exact Or.inr (Or.inr rfl)) (hd : (x == ("__debug__" : Str)) = false := by decide)
    (hcd : (x == ("__classdict__" : Str)) = false := by decide) : PE X (.Name x pos) (tVar i) := pe_var hN hv hd hcd
end
theorem iteF {A B : Prop} (h : B) : if false = true then A else B := by
  rw [if_neg Bool.false_ne_true]
  exact h
theorem iteT {A B : Prop} (h : A) : if true = true then A else B := by
  rw [if_pos rfl]
  exact h
theorem ite2 {c A B : Prop} [Decidable c] (h1 : c → A) (h2 : ¬ c → B) : if c then A else B := by
  by_cases h : c
  · rw [if_pos h]
    exact h1 h
  · rw [if_neg h]
    exact h2 h
theorem iteNS {c A B : Prop} [Decidable c] (hc : c) (h : B) : if (!decide c) = true then A else B := by
  rw [decide_eq_true hc]
  exact iteF h
def Same (H H' : Hp) : Prop := ∀ b o, H b = some o → H' b = some o
theorem Same.refl (H : Hp) : Same H H := fun _ _ h => h
theorem Same.trans {H H1 H2 : Hp} (a : Same H H1) (b : Same H1 H2) : Same H H2 := fun c o h => b c o (a c o h)
theorem Same.free {H H' : Hp} (e : Same H H') {l : Addr} (h : H' l = Option.none) : H l = Option.none := by
  cases q : H l with
  | none => rfl
  | some o =>
    rw [e l o q] at h
    cases h
theorem Same.seq {K : PySem.W.Frag} {H H' : Hp} {a : Addr} {xs : List V} (e : Same H H') (h : SqL K H a xs) : SqL K H' a xs := by
  rcases h with (h | ⟨o, h⟩) | h
  · exact .inl (.inl (e _ _ h))
  · exact .inl (.inr ⟨o, e _ _ h⟩)
  · exact .inr h
end L2
set_option Elab.async false
set_option linter.all false
set_option maxRecDepth 100000
set_option maxHeartbeats 4000000
namespace L2
open PySem PySem.Spec PyProof.Rows
section
variable {prog : Program} {w : World} {A : Around} {R : Result → Shared → Prop} {s : Shared}
theorem compLoop_go {elt target iter : Expr} {scope : Scope} {pos : Pos} {it acc : Value} {env : Env} (I : Nat → Shared → Prop)
    (turn : ∀ n s, I n s → wpAny (model prog w) A (pyNext it) (fun r s₁ => match r with
      | none => R (.ok .next) s₁
      | some v => wpAny (model prog w) A (letOwnedTupleGo target it v) (fun _ s₀ => wpAny (model prog w) A (assign target env v) (fun _ s₂ => wpAny (model prog w) A (eval elt env) (fun x s₃ =>
          wpAny (model prog w) A (call (.builtin "list.append") [acc, x]) (fun _ s₄ => ∃ m, m < n ∧ I m s₄) (fun _ _ => False) s₃) (fun _ _ => False) s₂) (fun _ _ => False) s₀) (fun _ _ => False) s₁) (fun _ _ => False) s)
    (n : Nat) (h : I n s) : codeAny (model prog w) A (.compLoop (.ListComp elt [⟨target, iter, [], 0⟩] scope pos) 0 it acc env) R s := by
  refine codeAny_loop rfl I (fun n s hI => ?_) n h
  show wpAny _ _ ((compTurn (.ListComp elt [⟨target, iter, [], 0⟩] scope pos) 0 it acc env).onRaise (fun x => do noteFrame x env; theTreesLotGoes x)) _ _ s
  refine wpAny_noted ?_
  rw [compTurn_list1]
  refine wpAny_bind (wpAny_standAt (wpAny_bind (wpAny_mono (turn n s hI) (fun r s₁ h₁ => ?_) fun _ _ h' => h'.elim)))
  cases r with
  | none => exact wpAny_pure h₁
  | some v =>
    refine wpAny_bind (wpAny_mono h₁ (fun _ s₀ h₀ => ?_) fun _ _ h' => h'.elim)
    exact wpAny_bind (wpAny_mono h₀ (fun _ s₂ h₂ => wpAny_bind (wpAny_bind (wpAny_mono h₂ (fun x s₃ h₃ => wpAny_bind (wpAny_mono h₃
      (fun _ s₄ h₄ => wpAny_pure (wpAny_pure ⟨rfl, h₄⟩)) fun _ _ h' => h'.elim)) fun _ _ h' => h'.elim))) fun _ _ h' => h'.elim)
end
def cxComp (X : Cx) (Nc : List Str) (scope : Scope) (cl : List (Str × Addr)) (C : Addr) (s : Shared) (H : Hp) (ex : List Addr) : Cx where
  prog := X.prog
  w := X.w
  K := X.K
  mg := X.mg
  base := X.base
  A := X.A
  N := Nc
  s₀ := s
  H₀ := H
  env := compEnvC scope cl C X.env
  outer := X.stack
  stack := X.stack
  ex := ex
  fn := fun _ => false
  calm := X.calm
  pn := []
  xe := fun _ _ => False
def CompGo (te : TE) (fv : St) (Q : VK) (J : It) (H1 : Hp) : Prop := ∃ W : Nat → Nat → List V → Hp → Prop, (∃ m, W 0 m [] H1) ∧ ∀ i m ys H2, W i m ys H2 →
  (J.stop i H2 ∧ ys.length ≤ sizeLine ∧ ∀ D, H2 D = none → Q (.ref D) (upd H2 D (.lst ys))) ∨
  (J.go i H2 ∧ ys.length < sizeLine ∧ ∀ x H3, J.yld i H2 x H3 → te (some x :: fv) H3 fun y H4 => ∃ m', m' < m ∧ W (i + 1) m' (ys ++ [y]) H4)
def tComp (wi : TI) (fv : St → St) (te : TE) : TE := fun σ H Q => wi σ H (CompGo te (fv σ) Q)
structure CompScope (X : Cx) (x : Str) (fns : List Str) (ixs : List Nat) (scope : Scope) (cl : List (Str × Addr)) : Prop where
  clos : closureFor scope X.env = pure cl
  sub : ∀ y c, cl.lookup y = some c → X.env.cells.lookup y = some c
  cell : ∀ y ∈ scope.names, y.2 ≠ .cell
  kind : scope.kind = .function
  names : ∀ y ∈ scope.names, y.2 = .local → scope.names.lookup y.1 = some .local
  own : scope.names.lookup x = some .local
  has : ∀ y, ((relabel scope X.env).names.lookup y = some .cell ∨ (relabel scope X.env).names.lookup y = some .free) → ∃ c, cl.lookup y = some c
  nd : (x :: fns).Nodup
  len : ixs.length = fns.length
  at_ : ∀ (j : Nat) (y : Str), fns[j]? = some y → ∃ i : Nat, ixs[j]? = some i ∧ X.N[i]? = some y ∧ (X.env.kindOf y = some .cell ∨ X.env.kindOf y = some .free) ∧ ∃ c, cl.lookup y = some c ∧ ((relabel scope X.env).names.lookup y = some .cell ∨ (relabel scope X.env).names.lookup y = some .free)
def fvOf (ixs : List Nat) : St → St := fun σ => ixs.map fun i => (σ[i]?).join
section
variable {X : Cx} {elt iter : Expr} {x : Str} {px pos : Pos} {scope : Scope} {cl : List (Str × Addr)} {fns : List Str} {ixs : List Nat} {wi : TI} {te : TE}
theorem relabel_own (hx : scope.names.lookup x = some .local) : (relabel scope X.env).names.lookup x = some .local := lookup_relabel_local hx
theorem pe_comp (hc : X.calm = true) (hi : PI X (.Name x px) iter wi) (S : CompScope X x fns ixs scope cl)
    (he : ∀ (C : Addr) (s : Shared) (H : Hp) (ex : List Addr), PE (cxComp X (x :: fns) scope cl C s H ex) elt te)
    (hs : ∀ x, foldedSetIterable iter X.env x = pure x := by intro _; rfl) :
    PE X (.ListComp elt [⟨.Name x px, iter, [], 0⟩] scope pos) (tComp wi (fvOf ixs) te) := by
  intro pins s σ H Q I h
  rw [eval_ListComp]
  refine wpAny_comprehension_free (use := none) rfl hs S.clos S.kind S.names (thn (hi pins s σ H _ I h) fun v s1 h1 => thn h1 fun itv s2 h2 => ?_)
  obtain ⟨it, fp, tn, J, H2, e, I2, T, st2, f2, W, ⟨m0, w0⟩, turn⟩ := h2
  subst e
  have hfpLt : ∀ b ∈ fp, b < s2.heap.objs.size := fun b hb => by
    obtain ⟨o, ho, _⟩ := T.obj _ _ st2 b hb
    exact Heap.lt_size ho
  refine wpAny_newObj_type (wpAny_newFunctionEnv S.cell (by intro y hy; simp at hy) (fun h₁ hns₁ hsb₁ => ?_) S.kind)
  dsimp only at hns₁ hsb₁ ⊢
  generalize hH3 : s2.heap.push { cls := .type "list", dict := none, data := .seq ([] : List Value).toArray } = hp3 at hns₁ hsb₁ ⊢
  generalize hD : s2.heap.objs.size = D at hfpLt ⊢
  have hC : hp3.objs.size = D + 1 := by rw [← hH3, Heap.size_push, hD]
  generalize hCe : hp3.objs.size = C at hC hns₁ hsb₁ ⊢
  have hDltC : D < C := by omega
  have hDC : D ≠ C := Nat.ne_of_lt hDltC
  have k23 : ∀ b u, s2.heap.get? b = some u → hp3.get? b = some u := fun b u q => by rw [← hH3]; exact Heap.get?_push_of_some _ q
  have ltD : ∀ {b u}, s2.heap.get? b = some u → b < D := fun q => by rw [← hD]; exact Heap.lt_size q
  have k34 : ∀ b u, hp3.get? b = some u → h₁.get? b = some u := fun b u q =>
    hsb₁.extBut b u (Nat.ne_of_lt (Nat.lt_of_lt_of_le (Heap.lt_size q) (Nat.le_of_eq hCe))) (Heap.get?_push_of_some _ q)
  have hDo : hp3.get? D = some { cls := .type "list", dict := none, data := .seq ([] : List Value).toArray } := by rw [← hH3, ← hD]; exact Heap.get?_push_size _ rfl
  have I3 : Inv X pins σ H2 { s2 with heap := hp3 } := I2.kept (t' := s2.toks) k23
  have hnD : H2 D = none := I2.hok.fresh (by omega)
  have hnC : H2 C = none := I2.hok.fresh (by omega)
  have nstk : ∀ b ∈ D :: fp, b ∉ frs X.stack := fun b hb z => by
    rcases List.mem_cons.mp (I2.stkSub b z) with e | z
    · rcases List.mem_cons.mp hb with e2 | hb
      · exact absurd I2.lt (by rw [← e, e2, ← hD]; exact Nat.lt_irrefl _)
      · exact (f2 b hb).2.1 e
    · rcases List.mem_cons.mp hb with e2 | hb
      · exact I2.nofs (by rw [e2, ← hD]; exact Nat.le_refl _) z
      · exact (f2 b hb).2.2.1 z
  have cne : ∀ y c, cl.lookup y = some c → ∀ b ∈ D :: fp, c ≠ b := fun y c q b hb z => by
    obtain ⟨v, hv⟩ := I2.cell y c (S.sub y c q)
    rcases List.mem_cons.mp hb with e2 | hb
    · exact absurd hv.lt (by rw [z, e2, ← hD]; exact Nat.lt_irrefl _)
    · exact (f2 b hb).2.2.2.2.1 y c (S.sub y c q) z
  -- the block's context
  let Xc : Cx := cxComp X (x :: fns) scope cl C { s2 with heap := hp3 } H2 (D :: fp)
  have ok : Xc.Ok := {
    mod := I2.ok.mod
    kind := S.kind
    glob := I2.ok.glob
    blt := I2.ok.blt
    above := by show hp3.objs.size ≤ C; omega
    inj := fun y z c q1 q2 => I2.ok.inj y z c (S.sub _ _ q1) (S.sub _ _ q2)
    has := S.has
    cab := fun y c q => nomatch q
    hd := I2.ok.hd
    frames := I2.ok.frames
    stk := .inl rfl
    exf := fun b hb => ⟨by
      rcases List.mem_cons.mp hb with e2 | hb
      · rw [e2]; exact hDC
      · exact Nat.ne_of_lt (Nat.lt_trans (hfpLt b hb) hDltC), fun y c q => cne y c q b hb⟩
    bs := I3.bs
    bsz := Nat.le_trans I3.ok.bsz I3.sz
    noex := fun b o q hb => by
      rcases List.mem_cons.mp hb with e2 | hb
      · exact absurd (ltD (I2.bs b o q).1) (by rw [e2]; exact Nat.lt_irrefl _)
      · rcases (f2 b hb).2.2.2.1 with z | z
        · exact I2.ok.noex b o q z
        · exact absurd (Heap.lt_size (I2.ok.bs b o q).1) (Nat.not_lt.mpr z)
    exfs := nstk
    funs := I3.stack
    frf := I3.stkFree }
  have start : ∀ (v0 : Option V) , v0 = none → Inv Xc [(D, { cls := .type "list", dict := none, data := .seq ([] : List Value).toArray })] (v0 :: fvOf ixs σ) H2 { s2 with heap := h₁, toks := s2.toks + ([] : List (Str × Value)).length } := fun v0 hv0 => {
    ok := ok
    os := rfl
    bare := I2.bare
    base := Un.kept k34
    loc := ⟨_, hns₁, fun i y v e1 e2 e3 => by
      cases i with
      | zero => rw [hv0] at e2; cases e2
      | succ j =>
        have e1' : fns[j]? = some y := e1
        have e2' : (fvOf ixs σ)[j]? = some (some v) := e2
        obtain ⟨i, hi1, hi2, hk, c, hc1, hc2⟩ := S.at_ j y e1'
        unfold fvOf at e2'
        rw [List.getElem?_map, hi1] at e2'
        have e3' : σ[i]? = some (some v) := by
          have z : (σ[i]?).join = some v := Option.some.inj e2'
          cases q : σ[i]? with
          | none => rw [q] at z; cases z
          | some o => rw [q] at z; rw [show o = some v from z]
        obtain ⟨m, _, hl⟩ := I2.loc
        obtain ⟨u, r, l⟩ := hl i y v hi2 e3' (hk.elim (fun z => .inr (.inl z)) fun z => .inr (.inr z))
        refine ⟨u, r, .inr ⟨hc2, c, hc1, ?_⟩⟩
        rcases l with ⟨z, _⟩ | ⟨_, c', hc', hcell⟩
        · rcases hk with hk | hk <;> (rw [hk] at z; cases z)
        · have : c' = c := Option.some.inj (hc'.symm.trans (S.sub _ _ hc1))
          subst this
          obtain ⟨o, ho, hd⟩ := hcell
          exact ⟨o, k34 _ _ (k23 _ _ ho), hd⟩⟩
    cell := fun y c q => by
      obtain ⟨v, o, ho, hd⟩ := I2.cell y c (S.sub y c q)
      exact ⟨v, o, k34 _ _ (k23 _ _ ho), hd⟩
    free := hnC
    freeC := fun y c q => I2.freeC y c (S.sub y c q)
    pin := fun p hp => by
      have hp' : p = (D, { cls := .type "list", dict := none, data := .seq ([] : List Value).toArray }) := by simpa [Xc, cxComp] using hp
      subst hp'
      exact ⟨k34 _ _ hDo, hnD, hDC, nstk D (List.mem_cons_self ..), fun v z => nomatch z⟩
    hok := (I2.hok.kept k23).kept k34
    len := by show (v0 :: fvOf ixs σ).length = (x :: fns).length; simp [fvOf, S.len] }
  -- what stays true of the iterator's objects
  have fpc : ∀ {H' : Hp} {pins' : List (Addr × Obj)}, (∀ b ∈ fp, H' b = none) → (∀ p ∈ pins', p.1 = D) → ∀ b ∈ fp, FpOk Xc pins' H' b := fun {H' pins'} hn hp b hb =>
    ⟨hn b hb, Nat.ne_of_lt (Nat.lt_trans (hfpLt b hb) hDltC), nstk b (List.mem_cons_of_mem _ hb), .inl (List.mem_cons_of_mem _ hb), fun y c q => cne y c q b (List.mem_cons_of_mem _ hb), fun p q => by
      have q' : p ∈ pins' := by simpa [Xc, cxComp] using q
      rw [hp p q']
      exact Nat.ne_of_gt (hfpLt b hb)⟩
  have loop : codeAny (model X.prog X.w) X.A (.compLoop (.ListComp elt [⟨.Name x px, iter, [], 0⟩] scope pos) 0 (.ref it) (.ref D) (compEnvC scope cl C X.env))
      (compPost (model X.prog X.w) X.A X.xe none (EP X pins σ Q) (.ref D) C) { s2 with heap := h₁, toks := s2.toks + ([] : List (Str × Value)).length } := by
    refine compLoop_go (fun n s' => ∃ (i : Nat) (ys : List V) (its : List Value) (nn : Nat) (v0 : Option V) (H' : Hp), Inv Xc [(D, { cls := .type "list", dict := none, data := .seq its.toArray nn })] (v0 :: fvOf ixs σ) H' s' ∧ tn i s'.heap ∧ (∀ b ∈ fp, H' b = none) ∧ Vals ys its ∧ W i n ys H') ?_ m0
      ⟨0, [], [], 0, none, H2, start none rfl, T.keep _ _ _ st2 fun b _ o q => k34 _ _ (k23 _ _ q), fun b hb => (f2 b hb).1, .nil, w0⟩
    rintro n s3 ⟨i, ys, its, nn, v0, H3, J3, tn3, fr3, vv, w3⟩
    have pinD : ∀ p ∈ ([(D, ({ cls := .type "list", dict := none, data := .seq its.toArray nn } : Obj))] : List (Addr × Obj)), p.1 = D := fun p hp => by
      have : p = (D, { cls := .type "list", dict := none, data := .seq its.toArray nn }) := by simpa using hp
      rw [this]
    rcases turn i n ys H3 w3 with ⟨stop, hlen, q⟩ | ⟨go, hlen, step⟩
    · -- the end
      refine thn (T.done Xc rfl rfl rfl hc i _ s3 _ H3 _ J3 (fpc fr3 pinD) tn3 stop) fun r s4 ⟨hr, J4⟩ => ?_
      subst hr
      obtain ⟨m, hn, _⟩ := J4.loc
      refine ⟨m, hn, fun h'' hsb => ?_⟩
      obtain ⟨gD, nD, _, _, _⟩ := J4.pin (D, { cls := .type "list", dict := none, data := .seq its.toArray nn }) (by simp [Xc, cxComp])
      have B := J4.base
      have kC : ∀ b u, b ≠ C → s4.heap.get? b = some u → h''.get? b = some u := fun b u hb q => (hsb.2 b hb).trans q
      have ne : ∀ {b o}, s2.heap.get? b = some o → b ≠ C ∧ b ≠ D := fun q => ⟨Nat.ne_of_lt (Nat.lt_trans (ltD q) hDltC), Nat.ne_of_lt (ltD q)⟩
      have nex : ∀ {b o}, s2.heap.get? b = some o → b ∉ fp → b ∉ D :: fp := fun q hx z => (List.mem_cons.mp z).elim (ne q).2 hx
      have uu : Un (frs X.stack) fp H2 (upd H3 D (.lst ys)) s2.heap h'' := {
        keep := fun b o q n hb hx => kC b o (ne q).1 (B.keep b o (k23 b o q) n hb (nex q hx))
        slot := fun b o q n hb hx => by
          obtain ⟨sl, e⟩ := B.slot b o (k23 b o q) n hb (nex q hx)
          exact ⟨sl, kC b _ (ne q).1 e⟩
        free := fun b o q n hx => by rw [upd_ne (ne q).2]; exact B.free b o (k23 b o q) n (nex q hx)
        there := fun b o q hx => by
          obtain ⟨o', e⟩ := B.there b o (k23 b o q) (nex q hx)
          exact ⟨o', kC b _ (ne q).1 e⟩
        tups := fun b xs q => by rw [upd_ne (ne_of_none q hnD)]; exact B.tups b xs q
        frzs := fun b o xs q => by rw [upd_ne (ne_of_none q hnD)]; exact B.frzs b o xs q
        tbls := fun b ps q => by
          obtain ⟨more, e⟩ := B.tbls b ps q
          exact ⟨more, by rw [upd_ne (ne_of_none q hnD)]; exact e⟩ }
      have hok : HOk X.prog X.w (upd H3 D (.lst ys)) h'' := fun b u e => by
        by_cases hb : b = D
        · subst hb
          rw [upd_same] at e
          cases e
          exact ⟨hlen, its, nn, vv, kC _ _ hDC gD⟩
        · rw [upd_ne hb] at e
          refine (J4.hok b u e).stay (fun c v hc q => kC c v ?_ q) (fun c q => by rw [upd_ne (ne_of_none q nD)]; exact q) fun c xs q => by rw [upd_ne (ne_of_none q nD)]; exact q
          have fC : H3 C = none := J4.free
          rcases hc with rfl | hc
          · exact ne_of_none e fC
          · exact ne_of_none hc fC
      exact ⟨.ref D, _, I2.call' (s' := { s4 with heap := h'' }) J4.os uu hok J4.bare (fun b hb => ⟨(f2 b hb).2.2.2.1, (f2 b hb).2.1, (f2 b hb).2.2.2.2.1, (f2 b hb).2.2.2.2.2⟩), rfl, q D nD⟩
    · -- a turn
      refine thn (T.item Xc rfl rfl rfl hc i _ s3 _ H3 _ J3 (fpc fr3 pinD) tn3 go) fun r s4 ⟨u, hr, h4⟩ => ?_
      subst hr
      refine thn h4 fun _ s5 ⟨xv, H5, J5, r5, y5, tn5, fr5⟩ => ?_
      have J5' := J5.pinned (fpc fr5 pinD) (T.obj _ _ tn5)
      have hg : PG Xc (.Name x px) (gName 0) := pg_name (X := Xc) (i := 0) S.nd rfl (.inl (relabel_own S.own)) (.inr (relabel_own S.own))
      refine thn (hg _ s5 _ H5 xv u (fun σ' H' => σ' = some xv :: fvOf ixs σ ∧ H' = H5) J5' r5 ⟨rfl, rfl⟩) fun _ s6 ⟨σ6, H6, J6, e6, e6'⟩ => ?_
      subst e6 e6'
      refine thn (he C { s2 with heap := hp3 } H2 (D :: fp) _ s6 _ H6 _ J6 (step xv H6 y5)) fun yv s7 ⟨y, H7, J7, r7, m', hm', w7⟩ => ?_
      obtain ⟨gD, nD, _, _, _⟩ := J7.pin (D, { cls := .type "list", dict := none, data := .seq its.toArray nn }) (by simp [Xc, cxComp])
      have tn7 : tn (i + 1) s7.heap := T.keep _ _ _ tn5 fun b hb o e => (J7.pin (b, o) (List.mem_append_right _ (List.mem_append_right _ (mem_pinsAt hb e)))).1
      have fr7 : ∀ b ∈ fp, H7 b = none := fun b hb => by
        obtain ⟨o, e, d⟩ := T.obj _ _ tn5 b hb
        exact (J7.pin (b, o) (List.mem_append_right _ (List.mem_append_right _ (mem_pinsAt hb e)))).2.1
      have J7' : Inv Xc [] (some xv :: fvOf ixs σ) H7 s7 := J7.pins_of fun p hp => nomatch hp
      refine wpAny_list_append_plain (hsz := by rw [List.size_toArray, ← vv.length]; omega) ⟨nn, gD⟩ fun h8 pl8 sb8 => ?_
      obtain ⟨n8, g8⟩ := pl8
      have J8 : Inv Xc [] (some xv :: fvOf ixs σ) H7 { s7 with heap := h8 } := J7'.turned (t' := s7.toks) (it := D) (fun b o hb e => (sb8.2 b hb).trans e) nD (hDC) (.inl (List.mem_cons_self ..))
        (fun y c q => cne y c q D (List.mem_cons_self ..)) (fun p hp => by simp [Xc, cxComp] at hp)
      refine ⟨m', hm', i + 1, ys ++ [y], its ++ [yv], n8, some xv, H7, J8.pins_of fun p hp => ?_, ?_, fr7, vv.append (.cons r7 .nil), w7⟩
      · have : p = (D, { cls := .type "list", dict := none, data := .seq (its ++ [yv]).toArray n8 }) := by simpa using hp
        subst this
        refine ⟨?_, nD, hDC, nstk D (List.mem_cons_self ..), fun v z => nomatch z⟩
        have : its.toArray.push yv = (its ++ [yv]).toArray := by simp
        rw [this] at g8
        exact g8
      · exact T.keep _ _ _ tn7 fun b hb o e => (sb8.2 b (Nat.ne_of_lt (hfpLt b hb))).trans e
  exact codeAny_compStart_list loop (T.self _ 0 _ _ _ (T.keep _ _ _ st2 fun b _ o q => k34 _ _ (k23 _ _ q)) loop)
end
theorem compScope0 {X : Cx} {x : Str} {scope : Scope} (hf : ∀ y ∈ scope.names, y.2 ≠ .free) (hc : ∀ y ∈ scope.names, y.2 ≠ .cell) (hk : scope.kind = .function)
    (hn : ∀ y ∈ scope.names, y.2 = .local → scope.names.lookup y.1 = some .local) (hx : scope.names.lookup x = some .local) : CompScope X x [] [] scope [] where
  clos := closureFor_none hf
  sub := fun y c h => nomatch h
  cell := hc
  kind := hk
  names := hn
  own := hx
  has := fun y h => by
    have e : (relabel scope X.env).names = scope.names := by
      unfold relabel
      refine map_eq_self fun z hz => ?_
      obtain ⟨n, k⟩ := z
      have : (k == NameKind.free) = false := by simpa using hf _ hz
      simp [this]
    rw [e] at h
    rcases h with h | h
    · exact absurd rfl (hc _ (PySem.mem_of_lookup h))
    · exact absurd rfl (hf _ (PySem.mem_of_lookup h))
  nd := by simp
  len := rfl
  at_ := fun j y h => by simp at h
theorem comp_pure {J : It} {H1 : Hp} {fv : St} {te : TE} {Q : VK} (xs : List V) (g : V → V) (hgo : ∀ i : Nat, i < xs.length → J.go i H1) (hy : ∀ (i : Nat) (x : V) (H3 : Hp), i < xs.length → J.yld i H1 x H3 → H3 = H1 ∧ xs[i]? = some x)
    (hst : J.stop xs.length H1) (hfit : xs.length ≤ sizeLine) (he : ∀ (i : Nat) (x : V), xs[i]? = some x → ∀ R : VK, R (g x) H1 → te (some x :: fv) H1 R) (hQ : ∀ D, H1 D = none → Q (.ref D) (upd H1 D (.lst (xs.map g)))) :
    CompGo te fv Q J H1 := by
  refine ⟨fun i m ys H2 => m = xs.length - i ∧ i ≤ xs.length ∧ ys = (xs.take i).map g ∧ H2 = H1, ⟨xs.length, by simp, Nat.zero_le _, by simp, rfl⟩, ?_⟩
  rintro i m ys H2 ⟨rfl, hi, rfl, rfl⟩
  by_cases hlt : i < xs.length
  · refine .inr ⟨hgo i hlt, by rw [List.length_map, List.length_take]; omega, fun x H3 hyl => ?_⟩
    obtain ⟨e3, hx⟩ := hy i x H3 hlt hyl
    subst e3
    refine he i x hx _ ⟨xs.length - (i + 1), by omega, rfl, hlt, ?_, rfl⟩
    rw [List.take_succ, hx]
    simp
  · have e : i = xs.length := by omega
    subst e
    refine .inl ⟨hst, by rw [List.length_map, List.length_take]; omega, fun D hD => ?_⟩
    rw [List.take_length]
    exact hQ D hD
def negV : V → V
  | .int z => .int (-z)
  | v => v
theorem itt_go {K : PySem.W.Frag} {H : Hp} {a : Addr} {xs : List V} (h : SqT K H a xs) : ∀ i, i < xs.length → (Itt K a).go i H := fun i hi => ⟨xs, xs[i], h, List.getElem?_eq_getElem hi⟩
theorem itt_yld {K : PySem.W.Frag} {H : Hp} {a : Addr} {xs : List V} (h : SqT K H a xs) : ∀ i x H3, i < xs.length → (Itt K a).yld i H x H3 → H3 = H ∧ xs[i]? = some x := fun i x H3 _ y => ⟨y.1, y.2 xs h⟩
theorem itt_stop {K : PySem.W.Frag} {H : Hp} {a : Addr} {xs : List V} (h : SqT K H a xs) : (Itt K a).stop xs.length H := ⟨xs, h, Nat.le_refl _⟩
theorem itl_go {K : PySem.W.Frag} {H : Hp} {a : Addr} {xs : List V} (h : SqL K H a xs) : ∀ i, i < xs.length → (Itl K a).go i H := fun i hi => ⟨xs, xs[i], h, List.getElem?_eq_getElem hi⟩
theorem itl_yld {K : PySem.W.Frag} {H : Hp} {a : Addr} {xs : List V} (h : SqL K H a xs) : ∀ i x H3, i < xs.length → (Itl K a).yld i H x H3 → H3 = H ∧ xs[i]? = some x := fun i x H3 _ y => ⟨y.1, y.2 xs h⟩
theorem itl_stop {K : PySem.W.Frag} {H : Hp} {a : Addr} {xs : List V} (h : SqL K H a xs) : (Itl K a).stop xs.length H := ⟨xs, h, Nat.le_refl _⟩
def tCut (t : TS) : TS := fun D σ H => ∃ G : St → Hp → Prop, t { D with nx := G } σ H ∧ ∀ σ' H', G σ' H' → D.nx σ' H'
theorem ps_cut {X : Cx} {st : Stmt} {t : TS} (h : PS X st t) : PS X st (tCut t) := by
  intro pins s σ H D I ⟨G, h1, h2⟩
  refine thn (h pins s σ H { D with nx := G } I h1) fun f s' q => ?_
  cases f with
  | next => obtain ⟨σ', H', I', g⟩ := q; exact ⟨σ', H', I', h2 σ' H' g⟩
  | _ => exact q
theorem relabel_mem {scope : Scope} {env : Env} {y : Str} {k : NameKind} (h : (relabel scope env).names.lookup y = some k) (hk : k = .cell ∨ k = .free) (hc : ∀ z ∈ scope.names, z.2 ≠ .cell) : (y, NameKind.free) ∈ scope.names := by
  have hm := PySem.mem_of_lookup h
  unfold relabel at hm
  obtain ⟨⟨n, k'⟩, hz, e⟩ := List.mem_map.mp hm
  dsimp only at e
  by_cases hf : (k' == NameKind.free && env.scope.kind == .function && env.kindOf n == some .cell) = true
  · rw [if_pos hf] at e
    have e1 : n = y := congrArg Prod.fst e
    rw [Bool.and_eq_true, Bool.and_eq_true] at hf
    have e2 : k' = .free := eq_of_beq hf.1.1
    rw [← e1, ← e2]
    exact hz
  · rw [if_neg hf] at e
    have e1 : n = y := congrArg Prod.fst e
    have e2 : k' = k := congrArg Prod.snd e
    subst e1 e2
    rcases hk with rfl | rfl
    · exact absurd rfl (hc _ hz)
    · exact hz
theorem lookup_relabel_free {env : Env} (hf : env.scope.kind = .function) {y : Str} (hy : env.kindOf y = some .cell) : ∀ {names : List (Str × NameKind)}, names.lookup y = some .free →
    (names.map fun (n, k) => if (k == NameKind.free && env.scope.kind == .function && env.kindOf n == some .cell) then (n, NameKind.cell) else (n, k)).lookup y = some .cell
  | [], h => by simp at h
  | (n, k) :: r, h => by
    have ih := @lookup_relabel_free env hf y hy r
    show List.lookup y ((if (k == NameKind.free && env.scope.kind == .function && env.kindOf n == some .cell) = true then (n, NameKind.cell) else (n, k)) :: _) = _
    cases hx : y == n with
    | true =>
      simp only [List.lookup_cons, hx] at h
      have e : y = n := eq_of_beq hx
      subst e
      cases h
      have hc : (NameKind.free == NameKind.free && env.scope.kind == .function && env.kindOf y == some .cell) = true := by rw [hf, hy]; rfl
      rw [if_pos hc]
      simp only [List.lookup_cons, hx]
    | false =>
      simp only [List.lookup_cons, hx] at h
      by_cases hc : (k == NameKind.free && env.scope.kind == .function && env.kindOf n == some .cell) = true
      · rw [if_pos hc]; simp only [List.lookup_cons, hx]; exact ih h
      · rw [if_neg hc]; simp only [List.lookup_cons, hx]; exact ih h
theorem compScope1 {X : Cx} {x y : Str} {scope : Scope} {c : Addr} {i : Nat} (hclos : closureFor scope X.env = pure [(y, c)]) (hy : X.env.cells.lookup y = some c) (hc : ∀ z ∈ scope.names, z.2 ≠ .cell) (hk : scope.kind = .function)
    (hn : ∀ z ∈ scope.names, z.2 = .local → scope.names.lookup z.1 = some .local) (hx : scope.names.lookup x = some .local) (hfree : ∀ z ∈ scope.names, z.2 = .free → z.1 = y) (hxy : x ≠ y) (hi : X.N[i]? = some y)
    (hky : X.env.kindOf y = some .cell) (hkf : X.env.scope.kind = .function) (hys : scope.names.lookup y = some .free) : CompScope X x [y] [i] scope [(y, c)] where
  clos := hclos
  sub := fun z d h => by
    by_cases e : z = y
    · subst e
      have : c = d := by simpa [List.lookup_cons] using h
      rw [← this]
      exact hy
    · have hb : (z == y) = false := beq_eq_false_iff_ne.mpr e
      simp [List.lookup_cons, hb] at h
  cell := hc
  kind := hk
  names := hn
  own := hx
  has := fun z h => by
    have e : z = y := by
      rcases h with h | h
      · exact hfree _ (relabel_mem h (.inl rfl) hc) rfl
      · exact hfree _ (relabel_mem h (.inr rfl) hc) rfl
    subst e
    exact ⟨c, by simp [List.lookup_cons]⟩
  nd := by simp [hxy]
  len := rfl
  at_ := fun j z h => by
    cases j with
    | zero =>
      have e : y = z := by simpa using h
      subst e
      exact ⟨i, rfl, hi, .inl hky, c, by simp [List.lookup_cons], .inl (lookup_relabel_free hkf hky hys)⟩
    | succ j => simp at h
end L2
set_option Elab.async false
set_option linter.all false
set_option maxRecDepth 100000
set_option maxHeartbeats 4000000
namespace L2
open PySem PySem.Spec PyProof.Rows
namespace Rv
def IsRv (h : Heap) (it t : Addr) (i : Int) : Prop := ∃ o, h.get? it = some o ∧ o.cls = .type "reversed" ∧ o.data = .fields #[.ref t, rawInt i]
theorem IsRv.typeIs {s : Shared} {it t : Addr} {i : Int} (x : IsRv s.heap it t i) : s.TypeIs (.ref it) "reversed" := let ⟨o, ho, hc, _⟩ := x; ⟨o, ho, hc⟩
theorem IsRv.at {h h' : Heap} {it t : Addr} {i : Int} (x : IsRv h it t i) (e : ∀ o, h.get? it = some o → h'.get? it = some o) : IsRv h' it t i := let ⟨o, ho, r⟩ := x; ⟨o, e _ ho, r⟩
section
variable {prog : Program} {w : World} {A : Around} {E : Value → Shared → Prop} {s : Shared}
end
end Rv
section
variable {X : Cx} {tg : Expr}
end
end L2
set_option Elab.async false
set_option linter.all false
set_option maxRecDepth 100000
set_option maxHeartbeats 4000000
namespace L2
open PySem PySem.Spec PyProof.Rows
def intV (ns : List Int) : List V := ns.map V.int
theorem ints_at {ns : List Int} {i : Nat} {z : Int} (h : ns[i]? = some z) : (intV ns)[i]? = some (V.int z) := by
  unfold intV; rw [List.getElem?_map, h]; rfl
theorem ints_len (ns : List Int) : (intV ns).length = ns.length := List.length_map ..
theorem ints_of_at {ns : List Int} {i : Nat} {v : V} (h : (intV ns)[i]? = some v) : ∃ z, v = V.int z ∧ ns[i]? = some z := by
  unfold intV at h
  rw [List.getElem?_map] at h
  cases e : ns[i]? with
  | none => rw [e] at h; cases h
  | some z => rw [e] at h; exact ⟨z, (Option.some.inj h).symm, rfl⟩
theorem ints_app (a b : List Int) : intV (a ++ b) = intV a ++ intV b := List.map_append ..
theorem all_eq (ns ms : List Int) : ((List.range (min ns.length ms.length)).all (fun j => decide (ns[j]? = ms[j]?)) && ns.length == ms.length) = decide (ns = ms) := by
  rw [Bool.eq_iff_iff, Bool.and_eq_true, List.all_eq_true, decide_eq_true_iff, beq_iff_eq]
  constructor
  · rintro ⟨h1, h2⟩
    refine List.ext_getElem? fun i => ?_
    by_cases hi : i < ns.length
    · exact of_decide_eq_true (h1 i (List.mem_range.mpr (by omega)))
    · rw [List.getElem?_eq_none (by omega), List.getElem?_eq_none (by omega)]
  · rintro rfl
    exact ⟨fun j _ => decide_eq_true rfl, rfl⟩
section
variable {X : Cx}
def rEqTI (K : PySem.W.Frag) : R2 := fun x y H Q => ∃ a b ns ms, x = .ref a ∧ y = .ref b ∧ SqT K H a (intV ns) ∧ SqT K H b (intV ms) ∧ Q (.bl (decide (ns = ms))) H
def rNeTI (K : PySem.W.Frag) : R2 := fun x y H Q => ∃ a b ns ms, x = .ref a ∧ y = .ref b ∧ SqT K H a (intV ns) ∧ SqT K H b (intV ms) ∧ Q (.bl (!decide (ns = ms))) H
theorem eqItems {A : Around} {s : Shared} {ns ms : List Int} {its its2 : List Value} (r1 : Vals (intV ns) its) (r2 : Vals (intV ms) its2) (j : Nat) (h1 : j < its.toArray.size) (h2 : j < its2.toArray.size) :
    SeqAt.EqAt A s its.toArray[j] its2.toArray[j] (decide (ns[j]? = ms[j]?)) := by
  have l1 := r1.length
  have l2 := r2.length
  rw [ints_len] at l1 l2
  have g1 : j < its.length := by simpa using h1
  have g2 : j < its2.length := by simpa using h2
  have e1 : ns[j]? = some ns[j] := List.getElem?_eq_getElem (by omega)
  have e2 : ms[j]? = some ms[j] := List.getElem?_eq_getElem (by omega)
  obtain ⟨u, hu, t, rfl⟩ := r1.get (ints_at e1)
  obtain ⟨v, hv, t', rfl⟩ := r2.get (ints_at e2)
  have f1 : its.toArray[j] = Value.int ns[j] t := by
    rw [List.getElem_toArray]
    exact Option.some.inj ((List.getElem?_eq_getElem g1).symm.trans hu)
  have f2 : its2.toArray[j] = Value.int ms[j] t' := by
    rw [List.getElem_toArray]
    exact Option.some.inj ((List.getElem?_eq_getElem g2).symm.trans hv)
  rw [f1, f2, e1, e2]
  have := SeqAt.EqAt.int_int (A := A) (s := s) ns[j] t ms[j] t'
  have e : decide (some ns[j] = some ms[j]) = (ns[j] == ms[j]) := by
    rw [Bool.eq_iff_iff, decide_eq_true_iff, beq_iff_eq]
    exact ⟨Option.some.inj, congrArg some⟩
  rw [e]
  exact this
theorem op_eqTI (hu : X.A.units < cLine) : OpR X (compareOp .Eq) (rEqTI X.K) := by
  intro pins s σ H x y v u Q I rx ry h
  obtain ⟨a, b, ns, ms, rfl, rfl, ha, hb, q⟩ := h
  cases rx
  cases ry
  obtain ⟨its, r1, p1, _⟩ := I.tuple ha
  obtain ⟨its2, r2, p2, _⟩ := I.tuple hb
  refine SeqAt.eq_tupleAt (e := fun j => decide (ns[j]? = ms[j]?)) (show s.heap.IsTuple a its.toArray from p1) (show s.heap.IsTuple b its2.toArray from p2) hu (fun j h1 h2 => eqItems r1 r2 j h1 h2) ⟨.bl (decide (ns = ms)), H, I, ?_, q⟩
  have l1 := r1.length
  have l2 := r2.length
  rw [ints_len] at l1 l2
  show _ = Value.bool (decide (ns = ms))
  rw [← all_eq, List.size_toArray, List.size_toArray, ← l1, ← l2]
theorem op_neTI (hu : X.A.units < cLine) : OpR X (compareOp .NotEq) (rNeTI X.K) := by
  intro pins s σ H x y v u Q I rx ry h
  obtain ⟨a, b, ns, ms, rfl, rfl, ha, hb, q⟩ := h
  cases rx
  cases ry
  obtain ⟨its, r1, p1, _⟩ := I.tuple ha
  obtain ⟨its2, r2, p2, _⟩ := I.tuple hb
  refine SeqAt.RcNeAt.tuples (e := fun j => decide (ns[j]? = ms[j]?)) (show s.heap.IsTuple a its.toArray from p1) (show s.heap.IsTuple b its2.toArray from p2) hu (fun j h1 h2 => eqItems r1 r2 j h1 h2) X.prog X.w X.xe _ ⟨.bl (!decide (ns = ms)), H, I, ?_, q⟩
  have l1 := r1.length
  have l2 := r2.length
  rw [ints_len] at l1 l2
  show _ = Value.bool (!decide (ns = ms))
  rw [← all_eq, List.size_toArray, List.size_toArray, ← l1, ← l2]
def rIsi (K : PySem.W.Frag) : List V → Hp → VK → Prop := fun xs H Q => ∃ x T t b, xs = [x, .ty T] ∧ TyOf K H x t ∧ PySem.W.kitOne K t (.type T) = some b ∧ Q (.bl b) H
theorem call_isi : CallR X (.builtin "isinstance") (rIsi X.K) := by
  intro pins s σ H xs us Q I r h
  obtain ⟨x, T, t, b, rfl, ty, e, q⟩ := h
  obtain ⟨u, w', rfl, rx, ry⟩ := vals2 r
  cases ry
  exact isinst_ok I rx ty e fun tk => ⟨.bl b, H, I.tok tk, rfl, q⟩
theorem kit_self (K : PySem.W.Frag) (T : String) : PySem.W.kitOne K (.type T) (.type T) = some true := by
  unfold PySem.W.kitOne
  rw [if_pos (beq_self_eq_true _)]
theorem kit_int_bool (K : PySem.W.Frag) : PySem.W.kitOne K (.type "int") (.type "bool") = some false := by
  first | rfl | kernel_rfl | decide +kernel
end
end L2
set_option Elab.async false
set_option linter.all false
set_option maxRecDepth 100000
set_option maxHeartbeats 4000000
namespace L2
open PySem PySem.Spec PyProof.Rows
theorem Same.upd {H : Hp} {a : Addr} {o : HO} (h : H a = Option.none) : Same H (upd H a o) := fun b u e => by
  rw [upd_ne (ne_of_none e h)]
  exact e
section
variable {X : Cx}
def rCatTT : R2 := fun x y H Q => ∃ a b xs ys, x = .ref a ∧ y = .ref b ∧ H a = some (.tup xs) ∧ H b = some (.tup ys) ∧ xs.length + ys.length ≤ sizeLine ∧
  ∀ p H', Same H H' → H' p = some (.tup (xs ++ ys)) → Q (.ref p) H'
theorem cat_tup0 {prog : Program} {w : World} {A : Around} {E : Value → Shared → Prop} {s : Shared} {t b : Addr} {ws : List Value} {Q : Value → Shared → Prop} (ht : IsTup s.heap t ([] : List Value).toArray) (hb : IsTup s.heap b ws.toArray)
    (h : Q (.ref b) s) : wpAny (model prog w) A (binaryOp .Add (.ref t) (.ref b)) Q E s := by
  obtain ⟨⟨cls, dd, data, sl⟩, ho, hc, n, hd⟩ := id ht
  obtain ⟨⟨cls2, dd2, data2, sl2⟩, ho2, hc2, n2, hd2⟩ := id hb
  simp only at hc hd hc2 hd2
  subst hc hd hc2 hd2
  exact concat_meets ⟨_, ho, rfl⟩ ⟨_, ho2, rfl⟩ noFill_tuple_add seq_tuple_add PySem.F.slot_tuple_add PySem.F.entry_tuple_add (PySem.F.args_tuple_add_2 _ _)
      (tuple_addW0 t b ([] : List Value).toArray ws.toArray n n2 dd dd2 sl sl2 rfl) ⟨ho, ho2, h⟩
theorem op_catTT : OpR X (binaryOp .Add) rCatTT := by
  intro pins s σ H x y v u Q I rx ry h
  obtain ⟨a, b, xs, ys, rfl, rfl, ha, hb, hz, q⟩ := h
  by_cases hx : xs = []
  · subst hx
    cases rx
    cases ry
    obtain ⟨its, r1, p1, _⟩ := I.tuple (SqT.of ha)
    obtain ⟨its2, r2, p2, _⟩ := I.tuple (SqT.of hb)
    have e : its = [] := r1.nil_iff.mpr rfl
    subst e
    exact cat_tup0 p1 p2 ⟨.ref b, H, I, rfl, q b H (Same.refl H) hb⟩
  · refine op_catT pins s σ H (.ref a) (.ref b) v u Q I rx ry ⟨a, b, xs, ys, rfl, rfl, SqT.of ha, SqT.of hb, hx, hz, fun e => ?_, fun _ p hp => q p _ (Same.upd hp) upd_same⟩
    subst e
    exact q a H (Same.refl H) (by rw [List.append_nil]; exact ha)
def rSlTT : V → Option Int → Option Int → Hp → VK → Prop := fun x lo hi H Q => ∃ a xs, x = .ref a ∧ H a = some (.tup xs) ∧ ∀ p H', Same H H' → H' p = some (.tup (cutV xs lo hi)) → Q (.ref p) H'
end
end L2
namespace HT
open PySem PyProof.Rows
section
variable {prog : Program} {w : World} {A : Around} {E : Value → Shared → Prop} {s : Shared}
theorem getItem_tuple_whole {t sl : Addr} {items : Array Value} {vl vu : Value} {lo hi : Option Int} {Q : Value → Shared → Prop} (ht : IsTup s.heap t items) (hs : s.heap.IsSliceOf sl vl vu .none) (pl : IsPart vl lo) (pu : IsPart vu hi)
    (hw : sIx items.size 0 lo = 0 ∧ sIx items.size items.size hi = items.size) (h : Q (.ref t) s) : wpAny (model prog w) A (getItem (.ref t) (.ref sl)) Q E s := by
  obtain ⟨os, hos, hcs, hds⟩ := id hs
  have hTs : s.TypeIs (.ref sl) "slice" := ⟨os, hos, hcs⟩
  unfold getItem
  try with_reducible refine wpAny_holding ?_
  first | refine wpAny_bind (wpAny_pure ?_) | skip
  refine wpAny_bind (wpAny_sequenceKey ht.typeIs (by decide) ?_)
  refine wpAny_bind (wpAny_callSpecial?_slot (name := Str.ofString "__getitem__") ht.typeIs PyProof.Rows.slot_tuple_getitem
    (wpAny_call_entry PyProof.Rows.slot_tuple_getitem ht.typeIs entry_tuple_getitem ?_ (args_tuple_getitem _ _)))
  show wpAny _ _ (Builtin.Tuple.tupleItemsOf (.ref t) >>= _) _ _ s
  refine wpAny_bind (tupleItemsOf_ ht ?_)
  refine wpAny_bind (wpAny_typeOf hTs ?_)
  rw [if_pos (by decide)]
  refine wpAny_bind (sliceApplied_gen hs pl pu ?_)
  rw [hw.1, hw.2]
  have hyes : ((((0 : Nat) : Int) == 0 && (1 : Int) == 1 && (items.size - 0) == items.size) = true) := by simp
  show wpAny _ _ (if (((0 : Nat) : Int) == 0 && (1 : Int) == 1 && (items.size - 0) == items.size) = true then _ else _) _ _ s
  rw [if_pos hyes]
  obtain ⟨ot, hot, hct, _⟩ := id ht
  refine wpAny_bind (m := Builtin.Tuple.tupleIsExact _) ?_
  unfold Builtin.Tuple.tupleIsExact
  refine wpAny_bind (wpAny_typeOf ht.typeIs (wpAny_pure ?_))
  show wpAny _ _ (if (Value.type "tuple" == Value.type "tuple") = true then _ else _) _ _ s
  rw [if_pos (by decide)]
  exact wpAny_bind (wpAny_rule (wpAny_pure ⟨_, rfl, wpAny_pure h⟩))
theorem sliceApplied_rev {sl : Addr} {t : Tok} {n : Nat} {Q : Int × Int × Nat → Shared → Prop} (hs : s.heap.IsSliceOf sl .none .none (.int (-1) t))
    (h : Q ((n : Int) - 1, -1, n) s) : wpAny (model prog w) A (Builtin.Slice.sliceApplied (.ref sl) (pure (n : Int))) Q E s := by
  obtain ⟨os, hos, hcs, hds⟩ := id hs
  unfold Builtin.Slice.sliceApplied Builtin.Slice.sliceFields
  refine wpAny_bind (wpAny_bind (wpAny_field hos hds (x := .none) rfl (wpAny_bind (wpAny_field hos hds (x := .none) rfl (wpAny_bind (wpAny_field hos hds (x := .int (-1) t) rfl (wpAny_pure ?_)))))))
  refine wpAny_bind (slicePart_int ?_)
  show wpAny _ _ (if ((-1 : Int) == 0) = true then _ else _) _ _ s
  rw [if_neg (by decide)]
  refine wpAny_bind (slicePart_none (wpAny_bind (slicePart_none (wpAny_bind (wpAny_pure ?_)))))
  show wpAny _ _ (match Builtin.Slice.sliceAdjust none none (-1) (n : Int) with | (lo, hi) => pure (lo, (-1 : Int), Builtin.Slice.slicePlaces lo hi (-1))) _ _ s
  have e1 : Builtin.Slice.sliceAdjust none none (-1) (n : Int) = ((n : Int) - 1, -1) := by
    unfold Builtin.Slice.sliceAdjust
    simp
  rw [e1]
  show wpAny _ _ (pure ((n : Int) - 1, (-1 : Int), Builtin.Slice.slicePlaces ((n : Int) - 1) (-1) (-1))) _ _ s
  have e2 : Builtin.Slice.slicePlaces ((n : Int) - 1) (-1) (-1) = n := by
    unfold Builtin.Slice.slicePlaces
    simp
    omega
  rw [e2]
  exact wpAny_pure h
theorem pick_rev (xs : List Value) : ((List.range xs.length).filterMap fun (m : Nat) => xs.toArray[((xs.length : Int) - 1 + (m : Int) * (-1)).toNat]?).toArray = xs.reverse.toArray := by
  congr 1
  refine List.ext_getElem? fun i => ?_
  have e : (List.range xs.length).filterMap (fun (m : Nat) => xs.toArray[((xs.length : Int) - 1 + (m : Int) * (-1)).toNat]?) = (List.range xs.length).map fun m => xs.getD (xs.length - 1 - m) .none := by
    have : ∀ l : List Nat, (∀ m ∈ l, m < xs.length) → l.filterMap (fun (m : Nat) => xs.toArray[((xs.length : Int) - 1 + (m : Int) * (-1)).toNat]?) = l.map fun m => xs.getD (xs.length - 1 - m) .none := by
      intro l
      induction l with
      | nil => intro _; rfl
      | cons m l ih =>
        intro hl
        have hm := hl m (List.mem_cons_self ..)
        have e1 : ((xs.length : Int) - 1 + (m : Int) * (-1)).toNat = xs.length - 1 - m := by omega
        have e2 : xs.toArray[((xs.length : Int) - 1 + (m : Int) * (-1)).toNat]? = some (xs.getD (xs.length - 1 - m) .none) := by
          rw [e1, List.getElem?_toArray, List.getD_eq_getElem?_getD, List.getElem?_eq_getElem (by omega)]
          rfl
        rw [List.filterMap_cons, e2, List.map_cons, ih fun k hk => hl k (List.mem_cons_of_mem _ hk)]
    exact this _ fun m hm => List.mem_range.mp hm
  rw [e, List.getElem?_map]
  by_cases hi : i < xs.length
  · rw [List.getElem?_reverse hi, List.getElem?_range hi, List.getElem?_eq_getElem (by omega)]
    simp [List.getD_eq_getElem?_getD, List.getElem?_eq_getElem (show xs.length - 1 - i < xs.length by omega)]
  · rw [List.getElem?_eq_none (by simp; omega), List.getElem?_eq_none (by simp; omega)]
    rfl
theorem getItem_tuple_rev {t sl : Addr} {its : List Value} {tk : Tok} {Q : Value → Shared → Prop} (ht : IsTup s.heap t its.toArray) (hs : s.heap.IsSliceOf sl .none .none (.int (-1) tk))
    (h : Q (.ref s.heap.objs.size) { s with heap := s.heap.push { cls := .type "tuple", data := .seq its.reverse.toArray } })
    (hsz : its.length ≤ sizeLine) : wpAny (model prog w) A (getItem (.ref t) (.ref sl)) Q E s := by
  have htake : sizeOk (.seq its.reverse.toArray) := by
    show its.reverse.toArray.size ≤ sizeLine
    rw [List.size_toArray, List.length_reverse]
    exact hsz
  obtain ⟨os, hos, hcs, hds⟩ := id hs
  have hTs : s.TypeIs (.ref sl) "slice" := ⟨os, hos, hcs⟩
  unfold getItem
  try with_reducible refine wpAny_holding ?_
  first | refine wpAny_bind (wpAny_pure ?_) | skip
  refine wpAny_bind (wpAny_sequenceKey ht.typeIs (by decide) ?_)
  refine wpAny_bind (wpAny_callSpecial?_slot (name := Str.ofString "__getitem__") ht.typeIs PyProof.Rows.slot_tuple_getitem
    (wpAny_call_entry PyProof.Rows.slot_tuple_getitem ht.typeIs entry_tuple_getitem ?_ (args_tuple_getitem _ _)))
  show wpAny _ _ (Builtin.Tuple.tupleItemsOf (.ref t) >>= _) _ _ s
  refine wpAny_bind (tupleItemsOf_ ht ?_)
  refine wpAny_bind (wpAny_typeOf hTs ?_)
  rw [if_pos (by decide)]
  refine wpAny_bind (sliceApplied_rev hs ?_)
  have hno : ¬ ((((its.toArray.size : Int) - 1) == 0 && (-1 : Int) == 1 && its.toArray.size == its.toArray.size) = true) := by
    intro q
    rw [Bool.and_eq_true, Bool.and_eq_true] at q
    exact absurd q.1.2 (by decide)
  show wpAny _ _ (if (((its.toArray.size : Int) - 1) == 0 && (-1 : Int) == 1 && its.toArray.size == its.toArray.size) = true then _ else _) _ _ s
  rw [if_neg hno]
  have e := pick_rev its
  rw [show its.length = its.toArray.size from rfl] at e
  rw [e]
  first
    | exact wpAny_bind (m := Builtin.Tuple.tupleExact _) (wpAny_newObj_type (wpAny_pure ⟨_, rfl, wpAny_pure h⟩) htake)
    | exact wpAny_bind (m := Builtin.Tuple.tupleExact _) (wpAny_newObj_type (wpAny_bind (wpAny_pure (wpAny_pure ⟨_, rfl, wpAny_pure h⟩))) htake)
    | exact wpAny_bind (wpAny_bind (m := Builtin.Tuple.tupleExact _) (wpAny_newObj_type (wpAny_pure (wpAny_pure ⟨_, rfl, wpAny_pure h⟩)) htake))
    | exact wpAny_bind (wpAny_bind (m := Builtin.Tuple.tupleExact _) (wpAny_newObj_type (wpAny_pure ⟨_, rfl, wpAny_pure h⟩) htake))
end
theorem noFill_tuple_mul : fillsNumberSlot (.type "tuple") "mul" = pure false :=
  PySem.fillsNumberSlot_seq (id := "tuple.__mul__") (r := some (.builtin "tuple.__rmul__")) PySem.F.slot_tuple_mul.lookup (by decide +kernel) PySem.F.slot_tuple_rmul.lookup (by decide +kernel)
theorem repeat_tuple : seqRepeat? (.type "tuple") = pure (some (.builtin "tuple.__mul__")) := by
  unfold seqRepeat?
  rw [PySem.seqSlot_of (T := "tuple") (name := "__mul__") (id := "tuple.__mul__") PySem.F.slot_tuple_mul.lookup (by decide +kernel), PySem.seqSlot_of (T := "tuple") (name := "__rmul__") (id := "tuple.__rmul__") PySem.F.slot_tuple_rmul.lookup (by decide +kernel)]
  rfl
theorem int_rmul_tuple (a : Int) (t : Tok) (l : Addr) (items : Array Value) (n : Nat) (dd : Option Addr) (sl : Array (Option Value)) :
    Meets (Builtin.«int.__rmul__» ⟨[.int a t, .ref l], []⟩) (fun _ R s => s.heap.get? l = some { cls := .type "tuple", dict := dd, data := .seq items n, slots := sl } ∧ R (.ok (.ret Value.notImplemented)) s) :=
  .of_wp fun prog w A R s h => by obtain ⟨hp, g, d, tk, os⟩ := s; obtain ⟨hl, h⟩ := h; wp_walk; exact ⟨_, rfl, h⟩
theorem tuple_mul_same (l : Addr) (items : Array Value) (n : Nat) (dd : Option Addr) (sl : Array (Option Value)) (x : Int) (u : Tok) (h0 : ¬ (decide (x < -(2 ^ 63)) || decide (x ≥ 2 ^ 63)) = true) (hc : (items.isEmpty || x == 1) = true) :
    Meets (Builtin.«tuple.__mul__» ⟨[.ref l, .int x u], []⟩) (fun _ R s => s.heap.get? l = some { cls := .type "tuple", dict := dd, data := .seq items n, slots := sl } ∧ R (.ok (.ret (.ref l))) s) :=
  .of_wp fun prog w A R s h => by
    obtain ⟨hp, g, d, tk, os⟩ := s; obtain ⟨hl, h⟩ := h
    have hT : (⟨hp, g, d, tk, os⟩ : Shared).TypeIs (.ref l) "tuple" := ⟨_, hl, rfl⟩
    wp_walk
    refine wpAny_ite_false (decide_eq_false h0) ?_
    wp_walk
    exact ⟨_, rfl, h⟩
theorem tuple_mul_none (l : Addr) (items : Array Value) (n : Nat) (dd : Option Addr) (sl : Array (Option Value)) (x : Int) (u : Tok) (h0 : ¬ (decide (x < -(2 ^ 63)) || decide (x ≥ 2 ^ 63)) = true) (hc : ¬ (items.isEmpty || x == 1) = true) (hx : (decide (x ≤ 0) || items.isEmpty) = true) :
    Meets (Builtin.«tuple.__mul__» ⟨[.ref l, .int x u], []⟩) (fun _ R s => s.heap.get? l = some { cls := .type "tuple", dict := dd, data := .seq items n, slots := sl } ∧ R (.ok (.ret (.ref s.heap.objs.size))) { s with heap := s.heap.push { cls := .type "tuple", data := .seq #[] } }) :=
  .of_wp fun prog w A R s h => by
    obtain ⟨hp, g, d, tk, os⟩ := s; obtain ⟨hl, h⟩ := h
    have hT : (⟨hp, g, d, tk, os⟩ : Shared).TypeIs (.ref l) "tuple" := ⟨_, hl, rfl⟩
    wp_walk
    refine wpAny_ite_false (decide_eq_false h0) ?_
    wp_walk
    exact ⟨_, rfl, h⟩
theorem tuple_mul_many (l : Addr) (items : Array Value) (n : Nat) (dd : Option Addr) (sl : Array (Option Value)) (x : Int) (u : Tok) (h0 : ¬ (decide (x < -(2 ^ 63)) || decide (x ≥ 2 ^ 63)) = true) (hc : ¬ (items.isEmpty || x == 1) = true) (hx : ¬ (decide (x ≤ 0) || items.isEmpty) = true)
    (h1 : ¬ ((items.size : Int) * x > (2 ^ 63 - 1) / 8)) (h2 : ¬ (Builtin.Tuple.tupleTooMany ((items.size : Int) * x)) = true) (hz : (List.foldl (fun x1 x2 => x1 ++ x2) #[] (List.replicate x.toNat items)).size ≤ sizeLine) :
    Meets (Builtin.«tuple.__mul__» ⟨[.ref l, .int x u], []⟩) (fun _ R s => s.heap.get? l = some { cls := .type "tuple", dict := dd, data := .seq items n, slots := sl } ∧ R (.ok (.ret (.ref s.heap.objs.size))) { s with heap := s.heap.push { cls := .type "tuple", data := .seq (List.foldl (fun x1 x2 => x1 ++ x2) #[] (List.replicate x.toNat items)) } }) :=
  .of_wp fun prog w A R s h => by
    obtain ⟨hp, g, d, tk, os⟩ := s; obtain ⟨hl, h⟩ := h
    have hT : (⟨hp, g, d, tk, os⟩ : Shared).TypeIs (.ref l) "tuple" := ⟨_, hl, rfl⟩
    wp_walk
    refine wpAny_ite_false (decide_eq_false h0) ?_
    wp_walk
    refine wpAny_ite_false (decide_eq_false h1) ?_
    wp_walk
    exact ⟨_, rfl, h⟩
end HT
namespace L2
open PySem PySem.Spec PyProof.Rows
section
variable {X : Cx} {e : Expr} {te : TE} {lo hi : Option Expr} {st : Expr} {tl th ts : TO} {pos p2 : Pos}
theorem sl_tupTT : SlR X rSlTT := by
  intro pins s σ H x v vl vu lo hi sl Q I rx hs pl pu h
  obtain ⟨a, xs, rfl, hx, q⟩ := h
  by_cases hw : HT.sIx xs.length 0 lo = 0 ∧ HT.sIx xs.length xs.length hi = xs.length
  · cases rx
    obtain ⟨its, r, ht, hz⟩ := I.tuple (SqT.of hx)
    have hlen : its.toArray.size = xs.length := by rw [List.size_toArray]; exact r.length.symm
    refine ⟨"tuple", _, PyProof.Rows.slot_tuple_getitem.lookup, ht.typeIs, ?_⟩
    refine HT.getItem_tuple_whole ht hs pl pu (by rw [hlen]; exact hw) ⟨.ref a, H, I, rfl, q a H (Same.refl H) ?_⟩
    unfold cutV
    rw [hw.1, hw.2, List.drop_zero, Nat.sub_zero, List.take_length]
    exact hx
  · exact sl_tup pins s σ H (.ref a) v vl vu lo hi sl Q I rx hs pl pu ⟨a, xs, rfl, SqT.of hx, hw, fun p hp => q p _ (Same.upd hp) upd_same⟩
def SlR3 (X : Cx) (r : V → Option Int → Option Int → Option Int → Hp → VK → Prop) : Prop :=
  ∀ (pins : List (Addr × Obj)) (s : Shared) (σ : St) (H : Hp) (x : V) (v vl vu vs : Value) (lo hi st : Option Int) (sl : Addr) (Q : VK), Inv X pins σ H s → RelV x v → s.heap.IsSliceOf sl vl vu vs → IsPart vl lo → IsPart vu hi → IsPart vs st → r x lo hi st H Q →
    ∃ T id, typeLookup (.type T) "__getitem__" = pure (some (.builtin id)) ∧ s.TypeIs v T ∧ wpAny (model X.prog X.w) X.A (getItem v (.ref sl)) (EP X pins σ Q) X.xe s
def tSl3 (r : V → Option Int → Option Int → Option Int → Hp → VK → Prop) (te : TE) (tl th ts : TO) : TE := fun σ H Q => te σ H fun x H1 => tl σ H1 fun l H2 => th σ H2 fun u H3 => ts σ H3 fun k H4 => r x l u k H4 Q
theorem pe_slice3 {r : V → Option Int → Option Int → Option Int → Hp → VK → Prop} (hr : SlR3 X r) (he : PE X e te) (hl : PO X lo tl) (hu : PO X hi th) (hst : PO X (some st) ts) : PE X (.Subscript e (.Slice lo hi (some st) p2) pos) (tSl3 r te tl th ts) := by
  intro pins s σ H Q I h
  refine Subscript_ (thn (he pins s σ H _ I h) fun v s1 ⟨x, H1, I1, r1, q1⟩ => ?_)
  refine wpAny_Slice (thn (hl pins s1 σ H1 _ I1 q1) fun vl s2 ⟨l, H2, I2, pl, q2⟩ => thn (hu pins s2 σ H2 _ I2 q2) fun vu s3 ⟨u, H3, I3, pu, q3⟩ => thn (hst pins s3 σ H3 _ I3 q3) fun vs s4 ⟨k, H4, I4, pk, q4⟩ => ?_)
  have I5 : Inv X pins σ H4 { s4 with heap := s4.heap.push { cls := .type "slice", data := .fields #[vl, vu, vs] } } := I4.kept (t' := s4.toks) fun b ob q => Heap.get?_push_of_some _ q
  obtain ⟨T, id, hT, ht, hg⟩ := hr pins { s4 with heap := s4.heap.push { cls := .type "slice", data := .fields #[vl, vu, vs] } } σ H4 x v vl vu vs l u k s4.heap.objs.size Q I5 r1 (Heap.IsSliceOf.new ..) pl pu pk q4
  show wpAny (model X.prog X.w) X.A (subscriptTail e (.Slice lo hi (some st) p2) v (.ref s4.heap.objs.size)) (EP X pins σ Q) X.xe { s4 with heap := s4.heap.push { cls := .type "slice", data := .fields #[vl, vu, vs] } }
  exact tail_any (ops := [v, .ref s4.heap.objs.size]) ht hT hg (by with_unfolding_all rfl)
def rRevT : V → Option Int → Option Int → Option Int → Hp → VK → Prop := fun x lo hi st H Q => ∃ a xs, x = .ref a ∧ H a = some (.tup xs) ∧ lo = none ∧ hi = none ∧ st = some (-1) ∧ ∀ p, H p = none → Q (.ref p) (upd H p (.tup xs.reverse))
theorem sl_revT : SlR3 X rRevT := by
  intro pins s σ H x v vl vu vs lo hi st sl Q I rx hs pl pu pk h
  obtain ⟨a, xs, rfl, hx, rfl, rfl, rfl, q⟩ := h
  cases rx
  cases pl
  cases pu
  obtain ⟨tk, rfl⟩ : ∃ tk, vs = .int (-1) tk := by cases pk with | int i t => exact ⟨t, rfl⟩
  obtain ⟨its, r, ht, hz⟩ := I.tuple (SqT.of hx)
  have hl := r.length
  refine ⟨"tuple", _, PyProof.Rows.slot_tuple_getitem.lookup, ht.typeIs, ?_⟩
  refine HT.getItem_tuple_rev ht hs ?_ (by omega)
  refine ⟨.ref s.heap.objs.size, _, I.laid (t' := s.toks) (o := .tup xs.reverse) (fun b ob q => Heap.get?_push_of_some _ q) (Nat.le_refl _) ?_, rfl, q _ (I.hok.fresh (Nat.le_refl _))⟩
  exact ⟨by rw [List.length_reverse]; exact hz, _, r.reverse, IsTup.new _ _⟩
def rRepT : R2 := fun x y H Q => ∃ a k xs, x = .ref a ∧ y = .int k ∧ H a = some (.tup xs) ∧ -(2 ^ 63) ≤ k ∧ k < 2 ^ 63 ∧ xs.length * k.toNat ≤ sizeLine ∧
  ∀ p H', Same H H' → H' p = some (.tup (List.replicate k.toNat xs).flatten) → Q (.ref p) H'
theorem op_repT : OpR X (binaryOp .Mult) rRepT := by
  intro pins s σ H x y v u Q I rx ry h
  obtain ⟨l, k, xs, rfl, rfl, hH, h1, h2, hz, q⟩ := h
  cases rx
  obtain ⟨t, rfl⟩ := ry
  obtain ⟨its, r, p1, hzx⟩ := I.tuple (SqT.of hH)
  have hl := r.length
  obtain ⟨⟨cls, dd, data, sl⟩, ho, hc, n, hd⟩ := id p1
  simp only at hc hd
  subst hc hd
  have h0 : ¬ (decide (k < -(2 ^ 63)) || decide (k ≥ 2 ^ 63)) = true := by
    rw [Bool.or_eq_true, decide_eq_true_iff, decide_eq_true_iff]
    omega
  have go : ∀ {S : PySem.Spec}, Meets (Builtin.«tuple.__mul__» ⟨[.ref l, .int k t], []⟩) (fun A' R s' => s'.heap.get? l = some { cls := .type "tuple", dict := dd, data := .seq its.toArray n, slots := sl } ∧ S A' R s') →
      S X.A (wants (EP X pins σ Q) X.xe) s → wpAny (model X.prog X.w) X.A (binaryOp .Mult (.ref l) (.int k t)) (EP X pins σ Q) X.xe s := fun {S} m hS =>
    wpAny_binaryOp_repeat_ref (T := "tuple") (U := "int") (by decide) ⟨_, ho, rfl⟩ (fun s' => typeIs_int s' k t) HT.noFill_tuple_mul F.fills_int_mul F.slot_int_rmul HT.repeat_tuple F.slot_int_index.lookup
      (call_meets F.slot_int_rmul (typeIs_int s k t) F.entry_int_rmul (F.args_int_rmul_2 _ _) (HT.int_rmul_tuple k t l its.toArray n dd sl)
        ⟨ho, rfl, ⟨_, ho, rfl⟩, call_meets F.slot_tuple_mul ⟨_, ho, rfl⟩ F.entry_tuple_mul (F.args_tuple_mul_2 _ _) m ⟨ho, hS⟩⟩)
  by_cases hc : (its.toArray.isEmpty || k == 1) = true
  · refine go (S := fun _ R s' => R (.ok (.ret (.ref l))) s') (HT.tuple_mul_same l its.toArray n dd sl k t h0 hc) ⟨.ref l, H, I, rfl, q l H (Same.refl H) ?_⟩
    have e : (List.replicate k.toNat xs).flatten = xs := by
      rw [Bool.or_eq_true] at hc
      rcases hc with hc | hc
      · have : its = [] := by simpa using hc
        have : xs = [] := by
          have hl' := hl
          rw [this] at hl'
          exact List.eq_nil_of_length_eq_zero hl'
        subst this
        simp
      · have : k = 1 := by simpa using hc
        subst this
        simp
    rw [e]
    exact hH
  · by_cases hx : (decide (k ≤ 0) || its.toArray.isEmpty) = true
    · refine go (S := fun _ R s' => R (.ok (.ret (.ref s'.heap.objs.size))) { s' with heap := s'.heap.push { cls := .type "tuple", data := .seq #[] } }) (HT.tuple_mul_none l its.toArray n dd sl k t h0 hc hx) ?_
      refine ⟨.ref s.heap.objs.size, _, I.laid (t' := s.toks) (o := .tup []) (fun b ob q => Heap.get?_push_of_some _ q) (Nat.le_refl _) ?_, rfl, q _ _ (Same.upd (I.hok.fresh (Nat.le_refl _))) ?_⟩
      · exact ⟨Nat.zero_le _, [], .nil, IsTup.new _ _⟩
      · have e : k.toNat = 0 := by
          rw [Bool.or_eq_true, decide_eq_true_iff] at hx
          rcases hx with hx | hx
          · omega
          · exact absurd (by rw [Bool.or_eq_true]; exact .inl hx) hc
        rw [e, upd_same]
        rfl
    · have hk : 0 < k := by
        rw [Bool.or_eq_true, decide_eq_true_iff] at hx
        omega
      have hfl : List.foldl (fun x1 x2 => x1 ++ x2) #[] (List.replicate k.toNat its.toArray) = (List.replicate k.toNat its).flatten.toArray := by
        have := foldl_rep its k.toNat []
        rw [List.nil_append] at this
        exact this
      have hlen : (List.replicate k.toNat its).flatten.length ≤ sizeLine := by rw [len_rep, Nat.mul_comm, ← hl]; exact hz
      have hsz : ((its.toArray.size : Int) * k) = ((xs.length * k.toNat : Nat) : Int) := by
        rw [List.size_toArray, ← hl, Int.natCast_mul, Int.toNat_of_nonneg (by omega)]
      have hline : (sizeLine : Nat) ≤ (2 ^ 63 - 1) / 8 := by decide
      refine go (S := fun _ R s' => R (.ok (.ret (.ref s'.heap.objs.size))) { s' with heap := s'.heap.push { cls := .type "tuple", data := .seq (List.foldl (fun x1 x2 => x1 ++ x2) #[] (List.replicate k.toNat its.toArray)) } })
        (HT.tuple_mul_many l its.toArray n dd sl k t h0 hc hx (by rw [hsz]; omega) (by unfold Builtin.Tuple.tupleTooMany; rw [decide_eq_true_iff, hsz]; omega) (by rw [hfl, List.size_toArray]; exact hlen)) ?_
      rw [hfl]
      refine ⟨.ref s.heap.objs.size, _, I.laid (t' := s.toks) (o := .tup (List.replicate k.toNat xs).flatten) (fun b ob q => Heap.get?_push_of_some _ q) (Nat.le_refl _) ?_, rfl, q _ _ (Same.upd (I.hok.fresh (Nat.le_refl _))) upd_same⟩
      exact ⟨by rw [len_rep, Nat.mul_comm]; exact hz, _, r.rep k.toNat, IsTup.new _ _⟩
end
end L2
set_option Elab.async false
set_option linter.all false
set_option maxRecDepth 100000
set_option maxHeartbeats 4000000
namespace L2
open PySem PySem.Spec PyProof.Rows
def tx (l : List Nat) : Str := ⟨l.toArray⟩
section
variable {X : Cx} {pos : Pos}
end
end L2
set_option Elab.async false
set_option linter.all false
set_option maxRecDepth 100000
set_option maxHeartbeats 4000000
namespace L2
open PySem PySem.Spec PyProof.Rows
structure Def (K : PySem.W.Frag) (mg : Str → Option Value) (x : Str) (st : Stmt) (ps : List Str) (f : Addr) (fd : FuncData) : Prop where
  F : Fun K x x st f fd
  m : mg x = some (.ref f)
  b : Binds K fd ps []
section
variable {X : Cx}
end
theorem cut_ints (ns : List Int) (lo hi : Option Int) : cutV (intV ns) lo hi = intV ((ns.drop (HT.sIx ns.length 0 lo)).take (HT.sIx ns.length ns.length hi - HT.sIx ns.length 0 lo)) := by
  unfold cutV intV
  rw [List.length_map, List.map_take, List.map_drop]
theorem emod_nat (r : Int) {n : Nat} (h : 0 < n) : ∃ j : Nat, r % (n : Int) = (j : Int) ∧ j < n := by
  have h1 := Int.emod_nonneg r (show (n : Int) ≠ 0 by omega)
  have h2 := Int.emod_lt_of_pos r (show (0 : Int) < (n : Int) by omega)
  exact ⟨(r % (n : Int)).toNat, by omega, by omega⟩
end L2
set_option Elab.async false
set_option linter.all false
set_option maxRecDepth 100000
namespace L2
open PySem PySem.Spec PyProof.Rows
section
variable {κ : Type} [DecidableEq κ]
def valV (kvs : List (κ × V)) (k : κ) : Option V := (kvs.find? fun kv => decide (kv.1 = k)).map (·.2)
def putK (kvs : List (κ × V)) (k : κ) (v : V) : List (κ × V) :=
  if (kvs.any fun kv => decide (kv.1 = k)) = true then kvs.map (fun kv => if kv.1 = k then (kv.1, v) else kv) else kvs ++ [(k, v)]
def dropK (kvs : List (κ × V)) (k : κ) : List (κ × V) := kvs.filter fun kv => decide (kv.1 ≠ k)
theorem valV_pos {p : κ × V} {r : List (κ × V)} {k : κ} (e : p.1 = k) : valV (p :: r) k = some p.2 := by simp [valV, List.find?_cons, e]
theorem valV_neg {p : κ × V} {r : List (κ × V)} {k : κ} (e : ¬ p.1 = k) : valV (p :: r) k = valV r k := by simp [valV, List.find?_cons, e]
theorem valV_any (k : κ) : ∀ kvs : List (κ × V), (kvs.any fun kv => decide (kv.1 = k)) = (valV kvs k).isSome
  | [] => rfl
  | p :: r => by
    rw [List.any_cons]
    by_cases e : p.1 = k
    · simp only [valV_pos e, decide_eq_true e, Bool.true_or, Option.isSome_some]
    · rw [valV_neg e, decide_eq_false e, Bool.false_or]; exact valV_any k r
theorem valV_map (k j : κ) (y : V) : ∀ kvs : List (κ × V), valV (kvs.map fun kv => if kv.1 = k then (kv.1, y) else kv) j = (valV kvs j).map fun x => if j = k then y else x
  | [] => rfl
  | p :: r => by
    have ih := valV_map k j y r
    rw [List.map_cons]
    by_cases h : p.1 = k
    · rw [if_pos h]
      by_cases e : p.1 = j
      · rw [valV_pos (p := (p.1, y)) e, valV_pos e, Option.map_some, if_pos (e.symm.trans h)]
      · rw [valV_neg (p := (p.1, y)) e, valV_neg e, ih]
    · rw [if_neg h]
      by_cases e : p.1 = j
      · rw [valV_pos (p := p) e, valV_pos e, Option.map_some, if_neg (fun z => h (e.trans z))]
      · rw [valV_neg (p := p) e, valV_neg e, ih]
theorem valV_snoc (k j : κ) (y : V) : ∀ kvs : List (κ × V), valV kvs k = none → valV (kvs ++ [(k, y)]) j = if j = k then some y else valV kvs j
  | [], _ => by
    by_cases e : k = j
    · rw [if_pos e.symm]; exact valV_pos (p := (k, y)) e
    · rw [if_neg (fun z => e z.symm)]; exact valV_neg (p := (k, y)) e
  | p :: r, hn => by
    rw [List.cons_append]
    have hk : ¬ p.1 = k := fun z => by rw [valV_pos z] at hn; cases hn
    rw [valV_neg hk] at hn
    have ih := valV_snoc k j y r hn
    by_cases e : p.1 = j
    · rw [valV_pos e, valV_pos e, if_neg (fun z => hk (e.trans z))]
    · rw [valV_neg e, valV_neg e, ih]
theorem valV_put (kvs : List (κ × V)) (k j : κ) (y : V) : valV (putK kvs k y) j = if j = k then some y else valV kvs j := by
  unfold putK
  by_cases a : (kvs.any fun kv => decide (kv.1 = k)) = true
  · rw [if_pos a, valV_map]
    rw [valV_any] at a
    by_cases e : j = k
    · obtain ⟨x, hx⟩ := Option.isSome_iff_exists.mp a
      rw [if_pos e, e, hx, Option.map_some, if_pos rfl]
    · rw [if_neg e]
      cases valV kvs j with
      | none => rfl
      | some x => rw [Option.map_some, if_neg e]
  · rw [if_neg a]
    refine valV_snoc k j y kvs ?_
    rw [valV_any] at a
    cases q : valV kvs k with
    | none => rfl
    | some x => rw [q] at a; exact (a rfl).elim
theorem length_putK (kvs : List (κ × V)) (k : κ) (v : V) : (putK kvs k v).length ≤ kvs.length + 1 := by
  unfold putK
  split
  · rw [List.length_map]; omega
  · rw [List.length_append, List.length_cons, List.length_nil]; omega
theorem putK_new {kvs : List (κ × V)} {k : κ} (v : V) (h : valV kvs k = none) : putK kvs k v = kvs ++ [(k, v)] := by
  unfold putK
  rw [valV_any, h]
  exact if_neg (by decide)
theorem RelO.isSome_eq {o : Option V} {u : Option Value} (r : RelO o u) : o.isSome = u.isSome := by
  cases o with
  | none => cases u with
    | none => rfl
    | some _ => exact (show False from r).elim
  | some _ => cases u with
    | none => exact (show False from r).elim
    | some _ => rfl
theorem RelO.getD {o : Option V} {u : Option Value} {d : V} {d' : Value} (r : RelO o u) (rd : RelV d d') : RelV (o.getD d) (u.getD d') := by
  cases o with
  | none => cases u with
    | none => exact rd
    | some _ => exact (show False from r).elim
  | some _ => cases u with
    | none => exact (show False from r).elim
    | some _ => exact r
theorem KV.val {kvs : List (κ × V)} {vs : List (κ × Value)} (r : KV kvs vs) (k : κ) : RelO (valV kvs k) (valueAt vs k) := by
  unfold KV at r
  induction r with
  | nil => exact True.intro
  | @cons p q ps qs h t ih =>
    obtain ⟨h1, h2⟩ := h
    by_cases e : p.1 = k
    · have e' : q.1 = k := h1.symm.trans e
      have b : valueAt (q :: qs) k = some q.2 := by simp [valueAt, List.find?_cons, e']
      rw [valV_pos e, b]; exact h2
    · have e' : ¬ q.1 = k := fun z => e (h1.trans z)
      have b : valueAt (q :: qs) k = valueAt qs k := by simp [valueAt, List.find?_cons, e']
      rw [valV_neg e, b]; exact ih
theorem KV.any {kvs : List (κ × V)} {vs : List (κ × Value)} (r : KV kvs vs) (k : κ) : (kvs.any fun kv => decide (kv.1 = k)) = vs.any fun kv => decide (kv.1 = k) := by
  unfold KV at r
  induction r with
  | nil => rfl
  | cons h t ih => rw [List.any_cons, List.any_cons, ih, h.1]
theorem KV.repl {kvs : List (κ × V)} {vs : List (κ × Value)} (r : KV kvs vs) (k : κ) {y : V} {u : Value} (ry : RelV y u) :
    KV (kvs.map fun kv => if kv.1 = k then (kv.1, y) else kv) (vs.map fun kv => if kv.1 = k then (kv.1, u) else kv) := by
  unfold KV at r ⊢
  induction r with
  | nil => exact .nil
  | @cons p q ps qs h t ih =>
    rw [List.map_cons, List.map_cons]
    refine .cons ?_ ih
    obtain ⟨h1, h2⟩ := h
    by_cases e : p.1 = k
    · rw [if_pos e, if_pos (h1.symm.trans e)]; exact ⟨h1, ry⟩
    · rw [if_neg e, if_neg (fun z => e (h1.trans z))]; exact ⟨h1, h2⟩
theorem KV.put {kvs : List (κ × V)} {vs : List (κ × Value)} (r : KV kvs vs) (k : κ) {y : V} {u : Value} (ry : RelV y u) : KV (putK kvs k y) (stored vs k u) := by
  unfold putK stored
  rw [r.any k]
  by_cases e : (vs.any fun kv => decide (kv.1 = k)) = true
  · rw [if_pos e, if_pos e]; exact r.repl k ry
  · rw [if_neg e, if_neg e]; exact Paired.snoc r ⟨rfl, ry⟩
theorem KV.drop {kvs : List (κ × V)} {vs : List (κ × Value)} (r : KV kvs vs) (k : κ) : KV (dropK kvs k) (without vs k) := by
  unfold KV at r ⊢
  unfold dropK without
  induction r with
  | nil => exact .nil
  | @cons p q ps qs h t ih =>
    obtain ⟨h1, h2⟩ := h
    rw [List.filter_cons, List.filter_cons]
    by_cases e : p.1 = k
    · have a : ¬ decide (p.1 ≠ k) = true := by simp [e]
      have b : ¬ decide (q.1 ≠ k) = true := by simp [h1.symm.trans e]
      rw [if_neg a, if_neg b]; exact ih
    · have e' : ¬ q.1 = k := fun z => e (h1.trans z)
      have a : decide (p.1 ≠ k) = true := by simp [e]
      have b : decide (q.1 ≠ k) = true := by simp [e']
      rw [if_pos a, if_pos b]; exact .cons ⟨h1, h2⟩ ih
theorem KV.keys {kvs : List (κ × V)} {vs : List (κ × Value)} (r : KV kvs vs) : kvs.map (·.1) = vs.map (·.1) := by
  unfold KV at r
  induction r with
  | nil => rfl
  | cons h t ih => rw [List.map_cons, List.map_cons, ih, h.1]
theorem KV.length {kvs : List (κ × V)} {vs : List (κ × Value)} (r : KV kvs vs) : kvs.length = vs.length := Paired.length r
end
theorem kV_is {P : Program} {w : World} {k : Key} {u : Value} (r : RelV (kV k) u) : (mixKind P w).is k u = true := by
  cases k with
  | inl i => obtain ⟨t, e⟩ := (show ∃ t, u = Value.int i t from r); subst e; exact mixKind_int P w i t
  | inr x => obtain ⟨t, e⟩ := (show ∃ t, u = Value.str x t from r); subst e; exact mixKind_str P w x t
theorem items_are {P : Program} {w : World} : ∀ {ks : List Key} {us : List Value}, Vals (ks.map kV) us → ItemsAre (mixKind P w) ks us
  | [], _, r => by rw [List.map_nil] at r; cases r; exact .nil
  | k :: ks, _, r => by
    rw [List.map_cons] at r
    cases r with
    | cons h t => exact .cons (kV_is h) (items_are t)
abbrev KT (H : Hp) : List (List Key × V) → List (List Key × Addr × Value) → Prop := Paired fun p q => p.1 = q.1 ∧ H q.2.1 = some (.tup (p.1.map kV)) ∧ RelV p.2 q.2.2
theorem KT.val {H : Hp} {kvs : List (List Key × V)} {xs : List (List Key × Addr × Value)} (r : KT H kvs xs) (k : List Key) : RelO (valV kvs k) ((atKey xs k).map (·.2)) := by
  induction r with
  | nil => exact True.intro
  | @cons p q ps qs h t ih =>
    obtain ⟨h1, _, h2⟩ := h
    by_cases e : p.1 = k
    · have e' : q.1 = k := h1.symm.trans e
      have b : atKey (q :: qs) k = some q.2 := by simp [atKey, List.find?_cons, e']
      rw [valV_pos e, b]; exact h2
    · have e' : ¬ q.1 = k := fun z => e (h1.trans z)
      have b : atKey (q :: qs) k = atKey qs k := by simp [atKey, List.find?_cons, e']
      rw [valV_neg e, b]; exact ih
theorem KT.repl {H : Hp} {kvs : List (List Key × V)} {xs : List (List Key × Addr × Value)} (r : KT H kvs xs) (k : List Key) {y : V} {u : Value} (ry : RelV y u) :
    KT H (kvs.map fun kv => if kv.1 = k then (kv.1, y) else kv) (xs.map (putAt k u)) := by
  induction r with
  | nil => exact .nil
  | @cons p q ps qs h t ih =>
    rw [List.map_cons, List.map_cons]
    refine .cons ?_ ih
    obtain ⟨h1, h2, h3⟩ := h
    unfold putAt
    by_cases e : p.1 = k
    · rw [if_pos e, if_pos (h1.symm.trans e)]; exact ⟨h1, h2, ry⟩
    · rw [if_neg e, if_neg (fun z => e (h1.trans z))]; exact ⟨h1, h2, h3⟩
theorem KT.put {H : Hp} {kvs : List (List Key × V)} {xs : List (List Key × Addr × Value)} (r : KT H kvs xs) (k : List Key) {b : Addr} {y : V} {u : Value} (hb : H b = some (.tup (k.map kV))) (ry : RelV y u) :
    KT H (putK kvs k y) (storedH xs k b u) := by
  have e : (kvs.any fun kv => decide (kv.1 = k)) = (atKey xs k).isSome := by
    rw [valV_any, (r.val k).isSome_eq, Option.isSome_map]
  unfold putK storedH
  rw [e]
  by_cases q : (atKey xs k).isSome = true
  · rw [if_pos q, if_pos q]; exact r.repl k ry
  · rw [if_neg q, if_neg q]; exact Paired.snoc r ⟨rfl, hb, ry⟩
theorem KT.keeps {H H' : Hp} {kvs : List (List Key × V)} {xs : List (List Key × Addr × Value)} (r : KT H kvs xs) (ht : ∀ b ys, H b = some (.tup ys) → H' b = some (.tup ys)) : KT H' kvs xs :=
  Paired.mapP r fun _ _ z => ⟨z.1, ht _ _ z.2.1, z.2.2⟩
section
variable {P : Program} {w : World} {H : Hp} {h : Heap} {a : Addr}
theorem rd_of {u : HO} (ok : HOk P w H h) (e : Rd H a u) : ObjOk P w H h a u := e.ok ok
theorem dk_rd {kvs : List (Key × V)} (ok : HOk P w H h) (e : Rd H a (.dK kvs)) : kvs.length ≤ sizeLine ∧ (a == sysModules) = false ∧ ∃ vs, KV kvs vs ∧ h.DictOf (mixKind P w) a vs :=
  show ObjOk P w H h a (.dK kvs) from rd_of ok e
theorem dk_of {kvs : List (Key × V)} (ok : HOk P w H h) (e : H a = some (.dK kvs)) : kvs.length ≤ sizeLine ∧ (a == sysModules) = false ∧ ∃ vs, KV kvs vs ∧ h.DictOf (mixKind P w) a vs := dk_rd ok (.inl e)
theorem key_of {ks : List Key} (ok : HOk P w H h) (e : H a = some (.tup (ks.map kV))) : (tupleKind (mixKind P w)).is h ks a := by
  obtain ⟨_, its, r, o, h1, h2, n, h3⟩ := (show ObjOk P w H h a (.tup (ks.map kV)) from ok a _ e)
  exact ⟨o, its.toArray, n, h1, h2, h3, by simpa using items_are r⟩
theorem dt_rd {kvs : List (List Key × V)} (ok : HOk P w H h) (e : Rd H a (.dT kvs)) : kvs.length ≤ sizeLine ∧ (a == sysModules) = false ∧
    ∃ xs, KT H kvs xs ∧ h.DictOfH (tupleKind (mixKind P w)) a xs := by
  obtain ⟨z, y, xs, r, o, es, ep, h1, h2, h3, h4, h5⟩ := (show ObjOk P w H h a (.dT kvs) from rd_of ok e)
  refine ⟨z, y, xs, r, o, es, ep, h1, h2, h3, h4, fun x hx => ?_, h5⟩
  have all : ∀ {l : List (List Key × V)} {m : List (List Key × Addr × Value)}, KT H l m → ∀ x ∈ m, (tupleKind (mixKind P w)).is h x.1 x.2.1 := by
    intro l m q
    induction q with
    | nil => intro x hx; exact nomatch hx
    | @cons p q ps qs hq t ih =>
      intro x hx
      rcases List.mem_cons.mp hx with e | hx
      · subst e
        exact key_of ok (by rw [← hq.1]; exact hq.2.1)
      · exact ih x hx
  exact all r x hx
theorem dt_of {kvs : List (List Key × V)} (ok : HOk P w H h) (e : H a = some (.dT kvs)) : kvs.length ≤ sizeLine ∧ (a == sysModules) = false ∧
    ∃ xs, KT H kvs xs ∧ h.DictOfH (tupleKind (mixKind P w)) a xs := dt_rd ok (.inl e)
end
def DGet (H : Hp) (a : Addr) (y : V) (r : Option V) : Prop :=
  (∃ kvs k, Rd H a (.dK kvs) ∧ y = kV k ∧ r = valV kvs k) ∨ ∃ kvs k b, Rd H a (.dT kvs) ∧ y = .ref b ∧ H b = some (.tup (k.map kV)) ∧ r = valV kvs k
def DPut (H : Hp) (a : Addr) (y v : V) (H' : Hp) : Prop :=
  (∃ kvs k, H a = some (.dK kvs) ∧ y = kV k ∧ kvs.length < sizeLine ∧ H' = upd H a (.dK (putK kvs k v))) ∨
  ∃ kvs k b, H a = some (.dT kvs) ∧ y = .ref b ∧ H b = some (.tup (k.map kV)) ∧ kvs.length < sizeLine ∧ H' = upd H a (.dT (putK kvs k v))
theorem DGet.k {H : Hp} {a : Addr} {kvs : List (Key × V)} {k : Key} (e : H a = some (.dK kvs)) : DGet H a (kV k) (valV kvs k) := .inl ⟨kvs, k, .inl e, rfl, rfl⟩
theorem DGet.t {H : Hp} {a b : Addr} {kvs : List (List Key × V)} {k : List Key} (e : H a = some (.dT kvs)) (eb : H b = some (.tup (k.map kV))) : DGet H a (.ref b) (valV kvs k) := .inr ⟨kvs, k, b, .inl e, rfl, eb, rfl⟩
theorem DPut.k {H : Hp} {a : Addr} {kvs : List (Key × V)} {k : Key} {v : V} (e : H a = some (.dK kvs)) (hl : kvs.length < sizeLine) : DPut H a (kV k) v (upd H a (.dK (putK kvs k v))) := .inl ⟨kvs, k, e, rfl, hl, rfl⟩
theorem DPut.t {H : Hp} {a b : Addr} {kvs : List (List Key × V)} {k : List Key} {v : V} (e : H a = some (.dT kvs)) (eb : H b = some (.tup (k.map kV))) (hl : kvs.length < sizeLine) :
    DPut H a (.ref b) v (upd H a (.dT (putK kvs k v))) := .inr ⟨kvs, k, b, e, rfl, eb, hl, rfl⟩
section
variable {X : Cx} {pins : List (Addr × Obj)} {σ : St} {H : Hp} {s : Shared} {a : Addr} {y v : V} {u r : Value} {o : Option V} {A : Around} {E : Value → Shared → Prop}
theorem Inv.big (I : Inv X pins σ H s) : sysModules < s.heap.objs.size := by
  have h : mainGlobals < s.heap.objs.size := (I.mod.glob.keeps I.bk).lt
  exact Nat.lt_trans (by decide) h
theorem d_getItem {Q : Value → Shared → Prop} (hu : A.units + 1 < cLine) (I : Inv X pins σ H s) (g : DGet H a y (some v)) (ry : RelV y u) (h : ∀ w' s', Inv X pins σ H s' → RelV v w' → Q w' s') :
    wpAny (model X.prog X.w) A (getItem (.ref a) u) Q E s := by
  rcases g with ⟨kvs, k, e, ey, l⟩ | ⟨kvs, k, b, e, ey, eb, l⟩
  · subst ey
    obtain ⟨z, hd, vs, rel, dd⟩ := dk_rd I.hok e
    obtain ⟨w', hw, rw'⟩ := RelO.some_of (v := v) (o := valueAt vs k) (by rw [l]; exact rel.val k)
    exact wpAny_getItem_of (kV_is ry) dd.mapOf hw (h w' _ (I.tok _) rw')
  · subst ey
    cases (show u = Value.ref b from ry)
    obtain ⟨z, hd, xs, rel, dd⟩ := dt_rd I.hok e
    obtain ⟨w', hw, rw'⟩ := RelO.some_of (v := v) (o := (atKey xs k).map (·.2)) (by rw [l]; exact rel.val k)
    obtain ⟨p, hp, hp2⟩ := Option.map_eq_some_iff.mp hw
    refine wpAny_getItem_heap (tupleKind_room_in1 hu) (key_of I.hok eb) dd hp ?_
    rw [hp2]
    exact h w' _ (I.tok _) rw'
theorem d_notIn {Q : Value → Shared → Prop} (hu : A.units + 1 < cLine) (I : Inv X pins σ H s) (g : DGet H a y o) (ry : RelV y u) (h : ∀ s', Inv X pins σ H s' → Q (.bool (!o.isSome)) s') :
    wpAny (model X.prog X.w) A (compareOp .NotIn u (.ref a)) Q E s := by
  rcases g with ⟨kvs, k, e, ey, l⟩ | ⟨kvs, k, b, e, ey, eb, l⟩
  · subst ey
    obtain ⟨z, hd, vs, rel, dd⟩ := dk_rd I.hok e
    refine wpAny_notIn_of (kV_is ry) hd dd.mapOf ?_
    rw [← (rel.val k).isSome_eq, ← l]
    exact h _ (I.tok _)
  · subst ey
    cases (show u = Value.ref b from ry)
    obtain ⟨z, hd, xs, rel, dd⟩ := dt_rd I.hok e
    refine wpAny_notIn_heap (tupleKind_room_in1 hu) (key_of I.hok eb) hd dd ?_
    have q := (rel.val k).isSome_eq
    rw [Option.isSome_map] at q
    rw [← q, ← l]
    exact h _ (I.tok _)
theorem d_write {h' : Heap} {t' : Nat} {ob : HO} (I : Inv X pins σ H s) (mu : Mut (H a)) (hs : Heap.SameBut a s.heap h') (he : ∃ q, h'.get? a = some q) (new : ObjOk X.prog X.w (upd H a ob) h' a ob) :
    Inv X pins σ (upd H a ob) { s with heap := h', toks := t' } :=
  I.write (x := a) (e := a) mu (.inl rfl) (fun b q hb z => (hs.2 b hb).trans z) he new
theorem dk_new {P : Program} {w : World} {H' : Hp} {h' : Heap} {kvs : List (Key × V)} {vs : List (Key × Value)} (z : kvs.length ≤ sizeLine) (hd : (a == sysModules) = false) (rel : KV kvs vs) (dd : h'.DictOf (mixKind P w) a vs) :
    ObjOk P w H' h' a (.dK kvs) := ⟨z, hd, vs, rel, dd⟩
theorem d_setItem {H' : Hp} {Q : Unit → Shared → Prop} (hu : A.units + 1 < cLine) (I : Inv X pins σ H s) (g : DPut H a y v H') (ry : RelV y u) (rv : RelV v r) (h : ∀ s', Inv X pins σ H' s' → Q () s') :
    wpAny (model X.prog X.w) A (setItem (.ref a) u r) Q E s := by
  rcases g with ⟨kvs, k, e, ey, l, eH⟩ | ⟨kvs, k, b, e, ey, eb, l, eH⟩
  · subst ey eH
    obtain ⟨z, hd, vs, rel, dd⟩ := dk_of I.hok e
    have hz : vs.length ≤ sizeLine := by rw [← rel.length]; exact z
    have hl : (putK kvs k v).length ≤ sizeLine := by have := length_putK kvs k v; omega
    refine wpAny_setItem_pairs (hsz := hz) (kV_is ry) dd fun h' dd' hs => h _ ?_
    have he : ∃ q, h'.get? a = some q := let ⟨q, _, _, hq, _⟩ := dd'; ⟨q, hq⟩
    exact d_write I (by rw [e]; exact True.intro) hs he (dk_new hl hd (rel.put k rv) dd')
  · subst ey eH
    cases (show u = Value.ref b from ry)
    obtain ⟨z, hd, xs, rel, dd⟩ := dt_of I.hok e
    have hz : xs.length ≤ sizeLine := by rw [← Paired.length rel]; exact z
    have hl : (putK kvs k v).length ≤ sizeLine := by have := length_putK kvs k v; omega
    refine wpAny_setItem_heap (hsz := hz) (tupleKind_room_in1 hu) (key_of I.hok eb) dd fun h' dd' hs => h _ ?_
    obtain ⟨q, es, ep, hq, h2, h3, h4, _, h5⟩ := dd'
    refine d_write I (by rw [e]; exact True.intro) hs ⟨q, hq⟩ ⟨hl, hd, _, (rel.put k eb rv).keeps fun c ys ec => ?_, q, es, ep, hq, h2, h3, h4, h5⟩
    rw [upd_ne (ne_of ec e (fun z => nomatch z))]
    exact ec
end
section
variable {X : Cx} {pins : List (Addr × Obj)} {σ : St} {H : Hp} {s : Shared} {a : Addr} {kvs : List (Key × V)} {k : Key} {u : Value} {A : Around} {E : Value → Shared → Prop}
end
def NoSl (i : Expr) : Prop := ∀ ov iv, subscripted i false ov iv = operate [ov, iv] (getItem ov iv)
theorem subD_of {prog : Program} {w : World} {A : Around} {E : Value → Shared → Prop} {s : Shared} {env : Env} {value slice : Expr} {pos : Pos} {T id : String} {Q : Value → Shared → Prop}
    (hl : typeLookup (.type T) "__getitem__" = pure (some (.builtin id))) (hs : NoSl slice)
    (h : wpAny (model prog w) A (eval value env) (fun o s₁ => wpAny (model prog w) A (eval slice env) (fun i s₂ => s₂.TypeIs o T ∧ wpAny (model prog w) A (getItem o i) Q E s₂) E s₁) E s) :
    wpAny (model prog w) A (eval (.Subscript value slice pos) env) Q E s := by
  refine Subscript_ (wpAny_mono h (fun o s₁ h₁ => wpAny_mono h₁ (fun i s₂ h₂ => ?_) fun _ _ x => x) fun _ _ x => x)
  obtain ⟨hT, h₂⟩ := h₂
  unfold subscriptTail
  refine wpAny_bind ?_
  rw [getitemInPython_of_ne hT.not_modules]
  refine wpAny_bind (wpAny_specialOf hT hl ?_)
  have fin : wpAny (model prog w) A (subscripted slice false o i) (fun r s₃ => wpAny (model prog w) A (letTemporaryGo value o r >>= fun _ => pure r) Q E s₃) E s₂ := by
    rw [hs o i]
    exact wpAny_operating (wpAny_mono h₂ (fun r s₃ h₃ => wpAny_bind (wpAny_letTemporaryGo (wpAny_pure h₃))) fun _ _ x => x)
  first
    | exact wpAny_pure (wpAny_bind fin)
    | exact wpAny_bind (wpAny_pure (wpAny_bind fin))
    | exact wpAny_bind fin
theorem dict_typeIs {X : Cx} {pins : List (Addr × Obj)} {σ : St} {H : Hp} {s : Shared} {a : Addr} {y : V} {o : Option V} (I : Inv X pins σ H s) (g : DGet H a y o) : s.TypeIs (.ref a) "dict" := by
  rcases g with ⟨kvs, k, e, _, _⟩ | ⟨kvs, k, b, e, _, _, _⟩
  · obtain ⟨_, _, vs, _, dd⟩ := dk_rd I.hok e
    exact dd.typeIs
  · obtain ⟨_, _, xs, _, dd⟩ := dt_rd I.hok e
    exact dd.typeIs
def tDGet (td ty : TE) : TE := fun σ H Q => td σ H fun x H1 => ty σ H1 fun y H2 => ∃ a v, x = .ref a ∧ DGet H2 a y (some v) ∧ Q v H2
def tDNotIn (ty td : TE) : TE := fun σ H Q => ty σ H fun y H1 => td σ H1 fun x H2 => ∃ a o, x = .ref a ∧ DGet H2 a y o ∧ Q (.bl (!o.isSome)) H2
def sDPut (td ty tv : TE) : TS := fun D σ H => tv σ H fun v H1 => td σ H1 fun x H2 => ty σ H2 fun y H3 => ∃ a H4, x = .ref a ∧ DPut H3 a y v H4 ∧ D.nx σ H4
section
variable {X : Cx} {o i e value : Expr} {pos pos' tpos : Pos} {td ty tv : TE}
theorem pe_dget (hu : X.A.units + 1 < cLine) (ho : PE X o td) (hi : PE X i ty) (hs : NoSl i) : PE X (.Subscript o i pos) (tDGet td ty) := by
  intro pins s σ H Q I h
  refine subD_of PySem.F.slot_dict_getitem.lookup hs (thn (ho pins s σ H _ I h) fun u s1 ⟨x, H1, I1, rx, q1⟩ => thn (hi pins s1 σ H1 _ I1 q1) fun iv s2 ⟨y, H2, I2, ry, a, v, ex, g, q2⟩ => ?_)
  subst ex
  obtain rfl : u = Value.ref a := rx
  exact ⟨dict_typeIs I2 g, d_getItem hu I2 g ry fun w' s3 I3 rw' => ⟨v, H2, I3, rw', q2⟩⟩
theorem pc_dnotin (hu : X.A.units + 1 < cLine) (hi : PE X i ty) (ho : PE X o td) : PC X .NotIn i o (tDNotIn ty td) := by
  intro pins s σ H Q I h
  refine thn (hi pins s σ H _ I h) fun iv s1 ⟨y, H1, I1, ry, q1⟩ => thn (ho pins s1 σ H1 _ I1 q1) fun u s2 ⟨x, H2, I2, rx, a, ov, ex, g, q2⟩ => ?_
  subst ex
  obtain rfl : u = Value.ref a := rx
  exact d_notIn hu I2 g ry fun s3 I3 => ⟨.bl (!ov.isSome), H2, I3, rfl, q2⟩
theorem ps_dput (hu : X.A.units + 1 < cLine) (ho : PE X o td) (hi : PE X i ty) (hv : PE X value tv) (hs : swapsWith value (some (.Subscript o i pos')) pos.line X.env = pure false) :
    PS X (.Assign [.Subscript o i pos'] value pos) (sDPut td ty tv) := by
  intro pins s σ H D I h
  refine wpAny_Assign_Subscript (thn (hv pins s σ H _ I h) fun r s1 ⟨v, H1, I1, rv, q1⟩ => thn (ho pins s1 σ H1 _ I1 q1) fun u s2 ⟨x, H2, I2, rx, q2⟩ => thn (hi pins s2 σ H2 _ I2 q2) fun iv s3 ⟨y, H3, I3, ry, a, H4, ex, g, q3⟩ => ?_) hs
  subst ex
  obtain rfl : u = Value.ref a := rx
  exact d_setItem hu I3 g ry rv fun s4 I4 => ⟨σ, H4, I4, q3⟩
end
theorem dk_empty {P : Program} {w : World} {H : Hp} (h : Heap) (hb : sysModules < h.objs.size) : ObjOk P w H (h.push { cls := .type "dict", data := .dict #[] }) h.objs.size (.dK []) :=
  ⟨Nat.zero_le _, beq_eq_false_iff_ne.mpr (Ne.symm (Nat.ne_of_lt hb)), [], .nil, Heap.DictOf.new h⟩
theorem dt_empty {P : Program} {w : World} {H : Hp} (h : Heap) (hb : sysModules < h.objs.size) : ObjOk P w H (h.push { cls := .type "dict", data := .dict #[] }) h.objs.size (.dT []) :=
  ⟨Nat.zero_le _, beq_eq_false_iff_ne.mpr (Ne.symm (Nat.ne_of_lt hb)), [], .nil, _, #[], 0, Heap.get?_push_size _ rfl, ⟨rfl, rfl, rfl⟩, rfl, rfl, List.nodup_nil⟩
def tDNewT : TE := fun _ H Q => ∀ p, H p = none → Q (.ref p) (upd H p (.dT []))
section
variable {X : Cx} {pos : Pos}
theorem pe_dnewT : PE X (.Dict [] [] pos) tDNewT := fun pins s σ H Q I h =>
  wpAny_Dict_empty ⟨.ref s.heap.objs.size, _, I.laid (a := s.heap.objs.size) (o := .dT []) (t' := s.toks) (fun _ _ q => Heap.get?_push_of_some _ q) (Nat.le_refl _) (dt_empty s.heap I.big), rfl, h _ (I.hok.fresh (Nat.le_refl _))⟩
end
def tPairs : List (TE × TE) → St → Hp → (List (V × V) → Hp → Prop) → Prop
  | [], _, H, Q => Q [] H
  | (tk, tv) :: r, σ, H, Q => tk σ H fun x H1 => tv σ H1 fun y H2 => tPairs r σ H2 fun ps H3 => Q ((x, y) :: ps) H3
abbrev VV : List (V × V) → List (Value × Value) → Prop := Paired fun p q => RelV p.1 q.1 ∧ RelV p.2 q.2
def PPs (X : Cx) (pos : Pos) (keys : List (Option Expr)) (values : List Expr) (trs : List (TE × TE)) : Prop :=
  ∀ (pins : List (Addr × Obj)) (s : Shared) (σ : St) (H : Hp) (Q : List (V × V) → Hp → Prop), Inv X pins σ H s → tPairs trs σ H Q →
    wpAny (model X.prog X.w) X.A (evalPairs (pairTrees keys values X.env pos)) (fun vs s' => ∃ ps H', Inv X pins σ H' s' ∧ VV ps vs ∧ Q ps H') X.xe s
theorem pps_nil {X : Cx} {pos : Pos} : PPs X pos [] [] [] := fun pins s σ H Q I h => pairTrees_nil_walk ⟨[], H, I, .nil, h⟩
theorem pps_cons {X : Cx} {pos : Pos} {k v : Expr} {ks : List (Option Expr)} {vs : List Expr} {tk tv : TE} {trs : List (TE × TE)} (hk : PE X k tk) (hv : PE X v tv) (hr : PPs X pos ks vs trs) :
    PPs X pos (some k :: ks) (v :: vs) ((tk, tv) :: trs) := fun pins s σ H Q I h =>
  pairTrees_cons_walk (thn (hk pins s σ H _ I h) fun u s1 ⟨x, H1, I1, rx, q1⟩ => thn (hv pins s1 σ H1 _ I1 q1) fun w2 s2 ⟨y, H2, I2, ry, q2⟩ =>
    thn (hr pins s2 σ H2 _ I2 q2) fun ws s3 ⟨ps, H3, I3, rel, q3⟩ => ⟨(x, y) :: ps, H3, I3, .cons ⟨rx, ry⟩ rel, q3⟩)
def mergeK (kvs more : List (Key × V)) : List (Key × V) := more.foldl (fun acc kv => putK acc kv.1 kv.2) kvs
theorem KV.merge : ∀ {more : List (Key × V)} {rs : List (Key × Value)} {kvs : List (Key × V)} {vs : List (Key × Value)}, KV more rs → KV kvs vs → KV (mergeK kvs more) (merged vs rs) := by
  intro more rs kvs vs r
  unfold KV at r
  induction r generalizing kvs vs with
  | nil => intro q; exact q
  | @cons p q ps qs h t ih =>
    intro r0
    have e : KV (putK kvs p.1 p.2) (stored vs q.1 q.2) := by
      have := r0.put p.1 h.2
      rw [← h.1]; exact this
    exact ih e
theorem length_mergeK : ∀ (more kvs : List (Key × V)), (mergeK kvs more).length ≤ kvs.length + more.length
  | [], kvs => by show kvs.length ≤ kvs.length + 0; omega
  | p :: r, kvs => by
    have h1 := length_mergeK r (putK kvs p.1 p.2)
    have h2 := length_putK kvs p.1 p.2
    show (mergeK (putK kvs p.1 p.2) r).length ≤ _
    rw [List.length_cons]; omega
theorem carries_of {P : Program} {w : World} : ∀ {kvs : List (Key × V)} {ws : List (Value × Value)}, VV (kvs.map fun kv => (kV kv.1, kv.2)) ws → ∃ rs, Carries (mixKind P w) ws rs ∧ KV kvs rs
  | [], _, r => by rw [List.map_nil] at r; cases r; exact ⟨[], True.intro, .nil⟩
  | p :: kvs, _, r => by
    rw [List.map_cons] at r
    cases r with
    | @cons a b as bs h t =>
      obtain ⟨rs, c, q⟩ := carries_of (P := P) (w := w) t
      obtain ⟨b1, b2⟩ := b
      exact ⟨(p.1, b2) :: rs, ⟨kV_is h.1, rfl, c⟩, .cons ⟨rfl, h.2⟩ q⟩
def tDisp (trs : List (TE × TE)) : TE := fun σ H Q => ∀ p, H p = none → tPairs trs σ (upd H p (.dK [])) fun ps H2 => H2 p = some (.dK []) ∧ ∃ kvs : List (Key × V), ps = kvs.map (fun kv => (kV kv.1, kv.2)) ∧ kvs.length ≤ 15 ∧ Q (.ref p) (upd H2 p (.dK (mergeK [] kvs)))
theorem pe_disp {X : Cx} {pos : Pos} {keys : List (Option Expr)} {values : List Expr} {trs : List (TE × TE)} (h : PPs X pos keys values trs) (hall : keys.all (·.isSome) = true) (hl : keys.length = values.length) (h0 : keys ≠ [])
    (h15 : keys.length ≤ 15) : PE X (.Dict keys values pos) (tDisp trs) := by
  intro pins s σ H Q I q
  have hn := I.hok.fresh (Nat.le_refl s.heap.objs.size)
  have I1 := I.laid (a := s.heap.objs.size) (o := .dK []) (h' := s.heap.push { cls := .type "dict", data := .dict #[] }) (t' := s.toks) (fun _ _ q => Heap.get?_push_of_some _ q) (Nat.le_refl _) (dk_empty s.heap I.big)
  refine wpAny_Dict_walk (knd := mixKind X.prog X.w) hall hl h0 h15 (thn (h pins _ σ _ _ I1 (q _ hn)) fun ws s2 ⟨ps, H2, I2, rel, e, kvs, ep, lk, q2⟩ => ?_)
  subst ep
  obtain ⟨rs, c, rk⟩ := carries_of (P := X.prog) (w := X.w) rel
  obtain ⟨z, hd, vs0, r0, dd⟩ := dk_of I2.hok e
  cases r0
  refine ⟨rs, c, dd, fun h' dd' hs => ⟨.ref s.heap.objs.size, _, ?_, rfl, q2⟩⟩
  have hz : (mergeK [] kvs).length ≤ sizeLine := by
    have h1 := length_mergeK kvs []
    rw [List.length_nil] at h1
    rw [sizeLine_eq]; omega
  have he : ∃ q, h'.get? s.heap.objs.size = some q := let ⟨q, _, _, hq, _⟩ := dd'; ⟨q, hq⟩
  exact d_write I2 (by rw [e]; exact True.intro) hs he (dk_new hz hd (rk.merge .nil) dd')
structure M1 (X : Cx) (o : Expr) (m : Str) (apos : Pos) (e : Expr) (cpos : Pos) : Prop where
  base : attributeBase o m X.env (eval o X.env) = eval o X.env
  few : ((backTo cpos (starEach [e] X.env)).all (fun x => !x.1) && (backToKw cpos (keywordEach [] X.env)).all (fun x => x.1.isSome)
    && decide (([e] : List Expr).length + ([] : List Keyword).length + (if ([] : List Keyword).isEmpty then 0 else 1) < 30)) = true
  line : (apos.endLine == cpos.line) = true
  trees : backTo cpos (starEach [e] X.env) = [(false, eval e X.env)]
structure M2 (X : Cx) (o : Expr) (m : Str) (apos : Pos) (e f : Expr) (cpos : Pos) : Prop where
  base : attributeBase o m X.env (eval o X.env) = eval o X.env
  few : ((backTo cpos (starEach [e, f] X.env)).all (fun x => !x.1) && (backToKw cpos (keywordEach [] X.env)).all (fun x => x.1.isSome)
    && decide (([e, f] : List Expr).length + ([] : List Keyword).length + (if ([] : List Keyword).isEmpty then 0 else 1) < 30)) = true
  line : (apos.endLine == cpos.line) = true
  trees : backTo cpos (starEach [e, f] X.env) = [(false, eval e X.env), (false, eval f X.env)]
section
variable {X : Cx} {pins : List (Addr × Obj)} {σ : St} {H : Hp} {s : Shared} {a : Addr} {y d : V} {u r : Value} {o : Option V} {A : Around} {E : Value → Shared → Prop}
end
section
variable {X : Cx} {o e f : Expr} {apos cpos : Pos} {td ty tx : TE}
end
section
variable {X : Cx} {pins : List (Addr × Obj)} {σ : St} {H : Hp} {s : Shared} {a : Addr} {kvs : List (Key × V)} {A : Around} {E : Value → Shared → Prop}
end
section
variable {X : Cx} {pins : List (Addr × Obj)} {σ : St} {H : Hp} {s : Shared} {a : Addr} {y : V} {u : Value} {A : Around} {E : Value → Shared → Prop}
end
end L2
set_option Elab.async false
set_option linter.all false
set_option maxRecDepth 100000
set_option maxHeartbeats 4000000
namespace L2
open PySem PySem.Spec PyProof.Rows
section
variable {X : Cx} {pins : List (Addr × Obj)} {σ : St} {H : Hp} {s : Shared} {h' : Heap}
theorem Inv.turnLaid {fp : List Addr} {a : Addr} {o : HO} {t' : Nat} (I : Inv X pins σ H s) (k : ∀ b u, b ∉ fp → s.heap.get? b = some u → h'.get? b = some u) (hf : ∀ b ∈ fp, FpOk X pins H b)
    (hp : s.heap.objs.size ≤ a) (new : ObjOk X.prog X.w (upd H a o) h' a o) : Inv X pins σ (upd H a o) { s with heap := h', toks := t' } := by
  have hn := I.hok.fresh hp
  have nf : ∀ b u, H b = some u → b ∉ fp := fun b u e z => by rw [(hf b z).1] at e; cases e
  refine I.step (g' := s.gens) (d' := s.drawn) (ch := fp) (fun b hb => ⟨(hf b hb).2.2.2.1, (hf b hb).2.1, (hf b hb).2.2.2.2.1, (hf b hb).2.2.2.2.2⟩) (fun b o _ _ hc e _ => k b o hc e) (fun b o _ _ hc e _ => ⟨o.slots, k b o hc e⟩)
    (fun b o _ e n => by rw [upd_ne (Nat.ne_of_lt (Nat.lt_of_lt_of_le (Heap.lt_size e) hp))]; exact n) (fun b o hc e => ⟨o, k b o hc e⟩) (fun b xs e => by rw [upd_ne (ne_of_none e hn)]; exact e)
    (fun b o u e => by rw [upd_ne (ne_of_none e hn)]; exact e) (fun b ps e => ⟨#[], by rw [upd_ne (ne_of_none e hn), e]; simp⟩) (fun m hm => ?_) (fun b u e => ?_) I.bare
  · obtain ⟨o, es, ep, ho, r⟩ := hm
    exact ⟨o, es, ep, k _ o (fun z => (hf _ z).2.1 rfl) ho, r⟩
  · by_cases hb : b = a
    · subst hb; rw [upd_same] at e; cases e; exact new
    · rw [upd_ne hb] at e
      refine (I.hok b u e).stay (fun c v hc q => k c v ?_ q) (fun c q => by rw [upd_ne (ne_of_none q hn)]; exact q) fun c xs q => by rw [upd_ne (ne_of_none q hn)]; exact q
      rcases hc with z | z
      · rw [z]; exact nf b u e
      · exact nf c _ z
theorem Inv.turnedL {fp : List Addr} {t' : Nat} (I : Inv X pins σ H s) (k : ∀ b u, b ∉ fp → s.heap.get? b = some u → h'.get? b = some u) (hf : ∀ b ∈ fp, FpOk X pins H b) : Inv X pins σ H { s with heap := h', toks := t' } := by
  have nf : ∀ b u, H b = some u → b ∉ fp := fun b u e z => by rw [(hf b z).1] at e; cases e
  refine I.step (g' := s.gens) (d' := s.drawn) (ch := fp) (fun b hb => ⟨(hf b hb).2.2.2.1, (hf b hb).2.1, (hf b hb).2.2.2.2.1, (hf b hb).2.2.2.2.2⟩) (fun b o _ _ hc e _ => k b o hc e) (fun b o _ _ hc e _ => ⟨o.slots, k b o hc e⟩)
    (fun b o _ e n => n) (fun b o hc e => ⟨o, k b o hc e⟩) (fun b xs e => e) (fun b o u e => e) (fun b ps e => ⟨#[], by rw [e]; simp⟩) (fun m hm => ?_) (fun b u e => ?_) I.bare
  · obtain ⟨o, es, ep, ho, r⟩ := hm
    exact ⟨o, es, ep, k _ o (fun z => (hf _ z).2.1 rfl) ho, r⟩
  · refine (I.hok b u e).stay (fun c v hc q => k c v ?_ q) (fun c q => q) fun c xs q => q
    rcases hc with z | z
    · rw [z]; exact nf b u e
    · exact nf c _ z
end
namespace En
section
variable {prog : Program} {w : World} {A : Around} {E : Value → Shared → Prop} {s : Shared}
theorem next_pair {e it : Addr} {fp : List Addr} {n i : Nat} {j : Int} {P : Nat → Value → Prop} {St : Nat → Heap → Prop} {old : Value} {Q : Option Value → Shared → Prop} (D : Draws prog w A.in1 it fp n P St)
    (he : IsEnum s.heap e it j old) (hst : St i s.heap) (hlt : i < n) (hne : e ≠ it) (hef : e ∉ fp)
    (hQ : ∀ x h' tk, P i x → IsEnumOut h' e it (j + 1) x s.heap.objs.size → St (i + 1) h' → h'.get? s.heap.objs.size = some { cls := .type "tuple", data := .seq #[.int j tk, x] } →
      (∀ b o, b ≠ e → b ≠ it → s.heap.get? b = some o → h'.get? b = some o) → Q (some (.ref s.heap.objs.size)) { s with heap := h', toks := tk + 1 }) :
    wpAny (model prog w) A (pyNext (.ref e)) Q E s := by
  have hT : s.TypeIs (.ref e) "enumerate" := ⟨_, he, rfl⟩
  unfold pyNext
  refine wpAny_bind (wpAny_attempt (wpAny_callSpecial?_slot (name := Str.ofString "__next__") hT F.slot_enumerate_next (wpAny_call_entry F.slot_enumerate_next hT F.entry_enumerate_next ?_ (F.args_enumerate_next_1 _))))
  obtain ⟨hp, g, d, tk₀, os⟩ := s
  show wpAny _ _ (field (.ref e) 2 >>= _) _ _ _
  refine wpAny_bind (wpAny_field he rfl (x := .ref it) rfl (wpAny_bind (D.item i _ _ _ hlt hst fun x h₁ tk hPx hit₁ hs₁ => ?_)))
  replace hs₁ : Heap.SameBut it hp h₁ := hs₁
  have he₁ : IsEnum h₁ e it j old := (hs₁.2 e hne).trans he
  show wpAny _ _ (field (.ref e) 3 >>= _) _ _ ⟨h₁, g, d, tk, os⟩
  refine wpAny_bind (wpAny_field he₁ rfl (x := rawInt j) rfl ?_)
  show wpAny _ _ (field (.ref e) 4 >>= _) _ _ ⟨h₁, g, d, tk, os⟩
  refine wpAny_bind (wpAny_field he₁ rfl (x := .none) rfl ?_)
  show wpAny _ _ (mkInt j >>= _) _ _ ⟨h₁, g, d, tk, os⟩
  refine wpAny_bind (wpAny_mkInt ?_)
  show wpAny _ _ (setField (.ref e) 3 (rawInt (j + 1)) >>= _) _ _ ⟨h₁, g, d, tk + 1, os⟩
  refine wpAny_bind (wpAny_setField_rec he₁ (by simp) fun h₂ he₂ hs₂ => ?_)
  replace hs₂ : Heap.SameBut e h₁ h₂ := hs₂
  replace he₂ : IsEnum h₂ e it (j + 1) old := he₂
  show wpAny _ _ (setField (.ref e) 4 .none >>= _) _ _ ⟨h₂, g, d, tk + 1, os⟩
  refine wpAny_bind (wpAny_setField_rec he₂ (by simp) fun h₃ he₃ hs₃ => ?_)
  replace hs₃ : Heap.SameBut e h₂ h₃ := hs₃
  replace he₃ : IsEnum h₃ e it (j + 1) old := he₃
  show wpAny _ _ (newTuple [.int j tk, x] >>= _) _ _ ⟨h₃, g, d, tk + 1, os⟩
  refine wpAny_bind (wpAny_newTuple ?_)
  have he₄ : IsEnum (h₃.push { cls := .type "tuple", data := .seq #[.int j tk, x] }) e it (j + 1) old := Heap.get?_push_of_some _ he₃
  generalize hh₄ : h₃.push { cls := .type "tuple", data := .seq #[.int j tk, x] } = h₄ at he₄
  have hsz : h₃.objs.size = hp.objs.size := by rw [hs₃.1, hs₂.1, hs₁.1]
  have hel : e < hp.objs.size := Heap.lt_size he
  have ht₄ : h₄.get? hp.objs.size = some { cls := .type "tuple", data := .seq #[.int j tk, x] } := by rw [← hh₄, ← hsz]; exact Heap.get?_push_size _ rfl
  have hk₄ : ∀ b o, b ≠ e → b ≠ it → hp.get? b = some o → h₄.get? b = some o := fun b o hbe hbi hb => by
    rw [← hh₄]
    exact Heap.get?_push_of_some _ (hs₃.extBut b o hbe (hs₂.extBut b o hbe (hs₁.extBut b o hbi hb)))
  have hit₄ : St (i + 1) h₄ := D.frame _ _ _ hit₁ fun b hb o y => by
    have hbe : b ≠ e := fun q => hef (q ▸ hb)
    rw [← hh₄]
    exact Heap.get?_push_of_some _ (hs₃.extBut b o hbe (hs₂.extBut b o hbe y))
  show wpAny _ _ (Builtin.SmallTypes.ownedTupleIsFree (.ref e) >>= _) _ _ ⟨h₄, g, d, tk + 1, os⟩
  rw [hsz]
  clear hh₄ he₃ hs₃ he₂ hs₂ he₁ hs₁ hit₁ hsz h₃ h₂ h₁
  refine wpAny_bind ?_
  unfold Builtin.SmallTypes.ownedTupleIsFree
  refine wpAny_bind (wpAny_field he₄ rfl (x := .none) rfl (wpAny_pure ?_))
  simp only [if_true]
  refine wpAny_bind (wpAny_rule (wpAny_bind (wpAny_field he₄ rfl (x := old) rfl (wpAny_bind (wpAny_setField_rec he₄ (by simp) fun h₅ he₅ hs₅ => ?_)))))
  replace hs₅ : Heap.SameBut e h₄ h₅ := hs₅
  replace he₅ : IsEnum h₅ e it (j + 1) x := he₅
  show wpAny _ _ (Builtin.SmallTypes.ownedTupleHandOut (.ref e) (.ref hp.objs.size) >>= _) _ _ ⟨h₅, g, d, tk + 1, os⟩
  refine wpAny_bind ?_
  unfold Builtin.SmallTypes.ownedTupleHandOut
  refine wpAny_bind (wpAny_setField_rec he₅ (by simp) fun h₆ he₆ hs₆ => ?_)
  replace hs₆ : Heap.SameBut e h₅ h₆ := hs₆
  replace he₆ : IsEnumOut h₆ e it (j + 1) x hp.objs.size := he₆
  refine wpAny_setField_rec he₆ (by simp) fun h₇ he₇ hs₇ => ?_
  replace hs₇ : Heap.SameBut e h₆ h₇ := hs₇
  replace he₇ : IsEnumOut h₇ e it (j + 1) x hp.objs.size := he₇
  refine wpAny_bind (wpAny_letGo (wpAny_pure ⟨_, rfl, wpAny_pure (hQ x h₇ tk hPx he₇ ?_ ?_ ?_)⟩))
  · exact D.frame _ _ _ hit₄ fun b hb o y => by
      have hbe : b ≠ e := fun q => hef (q ▸ hb)
      exact hs₇.extBut b o hbe (hs₆.extBut b o hbe (hs₅.extBut b o hbe y))
  · exact hs₇.extBut _ _ (Nat.ne_of_gt hel) (hs₆.extBut _ _ (Nat.ne_of_gt hel) (hs₅.extBut _ _ (Nat.ne_of_gt hel) ht₄))
  · exact fun b o hbe hbi hb => hs₇.extBut b o hbe (hs₆.extBut b o hbe (hs₅.extBut b o hbe (hk₄ b o hbe hbi hb)))
theorem init_kw {T newId : String} {self a : Value} {kw : List (Str × Value)} (hl : typeLookup (.type T) "__init__" = pure (some (.builtin "object.__init__"))) (hm : Bind.madeBy (.type T) = pure (some newId)) (hne : (some newId != some "object.__new__") = true) :
    Meets (Builtin.«object.__init__» ⟨[self, a], kw⟩) (fun _ R s => s.TypeIs self T ∧ R (.ok (.ret .none)) s) := by
  refine Meets.of_wp fun prog w A R s hs => ?_
  obtain ⟨hT, hq⟩ := hs
  repeat (any_goals (first | assumption | wp_step))
  exact ⟨_, rfl, hq⟩
theorem ct_kw (a b : Value) : checkTypeCall "enumerate" ⟨[a], [("start", b)]⟩ = pure () := by kernel_rfl
theorem cn_kw (a b : Value) : checkBuiltinCall "enumerate.__new__" ⟨[.type "enumerate", a], [("start", b)]⟩ = pure () := by kernel_rfl
theorem ok_kw (a b c : Value) : argsOk "object.__init__" ⟨[a, b], [("start", c)]⟩ := by
  unfold argsOk
  rw [signature?_of (id := "object.__init__") (n := ['_', '_', 't', 'i', 'n', 'i', '_', '_']) (o := ['t', 'c', 'e', 'j', 'b', 'o']) (by kernel_rfl) F.owner_object]
  kernel_rfl
end
end En
end L2
set_option Elab.async false
set_option linter.all false
set_option maxRecDepth 100000
set_option maxHeartbeats 4000000
namespace L2
open PySem PySem.Spec PyProof.Rows
section
variable {prog : Program} {w : World} {A : Around} {R : Result → Shared → Prop} {s : Shared}
end
section
variable {X : Cx} {elt iter cnd : Expr} {x : Str} {px pos : Pos} {scope : Scope} {cl : List (Str × Addr)} {fns : List Str} {ixs : List Nat} {wi : TI} {tt : TT} {te : TE}
end
end L2
set_option Elab.async false
set_option linter.all false
set_option maxRecDepth 100000
set_option maxHeartbeats 4000000
namespace L2
open PySem PySem.Spec PyProof.Rows
section
variable {X : Cx} {elt iter cnd : Expr} {x : Str} {px pos : Pos} {scope : Scope} {cl : List (Str × Addr)} {fns : List Str} {ixs : List Nat} {wi : TI} {tt : TT} {te : TE}
theorem ps_setComp {iy : Nat} {y : Str} {py spos : Pos} (hN : X.N.Nodup) (hiy : X.N[iy]? = some y) (hy : Loc X.env.scope y) (hc : X.calm = true) (hi : PI X (.Name x px) iter wi) (S : CompScope X x fns ixs scope cl)
    (he : ∀ (C : Addr) (s : Shared) (H : Hp) (ex : List Addr), PE (cxComp X (x :: fns) scope cl C s H ex) elt te)
    (hs : ∀ x, foldedSetIterable iter X.env x = pure x := by intro _; rfl) (hsw : swapsWith (.ListComp elt [⟨.Name x px, iter, [], 0⟩] scope pos) (some (.Name y py)) spos.line X.env = pure true := by rfl)
    (hfy : X.fn y = true ∨ X.env.scope.names.lookup y = some .local := by first | exact .inl rfl | exact .inr rfl | assumption) :
    PS X (.Assign [.Name y py] (.ListComp elt [⟨.Name x px, iter, [], 0⟩] scope pos) spos) (tAsg (tComp wi (fvOf ixs) te) (gName iy)) := by
  intro pins s σ H DD I h
  rw [exec_Assign_Name_used _ _ _ _ hsw]
  refine wpAny_bind (wpAny_standAt (wpAny_bind ?_))
  show wpAny _ X.A (do let _ ← comprehension (.ListComp elt [⟨.Name x px, iter, [], 0⟩] scope pos) scope X.env _ (newList []) false (eval iter X.env) (some (assign (.Name y py) X.env))) _ _ s
  refine wpAny_bind (wpAny_mono (wpAny_comprehension_free (use := some (assign (.Name y py) X.env)) (Q := fun _ s' => SP X pins DD .next s') rfl hs S.clos S.kind S.names (thn (hi pins s σ H _ I h) fun v s1 h1 => thn h1 fun itv s2 h2 => ?_)) (fun _ s' hq => wpAny_pure (wpAny_pure hq)) fun _ _ e => e)
  obtain ⟨it, fp, tn, J, H2, e, I2, T, st2, f2, W, ⟨m0, w0⟩, turn⟩ := h2
  subst e
  have hfpLt : ∀ b ∈ fp, b < s2.heap.objs.size := fun b hb => by
    obtain ⟨o, ho, _⟩ := T.obj _ _ st2 b hb
    exact Heap.lt_size ho
  refine wpAny_newObj_type (wpAny_newFunctionEnv S.cell (by intro y hy; simp at hy) (fun h₁ hns₁ hsb₁ => ?_) S.kind)
  dsimp only at hns₁ hsb₁ ⊢
  generalize hH3 : s2.heap.push { cls := .type "list", dict := none, data := .seq ([] : List Value).toArray } = hp3 at hns₁ hsb₁ ⊢
  generalize hD : s2.heap.objs.size = D at hfpLt ⊢
  have hC : hp3.objs.size = D + 1 := by rw [← hH3, Heap.size_push, hD]
  generalize hCe : hp3.objs.size = C at hC hns₁ hsb₁ ⊢
  have hDltC : D < C := by omega
  have hDC : D ≠ C := Nat.ne_of_lt hDltC
  have k23 : ∀ b u, s2.heap.get? b = some u → hp3.get? b = some u := fun b u q => by rw [← hH3]; exact Heap.get?_push_of_some _ q
  have ltD : ∀ {b u}, s2.heap.get? b = some u → b < D := fun q => by rw [← hD]; exact Heap.lt_size q
  have k34 : ∀ b u, hp3.get? b = some u → h₁.get? b = some u := fun b u q =>
    hsb₁.extBut b u (Nat.ne_of_lt (Nat.lt_of_lt_of_le (Heap.lt_size q) (Nat.le_of_eq hCe))) (Heap.get?_push_of_some _ q)
  have hDo : hp3.get? D = some { cls := .type "list", dict := none, data := .seq ([] : List Value).toArray } := by rw [← hH3, ← hD]; exact Heap.get?_push_size _ rfl
  have I3 : Inv X pins σ H2 { s2 with heap := hp3 } := I2.kept (t' := s2.toks) k23
  have hnD : H2 D = none := I2.hok.fresh (by omega)
  have hnC : H2 C = none := I2.hok.fresh (by omega)
  have nstk : ∀ b ∈ D :: fp, b ∉ frs X.stack := fun b hb z => by
    rcases List.mem_cons.mp (I2.stkSub b z) with e | z
    · rcases List.mem_cons.mp hb with e2 | hb
      · exact absurd I2.lt (by rw [← e, e2, ← hD]; exact Nat.lt_irrefl _)
      · exact (f2 b hb).2.1 e
    · rcases List.mem_cons.mp hb with e2 | hb
      · exact I2.nofs (by rw [e2, ← hD]; exact Nat.le_refl _) z
      · exact (f2 b hb).2.2.1 z
  have cne : ∀ y c, cl.lookup y = some c → ∀ b ∈ D :: fp, c ≠ b := fun y c q b hb z => by
    obtain ⟨v, hv⟩ := I2.cell y c (S.sub y c q)
    rcases List.mem_cons.mp hb with e2 | hb
    · exact absurd hv.lt (by rw [z, e2, ← hD]; exact Nat.lt_irrefl _)
    · exact (f2 b hb).2.2.2.2.1 y c (S.sub y c q) z
  -- the block's context
  let Xc : Cx := cxComp X (x :: fns) scope cl C { s2 with heap := hp3 } H2 (D :: fp)
  have ok : Xc.Ok := {
    mod := I2.ok.mod
    kind := S.kind
    glob := I2.ok.glob
    blt := I2.ok.blt
    above := by show hp3.objs.size ≤ C; omega
    inj := fun y z c q1 q2 => I2.ok.inj y z c (S.sub _ _ q1) (S.sub _ _ q2)
    has := S.has
    cab := fun y c q => nomatch q
    hd := I2.ok.hd
    frames := I2.ok.frames
    stk := .inl rfl
    exf := fun b hb => ⟨by
      rcases List.mem_cons.mp hb with e2 | hb
      · rw [e2]; exact hDC
      · exact Nat.ne_of_lt (Nat.lt_trans (hfpLt b hb) hDltC), fun y c q => cne y c q b hb⟩
    bs := I3.bs
    bsz := Nat.le_trans I3.ok.bsz I3.sz
    noex := fun b o q hb => by
      rcases List.mem_cons.mp hb with e2 | hb
      · exact absurd (ltD (I2.bs b o q).1) (by rw [e2]; exact Nat.lt_irrefl _)
      · rcases (f2 b hb).2.2.2.1 with z | z
        · exact I2.ok.noex b o q z
        · exact absurd (Heap.lt_size (I2.ok.bs b o q).1) (Nat.not_lt.mpr z)
    exfs := nstk
    funs := I3.stack
    frf := I3.stkFree }
  have start : ∀ (v0 : Option V) , v0 = none → Inv Xc [(D, { cls := .type "list", dict := none, data := .seq ([] : List Value).toArray })] (v0 :: fvOf ixs σ) H2 { s2 with heap := h₁, toks := s2.toks + ([] : List (Str × Value)).length } := fun v0 hv0 => {
    ok := ok
    os := rfl
    bare := I2.bare
    base := Un.kept k34
    loc := ⟨_, hns₁, fun i y v e1 e2 e3 => by
      cases i with
      | zero => rw [hv0] at e2; cases e2
      | succ j =>
        have e1' : fns[j]? = some y := e1
        have e2' : (fvOf ixs σ)[j]? = some (some v) := e2
        obtain ⟨i, hi1, hi2, hk, c, hc1, hc2⟩ := S.at_ j y e1'
        unfold fvOf at e2'
        rw [List.getElem?_map, hi1] at e2'
        have e3' : σ[i]? = some (some v) := by
          have z : (σ[i]?).join = some v := Option.some.inj e2'
          cases q : σ[i]? with
          | none => rw [q] at z; cases z
          | some o => rw [q] at z; rw [show o = some v from z]
        obtain ⟨m, _, hl⟩ := I2.loc
        obtain ⟨u, r, l⟩ := hl i y v hi2 e3' (hk.elim (fun z => .inr (.inl z)) fun z => .inr (.inr z))
        refine ⟨u, r, .inr ⟨hc2, c, hc1, ?_⟩⟩
        rcases l with ⟨z, _⟩ | ⟨_, c', hc', hcell⟩
        · rcases hk with hk | hk <;> (rw [hk] at z; cases z)
        · have : c' = c := Option.some.inj (hc'.symm.trans (S.sub _ _ hc1))
          subst this
          obtain ⟨o, ho, hd⟩ := hcell
          exact ⟨o, k34 _ _ (k23 _ _ ho), hd⟩⟩
    cell := fun y c q => by
      obtain ⟨v, o, ho, hd⟩ := I2.cell y c (S.sub y c q)
      exact ⟨v, o, k34 _ _ (k23 _ _ ho), hd⟩
    free := hnC
    freeC := fun y c q => I2.freeC y c (S.sub y c q)
    pin := fun p hp => by
      have hp' : p = (D, { cls := .type "list", dict := none, data := .seq ([] : List Value).toArray }) := by simpa [Xc, cxComp] using hp
      subst hp'
      exact ⟨k34 _ _ hDo, hnD, hDC, nstk D (List.mem_cons_self ..), fun v z => nomatch z⟩
    hok := (I2.hok.kept k23).kept k34
    len := by show (v0 :: fvOf ixs σ).length = (x :: fns).length; simp [fvOf, S.len] }
  -- what stays true of the iterator's objects
  have fpc : ∀ {H' : Hp} {pins' : List (Addr × Obj)}, (∀ b ∈ fp, H' b = none) → (∀ p ∈ pins', p.1 = D) → ∀ b ∈ fp, FpOk Xc pins' H' b := fun {H' pins'} hn hp b hb =>
    ⟨hn b hb, Nat.ne_of_lt (Nat.lt_trans (hfpLt b hb) hDltC), nstk b (List.mem_cons_of_mem _ hb), .inl (List.mem_cons_of_mem _ hb), fun y c q => cne y c q b (List.mem_cons_of_mem _ hb), fun p q => by
      have q' : p ∈ pins' := by simpa [Xc, cxComp] using q
      rw [hp p q']
      exact Nat.ne_of_gt (hfpLt b hb)⟩
  have loop : codeAny (model X.prog X.w) X.A (.compLoop (.ListComp elt [⟨.Name x px, iter, [], 0⟩] scope pos) 0 (.ref it) (.ref D) (compEnvC scope cl C X.env))
      (compPost (model X.prog X.w) X.A X.xe (some (assign (.Name y py) X.env)) (fun _ s' => SP X pins DD .next s') (.ref D) C) { s2 with heap := h₁, toks := s2.toks + ([] : List (Str × Value)).length } := by
    refine compLoop_go (fun n s' => ∃ (i : Nat) (ys : List V) (its : List Value) (nn : Nat) (v0 : Option V) (H' : Hp), Inv Xc [(D, { cls := .type "list", dict := none, data := .seq its.toArray nn })] (v0 :: fvOf ixs σ) H' s' ∧ tn i s'.heap ∧ (∀ b ∈ fp, H' b = none) ∧ Vals ys its ∧ W i n ys H') ?_ m0
      ⟨0, [], [], 0, none, H2, start none rfl, T.keep _ _ _ st2 fun b _ o q => k34 _ _ (k23 _ _ q), fun b hb => (f2 b hb).1, .nil, w0⟩
    rintro n s3 ⟨i, ys, its, nn, v0, H3, J3, tn3, fr3, vv, w3⟩
    have pinD : ∀ p ∈ ([(D, ({ cls := .type "list", dict := none, data := .seq its.toArray nn } : Obj))] : List (Addr × Obj)), p.1 = D := fun p hp => by
      have : p = (D, { cls := .type "list", dict := none, data := .seq its.toArray nn }) := by simpa using hp
      rw [this]
    rcases turn i n ys H3 w3 with ⟨stop, hlen, q⟩ | ⟨go, hlen, step⟩
    · -- the end
      refine thn (T.done Xc rfl rfl rfl hc i _ s3 _ H3 _ J3 (fpc fr3 pinD) tn3 stop) fun r s4 ⟨hr, J4⟩ => ?_
      subst hr
      obtain ⟨m, hn, _⟩ := J4.loc
      generalize hh4 : s4.heap = h''
      have hsb : Heap.SameBut C s4.heap h'' := by rw [← hh4]; exact ⟨rfl, fun _ _ => rfl⟩
      obtain ⟨gD, nD, _, _, _⟩ := J4.pin (D, { cls := .type "list", dict := none, data := .seq its.toArray nn }) (by simp [Xc, cxComp])
      have B := J4.base
      have kC : ∀ b u, b ≠ C → s4.heap.get? b = some u → h''.get? b = some u := fun b u hb q => (hsb.2 b hb).trans q
      have ne : ∀ {b o}, s2.heap.get? b = some o → b ≠ C ∧ b ≠ D := fun q => ⟨Nat.ne_of_lt (Nat.lt_trans (ltD q) hDltC), Nat.ne_of_lt (ltD q)⟩
      have nex : ∀ {b o}, s2.heap.get? b = some o → b ∉ fp → b ∉ D :: fp := fun q hx z => (List.mem_cons.mp z).elim (ne q).2 hx
      have uu : Un (frs X.stack) fp H2 (upd H3 D (.lst ys)) s2.heap h'' := {
        keep := fun b o q n hb hx => kC b o (ne q).1 (B.keep b o (k23 b o q) n hb (nex q hx))
        slot := fun b o q n hb hx => by
          obtain ⟨sl, e⟩ := B.slot b o (k23 b o q) n hb (nex q hx)
          exact ⟨sl, kC b _ (ne q).1 e⟩
        free := fun b o q n hx => by rw [upd_ne (ne q).2]; exact B.free b o (k23 b o q) n (nex q hx)
        there := fun b o q hx => by
          obtain ⟨o', e⟩ := B.there b o (k23 b o q) (nex q hx)
          exact ⟨o', kC b _ (ne q).1 e⟩
        tups := fun b xs q => by rw [upd_ne (ne_of_none q hnD)]; exact B.tups b xs q
        frzs := fun b o xs q => by rw [upd_ne (ne_of_none q hnD)]; exact B.frzs b o xs q
        tbls := fun b ps q => by
          obtain ⟨more, e⟩ := B.tbls b ps q
          exact ⟨more, by rw [upd_ne (ne_of_none q hnD)]; exact e⟩ }
      have hok : HOk X.prog X.w (upd H3 D (.lst ys)) h'' := fun b u e => by
        by_cases hb : b = D
        · subst hb
          rw [upd_same] at e
          cases e
          exact ⟨hlen, its, nn, vv, kC _ _ hDC gD⟩
        · rw [upd_ne hb] at e
          refine (J4.hok b u e).stay (fun c v hc q => kC c v ?_ q) (fun c q => by rw [upd_ne (ne_of_none q nD)]; exact q) fun c xs q => by rw [upd_ne (ne_of_none q nD)]; exact q
          have fC : H3 C = none := J4.free
          rcases hc with rfl | hc
          · exact ne_of_none e fC
          · exact ne_of_none hc fC
      have I5 : Inv X pins σ (upd H3 D (.lst ys)) s4 := I2.call' (s' := s4) J4.os (by rw [hh4]; exact uu) (by rw [hh4]; exact hok) J4.bare (fun b hb => ⟨(f2 b hb).2.2.2.1, (f2 b hb).2.1, (f2 b hb).2.2.2.2.1, (f2 b hb).2.2.2.2.2⟩)
      show wpAny _ X.A (assign (.Name y py) X.env (.ref D)) _ _ _
      have cL : X.env.locals ≠ C := fun z => by
        have h1 := I2.lt
        rw [hD, z] at h1
        exact absurd (Nat.lt_trans h1 hDltC) (Nat.lt_irrefl _)
      have cC : ∀ z c, X.env.cells.lookup z = some c → c ≠ C := fun z c hz e => by
        obtain ⟨v, hv⟩ := I2.cell z c hz
        have h1 := hv.lt
        rw [hD, e] at h1
        exact absurd (Nat.lt_trans h1 hDltC) (Nat.lt_irrefl _)
      have hCn : upd H3 D (.lst ys) C = none := by
        rw [upd_ne (Ne.symm hDC)]
        exact J4.free
      refine wpAny_assign_Name (store_ok2 I5 hN hiy hy (v := .ref D) rfl (fun s5 I6 hsame => ?_) hfy)
      obtain ⟨a5, sb5, ha5⟩ := hsame
      have neC : C ≠ a5 := by
        rcases ha5 with e | e
        · rw [e]; exact Ne.symm cL
        · exact Ne.symm (cC y a5 e)
      refine ⟨m, hn.sameBut sb5 neC, fun h6 sb6 => ?_⟩
      refine ⟨_, _, I6.turned (t' := s5.toks) (it := C) (fun b o hb e => (sb6.2 b hb).trans e) hCn (Ne.symm cL) (.inr (by
        have := I2.sz
        rw [hD] at this
        exact Nat.le_trans this (Nat.le_of_lt hDltC))) cC (fun p hp z => ?_), q D nD⟩
      have hlt := Heap.lt_size (I2.pin p hp).1
      rw [hD, z] at hlt
      exact absurd (Nat.lt_trans hlt hDltC) (Nat.lt_irrefl _)
    · -- a turn
      refine thn (T.item Xc rfl rfl rfl hc i _ s3 _ H3 _ J3 (fpc fr3 pinD) tn3 go) fun r s4 ⟨u, hr, h4⟩ => ?_
      subst hr
      refine thn h4 fun _ s5 ⟨xv, H5, J5, r5, y5, tn5, fr5⟩ => ?_
      have J5' := J5.pinned (fpc fr5 pinD) (T.obj _ _ tn5)
      have hg : PG Xc (.Name x px) (gName 0) := pg_name (X := Xc) (i := 0) S.nd rfl (.inl (relabel_own S.own)) (.inr (relabel_own S.own))
      refine thn (hg _ s5 _ H5 xv u (fun σ' H' => σ' = some xv :: fvOf ixs σ ∧ H' = H5) J5' r5 ⟨rfl, rfl⟩) fun _ s6 ⟨σ6, H6, J6, e6, e6'⟩ => ?_
      subst e6 e6'
      refine thn (he C { s2 with heap := hp3 } H2 (D :: fp) _ s6 _ H6 _ J6 (step xv H6 y5)) fun yv s7 ⟨y, H7, J7, r7, m', hm', w7⟩ => ?_
      obtain ⟨gD, nD, _, _, _⟩ := J7.pin (D, { cls := .type "list", dict := none, data := .seq its.toArray nn }) (by simp [Xc, cxComp])
      have tn7 : tn (i + 1) s7.heap := T.keep _ _ _ tn5 fun b hb o e => (J7.pin (b, o) (List.mem_append_right _ (List.mem_append_right _ (mem_pinsAt hb e)))).1
      have fr7 : ∀ b ∈ fp, H7 b = none := fun b hb => by
        obtain ⟨o, e, d⟩ := T.obj _ _ tn5 b hb
        exact (J7.pin (b, o) (List.mem_append_right _ (List.mem_append_right _ (mem_pinsAt hb e)))).2.1
      have J7' : Inv Xc [] (some xv :: fvOf ixs σ) H7 s7 := J7.pins_of fun p hp => nomatch hp
      refine wpAny_list_append_plain (hsz := by rw [List.size_toArray, ← vv.length]; omega) ⟨nn, gD⟩ fun h8 pl8 sb8 => ?_
      obtain ⟨n8, g8⟩ := pl8
      have J8 : Inv Xc [] (some xv :: fvOf ixs σ) H7 { s7 with heap := h8 } := J7'.turned (t' := s7.toks) (it := D) (fun b o hb e => (sb8.2 b hb).trans e) nD (hDC) (.inl (List.mem_cons_self ..))
        (fun y c q => cne y c q D (List.mem_cons_self ..)) (fun p hp => by simp [Xc, cxComp] at hp)
      refine ⟨m', hm', i + 1, ys ++ [y], its ++ [yv], n8, some xv, H7, J8.pins_of fun p hp => ?_, ?_, fr7, vv.append (.cons r7 .nil), w7⟩
      · have : p = (D, { cls := .type "list", dict := none, data := .seq (its ++ [yv]).toArray n8 }) := by simpa using hp
        subst this
        refine ⟨?_, nD, hDC, nstk D (List.mem_cons_self ..), fun v z => nomatch z⟩
        have : its.toArray.push yv = (its ++ [yv]).toArray := by simp
        rw [this] at g8
        exact g8
      · exact T.keep _ _ _ tn7 fun b hb o e => (sb8.2 b (Nat.ne_of_lt (hfpLt b hb))).trans e
  exact codeAny_compStart_list loop (T.self _ 0 _ _ _ (T.keep _ _ _ st2 fun b _ o q => k34 _ _ (k23 _ _ q)) loop)
end
end L2
set_option Elab.async false
set_option linter.all false
set_option maxRecDepth 100000
set_option maxHeartbeats 4000000
namespace L2
open PySem PySem.Spec PyProof.Rows
def rng (lo : Int) (n : Nat) : List Int := (List.range n).map fun i : Nat => lo + (i : Int)
theorem rng_len (lo : Int) (n : Nat) : (rng lo n).length = n := by unfold rng; rw [List.length_map, List.length_range]
theorem rng_at {lo : Int} {n i : Nat} (h : i < n) : (rng lo n)[i]? = some (lo + (i : Int)) := by
  unfold rng
  rw [List.getElem?_map, List.getElem?_range h]
  rfl
theorem vals_get : ∀ (zs : List Int) (us : List Value), us.length = zs.length → (∀ (i : Nat) (z : Int) (u : Value), zs[i]? = some z → us[i]? = some u → ∃ t, u = .int z t) → Vals (intV zs) us
  | [], [], _, _ => .nil
  | z :: zs, u :: us, hl, h => .cons (h 0 z u rfl rfl) (vals_get zs us (by simpa using hl) fun i z u h1 h2 => h (i + 1) z u h1 h2)
  | [], _ :: _, hl, _ => by simp at hl
  | _ :: _, [], hl, _ => by simp at hl
theorem items_vals {lo : Int} {n : Nat} {acc : Array Value} (h : ItemsOf (fun i v => ∃ t, v = Value.int (lo + ↑i * 1) t) acc n) : Vals (intV (rng lo n)) acc.toList := by
  refine vals_get _ _ ?_ fun i z u h1 h2 => ?_
  · rw [rng_len, Array.length_toList]
    exact h.1
  · have hi : i < n := by
      have := (List.getElem?_eq_some_iff.mp h1).1
      rw [rng_len] at this
      exact this
    rw [rng_at hi] at h1
    obtain ⟨t, e⟩ := h.2 i u (by rw [← Array.getElem?_toList]; exact h2)
    exact ⟨t, by rw [e, ← Option.some.inj h1, Int.mul_one]⟩
section
variable {X : Cx} {a b : Expr} {ta : TA} {p p2 pos pos2 : Pos}
def tLR1 (ta : TA) : TE := fun σ H Q => ta σ H fun vs H1 => ∃ j : Nat, vs = [.int j] ∧ j ≤ 10000 ∧ ∀ l, H1 l = none → Q (.ref l) (upd H1 l (.lst (intV (rng 0 j))))
theorem list_range {pins : List (Addr × Obj)} {σ : St} {H : Hp} {s : Shared} {Q : VK} {lo hi : Int} {t u v : Tok} {tk : Nat} (hc : X.calm = true) (I : Inv X pins σ H s) (h1 : 0 ≤ lo) (h2 : lo ≤ 10000) (h3 : 0 ≤ hi) (h4 : hi ≤ 10000)
    (q : ∀ l, H l = none → Q (.ref l) (upd H l (.lst (intV (rng lo (hi - lo).toNat))))) : wpAny (model X.prog X.w) X.A (call (.type "list") [.ref s.heap.objs.size]) (EP X pins σ Q) X.xe { s with heap := s.heap.push { cls := .type "range", data := .fields #[.int lo t, .int hi u, .int 1 v] }, toks := tk } := by
  have I1 : Inv X pins σ H { s with heap := s.heap.push { cls := .type "range", data := .fields #[.int lo t, .int hi u, .int 1 v] }, toks := tk } := I.kept fun b o e => Heap.get?_push_of_some _ e
  have hsz : Builtin.Range.rangeSize lo hi 1 = (((hi - lo).toNat : Nat) : Int) := by rw [rangeSize_one]; split <;> omega
  refine call_list_range (n := (hi - lo).toNat) (I.ok.hd hc) (IsRange.new ..) (small_one (by omega) (by omega) (by omega) (by omega)) hsz (by omega) fun h' tk' acc' c' kp hg hit => ?_
  refine ⟨.ref _, _, I1.laid (t' := tk') (o := .lst (intV (rng lo (hi - lo).toNat))) kp (Nat.le_refl _) ⟨?_, acc'.toList, c', items_vals hit, ?_⟩, rfl, q _ (I1.hok.fresh (Nat.le_refl _))⟩
  · rw [ints_len, rng_len]
    exact Nat.le_trans (show (hi - lo).toNat ≤ 10000 by omega) (by decide)
  · rw [Array.toArray_toList]
    exact hg
theorem pe_listRange1 (hc : X.calm = true) (hgl : Gl X "list") (hml : X.mg "list" = none) (hg : Gl X "range") (hm : X.mg "range" = none) (ha : PA X [a] ta) (hs : starEach [a] X.env = [(false, eval a X.env)] := by rfl)
    (hs2 : starEach [.Call (.Name "range" p) [a] [] pos] X.env = [(false, eval (.Call (.Name "range" p) [a] [] pos) X.env)] := by rfl) : PE X (.Call (.Name "list" p2) [.Call (.Name "range" p) [a] [] pos] [] pos2) (tLR1 ta) := by
  intro pins s σ H Q I h
  refine wpAny_Call_Name_kw (ld_blt I hgl hml boot_list ?_)
  refine PyProof.Rows.callWith_type1 ?_ hs2 rfl
  rw [hs2]
  show wpAny _ _ (spliced ((false, eval (.Call (.Name "range" p) [a] [] pos) X.env) :: backTo pos2 [])) _ _ s
  refine Calls.spliced_cons ?_
  refine Call_ (ld_blt I hg hm boot_range (PyProof.Rows.callWith_type1 (thn (ha pos pins s σ H _ I h) fun us s1 ⟨vs, H1, I1, r1, q1⟩ => ?_) hs rfl))
  obtain ⟨j, e, hj, q⟩ := q1
  subst e
  cases r1 with
  | cons r rr =>
    cases rr
    obtain ⟨t, rfl⟩ := r
    refine call_range_1 (Calls.spliced_nil ?_)
    exact list_range hc I1 (by omega) (by omega) (by omega) (by omega) (by simpa using q)
end
end L2
set_option Elab.async false
set_option linter.all false
set_option maxRecDepth 100000
set_option maxHeartbeats 4000000
namespace L2
open PySem PySem.Spec PyProof.Rows
def RowsAt (H : Hp) (rs : List Addr) (rows : List (List Int)) : Prop := rs.length = rows.length ∧ ∀ (i : Nat) (r : Addr) (ns : List Int), rs[i]? = some r → rows[i]? = some ns → H r = some (.lst (intV ns))
def TabAt (H : Hp) (a : Addr) (rows : List (List Int)) : Prop := ∃ rs : List Addr, H a = some (.lst (rs.map V.ref)) ∧ RowsAt H rs rows
theorem RowsAt.same {H H' : Hp} {rs : List Addr} {rows : List (List Int)} (h : RowsAt H rs rows) (s : Same H H') : RowsAt H' rs rows := ⟨h.1, fun i r ns h1 h2 => s _ _ (h.2 i r ns h1 h2)⟩
theorem TabAt.same {H H' : Hp} {a : Addr} {rows : List (List Int)} (h : TabAt H a rows) (s : Same H H') : TabAt H' a rows := by
  obtain ⟨rs, h1, h2⟩ := h
  exact ⟨rs, s _ _ h1, h2.same s⟩
theorem vals_refs {rs : List Addr} : ∀ {us : List Value}, Vals (rs.map V.ref) us → us = rs.map Value.ref := by
  induction rs with
  | nil => intro us r; cases r; rfl
  | cons c rs ih =>
    intro us r
    cases r with
    | cons r0 r1 => cases r0; rw [ih r1]; rfl
theorem all_eqG {α : Type} [DecidableEq α] {ns ms : List α} (h : ns.length = ms.length) : (List.range ns.length).all (fun j => decide (ns[j]? = ms[j]?)) = decide (ns = ms) := by
  rw [Bool.eq_iff_iff, List.all_eq_true, decide_eq_true_iff]
  constructor
  · intro h1
    refine List.ext_getElem? fun i => ?_
    by_cases hi : i < ns.length
    · exact of_decide_eq_true (h1 i (List.mem_range.mpr hi))
    · rw [List.getElem?_eq_none (by omega), List.getElem?_eq_none (by omega)]
  · rintro rfl j _
    exact decide_eq_true rfl
section
variable {X : Cx} {pins : List (Addr × Obj)} {σ : St} {H : Hp} {s : Shared} {A : Around}
theorem rc_ints (I : Inv X pins σ H s) {r q : Addr} {ns ms : List Int} (hr : H r = some (.lst (intV ns))) (hq : H q = some (.lst (intV ms))) (hu : A.units < cLine) : SeqAt.RcAt A s (.ref r) (.ref q) (decide (ns = ms)) := by
  obtain ⟨its, r1, p1, _⟩ := I.list (SqL.of hr)
  obtain ⟨its2, r2, p2, _⟩ := I.list (SqL.of hq)
  have l1 := r1.length
  have l2 := r2.length
  rw [ints_len] at l1 l2
  by_cases hl : ns.length = ms.length
  · have := SeqAt.RcAt.lists (A := A) (e := fun j => decide (ns[j]? = ms[j]?)) p1.isList p2.isList (by rw [List.size_toArray, List.size_toArray]; omega) hu (fun j h1 h2 => eqItems r1 r2 j h1 h2)
    rw [List.size_toArray, ← l1, all_eqG hl] at this
    exact this
  · have e : decide (ns = ms) = false := decide_eq_false (fun z => hl (by rw [z]))
    rw [e]
    refine SeqAt.RcAt.lists_lengths p1.isList p2.isList ?_ hu
    rw [List.size_toArray, List.size_toArray]
    simp
    omega
theorem eq_ints (I : Inv X pins σ H s) {r q : Addr} {ns ms : List Int} (hr : H r = some (.lst (intV ns))) (hq : H q = some (.lst (intV ms))) (hu : A.units < cLine) : SeqAt.EqAt A s (.ref r) (.ref q) (decide (ns = ms)) := by
  by_cases e : r = q
  · subst e
    have : ns = ms := by
      rw [hr] at hq
      injection hq with hq
      injection hq with hq
      unfold intV at hq
      exact (List.map_inj_right (fun a b z => V.int.inj z)).mp hq
    rw [decide_eq_true this]
    exact SeqAt.EqAt.same _
  · exact SeqAt.EqAt.of_refs e (rc_ints I hr hq hu)
theorem rows_items (I : Inv X pins σ H s) {rs qs : List Addr} {ns ms : List (List Int)} (hr : RowsAt H rs ns) (hq : RowsAt H qs ms) (hu : A.units < cLine) (j : Nat) (h1 : j < (rs.map Value.ref).toArray.size) (h2 : j < (qs.map Value.ref).toArray.size) :
    SeqAt.EqAt A s (rs.map Value.ref).toArray[j] (qs.map Value.ref).toArray[j] (decide (ns[j]? = ms[j]?)) := by
  have g1 : j < rs.length := by simpa using h1
  have g2 : j < qs.length := by simpa using h2
  have k1 : j < ns.length := by rw [← hr.1]; exact g1
  have k2 : j < ms.length := by rw [← hq.1]; exact g2
  have e1 : (rs.map Value.ref).toArray[j] = .ref rs[j] := by simp
  have e2 : (qs.map Value.ref).toArray[j] = .ref qs[j] := by simp
  rw [e1, e2]
  have a1 := hr.2 j rs[j] ns[j] (List.getElem?_eq_getElem g1) (List.getElem?_eq_getElem k1)
  have a2 := hq.2 j qs[j] ms[j] (List.getElem?_eq_getElem g2) (List.getElem?_eq_getElem k2)
  have := eq_ints (A := A) I a1 a2 hu
  rw [List.getElem?_eq_getElem k1, List.getElem?_eq_getElem k2]
  have ed : decide (some ns[j] = some ms[j]) = decide (ns[j] = ms[j]) := by
    rw [Bool.eq_iff_iff, decide_eq_true_iff, decide_eq_true_iff]
    exact ⟨Option.some.inj, congrArg some⟩
  rw [ed]
  exact this
end
section
variable {X : Cx}
def rNeLI : R2 := fun x y H Q => ∃ a b ns ms, x = .ref a ∧ y = .ref b ∧ H a = some (.lst (intV ns)) ∧ H b = some (.lst (intV ms)) ∧ Q (.bl (!decide (ns = ms))) H
theorem op_neLI (hu : X.A.units < cLine) : OpR X (compareOp .NotEq) rNeLI := by
  intro pins s σ H x y v u Q I rx ry h
  obtain ⟨a, b, ns, ms, rfl, rfl, ha, hb, q⟩ := h
  cases rx
  cases ry
  obtain ⟨its, r1, p1, _⟩ := I.list (SqL.of ha)
  obtain ⟨its2, r2, p2, _⟩ := I.list (SqL.of hb)
  have l1 := r1.length
  have l2 := r2.length
  rw [ints_len] at l1 l2
  by_cases hl : ns.length = ms.length
  · refine SeqAt.RcNeAt.lists (e := fun j => decide (ns[j]? = ms[j]?)) p1.isList p2.isList (by rw [List.size_toArray, List.size_toArray]; omega) hu (fun j h1 h2 => eqItems r1 r2 j h1 h2) X.prog X.w X.xe _ ⟨.bl (!decide (ns = ms)), H, I, ?_, q⟩
    show _ = Value.bool (!decide (ns = ms))
    rw [List.size_toArray, ← l1, all_eqG hl]
  · have e : decide (ns = ms) = false := decide_eq_false (fun z => hl (by rw [z]))
    rw [e] at q
    refine SeqAt.RcNeAt.lists_lengths p1.isList p2.isList ?_ hu X.prog X.w X.xe _ ⟨.bl true, H, I, rfl, q⟩
    rw [List.size_toArray, List.size_toArray]
    simp
    omega
def rIntB : List V → Hp → VK → Prop := fun xs H Q => ∃ b : Bool, xs = [.bl b] ∧ Q (.int (if b = true then 1 else 0)) H
theorem call_intB : CallR X (.type "int") rIntB := by
  intro pins s σ H xs us Q I r h
  obtain ⟨b, rfl, q⟩ := h
  obtain ⟨u, rfl, rx⟩ := vals1 r
  cases rx
  exact call_int_bool ⟨.int _, H, I.tok _, ⟨_, rfl⟩, q⟩
theorem call_list_ofK {K : PySem.W.Frag} (h : X.K = K) : CallR X (.type "list") (fun xs H Q => ∃ p ys, xs = [.ref p] ∧ (SqL K H p ys ∨ SqT K H p ys) ∧ ∀ l, H l = none → Q (.ref l) (upd H l (.lst ys))) := by subst h; exact call_list_of
theorem call_len_seqK {K : PySem.W.Frag} (h : X.K = K) : CallR X (.builtin "len") (fun xs H Q => ∃ p ys, xs = [.ref p] ∧ (SqL K H p ys ∨ SqT K H p ys) ∧ Q (.int ys.length) H) := by subst h; exact call_len_seq
theorem compScope2 {x y z : Str} {scope : Scope} {c d : Addr} {i j : Nat} (hclos : closureFor scope X.env = pure [(y, c), (z, d)]) (hy : X.env.cells.lookup y = some c) (hz : X.env.cells.lookup z = some d) (hc : ∀ q ∈ scope.names, q.2 ≠ .cell) (hk : scope.kind = .function)
    (hn : ∀ q ∈ scope.names, q.2 = .local → scope.names.lookup q.1 = some .local) (hx : scope.names.lookup x = some .local) (hfree : ∀ q ∈ scope.names, q.2 = .free → q.1 = y ∨ q.1 = z) (hxy : x ≠ y ∧ x ≠ z ∧ y ≠ z) (hi : X.N[i]? = some y) (hj : X.N[j]? = some z)
    (hky : X.env.kindOf y = some .cell) (hkz : X.env.kindOf z = some .cell) (hkf : X.env.scope.kind = .function) (hys : scope.names.lookup y = some .free) (hzs : scope.names.lookup z = some .free) : CompScope X x [y, z] [i, j] scope [(y, c), (z, d)] where
  clos := hclos
  sub := fun w e h => by
    by_cases e1 : w = y
    · subst e1
      have : c = e := by simpa [List.lookup_cons] using h
      rw [← this]
      exact hy
    · have hb : (w == y) = false := beq_eq_false_iff_ne.mpr e1
      by_cases e2 : w = z
      · subst e2
        have : d = e := by simpa [List.lookup_cons, hb] using h
        rw [← this]
        exact hz
      · have hb2 : (w == z) = false := beq_eq_false_iff_ne.mpr e2
        simp [List.lookup_cons, hb, hb2] at h
  cell := hc
  kind := hk
  names := hn
  own := hx
  has := fun w h => by
    have e : w = y ∨ w = z := by
      rcases h with h | h
      · exact hfree _ (relabel_mem h (.inl rfl) hc) rfl
      · exact hfree _ (relabel_mem h (.inr rfl) hc) rfl
    rcases e with rfl | rfl
    · exact ⟨c, by simp [List.lookup_cons]⟩
    · have hb : (w == y) = false := beq_eq_false_iff_ne.mpr (fun q => hxy.2.2 q.symm)
      exact ⟨d, by simp [List.lookup_cons, hb]⟩
  nd := by simp [hxy.1, hxy.2.1, hxy.2.2]
  len := rfl
  at_ := fun k w h => by
    match k, h with
    | 0, h =>
      have e : y = w := by simpa using h
      subst e
      exact ⟨i, rfl, hi, .inl hky, c, by simp [List.lookup_cons], .inl (lookup_relabel_free hkf hky hys)⟩
    | 1, h =>
      have e : z = w := by simpa using h
      subst e
      have hb : (z == y) = false := beq_eq_false_iff_ne.mpr (fun q => hxy.2.2 q.symm)
      exact ⟨j, rfl, hj, .inl hkz, d, by simp [List.lookup_cons, hb], .inl (lookup_relabel_free hkf hkz hzs)⟩
    | k + 2, h => simp at h
end
end L2
set_option Elab.async false
set_option linter.all false
set_option maxRecDepth 100000
set_option maxHeartbeats 4000000
namespace L2
open PySem PySem.Spec PyProof.Rows
def TupsAt (H : Hp) (ps : List Addr) (ws : List (List Int)) : Prop := ps.length = ws.length ∧ ∀ (i : Nat) (p : Addr) (w : List Int), ps[i]? = some p → ws[i]? = some w → H p = some (.tup (intV w))
def WordsAt (H : Hp) (a : Addr) (ws : List (List Int)) : Prop := ∃ ps : List Addr, H a = some (.lst (ps.map V.ref)) ∧ TupsAt H ps ws
theorem TupsAt.keep {H H' : Hp} {ps : List Addr} {ws : List (List Int)} (h : TupsAt H ps ws) (s : ∀ p xs, H p = some (.tup xs) → H' p = some (.tup xs)) : TupsAt H' ps ws := ⟨h.1, fun i p w h1 h2 => s _ _ (h.2 i p w h1 h2)⟩
theorem TupsAt.same {H H' : Hp} {ps : List Addr} {ws : List (List Int)} (h : TupsAt H ps ws) (s : Same H H') : TupsAt H' ps ws := h.keep fun p xs e => s _ _ e
theorem WordsAt.same {H H' : Hp} {a : Addr} {ws : List (List Int)} (h : WordsAt H a ws) (s : Same H H') : WordsAt H' a ws := by
  obtain ⟨ps, h1, h2⟩ := h
  exact ⟨ps, s _ _ h1, h2.same s⟩
theorem TupsAt.snoc {H : Hp} {ps : List Addr} {ws : List (List Int)} {p : Addr} {w : List Int} (h : TupsAt H ps ws) (hp : H p = some (.tup (intV w))) : TupsAt H (ps ++ [p]) (ws ++ [w]) := by
  refine ⟨by rw [List.length_append, List.length_append, h.1]; rfl, fun i q u h1 h2 => ?_⟩
  by_cases hi : i < ps.length
  · rw [List.getElem?_append_left hi] at h1
    rw [List.getElem?_append_left (by rw [← h.1]; exact hi)] at h2
    exact h.2 i q u h1 h2
  · rw [List.getElem?_append_right (by omega)] at h1
    rw [List.getElem?_append_right (by rw [← h.1]; omega)] at h2
    rw [List.mem_singleton.mp (List.mem_of_getElem? h1), List.mem_singleton.mp (List.mem_of_getElem? h2)]
    exact hp
section
variable {X : Cx} {pins : List (Addr × Obj)} {σ : St} {H : Hp} {s : Shared} {A : Around}
theorem eq_tups (I : Inv X pins σ H s) {r q : Addr} {ns ms : List Int} (hr : H r = some (.tup (intV ns))) (hq : H q = some (.tup (intV ms))) (hu : A.units < cLine) : SeqAt.EqAt A s (.ref r) (.ref q) (decide (ns = ms)) := by
  by_cases e : r = q
  · subst e
    have : ns = ms := by
      rw [hr] at hq
      injection hq with hq
      injection hq with hq
      unfold intV at hq
      exact (List.map_inj_right (fun a b z => V.int.inj z)).mp hq
    rw [decide_eq_true this]
    exact SeqAt.EqAt.same _
  · refine SeqAt.EqAt.of_refs e ?_
    obtain ⟨its, r1, p1, _⟩ := I.tuple (SqT.of hr)
    obtain ⟨its2, r2, p2, _⟩ := I.tuple (SqT.of hq)
    have l1 := r1.length
    have l2 := r2.length
    rw [ints_len] at l1 l2
    have := SeqAt.RcAt.tuples (A := A) (e := fun j => decide (ns[j]? = ms[j]?)) (show s.heap.IsTuple r its.toArray from p1) (show s.heap.IsTuple q its2.toArray from p2) hu (fun j h1 h2 => eqItems r1 r2 j h1 h2)
    rw [List.size_toArray, List.size_toArray, ← l1, ← l2, all_eq] at this
    exact this
theorem tups_items (I : Inv X pins σ H s) {rs qs : List Addr} {ns ms : List (List Int)} (hr : TupsAt H rs ns) (hq : TupsAt H qs ms) (hu : A.units < cLine) (j : Nat) (h1 : j < (rs.map Value.ref).toArray.size) (h2 : j < (qs.map Value.ref).toArray.size) :
    SeqAt.EqAt A s (rs.map Value.ref).toArray[j] (qs.map Value.ref).toArray[j] (decide (ns[j]? = ms[j]?)) := by
  have g1 : j < rs.length := by simpa using h1
  have g2 : j < qs.length := by simpa using h2
  have k1 : j < ns.length := by rw [← hr.1]; exact g1
  have k2 : j < ms.length := by rw [← hq.1]; exact g2
  have e1 : (rs.map Value.ref).toArray[j] = .ref rs[j] := by simp
  have e2 : (qs.map Value.ref).toArray[j] = .ref qs[j] := by simp
  rw [e1, e2]
  have a1 := hr.2 j rs[j] ns[j] (List.getElem?_eq_getElem g1) (List.getElem?_eq_getElem k1)
  have a2 := hq.2 j qs[j] ms[j] (List.getElem?_eq_getElem g2) (List.getElem?_eq_getElem k2)
  have := eq_tups (A := A) I a1 a2 hu
  rw [List.getElem?_eq_getElem k1, List.getElem?_eq_getElem k2]
  have ed : decide (some ns[j] = some ms[j]) = decide (ns[j] = ms[j]) := by
    rw [Bool.eq_iff_iff, decide_eq_true_iff, decide_eq_true_iff]
    exact ⟨Option.some.inj, congrArg some⟩
  rw [ed]
  exact this
end
section
variable {X : Cx}
def rEqLT : R2 := fun x y H Q => ∃ a b ns ms, x = .ref a ∧ y = .ref b ∧ WordsAt H a ns ∧ WordsAt H b ms ∧ Q (.bl (decide (ns = ms))) H
theorem op_eqLT (hu : X.A.units + 1 < cLine) : OpR X (compareOp .Eq) rEqLT := by
  intro pins s σ H x y v u Q I rx ry h
  obtain ⟨a, b, ns, ms, rfl, rfl, ⟨rs, ha, hra⟩, ⟨qs, hb, hrb⟩, q⟩ := h
  cases rx
  cases ry
  obtain ⟨its, r1, p1, _⟩ := I.list (SqL.of ha)
  obtain ⟨its2, r2, p2, _⟩ := I.list (SqL.of hb)
  have e1 := vals_refs r1
  have e2 := vals_refs r2
  subst e1 e2
  by_cases hl : ns.length = ms.length
  · refine SeqAt.eq_listAt (e := fun j => decide (ns[j]? = ms[j]?)) p1.isList p2.isList (by simp [hra.1, hrb.1, hl]) (by omega) (fun j h1 h2 => tups_items I hra hrb hu j h1 h2) ⟨.bl (decide (ns = ms)), H, I, ?_, q⟩
    show _ = Value.bool (decide (ns = ms))
    rw [List.size_toArray, List.length_map, hra.1, all_eqG hl]
  · have e : decide (ns = ms) = false := decide_eq_false (fun z => hl (by rw [z]))
    rw [e] at q
    refine SeqAt.eq_list_lengthsAt p1.isList p2.isList ?_ (by omega) ⟨.bl false, H, I, rfl, q⟩
    simp [hra.1, hrb.1, hl]
end
end L2
set_option Elab.async false
set_option linter.all false
set_option maxRecDepth 100000
set_option maxHeartbeats 4000000
namespace L2
open PySem PySem.Spec PyProof.Rows
theorem vals_intsAre : ∀ {ns : List Int} {us : List Value}, Vals (intV ns) us → IntsAre us ns
  | [], _, h => by cases h; exact .nil
  | n :: ns, _, h => by
    cases h with
    | cons h0 h1 =>
      obtain ⟨t, rfl⟩ := h0
      exact .cons n t (vals_intsAre h1)
theorem any_mem (ns : List Int) (k : Int) : (ns.any fun x => x == k) = decide (k ∈ ns) := by
  rw [Bool.eq_iff_iff, List.any_eq_true, decide_eq_true_iff]
  constructor
  · rintro ⟨x, hx, e⟩
    rw [← eq_of_beq e]
    exact hx
  · intro h
    exact ⟨k, h, beq_self_eq_true k⟩
section
variable {X : Cx}
def rNotInLI : R2 := fun x y H Q => ∃ k a ns, x = .int k ∧ y = .ref a ∧ H a = some (.lst (intV ns)) ∧ Q (.bl (!decide (k ∈ ns))) H
theorem op_NOTIN_l : OpR X (compareOp .NotIn) rNotInLI := by
  intro pins s σ H x y v u Q I rx ry h
  obtain ⟨k, a, ns, rfl, rfl, ha, q⟩ := h
  obtain ⟨t, rfl⟩ := rx
  cases ry
  obtain ⟨its, r, p, _⟩ := I.list (SqL.of ha)
  refine notin_list_ints p.isList (vals_intsAre r) ?_
  rw [any_mem]
  exact ⟨.bl _, H, I, rfl, q⟩
def isInt (k : Int) : Value → Bool
  | .int z _ => z == k
  | _ => false
def rIndexL : V → List V → Hp → VK → Prop := fun x vs H Q => ∃ (a : Addr) (ns : List Int) (k : Int), x = .ref a ∧ vs = [.int k] ∧ H a = some (.lst (intV ns)) ∧ k ∈ ns ∧ ∀ i : Nat, ns[i]? = some k → (∀ j, j < i → ns[j]? ≠ some k) → Q (.int i) H
theorem first_ofI {l : List Int} {c : Int} (h : c ∈ l) : ∃ i : Nat, l[i]? = some c ∧ ∀ j, j < i → l[j]? ≠ some c := by
  induction l with
  | nil => cases h
  | cons a l ih =>
    by_cases e : a = c
    · exact ⟨0, by rw [e]; rfl, fun j hj => by omega⟩
    · obtain ⟨i, h1, h2⟩ := ih ((List.mem_cons.mp h).resolve_left (Ne.symm e))
      refine ⟨i + 1, h1, fun j hj => ?_⟩
      cases j with
      | zero => exact fun z => e (Option.some.inj z)
      | succ j => exact h2 j (by omega)
theorem mt_list_index : MtM X "list.index" rIndexL := by
  intro pins s σ H x vs v us Q I rx rv h
  obtain ⟨a, ns, k, rfl, rfl, hH, hm, q⟩ := h
  cases rx
  obtain ⟨u, rfl, ru⟩ := rv.one
  obtain ⟨t, rfl⟩ := ru
  obtain ⟨z, its, n, r, hl, e⟩ := I.lstM hH
  rw [ints_len] at z hl
  obtain ⟨i, h1, h2⟩ := first_ofI hm
  have hi : i < ns.length := (List.getElem?_eq_some_iff.mp h1).1
  have at_ : ∀ (m : Nat) (hm : m < its.toArray.size), isInt k its.toArray[m] = decide (ns[m]? = some k) := fun m hm => by
    have hm' : m < its.length := by simpa using hm
    have hn : ns[m]? = some (ns[m]'(by omega)) := List.getElem?_eq_getElem (by omega)
    obtain ⟨w, hw, t', rfl⟩ := r.get (ints_at hn)
    have f1 : its.toArray[m] = Value.int (ns[m]'(by omega)) t' := by
      rw [List.getElem_toArray]
      exact Option.some.inj ((List.getElem?_eq_getElem hm').symm.trans hw)
    rw [f1, hn]
    show (ns[m]'(by omega) == k) = _
    rw [Bool.eq_iff_iff, beq_iff_eq, decide_eq_true_iff]
    exact ⟨fun z => by rw [z], fun z => Option.some.inj z⟩
  have hsz : (sizeLine : Nat) < 2 ^ 62 := by decide
  refine call_meets F.slot_list_index ⟨_, e, rfl⟩ F.entry_list_index (F.args_list_index_2 _ _)
    (SeqAt.list_indexAt a its.toArray n none #[] (.int k t) (isInt k) i (by rw [List.size_toArray]; omega) (by omega) (by rw [at_]; exact decide_eq_true h1) (fun m hm hlt => by rw [at_]; exact decide_eq_false (h2 m hlt))) ⟨e, fun y hy => ?_, ?_⟩
  · obtain ⟨m, hm, ey⟩ := List.mem_iff_getElem.mp (Array.mem_toList_iff.mpr hy)
    have hm' : m < its.length := by simpa using hm
    have hn : ns[m]? = some (ns[m]'(by omega)) := List.getElem?_eq_getElem (by omega)
    obtain ⟨w, hw, t', rfl⟩ := r.get (ints_at hn)
    have f1 : y = Value.int (ns[m]'(by omega)) t' := by
      rw [← ey]
      exact Option.some.inj ((List.getElem?_eq_getElem hm').symm.trans hw)
    rw [f1]
    exact SeqAt.EqAt.int_int _ t' k t
  · exact ⟨.int i, H, I.tok _, ⟨_, rfl⟩, q i h1 h2⟩
end
end L2
set_option Elab.async false
set_option linter.all false
set_option maxRecDepth 100000
set_option maxHeartbeats 4000000
namespace L2
open PySem PySem.Spec PyProof.Rows
def It2 (n : Nat) : It := ⟨fun i _ => i < n, fun i H x H' => H' = H ∧ x = .int ((2 * i : Nat) : Int), fun i _ => n ≤ i⟩
theorem turn_range2 {P : Program} {w : World} {K : PySem.W.Frag} {tg : Expr} (it : Addr) (n : Nat) : Turn P w K tg (It2 n) [it] it (fun i h => IsRangeIter h it (0 + (i : Nat) * 2) ((n : Int) - (i : Nat)) 2) where
  mem := by simp
  obj := fun i h st b hb => by
    have e : b = it := by simpa using hb
    subst e
    exact ⟨_, st, fun v z => by
      have z' : Data.fields _ = Data.cell v := z
      cases z'⟩
  keep := fun i h h' st k => k it (by simp) _ st
  item := by
    intro X hP hw hK hc i pins s σ H E I hf st hg
    subst hP hw hK
    obtain ⟨f0, f1, f2, f3, f4, f5⟩ := hf it (by simp)
    have W := Walks.range (prog := X.prog) (w := X.w) (I.ok.hd hc) it 0 2 n
    refine W.item i s _ _ hg st fun v h' tk hv st' kk => ?_
    obtain ⟨t, rfl⟩ := hv
    have I1 : Inv X pins σ H { s with heap := h', toks := tk } := I.turned (fun b o hb e => kk b o (by simpa using hb) e) f0 f1 f3 f4 f5
    refine ⟨_, rfl, go_of (s := { s with heap := h', toks := tk }) (n := "range_iterator") st' rfl rfl (by decide) ⟨.int ((2 * i : Nat) : Int), H, I1, ⟨t, ?_⟩, ⟨rfl, rfl⟩, st', fun b hb => (hf b hb).1⟩⟩
    rw [show ((2 * i : Nat) : Int) = 0 + (i : Int) * 2 by omega]
  done := by
    intro X hP hw hK hc i pins s σ H E I hf st hg
    subst hP hw hK
    obtain ⟨f0, f1, f2, f3, f4, f5⟩ := hf it (by simp)
    exact wpAny_pyNext_range_end (I.ok.hd hc) st (by have : n ≤ i := hg; omega) fun h' eb => ⟨rfl, I.turned (t' := s.toks) (fun b o hb e => eb b o hb e) f0 f1 f3 f4 f5⟩
  self := fun _ _ _ _ _ st h => wpAny_pyIter_rangeiter st h
theorem rangeSize_two (m : Nat) : Builtin.Range.rangeSize 0 ((2 * m : Nat) : Int) 2 = (m : Int) := by
  unfold Builtin.Range.rangeSize
  rw [if_pos (by decide)]
  split <;> omega
theorem small_two {m : Nat} (h : m ≤ 1000000) : Builtin.Range.small 0 ((2 * m : Nat) : Int) 2 = true := by
  unfold Builtin.Range.small
  rw [rangeSize_two]
  have e1 : 0 ≤ ((2 * m : Nat) : Int) := by omega
  have e2 : ((2 * m : Nat) : Int) < 2 ^ 61 := by omega
  have e3 : 0 ≤ (m : Int) := by omega
  have e4 : (m : Int) < 2 ^ 60 := by omega
  generalize ((2 * m : Nat) : Int) = x at e1 e2
  generalize (m : Int) = y at e3 e4
  clear h
  simp only [Builtin.Range.rangeFitsLong, Bool.and_eq_true, Bool.or_eq_true, decide_eq_true_eq, beq_iff_eq, show (2 : Int) > 0 by decide, if_true]
  omega
section
variable {X : Cx} {tg : Expr}
theorem range_it2 {pins : List (Addr × Obj)} {σ : St} {H : Hp} {s : Shared} {R : It → Hp → Prop} {E : Value → Shared → Prop} {m : Nat} {t u v : Tok} {tk : Nat} (I : Inv X pins σ H s) (h1 : m ≤ 1000000)
    (q : R (It2 m) H) : wpAny (model X.prog X.w) X.A (pyIter (.ref s.heap.objs.size)) (PIE X pins σ tg R) E { s with heap := s.heap.push { cls := .type "range", data := .fields #[.int 0 t, .int ((2 * m : Nat) : Int) u, .int 2 v] }, toks := tk } := by
  refine wpAny_pyIter_range (IsRange.new ..) (small_two h1) ?_
  have I1 : Inv X pins σ H { s with heap := s.heap.push { cls := .type "range", data := .fields #[.int 0 t, .int ((2 * m : Nat) : Int) u, .int 2 v] }, toks := tk } := I.kept fun b o e => Heap.get?_push_of_some _ e
  refine ⟨(s.heap.push { cls := .type "range", data := .fields #[.int 0 t, .int ((2 * m : Nat) : Int) u, .int 2 v] }).objs.size, [(s.heap.push { cls := .type "range", data := .fields #[.int 0 t, .int ((2 * m : Nat) : Int) u, .int 2 v] }).objs.size], _, _, H, rfl,
    I1.kept (t' := tk) fun b o e => Heap.get?_push_of_some _ e, turn_range2 _ m, ?_, fun b hb => ?_, q⟩
  · have e1 : (0 : Int) + ((0 : Nat) : Int) * 2 = 0 := by simp
    have e2 : ((m : Nat) : Int) - ((0 : Nat) : Int) = Builtin.Range.rangeSize 0 ((2 * m : Nat) : Int) 2 := by rw [rangeSize_two]; omega
    show IsRangeIter _ _ (0 + ((0 : Nat) : Int) * 2) (((m : Nat) : Int) - ((0 : Nat) : Int)) 2
    rw [e1, e2]
    exact Heap.get?_push_size _ rfl
  · have e : b = (s.heap.push { cls := .type "range", data := .fields #[.int 0 t, .int ((2 * m : Nat) : Int) u, .int 2 v] }).objs.size := by simpa using hb
    subst e
    exact I1.fpOk (Nat.le_refl _) (I1.hok.fresh (Nat.le_refl _))
def iRng3 (ta : TA) : TI := fun σ H R => ta σ H fun vs H1 => ∃ m : Nat, vs = [.int 0, .int ((2 * m : Nat) : Int), .int 2] ∧ m ≤ 1000000 ∧ R (It2 m) H1
theorem pi_range3 {a b c : Expr} {ta : TA} {p pos : Pos} (hg : Gl X "range") (hm : X.mg "range" = none) (ha : PA X [a, b, c] ta) (hs : starEach [a, b, c] X.env = (false, eval a X.env) :: starEach [b, c] X.env := by rfl)
    (hs2 : ((backTo pos (starEach [b, c] X.env)).any (·.1)) = false := by rfl) : PI X tg (.Call (.Name "range" p) [a, b, c] [] pos) (iRng3 ta) := by
  intro pins s σ H R I h
  refine Call_ (ld_blt I hg hm boot_range (PyProof.Rows.callWith_type1 (thn (ha pos pins s σ H _ I h) fun us s1 ⟨vs, H1, I1, r1, q1⟩ => ?_) hs hs2))
  obtain ⟨m, e, q1, q⟩ := q1
  subst e
  cases r1 with
  | cons r rr =>
    cases rr with
    | cons r' rr =>
      cases rr with
      | cons r'' rr =>
        cases rr
        obtain ⟨t, rfl⟩ := r
        obtain ⟨t', rfl⟩ := r'
        obtain ⟨t'', rfl⟩ := r''
        exact call_range_3 (by decide) (range_it2 I1 q1 q) (Or.inl (PyProof.noPylong_small (by omega)))
end
theorem for_range2 {n : Nat} {g : TG} {tb : TS} {D : Ends} {σ : St} {H : Hp} (Pv : Nat → St → Hp → Prop) (h0 : Pv 0 σ H)
    (hs : ∀ i σ H, i < n → Pv i σ H → g (.int ((2 * i : Nat) : Int)) σ H fun σ2 H2 => tb { D with nx := Pv (i + 1), ct := Pv (i + 1), bk := D.nx } σ2 H2) (hd : ∀ σ H, Pv n σ H → D.nx σ H) :
    ∃ W : Nat → Nat → St → Hp → Prop, (∃ m, W 0 m σ H) ∧ ∀ i m σ H, W i m σ H →
      ((It2 n).stop i H ∧ D.nx σ H) ∨ ((It2 n).go i H ∧ ∃ N : St → Hp → Prop, (∀ σ' H', N σ' H' → ∃ m', m' < m ∧ W (i + 1) m' σ' H') ∧ ∀ x H', (It2 n).yld i H x H' → g x σ H' fun σ2 H2 => tb { D with nx := N, ct := N, bk := D.nx } σ2 H2) := by
  refine ⟨fun i m σ H => m = n - i ∧ i ≤ n ∧ Pv i σ H, ⟨n, by simp, Nat.zero_le _, h0⟩, ?_⟩
  rintro i m σ H ⟨rfl, hi, p⟩
  by_cases hlt : i < n
  · refine .inr ⟨hlt, Pv (i + 1), fun σ' H' p' => ⟨n - (i + 1), by omega, rfl, hlt, p'⟩, fun x H' y => ?_⟩
    obtain ⟨e, y⟩ := y
    subst e y
    exact hs i σ _ hlt p
  · have e : i = n := by omega
    subst e
    exact .inl ⟨Nat.le_refl _, hd _ _ p⟩
end L2
set_option Elab.async false
set_option linter.all false
set_option maxRecDepth 100000
set_option maxHeartbeats 4000000
namespace L2
open PySem PySem.Spec PyProof.Rows
def Itel (K : PySem.W.Frag) (a : Addr) : It :=
  ⟨fun i H => ∃ xs x, SqL K H a xs ∧ xs[i]? = some x, fun i H x H' => ∃ p v, H p = none ∧ (∀ ys, SqL K H a ys → ys[i]? = some v) ∧ x = .ref p ∧ H' = upd H p (.tup [.int (i : Int), v]), fun i H => ∃ xs, SqL K H a xs ∧ xs.length = i⟩
theorem ne_cls {h : Heap} {a b : Addr} {o u : Obj} (ha : h.get? a = some o) (hb : h.get? b = some u) (hc : o.cls ≠ u.cls) : a ≠ b := fun z => by
  subst z
  rw [ha] at hb
  exact hc (by rw [Option.some.inj hb])
theorem turn_enumL {P : Program} {w : World} {K : PySem.W.Frag} {elts : List Expr} {x1 : Nat} {tp : Pos} (e it a : Addr) (hei : e ≠ it) :
    Turn P w K (.Tuple elts x1 tp) (Itel K a) [e, it] e (fun i h => (∃ old, IsEnum h e it (i : Int) old) ∧ h.IsListIter it a i) where
  mem := by simp
  obj := fun i h st b hb => by
    obtain ⟨⟨old, he⟩, o, ho, hc, hd⟩ := st
    rcases List.mem_cons.mp hb with rfl | hb
    · exact ⟨_, he, fun v z => by cases z⟩
    · rw [List.mem_singleton.mp hb]
      exact ⟨o, ho, fun v z => by rw [hd] at z; cases z⟩
  keep := fun i h h' st k => by
    obtain ⟨⟨old, he⟩, hl⟩ := st
    exact ⟨⟨old, k e (by simp) _ he⟩, hl.at fun o e => k it (by simp) o e⟩
  item := by
    intro X hP hw hK hc i pins s σ H E I hf st hg
    subst hP hw hK
    obtain ⟨⟨old, he⟩, hst⟩ := st
    obtain ⟨xs, x, hq, hx⟩ := hg
    obtain ⟨its, rv, p, hz⟩ := I.list hq
    obtain ⟨u, hu, ru⟩ := rv.get hx
    have hit := p.isList
    obtain ⟨o1, ho1, hc1, hd1⟩ := id hit
    obtain ⟨o2, ho2, hc2, hd2⟩ := id hst
    have hai : a ≠ it := ne_cls ho1 ho2 (by rw [hc1, hc2]; decide)
    have hea : e ≠ a := ne_cls he ho1 (by rw [hc1]; show Value.type "enumerate" ≠ Value.type "list"; decide)
    have D := Draws.list (prog := X.prog) (w := X.w) (A := X.A.in1) (I.ok.hd hc) it a hai its.toArray
    have hel : e < s.heap.objs.size := Heap.lt_size he
    have hil : i < its.length := (List.getElem?_eq_some_iff.mp hu).1
    refine En.next_pair D he ⟨hst, hit⟩ (by simpa using hil) hei (by simp [hei, hea]) fun y h' tk hPx ho hs' hT hk => ?_
    have ey : u = y := by
      have h2 : its[i]? = some y := by simpa using hPx
      exact Option.some.inj (hu.symm.trans h2)
    subst ey
    refine ⟨_, rfl, ?_⟩
    refine wpAny_letOwnedTupleGo_enum ho fun h'' he' hs'' => ?_
    have hT2 : h''.get? s.heap.objs.size = some { cls := .type "tuple", data := .seq #[.int (i : Int) tk, u] } := (hs''.2 _ (Nat.ne_of_gt hel)).trans hT
    have hkk : ∀ b ob, b ∉ [e, it] → s.heap.get? b = some ob → h''.get? b = some ob := fun b ob hb q => by
      have h1 : b ≠ e := fun z => hb (by simp [z])
      have h2 : b ≠ it := fun z => hb (by simp [z])
      exact (hs''.2 b h1).trans (hk b ob h1 h2 q)
    have hfr := I.hok.fresh (Nat.le_refl s.heap.objs.size)
    refine ⟨.ref s.heap.objs.size, _, I.turnLaid (fp := [e, it]) (a := s.heap.objs.size) (o := .tup [.int (i : Int), x]) (h' := h'') (t' := tk + 1) hkk hf (Nat.le_refl _) ?_, rfl, ⟨_, x, hfr, fun ys hy => by rw [I.list_inj hy hq]; exact hx, rfl, rfl⟩, ⟨⟨u, ?_⟩, ?_⟩, fun b hb => ?_⟩
    · exact ⟨by show 2 ≤ sizeLine; decide, [.int (i : Int) tk, u], .cons ⟨_, rfl⟩ (.cons ru .nil), _, hT2, rfl, _, rfl⟩
    · rw [show ((i + 1 : Nat) : Int) = (i : Int) + 1 by omega]
      exact he'
    · exact (D.frame _ _ _ hs' fun b hb o q => (hs''.2 b (by
        rcases List.mem_cons.mp hb with z | hb
        · rw [z]; exact Ne.symm hei
        · rw [List.mem_singleton.mp hb]; exact Ne.symm hea)).trans q).1
    · rw [upd_ne]
      · exact (hf b hb).1
      · intro z
        subst z
        rcases List.mem_cons.mp hb with z | hb
        · exact absurd hel (by rw [← z]; exact Nat.lt_irrefl _)
        · exact absurd (Heap.lt_size ho2) (by rw [← List.mem_singleton.mp hb]; exact Nat.lt_irrefl _)
  done := by
    intro X hP hw hK hc i pins s σ H E I hf st hg
    subst hP hw hK
    obtain ⟨⟨old, he⟩, hst⟩ := st
    obtain ⟨xs, hq, hx⟩ := hg
    obtain ⟨its, rv, p, hz⟩ := I.list hq
    have hit := p.isList
    obtain ⟨o1, ho1, hc1, hd1⟩ := id hit
    obtain ⟨o2, ho2, hc2, hd2⟩ := id hst
    have hai : a ≠ it := ne_cls ho1 ho2 (by rw [hc1, hc2]; decide)
    have D := Draws.list (prog := X.prog) (w := X.w) (A := X.A.in1) (I.ok.hd hc) it a hai its.toArray
    have hsz : its.toArray.size = i := by rw [List.size_toArray, ← rv.length]; exact hx
    refine wpAny_pyNext_enum_endD D he (by rw [hsz]; exact ⟨hst, hit⟩) fun h' eb => ⟨rfl, I.turnedL (fp := [e, it]) (t' := s.toks) (fun b o hb q => eb b o (fun z => hb (by simp [z])) q) hf⟩
  self := fun A i s Q E st h => by
    obtain ⟨⟨old, he⟩, _⟩ := st
    have hT : s.TypeIs (.ref e) "enumerate" := ⟨_, he, rfl⟩
    refine wpAny_pyIter_slot hT F.slot_enumerate_iter (wpAny_call_entry F.slot_enumerate_iter hT F.entry_enumerate_iter ?_ (F.args_enumerate_iter_1 _))
    show wpAny _ _ (ret (.ref e)) _ _ s
    exact wpAny_pure ⟨_, rfl, "enumerate", _, hT, F.slot_enumerate_next.lookup, h⟩
section
variable {X : Cx}
def iEnumL (K : PySem.W.Frag) (ta : TA) : TI := fun σ H R => ta σ H fun vs H1 => ∃ a, vs = [.ref a] ∧ (∃ xs, SqL K H1 a xs) ∧ R (Itel K a) H1
theorem pi_enumL {a : Expr} {te : TE} {elts : List Expr} {x1 : Nat} {tp p pos : Pos} (hg : Gl X "enumerate") (hm : X.mg "enumerate" = none) (he : PE X a te) (hs : starEach [a] X.env = [(false, eval a X.env)] := by rfl) :
    PI X (.Tuple elts x1 tp) (.Call (.Name "enumerate" p) [a] [] pos) (iEnumL X.K (tCons te tNil)) := by
  intro pins s σ H R I h
  refine Call_ (ld_blt I hg hm boot_enumerate (PyProof.Rows.callWith_type1 (thn ((pa_cons he pa_nil hs) pos pins s σ H _ I h) fun us s1 ⟨vs, H1, I1, r1, q1⟩ => ?_) hs rfl))
  obtain ⟨l, rfl, ⟨xs, hq⟩, q⟩ := q1
  obtain ⟨u, rfl, ru⟩ := vals1 r1
  cases ru
  obtain ⟨its, rv, pl, hz⟩ := I1.list hq
  refine call_enumerate_list pl.isList fun h' he' hit hsz hk => ?_
  have I3 : Inv X pins σ H1 { s1 with heap := h' } := I1.kept (t' := s1.toks) hk
  have T := turn_enumL (P := X.prog) (w := X.w) (K := X.K) (elts := elts) (x1 := x1) (tp := tp) (s1.heap.objs.size + 1) s1.heap.objs.size l (Nat.succ_ne_self _)
  refine T.self _ 0 { s1 with heap := h' } _ _ ⟨⟨_, he'⟩, hit⟩ ⟨_, _, _, _, H1, rfl, I3, T, ⟨⟨_, he'⟩, hit⟩, fun b hb => ?_, q⟩
  rcases List.mem_cons.mp hb with e | hb
  · subst e
    exact I1.fpOk (Nat.le_succ _) (I1.hok.fresh (Nat.le_succ _))
  · rw [List.mem_singleton.mp hb]
    exact I1.fpOk (Nat.le_refl _) (I1.hok.fresh (Nat.le_refl _))
end
theorem for_enumL {K : PySem.W.Frag} {a : Addr} {xs : List V} {g : TG} {tb : TS} {D : Ends} {σ : St} {H : Hp} (Pv : Nat → St → Hp → Prop) (h0 : Pv 0 σ H) (hl : ∀ i σ H, i ≤ xs.length → Pv i σ H → SqL K H a xs)
    (hs : ∀ i v σ H p, xs[i]? = some v → H p = none → Pv i σ H → g (.ref p) σ (upd H p (.tup [.int (i : Int), v])) fun σ2 H2 => tb { D with nx := Pv (i + 1), ct := Pv (i + 1), bk := D.nx } σ2 H2) (hd : ∀ σ H, Pv xs.length σ H → D.nx σ H) :
    ∃ W : Nat → Nat → St → Hp → Prop, (∃ m, W 0 m σ H) ∧ ∀ i m σ H, W i m σ H →
      ((Itel K a).stop i H ∧ D.nx σ H) ∨ ((Itel K a).go i H ∧ ∃ N : St → Hp → Prop, (∀ σ' H', N σ' H' → ∃ m', m' < m ∧ W (i + 1) m' σ' H') ∧ ∀ x H', (Itel K a).yld i H x H' → g x σ H' fun σ2 H2 => tb { D with nx := N, ct := N, bk := D.nx } σ2 H2) := by
  refine ⟨fun i m σ H => m = xs.length - i ∧ i ≤ xs.length ∧ Pv i σ H, ⟨xs.length, by simp, Nat.zero_le _, h0⟩, ?_⟩
  rintro i m σ H ⟨rfl, hi, p⟩
  have q := hl i σ H hi p
  by_cases hlt : i < xs.length
  · refine .inr ⟨⟨xs, _, q, List.getElem?_eq_getElem hlt⟩, Pv (i + 1), fun σ' H' p' => ⟨xs.length - (i + 1), by omega, rfl, hlt, p'⟩, fun x H' y => ?_⟩
    obtain ⟨r, v, hr, hv, rfl, rfl⟩ := y
    exact hs i v σ H r (hv xs q) hr p
  · have e : i = xs.length := by omega
    subst e
    exact .inl ⟨⟨xs, q, rfl⟩, hd σ H p⟩
end L2
set_option Elab.async false
set_option linter.all false
set_option maxRecDepth 100000
set_option maxHeartbeats 4000000
namespace L2
open PySem PySem.Spec PyProof.Rows
def Itz (K : PySem.W.Frag) (a b : Addr) : It :=
  ⟨fun i H => ∃ xs x ys y, SqL K H a xs ∧ xs[i]? = some x ∧ SqL K H b ys ∧ ys[i]? = some y,
   fun i H x H' => ∃ p v u, H p = none ∧ (∀ ys, SqL K H a ys → ys[i]? = some v) ∧ (∀ ys, SqL K H b ys → ys[i]? = some u) ∧ x = .ref p ∧ H' = upd H p (.tup [v, u]),
   fun i H => ∃ xs ys, SqL K H a xs ∧ SqL K H b ys ∧ (xs.length ≤ i ∨ ys.length ≤ i)⟩
def ZipSt (z TI TO i1 i2 l1 l2 : Addr) (i : Nat) (h : Heap) : Prop := IsZip h z TI TO .none ∧ IsPair h TI (.ref i1) (.ref i2) ∧ (∃ a b, IsPair h TO a b) ∧ h.IsListIter i1 l1 i ∧ h.IsListIter i2 l2 i
theorem zip_apart {h : Heap} {n l1 l2 : Addr} {o1 o2 : Obj} {i : Nat} (hl1 : h.get? l1 = some o1) (hc1 : o1.cls = .type "list") (hl2 : h.get? l2 = some o2) (hc2 : o2.cls = .type "list") (st : ZipSt (n + 4) (n + 2) (n + 3) n (n + 1) l1 l2 i h) : ZipApart (n + 4) (n + 2) (n + 3) n (n + 1) l1 l2 := by
  obtain ⟨hz, hTI, ⟨a, b, hTO⟩, ⟨p1, g1, k1, _⟩, ⟨p2, g2, k2, _⟩⟩ := st
  exact ⟨(fun zz => by have zz : @Eq Nat _ _ := zz; omega), (fun zz => by have zz : @Eq Nat _ _ := zz; omega), (fun zz => by have zz : @Eq Nat _ _ := zz; omega), (fun zz => by have zz : @Eq Nat _ _ := zz; omega), (fun zz => by have zz : @Eq Nat _ _ := zz; omega), (fun zz => by have zz : @Eq Nat _ _ := zz; omega), (fun zz => by have zz : @Eq Nat _ _ := zz; omega), (fun zz => by have zz : @Eq Nat _ _ := zz; omega), (fun zz => by have zz : @Eq Nat _ _ := zz; omega), (fun zz => by have zz : @Eq Nat _ _ := zz; omega),
    ne_cls hl1 hz (by rw [hc1]; show Value.type "list" ≠ Value.type "zip"; decide), ne_cls hl1 hTO (by rw [hc1]; show Value.type "list" ≠ Value.type "tuple"; decide), ne_cls hl1 g1 (by rw [hc1, k1]; decide), ne_cls hl1 g2 (by rw [hc1, k2]; decide),
    ne_cls hl2 hz (by rw [hc2]; show Value.type "list" ≠ Value.type "zip"; decide), ne_cls hl2 hTO (by rw [hc2]; show Value.type "list" ≠ Value.type "tuple"; decide), ne_cls hl2 g1 (by rw [hc2, k1]; decide), ne_cls hl2 g2 (by rw [hc2, k2]; decide)⟩
theorem turn_zip {P : Program} {w : World} {K : PySem.W.Frag} {elts : List Expr} {x1 : Nat} {tp : Pos} (n a b : Addr) :
    Turn P w K (.Tuple elts x1 tp) (Itz K a b) [n + 4, n + 2, n + 3, n, n + 1] (n + 4) (ZipSt (n + 4) (n + 2) (n + 3) n (n + 1) a b) where
  mem := by simp
  obj := fun i h st c hc => by
    obtain ⟨hz, hTI, ⟨ta, tb, hTO⟩, ⟨p1, g1, k1, d1⟩, ⟨p2, g2, k2, d2⟩⟩ := st
    simp only [List.mem_cons, List.not_mem_nil, or_false] at hc
    rcases hc with rfl | rfl | rfl | rfl | rfl
    · exact ⟨_, hz, fun v z => by cases z⟩
    · exact ⟨_, hTI, fun v z => by cases z⟩
    · exact ⟨_, hTO, fun v z => by cases z⟩
    · exact ⟨_, g1, fun v z => by rw [d1] at z; cases z⟩
    · exact ⟨_, g2, fun v z => by rw [d2] at z; cases z⟩
  keep := fun i h h' st k => by
    obtain ⟨hz, hTI, ⟨ta, tb, hTO⟩, h1, h2⟩ := st
    exact ⟨k _ (by simp) _ hz, k _ (by simp) _ hTI, ⟨ta, tb, k _ (by simp) _ hTO⟩, h1.at fun o e => k _ (by simp) o e, h2.at fun o e => k _ (by simp) o e⟩
  item := by
    intro X hP hw hK hc i pins s σ H E I hf st hg
    subst hP hw hK
    obtain ⟨xs, x, ys, y, hq, hx, hq2, hy⟩ := hg
    obtain ⟨its, rv, p, hz1⟩ := I.list hq
    obtain ⟨u, hu, ru⟩ := rv.get hx
    obtain ⟨its2, rv2, p2, hz2⟩ := I.list hq2
    obtain ⟨u2, hu2, ru2⟩ := rv2.get hy
    obtain ⟨o1, ho1, hc1, hd1⟩ := id p.isList
    obtain ⟨o2, ho2, hc2, hd2⟩ := id p2.isList
    have D := zip_apart ho1 hc1 ho2 hc2 st
    obtain ⟨hz, hTI, ⟨ta, tb, hTO⟩, h1, h2⟩ := st
    refine wpAny_pyNext_zip_item D hz hTI hTO h1 h2 p.isList p2.isList (x := u) (y := u2) (by simpa using hu) (by simpa using hu2) fun h' hz' hTO' h1' h2' hT' hsz hk => ?_
    refine ⟨_, rfl, ?_⟩
    refine wpAny_letOwnedTupleGo_zip hz' fun h'' hz'' hs'' => ?_
    have hnz : n + 4 < s.heap.objs.size := Heap.lt_size hz
    have hT2 : h''.get? s.heap.objs.size = some { cls := .type "tuple", data := .seq #[u, u2] } := (hs''.2 _ (Nat.ne_of_gt hnz)).trans hT'
    have hkk : ∀ b ob, b ∉ [n + 4, n + 2, n + 3, n, n + 1] → s.heap.get? b = some ob → h''.get? b = some ob := fun b ob hb q => by
      simp only [List.mem_cons, List.not_mem_nil, or_false, not_or] at hb
      exact (hs''.2 b hb.1).trans (hk b ob hb.1 hb.2.2.1 hb.2.2.2.1 hb.2.2.2.2 q)
    have hfr := I.hok.fresh (Nat.le_refl s.heap.objs.size)
    have hTI2 : h''.get? (n + 2) = some { cls := .type "tuple", data := .seq #[.ref n, .ref (n + 1)] } := (hs''.2 _ (fun zz => by have zz : @Eq Nat _ _ := zz; omega)).trans (hk _ _ (fun zz => by have zz : @Eq Nat _ _ := zz; omega) (fun zz => by have zz : @Eq Nat _ _ := zz; omega) (fun zz => by have zz : @Eq Nat _ _ := zz; omega) (fun zz => by have zz : @Eq Nat _ _ := zz; omega) hTI)
    refine ⟨.ref s.heap.objs.size, _, I.turnLaid (fp := [n + 4, n + 2, n + 3, n, n + 1]) (a := s.heap.objs.size) (o := .tup [x, y]) (h' := h'') (t' := s.toks) hkk hf (Nat.le_refl _) ?_, rfl, ⟨_, x, y, hfr, fun ys hy => by rw [I.list_inj hy hq]; exact hx, fun zs hzs => by rw [I.list_inj hzs hq2]; exact hy, rfl, rfl⟩, ⟨hz'', hTI2, ⟨_, _, (hs''.2 _ (fun zz => by have zz : @Eq Nat _ _ := zz; omega)).trans hTO'⟩, h1'.at fun o e => (hs''.2 _ (fun zz => by have zz : @Eq Nat _ _ := zz; omega)).trans e, h2'.at fun o e => (hs''.2 _ (fun zz => by have zz : @Eq Nat _ _ := zz; omega)).trans e⟩, fun c hc => ?_⟩
    · exact ⟨by show 2 ≤ sizeLine; decide, [u, u2], .cons ru (.cons ru2 .nil), _, hT2, rfl, _, rfl⟩
    · rw [upd_ne]
      · exact (hf c hc).1
      · intro z
        subst z
        simp only [List.mem_cons, List.not_mem_nil, or_false] at hc
        have key : ∀ a, a ≤ n + 4 → s.heap.objs.size ≠ a := fun a ha z => absurd (Nat.lt_of_le_of_lt ha hnz) (by rw [z]; exact Nat.lt_irrefl _)
        rcases hc with hc | hc | hc | hc | hc
        · exact key _ (Nat.le_refl _) hc
        · exact key _ (Nat.add_le_add_left (by decide) n) hc
        · exact key _ (Nat.add_le_add_left (by decide) n) hc
        · exact key _ (Nat.le_add_right _ _) hc
        · exact key _ (Nat.add_le_add_left (by decide) n) hc
  done := by
    intro X hP hw hK hc i pins s σ H E I hf st hg
    subst hP hw hK
    obtain ⟨xs, ys, hq, hq2, hend⟩ := hg
    obtain ⟨its, rv, p, hz1⟩ := I.list hq
    obtain ⟨its2, rv2, p2, hz2⟩ := I.list hq2
    obtain ⟨o1, ho1, hc1, hd1⟩ := id p.isList
    obtain ⟨o2, ho2, hc2, hd2⟩ := id p2.isList
    have D := zip_apart ho1 hc1 ho2 hc2 st
    obtain ⟨hz, hTI, ⟨ta, tb, hTO⟩, h1, h2⟩ := st
    have hl1 := rv.length
    have hl2 := rv2.length
    refine wpAny_pyNext_zip_end (I.ok.hd hc) D hz hTI hTO h1 h2 p.isList p2.isList ?_ fun h' hk => ⟨rfl, I.turnedL (fp := [n + 4, n + 2, n + 3, n, n + 1]) (t' := s.toks) (fun b o hb q => ?_) hf⟩
    · rcases hend with h | h
      · exact .inl (by rw [List.getElem?_toArray]; exact List.getElem?_eq_none (by omega))
      · exact .inr (by rw [List.getElem?_toArray]; exact List.getElem?_eq_none (by omega))
    · simp only [List.mem_cons, List.not_mem_nil, or_false, not_or] at hb
      exact hk b o hb.1 hb.2.2.1 hb.2.2.2.1 hb.2.2.2.2 q
  self := fun A i s Q E st h => wpAny_pyIter_zip st.1 h
section
variable {X : Cx}
def iZip (K : PySem.W.Frag) (ta : TA) : TI := fun σ H R => ta σ H fun vs H1 => ∃ a b, vs = [.ref a, .ref b] ∧ (∃ xs, SqL K H1 a xs) ∧ (∃ xs, SqL K H1 b xs) ∧ R (Itz K a b) H1
theorem pi_zip {a b : Expr} {ta : TA} {elts : List Expr} {x1 : Nat} {tp p pos : Pos} (hg : Gl X "zip") (hm : X.mg "zip" = none) (ha : PA X [a, b] ta) (hs : starEach [a, b] X.env = (false, eval a X.env) :: starEach [b] X.env := by rfl)
    (hs2 : ((backTo pos (starEach [b] X.env)).any (·.1)) = false := by rfl) : PI X (.Tuple elts x1 tp) (.Call (.Name "zip" p) [a, b] [] pos) (iZip X.K ta) := by
  intro pins s σ H R I h
  refine Call_ (ld_blt I hg hm boot_zip (PyProof.Rows.callWith_type1 (thn (ha pos pins s σ H _ I h) fun us s1 ⟨vs, H1, I1, r1, q1⟩ => ?_) hs hs2))
  obtain ⟨l1, l2, e, ⟨xs, hq⟩, ⟨ys, hq2⟩, q⟩ := q1
  subst e
  cases r1 with
  | cons r rr =>
    cases rr with
    | cons r' rr =>
      cases rr
      cases r
      cases r'
      obtain ⟨its, rv, pl, hz⟩ := I1.list hq
      obtain ⟨its2, rv2, pl2, hz2⟩ := I1.list hq2
      refine call_zip_2 pl.isList pl2.isList fun h' hz' hTI hTO hi1 hi2 hsz hk => ?_
      have I3 : Inv X pins σ H1 { s1 with heap := h' } := I1.kept (t' := s1.toks) hk
      have T := turn_zip (P := X.prog) (w := X.w) (K := X.K) (elts := elts) (x1 := x1) (tp := tp) s1.heap.objs.size l1 l2
      have st : ZipSt (s1.heap.objs.size + 4) (s1.heap.objs.size + 2) (s1.heap.objs.size + 3) s1.heap.objs.size (s1.heap.objs.size + 1) l1 l2 0 h' := ⟨hz', hTI, ⟨_, _, hTO⟩, hi1, hi2⟩
      refine T.self _ 0 { s1 with heap := h' } _ _ st ⟨_, _, _, _, H1, rfl, I3, T, st, fun c hc => ?_, q⟩
      simp only [List.mem_cons, List.not_mem_nil, or_false] at hc
      have hle : s1.heap.objs.size ≤ c := by rcases hc with rfl | rfl | rfl | rfl | rfl <;> first | exact Nat.le_add_right _ _ | exact Nat.le_refl _
      exact I1.fpOk hle (I1.hok.fresh hle)
end
theorem for_zip {K : PySem.W.Frag} {a b : Addr} {xs ys : List V} {g : TG} {tb : TS} {D : Ends} {σ : St} {H : Hp} (Pv : Nat → St → Hp → Prop) (hxy : xs.length = ys.length) (h0 : Pv 0 σ H) (hl : ∀ i σ H, i ≤ xs.length → Pv i σ H → SqL K H a xs ∧ SqL K H b ys)
    (hs : ∀ i v u σ H p, xs[i]? = some v → ys[i]? = some u → H p = none → Pv i σ H → g (.ref p) σ (upd H p (.tup [v, u])) fun σ2 H2 => tb { D with nx := Pv (i + 1), ct := Pv (i + 1), bk := D.nx } σ2 H2) (hd : ∀ σ H, Pv xs.length σ H → D.nx σ H) :
    ∃ W : Nat → Nat → St → Hp → Prop, (∃ m, W 0 m σ H) ∧ ∀ i m σ H, W i m σ H →
      ((Itz K a b).stop i H ∧ D.nx σ H) ∨ ((Itz K a b).go i H ∧ ∃ N : St → Hp → Prop, (∀ σ' H', N σ' H' → ∃ m', m' < m ∧ W (i + 1) m' σ' H') ∧ ∀ x H', (Itz K a b).yld i H x H' → g x σ H' fun σ2 H2 => tb { D with nx := N, ct := N, bk := D.nx } σ2 H2) := by
  refine ⟨fun i m σ H => m = xs.length - i ∧ i ≤ xs.length ∧ Pv i σ H, ⟨xs.length, by simp, Nat.zero_le _, h0⟩, ?_⟩
  rintro i m σ H ⟨rfl, hi, p⟩
  obtain ⟨q, q2⟩ := hl i σ H hi p
  by_cases hlt : i < xs.length
  · refine .inr ⟨⟨xs, _, ys, _, q, List.getElem?_eq_getElem hlt, q2, List.getElem?_eq_getElem (show i < ys.length by omega)⟩, Pv (i + 1), fun σ' H' p' => ⟨xs.length - (i + 1), by omega, rfl, hlt, p'⟩, fun x H' y => ?_⟩
    obtain ⟨r, v, u, hr, hv, hu, rfl, rfl⟩ := y
    exact hs i v u σ H r (hv xs q) (hu ys q2) hr p
  · have e : i = xs.length := by omega
    subst e
    exact .inl ⟨⟨xs, ys, q, q2, .inl (Nat.le_refl _)⟩, hd σ H p⟩
end L2
set_option Elab.async false
set_option linter.all false
set_option maxRecDepth 100000
set_option maxHeartbeats 4000000
namespace L2
open PySem PySem.Spec PyProof.Rows
namespace En
open AutoSeq1 (wpAny_loadPart')
theorem new_startL (l : Addr) (items : Array Value) (n : Nat) (dct : Option Addr) (sl : Array (Option Value)) (k : Int) (u : Tok) (hk : 0 ≤ k) (hk2 : k < 1000) :
    Meets (Builtin.«enumerate.__new__» ⟨[.type "enumerate", .ref l], [("start", .int k u)]⟩) (fun _ R s => s.heap.get? l = some { cls := .type "list", dict := dct, data := .seq items n, slots := sl } ∧
      R (.ok (.ret (.ref (s.heap.push { cls := .type "list_iterator", data := .fields #[.ref l, .int 0 0] }).objs.size)))
        { s with heap := (s.heap.push { cls := .type "list_iterator", data := .fields #[.ref l, .int 0 0] }).push { cls := .type "enumerate", data := .fields #[.none, .bool false, .ref s.heap.objs.size, rawInt k, .none, .none] } }) :=
  .of_wp fun prog w A R s h => by
    obtain ⟨hp, g, d, tk, os⟩ := s
    obtain ⟨hl, h⟩ := h
    have hsub := sub_enumerate
    have f1 := AutoSeq1.idx_int
    have hL : Heap.IsList (Shared.heap ⟨hp, g, d, tk, os⟩) l items := ⟨_, hl, rfl, n, rfl⟩
    have hfit : (!Builtin.SmallTypes.fitsIndex k) = false := by
      unfold Builtin.SmallTypes.fitsIndex
      simp
      omega
    wp_walk using wpAny_loadPart' hl
    refine wpAny_stack_any fun st => wpAny_pure ?_
    split
    · rename_i c _ _ _ _ _
      cases (c == Value.type "enumerate")
      · wp_walk using wpAny_loadPart' hl, wpAny_pyIter_list hL
        exact ⟨_, rfl, h⟩
      · wp_walk using wpAny_loadPart' hl, wpAny_pyIter_list hL
        exact ⟨_, rfl, h⟩
    · wp_walk using wpAny_loadPart' hl, wpAny_pyIter_list hL
      exact ⟨_, rfl, h⟩
section
variable {prog : Program} {w : World} {A : Around} {E : Value → Shared → Prop} {s : Shared}
theorem call_startL {l : Addr} {items : Array Value} {k : Int} {u : Tok} {Q : Value → Shared → Prop} (hL : s.heap.IsList l items) (hk : 0 ≤ k) (hk2 : k < 1000)
    (h : ∀ h', IsEnum h' (s.heap.objs.size + 1) s.heap.objs.size k .none → h'.IsListIter s.heap.objs.size l 0 → (∀ b o, s.heap.get? b = some o → h'.get? b = some o) → Q (.ref (s.heap.objs.size + 1)) { s with heap := h' }) :
    wpAny (model prog w) A (call (.type "enumerate") [.ref l] [("start", .int k u)]) Q E s := by
  obtain ⟨⟨c0, dct, dt, sl⟩, hl, hc0, n, hd⟩ := hL
  replace hc0 : c0 = .type "list" := hc0
  replace hd : dt = .seq items n := hd
  subst hc0 hd
  have ft := F.called_enumerate
  obtain ⟨c, tl, hmro⟩ := ft.mro
  have hmade := ft.made
  have hsub := ft.sub
  have hct := ct_kw (.ref l) (.int k u)
  have hcn := cn_kw (.ref l) (.int k u)
  refine wpAny_call (codeAny_of_tree ?_)
  show wpAny _ _ (callAny (.type "enumerate") _) _ _ _
  refine wpAny_pure ⟨Code.quiet_builtin _ (by decide +kernel), codeAny_builtin F.entry_type_call ?_⟩
  rw [Around.under_plain (weight_type_call_type "enumerate" [.ref l] [("start", .int k u)]) (units_type_call_type "enumerate" [.ref l] [("start", .int k u)])]
  have h1 := ft.notType
  have h2 := ft.canCreate
  repeat (any_goals (first | assumption | wp_step))
  refine codeAny_mono (codeAny_call_builtin ft.plain F.entry_enumerate_new (wpAny_of_eq hcn (new_startL l items n dct sl k u hk hk2 prog w A.in1 (wants (fun obj s₁ => s₁.TypeIs obj "enumerate" ∧ Q obj s₁) E) s ⟨hl, ?_⟩))) fun r s₁ hr => ?_
  · have hz : (s.heap.push { cls := .type "list_iterator", data := .fields #[.ref l, .int 0 0] }).objs.size = s.heap.objs.size + 1 := Heap.size_push ..
    show _ ∧ _
    rw [hz]
    have he : IsEnum ((s.heap.push { cls := .type "list_iterator", data := .fields #[.ref l, .int 0 0] }).push { cls := .type "enumerate", data := .fields #[.none, .bool false, .ref s.heap.objs.size, rawInt k, .none, .none] }) (s.heap.objs.size + 1) s.heap.objs.size k .none := by
      have q := Heap.get?_push_size (s.heap.push { cls := .type "list_iterator", data := .fields #[.ref l, .int 0 0] }) (o := { cls := .type "enumerate", data := .fields #[.none, .bool false, .ref s.heap.objs.size, rawInt k, .none, .none] }) rfl
      rw [hz] at q
      exact q
    exact ⟨⟨_, he, rfl⟩, h _ he ⟨_, Heap.get?_push_of_some _ (Heap.get?_push_size _ rfl), rfl, rfl⟩ fun b o y => Heap.get?_push_of_some _ (Heap.get?_push_of_some _ y)⟩
  cases r with
  | error e => exact hr
  | ok fl =>
    cases fl with
    | ret obj =>
      obtain ⟨hT, hq⟩ := hr
      have hli := ft.init.lookup
      have hbi := ft.init.bind obj
      have hok := ok_kw obj (.ref l) (.int k u)
      have hsi : (fun (_ : Around) (R : Result → Shared → Prop) (s : Shared) => s.TypeIs obj "enumerate" ∧ R (.ok (.ret .none)) s) A.in1 (wants (fun r s₂ => r = .none ∧ Q obj s₂) E) s₁ := ⟨hT, rfl, hq⟩
      have gi := init_kw (T := "enumerate") (self := obj) (a := .ref l) (kw := [("start", .int k u)]) ft.init.lookup ft.made (by decide)
      repeat (any_goals (first | assumption | wp_step))
      refine codeAny_mono (codeAny_call_builtin ft.init.plain F.entry_object_init (ft.init.check _ _ _ _ _ _ _ _ hT hok (gi prog w A.in1 _ s₁ hsi))) fun r₂ s₂ hr₂ => ?_
      cases r₂ with
      | error e => exact hr₂
      | ok fl₂ =>
        cases fl₂ with
        | ret r =>
          obtain ⟨rfl, hq⟩ := hr₂
          repeat (any_goals (first | assumption | wp_step))
        | _ => exact hr₂.elim
    | _ => exact hr.elim
end
end En
def Itels (K : PySem.W.Frag) (a : Addr) (n : Int) : It :=
  ⟨fun i H => ∃ xs x, SqL K H a xs ∧ xs[i]? = some x, fun i H x H' => ∃ p v, H p = none ∧ (∀ ys, SqL K H a ys → ys[i]? = some v) ∧ x = .ref p ∧ H' = upd H p (.tup [.int (n + (i : Int)), v]), fun i H => ∃ xs, SqL K H a xs ∧ xs.length = i⟩
theorem turn_enumLS {P : Program} {w : World} {K : PySem.W.Frag} {elts : List Expr} {x1 : Nat} {tp : Pos} (e it a : Addr) (n : Int) (hei : e ≠ it) :
    Turn P w K (.Tuple elts x1 tp) (Itels K a n) [e, it] e (fun i h => (∃ old, IsEnum h e it (n + (i : Int)) old) ∧ h.IsListIter it a i) where
  mem := by simp
  obj := fun i h st b hb => by
    obtain ⟨⟨old, he⟩, o, ho, hc, hd⟩ := st
    rcases List.mem_cons.mp hb with rfl | hb
    · exact ⟨_, he, fun v z => by cases z⟩
    · rw [List.mem_singleton.mp hb]
      exact ⟨o, ho, fun v z => by rw [hd] at z; cases z⟩
  keep := fun i h h' st k => by
    obtain ⟨⟨old, he⟩, hl⟩ := st
    exact ⟨⟨old, k e (by simp) _ he⟩, hl.at fun o e => k it (by simp) o e⟩
  item := by
    intro X hP hw hK hc i pins s σ H E I hf st hg
    subst hP hw hK
    obtain ⟨⟨old, he⟩, hst⟩ := st
    obtain ⟨xs, x, hq, hx⟩ := hg
    obtain ⟨its, rv, p, hz⟩ := I.list hq
    obtain ⟨u, hu, ru⟩ := rv.get hx
    have hit := p.isList
    obtain ⟨o1, ho1, hc1, hd1⟩ := id hit
    obtain ⟨o2, ho2, hc2, hd2⟩ := id hst
    have hai : a ≠ it := ne_cls ho1 ho2 (by rw [hc1, hc2]; decide)
    have hea : e ≠ a := ne_cls he ho1 (by rw [hc1]; show Value.type "enumerate" ≠ Value.type "list"; decide)
    have D := Draws.list (prog := X.prog) (w := X.w) (A := X.A.in1) (I.ok.hd hc) it a hai its.toArray
    have hel : e < s.heap.objs.size := Heap.lt_size he
    have hil : i < its.length := (List.getElem?_eq_some_iff.mp hu).1
    refine En.next_pair D he ⟨hst, hit⟩ (by simpa using hil) hei (by simp [hei, hea]) fun y h' tk hPx ho hs' hT hk => ?_
    have ey : u = y := by
      have h2 : its[i]? = some y := by simpa using hPx
      exact Option.some.inj (hu.symm.trans h2)
    subst ey
    refine ⟨_, rfl, ?_⟩
    refine wpAny_letOwnedTupleGo_enum ho fun h'' he' hs'' => ?_
    have hT2 : h''.get? s.heap.objs.size = some { cls := .type "tuple", data := .seq #[.int (n + (i : Int)) tk, u] } := (hs''.2 _ (Nat.ne_of_gt hel)).trans hT
    have hkk : ∀ b ob, b ∉ [e, it] → s.heap.get? b = some ob → h''.get? b = some ob := fun b ob hb q => by
      have h1 : b ≠ e := fun z => hb (by simp [z])
      have h2 : b ≠ it := fun z => hb (by simp [z])
      exact (hs''.2 b h1).trans (hk b ob h1 h2 q)
    have hfr := I.hok.fresh (Nat.le_refl s.heap.objs.size)
    refine ⟨.ref s.heap.objs.size, _, I.turnLaid (fp := [e, it]) (a := s.heap.objs.size) (o := .tup [.int (n + (i : Int)), x]) (h' := h'') (t' := tk + 1) hkk hf (Nat.le_refl _) ?_, rfl, ⟨_, x, hfr, fun ys hy => by rw [I.list_inj hy hq]; exact hx, rfl, rfl⟩, ⟨⟨u, ?_⟩, ?_⟩, fun b hb => ?_⟩
    · exact ⟨by show 2 ≤ sizeLine; decide, [.int (n + (i : Int)) tk, u], .cons ⟨_, rfl⟩ (.cons ru .nil), _, hT2, rfl, _, rfl⟩
    · rw [show n + ((i + 1 : Nat) : Int) = n + (i : Int) + 1 by omega]
      exact he'
    · exact (D.frame _ _ _ hs' fun b hb o q => (hs''.2 b (by
        rcases List.mem_cons.mp hb with z | hb
        · rw [z]; exact Ne.symm hei
        · rw [List.mem_singleton.mp hb]; exact Ne.symm hea)).trans q).1
    · rw [upd_ne]
      · exact (hf b hb).1
      · intro z
        subst z
        rcases List.mem_cons.mp hb with z | hb
        · exact absurd hel (by rw [← z]; exact Nat.lt_irrefl _)
        · exact absurd (Heap.lt_size ho2) (by rw [← List.mem_singleton.mp hb]; exact Nat.lt_irrefl _)
  done := by
    intro X hP hw hK hc i pins s σ H E I hf st hg
    subst hP hw hK
    obtain ⟨⟨old, he⟩, hst⟩ := st
    obtain ⟨xs, hq, hx⟩ := hg
    obtain ⟨its, rv, p, hz⟩ := I.list hq
    have hit := p.isList
    obtain ⟨o1, ho1, hc1, hd1⟩ := id hit
    obtain ⟨o2, ho2, hc2, hd2⟩ := id hst
    have hai : a ≠ it := ne_cls ho1 ho2 (by rw [hc1, hc2]; decide)
    have D := Draws.list (prog := X.prog) (w := X.w) (A := X.A.in1) (I.ok.hd hc) it a hai its.toArray
    have hsz : its.toArray.size = i := by rw [List.size_toArray, ← rv.length]; exact hx
    refine wpAny_pyNext_enum_endD D he (by rw [hsz]; exact ⟨hst, hit⟩) fun h' eb => ⟨rfl, I.turnedL (fp := [e, it]) (t' := s.toks) (fun b o hb q => eb b o (fun z => hb (by simp [z])) q) hf⟩
  self := fun A i s Q E st h => by
    obtain ⟨⟨old, he⟩, _⟩ := st
    have hT : s.TypeIs (.ref e) "enumerate" := ⟨_, he, rfl⟩
    refine wpAny_pyIter_slot hT F.slot_enumerate_iter (wpAny_call_entry F.slot_enumerate_iter hT F.entry_enumerate_iter ?_ (F.args_enumerate_iter_1 _))
    show wpAny _ _ (ret (.ref e)) _ _ s
    exact wpAny_pure ⟨_, rfl, "enumerate", _, hT, F.slot_enumerate_next.lookup, h⟩
section
variable {X : Cx}
def iEnumLS (K : PySem.W.Frag) (n : Int) (ta : TA) : TI := fun σ H R => ta σ H fun vs H1 => ∃ a, vs = [.ref a] ∧ 0 ≤ n ∧ n < 1000 ∧ (∃ xs, SqL K H1 a xs) ∧ R (Itels K a n) H1
theorem pi_enumLS {a : Expr} {te : TE} {elts : List Expr} {x1 : Nat} {tp p pos kp kq : Pos} {n : Int} {j : Nat} (hg : Gl X "enumerate") (hm : X.mg "enumerate" = none) (he : PE X a te)
    (hs : starEach [a] X.env = (false, eval a X.env) :: starEach [] X.env := by rfl)
    (hpl : ((backTo pos (starEach [a] X.env)).any (·.1) || (backToKw pos (keywordEach [⟨some "start", .Constant (.int n) j kq, kp⟩] X.env)).any (·.1.isNone)) = false := by rfl) :
    PI X (.Tuple elts x1 tp) (.Call (.Name "enumerate" p) [a] [⟨some "start", .Constant (.int n) j kq, kp⟩] pos) (iEnumLS X.K n (tCons te tNil)) := by
  intro pins s σ H R I h
  refine wpAny_Call_Name_kw (ld_blt I hg hm boot_enumerate ?_)
  refine PySem.W.callWith_of (P := fun _ => True) hpl (fun _ _ => ⟨.machine, .inr (.inl rfl), fun _ _ _ _ _ q => wpAny_pure q⟩) (evalArgs_kw2 rfl (thn ((pa_cons he pa_nil hs) pos pins s σ H _ I h) fun us s1 ⟨vs, H1, I1, r, q⟩ => ?_) hs)
  refine thn ((pk_cons pe_int pk_nil : PK X [⟨some "start", .Constant (.int n) j kq, kp⟩] _) pos pins s1 σ H1 (fun zs H2 => zs = [.int n] ∧ H2 = H1) I1 ⟨rfl, rfl⟩) fun ws s2 ⟨zs, H2, I2, rz, e1, e2⟩ => ⟨True.intro, ?_⟩
  subst e1 e2
  obtain ⟨l, rfl, hn1, hn2, ⟨xs, hq⟩, q⟩ := q
  obtain ⟨u, rfl, ru⟩ := vals1 r
  cases ru
  obtain ⟨u2, rfl, t2, rfl⟩ := vals1 rz
  obtain ⟨its, rv, pl, hz⟩ := I2.list hq
  show wpAny _ _ (call (.type "enumerate") [.ref l] [("start", .int n t2)]) _ _ s2
  refine En.call_startL pl.isList hn1 hn2 fun h' he' hit hk => ?_
  have I3 : Inv X pins σ H2 { s2 with heap := h' } := I2.kept (t' := s2.toks) hk
  have hst : (∃ old, IsEnum h' (s2.heap.objs.size + 1) s2.heap.objs.size (n + ((0 : Nat) : Int)) old) ∧ h'.IsListIter s2.heap.objs.size l 0 := ⟨⟨_, by rw [show n + ((0 : Nat) : Int) = n by omega]; exact he'⟩, hit⟩
  have T := turn_enumLS (P := X.prog) (w := X.w) (K := X.K) (elts := elts) (x1 := x1) (tp := tp) (s2.heap.objs.size + 1) s2.heap.objs.size l n (Nat.succ_ne_self _)
  refine T.self _ 0 { s2 with heap := h' } _ _ hst ⟨_, _, _, _, H2, rfl, I3, T, hst, fun b hb => ?_, q⟩
  rcases List.mem_cons.mp hb with e | hb
  · subst e
    exact I2.fpOk (Nat.le_succ _) (I2.hok.fresh (Nat.le_succ _))
  · rw [List.mem_singleton.mp hb]
    exact I2.fpOk (Nat.le_refl _) (I2.hok.fresh (Nat.le_refl _))
end
theorem for_enumLS {K : PySem.W.Frag} {a : Addr} {xs : List V} {n : Int} {g : TG} {tb : TS} {D : Ends} {σ : St} {H : Hp} (Pv : Nat → St → Hp → Prop) (h0 : Pv 0 σ H) (hl : ∀ i σ H, i ≤ xs.length → Pv i σ H → SqL K H a xs)
    (hs : ∀ i v σ H p, xs[i]? = some v → H p = none → Pv i σ H → g (.ref p) σ (upd H p (.tup [.int (n + (i : Int)), v])) fun σ2 H2 => tb { D with nx := Pv (i + 1), ct := Pv (i + 1), bk := D.nx } σ2 H2) (hd : ∀ σ H, Pv xs.length σ H → D.nx σ H) :
    ∃ W : Nat → Nat → St → Hp → Prop, (∃ m, W 0 m σ H) ∧ ∀ i m σ H, W i m σ H →
      ((Itels K a n).stop i H ∧ D.nx σ H) ∨ ((Itels K a n).go i H ∧ ∃ N : St → Hp → Prop, (∀ σ' H', N σ' H' → ∃ m', m' < m ∧ W (i + 1) m' σ' H') ∧ ∀ x H', (Itels K a n).yld i H x H' → g x σ H' fun σ2 H2 => tb { D with nx := N, ct := N, bk := D.nx } σ2 H2) := by
  refine ⟨fun i m σ H => m = xs.length - i ∧ i ≤ xs.length ∧ Pv i σ H, ⟨xs.length, by simp, Nat.zero_le _, h0⟩, ?_⟩
  rintro i m σ H ⟨rfl, hi, p⟩
  have q := hl i σ H hi p
  by_cases hlt : i < xs.length
  · refine .inr ⟨⟨xs, _, q, List.getElem?_eq_getElem hlt⟩, Pv (i + 1), fun σ' H' p' => ⟨xs.length - (i + 1), by omega, rfl, hlt, p'⟩, fun x H' y => ?_⟩
    obtain ⟨r, v, hr, hv, rfl, rfl⟩ := y
    exact hs i v σ H r (hv xs q) hr p
  · have e : i = xs.length := by omega
    subst e
    exact .inl ⟨⟨xs, q, rfl⟩, hd σ H p⟩
end L2
set_option Elab.async false
set_option linter.all false
set_option maxRecDepth 100000
set_option maxHeartbeats 4000000
namespace L2
open PySem PySem.Spec PyProof.Rows
def isTup (H : Hp) (ns : List Int) : Value → Bool
  | .ref p => match H p with
    | some (.tup xs) => decide (xs = intV ns)
    | _ => false
  | _ => false
theorem ints_inj {ns ms : List Int} (h : intV ns = intV ms) : ns = ms := by
  unfold intV at h
  exact (List.map_inj_right (fun a b z => V.int.inj z)).mp h
theorem isTup_ref {H : Hp} {p : Addr} {ns ms : List Int} (h : H p = some (.tup (intV ms))) : isTup H ns (.ref p) = decide (ms = ns) := by
  unfold isTup
  simp only [h]
  rw [Bool.eq_iff_iff, decide_eq_true_iff, decide_eq_true_iff]
  exact ⟨ints_inj, fun z => by rw [z]⟩
theorem words_eqAt {X : Cx} {pins : List (Addr × Obj)} {σ : St} {H : Hp} {s : Shared} {A : Around} (I : Inv X pins σ H s) {ps : List Addr} {ms : List (List Int)} {t : Addr} {ns : List Int} (hp : TupsAt H ps ms) (ht : H t = some (.tup (intV ns))) (hu : A.units < cLine) : ∀ y, y ∈ (ps.map Value.ref).toArray → SeqAt.EqAt A s y (.ref t) (isTup H ns y) := fun y hy => by
  obtain ⟨p, hpm, rfl⟩ := List.mem_map.mp (List.mem_toArray.mp hy)
  obtain ⟨i, hi⟩ := List.getElem?_of_mem hpm
  have hil := (List.getElem?_eq_some_iff.mp hi).1
  have hm : ms[i]? = some (ms[i]'(by rw [← hp.1]; exact hil)) := List.getElem?_eq_getElem (by rw [← hp.1]; exact hil)
  have h1 := hp.2 i p _ hi hm
  rw [isTup_ref h1]
  exact eq_tups I h1 ht hu
theorem words_any {H : Hp} {ps : List Addr} {ms : List (List Int)} {ns : List Int} (hp : TupsAt H ps ms) : (ps.map Value.ref).toArray.any (isTup H ns) = decide (ns ∈ ms) := by
  rw [List.any_toArray, Bool.eq_iff_iff, List.any_eq_true, decide_eq_true_iff]
  constructor
  · rintro ⟨y, hy, e⟩
    obtain ⟨p, hpm, rfl⟩ := List.mem_map.mp hy
    obtain ⟨i, hi⟩ := List.getElem?_of_mem hpm
    have hil := (List.getElem?_eq_some_iff.mp hi).1
    have hm : ms[i]? = some (ms[i]'(by rw [← hp.1]; exact hil)) := List.getElem?_eq_getElem (by rw [← hp.1]; exact hil)
    rw [isTup_ref (hp.2 i p _ hi hm), decide_eq_true_iff] at e
    rw [← e]
    exact List.mem_of_getElem? hm
  · intro h
    obtain ⟨i, hi⟩ := List.getElem?_of_mem h
    have hil := (List.getElem?_eq_some_iff.mp hi).1
    have hq : ps[i]? = some (ps[i]'(by rw [hp.1]; exact hil)) := List.getElem?_eq_getElem (by rw [hp.1]; exact hil)
    refine ⟨.ref _, List.mem_map.mpr ⟨_, List.mem_of_getElem? hq, rfl⟩, ?_⟩
    rw [isTup_ref (hp.2 i _ _ hq hi)]
    exact decide_eq_true rfl
section
variable {X : Cx}
def rInLT : R2 := fun x y H Q => ∃ t a ns ms, x = .ref t ∧ y = .ref a ∧ H t = some (.tup (intV ns)) ∧ WordsAt H a ms ∧ Q (.bl (decide (ns ∈ ms))) H
theorem op_IN_lt (hu : X.A.units + 1 < cLine) : OpR X (compareOp .In) rInLT := by
  intro pins s σ H x y v u Q I rx ry h
  obtain ⟨t, a, ns, ms, rfl, rfl, ht, ⟨ps, ha, hp⟩, q⟩ := h
  cases rx
  cases ry
  obtain ⟨its, r, p, _⟩ := I.list (SqL.of ha)
  have e1 := vals_refs r
  subst e1
  refine SeqAt.in_listAt (isTup H ns) p.isList (words_eqAt I hp ht hu) ?_
  rw [words_any hp]
  exact ⟨.bl _, H, I, rfl, q⟩
def rNotInLT : R2 := fun x y H Q => ∃ t a ns ms, x = .ref t ∧ y = .ref a ∧ H t = some (.tup (intV ns)) ∧ WordsAt H a ms ∧ Q (.bl (!decide (ns ∈ ms))) H
theorem op_NOTIN_lt (hu : X.A.units + 1 < cLine) : OpR X (compareOp .NotIn) rNotInLT := by
  intro pins s σ H x y v u Q I rx ry h
  obtain ⟨t, a, ns, ms, rfl, rfl, ht, ⟨ps, ha, hp⟩, q⟩ := h
  cases rx
  cases ry
  obtain ⟨its, r, p, _⟩ := I.list (SqL.of ha)
  have e1 := vals_refs r
  subst e1
  refine SeqAt.notIn_listAt (isTup H ns) p.isList (words_eqAt I hp ht hu) ?_
  rw [words_any hp]
  exact ⟨.bl _, H, I, rfl, q⟩
theorem first_ofT {l : List (List Int)} {c : List Int} (h : c ∈ l) : ∃ i : Nat, l[i]? = some c ∧ ∀ j, j < i → l[j]? ≠ some c := by
  induction l with
  | nil => cases h
  | cons a l ih =>
    by_cases e : a = c
    · exact ⟨0, by rw [e]; rfl, fun j hj => by omega⟩
    · obtain ⟨i, h1, h2⟩ := ih ((List.mem_cons.mp h).resolve_left (Ne.symm e))
      refine ⟨i + 1, h1, fun j hj => ?_⟩
      cases j with
      | zero => exact fun z => e (Option.some.inj z)
      | succ j => exact h2 j (by omega)
def rIndexLT : V → List V → Hp → VK → Prop := fun x vs H Q => ∃ (a t : Addr) (ms : List (List Int)) (ns : List Int), x = .ref a ∧ vs = [.ref t] ∧ H t = some (.tup (intV ns)) ∧ WordsAt H a ms ∧ ns ∈ ms ∧ ∀ i : Nat, ms[i]? = some ns → (∀ j, j < i → ms[j]? ≠ some ns) → Q (.int i) H
theorem mt_index_lt (hu : X.A.units + 1 < cLine) : MtM X "list.index" rIndexLT := by
  intro pins s σ H x vs v us Q I rx rv h
  obtain ⟨a, t, ms, ns, rfl, rfl, ht, ⟨ps, ha, hp⟩, hm, q⟩ := h
  cases rx
  obtain ⟨u, rfl, ru⟩ := rv.one
  cases ru
  obtain ⟨z, its, n, r, hl, e⟩ := I.lstM ha
  have e1 := vals_refs r
  subst e1
  rw [List.length_map] at z
  obtain ⟨i, h1, h2⟩ := first_ofT hm
  have hi : i < ms.length := (List.getElem?_eq_some_iff.mp h1).1
  have hpl := hp.1
  have at_ : ∀ (m : Nat) (hm : m < (ps.map Value.ref).toArray.size), isTup H ns (ps.map Value.ref).toArray[m] = decide (ms[m]? = some ns) := fun m hm => by
    have hm' : m < ps.length := by simpa using hm
    have g1 : ps[m]? = some ps[m] := List.getElem?_eq_getElem hm'
    have g2 : ms[m]? = some (ms[m]'(by omega)) := List.getElem?_eq_getElem (by omega)
    have f1 : (ps.map Value.ref).toArray[m] = Value.ref ps[m] := by simp
    rw [f1, isTup_ref (hp.2 m _ _ g1 g2), g2, Bool.eq_iff_iff, decide_eq_true_iff, decide_eq_true_iff]
    exact ⟨fun z => by rw [z], fun z => Option.some.inj z⟩
  have hsz : (sizeLine : Nat) < 2 ^ 62 := by decide
  refine call_meets F.slot_list_index ⟨_, e, rfl⟩ F.entry_list_index (F.args_list_index_2 _ _)
    (SeqAt.list_indexAt a (ps.map Value.ref).toArray n none #[] (.ref t) (isTup H ns) i (by simp; omega) (by omega) (by rw [at_]; exact decide_eq_true h1) (fun m hm hlt => by rw [at_]; exact decide_eq_false (h2 m hlt))) ⟨e, words_eqAt I hp ht ?_, ?_⟩
  · exact hu
  · exact ⟨.int i, H, I.tok _, ⟨_, rfl⟩, q i h1 h2⟩
end
section
variable {X : Cx} {tg : Expr}
def iSeq (K : PySem.W.Frag) (tl : TE) : TI := fun σ H R => tl σ H fun x H1 => (∃ a, x = .ref a ∧ (∃ xs, SqL K H1 a xs) ∧ R (Itl K a) H1) ∨ (∃ a, x = .ref a ∧ (∃ xs, SqT K H1 a xs) ∧ R (Itt K a) H1)
theorem pi_seq {l : Expr} {tl : TE} (hl : PE X l tl) : PI X tg l (iSeq X.K tl) := by
  intro pins s σ H R I h
  refine thn (hl pins s σ H _ I h) fun v s1 ⟨x, H1, I1, r1, q1⟩ => ?_
  rcases q1 with ⟨a, e, ⟨xs, hq⟩, q⟩ | ⟨a, e, ⟨xs, hq⟩, q⟩
  · subst e
    cases r1
    obtain ⟨its, rv, p, hz⟩ := I1.list hq
    refine wpAny_pyIter_list p.isList ⟨s1.heap.objs.size, [s1.heap.objs.size], _, _, H1, rfl, I1.kept (t' := s1.toks) fun b o e => Heap.get?_push_of_some _ e, turn_list a _, ⟨_, Heap.get?_push_size _ rfl, rfl, rfl⟩, fun b hb => ?_, q⟩
    rw [show b = s1.heap.objs.size by simpa using hb]
    exact I1.fpOk (Nat.le_refl _) (I1.hok.fresh (Nat.le_refl _))
  · subst e
    cases r1
    obtain ⟨its, rv, p, hz⟩ := I1.tuple hq
    refine wpAny_pyIter_tuple (show s1.heap.IsTuple a its.toArray from p) ⟨s1.heap.objs.size, [s1.heap.objs.size], _, _, H1, rfl, I1.kept (t' := s1.toks) fun b o e => Heap.get?_push_of_some _ e, turn_tuple a _, ⟨_, Heap.get?_push_size _ rfl, rfl, rfl⟩, fun b hb => ?_, q⟩
    rw [show b = s1.heap.objs.size by simpa using hb]
    exact I1.fpOk (Nat.le_refl _) (I1.hok.fresh (Nat.le_refl _))
end
section
variable {X : Cx} {pins : List (Addr × Obj)} {σ : St} {H : Hp} {s : Shared} {A : Around}
theorem all_true (n : Nat) (f : Nat → Bool) (h : ∀ j, f j = true) : (List.range n).all f = true := List.all_eq_true.mpr fun j _ => h j
theorem eq_tabs (I : Inv X pins σ H s) {r q : Addr} {ns : List (List Int)} (hr : TabAt H r ns) (hq : TabAt H q ns) (hu : A.units + 1 < cLine) : SeqAt.EqAt A s (.ref r) (.ref q) true := by
  by_cases e : r = q
  · subst e
    exact SeqAt.EqAt.same _
  · refine SeqAt.EqAt.of_refs e ?_
    obtain ⟨rs, ha, hra⟩ := hr
    obtain ⟨qs, hb, hrb⟩ := hq
    obtain ⟨its, r1, p1, _⟩ := I.list (SqL.of ha)
    obtain ⟨its2, r2, p2, _⟩ := I.list (SqL.of hb)
    have e1 := vals_refs r1
    have e2 := vals_refs r2
    subst e1 e2
    have := SeqAt.RcAt.lists (A := A) (e := fun j => decide (ns[j]? = ns[j]?)) p1.isList p2.isList (by simp [hra.1, hrb.1]) (by omega) (fun j h1 h2 => rows_items I hra hrb hu j h1 h2)
    rw [all_true _ _ fun j => decide_eq_true rfl] at this
    exact this
theorem eq_words (I : Inv X pins σ H s) {r q : Addr} {ns : List (List Int)} (hr : WordsAt H r ns) (hq : WordsAt H q ns) (hu : A.units + 1 < cLine) : SeqAt.EqAt A s (.ref r) (.ref q) true := by
  by_cases e : r = q
  · subst e
    exact SeqAt.EqAt.same _
  · refine SeqAt.EqAt.of_refs e ?_
    obtain ⟨rs, ha, hra⟩ := hr
    obtain ⟨qs, hb, hrb⟩ := hq
    obtain ⟨its, r1, p1, _⟩ := I.list (SqL.of ha)
    obtain ⟨its2, r2, p2, _⟩ := I.list (SqL.of hb)
    have e1 := vals_refs r1
    have e2 := vals_refs r2
    subst e1 e2
    have := SeqAt.RcAt.lists (A := A) (e := fun j => decide (ns[j]? = ns[j]?)) p1.isList p2.isList (by simp [hra.1, hrb.1]) (by omega) (fun j h1 h2 => tups_items I hra hrb hu j h1 h2)
    rw [all_true _ _ fun j => decide_eq_true rfl] at this
    exact this
end
section
variable {X : Cx}
def rEqTM : R2 := fun x y H Q => ∃ a b a1 a2 b1 b2 T R, x = .ref a ∧ y = .ref b ∧ H a = some (.tup [.ref a1, .ref a2]) ∧ H b = some (.tup [.ref b1, .ref b2]) ∧ TabAt H a1 T ∧ TabAt H b1 T ∧ WordsAt H a2 R ∧ WordsAt H b2 R ∧ Q (.bl true) H
theorem op_eqTM (hu : X.A.units + 2 < cLine) : OpR X (compareOp .Eq) rEqTM := by
  intro pins s σ H x y v u Q I rx ry h
  obtain ⟨a, b, a1, a2, b1, b2, T, R, rfl, rfl, ha, hb, t1, t2, w1, w2, q⟩ := h
  cases rx
  cases ry
  obtain ⟨its, r1, p1, _⟩ := I.tuple (SqT.of ha)
  obtain ⟨its2, r2, p2, _⟩ := I.tuple (SqT.of hb)
  have e1 : its = [.ref a1, .ref a2] := vals_refs (rs := [a1, a2]) r1
  have e2 : its2 = [.ref b1, .ref b2] := vals_refs (rs := [b1, b2]) r2
  subst e1 e2
  refine SeqAt.eq_tupleAt (e := fun _ => true) (show s.heap.IsTuple a _ from p1) (show s.heap.IsTuple b _ from p2) (by omega) (fun j h1 h2 => ?_) ⟨.bl true, H, I, rfl, q⟩
  have hj : j < 2 := by simpa using h1
  rcases (show j = 0 ∨ j = 1 by omega) with rfl | rfl
  · exact eq_tabs I t1 t2 hu
  · exact eq_words I w1 w2 hu
end
end L2
set_option Elab.async false
set_option linter.all false
set_option maxRecDepth 100000
set_option maxHeartbeats 4000000
namespace L2
open PySem PySem.Spec PyProof.Rows
def RawD (h : Heap) (d : Addr) (es : Array DictEntry) (ep : Nat) : Prop := ∃ o, h.get? d = some o ∧ o.ExactDict ∧ o.data = .dict es ep
namespace Dk
section
variable {prog : Program} {w : World} {A : Around} {E : Value → Shared → Prop} {s : Shared} {d : Addr} {es : Array DictEntry} {ep : Nat}
theorem typ (hm : RawD s.heap d es ep) : s.TypeIs (.ref d) "dict" := let ⟨o, ho, hc, _⟩ := hm; ⟨o, ho, hc.1⟩
theorem iter {Q : Value → Shared → Prop} (hd : (d == sysModules) = false) (hm : RawD s.heap d es ep)
    (hQ : Q (.ref s.heap.objs.size) { s with heap := s.heap.push { cls := .type "dict_keyiterator", data := .fields #[.ref d, .int 0 0, .int es.size 0, .int ep 0] } }) : wpAny (model prog w) A (pyIter (.ref d)) Q E s := by
  have hT := typ hm
  obtain ⟨o, ho, hc, hdat⟩ := hm
  refine wpAny_pyIter_slot hT F.slot_dict_iter (wpAny_call_entry F.slot_dict_iter hT F.entry_dict_iter ?_ (F.args_dict_iter_1 _))
  unfold Builtin.«dict.__iter__»
  refine wpAny_bind ?_
  unfold Builtin.Dict.dictSlotNone
  refine wpAny_bind (wpAny_notOrdered_dict hT ?_)
  show wpAny _ _ (pure (Value.ref d)) _ _ s
  refine wpAny_pure ?_
  show wpAny _ _ (Builtin.Dict.showsAll d >>= _) _ _ s
  unfold Builtin.Dict.showsAll
  rw [if_neg (by rw [hd]; exact Bool.false_ne_true)]
  refine wpAny_bind (wpAny_pure (wpAny_bind (wpAny_dictEntries ho hdat (wpAny_bind (wpAny_dictEpoch ho hdat ?_)))))
  exact wpAny_bind (wpAny_newObj_type (wpAny_pure ⟨_, rfl, "dict_keyiterator", _, ⟨_, Heap.get?_push_size _ rfl, rfl⟩, F.slot_dict_keyiterator_next.lookup, by simpa [rawInt] using hQ⟩))
theorem item {it : Addr} {i : Nat} {en : DictEntry} {Q : Option Value → Shared → Prop} (hit : s.heap.IsKeyIter it d i es.size ep) (hm : RawD s.heap d es ep) (hx : es[i]? = some en)
    (hQ : ∀ g1, g1.IsKeyIter it d (i + 1) es.size ep → Heap.SameBut it s.heap g1 → Q (some en.key) { s with heap := g1 }) : wpAny (model prog w) A (pyNext (.ref it)) Q E s := by
  obtain ⟨o, ho, hc, hd⟩ := id hit
  obtain ⟨od, hod, hcd, hdd⟩ := id hm
  unfold pyNext
  refine wpAny_bind (wpAny_attempt (wpAny_callSpecial?_slot (name := Str.ofString "__next__") hit.typeIs F.slot_dict_keyiterator_next (wpAny_call_entry F.slot_dict_keyiterator_next hit.typeIs F.entry_dict_keyiterator_next ?_ (F.args_dict_keyiterator_next_1 _))))
  refine wpAny_bind (wpAny_pure (wpAny_bind (wpAny_bind ?_)))
  first | refine wpAny_bind (wpAny_typeNameOfWhole_keyiter hit.typeIs (wpAny_pure ?_)) | refine wpAny_bind (wpAny_typeNameOf_keyiter hit.typeIs (wpAny_pure ?_))
  refine wpAny_bind (wpAny_fieldsOf ho hd ?_)
  have own : Builtin.Dict_items.ownsTuple "dict_keyiterator" = false := by decide
  simp only [own, Bool.false_eq_true, if_false]
  show wpAny _ _ (if (Value.ref d == Value.none) = true then _ else _) _ _ s
  rw [if_neg (show ¬ ((Value.ref d == Value.none) = true) from Bool.false_ne_true)]
  refine wpAny_bind (wpAny_pure (wpAny_bind (wpAny_dictEntries hod hdd ?_)))
  rw [if_neg (by simp)]
  refine wpAny_bind (wpAny_pure (wpAny_bind (wpAny_dictEpoch hod hdd ?_)))
  rw [if_neg (by simp)]
  refine wpAny_pure ?_
  simp only [show ¬ ((i : Int) < 0) from by omega, if_false, Int.toNat_natCast, hx]
  refine wpAny_bind ?_
  first | refine wpAny_bind (wpAny_typeNameOfWhole_keyiter hit.typeIs (wpAny_pure ?_)) | refine wpAny_bind (wpAny_typeNameOf_keyiter hit.typeIs (wpAny_pure ?_))
  refine wpAny_bind (wpAny_isOneOf_keyiter hit.typeIs ?_)
  show wpAny _ _ (setField (.ref it) 1 (rawInt ((i : Int) + 1)) >>= _) _ _ s
  refine wpAny_bind (wpAny_setField ho hd (by simp) ?_)
  have j1 : (s.heap.update it (Obj.mapFields (·.setIfInBounds 1 (rawInt ((i : Int) + 1))))).IsKeyIter it d (i + 1) es.size ep :=
    ⟨_, Heap.get?_update_self _ ho (Obj.isFreed_of_fields (Obj.data_mapFields hd _)), (Obj.cls_mapFields ..).trans hc, by rw [Obj.data_mapFields hd]; simp [rawInt]⟩
  refine wpAny_bind (wpAny_holding ?_)
  refine wpAny_bind (wpAny_isOneOf_keyiter (s := { s with heap := s.heap.update it (Obj.mapFields (·.setIfInBounds 1 (rawInt ((i : Int) + 1)))) }) j1.typeIs ?_)
  show wpAny _ _ (pure en.key) _ _ _
  exact wpAny_pure (wpAny_pure ⟨_, rfl, wpAny_pure (hQ _ j1 (Heap.SameBut.update ..))⟩)
theorem fin {it : Addr} {i : Nat} {Q : Option Value → Shared → Prop} (hh : A.handled = none) (hit : s.heap.IsKeyIter it d i es.size ep) (hm : RawD s.heap d es ep) (hx : es[i]? = none)
    (hQ : ∀ g1, Heap.ExtBut it s.heap g1 → Q none { s with heap := g1 }) : wpAny (model prog w) A (pyNext (.ref it)) Q E s := by
  obtain ⟨o, ho, hc, hd⟩ := id hit
  obtain ⟨od, hod, hcd, hdd⟩ := id hm
  unfold pyNext
  refine wpAny_bind (wpAny_attempt (wpAny_callSpecial?_slot (name := Str.ofString "__next__") hit.typeIs F.slot_dict_keyiterator_next (wpAny_call_entry F.slot_dict_keyiterator_next hit.typeIs F.entry_dict_keyiterator_next ?_ (F.args_dict_keyiterator_next_1 _))))
  refine wpAny_bind (wpAny_pure (wpAny_bind (wpAny_bind ?_)))
  first | refine wpAny_bind (wpAny_typeNameOfWhole_keyiter hit.typeIs (wpAny_pure ?_)) | refine wpAny_bind (wpAny_typeNameOf_keyiter hit.typeIs (wpAny_pure ?_))
  refine wpAny_bind (wpAny_fieldsOf ho hd ?_)
  have own : Builtin.Dict_items.ownsTuple "dict_keyiterator" = false := by decide
  simp only [own, Bool.false_eq_true, if_false]
  show wpAny _ _ (if (Value.ref d == Value.none) = true then _ else _) _ _ s
  rw [if_neg (show ¬ ((Value.ref d == Value.none) = true) from Bool.false_ne_true)]
  refine wpAny_bind (wpAny_pure (wpAny_bind (wpAny_dictEntries hod hdd ?_)))
  rw [if_neg (by simp)]
  refine wpAny_bind (wpAny_pure (wpAny_bind (wpAny_dictEpoch hod hdd ?_)))
  rw [if_neg (by simp)]
  refine wpAny_pure ?_
  simp only [show ¬ ((i : Int) < 0) from by omega, if_false, Int.toNat_natCast, hx]
  refine wpAny_bind ?_
  first | refine wpAny_bind (wpAny_typeNameOfWhole_keyiter hit.typeIs (wpAny_pure ?_)) | refine wpAny_bind (wpAny_typeNameOf_keyiter hit.typeIs (wpAny_pure ?_))
  show wpAny _ _ (setField (.ref it) 0 .none >>= _) _ _ s
  refine wpAny_bind (wpAny_setField ho hd (by simp) ?_)
  show wpAny _ _ (newExc (.type "StopIteration") [] >>= _) _ _ _
  refine wpAny_bind ?_
  simp only [newExc, newTuple]
  refine wpAny_bind (wpAny_newObj_type ?_ (by size_fits))
  refine wpAny_bind (m := firstArgMember _ _) (wpAny_of_eq (a := Value.none) (by first | rfl | (simp only [firstArgMember]; rfl)) ?_)
  refine wpAny_newObj_type ?_ (by size_fits)
  simp only [raiseNew]
  refine wpAny_bind (wpAny_handled ?_)
  rw [show A.in1.handled = none from hh]
  refine wpAny_bind (wpAny_pure (wpAny_throw ?_))
  refine wpAny_bind (wpAny_isInstance (T := "StopIteration") (b := true) ⟨_, Heap.get?_push_size _ rfl, rfl⟩ isSubtype_stop ?_)
  exact wpAny_pure (hQ _ (((Heap.SameBut.update ..).extBut.push _).push _))
theorem RawD.at {h h' : Heap} (x : RawD h d es ep) (e : ∀ o, h.get? d = some o → h'.get? d = some o) : RawD h' d es ep := let ⟨o, ho, r⟩ := x; ⟨o, e _ ho, r⟩
theorem walks (hh : A.handled = none) (I : Addr) (hne : d ≠ I) : Walks prog w A I [I, d] [I] es.size (fun i v => ∃ en, es[i]? = some en ∧ v = en.key) (fun i h => h.IsKeyIter I d i es.size ep ∧ RawD h d es ep) where
  sub := fun b hb => by simp at hb; simp [hb]
  frame := fun _ _ _ st hk => ⟨st.1.at fun o e => hk I (by simp) o e, RawD.at st.2 fun o e => hk d (by simp) o e⟩
  item := fun i s Q E hi st hQ => by
    refine item (en := es[i]) st.1 st.2 (by simp [hi]) fun g1 j1 b1 => ?_
    exact hQ _ g1 s.toks ⟨_, by simp [hi], rfl⟩ ⟨j1, RawD.at st.2 fun o e => b1.extBut _ _ hne e⟩ fun b o hb e => b1.extBut b o (fun h => hb (by simp [h])) e
  done := fun s Q E st hQ => fin hh st.1 st.2 (by simp) fun g1 b1 => hQ g1 s.toks fun b o hb e => b1 b o (fun h => hb (by simp [h])) e
  self := fun _ _ _ _ st hQ => wpAny_pyIter_keyiter st.1 hQ
theorem hint {Q : Bool → Shared → Prop} (hm : RawD s.heap d es ep) (h : Q false s) : wpAny (model prog w) A (Builtin.List.listLengthHint (.ref d)) Q E s := by
  unfold Builtin.List.listLengthHint
  refine wpAny_bind (wpAny_specialOf (typ hm) F.slot_dict_len.lookup ?_)
  generalize hid : ("dict.__len__" : String) = id0
  wp_delta
  rw [show splitId id0 = some ("dict", "__len__") from by subst hid; decide +kernel]
  subst hid
  refine wpAny_bind (wpAny_isInstance (T := "dict") (b := true) (typ hm) (by rw [isSubtype_type]; kernel_rfl) ?_)
  refine wpAny_ite_split (fun hab => absurd hab (by decide)) (fun _ => ?_)
  refine wpAny_ite_split (fun _ => ?_) (fun hab => absurd (by decide +kernel) hab)
  exact wpAny_bind (wpAny_typeOf (T := "dict") (typ hm) (wpAny_pure h))
theorem extend {R : Result → Shared → Prop} (hh : A.handled = none) (hd : (d == sysModules) = false) (hm : RawD s.heap d es ep) (hlen : es.size ≤ sizeLine) (S : Addr) (res : Value) (c₀ : Nat) (hS : s.heap.get? S = some { cls := .type "list", data := .seq #[] c₀ })
    (hR : ∀ g1 tk acc' c', (∀ b o, b ≠ S → s.heap.get? b = some o → g1.get? b = some o) → g1.get? S = some { cls := .type "list", dict := none, data := .seq acc' c', slots := #[] } →
      ItemsOf (fun i v => ∃ en, es[i]? = some en ∧ v = en.key) acc' es.size → R (.ok (.ret res)) { s with heap := g1, toks := tk }) :
    wpAny (model prog w) A.in1 (Builtin.List.listExtendWith (.ref S) (.ref d) res)
      (fun fin s' => match fin with | .done f => R (.ok f) s' | .again c' => c'.quiet = true ∧ codeAny (model prog w) A c' R s') (fun e s' => R (.error e) s') s := by
  have hSd : S ≠ d := fun e => by
    obtain ⟨o, ho, hc, hdat⟩ := hm
    rw [← e, hS] at ho
    rw [← Option.some.inj ho] at hdat
    cases hdat
  have hdl : d < s.heap.objs.size := by obtain ⟨o, ho, _⟩ := hm; exact Heap.lt_size ho
  have hSI : S ≠ s.heap.objs.size := Nat.ne_of_lt (Heap.lt_size hS)
  have hdI : d ≠ s.heap.objs.size := Nat.ne_of_lt hdl
  unfold Builtin.List.listExtendWith
  refine wpAny_bind (wpAny_typeOf (T := "dict") (typ hm) ?_)
  have h1 : Builtin.List.listSameRef (.ref S) (.ref d) = false := by simp [Builtin.List.listSameRef, hSd]
  have h2 : (Value.type "dict" == Value.type "list") = false := by decide
  have h3 : (Value.type "dict" == Value.type "tuple") = false := by decide
  simp only [h1, h2, h3, Bool.or_false, Bool.false_eq_true, if_false]
  refine wpAny_bind (iter hd hm ?_)
  have hm1 : RawD (s.heap.push { cls := .type "dict_keyiterator", data := .fields #[.ref d, .int 0 0, .int es.size 0, .int ep 0] }) d es ep := RawD.at hm fun o e => Heap.get?_push_of_some _ e
  refine wpAny_bind (wpAny_holding (hint (s := { s with heap := s.heap.push { cls := .type "dict_keyiterator", data := .fields #[.ref d, .int 0 0, .int es.size 0, .int ep 0] } }) hm1 ?_))
  have hS1 := Heap.get?_push_of_some { cls := .type "dict_keyiterator", data := .fields #[.ref d, .int 0 0, .int es.size 0, .int ep 0] } hS
  have hI1 : (s.heap.push { cls := .type "dict_keyiterator", data := .fields #[.ref d, .int 0 0, .int es.size 0, .int ep 0] }).IsKeyIter s.heap.objs.size d 0 es.size ep := ⟨_, Heap.get?_push_size _ rfl, rfl, rfl⟩
  have kp : ∀ b o, s.heap.get? b = some o → (s.heap.push { cls := .type "dict_keyiterator", data := .fields #[.ref d, .int 0 0, .int es.size 0, .int ep 0] }).get? b = some o := fun b o e => Heap.get?_push_of_some _ e
  generalize s.heap.push { cls := .type "dict_keyiterator", data := .fields #[.ref d, .int 0 0, .int es.size 0, .int ep 0] } = h1' at hS1 hI1 kp hm1 ⊢
  refine wpAny_ite_split (fun _ => ?_) (fun hab => absurd (by decide +kernel) hab)
  refine wpAny_bind (wpAny_rule ?_)
  refine wpAny_bind ?_
  show wpAny _ _ (updateSeq S (·.push .none) >>= fun _ => updateSeq S (·.pop)) _ _ _
  refine wpAny_bind (wpAny_updateSeq hS1 rfl ?_)
  have hS2 := Heap.get?_update_self (Obj.mapSeq (·.push Value.none)) hS1 rfl
  refine wpAny_updateSeq (hz := by seq_fits) hS2 rfl ?_
  have hS3 := Heap.get?_update_self (Obj.mapSeq (·.pop)) hS2 rfl
  have oth : ∀ b o, b ≠ S → h1'.get? b = some o → ((h1'.update S (Obj.mapSeq (·.push Value.none))).update S (Obj.mapSeq (·.pop))).get? b = some o := fun b o hb e => (Heap.get?_update_other _ _ (Ne.symm hb)).trans ((Heap.get?_update_other _ _ (Ne.symm hb)).trans e)
  have W := (walks (prog := prog) (w := w) (A := A.in1) (d := d) (es := es) (ep := ep) hh s.heap.objs.size hdI).toS
  have hSf : S ∉ [s.heap.objs.size, d] := fun hmem => by
    rcases List.mem_cons.mp hmem with e | hmem
    · exact hSI e
    · exact hSd (List.mem_singleton.mp hmem)
  refine wpAny_pure ⟨plainId_quiet F.plain_extend_loop _, ?_⟩
  refine codeAny_extend_loopS W hlen S hSf res es.size 0 _ #[] _ rfl (Nat.zero_le _) ⟨hI1.at fun o e => oth _ o (Ne.symm hSI) e, RawD.at hm1 fun o e => oth _ o (Ne.symm hSd) e⟩ hS3 (ItemsOf.nil _) fun s' acc' c' hmv hS' hacc => ?_
  rw [Moved.eq_with hmv]
  refine hR s'.heap s'.toks acc' c' (fun b o hb e => hmv.heap b o (fun hmem => ?_) (oth b o hb (kp b o e))) hS' hacc
  rcases List.mem_cons.mp hmem with e' | hmem
  · exact hb e'
  · exact absurd (Heap.lt_size e) (by rw [List.mem_singleton.mp hmem]; exact Nat.lt_irrefl _)
theorem init {R : Result → Shared → Prop} (hh : A.handled = none) (hd : (d == sysModules) = false) (hm : RawD s.heap d es ep) (hlen : es.size ≤ sizeLine) (S : Addr) (hS : s.heap.get? S = some { cls := .type "list", data := .seq #[] })
    (hR : ∀ g1 tk acc' c', (∀ b o, b ≠ S → s.heap.get? b = some o → g1.get? b = some o) → g1.get? S = some { cls := .type "list", dict := none, data := .seq acc' c', slots := #[] } →
      ItemsOf (fun i v => ∃ en, es[i]? = some en ∧ v = en.key) acc' es.size → R (.ok (.ret .none)) { s with heap := g1, toks := tk }) :
    wpAny (model prog w) A.in1 (Builtin.«list.__init__» ⟨[.ref S, .ref d], []⟩)
      (fun fin s' => match fin with | .done f => R (.ok f) s' | .again c' => c'.quiet = true ∧ codeAny (model prog w) A c' R s') (fun e s' => R (.error e) s') s := by
  have hSd : d ≠ S := fun e => by
    obtain ⟨o, ho, hc, hdat⟩ := hm
    rw [e, hS] at ho
    rw [← Option.some.inj ho] at hdat
    cases hdat
  show wpAny _ _ (do let old ← Builtin.List.listItems (.ref S); Builtin.List.listUpdate (.ref S) (fun _ => #[]); letGo old.toList.reverse; Builtin.List.listExtendWith (.ref S) (.ref d) .none) _ _ s
  refine wpAny_bind ?_
  unfold Builtin.List.listItems
  refine wpAny_bind (wpAny_seqItems hS rfl (wpAny_pure ?_))
  show wpAny _ _ (updateSeq S (fun _ => #[]) >>= fun _ => letGo (#[] : Array Value).toList.reverse >>= fun _ => Builtin.List.listExtendWith (.ref S) (.ref d) .none) _ _ s
  refine wpAny_bind (wpAny_updateSeq hS rfl ?_)
  have hS2 := Heap.get?_update_self (Obj.mapSeq (fun _ => (#[] : Array Value))) hS rfl
  have oth : ∀ b o, b ≠ S → s.heap.get? b = some o → (s.heap.update S (Obj.mapSeq (fun _ => (#[] : Array Value)))).get? b = some o := fun b o hb e => (Heap.get?_update_other _ _ (Ne.symm hb)).trans e
  refine wpAny_bind (wpAny_letGo ?_)
  refine extend (s := { s with heap := s.heap.update S (Obj.mapSeq (fun _ => (#[] : Array Value))) }) hh hd (RawD.at hm fun o e => oth _ o hSd e) hlen S .none _ hS2 fun g1 tk acc' c' hk hS' hacc => ?_
  exact hR g1 tk acc' c' (fun b o hb e => hk b o hb (oth b o hb e)) hS' hacc
theorem call_list {Q : Value → Shared → Prop} (hh : A.handled = none) (hd : (d == sysModules) = false) (hm : RawD s.heap d es ep) (hlen : es.size ≤ sizeLine)
    (hQ : ∀ g1 tk acc' c', (∀ b o, s.heap.get? b = some o → g1.get? b = some o) → g1.get? s.heap.objs.size = some { cls := .type "list", dict := none, data := .seq acc' c', slots := #[] } → ItemsOf (fun i v => ∃ en, es[i]? = some en ∧ v = en.key) acc' es.size → Q (.ref s.heap.objs.size) { s with heap := g1, toks := tk }) :
    wpAny (model prog w) A (call (.type "list") [.ref d]) Q E s := by
  refine callType_codes (Q₁ := fun obj s₁ => obj = .ref s.heap.objs.size ∧ s₁ = { s with heap := s.heap.push { cls := .type "list", data := .seq #[] } }) F.called_list (F.typeCall_list_1 _) F.entry_list_init (code_list_new _ ⟨rfl, rfl⟩) fun obj s₁ h₁ => ?_
  obtain ⟨rfl, rfl⟩ := h₁
  have hS : (s.heap.push { cls := .type "list", data := .seq #[] }).get? s.heap.objs.size = some { cls := .type "list", data := .seq #[] } := Heap.get?_push_size _ rfl
  refine ⟨⟨_, hS, rfl⟩, F.args_list_init_2 _ _, init (A := A.in1) (s := { s with heap := s.heap.push { cls := .type "list", data := .seq #[] } }) hh hd (RawD.at hm fun o e => Heap.get?_push_of_some _ e) hlen _ hS fun g1 tk acc' c' hk hS' hacc => ?_⟩
  exact ⟨rfl, hQ g1 tk acc' c' (fun b o e => hk b o (Nat.ne_of_lt (Heap.lt_size e)) (Heap.get?_push_of_some _ e)) hS' hacc⟩
end
end Dk
theorem vals_of_refs : ∀ ps : List Addr, Vals (ps.map V.ref) (ps.map Value.ref)
  | [] => .nil
  | p :: ps => .cons rfl (vals_of_refs ps)
theorem kt_at {H : Hp} : ∀ {kvs : List (List Key × V)} {ys : List (List Key × Addr × Value)}, KT H kvs ys → ∀ {i : Nat} {kv : List Key × V} {y : List Key × Addr × Value}, kvs[i]? = some kv → ys[i]? = some y → H y.2.1 = some (.tup (kv.1.map kV))
  | [], _, h, i, kv, y, h1, _ => by simp at h1
  | k :: kvs, _, h, i, kv, y, h1, h2 => by
    cases h with
    | cons h0 ht =>
      cases i with
      | zero =>
        rw [← Option.some.inj h1, ← Option.some.inj h2]
        exact h0.2.1
      | succ i => exact kt_at ht h1 h2
section
variable {X : Cx}
def rListD : List V → Hp → VK → Prop := fun xs H Q => ∃ (d : Addr) (kvs : List (List Key × V)), xs = [.ref d] ∧ H d = some (.dT kvs) ∧ ∀ (l : Addr) (ps : List Addr), H l = none → ps.length = kvs.length → (∀ (i : Nat) (p : Addr) (kv : List Key × V), ps[i]? = some p → kvs[i]? = some kv → H p = some (.tup (kv.1.map kV))) → Q (.ref l) (upd H l (.lst (ps.map V.ref)))
theorem call_list_dT (hc : X.calm = true) : CallR X (.type "list") rListD := by
  intro pins s σ H xs us Q I r h
  obtain ⟨d, kvs, rfl, hd, q⟩ := h
  obtain ⟨u, rfl, rx⟩ := vals1 r
  cases rx
  obtain ⟨hz, hsm, ys, kt, o, es, ep, ho, hcx, hdat, hes, _, _⟩ := dt_of I.hok hd
  have hlen : ys.length = kvs.length := (Paired.length kt).symm
  have hsz : es.size = ys.length := size_of_entries hes
  refine Dk.call_list (I.ok.hd hc) hsm ⟨o, ho, hcx, hdat⟩ (by omega) fun g1 tk acc' c' hk hS' hacc => ?_
  have ea : acc'.toList = (ys.map (·.2.1)).map Value.ref := by
    refine List.ext_getElem? fun i => ?_
    rw [Array.getElem?_toList, List.getElem?_map, List.getElem?_map]
    cases hv : acc'[i]? with
    | none =>
      have hi : ys.length ≤ i := by
        have h1 : acc'.size ≤ i := Array.getElem?_eq_none_iff.mp hv
        rw [hacc.1] at h1
        omega
      rw [List.getElem?_eq_none hi]
      rfl
    | some v =>
      obtain ⟨en, e1, rfl⟩ := hacc.2 i v hv
      rw [entry_at hes] at e1
      cases hy : ys[i]? with
      | none => rw [hy] at e1; cases e1
      | some y =>
        rw [hy] at e1
        rw [← Option.some.inj e1]
        rfl
  have eb : acc' = ((ys.map (·.2.1)).map Value.ref).toArray := by rw [← ea]
  rw [eb] at hS'
  refine ⟨.ref s.heap.objs.size, _, I.laid (t' := tk) hk (Nat.le_refl _) (show ObjOk X.prog X.w _ g1 _ (.lst ((ys.map (·.2.1)).map V.ref)) from ⟨by rw [List.length_map, List.length_map]; omega, _, c', vals_of_refs _, hS'⟩), rfl, q _ _ (I.hok.fresh (Nat.le_refl _)) (by rw [List.length_map]; exact hlen) fun i p kv h1 h2 => ?_⟩
  rw [List.getElem?_map] at h1
  cases hy : ys[i]? with
  | none => rw [hy] at h1; cases h1
  | some y =>
    rw [hy] at h1
    rw [← Option.some.inj h1]
    exact kt_at kt h2 hy
end
end L2
set_option Elab.async false
set_option linter.all false
set_option maxRecDepth 100000
set_option maxHeartbeats 4000000
namespace M11
def flip (k : Nat) : Nat := if k % 2 = 0 then k + 1 else k - 1
def nx (T : List (List Int)) (k i : Nat) : Nat := ((T.getD i []).getD k 0).toNat
structure Tab (L : Nat) (T : List (List Int)) : Prop where
  pos : 1 ≤ T.length
  top : T.length ≤ 300
  let1 : 1 ≤ L
  let2 : L ≤ 40
  row : ∀ (i : Nat) (r : List Int), T[i]? = some r → r.length = 2 * L
  val : ∀ i k, i < T.length → k < 2 * L → ∃ r : List Int, T[i]? = some r ∧ r[k]? = some ((nx T k i : Nat) : Int)
  lt : ∀ i k, i < T.length → k < 2 * L → nx T k i < T.length
  back : ∀ i k, i < T.length → k < 2 * L → nx T (flip k) (nx T k i) = i
def pl (s : Int) : Nat := if 0 < s then 2 * s.natAbs - 2 else 2 * s.natAbs - 1
def walk (T : List (List Int)) (w : List Int) (i : Nat) : Nat := w.foldl (fun i s => nx T (pl s) i) i
def Steps (L : Nat) (w : List Int) : Prop := ∀ s ∈ w, s ≠ 0 ∧ s.natAbs ≤ L
def back (w : List Int) : List Int := w.reverse.map fun z => -z
theorem pl_lt {L : Nat} {s : Int} (h : s ≠ 0 ∧ s.natAbs ≤ L) : pl s < 2 * L := by
  unfold pl
  split <;> omega
theorem walk_lt {L : Nat} {T : List (List Int)} (hT : Tab L T) : ∀ {w : List Int} {i : Nat}, Steps L w → i < T.length → walk T w i < T.length
  | [], i, _, hi => hi
  | s :: w, i, hw, hi => walk_lt hT (w := w) (fun s hs => hw s (List.mem_cons_of_mem _ hs)) (hT.lt i (pl s) hi (pl_lt (hw s (List.mem_cons_self ..))))
theorem walk_app (T : List (List Int)) (w u : List Int) (i : Nat) : walk T (w ++ u) i = walk T u (walk T w i) := List.foldl_append ..
theorem steps_back {L : Nat} {w : List Int} (h : Steps L w) : Steps L (back w) := fun s hs => by
  unfold back at hs
  obtain ⟨y, hy, rfl⟩ := List.mem_map.mp hs
  have := h y (List.mem_reverse.mp hy)
  omega
structure Pm (p : Nat) (r : List Int) : Prop where
  len : r.length = p
  nd : r.Nodup
  rg : ∀ z ∈ r, 0 ≤ z ∧ z < (p : Int)
theorem Pm.at {p : Nat} {r : List Int} (h : Pm p r) {i : Nat} (hi : i < p) : ∃ j : Nat, r[i]? = some (j : Int) ∧ j < p := by
  have hl : i < r.length := by rw [h.len]; exact hi
  have := h.rg r[i] (List.getElem_mem hl)
  exact ⟨r[i].toNat, by rw [List.getElem?_eq_getElem hl, show ((r[i].toNat : Nat) : Int) = r[i] by omega], by omega⟩
theorem set_same {r : List Int} {i j : Nat} {a b : Int} (h1 : r[i]? = some a) (h2 : r[j]? = some b) : ((r.set i b).set j a).Perm r := by
  have hi := (List.getElem?_eq_some_iff.mp h1).1
  have hj := (List.getElem?_eq_some_iff.mp h2).1
  have e1 := (List.getElem?_eq_some_iff.mp h1).2
  have e2 := (List.getElem?_eq_some_iff.mp h2).2
  rw [← e1, ← e2]
  exact List.set_set_perm hi hj
theorem Pm.swap {p : Nat} {r : List Int} (h : Pm p r) {i j : Nat} {a b : Int} (h1 : r[i]? = some a) (h2 : r[j]? = some b) : Pm p ((r.set i b).set j a) := by
  have hp := set_same h1 h2
  exact ⟨by rw [hp.length_eq, h.len], hp.nodup_iff.mpr h.nd, fun z hz => h.rg z (hp.mem_iff.mp hz)⟩
theorem flip_lt {k L : Nat} (h : k < 2 * L) : flip k < 2 * L := by unfold flip; split <;> omega
def RowOk (L : Nat) (f : Nat → Int → Int) (come : List Int) (x : Int) (r : List Int) (m : Nat) : Prop := r.length = m ∧ ∀ k, k < m → ∃ j : Nat, r[k]? = some (j : Int) ∧ come[j]? = some (f k x)
theorem RowOk.more {L : Nat} {f : Nat → Int → Int} {come c2 : List Int} {x : Int} {r : List Int} {m : Nat} (h : RowOk L f come x r m) : RowOk L f (come ++ c2) x r m := ⟨h.1, fun k hk => by
  obtain ⟨j, h1, h2⟩ := h.2 k hk
  refine ⟨j, h1, ?_⟩
  rw [List.getElem?_append_left (List.getElem?_eq_some_iff.mp h2).1]
  exact h2⟩
theorem RowOk.snoc {L : Nat} {f : Nat → Int → Int} {come : List Int} {x : Int} {r : List Int} {m j : Nat} (h : RowOk L f come x r m) (hj : come[j]? = some (f m x)) : RowOk L f come x (r ++ [(j : Int)]) (m + 1) := by
  refine ⟨by rw [List.length_append, h.1]; rfl, fun k hk => ?_⟩
  by_cases e : k = m
  · subst e
    refine ⟨j, ?_, hj⟩
    rw [List.getElem?_append_right (by rw [h.1]; exact Nat.le_refl _), h.1, Nat.sub_self]
    rfl
  · obtain ⟨i, h1, h2⟩ := h.2 k (by omega)
    exact ⟨i, by rw [List.getElem?_append_left (by rw [h.1]; omega)]; exact h1, h2⟩
theorem tab_of {L : Nat} {f : Nat → Int → Int} {come : List Int} {T : List (List Int)} (hL1 : 1 ≤ L) (hL2 : L ≤ 40) (hn : come.Nodup) (h1 : 1 ≤ come.length) (h2 : come.length ≤ 300) (hT : T.length = come.length)
    (hrow : ∀ (i : Nat) (x : Int) (r : List Int), come[i]? = some x → T[i]? = some r → RowOk L f come x r (2 * L)) (hf : ∀ (k : Nat) (x : Int), k < 2 * L → x ∈ come → f (flip k) (f k x) = x) : Tab L T := by
  have key : ∀ i k : Nat, i < T.length → k < 2 * L → ∃ x r, come[i]? = some x ∧ T[i]? = some r ∧ r[k]? = some ((nx T k i : Nat) : Int) ∧ come[nx T k i]? = some (f k x) := fun i k hi hk => by
    have hx : come[i]? = some come[i] := List.getElem?_eq_getElem (by omega)
    have hr : T[i]? = some T[i] := List.getElem?_eq_getElem hi
    obtain ⟨j, a1, a2⟩ := (hrow i _ _ hx hr).2 k hk
    have e : nx T k i = j := by
      unfold nx
      rw [List.getD_eq_getElem?_getD, List.getD_eq_getElem?_getD, hr, Option.getD_some, a1, Option.getD_some]
      rfl
    exact ⟨_, _, hx, hr, by rw [e]; exact a1, by rw [e]; exact a2⟩
  refine ⟨by omega, by omega, hL1, hL2, fun i r h => ?_, fun i k hi hk => ?_, fun i k hi hk => ?_, fun i k hi hk => ?_⟩
  · have hi := (List.getElem?_eq_some_iff.mp h).1
    exact (hrow i _ _ (List.getElem?_eq_getElem (by omega)) h).1
  · obtain ⟨x, r, _, a2, a3, _⟩ := key i k hi hk
    exact ⟨r, a2, a3⟩
  · obtain ⟨x, r, _, _, _, a4⟩ := key i k hi hk
    have := (List.getElem?_eq_some_iff.mp a4).1
    omega
  · obtain ⟨x, r, a1, _, _, a4⟩ := key i k hi hk
    have hj : nx T k i < T.length := by
      have := (List.getElem?_eq_some_iff.mp a4).1
      omega
    obtain ⟨y, r2, b1, _, _, b4⟩ := key (nx T k i) (flip k) hj (flip_lt hk)
    have ey : y = f k x := Option.some.inj (b1.symm.trans a4)
    subst ey
    rw [hf k x hk (List.mem_of_getElem? a1), ← a1] at b4
    exact ((List.getElem?_inj (by have := (List.getElem?_eq_some_iff.mp a1).1; exact this) hn).mp b4.symm).symm
theorem nodup_len : ∀ (n : Nat) (l : List Nat), l.Nodup → (∀ x ∈ l, x < n) → l.length ≤ n
  | 0, [], _, _ => Nat.le_refl _
  | 0, a :: l, _, h => absurd (h a (List.mem_cons_self ..)) (by omega)
  | n + 1, l, hn, h => by
    by_cases hm : n ∈ l
    · have := nodup_len n (l.erase n) (hn.erase n) (fun x hx => by
        have h1 := (hn.mem_erase_iff).mp hx
        have h2 := h x h1.2
        have h3 := h1.1
        omega)
      rw [List.length_erase_of_mem hm] at this
      omega
    · have := nodup_len n l hn (fun x hx => by
        have h2 := h x hx
        have h3 : x ≠ n := fun z => hm (by rw [← z]; exact hx)
        omega)
      omega
theorem nodup_lenI {n : Nat} {l : List Int} (hn : l.Nodup) (h : ∀ x ∈ l, 0 ≤ x ∧ x < (n : Int)) : l.length ≤ n := by
  have h1 : (l.map Int.toNat).Nodup := by
    refine List.pairwise_map.mpr (List.Pairwise.imp_of_mem ?_ hn)
    intro a b ha hb hab z
    have := h a ha
    have := h b hb
    exact hab (by omega)
  have := nodup_len n (l.map Int.toNat) h1 (fun x hx => by
    obtain ⟨y, hy, rfl⟩ := List.mem_map.mp hx
    have := h y hy
    omega)
  rw [List.length_map] at this
  exact this
theorem Pm.surj {p : Nat} {r : List Int} (h : Pm p r) {x : Nat} (hx : x < p) : ∃ i : Nat, r[i]? = some (x : Int) ∧ i < p := by
  have hm : (x : Int) ∈ r := by
    refine Classical.byContradiction fun hm => ?_
    have := nodup_lenI (n := p) (l := (x : Int) :: r) (List.nodup_cons.mpr ⟨hm, h.nd⟩) (fun y hy => by
      rcases List.mem_cons.mp hy with e | hy
      · rw [e]; omega
      · exact h.rg y hy)
    rw [List.length_cons, h.len] at this
    omega
  obtain ⟨i, hi, e⟩ := List.mem_iff_getElem.mp hm
  exact ⟨i, by rw [List.getElem?_eq_getElem hi, e], by rw [← h.len]; exact hi⟩
def InvOf (p : Nat) (r t : List Int) : Prop := t.length = p ∧ ∀ k j : Nat, r[k]? = some (j : Int) → t[j]? = some (k : Int)
def InvTo (p : Nat) (r t : List Int) (n : Nat) : Prop := t.length = p ∧ ∀ k j : Nat, k < n → r[k]? = some (j : Int) → t[j]? = some (k : Int)
theorem InvTo.step {p n j : Nat} {r t : List Int} (h : InvTo p r t n) (hr : Pm p r) (hj : r[n]? = some (j : Int)) (hjp : j < p) : InvTo p r (t.set j (n : Int)) (n + 1) := by
  refine ⟨by rw [List.length_set]; exact h.1, fun k i hk hi => ?_⟩
  by_cases e : k = n
  · subst e
    rw [hj] at hi
    have : j = i := by have := Option.some.inj hi; omega
    subst this
    exact List.getElem?_set_self (by rw [h.1]; exact hjp)
  · have hne : j ≠ i := fun z => by
      subst z
      exact e ((List.getElem?_inj (List.getElem?_eq_some_iff.mp hi).1 hr.nd).mp (hi.trans hj.symm))
    rw [List.getElem?_set_ne hne]
    exact h.2 k i (by omega) hi
theorem InvTo.all {p : Nat} {r t : List Int} (h : InvTo p r t p) (hr : Pm p r) : InvOf p r t := ⟨h.1, fun k j hk => h.2 k j (by
  have := (List.getElem?_eq_some_iff.mp hk).1
  rw [hr.len] at this
  exact this) hk⟩
end M11
namespace M12
open M11
def Fc (W : Nat) (E : List Int) (N : Nat) : Prop := (∀ z ∈ E, 0 ≤ z ∧ z < (N : Int)) ∧ ∀ j : Nat, 0 < j → j < N → ∃ p : Nat, p < j * W ∧ E[p]? = some (j : Int) ∧ ∀ (q : Nat) (z : Int), q < p → E[q]? = some z → z < (j : Int)
theorem Fc.old {W N i : Nat} {E : List Int} (h : Fc W E N) (hi : i < N) : Fc W (E ++ [(i : Int)]) N := by
  refine ⟨fun z hz => ?_, fun j h0 h1 => ?_⟩
  · rcases List.mem_append.mp hz with hz | hz
    · exact h.1 z hz
    · rw [List.mem_singleton.mp hz]; omega
  · obtain ⟨p, a1, a2, a3⟩ := h.2 j h0 h1
    have hp := (List.getElem?_eq_some_iff.mp a2).1
    refine ⟨p, a1, by rw [List.getElem?_append_left hp]; exact a2, fun q z hq hz => a3 q z hq ?_⟩
    rw [List.getElem?_append_left (by omega)] at hz
    exact hz
theorem Fc.new {W N : Nat} {E : List Int} (h : Fc W E N) (hN : 0 < N) (hE : E.length < N * W) : Fc W (E ++ [(N : Int)]) (N + 1) := by
  refine ⟨fun z hz => ?_, fun j h0 h1 => ?_⟩
  · rcases List.mem_append.mp hz with hz | hz
    · have := h.1 z hz; omega
    · rw [List.mem_singleton.mp hz]; omega
  · by_cases e : j = N
    · subst e
      refine ⟨E.length, hE, by rw [List.getElem?_append_right (Nat.le_refl _), Nat.sub_self]; rfl, fun q z hq hz => ?_⟩
      rw [List.getElem?_append_left hq] at hz
      exact (h.1 z (List.mem_of_getElem? hz)).2
    · obtain ⟨p, a1, a2, a3⟩ := h.2 j h0 (by omega)
      have hp := (List.getElem?_eq_some_iff.mp a2).1
      refine ⟨p, a1, by rw [List.getElem?_append_left hp]; exact a2, fun q z hq hz => a3 q z hq ?_⟩
      rw [List.getElem?_append_left (by omega)] at hz
      exact hz
theorem Fc.zero (W : Nat) : Fc W [] 1 := ⟨(fun z hz => by cases hz), (fun j h0 h1 => by omega)⟩
theorem flat_len {T : List (List Int)} {W : Nat} (h : ∀ (i : Nat) (r : List Int), T[i]? = some r → r.length = W) : T.flatten.length = T.length * W := by
  induction T with
  | nil => simp
  | cons r T ih =>
    rw [List.flatten_cons, List.length_append, h 0 r rfl, ih (fun i s hs => h (i + 1) s hs), List.length_cons, Nat.succ_mul]
    omega
theorem flat_at {W : Nat} (hW : 0 < W) : ∀ {T : List (List Int)} {i k : Nat} {r : List Int}, (∀ (i : Nat) (r : List Int), T[i]? = some r → r.length = W) → T[i]? = some r → k < W → T.flatten[i * W + k]? = r[k]?
  | [], i, k, r, _, hr, _ => by simp at hr
  | s :: T, 0, k, r, h, hr, hk => by
    have e : s = r := Option.some.inj hr
    subst e
    rw [List.flatten_cons, Nat.zero_mul, Nat.zero_add, List.getElem?_append_left (by rw [h 0 s rfl]; exact hk)]
  | s :: T, i + 1, k, r, h, hr, hk => by
    have hs := h 0 s rfl
    rw [List.flatten_cons, List.getElem?_append_right (by rw [hs, Nat.succ_mul]; omega), hs]
    have e : (i + 1) * W + k - W = i * W + k := by rw [Nat.succ_mul]; omega
    rw [e]
    exact flat_at hW (fun i r hr => h (i + 1) r hr) hr hk
def st (k : Nat) : Int := if k % 2 = 0 then ((k / 2 + 1 : Nat) : Int) else -((k / 2 + 1 : Nat) : Int)
theorem pl_st (k : Nat) : pl (st k) = k := by
  unfold pl st
  by_cases h : k % 2 = 0
  · rw [if_pos h, if_pos (by omega)]; omega
  · rw [if_neg h, if_neg (by omega)]; omega
theorem st_ok {k L : Nat} (h : k < 2 * L) : st k ≠ 0 ∧ (st k).natAbs ≤ L := by
  unfold st
  split <;> omega
def lexL : List Nat → List Nat → Prop
  | a :: u, b :: v => a < b ∨ (a = b ∧ lexL u v)
  | _, _ => False
def aheadN (u v : List Nat) : Prop := u.length < v.length ∨ (u.length = v.length ∧ lexL u v)
theorem lex_snoc : ∀ {u v : List Nat} {a b : Nat}, u.length = v.length → lexL u v → lexL (u ++ [a]) (v ++ [b])
  | x :: u, y :: v, a, b, hl, h => by
    rcases h with h | ⟨e, h⟩
    · exact .inl h
    · exact .inr ⟨e, lex_snoc (by simpa using hl) h⟩
theorem lex_last : ∀ {u : List Nat} {a b : Nat}, a < b → lexL (u ++ [a]) (u ++ [b])
  | [], a, b, h => .inl h
  | x :: u, a, b, h => .inr ⟨rfl, lex_last h⟩
theorem ahead_snoc {u v : List Nat} {a b : Nat} (h : aheadN u v) : aheadN (u ++ [a]) (v ++ [b]) := by
  rcases h with h | ⟨e, h⟩
  · exact .inl (by simp only [List.length_append, List.length_cons, List.length_nil]; omega)
  · exact .inr ⟨by simp only [List.length_append, List.length_cons, List.length_nil]; omega, lex_snoc e h⟩
theorem ahead_last {u : List Nat} {a b : Nat} (h : a < b) : aheadN (u ++ [a]) (u ++ [b]) := .inr ⟨by simp, lex_last h⟩
def Lw (L : Nat) (T : List (List Int)) (ws : List (List Nat)) : Prop := ws.length = T.length ∧ ws[0]? = some [] ∧
  ∀ (j p : Nat), 0 < j → j < T.length → T.flatten[p]? = some (j : Int) → (∀ (q : Nat) (z : Int), q < p → T.flatten[q]? = some z → z < (j : Int)) → ∃ u, ws[p / (2 * L)]? = some u ∧ ws[j]? = some (u ++ [p % (2 * L)])
section
variable {L : Nat} {T : List (List Int)} {ws : List (List Nat)} (hT : Tab L T) (hF : Fc (2 * L) T.flatten T.length) (hw : Lw L T ws)
include hT hF hw
theorem mono : ∀ (i' i : Nat), i < i' → i' < T.length → ∀ u v, ws[i]? = some u → ws[i']? = some v → aheadN u v := by
  have hL := hT.let1
  intro i'
  induction i' using Nat.strongRecOn with
  | _ i' ih =>
    intro i hlt hi' u v hu hv
    obtain ⟨p', a1, a2, a3⟩ := hF.2 i' (by omega) hi'
    obtain ⟨v0, b1, b2⟩ := hw.2.2 i' p' (by omega) hi' a2 a3
    have ev : v = v0 ++ [p' % (2 * L)] := Option.some.inj (hv.symm.trans b2)
    by_cases h0 : i = 0
    · subst h0
      have eu : u = [] := Option.some.inj (hu.symm.trans hw.2.1)
      rw [eu, ev]
      exact .inl (by simp)
    · obtain ⟨p, c1, c2, c3⟩ := hF.2 i (by omega) (by omega)
      obtain ⟨u0, d1, d2⟩ := hw.2.2 i p (by omega) (by omega) c2 c3
      have eu : u = u0 ++ [p % (2 * L)] := Option.some.inj (hu.symm.trans d2)
      have hpp : p < p' := by
        refine Classical.byContradiction fun hn => ?_
        by_cases e : p = p'
        · rw [e, a2] at c2
          have := Option.some.inj c2
          omega
        · have := c3 p' _ (by omega) a2
          omega
      have hrow : p' / (2 * L) < i' := by
        rw [Nat.div_lt_iff_lt_mul (by omega)]
        exact a1
      rw [eu, ev]
      by_cases er : p / (2 * L) = p' / (2 * L)
      · rw [er] at d1
        have e0 : u0 = v0 := Option.some.inj (d1.symm.trans b1)
        rw [e0]
        refine ahead_last ?_
        have h1 := Nat.div_add_mod p (2 * L)
        have h2 := Nat.div_add_mod p' (2 * L)
        rw [er] at h1
        omega
      · have hlt2 : p / (2 * L) < p' / (2 * L) := by
          have := Nat.div_le_div_right (c := 2 * L) (Nat.le_of_lt hpp)
          omega
        exact ahead_snoc (ih _ hrow _ hlt2 (by omega) _ _ d1 b1)
end
end M12
namespace M13
open M11 M12
structure Part (L : Nat) (T : List (List Int)) (ws : List (List Nat)) (p : Nat) : Prop where
  pos : ws[0]? = some []
  top : ws.length ≤ T.length
  all : ∀ (q : Nat) (z : Int), q < p → T.flatten[q]? = some z → z < (ws.length : Int)
  wrd : ∀ (j q : Nat), 0 < j → j < ws.length → T.flatten[q]? = some (j : Int) → (∀ (r : Nat) (z : Int), r < q → T.flatten[r]? = some z → z < (j : Int)) → ∃ u, ws[q / (2 * L)]? = some u ∧ ws[j]? = some (u ++ [q % (2 * L)])
  ok : ∀ (i : Nat) (u : List Nat), ws[i]? = some u → (∀ k ∈ u, k < 2 * L) ∧ walk T (u.map st) 0 = i ∧ u.length ≤ i
section
variable {L : Nat} {T : List (List Int)} {ws : List (List Nat)} {p : Nat} (hT : Tab L T) (hF : Fc (2 * L) T.flatten T.length)
include hT hF
theorem Part.start : Part L T [[]] 0 := by
  refine ⟨rfl, hT.pos, fun q z hq => by omega, fun j q h0 h1 => by simp at h1; omega, fun i u hu => ?_⟩
  have e := List.mem_singleton.mp (List.mem_of_getElem? hu)
  have hi : i = 0 := by
    have := (List.getElem?_eq_some_iff.mp hu).1
    simp only [List.length_cons, List.length_nil] at this
    omega
  subst e hi
  exact ⟨fun k hk => (by cases hk), rfl, Nat.le_refl _⟩
theorem Part.has (h : Part L T ws p) {i k : Nat} (hi : i < T.length) (hp : p = i * (2 * L) + k) : i < ws.length := by
  have h1 : 1 ≤ ws.length := (List.getElem?_eq_some_iff.mp h.pos).1
  refine Classical.byContradiction fun hn => ?_
  obtain ⟨q, a1, a2, a3⟩ := hF.2 ws.length (by omega) (by omega)
  have : ws.length * (2 * L) ≤ i * (2 * L) := Nat.mul_le_mul_right _ (by omega)
  have := h.all q _ (by omega) a2
  omega
theorem Part.step {i k : Nat} (h : Part L T ws (i * (2 * L) + k)) (hi : i < T.length) (hk : k < 2 * L) :
    (nx T k i ≠ ws.length → Part L T ws (i * (2 * L) + k + 1)) ∧ (nx T k i = ws.length → ∀ u, ws[i]? = some u → Part L T (ws ++ [u ++ [k]]) (i * (2 * L) + k + 1)) := by
  have hL := hT.let1
  have h1 : 1 ≤ ws.length := (List.getElem?_eq_some_iff.mp h.pos).1
  obtain ⟨r, e1, e2⟩ := hT.val i k hi hk
  have hat : T.flatten[i * (2 * L) + k]? = some ((nx T k i : Nat) : Int) := by
    rw [flat_at (by omega) hT.row e1 hk]
    exact e2
  have hlt := hT.lt i k hi hk
  have hiw := h.has hT hF hi rfl
  have hdiv : (i * (2 * L) + k) / (2 * L) = i := by
    rw [Nat.mul_comm, Nat.mul_add_div (by omega), Nat.div_eq_of_lt hk]
    omega
  have hmod : (i * (2 * L) + k) % (2 * L) = k := by
    rw [Nat.mul_comm, Nat.mul_add_mod, Nat.mod_eq_of_lt hk]
  refine ⟨fun hne => ?_, fun he u hu => ?_⟩
  · have hle : nx T k i < ws.length := by
      refine Classical.byContradiction fun hn => ?_
      obtain ⟨q, a1, a2, a3⟩ := hF.2 ws.length (by omega) (by omega)
      by_cases c1 : q < i * (2 * L) + k
      · have := h.all q _ c1 a2
        omega
      · by_cases c2 : q = i * (2 * L) + k
        · rw [c2, hat] at a2
          have := Option.some.inj a2
          omega
        · have := a3 _ _ (by omega) hat
          omega
    refine ⟨h.pos, h.top, fun q z hq hz => ?_, h.wrd, h.ok⟩
    by_cases c : q = i * (2 * L) + k
    · rw [c, hat] at hz
      have := Option.some.inj hz
      omega
    · exact h.all q z (by omega) hz
  · have hu' := h.ok i u hu
    refine ⟨by rw [List.getElem?_append_left (by omega)]; exact h.pos, by rw [List.length_append]; simp only [List.length_cons, List.length_nil]; omega, fun q z hq hz => ?_, fun j q h0 hj hq hr => ?_, fun i' v hv => ?_⟩
    · rw [List.length_append]
      simp only [List.length_cons, List.length_nil]
      by_cases c : q = i * (2 * L) + k
      · rw [c, hat] at hz
        have := Option.some.inj hz
        omega
      · have := h.all q z (by omega) hz
        omega
    · rw [List.length_append] at hj
      simp only [List.length_cons, List.length_nil] at hj
      by_cases c : j = ws.length
      · have hqp : q = i * (2 * L) + k := by
          by_cases c1 : q < i * (2 * L) + k
          · have := h.all q _ c1 hq
            omega
          · by_cases c2 : q = i * (2 * L) + k
            · exact c2
            · have := hr _ _ (by omega) hat
              omega
        refine ⟨u, ?_, ?_⟩
        · rw [hqp, hdiv, List.getElem?_append_left hiw]
          exact hu
        · rw [c, hqp, hmod, List.getElem?_append_right (Nat.le_refl _), Nat.sub_self]
          rfl
      · obtain ⟨v, b1, b2⟩ := h.wrd j q h0 (by omega) hq hr
        have hv1 := (List.getElem?_eq_some_iff.mp b1).1
        have hv2 := (List.getElem?_eq_some_iff.mp b2).1
        exact ⟨v, by rw [List.getElem?_append_left hv1]; exact b1, by rw [List.getElem?_append_left hv2]; exact b2⟩
    · by_cases c : i' < ws.length
      · rw [List.getElem?_append_left c] at hv
        exact h.ok i' v hv
      · have hl := (List.getElem?_eq_some_iff.mp hv).1
        rw [List.length_append] at hl
        simp only [List.length_cons, List.length_nil] at hl
        have ei : i' = ws.length := by omega
        subst ei
        rw [List.getElem?_append_right (Nat.le_refl _), Nat.sub_self] at hv
        have ev : u ++ [k] = v := Option.some.inj hv
        subst ev
        refine ⟨fun k' hk' => ?_, ?_, ?_⟩
        · rcases List.mem_append.mp hk' with hk' | hk'
          · exact hu'.1 k' hk'
          · rw [List.mem_singleton.mp hk']; exact hk
        · rw [List.map_append, walk_app, hu'.2.1]
          show nx T (pl (st k)) i = ws.length
          rw [pl_st]
          exact he
        · rw [List.length_append]
          simp only [List.length_cons, List.length_nil]
          have := hu'.2.2
          omega
theorem Part.le {i k : Nat} (h : Part L T ws (i * (2 * L) + k)) (hi : i < T.length) (hk : k < 2 * L) : nx T k i ≤ ws.length := by
  have hL := hT.let1
  obtain ⟨r, e1, e2⟩ := hT.val i k hi hk
  have hat : T.flatten[i * (2 * L) + k]? = some ((nx T k i : Nat) : Int) := by
    rw [flat_at (by omega) hT.row e1 hk]
    exact e2
  have hlt := hT.lt i k hi hk
  have h1 : 1 ≤ ws.length := (List.getElem?_eq_some_iff.mp h.pos).1
  refine Classical.byContradiction fun hn => ?_
  obtain ⟨q, a1, a2, a3⟩ := hF.2 ws.length (by omega) (by omega)
  by_cases c1 : q < i * (2 * L) + k
  · have := h.all q _ c1 a2
    omega
  · by_cases c2 : q = i * (2 * L) + k
    · rw [c2, hat] at a2
      have := Option.some.inj a2
      omega
    · have := a3 _ _ (by omega) hat
      omega
theorem Part.end_ (h : Part L T ws (T.length * (2 * L))) : Lw L T ws := by
  have h1 : 1 ≤ ws.length := (List.getElem?_eq_some_iff.mp h.pos).1
  have hl : ws.length = T.length := by
    refine Classical.byContradiction fun hn => ?_
    have ht := h.top
    obtain ⟨q, a1, a2, a3⟩ := hF.2 ws.length (by omega) (by omega)
    have : ws.length * (2 * L) ≤ T.length * (2 * L) := Nat.mul_le_mul_right _ ht
    have := h.all q _ (by omega) a2
    omega
  exact ⟨hl, h.pos, fun j q h0 h1 h2 h3 => h.wrd j q h0 (by omega) h2 h3⟩
end
end M13
namespace M14
open M11 M12
def Wy (W : Nat) (E : List Int) (ws : List (List Nat)) (N : Nat) : Prop := (ws.length = N ∧ ws[0]? = some [] ∧ ∀ (i : Nat) (u : List Nat), ws[i]? = some u → u.length ≤ i ∧ ∀ k ∈ u, k < W) ∧ ∀ j p : Nat, 0 < j → j < N → E[p]? = some (j : Int) → (∀ (q : Nat) (z : Int), q < p → E[q]? = some z → z < (j : Int)) → ∃ u, ws[p / W]? = some u ∧ ws[j]? = some (u ++ [p % W])
theorem Wy.zero (W : Nat) : Wy W [] [[]] 1 := by
  refine ⟨⟨rfl, rfl, fun i u h => ?_⟩, fun j p h0 h1 => by omega⟩
  have e := List.mem_singleton.mp (List.mem_of_getElem? h)
  rw [e]
  exact ⟨Nat.zero_le _, fun k hk => by cases hk⟩
theorem Wy.old {W N i : Nat} {E : List Int} {ws : List (List Nat)} (h : Wy W E ws N) (hF : Fc W E N) (hi : i < N) : Wy W (E ++ [(i : Int)]) ws N := by
  refine ⟨h.1, fun j p h0 h1 h2 h3 => ?_⟩
  obtain ⟨p0, a1, a2, a3⟩ := hF.2 j h0 h1
  have hp0 := (List.getElem?_eq_some_iff.mp a2).1
  by_cases hp : p < E.length
  · rw [List.getElem?_append_left hp] at h2
    refine h.2 j p h0 h1 h2 fun q z hq hz => h3 q z hq ?_
    rw [List.getElem?_append_left (by omega)]
    exact hz
  · have := h3 p0 (j : Int) (by omega) (by rw [List.getElem?_append_left hp0]; exact a2)
    omega
theorem Wy.new {W N : Nat} {E : List Int} {ws : List (List Nat)} {u : List Nat} (h : Wy W E ws N) (hF : Fc W E N) (hW : 0 < W) (hE : E.length < N * W) (hu : ws[E.length / W]? = some u) : Wy W (E ++ [(N : Int)]) (ws ++ [u ++ [E.length % W]]) (N + 1) := by
  obtain ⟨⟨hl, hz, hb⟩, h2⟩ := h
  have h1 := (List.getElem?_eq_some_iff.mp hz).1
  refine ⟨⟨by rw [List.length_append, hl]; rfl, by rw [List.getElem?_append_left h1]; exact hz, fun i v hv => ?_⟩, fun j p h0 h1 hj hq => ?_⟩
  · by_cases hi : i < ws.length
    · rw [List.getElem?_append_left hi] at hv
      exact hb i v hv
    · rw [List.getElem?_append_right (by omega)] at hv
      have e := List.mem_singleton.mp (List.mem_of_getElem? hv)
      have hi2 : E.length / W < N := (Nat.div_lt_iff_lt_mul hW).mpr hE
      obtain ⟨b1, b2⟩ := hb _ u hu
      rw [e]
      refine ⟨by rw [List.length_append, List.length_singleton]; omega, fun k hk => ?_⟩
      rcases List.mem_append.mp hk with hk | hk
      · exact b2 k hk
      · rw [List.mem_singleton.mp hk]
        exact Nat.mod_lt _ hW
  · by_cases hp : p < E.length
    · rw [List.getElem?_append_left hp] at hj
      have hjN := (hF.1 _ (List.mem_of_getElem? hj)).2
      obtain ⟨v, c1, c2⟩ := h2 j p h0 (by omega) hj fun q z hq' hz' => hq q z hq' (by rw [List.getElem?_append_left (by omega)]; exact hz')
      exact ⟨v, by rw [List.getElem?_append_left (List.getElem?_eq_some_iff.mp c1).1]; exact c1, by rw [List.getElem?_append_left (List.getElem?_eq_some_iff.mp c2).1]; exact c2⟩
    · have hpl := (List.getElem?_eq_some_iff.mp hj).1
      rw [List.length_append, List.length_singleton] at hpl
      have ep : p = E.length := by omega
      subst ep
      rw [List.getElem?_append_right (Nat.le_refl _), Nat.sub_self] at hj
      have ej : (N : Int) = (j : Int) := Option.some.inj hj
      have ej' : j = ws.length := by omega
      subst ej'
      exact ⟨u, by rw [List.getElem?_append_left (List.getElem?_eq_some_iff.mp hu).1]; exact hu, by rw [List.getElem?_append_right (Nat.le_refl _), Nat.sub_self]; rfl⟩
theorem Wy.lw {L : Nat} {T : List (List Int)} {ws : List (List Nat)} (h : Wy (2 * L) T.flatten ws T.length) : Lw L T ws := ⟨h.1.1, h.1.2.1, h.2⟩
end M14
namespace M15
open M11 M12
theorem st_one {a b : Nat} (h : st a = st b) : a = b := by
  have := congrArg pl h
  rw [pl_st, pl_st] at this
  exact this
theorem last_way {L : Nat} {T : List (List Int)} {ws : List (List Nat)} (hT : Tab L T) (hF : Fc (2 * L) T.flatten T.length) (hw : Lw L T ws) {j : Nat} {v : List Nat} (hj : ws[j]? = some v) (hv : v ≠ []) :
    ∃ (i k : Nat) (u : List Nat), i < T.length ∧ k < 2 * L ∧ ws[i]? = some u ∧ v = u ++ [k] ∧ nx T k i = j := by
  have hL := hT.let1
  have hjl : j < T.length := by rw [← hw.1]; exact (List.getElem?_eq_some_iff.mp hj).1
  have h0 : 0 < j := by
    rcases Nat.eq_zero_or_pos j with z | z
    · subst z
      rw [hw.2.1] at hj
      exact absurd (Option.some.inj hj).symm hv
    · exact z
  obtain ⟨p, a1, a2, a3⟩ := hF.2 j h0 hjl
  obtain ⟨u, b1, b2⟩ := hw.2.2 j p h0 hjl a2 a3
  rw [hj] at b2
  have hi : p / (2 * L) < T.length := by rw [← hw.1]; exact (List.getElem?_eq_some_iff.mp b1).1
  have hk : p % (2 * L) < 2 * L := Nat.mod_lt _ (by omega)
  refine ⟨p / (2 * L), p % (2 * L), u, hi, hk, b1, Option.some.inj b2, ?_⟩
  obtain ⟨r, e1, e2⟩ := hT.val _ _ hi hk
  have h1 := flat_at (W := 2 * L) (by omega) hT.row e1 hk
  rw [Nat.div_add_mod' p (2 * L), a2, e2] at h1
  have := Option.some.inj h1
  omega
theorem getLast_wd {u : List Nat} {k : Nat} : ((u ++ [k]).map st).getLast? = some (st k) := by rw [List.map_append]; simp
theorem tree_one {L : Nat} {T : List (List Int)} {ws : List (List Nat)} (hT : Tab L T) (hF : Fc (2 * L) T.flatten T.length) (hw : Lw L T ws) {i k : Nat} (hi : i < T.length) (hk : k < 2 * L) {u v : List Nat} (hu : ws[i]? = some u) (hv : ws[nx T k i]? = some v) :
    (v.map st).getLast? = some (st k) ↔ v.map st = u.map st ++ [st k] := by
  refine ⟨fun h => ?_, fun h => by rw [h]; simp⟩
  have hne : v ≠ [] := fun z => by rw [z] at h; cases h
  obtain ⟨i', k', u', a1, a2, a3, a4, a5⟩ := last_way hT hF hw hv hne
  subst a4
  rw [getLast_wd] at h
  have ek := st_one (Option.some.inj h)
  subst ek
  have e1 := hT.back i' k' a1 hk
  have e2 := hT.back i k' hi hk
  rw [a5, e2] at e1
  subst e1
  rw [hu] at a3
  rw [← Option.some.inj a3, List.map_append]
  rfl
theorem flip_lt {k L : Nat} (h : k < 2 * L) : M11.flip k < 2 * L := by
  unfold M11.flip
  split <;> omega
theorem tree_two {L : Nat} {T : List (List Int)} {ws : List (List Nat)} (hT : Tab L T) (hF : Fc (2 * L) T.flatten T.length) (hw : Lw L T ws) {i k : Nat} (hi : i < T.length) (hk : k < 2 * L) {u v : List Nat} (hu : ws[i]? = some u) (hv : ws[nx T k i]? = some v) :
    (u.map st).getLast? = some (st (M11.flip k)) ↔ u.map st = v.map st ++ [st (M11.flip k)] := by
  have hj := hT.lt i k hi hk
  have hb := hT.back i k hi hk
  have := tree_one hT hF hw hj (flip_lt hk) hv (v := u) (by rw [hb]; exact hu)
  exact this
end M15
namespace M16
def sn (w : List Int) (x : Int) : List Int := if w.getLast? = some (-x) then w.dropLast else w ++ [x]
def thin (ns : List Int) : List Int := ns.foldl sn []
def back (w : List Int) : List Int := w.reverse.map fun z => -z
theorem snoc_or : ∀ w : List Int, w = [] ∨ ∃ u b, w = u ++ [b]
  | [] => .inl rfl
  | a :: w => .inr (by
    rcases snoc_or w with rfl | ⟨u, b, rfl⟩
    · exact ⟨[], a, rfl⟩
    · exact ⟨a :: u, b, rfl⟩)
theorem sn_snoc (w : List Int) (b x : Int) : sn (w ++ [b]) x = if b = -x then w else w ++ [b] ++ [x] := by
  unfold sn
  rw [List.getLast?_concat, List.dropLast_concat]
  by_cases h : b = -x
  · rw [if_pos (by rw [h]), if_pos h]
  · rw [if_neg (fun z => h (Option.some.inj z)), if_neg h]
def Rd (w : List Int) : Prop := ∀ u b c v, w = u ++ [b] ++ [c] ++ v → b ≠ -c
theorem Rd.nil : Rd [] := fun u b c v h => by
  have := congrArg List.length h
  simp at this
theorem Rd.pre {w v : List Int} (h : Rd (w ++ v)) : Rd w := fun u b c x e => h u b c (x ++ v) (by rw [e]; simp)
theorem Rd.snoc {w : List Int} {x : Int} (h : Rd w) (hx : ∀ u b, w = u ++ [b] → b ≠ -x) : Rd (w ++ [x]) := fun u b c v e => by
  rcases snoc_or v with rfl | ⟨v', y, rfl⟩
  · rw [List.append_nil] at e
    have e1 := List.append_inj' e rfl
    have : x = c := by simpa using e1.2
    rw [← this]
    exact hx u b e1.1
  · have e' : w ++ [x] = (u ++ [b] ++ [c] ++ v') ++ [y] := by rw [e]; simp
    have e1 := List.append_inj' e' rfl
    exact h u b c v' e1.1
theorem Rd.sn {w : List Int} (h : Rd w) (x : Int) : Rd (sn w x) := by
  rcases snoc_or w with rfl | ⟨u, b, rfl⟩
  · exact Rd.nil.snoc fun u b e => by
      have := congrArg List.length e
      simp at this
  · rw [sn_snoc]
    by_cases hb : b = -x
    · rw [if_pos hb]; exact h.pre
    · rw [if_neg hb]
      exact h.snoc fun u' b' e => by
        have := (List.append_inj' e rfl).2
        have e2 : b = b' := by simpa using this
        rw [← e2]; exact hb
theorem Rd.fold : ∀ (ns w : List Int), Rd w → Rd (ns.foldl M16.sn w)
  | [], w, h => h
  | x :: ns, w, h => Rd.fold ns (M16.sn w x) (h.sn x)
theorem rd_thin (ns : List Int) : Rd (thin ns) := Rd.fold ns [] Rd.nil
theorem sn_cancel {w : List Int} (h : Rd w) (x : Int) : sn (sn w (-x)) x = w := by
  rcases snoc_or w with rfl | ⟨u, b, rfl⟩
  · show sn ([] ++ [-x]) x = []
    rw [sn_snoc, if_pos rfl]
  · rw [sn_snoc]
    by_cases hb : b = -(-x)
    · rw [if_pos hb]
      have hx : b = x := by omega
      subst hx
      rcases snoc_or u with rfl | ⟨v, c, rfl⟩
      · rfl
      · rw [sn_snoc, if_neg (h v c b [] (by simp))]
    · rw [if_neg hb, sn_snoc, if_pos rfl]
theorem thin_snoc (c : List Int) (x : Int) : thin (c ++ [x]) = sn (thin c) x := by
  unfold thin
  rw [List.foldl_append]
  rfl
theorem thin_app (a b : List Int) : thin (a ++ b) = b.foldl sn (thin a) := by
  unfold thin
  rw [List.foldl_append]
theorem fold_thin : ∀ (n : Nat) (b u : List Int), b.length = n → Rd u → b.foldl sn u = (thin b).foldl sn u := by
  intro n
  induction n with
  | zero =>
    intro b u hb hu
    cases b with
    | nil => rfl
    | cons _ _ => simp at hb
  | succ n ih =>
    intro b u hb hu
    rcases snoc_or b with rfl | ⟨c, x, rfl⟩
    · simp at hb
    have hc : c.length = n := by simpa using hb
    have hi := ih c u hc hu
    rw [List.foldl_append, thin_snoc]
    show sn (c.foldl sn u) x = _
    rw [hi]
    generalize thin c = t
    rcases snoc_or t with rfl | ⟨v, y, rfl⟩
    · rfl
    · rw [sn_snoc]
      by_cases hy : y = -x
      · rw [if_pos hy, List.foldl_append]
        show sn (sn (v.foldl sn u) y) x = _
        rw [hy]
        exact sn_cancel (Rd.fold v u hu) x
      · rw [if_neg hy]
        simp [List.foldl_append]
theorem congr {a a' b b' : List Int} (h : thin a = thin a') (h' : thin b = thin b') : thin (a ++ b) = thin (a' ++ b') := by
  rw [thin_app, thin_app, h, fold_thin _ b _ rfl (rd_thin _), fold_thin _ b' _ rfl (rd_thin _), h']
section
variable (F : Int → List Int) (hF : ∀ n, n ≠ 0 → F (-n) = back (F n))
include hF
end
end M16
namespace M17
def it (f : Nat → Nat) : Nat → Nat → Nat
  | 0, x => x
  | n + 1, x => f (it f n x)
theorem it_add (f : Nat → Nat) (m : Nat) : ∀ (n x : Nat), it f (m + n) x = it f n (it f m x)
  | 0, x => rfl
  | n + 1, x => congrArg f (it_add f m n x)
theorem it_lt {f : Nat → Nat} {p : Nat} (h : ∀ x, x < p → f x < p) : ∀ (n x : Nat), x < p → it f n x < p
  | 0, x, hx => hx
  | n + 1, x, hx => h _ (it_lt h n x hx)
theorem it_inj {f : Nat → Nat} {p : Nat} (h : ∀ x, x < p → f x < p) (hi : ∀ x y, x < p → y < p → f x = f y → x = y) : ∀ (n x y : Nat), x < p → y < p → it f n x = it f n y → x = y
  | 0, x, y, _, _, e => e
  | n + 1, x, y, hx, hy, e => it_inj h hi n x y hx hy (hi _ _ (it_lt h n x hx) (it_lt h n y hy) e)
theorem it_mul {f : Nat → Nat} {c x : Nat} (h : it f c x = x) : ∀ k, it f (c * k) x = x
  | 0 => rfl
  | k + 1 => by
    rw [Nat.mul_succ, it_add, it_mul h k, h]
theorem ring {f : Nat → Nat} {p x : Nat} (h : ∀ x, x < p → f x < p) (hi : ∀ x y, x < p → y < p → f x = f y → x = y) (hx : x < p) : ∃ c, 1 ≤ c ∧ c ≤ p ∧ it f c x = x := by
  refine Classical.byContradiction fun hn => ?_
  have ne : ∀ i j, i < j → j ≤ p → it f i x ≠ it f j x := fun i j hij hj e => by
    refine hn ⟨j - i, by omega, by omega, ?_⟩
    have e2 : it f j x = it f i (it f (j - i) x) := by rw [← it_add, show j - i + i = j by omega]
    rw [e2] at e
    exact (it_inj h hi i x _ hx (it_lt h _ x hx) e).symm
  have nd : ((List.range (p + 1)).map fun i => ((it f i x : Nat) : Int)).Nodup := by
    rw [List.nodup_iff_pairwise_ne, List.pairwise_map]
    refine List.Pairwise.imp_of_mem (R := fun a b => a < b) (fun ha hb hab e => ?_) List.pairwise_lt_range
    have := List.mem_range.mp hb
    exact ne _ _ hab (by omega) (by omega)
  have := M11.nodup_lenI (n := p) nd fun z hz => by
    obtain ⟨i, _, rfl⟩ := List.mem_map.mp hz
    have := it_lt h i x hx
    omega
  rw [List.length_map, List.length_range] at this
  omega
theorem sixty {f : Nat → Nat} {p : Nat} (hp : p ≤ 6) (h : ∀ x, x < p → f x < p) (hi : ∀ x y, x < p → y < p → f x = f y → x = y) (x : Nat) (hx : x < p) : it f 60 x = x := by
  obtain ⟨c, c1, c2, e⟩ := ring h hi hx
  have hc : c = 1 ∨ c = 2 ∨ c = 3 ∨ c = 4 ∨ c = 5 ∨ c = 6 := by omega
  rcases hc with rfl | rfl | rfl | rfl | rfl | rfl
  · exact it_mul e 60
  · exact it_mul e 30
  · exact it_mul e 20
  · exact it_mul e 15
  · exact it_mul e 12
  · exact it_mul e 10
end M17
namespace K63
open PySem L2
def top (i : Nat) : Stmt := PySem.Challenge.pw_cosetyard_k63_inner_rules.main.body.getD i (.Pass ⟨0, 0, 0, 0⟩)
abbrev s_steps_of : Stmt := top 1
abbrev s_thinned : Stmt := top 2
abbrev s_place_of : Stmt := top 4
abbrev s_least_ways : Stmt := top 6
abbrev s_inner_letters : Stmt := top 8
abbrev s_inner_rules : Stmt := top 9
abbrev s_is_tree_way : Stmt := top 10
abbrev s_inner_numbers : Stmt := top 11
abbrev s_places_of : Stmt := top 12
abbrev s_told_by : Stmt := top 13
abbrev s__law_cell_at : Stmt := top 15
abbrev s__law_whole : Stmt := top 16
abbrev s__law_turning : Stmt := top 17
abbrev s__law_moved : Stmt := top 18
abbrev s__law_rounds : Stmt := top 19
abbrev s__law_rules : Stmt := top 20
abbrev s__law_steps : Stmt := top 21
abbrev s__law_table_of : Stmt := top 22
abbrev s__law_thin : Stmt := top 23
abbrev s__law_back : Stmt := top 24
abbrev s__law_led : Stmt := top 25
abbrev s__law_inner : Stmt := top 26
abbrev s__law_drawn : Stmt := top 27
abbrev s__law_told : Stmt := top 28
abbrev s__law_alike : Stmt := top 29
abbrev s_law : Stmt := top 30
structure Adr where
  f_steps_of : Addr
  d_steps_of : FuncData
  f_thinned : Addr
  d_thinned : FuncData
  f_place_of : Addr
  d_place_of : FuncData
  f_least_ways : Addr
  d_least_ways : FuncData
  f_inner_letters : Addr
  d_inner_letters : FuncData
  f_inner_rules : Addr
  d_inner_rules : FuncData
  f_is_tree_way : Addr
  d_is_tree_way : FuncData
  f_inner_numbers : Addr
  d_inner_numbers : FuncData
  f_places_of : Addr
  d_places_of : FuncData
  f_told_by : Addr
  d_told_by : FuncData
  f__law_cell_at : Addr
  d__law_cell_at : FuncData
  f__law_whole : Addr
  d__law_whole : FuncData
  f__law_turning : Addr
  d__law_turning : FuncData
  f__law_moved : Addr
  d__law_moved : FuncData
  f__law_rounds : Addr
  d__law_rounds : FuncData
  f__law_rules : Addr
  d__law_rules : FuncData
  f__law_steps : Addr
  d__law_steps : FuncData
  f__law_table_of : Addr
  d__law_table_of : FuncData
  f__law_thin : Addr
  d__law_thin : FuncData
  f__law_back : Addr
  d__law_back : FuncData
  f__law_led : Addr
  d__law_led : FuncData
  f__law_inner : Addr
  d__law_inner : FuncData
  f__law_drawn : Addr
  d__law_drawn : FuncData
  f__law_told : Addr
  d__law_told : FuncData
  f__law_alike : Addr
  d__law_alike : FuncData
  f_law : Addr
  d_law : FuncData
structure Txt (K : PySem.W.Frag) (mg : Str → Option Value) (A : Adr) : Prop where
  steps_of : Def K mg "steps_of" s_steps_of ["letters"] A.f_steps_of A.d_steps_of
  thinned : Def K mg "thinned" s_thinned ["word"] A.f_thinned A.d_thinned
  place_of : Def K mg "place_of" s_place_of ["step"] A.f_place_of A.d_place_of
  least_ways : Def K mg "least_ways" s_least_ways ["table"] A.f_least_ways A.d_least_ways
  inner_letters : Def K mg "inner_letters" s_inner_letters ["table"] A.f_inner_letters A.d_inner_letters
  inner_rules : Def K mg "inner_rules" s_inner_rules ["table", "rules"] A.f_inner_rules A.d_inner_rules
  is_tree_way : Def K mg "is_tree_way" s_is_tree_way ["ways", "room", "step", "other"] A.f_is_tree_way A.d_is_tree_way
  inner_numbers : Def K mg "inner_numbers" s_inner_numbers ["table"] A.f_inner_numbers A.d_inner_numbers
  places_of : Def K mg "places_of" s_places_of ["word"] A.f_places_of A.d_places_of
  told_by : Def K mg "told_by" s_told_by ["numbers", "table", "room", "places"] A.f_told_by A.d_told_by
  _law_cell_at : Def K mg "_law_cell_at" s__law_cell_at ["_law_script", "_law_k"] A.f__law_cell_at A.d__law_cell_at
  _law_whole : Def K mg "_law_whole" s__law_whole ["_law_found"] A.f__law_whole A.d__law_whole
  _law_turning : Def K mg "_law_turning" s__law_turning ["_law_number", "_law_many", "_law_plain"] A.f__law_turning A.d__law_turning
  _law_moved : Def K mg "_law_moved" s__law_moved ["_law_turns", "_law_point", "_law_word"] A.f__law_moved A.d__law_moved
  _law_rounds : Def K mg "_law_rounds" s__law_rounds ["_law_turns", "_law_points", "_law_word"] A.f__law_rounds A.d__law_rounds
  _law_rules : Def K mg "_law_rules" s__law_rules ["_law_turns", "_law_letters", "_law_mask", "_law_room"] A.f__law_rules A.d__law_rules
  _law_steps : Def K mg "_law_steps" s__law_steps ["_law_letters"] A.f__law_steps A.d__law_steps
  _law_table_of : Def K mg "_law_table_of" s__law_table_of ["_law_turns", "_law_letters", "_law_first"] A.f__law_table_of A.d__law_table_of
  _law_thin : Def K mg "_law_thin" s__law_thin ["_law_word"] A.f__law_thin A.d__law_thin
  _law_back : Def K mg "_law_back" s__law_back ["_law_word"] A.f__law_back A.d__law_back
  _law_led : Def K mg "_law_led" s__law_led ["_law_table", "_law_room", "_law_word"] A.f__law_led A.d__law_led
  _law_inner : Def K mg "_law_inner" s__law_inner ["_law_table", "_law_ways"] A.f__law_inner A.d__law_inner
  _law_drawn : Def K mg "_law_drawn" s__law_drawn ["_law_script"] A.f__law_drawn A.d__law_drawn
  _law_told : Def K mg "_law_told" s__law_told ["_law_table", "_law_letters", "_law_room", "_law_word"] A.f__law_told A.d__law_told
  _law_alike : Def K mg "_law_alike" s__law_alike ["_law_found", "_law_due"] A.f__law_alike A.d__law_alike
  law : Def K mg "law" s_law ["_law_script"] A.f_law A.d_law
  z_zip : mg "zip" = none
  z_abs : mg "abs" = none
  z_range : mg "range" = none
  z_len : mg "len" = none
  z_tuple : mg "tuple" = none
  z_list : mg "list" = none
  z_isinstance : mg "isinstance" = none
  z_int : mg "int" = none
  z_bool : mg "bool" = none
  z_enumerate : mg "enumerate" = none
theorem sc_steps_of : FnScope ["letters", "steps", "letter"] ["letters"] (defScope s_steps_of) := ⟨rfl, rfl, rfl, by decide +kernel, rfl, by decide +kernel, by decide +kernel⟩
theorem sc_thinned : FnScope ["word", "left", "step"] ["word"] (defScope s_thinned) := ⟨rfl, rfl, rfl, by decide +kernel, rfl, by decide +kernel, by decide +kernel⟩
theorem sc_place_of : FnScope ["step"] ["step"] (defScope s_place_of) := ⟨rfl, rfl, rfl, by decide +kernel, rfl, by decide +kernel, by decide +kernel⟩
theorem sc_least_ways : FnScope ["table", "steps", "ways", "room", "row", "step", "other"] ["table"] (defScope s_least_ways) := ⟨rfl, rfl, rfl, by decide +kernel, rfl, by decide +kernel, by decide +kernel⟩
theorem sc_inner_letters : FnScope ["table", "ways", "found", "room", "row", "letter"] ["table"] (defScope s_inner_letters) := ⟨rfl, rfl, rfl, by decide +kernel, rfl, by decide +kernel, by decide +kernel⟩
theorem sc_inner_rules : FnScope ["table", "rules", "numbers", "walks", "found", "room", "places", "told"] ["table", "rules"] (defScope s_inner_rules) := ⟨rfl, rfl, rfl, by decide +kernel, rfl, by decide +kernel, by decide +kernel⟩
theorem sc_is_tree_way : FnScope ["ways", "room", "step", "other"] ["ways", "room", "step", "other"] (defScope s_is_tree_way) := ⟨rfl, rfl, rfl, by decide +kernel, rfl, by decide +kernel, by decide +kernel⟩
theorem sc_inner_numbers : FnScope ["table", "numbers", "number", "way", "room", "letter", "other"] ["table"] (defScope s_inner_numbers) := ⟨rfl, rfl, rfl, by decide +kernel, rfl, by decide +kernel, by decide +kernel⟩
theorem sc_places_of : FnScope ["word"] ["word"] (defScope s_places_of) := ⟨rfl, rfl, rfl, by decide +kernel, rfl, by decide +kernel, by decide +kernel⟩
theorem sc_told_by : FnScope ["numbers", "table", "room", "places", "told", "place", "number"] ["numbers", "table", "room", "places"] (defScope s_told_by) := ⟨rfl, rfl, rfl, by decide +kernel, rfl, by decide +kernel, by decide +kernel⟩
theorem sc__law_cell_at : FnScope ["_law_script", "_law_k"] ["_law_script", "_law_k"] (defScope s__law_cell_at) := ⟨rfl, rfl, rfl, by decide +kernel, rfl, by decide +kernel, by decide +kernel⟩
theorem sc__law_whole : FnScope ["_law_found"] ["_law_found"] (defScope s__law_whole) := ⟨rfl, rfl, rfl, by decide +kernel, rfl, by decide +kernel, by decide +kernel⟩
theorem sc__law_turning : FnScope ["_law_number", "_law_many", "_law_plain", "_law_by", "_law_some", "_law_turned"] ["_law_number", "_law_many", "_law_plain"] (defScope s__law_turning) := ⟨rfl, rfl, rfl, by decide +kernel, rfl, by decide +kernel, by decide +kernel⟩
theorem sc__law_moved : FnScope ["_law_turns", "_law_point", "_law_word", "_law_step"] ["_law_turns", "_law_point", "_law_word"] (defScope s__law_moved) := ⟨rfl, rfl, rfl, by decide +kernel, rfl, by decide +kernel, by decide +kernel⟩
theorem sc__law_rounds : FnScope ["_law_turns", "_law_points", "_law_word", "_law_count", "_law_spots"] ["_law_turns", "_law_points", "_law_word"] (defScope s__law_rounds) := ⟨rfl, rfl, rfl, by decide +kernel, rfl, by decide +kernel, by decide +kernel⟩
theorem sc__law_rules : FnScope ["_law_turns", "_law_letters", "_law_mask", "_law_room", "_law_words", "_law_k", "_law_j", "_law_found", "_law_word", "_law_often"] ["_law_turns", "_law_letters", "_law_mask", "_law_room"] (defScope s__law_rules) := ⟨rfl, rfl, rfl, by decide +kernel, rfl, by decide +kernel, by decide +kernel⟩
theorem sc__law_steps : FnScope ["_law_letters", "_law_found", "_law_letter"] ["_law_letters"] (defScope s__law_steps) := ⟨rfl, rfl, rfl, by decide +kernel, rfl, by decide +kernel, by decide +kernel⟩
theorem sc__law_table_of : FnScope ["_law_turns", "_law_letters", "_law_first", "_law_come", "_law_ways", "_law_table", "_law_point", "_law_way", "_law_row", "_law_step", "_law_other"] ["_law_turns", "_law_letters", "_law_first"] (defScope s__law_table_of) := ⟨rfl, rfl, rfl, by decide +kernel, rfl, by decide +kernel, by decide +kernel⟩
theorem sc__law_thin : FnScope ["_law_word", "_law_kept", "_law_step"] ["_law_word"] (defScope s__law_thin) := ⟨rfl, rfl, rfl, by decide +kernel, rfl, by decide +kernel, by decide +kernel⟩
theorem sc__law_back : FnScope ["_law_word"] ["_law_word"] (defScope s__law_back) := ⟨rfl, rfl, rfl, by decide +kernel, rfl, by decide +kernel, by decide +kernel⟩
theorem sc__law_led : FnScope ["_law_table", "_law_room", "_law_word", "_law_step"] ["_law_table", "_law_room", "_law_word"] (defScope s__law_led) := ⟨rfl, rfl, rfl, by decide +kernel, rfl, by decide +kernel, by decide +kernel⟩
theorem sc__law_inner : FnScope ["_law_table", "_law_ways", "_law_letters", "_law_words", "_law_room", "_law_row", "_law_at", "_law_step", "_law_other"] ["_law_table", "_law_ways"] (defScope s__law_inner) := ⟨rfl, rfl, rfl, by decide +kernel, rfl, by decide +kernel, by decide +kernel⟩
theorem sc__law_drawn : FnScope ["_law_script", "_law_plain", "_law_many", "_law_letters", "_law_turns", "_law_k"] ["_law_script"] (defScope s__law_drawn) := ⟨rfl, rfl, rfl, by decide +kernel, rfl, by decide +kernel, by decide +kernel⟩
theorem sc__law_told : FnScope ["_law_table", "_law_letters", "_law_room", "_law_word", "_law_told_here", "_law_step", "_law_other"] ["_law_table", "_law_letters", "_law_room", "_law_word"] (defScope s__law_told) := ⟨rfl, rfl, rfl, by decide +kernel, rfl, by decide +kernel, by decide +kernel⟩
theorem sc__law_alike : FnScope ["_law_found", "_law_due", "_law_some", "_law_number"] ["_law_found", "_law_due"] (defScope s__law_alike) := ⟨rfl, rfl, rfl, by decide +kernel, rfl, by decide +kernel, by decide +kernel⟩
theorem sc_law : FnScope ["_law_script", "_law_letters", "_law_turns", "_law_first", "_law_table", "_law_ways", "_law_rules_here", "_law_inner_here", "_law_due", "_law_room", "_law_rule", "_law_told_here", "_law_handed", "_law_found"] ["_law_script"] (defScope s_law) := ⟨rfl, rfl, rfl, by decide +kernel, rfl, by decide +kernel, by decide +kernel⟩
section
variable {P : Program} {w : World} {K : PySem.W.Frag} {mg : Str → Option Value} {base : Heap} {A : Adr}
def spAt (K : PySem.W.Frag) : Sp := fun vs H Q _ => ∃ (a : Addr) (ns : List Int) (k : Nat), vs = [.ref a, .int k] ∧ SqL K H a (intV ns) ∧ k ≤ 1000 ∧ ∀ z, Q (.int z) H
def spWhole : Sp := fun vs H Q _ => ∃ i : Int, vs = [.int i] ∧ Q (.bl true) H
theorem star_c {c : PySem.Const} {j : Nat} {p : PySem.Pos} {es : List PySem.Expr} {env : PySem.Env} : PySem.starEach (.Constant c j p :: es) env = (false, PySem.eval (.Constant c j p) env) :: PySem.starEach es env := rfl
def spLaw (K : PySem.W.Frag) : Sp := fun vs H Q _ => ∃ (a : Addr) (ns : List Int), vs = [.ref a] ∧ SqL K H a (ns.map V.int) ∧ ns.length ≤ 63 ∧ ∀ H', Q (.bl true) H'
theorem ref_at {rs : List Addr} {i : Nat} {r : Addr} (h : rs[i]? = some r) : atI (rs.map V.ref) (i : Int) = some (V.ref r) := atI_nat (by rw [List.getElem?_map, h]; rfl)
def spTurnP : Sp := fun vs H Q _ => ∃ (z : Int) (m : Nat) (b : Bool), vs = [.int z, .int m, .bl b] ∧ 1 ≤ m ∧ m ≤ 100 ∧ 0 ≤ z ∧ ∀ l r H', Same H H' → H' l = some (.lst (intV r)) → M11.Pm m r → Q (.ref l) H'
def sf (rows : List (List Int)) (x : Nat) (s : Int) : Nat := if 0 < s then ((rows.getD (s.natAbs - 1) []).getD x 0).toNat else (rows.getD (s.natAbs - 1) []).findIdx (fun z => z == (x : Int))
def spMoved : Sp := fun vs H Q _ => ∃ (a wa : Addr) (rows : List (List Int)) (p x : Nat) (w : List Int), vs = [.ref a, .int x, .ref wa] ∧ TabAt H a rows ∧ (∀ r ∈ rows, M11.Pm p r) ∧ x < p ∧ p ≤ 1000 ∧ H wa = some (.tup (intV w)) ∧ M11.Steps rows.length w ∧ rows.length ≤ 1000 ∧ Q (.int ((w.foldl (sf rows) x : Nat) : Int)) H
def stL (n : Nat) : List Int := (List.range n).map M12.st
theorem stL_len (n : Nat) : (stL n).length = n := by unfold stL; rw [List.length_map, List.length_range]
theorem stL_at {n i : Nat} (h : i < n) : (stL n)[i]? = some (M12.st i) := by
  unfold stL
  rw [List.getElem?_map, List.getElem?_range h]
  rfl
theorem stL_two (i : Nat) : stL (2 * i) ++ [1 + (i : Int)] ++ [-(1 + (i : Int))] = stL (2 * (i + 1)) := by
  have e : 2 * (i + 1) = 2 * i + 1 + 1 := by omega
  rw [e]
  unfold stL
  rw [List.range_succ, List.range_succ, List.map_append, List.map_append]
  have e1 : M12.st (2 * i) = 1 + (i : Int) := by unfold M12.st; rw [if_pos (by omega)]; omega
  have e2 : M12.st (2 * i + 1) = -(1 + (i : Int)) := by unfold M12.st; rw [if_neg (by omega)]; omega
  show _ = (List.range (2 * i)).map M12.st ++ [M12.st (2 * i)] ++ [M12.st (2 * i + 1)]
  rw [e1, e2]
def spSteps : Sp := fun vs H Q _ => ∃ L : Nat, vs = [.int L] ∧ 1 ≤ L ∧ L ≤ 200 ∧ ∀ l H', Same H H' → H l = none → H' l = some (.lst (intV (stL (2 * L)))) → Q (.ref l) H'
theorem ok__law_whole (T : Txt K mg A) : FnOk P w K mg base CX0 1 A.f__law_whole A.d__law_whole ["_law_found"] spWhole := by
  refine T._law_whole.F.ok sc__law_whole (fun vs H Q E h => ?_) (fun cdv AA outer s H vs Q E hr h => ?_)
  · obtain ⟨i, rfl, _⟩ := h
    rfl
  · obtain ⟨i, rfl, k⟩ := h
    refine ⟨_, (pss_one (ps_ret (pe_and (pe_callB call_isi rfl T.z_isinstance PyProof.Rows.boot_isinstance (pa_cons (pv 0) (pa_cons (pe_bltn (v := .ty "int") rfl T.z_int PyProof.Rows.boot_int rfl) pa_nil))) (pe_one (pe_not (pe_callB call_isi rfl T.z_isinstance PyProof.Rows.boot_isinstance (pa_cons (pv 0) (pa_cons (pe_bltn (v := .ty "bool") rfl T.z_bool PyProof.Rows.boot_bool rfl) pa_nil)))))))), ?_⟩
    refine ⟨_, rfl, _, _, _, _, rfl, .int i, kit_self _ _, true, rfl, iteT ?_⟩
    exact ⟨_, rfl, _, _, _, _, rfl, .int i, kit_int_bool _, false, rfl, k⟩
theorem ok__law_cell_at (T : Txt K mg A) : FnOk P w K mg base CX0 1 A.f__law_cell_at A.d__law_cell_at ["_law_script", "_law_k"] (spAt K) := by
  refine T._law_cell_at.F.ok sc__law_cell_at (fun vs H Q E h => ?_) (fun cdv AA outer s H vs Q E hr h => ?_)
  · obtain ⟨a, ns, n, rfl, _⟩ := h
    rfl
  · obtain ⟨a, ns, n, rfl, ha, hn, k⟩ := h
    refine ⟨_, (pss_cons (ps_if (pt_cmpR op_lt (pv 1) (pe_callB call_len_seq rfl T.z_len PySem.boot_len (pa_cons (pv 0) pa_nil)) (nomark _))
        (pss_one (ps_ret (pe_ix ix_list (pv 0) (pv 1) (fun _ _ => rfl))))
        pss_nil)
      (pss_one (ps_ret pe_int))), ?_⟩
    refine ⟨_, rfl, _, rfl, a, _, rfl, .inl ha, _, _, rfl, rfl, _, rfl, ?_⟩
    refine ite2 (fun h => ?_) (fun h => ?_)
    · have h' : (n : Int) < ((intV ns).length : Int) := of_decide_eq_true h
      rw [ints_len] at h'
      have e0 : ns[n]? = some ns[n] := List.getElem?_eq_getElem (by omega)
      exact ⟨_, rfl, _, rfl, a, _, _, _, rfl, rfl, ha, atI_nat (ints_at e0), k _⟩
    · exact k _
def natV (n : Nat) : List V := (List.range n).map fun i : Nat => V.int (i : Int)
theorem natV_len (n : Nat) : (natV n).length = n := by unfold natV; rw [List.length_map, List.length_range]
theorem natV_at {n i : Nat} (h : i < n) : (natV n)[i]? = some (V.int (i : Int)) := by
  unfold natV
  rw [List.getElem?_map, List.getElem?_range h]
  rfl
theorem natV_of {n i : Nat} {x : V} (h : (natV n)[i]? = some x) : i < n ∧ x = V.int (i : Int) := by
  have hi : i < n := by
    have := (List.getElem?_eq_some_iff.mp h).1
    rw [natV_len] at this
    exact this
  rw [natV_at hi] at h
  exact ⟨hi, (Option.some.inj h).symm⟩
theorem comp_range {H1 : Hp} {fv : St} {te : TE} {Q : VK} {n : Nat} (g : Nat → Int) (hn : n ≤ 1000) (he : ∀ i : Nat, i < n → ∀ R : VK, R (.int (g i)) H1 → te (some (.int (i : Int)) :: fv) H1 R) (hQ : ∀ D, H1 D = none → Q (.ref D) (upd H1 D (.lst (intV ((List.range n).map g))))) : CompGo te fv Q (Itr 0 n) H1 := by
  refine comp_pure (natV n) (fun v => match v with | .int z => .int (g z.toNat) | v => v) (fun i hi => by rw [natV_len] at hi; exact hi) (fun i x H3 hi y => ?_) (by rw [natV_len]; exact Nat.le_refl _) (by rw [natV_len]; exact Nat.le_trans hn (by decide)) (fun i x hx R hR => ?_) (fun D hD => ?_)
  · rw [natV_len] at hi
    obtain ⟨e1, e2⟩ := y
    refine ⟨by first | exact e1 | exact e2, ?_⟩
    rw [natV_at hi]
    congr 1
    first
    | (rw [e2, Int.zero_add])
    | (rw [e1, Int.zero_add])
  · obtain ⟨hi, rfl⟩ := natV_of hx
    refine he i hi R ?_
    have : R (V.int (g ((i : Int)).toNat)) H1 := hR
    rw [Int.toNat_natCast] at this
    exact this
  · have e : ((natV n).map fun v => match v with | .int z => V.int (g z.toNat) | v => v) = intV ((List.range n).map g) := by
      unfold natV intV
      rw [List.map_map, List.map_map]
      rfl
    rw [e]
    exact hQ D hD
theorem ixN_nat {n i : Nat} (h : i < n) : ixN n (i : Int) = some i := by
  unfold ixN
  rw [if_pos (by omega), if_pos (by omega), Int.toNat_natCast]
theorem ints_set (ns : List Int) (i : Nat) (z : Int) : (intV ns).set i (.int z) = intV (ns.set i z) := by
  unfold intV
  rw [List.map_set]
theorem pm_rng {p : Nat} : M11.Pm p (rng 0 p) := by
  refine ⟨rng_len 0 p, ?_, fun z hz => ?_⟩
  · unfold rng
    exact List.Pairwise.map _ (fun a b (hab : a ≠ b) (z : (0 : Int) + (a : Int) = 0 + (b : Int)) => hab (by omega)) List.nodup_range
  · unfold rng at hz
    obtain ⟨i, hi, rfl⟩ := List.mem_map.mp hz
    have := List.mem_range.mp hi
    omega
theorem emod_inj {m : Nat} {a b : Nat} {c : Int} (ha : a < m) (hb : b < m) (h : (c + (a : Int)) % (m : Int) = (c + (b : Int)) % (m : Int)) : a = b := by
  have h1 := Int.emod_emod_of_dvd (c + (a : Int)) (Int.dvd_refl (m : Int))
  have hd : (m : Int) ∣ (c + (a : Int)) - (c + (b : Int)) := Int.dvd_of_emod_eq_zero (by rw [Int.sub_emod, h, Int.sub_self]; rfl)
  obtain ⟨q, hq⟩ := hd
  have hq0 : q = 0 := by
    refine Classical.byContradiction fun hn => ?_
    have : (m : Int) ≤ ((m : Int) * q).natAbs := by
      rw [Int.natAbs_mul]
      have : 1 ≤ q.natAbs := by omega
      have := Nat.mul_le_mul_left m this
      rw [Nat.mul_one] at this
      show (m : Int) ≤ ((m * q.natAbs : Nat) : Int)
      omega
    omega
  rw [hq0, Int.mul_zero] at hq
  omega
theorem pm_of {m : Nat} {g : Nat → Int} (hr : ∀ i, i < m → 0 ≤ g i ∧ g i < (m : Int)) (hi : ∀ i j, i < m → j < m → g i = g j → i = j) : M11.Pm m ((List.range m).map g) := by
  refine ⟨by rw [List.length_map, List.length_range], ?_, fun z hz => ?_⟩
  · refine List.pairwise_map.mpr (List.Pairwise.imp_of_mem ?_ List.nodup_range)
    intro a b ha hb hab z
    exact hab (hi a b (List.mem_range.mp ha) (List.mem_range.mp hb) z)
  · obtain ⟨i, hi2, rfl⟩ := List.mem_map.mp hz
    exact hr i (List.mem_range.mp hi2)
theorem pm_perm {m : Nat} {r : List Int} (h : r.Perm (rng 0 m)) : M11.Pm m r := by
  have hp : M11.Pm m (rng 0 m) := pm_rng
  exact ⟨by rw [h.length_eq, hp.len], h.nodup_iff.mpr hp.nd, fun z hz => hp.rg z (h.mem_iff.mp hz)⟩
theorem erase_cons : ∀ {s : List Int} {k : Nat} {x : Int}, s[k]? = some x → (x :: s.eraseIdx k).Perm s
  | [], k, x, h => by simp at h
  | a :: s, 0, x, h => by
    have e : a = x := Option.some.inj h
    subst e
    exact List.Perm.refl _
  | a :: s, k + 1, x, h => (List.Perm.swap a x (s.eraseIdx k)).trans ((erase_cons (s := s) h).cons a)
theorem erase_perm {t s : List Int} {k : Nat} {x : Int} (h : s[k]? = some x) : ((t ++ [x]) ++ s.eraseIdx k).Perm (t ++ s) := by
  rw [List.append_assoc]
  exact List.Perm.append_left t (erase_cons h)
theorem seqIx {n k : Nat} (h : k < n) : seqIndex? (k : Int) n = some k := (ixN_seq (ixN_nat h)).1
theorem ints_erase : ∀ (ns : List Int) (k : Nat), (intV ns).eraseIdx k = intV (ns.eraseIdx k)
  | [], _ => rfl
  | a :: ns, 0 => rfl
  | a :: ns, k + 1 => by
    show V.int a :: (intV ns).eraseIdx k = V.int a :: intV (ns.eraseIdx k)
    rw [ints_erase ns k]
theorem ok__law_turning (T : Txt K mg A) : FnOk P w K mg base CX0 1 A.f__law_turning A.d__law_turning ["_law_number", "_law_many", "_law_plain"] spTurnP := by
  refine T._law_turning.F.ok sc__law_turning (fun vs H Q E h => ?_) (fun cdv AA outer s H vs Q E hr h => ?_)
  · obtain ⟨z, m, b, rfl, _⟩ := h
    rfl
  · obtain ⟨z, m, b, rfl, hm1, hm2, hz, k⟩ := h
    have hu := Nat.lt_of_succ_lt (hu_of hr)
    refine ⟨_, (pss_cons (ps_set (i := 3) sc__law_turning.nd rfl (Or.inr rfl) (pe_op op_mod (pe_op op_fdiv (pv 0) pe_int) (pv 1)))
      (pss_cons (ps_cut (ps_if (PW.pt (pw_and (pt_val (pv 2)) (pw_and1 (pt_cmpR op_eq (pe_op op_mod (pv 0) pe_int) pe_int (nomark _)))))
        (pss_one (ps_ret (pe_comp (fns := ["_law_many", "_law_by"]) (ixs := [1, 3]) (cl := _) rfl (pi_range1 rfl T.z_range (pa_cons (pv 1) pa_nil)) (compScope2 rfl rfl rfl (by decide +kernel) rfl (by decide +kernel) rfl (by decide +kernel) (by decide +kernel) rfl rfl rfl rfl rfl rfl rfl) (fun C s H ex => (pe_op op_mod (pe_op op_sub (pv 2) (pv 0)) (pv 1))))))
        pss_nil))
      (pss_cons (ps_if (pt_val (pv 2))
        (pss_one (ps_ret (pe_comp (fns := ["_law_many", "_law_by"]) (ixs := [1, 3]) (cl := _) rfl (pi_range1 rfl T.z_range (pa_cons (pv 1) pa_nil)) (compScope2 rfl rfl rfl (by decide +kernel) rfl (by decide +kernel) rfl (by decide +kernel) (by decide +kernel) rfl rfl rfl rfl rfl rfl rfl) (fun C s H ex => (pe_op op_mod (pe_op op_add (pv 2) (pv 0)) (pv 1))))))
        pss_nil)
      (pss_cons (ps_set (i := 4) sc__law_turning.nd rfl (Or.inl rfl) (pe_listRange1 rfl rfl T.z_list rfl T.z_range (pa_cons (pv 1) pa_nil)))
      (pss_cons (ps_set (i := 5) sc__law_turning.nd rfl (Or.inl rfl) (pe_lst pa_nil))
      (pss_cons (ps_cut (ps_while PassesOwn.never (pt_cmpR (op_neLI hu) (pv 4) (pe_lst pa_nil) (nomark _))
        (pss_cons (ps_expr (pe_bm PySem.F.plainAttrs_list PySem.F.slot_list_append PySem.F.type_list_append mt_append (pv 5) (pa_cons (pe_bm PySem.F.plainAttrs_list PySem.F.slot_list_pop PySem.F.type_list_pop mt_popAt (pv 4) (pa_cons (pe_op op_mod (pv 0) (pe_callB call_len_seq rfl T.z_len PySem.boot_len (pa_cons (pv 4) pa_nil))) pa_nil)) pa_nil)))
        (pss_one (ps_set (i := 0) sc__law_turning.nd rfl (Or.inl rfl) (pe_op op_fdiv (pv 0) (pe_op op_add (pe_callB call_len_seq rfl T.z_len PySem.boot_len (pa_cons (pv 4) pa_nil)) pe_int)))))))
      (pss_one (ps_ret (pv 5))))))))), ?_⟩
    have b1 := Int.emod_nonneg (z / 2) (show (m : Int) ≠ 0 by omega)
    have b2 := Int.emod_lt_of_pos (z / 2) (show (0 : Int) < (m : Int) by omega)
    refine ⟨_, rfl, _, _, rfl, rfl, ⟨by decide, by decide⟩, _, rfl, _, _, rfl, rfl, (by show (0 : Int) < (m : Int); omega), ?_⟩
    obtain ⟨y, hy⟩ : ∃ y, z / 2 % (m : Int) = y := ⟨_, rfl⟩
    rw [hy] at b1 b2
    simp only [hy]
    refine ⟨fun σ' H' => σ' = [some (.int z), some (.int m), some (.bl b), some (.int y), none, none] ∧ H' = H, ?_, ?_⟩
    · refine ⟨_, rfl, _, rfl, ?_⟩
      refine ite2 (fun _ => ?_) (fun _ => iteF ⟨rfl, rfl⟩)
      refine ⟨_, rfl, _, _, rfl, rfl, (by show (0 : Int) < 2; decide), rfl, _, rfl, ?_⟩
      refine ite2 (fun _ => ?_) (fun _ => ⟨rfl, rfl⟩)
      refine ⟨_, rfl, (m : Int), rfl, by omega, by omega, ?_⟩
      rw [Int.toNat_natCast]
      refine comp_range (fun i => (y - (i : Int)) % (m : Int)) (by omega) (fun i hi R hR => ?_) (fun D hD => ?_)
      · exact ⟨_, rfl, _, rfl, _, _, rfl, rfl, _, rfl, _, _, rfl, rfl, (by show (0 : Int) < (m : Int); omega), hR⟩
      · refine k D _ _ (Same.upd hD) upd_same (pm_of (fun i hi => ⟨Int.emod_nonneg _ (by omega), Int.emod_lt_of_pos _ (by omega)⟩) fun i j hi hj e => ?_)
        have e2 : ((y - (m : Int) + 1) + (((m - 1 - i : Nat)) : Int)) % (m : Int) = ((y - (m : Int) + 1) + (((m - 1 - j : Nat)) : Int)) % (m : Int) := by
          rw [show (y - (m : Int) + 1) + (((m - 1 - i : Nat)) : Int) = y - (i : Int) by omega, show (y - (m : Int) + 1) + (((m - 1 - j : Nat)) : Int) = y - (j : Int) by omega]
          exact e
        have := emod_inj (by omega) (by omega) e2
        omega
    rintro σ' H' ⟨rfl, rfl⟩
    refine ⟨_, rfl, _, rfl, ?_⟩
    refine ite2 (fun _ => ?_) (fun _ => ?_)
    · refine ⟨_, rfl, (m : Int), rfl, by omega, by omega, ?_⟩
      rw [Int.toNat_natCast]
      refine comp_range (fun i => (y + (i : Int)) % (m : Int)) (by omega) (fun i hi R hR => ?_) (fun D hD => ?_)
      · exact ⟨_, rfl, _, rfl, _, _, rfl, rfl, _, rfl, _, _, rfl, rfl, (by show (0 : Int) < (m : Int); omega), hR⟩
      · exact k D _ _ (Same.upd hD) upd_same (pm_of (fun i hi => ⟨Int.emod_nonneg _ (by omega), Int.emod_lt_of_pos _ (by omega)⟩) fun i j hi hj e => emod_inj hi hj e)
    refine ⟨_, rfl, m, rfl, by omega, fun ls hls => ?_⟩
    have s1 : Same H' (upd H' ls (.lst (intV (rng 0 m)))) := Same.upd hls
    have h1 : upd H' ls (.lst (intV (rng 0 m))) ls = some (.lst (intV (rng 0 m))) := upd_same
    generalize upd H' ls (.lst (intV (rng 0 m))) = H1 at s1 h1 ⊢
    refine ⟨Nat.zero_le _, fun lt hlt => ?_⟩
    have s2 : Same H1 (upd H1 lt (.lst [])) := Same.upd hlt
    have h2 : upd H1 lt (.lst []) lt = some (.lst (intV [])) := upd_same
    have hne : ls ≠ lt := fun e => by rw [← e, h1] at hlt; cases hlt
    have nlt : H' lt = none := s1.free hlt
    generalize upd H1 lt (.lst []) = H2 at s2 h2 ⊢
    refine ⟨fun σ' H3 => ∃ (tv : List Int) (v0 : Option V), σ' = [v0, some (.int m), some (.bl b), some (.int y), some (.ref ls), some (.ref lt)] ∧ Same H' H3 ∧ H3 lt = some (.lst (intV tv)) ∧ tv.Perm (rng 0 m), ?_, ?_⟩
    · refine ⟨fun n σ H3 => ∃ (tv sv : List Int) (x : Int), n = sv.length ∧ σ = [some (.int x), some (.int m), some (.bl b), some (.int y), some (.ref ls), some (.ref lt)] ∧ Same H' H3 ∧ H3 lt = some (.lst (intV tv)) ∧ H3 ls = some (.lst (intV sv)) ∧ (tv ++ sv).Perm (rng 0 m), ⟨_, [], rng 0 m, z, rfl, rfl, s1.trans s2, h2, s2 _ _ h1, List.Perm.refl _⟩, ?_⟩
      rintro n σ H3 ⟨tv, sv, x, rfl, rfl, s3, ht3, hs3, hp⟩
      have hlen := hp.length_eq
      rw [List.length_append, rng_len] at hlen
      refine ⟨_, rfl, Nat.zero_le _, fun e0 he0 => ?_⟩
      have s4 : Same H3 (upd H3 e0 (.lst [])) := Same.upd he0
      have h4 : upd H3 e0 (.lst []) e0 = some (.lst (intV [])) := upd_same
      generalize upd H3 e0 (.lst []) = H4 at s4 h4 ⊢
      have ht4 := s4 _ _ ht3
      have hs4 := s4 _ _ hs3
      refine ⟨ls, e0, sv, [], rfl, rfl, hs4, h4, _, rfl, ?_⟩
      by_cases hsv : sv = []
      · refine iteNS hsv ?_
        rw [hsv, List.append_nil] at hp
        exact ⟨tv, _, rfl, s3.trans s4, ht4, hp⟩
      · have hpos : 0 < sv.length := List.length_pos_iff.mpr hsv
        refine ite2 (fun _ => ?_) (fun h => ?_)
        · refine ⟨_, fun σ' H' h => h, ?_⟩
          obtain ⟨kk, hkk, hkl⟩ := emod_nat x (n := sv.length) hpos
          have hx : sv[kk]? = some sv[kk] := List.getElem?_eq_getElem hkl
          generalize sv[kk] = c at hx
          have ekk : x % ((intV sv).length : Int) = (kk : Int) := by rw [ints_len]; exact hkk
          refine ⟨_, rfl, .inl ⟨rfl, _, SqL.of ht4⟩, _, rfl, .inl ⟨rfl, _, SqL.of hs4⟩, _, rfl, _, rfl, ls, _, rfl, .inl (SqL.of hs4), _, _, rfl, rfl, (by show (0 : Int) < ((intV sv).length : Int); rw [ints_len]; omega), ?_⟩
          simp only [ekk]
          refine ⟨ls, _, (kk : Int), kk, .int c, rfl, rfl, hs4, by omega, by omega, seqIx (by rw [ints_len]; exact hkl), ints_at hx, ?_⟩
          rw [ints_erase]
          have ht5 : upd H4 ls (.lst (intV (sv.eraseIdx kk))) lt = some (.lst (intV tv)) := by rw [upd_ne (Ne.symm hne)]; exact ht4
          have hs5 : upd H4 ls (.lst (intV (sv.eraseIdx kk))) ls = some (.lst (intV (sv.eraseIdx kk))) := upd_same
          have nls : H' ls = none := hls
          have s5 : Same H' (upd H4 ls (.lst (intV (sv.eraseIdx kk)))) := fun b o e => by rw [upd_ne (ne_of_none e nls)]; exact s4 _ _ (s3 _ _ e)
          generalize upd H4 ls (.lst (intV (sv.eraseIdx kk))) = H5 at ht5 hs5 s5 ⊢
          refine ⟨lt, _, _, rfl, rfl, ht5, ?_, ?_⟩
          · rw [ints_len]
            exact Nat.lt_of_le_of_lt (show tv.length ≤ 100 by omega) (by decide)
          have hel : (sv.eraseIdx kk).length = sv.length - 1 := List.length_eraseIdx_of_lt hkl
          have hs6 : upd H5 lt (.lst (intV tv ++ [.int c])) ls = some (.lst (intV (sv.eraseIdx kk))) := by rw [upd_ne hne]; exact hs5
          refine ⟨_, rfl, _, rfl, ls, _, rfl, .inl (SqL.of hs6), _, _, rfl, rfl, _, _, rfl, rfl, ⟨by show (0 : Int) < ((intV (sv.eraseIdx kk)).length : Int) + 1; omega, by show ((intV (sv.eraseIdx kk)).length : Int) + 1 < 1073741824; rw [ints_len]; omega⟩, ?_⟩
          refine ⟨(sv.eraseIdx kk).length, by omega, tv ++ [c], sv.eraseIdx kk, _, rfl, rfl, fun b o e => ?_, by rw [upd_same, ints_app]; rfl, hs6, (erase_perm hx).trans hp⟩
          rw [upd_ne (ne_of_none e nlt)]
          exact s5 _ _ e
        · exact absurd (by rw [decide_eq_false hsv]; rfl) h
    rintro σ' H3 ⟨tv, v0, rfl, s3, ht3, hp⟩
    exact ⟨_, rfl, k lt tv H3 s3 ht3 (pm_perm hp)⟩
theorem ok__law_steps (T : Txt K mg A) : FnOk P w K mg base CX0 1 A.f__law_steps A.d__law_steps ["_law_letters"] spSteps := by
  refine T._law_steps.F.ok sc__law_steps (fun vs H Q E h => ?_) (fun cdv AA outer s H vs Q E hr h => ?_)
  · obtain ⟨L, rfl, _⟩ := h
    rfl
  · obtain ⟨L, rfl, hL1, hL2, k⟩ := h
    refine ⟨_, (pss_cons (ps_set (i := 1) sc__law_steps.nd rfl (Or.inl rfl) (pe_lst pa_nil))
      (pss_cons (ps_for PassesOwn.never rfl (pi_range2 rfl T.z_range (pa_cons pe_int (pa_cons (pe_op op_add (pv 0) pe_int) pa_nil))) (pg_name (i := 2) sc__law_steps.nd rfl (Or.inl rfl))
        (pss_one (ps_set (i := 1) sc__law_steps.nd rfl (Or.inl rfl) (pe_op op_cat (pv 1) (pe_lst (pa_cons (pv 2) (pa_cons (pe_un un_neg (pv 2)) pa_nil)))))))
      (pss_one (ps_ret (pv 1))))), ?_⟩
    refine ⟨Nat.zero_le _, fun l hl => ?_⟩
    have s0 : Same H (upd H l (.lst [])) := Same.upd hl
    have h0 : upd H l (.lst []) l = some (.lst (intV (stL (2 * 0)))) := upd_same
    generalize upd H l (.lst []) = H0 at s0 h0 ⊢
    refine ⟨_, rfl, _, _, rfl, rfl, 1, (L : Int) + 1, rfl, ⟨by omega, by omega, by omega, by omega⟩, ?_⟩
    refine for_range (lo := 1) (n := ((L : Int) + 1 - 1).toNat) (fun i σ H2 => ∃ (l : Addr) (v : Option V), σ = [some (.int L), some (.ref l), v] ∧ Same H H2 ∧ H l = none ∧ H2 l = some (.lst (intV (stL (2 * i))))) ⟨l, none, rfl, s0, hl, h0⟩ ?_ ?_
    · rintro i σ H2 hi ⟨l, v, rfl, s2, _, h2⟩
      have hi' : i < L := by omega
      refine ⟨_, rfl, _, rfl, _, rfl, _, rfl, by show 2 ≤ sizeLine; decide, fun q hq => ?_⟩
      have s3 : Same H2 (upd H2 q (.lst [.int (1 + (i : Int)), .int (-(1 + (i : Int)))])) := Same.upd hq
      have h3 : upd H2 q (.lst [.int (1 + (i : Int)), .int (-(1 + (i : Int)))]) q = some (.lst (intV [1 + (i : Int), -(1 + (i : Int))])) := upd_same
      generalize upd H2 q (.lst [.int (1 + (i : Int)), .int (-(1 + (i : Int)))]) = H3 at s3 h3 ⊢
      refine ⟨l, q, _, _, rfl, rfl, s3 _ _ h2, h3, ?_, fun p hp => ?_⟩
      · rw [ints_len, ints_len, stL_len]
        exact Nat.le_trans (show 2 * i + 2 ≤ 500 by omega) (by decide)
      refine ⟨p, _, rfl, (s2.trans s3).trans (Same.upd hp), (s2.trans s3).free hp, ?_⟩
      rw [upd_same, ← ints_app, ← stL_two, List.append_assoc]
      rfl
    · rintro σ H2 ⟨l, v, rfl, s2, hn, h2⟩
      rw [show ((L : Int) + 1 - 1).toNat = L by omega] at h2
      exact ⟨_, rfl, k l H2 s2 hn h2⟩
theorem find_at : ∀ {r : List Int} {i : Nat} {x : Int}, r.Nodup → r[i]? = some x → r.findIdx (fun z => z == x) = i
  | [], i, x, _, h => by simp at h
  | a :: r, 0, x, _, h => by
    have e : a = x := Option.some.inj h
    rw [List.findIdx_cons, e]
    simp
  | a :: r, i + 1, x, hn, h => by
    have hne : a ≠ x := fun z => (List.nodup_cons.mp hn).1 (by rw [z]; exact List.mem_of_getElem? (l := r) (i := i) h)
    rw [List.findIdx_cons, show (a == x) = false from beq_eq_false_iff_ne.mpr hne, find_at (List.nodup_cons.mp hn).2 h]
    rfl
theorem sf_pos {rows : List (List Int)} {s : Int} {x y : Nat} {r : List Int} (h : 0 < s) (hr : rows[s.natAbs - 1]? = some r) (hy : r[x]? = some (y : Int)) : sf rows x s = y := by
  unfold sf
  rw [if_pos h, List.getD_eq_getElem?_getD, List.getD_eq_getElem?_getD, hr, Option.getD_some, hy, Option.getD_some]
  rfl
theorem sf_neg {rows : List (List Int)} {s : Int} {x y : Nat} {r : List Int} (h : ¬ 0 < s) (hr : rows[s.natAbs - 1]? = some r) (hn : r.Nodup) (hy : r[y]? = some (x : Int)) : sf rows x s = y := by
  unfold sf
  rw [if_neg h, List.getD_eq_getElem?_getD, hr, Option.getD_some]
  exact find_at hn hy
theorem ok__law_moved (T : Txt K mg A) : FnOk P w K mg base CX0 1 A.f__law_moved A.d__law_moved ["_law_turns", "_law_point", "_law_word"] spMoved := by
  refine T._law_moved.F.ok sc__law_moved (fun vs H Q E h => ?_) (fun cdv AA outer s H vs Q E hr h => ?_)
  · obtain ⟨a, wa, rows, p, x, w, rfl, _⟩ := h
    rfl
  · obtain ⟨a, wa, rows, p, x, w, rfl, hTa, hpm, hx, hp, hwa, hst, hrl, k⟩ := h
    refine ⟨_, (pss_cons (ps_for PassesOwn.never rfl (pi_tup (pv 2)) (pg_name (i := 3) sc__law_moved.nd rfl (Or.inl rfl))
        (pss_one (ps_cut (ps_if (pt_cmpR op_gt (pv 3) pe_int (nomark _))
          (pss_one (ps_set (i := 1) sc__law_moved.nd rfl (Or.inl rfl) (pe_ix ix_list (pe_ix ix_list (pv 0) (pe_op op_sub (pv 3) pe_int) (fun _ _ => rfl)) (pv 1) (fun _ _ => rfl))))
          (pss_one (ps_set (i := 1) sc__law_moved.nd rfl (Or.inl rfl) (pe_bm PySem.F.plainAttrs_list PySem.F.slot_list_index PySem.F.type_list_index mt_list_index (pe_ix ix_list (pv 0) (pe_op op_sub (pe_un un_neg (pv 3)) pe_int) (fun _ _ => rfl)) (pa_cons (pv 1) pa_nil))))))))
      (pss_one (ps_ret (pv 1)))), ?_⟩
    obtain ⟨rs, hrs, hrw⟩ := id hTa
    refine ⟨_, rfl, wa, rfl, ⟨_, SqT.of hwa⟩, ?_⟩
    refine for_tup (K := K) (a := wa) (xs := intV w) (fun n σ H2 => ∃ v : Option V, σ = [some (.ref a), some (.int (((w.take n).foldl (sf rows) x : Nat) : Int)), some (.ref wa), v] ∧ H2 = H ∧ (w.take n).foldl (sf rows) x < p) ⟨none, rfl, rfl, hx⟩ (fun n σ H2 _ ⟨_, _, e, _⟩ => by rw [e]; exact SqT.of hwa) ?_ ?_
    · rintro n y σ H2 hn ⟨v, rfl, rfl, hlt⟩
      obtain ⟨z, rfl, hz⟩ := ints_of_at hn
      have hs := hst z (List.mem_of_getElem? hz)
      have hfold : (w.take (n + 1)).foldl (sf rows) x = sf rows ((w.take n).foldl (sf rows) x) z := by
        rw [List.take_succ, hz, List.foldl_append]
        rfl
      rw [hfold]
      generalize (w.take n).foldl (sf rows) x = pt at hlt ⊢
      have hm : z.natAbs - 1 < rows.length := by omega
      have g2 : rows[z.natAbs - 1]? = some rows[z.natAbs - 1] := List.getElem?_eq_getElem hm
      have hm2 : z.natAbs - 1 < rs.length := by rw [hrw.1]; exact hm
      have g1 : rs[z.natAbs - 1]? = some rs[z.natAbs - 1] := List.getElem?_eq_getElem hm2
      generalize rows[z.natAbs - 1] = row at g2
      generalize rs[z.natAbs - 1] = ra at g1
      have hra := hrw.2 _ _ _ g1 g2
      have hP := hpm row (List.mem_of_getElem? g2)
      refine ⟨_, ?_, fun _ _ h => h⟩
      refine ⟨_, rfl, _, _, rfl, rfl, _, rfl, ?_⟩
      refine ite2 (fun h => ?_) (fun h => ?_)
      · have h' : (0 : Int) < z := of_decide_eq_true h
        obtain ⟨j, hj, hjp⟩ := hP.at hlt
        have e1 : atI (rs.map V.ref) (z - 1) = some (.ref ra) := by
          rw [show z - 1 = ((z.natAbs - 1 : Nat) : Int) by omega]
          exact ref_at g1
        refine ⟨_, rfl, _, rfl, _, _, rfl, rfl, a, _, _, .ref ra, rfl, rfl, SqL.of hrs, e1, _, rfl, ra, _, _, _, rfl, rfl, SqL.of hra, atI_nat (ints_at hj), ?_⟩
        rw [sf_pos h' g2 hj]
        exact ⟨_, rfl, rfl, hjp⟩
      · have h' : ¬ (0 : Int) < z := fun q => h (decide_eq_true q)
        obtain ⟨j, hj, hjp⟩ := hP.surj hlt
        have e1 : atI (rs.map V.ref) (-z - 1) = some (.ref ra) := by
          rw [show -z - 1 = ((z.natAbs - 1 : Nat) : Int) by omega]
          exact ref_at g1
        refine ⟨_, rfl, _, rfl, _, rfl, _, _, rfl, rfl, a, _, _, .ref ra, rfl, rfl, SqL.of hrs, e1, .inl ⟨rfl, _, SqL.of hra⟩, _, rfl, ra, row, (pt : Int), rfl, rfl, hra, List.mem_of_getElem? hj, fun i h1 _ => ?_⟩
        rw [sf_neg h' g2 hP.nd h1]
        have hip : i < p := by
          have := (List.getElem?_eq_some_iff.mp h1).1
          rw [hP.len] at this
          exact this
        exact ⟨_, rfl, rfl, hip⟩
    · rintro σ H2 ⟨v, rfl, rfl, hlt⟩
      rw [ints_len, List.take_length]
      exact ⟨_, rfl, k⟩
def spDrawn (K : PySem.W.Frag) : Sp := fun vs H Q _ => ∃ (a : Addr) (ns : List Int), vs = [.ref a] ∧ SqL K H a (intV ns) ∧ ns.length ≤ 63 ∧ ∀ l lt L rows p x H', Same H H' → H' l = some (.tup [.int ((L : Nat) : Int), .ref lt, .int ((x : Nat) : Int)]) → TabAt H' lt rows → rows.length = L → 1 ≤ L → L ≤ 3 → (∀ r ∈ rows, M11.Pm p r) → x < p → p ≤ 6 → Q (.ref l) H'
theorem four_at : ∀ j : Nat, j < 4 → ∃ L : Nat, ([V.int 2, V.int 1, V.int 3, V.int 2])[j]? = some (V.int (L : Int)) ∧ 1 ≤ L ∧ L ≤ 3
  | 0, _ => ⟨2, rfl, by decide, by decide⟩
  | 1, _ => ⟨1, rfl, by decide, by decide⟩
  | 2, _ => ⟨3, rfl, by decide, by decide⟩
  | 3, _ => ⟨2, rfl, by decide, by decide⟩
theorem rows_snoc {H : Hp} {rs : List Addr} {rows : List (List Int)} {r : Addr} {ns : List Int} (h : RowsAt H rs rows) (hr : H r = some (.lst (intV ns))) : RowsAt H (rs ++ [r]) (rows ++ [ns]) := by
  refine ⟨by rw [List.length_append, List.length_append, h.1]; rfl, fun i q ms h1 h2 => ?_⟩
  by_cases hi : i < rs.length
  · rw [List.getElem?_append_left hi] at h1
    rw [List.getElem?_append_left (by rw [← h.1]; exact hi)] at h2
    exact h.2 i q ms h1 h2
  · rw [List.getElem?_append_right (by omega)] at h1
    rw [List.getElem?_append_right (by rw [← h.1]; omega)] at h2
    rw [List.mem_singleton.mp (List.mem_of_getElem? h1), List.mem_singleton.mp (List.mem_of_getElem? h2)]
    exact hr
theorem row_ne {H : Hp} {r lt : Addr} {rs : List Addr} {ns : List Int} (h : H r = some (.lst (intV ns))) (hn : ns ≠ []) (hl : H lt = some (.lst (rs.map V.ref))) : r ≠ lt := fun e => by
  rw [e, hl] at h
  injection h with h
  injection h with h
  cases ns with
  | nil => exact hn rfl
  | cons z ns =>
    cases rs with
    | nil => cases h
    | cons q rs => cases h
theorem ok__law_drawn (T : Txt K mg A) : FnOk P w K mg base CX0 2 A.f__law_drawn A.d__law_drawn ["_law_script"] (spDrawn K) := by
  have G__law_cell_at : FnOk P w K mg base CX0 1 A.f__law_cell_at A.d__law_cell_at ["_law_script", "_law_k"] (spAt K) := ok__law_cell_at T
  have G__law_turning : FnOk P w K mg base CX0 1 A.f__law_turning A.d__law_turning ["_law_number", "_law_many", "_law_plain"] spTurnP := ok__law_turning T
  refine T._law_drawn.F.ok sc__law_drawn (fun vs H Q E h => ?_) (fun cdv AA outer s H vs Q E hr h => ?_)
  · obtain ⟨a, ns, rfl, _⟩ := h
    rfl
  · obtain ⟨a, ns, rfl, hS, hlen, k⟩ := h
    refine ⟨_, (pss_cons (ps_set (i := 1) sc__law_drawn.nd rfl (Or.inl rfl) (pe_cmpR op_eq (pe_op op_mod (pe_call (G__law_cell_at) (hr.mono (by decide)) rfl T._law_cell_at.m T._law_cell_at.F.kp T._law_cell_at.b .nil pass0 (pa_cons (pv 0) (pa_cons pe_int pa_nil))) pe_int) pe_int (nomark _)))
      (pss_cons (ps_set (i := 2) sc__law_drawn.nd rfl (Or.inl rfl) (pe_op op_add pe_int (pe_op op_mod (pe_op op_fdiv (pe_call (G__law_cell_at) (hr.mono (by decide)) rfl T._law_cell_at.m T._law_cell_at.F.kp T._law_cell_at.b .nil pass0 (pa_cons (pv 0) (pa_cons pe_int pa_nil))) pe_int) pe_int)))
      (pss_cons (ps_cut (ps_if (pt_val (pv 1))
        (pss_one (ps_set (i := 2) sc__law_drawn.nd rfl (Or.inl rfl) (pe_op op_add pe_int (pe_op op_mod (pe_op op_fdiv (pe_call (G__law_cell_at) (hr.mono (by decide)) rfl T._law_cell_at.m T._law_cell_at.F.kp T._law_cell_at.b .nil pass0 (pa_cons (pv 0) (pa_cons pe_int pa_nil))) pe_int) pe_int))))
        pss_nil))
      (pss_cons (ps_set (i := 3) sc__law_drawn.nd rfl (Or.inl rfl) (pe_ix ix_list (pe_lst (pa_cons pe_int (pa_cons pe_int (pa_cons pe_int (pa_cons pe_int pa_nil star_c) star_c) star_c) star_c)) (pe_op op_mod (pe_call (G__law_cell_at) (hr.mono (by decide)) rfl T._law_cell_at.m T._law_cell_at.F.kp T._law_cell_at.b .nil pass0 (pa_cons (pv 0) (pa_cons pe_int pa_nil))) pe_int) (fun _ _ => rfl)))
      (pss_cons (ps_set (i := 4) sc__law_drawn.nd rfl (Or.inl rfl) (pe_lst pa_nil))
      (pss_cons (ps_for PassesOwn.never rfl (pi_range1 rfl T.z_range (pa_cons (pv 3) pa_nil)) (pg_name (i := 5) sc__law_drawn.nd rfl (Or.inl rfl))
        (pss_one (ps_expr (pe_bm PySem.F.plainAttrs_list PySem.F.slot_list_append PySem.F.type_list_append mt_append (pv 4) (pa_cons (pe_call (G__law_turning) (hr.mono (by decide)) rfl T._law_turning.m T._law_turning.F.kp T._law_turning.b .nil pass0 (pa_cons (pe_op op_mod (pe_call (G__law_cell_at) (hr.mono (by decide)) rfl T._law_cell_at.m T._law_cell_at.F.kp T._law_cell_at.b .nil pass0 (pa_cons (pv 0) (pa_cons (pe_op op_add pe_int (pv 5)) pa_nil))) pe_int) (pa_cons (pv 2) (pa_cons (pv 1) pa_nil)))) pa_nil)))))
      (pss_one (ps_ret (pe_tup (pa_cons (pv 3) (pa_cons (pv 4) (pa_cons (pe_op op_mod (pe_call (G__law_cell_at) (hr.mono (by decide)) rfl T._law_cell_at.m T._law_cell_at.F.kp T._law_cell_at.b .nil pass0 (pa_cons (pv 0) (pa_cons pe_int pa_nil))) (pv 2)) pa_nil)))))))))))), ?_⟩
    refine ⟨_, rfl, a, ns, 0, rfl, hS, by omega, fun z0 => ?_⟩
    refine ⟨_, _, rfl, rfl, (by show (0 : Int) < 2; decide), rfl, ?_⟩
    refine ⟨_, rfl, a, ns, 0, rfl, hS, by omega, fun z1 => ?_⟩
    refine ⟨_, _, rfl, rfl, ⟨by decide, by decide⟩, _, _, rfl, rfl, (by show (0 : Int) < 4; decide), _, _, rfl, rfl, ?_⟩
    have a1 := Int.emod_nonneg (z1 / 2) (show (4 : Int) ≠ 0 by decide)
    have a2 := Int.emod_lt_of_pos (z1 / 2) (show (0 : Int) < 4 by decide)
    refine ⟨fun σ' H' => ∃ (m : Nat) (pl : Bool), σ' = [some (.ref a), some (.bl pl), some (.int m), none, none, none] ∧ H' = H ∧ 1 ≤ m ∧ m ≤ 6, ?_, ?_⟩
    · refine ⟨_, rfl, _, rfl, ?_⟩
      refine ite2 (fun _ => ?_) (fun _ => ?_)
      · refine ⟨_, rfl, a, ns, 0, rfl, hS, by omega, fun z2 => ?_⟩
        refine ⟨_, _, rfl, rfl, ⟨by decide, by decide⟩, _, _, rfl, rfl, (by show (0 : Int) < 6; decide), _, _, rfl, rfl, ?_⟩
        have c1 := Int.emod_nonneg (z2 / 2) (show (6 : Int) ≠ 0 by decide)
        have c2 := Int.emod_lt_of_pos (z2 / 2) (show (0 : Int) < 6 by decide)
        refine ⟨(1 + z2 / 2 % 6).toNat, decide (V.int (z0 % 2) = V.int 0), ?_, rfl, by omega, by omega⟩
        rw [show (((1 + z2 / 2 % 6).toNat : Nat) : Int) = 1 + z2 / 2 % 6 by omega]
        rfl
      · refine ⟨(2 + z1 / 2 % 4).toNat, decide (V.int (z0 % 2) = V.int 0), ?_, rfl, by omega, by omega⟩
        rw [show (((2 + z1 / 2 % 4).toNat : Nat) : Int) = 2 + z1 / 2 % 4 by omega]
        rfl
    rintro σ' H' ⟨m, pl, rfl, rfl, hm1, hm2⟩
    refine ⟨by show 4 ≤ sizeLine; decide, fun q hq => ?_⟩
    have sq : Same H' (upd H' q (.lst [V.int 2, V.int 1, V.int 3, V.int 2])) := Same.upd hq
    have hqq : upd H' q (.lst [V.int 2, V.int 1, V.int 3, V.int 2]) q = some (.lst [V.int 2, V.int 1, V.int 3, V.int 2]) := upd_same
    generalize upd H' q (.lst [V.int 2, V.int 1, V.int 3, V.int 2]) = H1 at sq hqq ⊢
    refine ⟨_, rfl, a, ns, 1, rfl, sq.seq hS, by omega, fun z2 => ?_⟩
    obtain ⟨j, hj, hjl⟩ := emod_nat z2 (n := 4) (by decide)
    obtain ⟨L, hL, hL1, hL2⟩ := four_at j hjl
    refine ⟨_, _, rfl, rfl, (by show (0 : Int) < 4; decide), q, _, _, .int (L : Int), rfl, rfl, SqL.of hqq, (by show atI _ (z2 % 4) = _; rw [show z2 % 4 = (j : Int) from hj]; exact atI_nat hL), ?_⟩
    refine ⟨Nat.zero_le _, fun lt hlt => ?_⟩
    have s2 : Same H1 (upd H1 lt (.lst [])) := Same.upd hlt
    have h2 : upd H1 lt (.lst []) lt = some (.lst (([] : List Addr).map V.ref)) := upd_same
    have nlt : H' lt = none := sq.free hlt
    generalize upd H1 lt (.lst []) = H2 at s2 h2 ⊢
    refine ⟨_, rfl, (L : Int), rfl, by omega, by omega, ?_⟩
    refine for_range (lo := 0) (n := ((L : Int)).toNat) (fun i σ H3 => ∃ (rs : List Addr) (rows : List (List Int)) (v5 : Option V), σ = [some (.ref a), some (.bl pl), some (.int m), some (.int L), some (.ref lt), v5] ∧ Same H' H3 ∧ H3 lt = some (.lst (rs.map V.ref)) ∧ RowsAt H3 rs rows ∧ rows.length = i ∧ (∀ r ∈ rows, M11.Pm m r)) ⟨[], [], none, rfl, sq.trans s2, h2, ⟨rfl, fun i r ns h1 => by simp at h1⟩, rfl, by simp⟩ ?_ ?_
    · rintro i σ H3 hi ⟨rs, rows, v5, rfl, s3, h3, hra, hrl, hpm⟩
      have hi' : i < L := by omega
      refine ⟨_, rfl, .inl ⟨rfl, _, SqL.of h3⟩, _, rfl, _, rfl, _, _, rfl, rfl, a, ns, 2 + i, ?_, s3.seq hS, by omega, fun z3 => ?_⟩
      · show [V.ref a, V.int (2 + (0 + (i : Int)))] = [V.ref a, V.int ((2 + i : Nat) : Int)]
        rw [show (2 : Int) + (0 + (i : Int)) = ((2 + i : Nat) : Int) by omega]
      have c1 := Int.emod_nonneg z3 (show (720 : Int) ≠ 0 by decide)
      refine ⟨_, _, rfl, rfl, (by show (0 : Int) < 720; decide), _, rfl, _, rfl, z3 % 720, m, pl, rfl, hm1, by omega, c1, fun r row H4 s4 h4 hP => ?_⟩
      have hl4 := s4 _ _ h3
      have hne : r ≠ lt := row_ne h4 (fun z => by have := hP.len; rw [z] at this; simp at this; omega) hl4
      refine ⟨lt, _, _, rfl, rfl, hl4, ?_, ?_⟩
      · rw [List.length_map, hra.1, hrl]
        exact Nat.lt_of_le_of_lt (show i ≤ 3 by omega) (by decide)
      refine ⟨rs ++ [r], rows ++ [row], _, rfl, fun b o e => by rw [upd_ne (ne_of_none e nlt)]; exact s4 _ _ (s3 _ _ e), by rw [upd_same, List.map_append]; rfl, ⟨(rows_snoc (hra.same s4) h4).1, fun i' q' ms e1 e2 => ?_⟩, by rw [List.length_append, hrl]; rfl, fun r' hr' => ?_⟩
      · have hq' := (rows_snoc (hra.same s4) h4).2 i' q' ms e1 e2
        have hnm : ms ≠ [] := fun z => by
          have hmm : ms ∈ rows ++ [row] := List.mem_of_getElem? e2
          have hPm : M11.Pm m ms := by
            rcases List.mem_append.mp hmm with y | y
            · exact hpm ms y
            · rw [List.mem_singleton.mp y]; exact hP
          have := hPm.len
          rw [z] at this
          simp at this
          omega
        rw [upd_ne (row_ne hq' hnm hl4)]
        exact hq'
      · rcases List.mem_append.mp hr' with y | y
        · exact hpm r' y
        · rw [List.mem_singleton.mp y]; exact hP
    · rintro σ H3 ⟨rs, rows, v5, rfl, s3, h3, hra, hrl, hpm⟩
      rw [Int.toNat_natCast] at hrl
      refine ⟨_, rfl, _, rfl, _, rfl, a, ns, 5, rfl, s3.seq hS, by omega, fun z4 => ?_⟩
      obtain ⟨x, hx, hxl⟩ := emod_nat z4 (n := m) (by omega)
      refine ⟨_, rfl, _, _, rfl, rfl, (by show (0 : Int) < (m : Int); omega), by show 3 ≤ sizeLine; decide, fun l hl => ?_⟩
      refine k l lt L rows m x _ (s3.trans (Same.upd hl)) ?_ ⟨rs, (Same.upd hl) _ _ h3, hra.same (Same.upd hl)⟩ hrl hL1 hL2 hpm hxl hm2
      rw [upd_same, ← hx]
def But (p : Addr) (H H' : Hp) : Prop := ∀ q o, q ≠ p → H q = some o → H' q = some o
theorem But.trans {p : Addr} {H H1 H2 : Hp} (a : But p H H1) (b : But p H1 H2) : But p H H2 := fun q o n e => b q o n (a q o n e)
theorem But.upd {p : Addr} {H : Hp} {o : HO} : But p H (upd H p o) := fun q u n e => by rw [upd_ne n]; exact e
theorem _root_.L2.RowsAt.but {H H' : Hp} {rs : List Addr} {rows : List (List Int)} {w : Addr} (h : RowsAt H rs rows) (b : But w H H') (hw : w ∉ rs) : RowsAt H' rs rows := ⟨h.1, fun i r ns h1 h2 => b _ _ (fun z => hw (by rw [← z]; exact List.mem_of_getElem? h1)) (h.2 i r ns h1 h2)⟩
theorem rows_mem {H : Hp} {rs : List Addr} {rows : List (List Int)} (h : RowsAt H rs rows) {r : Addr} (hr : r ∈ rs) : ∃ ns, H r = some (.lst (intV ns)) := by
  obtain ⟨i, hi, e⟩ := List.mem_iff_getElem.mp hr
  have hi2 : i < rows.length := by rw [← h.1]; exact hi
  exact ⟨_, h.2 i r _ (by rw [List.getElem?_eq_getElem hi, e]) (List.getElem?_eq_getElem hi2)⟩
theorem _root_.L2.RowsAt.snoc {H : Hp} {rs : List Addr} {rows : List (List Int)} {r : Addr} {ns : List Int} (h : RowsAt H rs rows) (hr : H r = some (.lst (intV ns))) : RowsAt H (rs ++ [r]) (rows ++ [ns]) := by
  refine ⟨by rw [List.length_append, List.length_append, h.1]; rfl, fun i q ms h1 h2 => ?_⟩
  by_cases hi : i < rs.length
  · rw [List.getElem?_append_left hi] at h1
    rw [List.getElem?_append_left (by rw [← h.1]; exact hi)] at h2
    exact h.2 i q ms h1 h2
  · rw [List.getElem?_append_right (by omega)] at h1
    rw [List.getElem?_append_right (by rw [← h.1]; omega)] at h2
    rw [List.mem_singleton.mp (List.mem_of_getElem? h1), List.mem_singleton.mp (List.mem_of_getElem? h2)]
    exact hr
def wd (u : List Nat) : List Int := u.map M12.st
def spTableOf : Sp := fun vs H Q _ => ∃ (a : Addr) (rows : List (List Int)) (p x : Nat), vs = [.ref a, .int rows.length, .int x] ∧ TabAt H a rows ∧ 1 ≤ rows.length ∧ rows.length ≤ 40 ∧ p ≤ 300 ∧ (∀ r ∈ rows, M11.Pm p r) ∧ x < p ∧ ∀ l lt lw Tb ws H', Same H H' → H' l = some (.tup [.ref lt, .ref lw]) → TabAt H' lt Tb → WordsAt H' lw (ws.map wd) → M11.Tab rows.length Tb → M12.Fc (2 * rows.length) Tb.flatten Tb.length → M12.Lw rows.length Tb ws → (∀ (i : Nat) (u : List Nat), ws[i]? = some u → u.length ≤ i ∧ ∀ k ∈ u, k < 2 * rows.length) → Q (.ref l) H'
theorem st_flip (k : Nat) : M12.st (M11.flip k) = -M12.st k := by
  unfold M12.st M11.flip
  by_cases h : k % 2 = 0
  · rw [if_pos h, if_pos h, if_neg (by omega)]; omega
  · rw [if_neg h, if_neg h, if_pos (by omega)]; omega
theorem sf_ok {rows : List (List Int)} {p x : Nat} {s : Int} (hpm : ∀ r ∈ rows, M11.Pm p r) (hx : x < p) (h0 : s ≠ 0) (hl : s.natAbs ≤ rows.length) : sf rows x s < p ∧ sf rows (sf rows x s) (-s) = x := by
  have g : rows[s.natAbs - 1]? = some (rows[s.natAbs - 1]'(by omega)) := List.getElem?_eq_getElem (by omega)
  generalize rows[s.natAbs - 1]'(by omega) = r at g
  have hP := hpm r (List.mem_of_getElem? g)
  by_cases h : 0 < s
  · obtain ⟨j, a, b⟩ := hP.at hx
    rw [sf_pos h g a]
    exact ⟨b, sf_neg (by omega) (by rw [Int.natAbs_neg]; exact g) hP.nd a⟩
  · obtain ⟨j, a, b⟩ := hP.surj hx
    rw [sf_neg h g hP.nd a]
    exact ⟨b, sf_pos (by omega) (by rw [Int.natAbs_neg]; exact g) a⟩
structure Tst (H0 H : Hp) (lc lw lt : Addr) (ts ps : List Addr) (come : List Int) (Tb : List (List Int)) (ws : List (List Nat)) : Prop where
  same : Same H0 H
  c1 : H lc = some (.lst (intV come))
  w1 : H lw = some (.lst (ps.map V.ref))
  w2 : TupsAt H ps (ws.map wd)
  t1 : H lt = some (.lst (ts.map V.ref))
  t2 : RowsAt H ts Tb
  un : (lc :: lw :: lt :: ts).Nodup
  new : ∀ x ∈ lc :: lw :: lt :: ts, H0 x = none
theorem tups_upd {H : Hp} {ps : List Addr} {ws : List (List Int)} (h : TupsAt H ps ws) {w : Addr} {xs : List V} {o : HO} (hw : H w = some (.lst xs)) : TupsAt (upd H w o) ps ws := h.keep fun p us e => by
  rw [upd_ne (ne_of e hw (by intro z; cases z))]
  exact e
section
variable {H0 H : Hp} {lc lw lt : Addr} {ts ps : List Addr} {come : List Int} {Tb : List (List Int)} {ws : List (List Nat)}
theorem Tst.more {H' : Hp} (h : Tst H0 H lc lw lt ts ps come Tb ws) (s : Same H H') : Tst H0 H' lc lw lt ts ps come Tb ws :=
  ⟨h.same.trans s, s _ _ h.c1, s _ _ h.w1, h.w2.same s, s _ _ h.t1, h.t2.same s, h.un, h.new⟩
theorem Tst.sm (h : Tst H0 H lc lw lt ts ps come Tb ws) {w : Addr} {o : HO} (hw : H0 w = none) : Same H0 (upd H w o) := fun b u e => by
  rw [upd_ne (ne_of_none e hw)]
  exact h.same _ _ e
theorem Tst.ne (h : Tst H0 H lc lw lt ts ps come Tb ws) : lc ≠ lw ∧ lc ≠ lt ∧ lc ∉ ts ∧ lw ≠ lt ∧ lw ∉ ts ∧ lt ∉ ts ∧ ts.Nodup := by
  have := h.un
  simp only [List.nodup_cons, List.mem_cons, not_or] at this
  obtain ⟨⟨a1, a2, a3⟩, ⟨a4, a5⟩, a6, a7⟩ := this
  exact ⟨a1, a2, a3, a4, a5, a6, a7⟩
theorem Tst.comes (h : Tst H0 H lc lw lt ts ps come Tb ws) {c2 : List Int} : Tst H0 (upd H lc (.lst (intV c2))) lc lw lt ts ps c2 Tb ws := by
  obtain ⟨a1, a2, a3, a4, a5, a6, a7⟩ := h.ne
  exact ⟨h.sm (h.new _ (by simp)), upd_same, by rw [upd_ne (Ne.symm a1)]; exact h.w1, tups_upd h.w2 h.c1, by rw [upd_ne (Ne.symm a2)]; exact h.t1, h.t2.but But.upd a3, h.un, h.new⟩
theorem Tst.ways (h : Tst H0 H lc lw lt ts ps come Tb ws) {q : Addr} {u : List Nat} (hq : H q = some (.tup (intV (wd u)))) : Tst H0 (upd H lw (.lst ((ps ++ [q]).map V.ref))) lc lw lt ts (ps ++ [q]) come Tb (ws ++ [u]) := by
  obtain ⟨a1, a2, a3, a4, a5, a6, a7⟩ := h.ne
  refine ⟨h.sm (h.new _ (by simp)), by rw [upd_ne a1]; exact h.c1, upd_same, ?_, by rw [upd_ne (Ne.symm a4)]; exact h.t1, h.t2.but But.upd a5, h.un, h.new⟩
  have := h.w2.snoc hq
  rw [show ws.map wd ++ [wd u] = (ws ++ [u]).map wd by rw [List.map_append]; rfl] at this
  exact tups_upd this h.w1
theorem Tst.off (h : Tst H0 H lc lw lt ts ps come Tb ws) {q : Addr} {xs : List V} {o : HO} (hq : H q = some (.lst xs)) (hn : H0 q = none) (ho : q ∉ lc :: lw :: lt :: ts) : Tst H0 (upd H q o) lc lw lt ts ps come Tb ws := by
  simp only [List.mem_cons, not_or] at ho
  obtain ⟨b1, b2, b3, b4⟩ := ho
  exact ⟨h.sm hn, by rw [upd_ne (Ne.symm b1)]; exact h.c1, by rw [upd_ne (Ne.symm b2)]; exact h.w1, tups_upd h.w2 hq, by rw [upd_ne (Ne.symm b3)]; exact h.t1, h.t2.but But.upd b4, h.un, h.new⟩
theorem Tst.rows (h : Tst H0 H lc lw lt ts ps come Tb ws) {q : Addr} {r : List Int} (hq : H q = some (.lst (intV r))) (hn : H0 q = none) (ho : q ∉ lc :: lw :: lt :: ts) : Tst H0 (upd H lt (.lst ((ts ++ [q]).map V.ref))) lc lw lt (ts ++ [q]) ps come (Tb ++ [r]) ws := by
  obtain ⟨a1, a2, a3, a4, a5, a6, a7⟩ := h.ne
  simp only [List.mem_cons, not_or] at ho
  obtain ⟨b1, b2, b3, b4⟩ := ho
  refine ⟨h.sm (h.new _ (by simp)), by rw [upd_ne a2]; exact h.c1, by rw [upd_ne a4]; exact h.w1, tups_upd h.w2 h.t1, upd_same, ?_, ?_, fun x hx => ?_⟩
  · refine RowsAt.but (w := lt) (h.t2.snoc hq) But.upd ?_
    intro z
    rcases List.mem_append.mp z with z | z
    · exact a6 z
    · exact b3 (List.mem_singleton.mp z).symm
  · rw [← List.cons_append, ← List.cons_append, ← List.cons_append, List.nodup_append]
    refine ⟨h.un, by simp, fun a ha b hb => ?_⟩
    rw [List.mem_singleton.mp hb]
    intro z
    rw [z] at ha
    simp only [List.mem_cons] at ha
    rcases ha with e | e | e | e
    · exact b1 e
    · exact b2 e
    · exact b3 e
    · exact b4 e
  · rw [← List.cons_append, ← List.cons_append, ← List.cons_append] at hx
    rcases List.mem_append.mp hx with hx | hx
    · exact h.new x hx
    · rw [List.mem_singleton.mp hx]; exact hn
end
structure WT (p L : Nat) (f : Nat → Int → Int) (come : List Int) (Tb : List (List Int)) : Prop where
  nd : come.Nodup
  rg : ∀ x ∈ come, 0 ≤ x ∧ x < (p : Int)
  rw_ : ∀ (i : Nat) (x : Int) (r : List Int), come[i]? = some x → Tb[i]? = some r → M11.RowOk L f come x r (2 * L)
theorem WT.more {p L : Nat} {f : Nat → Int → Int} {come : List Int} {Tb : List (List Int)} {y : Int} (h : WT p L f come Tb) (hT : Tb.length ≤ come.length) (hy : y ∉ come) (h0 : 0 ≤ y ∧ y < (p : Int)) : WT p L f (come ++ [y]) Tb := by
  refine ⟨?_, fun x hx => ?_, fun i x r h1 h2 => ?_⟩
  · rw [List.nodup_append]
    exact ⟨h.nd, by simp, fun a ha b hb => by rw [List.mem_singleton.mp hb]; exact fun z => hy (by rw [← z]; exact ha)⟩
  · rcases List.mem_append.mp hx with hx | hx
    · exact h.rg x hx
    · rw [List.mem_singleton.mp hx]; exact h0
  · have hi := (List.getElem?_eq_some_iff.mp h2).1
    rw [List.getElem?_append_left (by omega)] at h1
    exact (h.rw_ i x r h1 h2).more
def fs (rows : List (List Int)) (k : Nat) (x : Int) : Int := ((sf rows x.toNat (M12.st k) : Nat) : Int)
theorem ok__law_table_of (T : Txt K mg A) : FnOk P w K mg base CX0 2 A.f__law_table_of A.d__law_table_of ["_law_turns", "_law_letters", "_law_first"] spTableOf := by
  have G__law_steps : FnOk P w K mg base CX0 1 A.f__law_steps A.d__law_steps ["_law_letters"] spSteps := ok__law_steps T
  have G__law_moved : FnOk P w K mg base CX0 1 A.f__law_moved A.d__law_moved ["_law_turns", "_law_point", "_law_word"] spMoved := ok__law_moved T
  refine T._law_table_of.F.ok sc__law_table_of (fun vs H Q E h => ?_) (fun cdv AA outer s H vs Q E hr h => ?_)
  · obtain ⟨l, rows, p, x, rfl, _⟩ := h
    rfl
  · obtain ⟨l, rows, p, x, rfl, hTa, hL1, hL2, hp2, hpm, hx, k⟩ := h
    refine ⟨_, (pss_cons (ps_set (i := 3) sc__law_table_of.nd rfl (Or.inl rfl) (pe_lst (pa_cons (pv 2) pa_nil)))
      (pss_cons (ps_set (i := 4) sc__law_table_of.nd rfl (Or.inl rfl) (pe_lst (pa_cons (pe_tup pa_nil) pa_nil)))
      (pss_cons (ps_set (i := 5) sc__law_table_of.nd rfl (Or.inl rfl) (pe_lst pa_nil))
      (pss_cons (ps_cut (ps_while PassesOwn.never (pt_cmpR op_lt (pe_callB call_len_seq rfl T.z_len PySem.boot_len (pa_cons (pv 5) pa_nil)) (pe_callB call_len_seq rfl T.z_len PySem.boot_len (pa_cons (pv 3) pa_nil)) (nomark _))
        (pss_cons (ps_set (i := 6) sc__law_table_of.nd rfl (Or.inl rfl) (pe_ix ix_list (pv 3) (pe_callB call_len_seq rfl T.z_len PySem.boot_len (pa_cons (pv 5) pa_nil)) (fun _ _ => rfl)))
        (pss_cons (ps_set (i := 7) sc__law_table_of.nd rfl (Or.inl rfl) (pe_ix ix_list (pv 4) (pe_callB call_len_seq rfl T.z_len PySem.boot_len (pa_cons (pv 5) pa_nil)) (fun _ _ => rfl)))
        (pss_cons (ps_set (i := 8) sc__law_table_of.nd rfl (Or.inl rfl) (pe_lst pa_nil))
        (pss_cons (ps_for PassesOwn.never rfl (pi_list (pe_call (G__law_steps) (hr.mono (by decide)) rfl T._law_steps.m T._law_steps.F.kp T._law_steps.b .nil pass0 (pa_cons (pv 1) pa_nil))) (pg_name (i := 9) sc__law_table_of.nd rfl (Or.inl rfl))
          (pss_cons (ps_set (i := 10) sc__law_table_of.nd rfl (Or.inl rfl) (pe_call (G__law_moved) (hr.mono (by decide)) rfl T._law_moved.m T._law_moved.F.kp T._law_moved.b .nil pass0 (pa_cons (pv 0) (pa_cons (pv 6) (pa_cons (pe_tup (pa_cons (pv 9) pa_nil)) pa_nil)))))
          (pss_cons (ps_cut (ps_if (pt_cmpR op_NOTIN_l (pv 10) (pv 3) rfl)
            (pss_cons (ps_expr (pe_bm PySem.F.plainAttrs_list PySem.F.slot_list_append PySem.F.type_list_append mt_append (pv 3) (pa_cons (pv 10) pa_nil)))
            (pss_one (ps_expr (pe_bm PySem.F.plainAttrs_list PySem.F.slot_list_append PySem.F.type_list_append mt_append (pv 4) (pa_cons (pe_op op_catTT (pv 7) (pe_tup (pa_cons (pv 9) pa_nil))) pa_nil)))))
            pss_nil))
          (pss_one (ps_expr (pe_bm PySem.F.plainAttrs_list PySem.F.slot_list_append PySem.F.type_list_append mt_append (pv 8) (pa_cons (pe_bm PySem.F.plainAttrs_list PySem.F.slot_list_index PySem.F.type_list_index mt_list_index (pv 3) (pa_cons (pv 10) pa_nil)) pa_nil)))))))
        (pss_one (ps_expr (pe_bm PySem.F.plainAttrs_list PySem.F.slot_list_append PySem.F.type_list_append mt_append (pv 5) (pa_cons (pv 8) pa_nil))))))))))
      (pss_one (ps_ret (pe_tup (pa_cons (pv 5) (pa_cons (pv 4) pa_nil))))))))), ?_⟩
    refine ⟨_, rfl, by show 1 ≤ sizeLine; decide, fun lc hlc => ?_⟩
    have s1 : Same H (upd H lc (.lst [.int x])) := Same.upd hlc
    have hc1 : upd H lc (.lst [.int x]) lc = some (.lst (intV [(x : Int)])) := upd_same
    generalize upd H lc (.lst [.int x]) = H1 at s1 hc1 ⊢
    refine ⟨Nat.zero_le _, fun e0 he0 => ?_⟩
    have s2 : Same H1 (upd H1 e0 (.tup [])) := Same.upd he0
    have h2 : upd H1 e0 (.tup []) e0 = some (.tup (intV (wd []))) := upd_same
    generalize upd H1 e0 (.tup []) = H2 at s2 h2 ⊢
    refine ⟨by show 1 ≤ sizeLine; decide, fun lw hlw => ?_⟩
    have s3 : Same H2 (upd H2 lw (.lst [.ref e0])) := Same.upd hlw
    have hw3 : upd H2 lw (.lst [.ref e0]) lw = some (.lst ([e0].map V.ref)) := upd_same
    generalize upd H2 lw (.lst [.ref e0]) = H3 at s3 hw3 ⊢
    refine ⟨Nat.zero_le _, fun lt hlt => ?_⟩
    have s4 : Same H3 (upd H3 lt (.lst [])) := Same.upd hlt
    have ht4 : upd H3 lt (.lst []) lt = some (.lst (([] : List Addr).map V.ref)) := upd_same
    generalize upd H3 lt (.lst []) = H4 at s4 ht4 ⊢
    have B4 : Tst H H4 lc lw lt [] [e0] [(x : Int)] [] [[]] := by
      have nlw : H1 lw = none := s2.free hlw
      have nlt : H2 lt = none := s3.free hlt
      refine ⟨((s1.trans s2).trans s3).trans s4, ((s2.trans s3).trans s4) _ _ hc1, s4 _ _ hw3, ⟨rfl, fun i q u h1 h2' => ?_⟩, ht4, ⟨rfl, fun i r ns h1 => by simp at h1⟩, ?_, fun y hy => ?_⟩
      · have e1 := List.mem_singleton.mp (List.mem_of_getElem? h1)
        have e2 : u = wd [] := List.mem_singleton.mp (List.mem_of_getElem? h2')
        rw [e1, e2]
        exact (s3.trans s4) _ _ h2
      · have a1 : lc ≠ lw := fun z => by rw [← z, hc1] at nlw; cases nlw
        have a2 : lc ≠ lt := fun z => by rw [← z, s2 _ _ hc1] at nlt; cases nlt
        have a3 : lw ≠ lt := fun z => by rw [← z, hw3] at hlt; cases hlt
        simp [a1, a2, a3]
      · simp only [List.mem_cons, List.not_mem_nil, or_false] at hy
        rcases hy with e | e | e
        · rw [e]; exact hlc
        · rw [e]; exact s1.free nlw
        · rw [e]; exact s1.free (s2.free nlt)
    have W4 : WT p rows.length (fs rows) [(x : Int)] [] := ⟨by simp, fun y hy => by rw [List.mem_singleton.mp hy]; omega, fun i y r h1 h2 => by simp at h2⟩
    clear s1 s2 s3 s4 hc1 h2 hw3 ht4 hlc he0 hlw hlt
    refine ⟨fun σ' H' => ∃ (come : List Int) (Tb : List (List Int)) (ts ps : List Addr) (ws : List (List Nat)) (v6 v7 v8 v9 v10 : Option V), σ' = [some (.ref l), some (.int rows.length), some (.int x), some (.ref lc), some (.ref lw), some (.ref lt), v6, v7, v8, v9, v10] ∧ Tst H H' lc lw lt ts ps come Tb ws ∧ WT p rows.length (fs rows) come Tb ∧ Tb.length = come.length ∧ 1 ≤ come.length ∧ M12.Fc (2 * rows.length) Tb.flatten come.length ∧ M14.Wy (2 * rows.length) Tb.flatten ws come.length, ?_, ?_⟩
    · refine ⟨fun m σ H' => ∃ (come : List Int) (Tb : List (List Int)) (ts ps : List Addr) (ws : List (List Nat)) (v6 v7 v8 v9 v10 : Option V), m = p - Tb.length ∧ σ = [some (.ref l), some (.int rows.length), some (.int x), some (.ref lc), some (.ref lw), some (.ref lt), v6, v7, v8, v9, v10] ∧ Tst H H' lc lw lt ts ps come Tb ws ∧ WT p rows.length (fs rows) come Tb ∧ Tb.length ≤ come.length ∧ 1 ≤ come.length ∧ M12.Fc (2 * rows.length) Tb.flatten come.length ∧ M14.Wy (2 * rows.length) Tb.flatten ws come.length,
        ⟨_, [(x : Int)], [], [], [e0], [[]], none, none, none, none, none, rfl, rfl, B4, W4, Nat.zero_le _, Nat.le_refl _, M12.Fc.zero _, M14.Wy.zero _⟩, ?_⟩
      rintro m σ H5 ⟨come, Tb, ts, ps, ws, v6, v7, v8, v9, v10, rfl, rfl, B5, W5, hTc, hc1, hF5, hY5⟩
      have htl : ts.length = Tb.length := B5.t2.1
      have hcp := M11.nodup_lenI W5.nd W5.rg
      refine ⟨_, rfl, lt, _, rfl, .inl (SqL.of B5.t1), _, rfl, lc, _, rfl, .inl (SqL.of B5.c1), _, _, rfl, rfl, _, rfl, ?_⟩
      refine ite2 (fun h => ?_) (fun h => ?_)
      · have hlt2 : Tb.length < come.length := by
          have h' : ((ts.map V.ref).length : Int) < ((intV come).length : Int) := of_decide_eq_true h
          rw [List.length_map, ints_len, htl] at h'
          omega
        have hx5 : come[Tb.length]? = some come[Tb.length] := List.getElem?_eq_getElem hlt2
        generalize come[Tb.length] = x5 at hx5
        have hxr := W5.rg x5 (List.mem_of_getElem? hx5)
        obtain ⟨xi, hxi⟩ : ∃ n : Nat, x5 = (n : Int) := ⟨x5.toNat, by omega⟩
        subst hxi
        have hxp : xi < p := by omega
        refine ⟨fun σ' H' => ∃ (come : List Int) (Tb2 : List (List Int)) (ts ps : List Addr) (ws : List (List Nat)) (v6 v7 v8 v9 v10 : Option V), σ' = [some (.ref l), some (.int rows.length), some (.int x), some (.ref lc), some (.ref lw), some (.ref lt), v6, v7, v8, v9, v10] ∧ Tst H H' lc lw lt ts ps come Tb2 ws ∧ WT p rows.length (fs rows) come Tb2 ∧ Tb2.length ≤ come.length ∧ 1 ≤ come.length ∧ Tb2.length = Tb.length + 1 ∧ M12.Fc (2 * rows.length) Tb2.flatten come.length ∧ M14.Wy (2 * rows.length) Tb2.flatten ws come.length, fun σ' H' ⟨c, T2, ts2, ps2, ws2, a6, a7, a8, a9, a10, e, b, w', q1, q2, q3, q4, q5⟩ => ⟨p - T2.length, ?_, c, T2, ts2, ps2, ws2, a6, a7, a8, a9, a10, rfl, e, b, w', q1, q2, q4, q5⟩, ?_⟩
        · omega
        have hat : atI (intV come) ((ts.map V.ref).length : Int) = some (V.int (xi : Int)) := by
          rw [List.length_map, htl]
          exact atI_nat (ints_at hx5)
        have hwl : ps.length = come.length := by rw [B5.w2.1, List.length_map, hY5.1.1]
        have hpq : ps[Tb.length]? = some (ps[Tb.length]'(by omega)) := List.getElem?_eq_getElem (by omega)
        generalize ps[Tb.length]'(by omega) = pw at hpq
        have huq : ws[Tb.length]? = some (ws[Tb.length]'(by have := hY5.1.1; omega)) := List.getElem?_eq_getElem (by have := hY5.1.1; omega)
        generalize ws[Tb.length]'(by have := hY5.1.1; omega) = u5 at huq
        have hpw := B5.w2.2 _ pw (wd u5) hpq (by rw [List.getElem?_map, huq]; rfl)
        have hatw : atI (ps.map V.ref) ((ts.map V.ref).length : Int) = some (V.ref pw) := by
          rw [List.length_map, htl]
          exact ref_at hpq
        refine ⟨_, rfl, _, rfl, lt, _, rfl, .inl (SqL.of B5.t1), lc, _, _, _, rfl, rfl, SqL.of B5.c1, hat, ?_⟩
        refine ⟨_, rfl, _, rfl, lt, _, rfl, .inl (SqL.of B5.t1), lw, _, _, _, rfl, rfl, SqL.of B5.w1, hatw, ?_⟩
        refine ⟨Nat.zero_le _, fun lr hlr => ?_⟩
        have s56 : Same H5 (upd H5 lr (.lst [])) := Same.upd hlr
        have hr6 : upd H5 lr (.lst []) lr = some (.lst (intV [])) := upd_same
        have B6 := B5.more s56
        have hlo : lr ∉ lc :: lw :: lt :: ts := by
          simp only [List.mem_cons, not_or]
          refine ⟨fun z => ?_, fun z => ?_, fun z => ?_, fun z => ?_⟩
          · rw [z, B5.c1] at hlr; cases hlr
          · rw [z, B5.w1] at hlr; cases hlr
          · rw [z, B5.t1] at hlr; cases hlr
          · obtain ⟨ns, e⟩ := rows_mem B5.t2 z
            rw [hlr] at e
            cases e
        have hln : H lr = none := B5.same.free hlr
        have R1 : lr ≠ lc := fun z => hlo (by simp [z])
        have R2 : lr ≠ lw := fun z => hlo (by simp [z])
        have hpw6 := s56 _ _ hpw
        generalize upd H5 lr (.lst []) = H6 at s56 hr6 B6 hpw6 ⊢
        refine ⟨_, rfl, rows.length, rfl, hL1, by omega, fun lS H8 s8 nS h8 => ?_⟩
        have S1 : lS ≠ lc := fun z => by rw [z, B6.c1] at nS; cases nS
        have S2 : lS ≠ lw := fun z => by rw [z, B6.w1] at nS; cases nS
        have S3 : lS ≠ lr := fun z => by rw [z, hr6] at nS; cases nS
        refine ⟨lS, rfl, ⟨_, SqL.of h8⟩, ?_⟩
        refine for_list (K := K) (a := lS) (xs := intV (stL (2 * rows.length))) (fun n σ H7 => ∃ (come : List Int) (ps : List Addr) (ws : List (List Nat)) (r : List Int) (v9 v10 : Option V), σ = [some (.ref l), some (.int rows.length), some (.int x), some (.ref lc), some (.ref lw), some (.ref lt), some (.int (xi : Int)), some (.ref pw), some (.ref lr), v9, v10] ∧ Tst H H7 lc lw lt ts ps come Tb ws ∧ H7 lr = some (.lst (intV r)) ∧ H7 lS = some (.lst (intV (stL (2 * rows.length)))) ∧ H7 pw = some (.tup (intV (wd u5))) ∧ WT p rows.length (fs rows) come Tb ∧ come[Tb.length]? = some (xi : Int) ∧ ws[Tb.length]? = some u5 ∧ M11.RowOk rows.length (fs rows) come (xi : Int) r n ∧ M12.Fc (2 * rows.length) (Tb.flatten ++ r) come.length ∧ M14.Wy (2 * rows.length) (Tb.flatten ++ r) ws come.length)
          ⟨come, ps, ws, [], v9, v10, rfl, B6.more s8, s8 _ _ hr6, h8, s8 _ _ hpw6, W5, hx5, huq, ⟨rfl, fun k hk => by omega⟩, by rw [List.append_nil]; exact hF5, by rw [List.append_nil]; exact hY5⟩ (fun i σ H7 _ ⟨_, _, _, _, _, _, _, _, _, hS, _⟩ => SqL.of hS) ?_ ?_
        · rintro n y σ H7 hn ⟨come, ps, ws, r, v9, v10, rfl, B7, hr7, hS7, hp7, W7, hx7, hu7, hro, hF7, hY7⟩
          have hn' : n < 2 * rows.length := by
            have := (List.getElem?_eq_some_iff.mp hn).1
            rw [ints_len, stL_len] at this
            exact this
          rw [ints_at (stL_at hn')] at hn
          have ey : V.int (M12.st n) = y := Option.some.inj hn
          subst ey
          have hst := M12.st_ok hn'
          have hcp7 := M11.nodup_lenI W7.nd W7.rg
          have hTl7 := (List.getElem?_eq_some_iff.mp hx7).1
          obtain ⟨o1, o2⟩ := sf_ok hpm hxp hst.1 hst.2
          have efs : fs rows n (xi : Int) = ((sf rows xi (M12.st n) : Nat) : Int) := by unfold fs; rw [Int.toNat_natCast]
          refine ⟨_, rfl, _, rfl, _, rfl, by show 1 ≤ sizeLine; decide, fun wa hwa => ?_⟩
          have s78 : Same H7 (upd H7 wa (.tup [.int (M12.st n)])) := Same.upd hwa
          have hw8 : upd H7 wa (.tup [.int (M12.st n)]) wa = some (.tup (intV [M12.st n])) := upd_same
          have B8 := B7.more s78
          have hr8 := s78 _ _ hr7
          have hS8 := s78 _ _ hS7
          have hp8 := s78 _ _ hp7
          generalize upd H7 wa (.tup [.int (M12.st n)]) = H9 at hw8 B8 hr8 hS8 hp8 ⊢
          refine ⟨l, wa, rows, p, xi, [M12.st n], rfl, ?_, hpm, hxp, by omega, hw8, fun s hs => by rw [List.mem_singleton.mp hs]; exact hst, by omega, ?_⟩
          · obtain ⟨rs, e1, e2⟩ := hTa
            exact ⟨rs, B8.same _ _ e1, e2.same B8.same⟩
          rw [show List.foldl (sf rows) xi [M12.st n] = sf rows xi (M12.st n) from rfl]
          generalize sf rows xi (M12.st n) = o at efs o1 ⊢
          refine ⟨fun σ' H10 => ∃ (come : List Int) (ps : List Addr) (ws : List (List Nat)) (i : Nat), σ' = [some (.ref l), some (.int rows.length), some (.int x), some (.ref lc), some (.ref lw), some (.ref lt), some (.int (xi : Int)), some (.ref pw), some (.ref lr), some (.int (M12.st n)), some (.int (o : Int))] ∧ Tst H H10 lc lw lt ts ps come Tb ws ∧ H10 lr = some (.lst (intV r)) ∧ H10 lS = some (.lst (intV (stL (2 * rows.length)))) ∧ H10 pw = some (.tup (intV (wd u5))) ∧ WT p rows.length (fs rows) come Tb ∧ come[Tb.length]? = some (xi : Int) ∧ ws[Tb.length]? = some u5 ∧ M11.RowOk rows.length (fs rows) come (xi : Int) r n ∧ come[i]? = some (o : Int) ∧ M12.Fc (2 * rows.length) (Tb.flatten ++ r ++ [(i : Int)]) come.length ∧ M14.Wy (2 * rows.length) (Tb.flatten ++ r ++ [(i : Int)]) ws come.length, ?_, ?_⟩
          · refine ⟨_, rfl, _, rfl, (o : Int), lc, come, rfl, rfl, B8.c1, _, rfl, ?_⟩
            by_cases hm : (o : Int) ∈ come
            · obtain ⟨i, hi, e⟩ := List.mem_iff_getElem.mp hm
              have hci : come[i]? = some (o : Int) := by rw [List.getElem?_eq_getElem hi, e]
              rw [decide_eq_true hm]
              exact iteF ⟨come, ps, ws, i, rfl, B8, hr8, hS8, hp8, W7, hx7, hu7, hro, hci, hF7.old hi, hY7.old hF7 hi⟩
            · rw [decide_eq_false hm]
              refine iteT ?_
              refine ⟨_, rfl, .inl ⟨rfl, _, SqL.of B8.c1⟩, _, rfl, lc, _, _, rfl, rfl, B8.c1, ?_, ?_⟩
              · rw [ints_len]
                exact Nat.lt_of_le_of_lt (show come.length ≤ 300 by omega) (by decide)
              have B9 : Tst H (upd H9 lc (.lst (intV come ++ [V.int (o : Int)]))) lc lw lt ts ps (come ++ [(o : Int)]) Tb ws := by
                have := B8.comes (c2 := come ++ [(o : Int)])
                rw [ints_app] at this
                exact this
              have hr9 : upd H9 lc (.lst (intV come ++ [V.int (o : Int)])) lr = some (.lst (intV r)) := by rw [upd_ne R1]; exact hr8
              have hS9 : upd H9 lc (.lst (intV come ++ [V.int (o : Int)])) lS = some (.lst (intV (stL (2 * rows.length)))) := by rw [upd_ne S1]; exact hS8
              have hp9 : upd H9 lc (.lst (intV come ++ [V.int (o : Int)])) pw = some (.tup (intV (wd u5))) := by rw [upd_ne (ne_of hp8 B8.c1 (by intro z; cases z))]; exact hp8
              generalize upd H9 lc (.lst (intV come ++ [V.int (o : Int)])) = H10 at B9 hr9 hS9 hp9 ⊢
              refine ⟨_, rfl, .inl ⟨rfl, _, SqL.of B9.w1⟩, _, rfl, _, rfl, by show 1 ≤ sizeLine; decide, fun w2 hw2 => ?_⟩
              have s11 : Same H10 (upd H10 w2 (.tup [.int (M12.st n)])) := Same.upd hw2
              have hw11 : upd H10 w2 (.tup [.int (M12.st n)]) w2 = some (.tup (intV [M12.st n])) := upd_same
              generalize upd H10 w2 (.tup [.int (M12.st n)]) = H11 at s11 hw11 ⊢
              have hub := (hY7.1.2.2 _ _ hu7).1
              refine ⟨pw, w2, _, _, rfl, rfl, s11 _ _ hp9, hw11, ?_, fun q H12 s12 hq => ?_⟩
              · rw [ints_len, ints_len]
                unfold wd
                rw [List.length_map]
                exact Nat.le_trans (show u5.length + 1 ≤ 301 by omega) (by decide)
              have s13 := s11.trans s12
              have B12 := B9.more s13
              have ewd : intV (wd (u5 ++ [n])) = intV (wd u5) ++ intV [M12.st n] := by
                unfold wd
                rw [List.map_append, ints_app]
                rfl
              refine ⟨lw, _, _, rfl, rfl, B12.w1, ?_, ?_⟩
              · rw [List.length_map, B12.w2.1, List.length_map, hY7.1.1]
                exact Nat.lt_of_le_of_lt (show come.length ≤ 300 by omega) (by decide)
              have B13 := B12.ways (q := q) (u := u5 ++ [n]) (by rw [ewd]; exact hq)
              rw [List.map_append] at B13
              have hfl : Tb.flatten.length = Tb.length * (2 * rows.length) := M12.flat_len fun i r h2 => by
                have hi := (List.getElem?_eq_some_iff.mp h2).1
                exact (W7.rw_ i _ r (List.getElem?_eq_getElem (by omega)) h2).1
              have hEl : (Tb.flatten ++ r).length = Tb.length * (2 * rows.length) + n := by rw [List.length_append, hfl, hro.1]
              have hEd : (Tb.flatten ++ r).length / (2 * rows.length) = Tb.length := by
                rw [hEl, Nat.mul_comm, Nat.mul_add_div (by omega), Nat.div_eq_of_lt hn', Nat.add_zero]
              have hEm : (Tb.flatten ++ r).length % (2 * rows.length) = n := by
                rw [hEl, Nat.mul_comm, Nat.mul_add_mod, Nat.mod_eq_of_lt hn']
              have hE : (Tb.flatten ++ r).length < come.length * (2 * rows.length) := by
                rw [hEl]
                have h1 : (Tb.length + 1) * (2 * rows.length) ≤ come.length * (2 * rows.length) := Nat.mul_le_mul_right _ hTl7
                rw [Nat.succ_mul] at h1
                omega
              have hYn := hY7.new hF7 (by omega) hE (u := u5) (by rw [hEd]; exact hu7)
              rw [hEm] at hYn
              refine ⟨come ++ [(o : Int)], _, _, come.length, rfl, B13, ?_, ?_, ?_, W7.more (by omega) hm ⟨by omega, by omega⟩, ?_, ?_, hro.more, ?_, ?_, ?_⟩
              · rw [upd_ne R2]
                exact s13 _ _ hr9
              · rw [upd_ne S2]
                exact s13 _ _ hS9
              · rw [upd_ne (ne_of (s13 _ _ hp9) B12.w1 (by intro z; cases z))]
                exact s13 _ _ hp9
              · rw [List.getElem?_append_left hTl7]
                exact hx7
              · rw [List.getElem?_append_left (by rw [hY7.1.1]; exact hTl7)]
                exact hu7
              · rw [List.getElem?_append_right (Nat.le_refl _), Nat.sub_self]
                rfl
              · rw [List.length_append]
                exact hF7.new (by omega) hE
              · rw [List.length_append]
                exact hYn
          rintro σ' H10 ⟨come, ps, ws, i, rfl, B9, hr9, hS9, hp9, W9, hx9, hu9, hro9, hci, hF9, hY9⟩
          refine ⟨_, rfl, .inl ⟨rfl, _, SqL.of hr9⟩, _, rfl, .inl ⟨rfl, _, SqL.of B9.c1⟩, _, rfl, lc, come, (o : Int), rfl, rfl, B9.c1, List.mem_of_getElem? hci, fun i' h1 h2 => ?_⟩
          have ei : i' = i := (List.getElem?_inj (List.getElem?_eq_some_iff.mp h1).1 W9.nd).mp (h1.trans hci.symm)
          subst ei
          refine ⟨lr, _, _, rfl, rfl, hr9, ?_, ?_⟩
          · rw [ints_len, hro9.1]
            exact Nat.lt_of_le_of_lt (show n ≤ 100 by omega) (by decide)
          refine ⟨come, ps, ws, r ++ [(i' : Int)], _, _, rfl, B9.off hr9 hln hlo, ?_, ?_, ?_, W9, hx9, hu9, hro9.snoc (by rw [efs]; exact hci), by rw [← List.append_assoc]; exact hF9, by rw [← List.append_assoc]; exact hY9⟩
          · rw [upd_same, ints_app]
            rfl
          · rw [upd_ne S3]
            exact hS9
          · rw [upd_ne (ne_of hp9 hr9 (by intro z; cases z))]
            exact hp9
        · rintro σ H7 ⟨come, ps, ws, r, v9, v10, rfl, B7, hr7, hS7, hp7, W7, hx7, hu7, hro, hF7, hY7⟩
          rw [ints_len, stL_len] at hro
          have hTl7 := (List.getElem?_eq_some_iff.mp hx7).1
          refine ⟨_, rfl, .inl ⟨rfl, _, SqL.of B7.t1⟩, _, rfl, lt, _, _, rfl, rfl, B7.t1, ?_, ?_⟩
          · rw [List.length_map, htl]
            exact Nat.lt_of_le_of_lt (show Tb.length ≤ 300 by omega) (by decide)
          have B9 := B7.rows hr7 hln hlo
          rw [List.map_append] at B9
          have efl : (Tb ++ [r]).flatten = Tb.flatten ++ r := by rw [List.flatten_append, List.flatten_cons, List.flatten_nil, List.append_nil]
          refine ⟨come, Tb ++ [r], ts ++ [lr], ps, ws, _, _, _, _, _, rfl, B9, ⟨W7.nd, W7.rg, fun i y r' h1 h2 => ?_⟩, ?_, by omega, ?_, by rw [efl]; exact hF7, by rw [efl]; exact hY7⟩
          · by_cases hi : i < Tb.length
            · rw [List.getElem?_append_left hi] at h2
              exact W7.rw_ i y r' h1 h2
            · rw [List.getElem?_append_right (by omega)] at h2
              have e1 := List.mem_singleton.mp (List.mem_of_getElem? h2)
              have e2 : i = Tb.length := by
                have := (List.getElem?_eq_some_iff.mp h2).1
                simp only [List.length_cons, List.length_nil] at this
                omega
              subst e2
              rw [hx7] at h1
              rw [e1, ← Option.some.inj h1]
              exact hro
          · rw [List.length_append]
            simp only [List.length_cons, List.length_nil]
            omega
          · rw [List.length_append]
            rfl
      · have hge : come.length ≤ Tb.length := by
          have h' : ¬ ((ts.map V.ref).length : Int) < ((intV come).length : Int) := fun z => h (decide_eq_true z)
          rw [List.length_map, ints_len, htl] at h'
          omega
        exact ⟨come, Tb, ts, ps, ws, v6, v7, v8, v9, v10, rfl, B5, W5, by omega, hc1, hF5, hY5⟩
    rintro σ' H5 ⟨come, Tb, ts, ps, ws, v6, v7, v8, v9, v10, rfl, B5, W5, hTc, hc1, hF5, hY5⟩
    have hcp := M11.nodup_lenI W5.nd W5.rg
    refine ⟨_, rfl, _, rfl, by show 2 ≤ sizeLine; decide, fun q hq => ?_⟩
    have B6 := B5.more (Same.upd (o := .tup [.ref lt, .ref lw]) hq)
    refine k q lt lw Tb ws _ B6.same upd_same ⟨ts, B6.t1, B6.t2⟩ ⟨ps, B6.w1, B6.w2⟩ (M11.tab_of (f := fs rows) hL1 hL2 W5.nd hc1 (by omega) hTc W5.rw_ fun k x hk hx => ?_) (by rw [hTc]; exact hF5) (M14.Wy.lw (by rw [hTc]; exact hY5)) hY5.1.2.2
    have hxr := W5.rg x hx
    obtain ⟨xi, hxi⟩ : ∃ n : Nat, x = (n : Int) := ⟨x.toNat, by omega⟩
    subst hxi
    have := (M12.st_ok hk)
    unfold fs
    rw [Int.toNat_natCast, Int.toNat_natCast, st_flip, (sf_ok hpm (show xi < p by omega) this.1 this.2).2]
def sn (w : List Int) (x : Int) : List Int := if w.getLast? = some (-x) then w.dropLast else w ++ [x]
def thinL (ns : List Int) : List Int := ns.foldl sn []
def spThin : Sp := fun vs H Q _ => ∃ (a : Addr) (ns : List Int), vs = [.ref a] ∧ (H a = some (.tup (intV ns)) ∨ H a = some (.lst (intV ns))) ∧ ns.length ≤ 1000000 ∧ ∀ l H', Same H H' → H' l = some (.tup (intV (thinL ns))) → Q (.ref l) H'
def spBack : Sp := fun vs H Q _ => ∃ (a : Addr) (ns : List Int), vs = [.ref a] ∧ H a = some (.tup (intV ns)) ∧ ns.length ≤ 2000 ∧ ∀ l H', Same H H' → H' l = some (.tup (intV (M11.back ns))) → Q (.ref l) H'
theorem sn_len (w : List Int) (x : Int) : (sn w x).length ≤ w.length + 1 := by
  unfold sn
  split
  · rw [List.length_dropLast]; omega
  · rw [List.length_append, List.length_singleton]; omega
theorem foldl_len : ∀ (ns w : List Int), (ns.foldl sn w).length ≤ w.length + ns.length
  | [], w => Nat.le_refl _
  | x :: ns, w => by
    have h1 := foldl_len ns (sn w x)
    have h2 := sn_len w x
    rw [List.foldl_cons, List.length_cons]
    omega
theorem ok__law_thin (T : Txt K mg A) : FnOk P w K mg base CX0 1 A.f__law_thin A.d__law_thin ["_law_word"] spThin := by
  refine T._law_thin.F.ok sc__law_thin (fun vs H Q E h => ?_) (fun cdv AA outer s H vs Q E hr h => ?_)
  · obtain ⟨a, ns, rfl, _⟩ := h
    rfl
  · obtain ⟨a, ns, rfl, ha, hlen, k⟩ := h
    have hu := Nat.lt_of_succ_lt (hu_of hr)
    refine ⟨_, (pss_cons (ps_set (i := 1) sc__law_thin.nd rfl (Or.inl rfl) (pe_lst pa_nil))
      (pss_cons (ps_for PassesOwn.never rfl (pi_seq (pv 0)) (pg_name (i := 2) sc__law_thin.nd rfl (Or.inl rfl))
        (pss_one (ps_cut (ps_if (PW.pt (pw_and (pt_cmpR (op_neLI hu) (pv 1) (pe_lst pa_nil) (nomark _)) (pw_and1 (pt_cmpR op_eq (pe_ix ix_list (pv 1) (pe_un un_neg pe_int) (fun _ _ => rfl)) (pe_un un_neg (pv 2)) (nomark _)))))
          (pss_one (ps_expr (pe_bm0 PySem.F.plainAttrs_list PySem.F.slot_list_pop PySem.F.type_list_pop mt_pop (pv 1))))
          (pss_one (ps_expr (pe_bm PySem.F.plainAttrs_list PySem.F.slot_list_append PySem.F.type_list_append mt_append (pv 1) (pa_cons (pv 2) pa_nil))))))))
      (pss_one (ps_ret (pe_callTy call_tuple_of rfl T.z_tuple PyProof.Rows.boot_tuple (pa_cons (pv 1) pa_nil)))))), ?_⟩
    refine ⟨Nat.zero_le _, fun lk hlk => ?_⟩
    have s0 : Same H (upd H lk (.lst [])) := Same.upd hlk
    have h0 : upd H lk (.lst []) lk = some (.lst (intV [])) := upd_same
    generalize upd H lk (.lst []) = H0 at s0 h0 ⊢
    rcases ha with ha | ha
    · refine ⟨_, rfl, .inr ⟨a, rfl, ⟨_, SqT.of (s0 _ _ ha)⟩, ?_⟩⟩
      refine for_tup (K := K) (a := a) (xs := intV ns) (fun i σ H2 => ∃ (v : Option V), σ = [some (.ref a), some (.ref lk), v] ∧ Same H H2 ∧ H2 lk = some (.lst (intV ((ns.take i).foldl sn [])))) ⟨none, rfl, s0, h0⟩ (fun i σ H2 _ ⟨_, _, s, _⟩ => SqT.of (s _ _ ha)) ?_ ?_
      · rintro i y σ H2 hi ⟨v, rfl, s2, h2⟩
        obtain ⟨z, rfl, hz⟩ := ints_of_at hi
        have hfold : (ns.take (i + 1)).foldl sn [] = sn ((ns.take i).foldl sn []) z := by
          rw [List.take_succ, hz, List.foldl_append]
          rfl
        have hkl : ((ns.take i).foldl sn []).length ≤ 1000000 := by
          have := foldl_len (ns.take i) []
          rw [List.length_take, List.length_nil] at this
          omega
        rw [hfold]
        generalize (ns.take i).foldl sn [] = u at h2 hkl ⊢
        refine ⟨_, ?_, fun _ _ h => h⟩
        refine ⟨_, rfl, Nat.zero_le _, fun q hq => ?_⟩
        have sq : Same H2 (upd H2 q (.lst [])) := Same.upd hq
        have hqq : upd H2 q (.lst []) q = some (.lst (intV [])) := upd_same
        generalize upd H2 q (.lst []) = H3 at sq hqq ⊢
        have h3 := sq _ _ h2
        have s3 := s2.trans sq
        have app : ¬ (u.getLast? = some (-z)) → ∃ v : Option V, [some (V.ref a), some (V.ref lk), some (V.int z)] = [some (V.ref a), some (V.ref lk), v] ∧ Same H (upd H3 lk (.lst (intV u ++ [V.int z]))) ∧ upd H3 lk (.lst (intV u ++ [V.int z])) lk = some (.lst (intV (sn u z))) := fun hne => by
          refine ⟨_, rfl, fun b o e => by rw [upd_ne (ne_of_none e hlk)]; exact s3 _ _ e, ?_⟩
          unfold sn
          rw [upd_same, if_neg hne, ints_app]
          rfl
        have hul : u.length < sizeLine := Nat.lt_of_le_of_lt hkl (by decide)
        refine ⟨lk, q, u, [], rfl, rfl, h3, hqq, _, rfl, ?_⟩
        by_cases hu : u = []
        · rw [show (!decide (u = [])) = false by simp [hu]]
          refine iteF (iteF ?_)
          exact ⟨_, rfl, .inl ⟨rfl, _, SqL.of h3⟩, _, rfl, lk, _, _, rfl, rfl, h3, by rw [ints_len]; exact hul, app (by rw [hu]; intro z; cases z)⟩
        · rw [show (!decide (u = [])) = true by simp [hu]]
          refine iteT ?_
          obtain ⟨u0, e, rfl⟩ : ∃ u0 e, u = u0 ++ [e] := ⟨u.dropLast, u.getLast hu, (List.dropLast_concat_getLast hu).symm⟩
          have eV : intV (u0 ++ [e]) = intV u0 ++ [V.int e] := by rw [ints_app]; rfl
          have hat : atI (intV (u0 ++ [e])) (-(1 : Int)) = some (V.int e) := by
            rw [eV]
            exact atI_last _ _
          refine ⟨_, rfl, _, rfl, lk, _, _, _, rfl, rfl, SqL.of h3, hat, _, rfl, _, rfl, ?_⟩
          refine ⟨rfl, _, rfl, ?_⟩
          have glast : (u0 ++ [e]).getLast? = some e := by simp
          refine ite2 (fun h => ?_) (fun h => ?_)
          · have he : e = -z := by
              have h' : V.int e = V.int (-z) := of_decide_eq_true h
              injection h'
            refine ⟨_, rfl, .inl ⟨rfl, _, SqL.of h3⟩, lk, _, V.int e, rfl, rfl, h3, ?_, _, rfl, fun b o e' => by rw [upd_ne (ne_of_none e' hlk)]; exact s3 _ _ e', ?_⟩
            · rw [eV, List.length_append, List.length_singleton, Nat.add_sub_cancel, List.getElem?_append_right (Nat.le_refl _), Nat.sub_self]
              rfl
            · unfold sn
              rw [upd_same, if_pos (by rw [glast, he]), eV, List.dropLast_concat, List.dropLast_concat]
          · exact ⟨_, rfl, .inl ⟨rfl, _, SqL.of h3⟩, _, rfl, lk, _, _, rfl, rfl, h3, by rw [ints_len]; exact hul, app (by rw [glast]; intro q; injection q with q; exact h (decide_eq_true (by rw [q])))⟩
      · rintro σ H2 ⟨v, rfl, s2, h2⟩
        rw [ints_len, List.take_length] at h2
        exact ⟨_, rfl, lk, _, rfl, .inl ⟨SqL.of h2, fun l hl => k l _ (s2.trans (Same.upd hl)) upd_same⟩⟩
    · refine ⟨_, rfl, .inl ⟨a, rfl, ⟨_, SqL.of (s0 _ _ ha)⟩, ?_⟩⟩
      refine for_list (K := K) (a := a) (xs := intV ns) (fun i σ H2 => ∃ (v : Option V), σ = [some (.ref a), some (.ref lk), v] ∧ Same H H2 ∧ H2 lk = some (.lst (intV ((ns.take i).foldl sn [])))) ⟨none, rfl, s0, h0⟩ (fun i σ H2 _ ⟨_, _, s, _⟩ => SqL.of (s _ _ ha)) ?_ ?_
      · rintro i y σ H2 hi ⟨v, rfl, s2, h2⟩
        obtain ⟨z, rfl, hz⟩ := ints_of_at hi
        have hfold : (ns.take (i + 1)).foldl sn [] = sn ((ns.take i).foldl sn []) z := by
          rw [List.take_succ, hz, List.foldl_append]
          rfl
        have hkl : ((ns.take i).foldl sn []).length ≤ 1000000 := by
          have := foldl_len (ns.take i) []
          rw [List.length_take, List.length_nil] at this
          omega
        rw [hfold]
        generalize (ns.take i).foldl sn [] = u at h2 hkl ⊢
        refine ⟨_, ?_, fun _ _ h => h⟩
        refine ⟨_, rfl, Nat.zero_le _, fun q hq => ?_⟩
        have sq : Same H2 (upd H2 q (.lst [])) := Same.upd hq
        have hqq : upd H2 q (.lst []) q = some (.lst (intV [])) := upd_same
        generalize upd H2 q (.lst []) = H3 at sq hqq ⊢
        have h3 := sq _ _ h2
        have s3 := s2.trans sq
        have app : ¬ (u.getLast? = some (-z)) → ∃ v : Option V, [some (V.ref a), some (V.ref lk), some (V.int z)] = [some (V.ref a), some (V.ref lk), v] ∧ Same H (upd H3 lk (.lst (intV u ++ [V.int z]))) ∧ upd H3 lk (.lst (intV u ++ [V.int z])) lk = some (.lst (intV (sn u z))) := fun hne => by
          refine ⟨_, rfl, fun b o e => by rw [upd_ne (ne_of_none e hlk)]; exact s3 _ _ e, ?_⟩
          unfold sn
          rw [upd_same, if_neg hne, ints_app]
          rfl
        have hul : u.length < sizeLine := Nat.lt_of_le_of_lt hkl (by decide)
        refine ⟨lk, q, u, [], rfl, rfl, h3, hqq, _, rfl, ?_⟩
        by_cases hu : u = []
        · rw [show (!decide (u = [])) = false by simp [hu]]
          refine iteF (iteF ?_)
          exact ⟨_, rfl, .inl ⟨rfl, _, SqL.of h3⟩, _, rfl, lk, _, _, rfl, rfl, h3, by rw [ints_len]; exact hul, app (by rw [hu]; intro z; cases z)⟩
        · rw [show (!decide (u = [])) = true by simp [hu]]
          refine iteT ?_
          obtain ⟨u0, e, rfl⟩ : ∃ u0 e, u = u0 ++ [e] := ⟨u.dropLast, u.getLast hu, (List.dropLast_concat_getLast hu).symm⟩
          have eV : intV (u0 ++ [e]) = intV u0 ++ [V.int e] := by rw [ints_app]; rfl
          have hat : atI (intV (u0 ++ [e])) (-(1 : Int)) = some (V.int e) := by
            rw [eV]
            exact atI_last _ _
          refine ⟨_, rfl, _, rfl, lk, _, _, _, rfl, rfl, SqL.of h3, hat, _, rfl, _, rfl, ?_⟩
          refine ⟨rfl, _, rfl, ?_⟩
          have glast : (u0 ++ [e]).getLast? = some e := by simp
          refine ite2 (fun h => ?_) (fun h => ?_)
          · have he : e = -z := by
              have h' : V.int e = V.int (-z) := of_decide_eq_true h
              injection h'
            refine ⟨_, rfl, .inl ⟨rfl, _, SqL.of h3⟩, lk, _, V.int e, rfl, rfl, h3, ?_, _, rfl, fun b o e' => by rw [upd_ne (ne_of_none e' hlk)]; exact s3 _ _ e', ?_⟩
            · rw [eV, List.length_append, List.length_singleton, Nat.add_sub_cancel, List.getElem?_append_right (Nat.le_refl _), Nat.sub_self]
              rfl
            · unfold sn
              rw [upd_same, if_pos (by rw [glast, he]), eV, List.dropLast_concat, List.dropLast_concat]
          · exact ⟨_, rfl, .inl ⟨rfl, _, SqL.of h3⟩, _, rfl, lk, _, _, rfl, rfl, h3, by rw [ints_len]; exact hul, app (by rw [glast]; intro q; injection q with q; exact h (decide_eq_true (by rw [q])))⟩
      · rintro σ H2 ⟨v, rfl, s2, h2⟩
        rw [ints_len, List.take_length] at h2
        exact ⟨_, rfl, lk, _, rfl, .inl ⟨SqL.of h2, fun l hl => k l _ (s2.trans (Same.upd hl)) upd_same⟩⟩
def negV : V → V
  | .int z => .int (-z)
  | v => v
theorem ok__law_back (T : Txt K mg A) : FnOk P w K mg base CX0 1 A.f__law_back A.d__law_back ["_law_word"] spBack := by
  refine T._law_back.F.ok sc__law_back (fun vs H Q E h => ?_) (fun cdv AA outer s H vs Q E hr h => ?_)
  · obtain ⟨a, ns, rfl, _⟩ := h
    rfl
  · obtain ⟨a, ns, rfl, ha, hlen, k⟩ := h
    refine ⟨_, (pss_one (ps_ret (pe_callTy call_tuple_of rfl T.z_tuple PyProof.Rows.boot_tuple (pa_cons (pe_comp (fns := []) (ixs := []) (cl := []) rfl (pi_tup (pe_slice3 sl_revT (pv 0) po_none po_none (po_some (pe_un un_neg pe_int)))) (compScope0 (by decide +kernel) (by decide +kernel) rfl (by decide +kernel) rfl) (fun C s H ex => (pe_un un_neg (pv 0)))) pa_nil)))), ?_⟩
    refine ⟨_, rfl, _, rfl, _, rfl, a, _, rfl, ha, rfl, rfl, rfl, fun q hq => ?_⟩
    have sq : Same H (upd H q (.tup (intV ns).reverse)) := Same.upd hq
    have hqq : upd H q (.tup (intV ns).reverse) q = some (.tup (intV ns).reverse) := upd_same
    generalize upd H q (.tup (intV ns).reverse) = H1 at sq hqq ⊢
    have hz : (intV ns).reverse.length ≤ sizeLine := by rw [List.length_reverse, ints_len]; exact Nat.le_trans hlen (by decide)
    refine ⟨q, rfl, ⟨_, SqT.of hqq⟩, ?_⟩
    refine comp_pure (intV ns).reverse negV (itt_go (SqT.of hqq)) (itt_yld (SqT.of hqq)) (itt_stop (SqT.of (K := K) hqq)) hz (fun i x hx R hR => ?_) (fun D hD => ?_)
    · obtain ⟨z, rfl, _⟩ := ints_of_at (ns := ns.reverse) (by unfold intV at hx ⊢; rw [List.map_reverse]; exact hx)
      exact ⟨_, rfl, z, rfl, hR⟩
    · refine ⟨D, _, rfl, .inl ⟨SqL.of upd_same, fun l hl => ?_⟩⟩
      have e : ((intV ns).reverse.map negV) = intV (M11.back ns) := by
        unfold intV M11.back
        rw [← List.map_reverse, List.map_map, List.map_map]
        rfl
      exact k l _ ((sq.trans (Same.upd hD)).trans (Same.upd hl)) (by rw [upd_same, e])
def wat (W : List (List Int)) (i : Nat) : List Int := W.getD i []
def inn (T W : List (List Int)) (c : Nat × Nat) : Bool := !decide (wat W (M11.nx T (2 * c.2) c.1) = wat W c.1 ++ [((c.2 + 1 : Nat) : Int)]) && !decide (wat W c.1 = wat W (M11.nx T (2 * c.2) c.1) ++ [-((c.2 + 1 : Nat) : Int)])
def litI (c : Nat × Nat) : List Int := [(c.1 : Int), ((c.2 + 1 : Nat) : Int)]
def wrdI (T W : List (List Int)) (c : Nat × Nat) : List Int := thinL (wat W c.1 ++ [((c.2 + 1 : Nat) : Int)] ++ M11.back (wat W (M11.nx T (2 * c.2) c.1)))
def cells (L : Nat) (i k : Nat) : List (Nat × Nat) := (List.range i).flatMap (fun j => (List.range L).map fun m => (j, m)) ++ (List.range k).map fun m => (i, m)
def innL (T W : List (List Int)) (L i k : Nat) : List (Nat × Nat) := (cells L i k).filter (inn T W)
def spInner : Sp := fun vs H Q _ => ∃ (a b : Addr) (T W : List (List Int)) (L : Nat), vs = [.ref a, .ref b] ∧ TabAt H a T ∧ WordsAt H b W ∧ M11.Tab L T ∧ W.length = T.length ∧ (∀ u ∈ W, u.length ≤ 900) ∧ ∀ l l1 l2 H', Same H H' → H' l = some (.tup [.ref l1, .ref l2]) → WordsAt H' l1 ((innL T W L T.length 0).map litI) → WordsAt H' l2 ((innL T W L T.length 0).map (wrdI T W)) → Q (.ref l) H'
theorem innL_row (T W : List (List Int)) (L i : Nat) : innL T W L i L = innL T W L (i + 1) 0 := by
  unfold innL cells
  rw [List.range_succ, List.flatMap_append]
  simp
theorem innL_succ (T W : List (List Int)) (L i k : Nat) : innL T W L i (k + 1) = innL T W L i k ++ (if inn T W (i, k) then [(i, k)] else []) := by
  unfold innL cells
  rw [List.range_succ, List.map_append, ← List.append_assoc, List.filter_append]
  congr 1
  show List.filter (inn T W) [(i, k)] = _
  rw [List.filter_cons, List.filter_nil]
theorem cells_len (L : Nat) : ∀ i k : Nat, (cells L i k).length = i * L + k := fun i k => by
  have : ∀ i : Nat, ((List.range i).flatMap (fun j => (List.range L).map fun m => (j, m))).length = i * L := fun i => by
    induction i with
    | zero => simp
    | succ i ih => rw [List.range_succ, List.flatMap_append, List.length_append, ih, Nat.succ_mul]; simp
  unfold cells
  rw [List.length_append, this, List.length_map, List.length_range]
theorem innL_len (T W : List (List Int)) (L i k : Nat) : (innL T W L i k).length ≤ i * L + k := by
  rw [← cells_len]
  exact List.length_filter_le _ _
structure Is2 (H0 H : Hp) (la lb : Addr) (ps qs : List Addr) (U V' : List (List Int)) : Prop where
  same : Same H0 H
  a1 : H la = some (.lst (ps.map V.ref))
  a2 : TupsAt H ps U
  b1 : H lb = some (.lst (qs.map V.ref))
  b2 : TupsAt H qs V'
  ne : la ≠ lb
  n1 : H0 la = none
  n2 : H0 lb = none
section
variable {H0 H : Hp} {la lb : Addr} {ps qs : List Addr} {U V' : List (List Int)}
theorem Is2.more {H' : Hp} (h : Is2 H0 H la lb ps qs U V') (s : Same H H') : Is2 H0 H' la lb ps qs U V' := ⟨h.same.trans s, s _ _ h.a1, h.a2.same s, s _ _ h.b1, h.b2.same s, h.ne, h.n1, h.n2⟩
theorem Is2.lets (h : Is2 H0 H la lb ps qs U V') {q : Addr} {u : List Int} (hq : H q = some (.tup (intV u))) : Is2 H0 (upd H la (.lst ((ps ++ [q]).map V.ref))) la lb (ps ++ [q]) qs (U ++ [u]) V' :=
  ⟨fun b o e => by rw [upd_ne (ne_of_none e h.n1)]; exact h.same _ _ e, upd_same, tups_upd (h.a2.snoc hq) h.a1, by rw [upd_ne (Ne.symm h.ne)]; exact h.b1, tups_upd h.b2 h.a1, h.ne, h.n1, h.n2⟩
theorem Is2.wrds (h : Is2 H0 H la lb ps qs U V') {q : Addr} {u : List Int} (hq : H q = some (.tup (intV u))) : Is2 H0 (upd H lb (.lst ((qs ++ [q]).map V.ref))) la lb ps (qs ++ [q]) U (V' ++ [u]) :=
  ⟨fun b o e => by rw [upd_ne (ne_of_none e h.n2)]; exact h.same _ _ e, by rw [upd_ne h.ne]; exact h.a1, tups_upd h.a2 h.b1, upd_same, tups_upd (h.b2.snoc hq) h.b1, h.ne, h.n1, h.n2⟩
end
theorem wat_at {W : List (List Int)} {i : Nat} (h : i < W.length) : W[i]? = some (wat W i) := by
  unfold wat
  rw [List.getD_eq_getElem?_getD, List.getElem?_eq_getElem h]
  rfl
theorem ok__law_inner (T : Txt K mg A) : FnOk P w K mg base CX0 2 A.f__law_inner A.d__law_inner ["_law_table", "_law_ways"] spInner := by
  have G__law_thin : FnOk P w K mg base CX0 1 A.f__law_thin A.d__law_thin ["_law_word"] spThin := ok__law_thin T
  have G__law_back : FnOk P w K mg base CX0 1 A.f__law_back A.d__law_back ["_law_word"] spBack := ok__law_back T
  refine T._law_inner.F.ok sc__law_inner (fun vs H Q E h => ?_) (fun cdv AA outer s H vs Q E hr h => ?_)
  · obtain ⟨a, b, TT, W, L, rfl, _⟩ := h
    rfl
  · obtain ⟨a, b, TT, W, L, rfl, hTa, hWa, hT, hWl, hWb, k⟩ := h
    have hu := Nat.lt_of_succ_lt (hu_of hr)
    refine ⟨_, (pss_cons (ps_set (i := 2) sc__law_inner.nd rfl (Or.inl rfl) (pe_lst pa_nil))
      (pss_cons (ps_set (i := 3) sc__law_inner.nd rfl (Or.inl rfl) (pe_lst pa_nil))
      (pss_cons (ps_for PassesOwn.never rfl (pi_enumL rfl T.z_enumerate (pv 0)) (pg_tup rfl (pgs_cons (pg_name (i := 4) sc__law_inner.nd rfl (Or.inl rfl)) (pgs_cons (pg_name (i := 5) sc__law_inner.nd rfl (Or.inl rfl)) pgs_nil)))
        (pss_one (ps_for PassesOwn.never rfl (pi_range3 rfl T.z_range (pa_cons pe_int (pa_cons (pe_callB call_len_seq rfl T.z_len PySem.boot_len (pa_cons (pv 5) pa_nil)) (pa_cons pe_int pa_nil)))) (pg_name (i := 6) sc__law_inner.nd rfl (Or.inl rfl))
          (pss_cons (ps_set (i := 7) sc__law_inner.nd rfl (Or.inl rfl) (pe_op op_add pe_int (pe_op op_fdiv (pv 6) pe_int)))
          (pss_cons (ps_set (i := 8) sc__law_inner.nd rfl (Or.inl rfl) (pe_ix ix_list (pv 5) (pv 6) (fun _ _ => rfl)))
          (pss_one (ps_cut (ps_if (PW.pt (pw_and (pt_cmpR (op_neTI hu) (pe_ix ix_list (pv 1) (pv 8) (fun _ _ => rfl)) (pe_op op_catTT (pe_ix ix_list (pv 1) (pv 4) (fun _ _ => rfl)) (pe_tup (pa_cons (pv 7) pa_nil))) (nomark _)) (pw_and1 (pt_cmpR (op_neTI hu) (pe_ix ix_list (pv 1) (pv 4) (fun _ _ => rfl)) (pe_op op_catTT (pe_ix ix_list (pv 1) (pv 8) (fun _ _ => rfl)) (pe_tup (pa_cons (pe_un un_neg (pv 7)) pa_nil))) (nomark _)))))
            (pss_cons (ps_expr (pe_bm PySem.F.plainAttrs_list PySem.F.slot_list_append PySem.F.type_list_append mt_append (pv 2) (pa_cons (pe_tup (pa_cons (pv 4) (pa_cons (pv 7) pa_nil))) pa_nil)))
            (pss_one (ps_expr (pe_bm PySem.F.plainAttrs_list PySem.F.slot_list_append PySem.F.type_list_append mt_append (pv 3) (pa_cons (pe_call (G__law_thin) (hr.mono (by decide)) rfl T._law_thin.m T._law_thin.F.kp T._law_thin.b .nil pass0 (pa_cons (pe_op op_catTT (pe_op op_catTT (pe_ix ix_list (pv 1) (pv 4) (fun _ _ => rfl)) (pe_tup (pa_cons (pv 7) pa_nil))) (pe_call (G__law_back) (hr.mono (by decide)) rfl T._law_back.m T._law_back.F.kp T._law_back.b .nil pass0 (pa_cons (pe_ix ix_list (pv 1) (pv 8) (fun _ _ => rfl)) pa_nil))) pa_nil)) pa_nil)))))
            pss_nil))))))))
      (pss_one (ps_ret (pe_tup (pa_cons (pv 2) (pa_cons (pv 3) pa_nil)))))))), ?_⟩
    obtain ⟨rs, hrs, hrw⟩ := id hTa
    obtain ⟨ws, hws, hww⟩ := id hWa
    have hL2 := hT.let2
    have hTt := hT.top
    refine ⟨Nat.zero_le _, fun la hla => ?_⟩
    have s1 : Same H (upd H la (.lst [])) := Same.upd hla
    have h1 : upd H la (.lst []) la = some (.lst (([] : List Addr).map V.ref)) := upd_same
    generalize upd H la (.lst []) = H1 at s1 h1 ⊢
    refine ⟨Nat.zero_le _, fun lb hlb => ?_⟩
    have s2 : Same H1 (upd H1 lb (.lst [])) := Same.upd hlb
    have h2 : upd H1 lb (.lst []) lb = some (.lst (([] : List Addr).map V.ref)) := upd_same
    generalize upd H1 lb (.lst []) = H2 at s2 h2 ⊢
    have B2 : Is2 H H2 la lb [] [] [] [] := ⟨s1.trans s2, s2 _ _ h1, ⟨rfl, fun i q u e => by simp at e⟩, h2, ⟨rfl, fun i q u e => by simp at e⟩, (fun z => by rw [← z, h1] at hlb; cases hlb), hla, s1.free hlb⟩
    refine ⟨_, rfl, a, rfl, ⟨_, SqL.of (B2.same _ _ hrs)⟩, ?_⟩
    refine for_enumL (K := K) (a := a) (xs := rs.map V.ref) (fun i σ H3 => ∃ (ps qs : List Addr) (v4 v5 v6 v7 v8 : Option V), σ = [some (.ref a), some (.ref b), some (.ref la), some (.ref lb), v4, v5, v6, v7, v8] ∧ Is2 H H3 la lb ps qs ((innL TT W L i 0).map litI) ((innL TT W L i 0).map (wrdI TT W))) ⟨[], [], none, none, none, none, none, rfl, B2⟩ (fun i σ H3 _ ⟨_, _, _, _, _, _, _, _, B⟩ => SqL.of (B.same _ _ hrs)) ?_ ?_
    · rintro i v σ H3 p hi hp ⟨ps, qs, v4, v5, v6, v7, v8, rfl, B3⟩
      rw [List.getElem?_map] at hi
      have hil : i < rs.length := by
        cases e : rs[i]? with
        | none => rw [e] at hi; cases hi
        | some r => exact (List.getElem?_eq_some_iff.mp e).1
      have g1 : rs[i]? = some rs[i] := List.getElem?_eq_getElem hil
      rw [g1] at hi
      have ey : V.ref rs[i] = v := Option.some.inj hi
      subst ey
      generalize rs[i] = rr at g1
      have hiT : i < TT.length := by rw [← hrw.1]; exact hil
      have g2 : TT[i]? = some TT[i] := List.getElem?_eq_getElem hiT
      generalize TT[i] = row at g2
      have hrr := hrw.2 i rr row g1 g2
      have hrl := hT.row i row g2
      have B4 := B3.more (Same.upd (o := .tup [.int (i : Int), .ref rr]) hp)
      refine ⟨p, _, rfl, SqT.of upd_same, rfl, _, _, rfl, _, _, rfl, rfl, ?_⟩
      generalize upd H3 p (.tup [.int (i : Int), .ref rr]) = H4 at B4 ⊢
      refine ⟨_, rfl, rr, _, rfl, .inl (SqL.of (B4.same _ _ hrr)), L, ?_, by omega, ?_⟩
      · show [V.int 0, V.int ((intV row).length : Int), V.int 2] = _
        rw [ints_len, hrl]
      refine for_range2 (n := L) (fun m σ H5 => ∃ (ps qs : List Addr) (v6 v7 v8 : Option V), σ = [some (.ref a), some (.ref b), some (.ref la), some (.ref lb), some (.int (i : Int)), some (.ref rr), v6, v7, v8] ∧ Is2 H H5 la lb ps qs ((innL TT W L i m).map litI) ((innL TT W L i m).map (wrdI TT W))) ⟨ps, qs, v6, v7, v8, rfl, B4⟩ ?_ ?_
      · rintro m σ H5 hm ⟨ps, qs, v6, v7, v8, rfl, B5⟩
        obtain ⟨r', e1, e2⟩ := hT.val i (2 * m) hiT (by omega)
        have er : row = r' := Option.some.inj (g2.symm.trans e1)
        subst er
        have hoT := hT.lt i (2 * m) hiT (by omega)
        refine ⟨_, rfl, _, _, rfl, rfl, ⟨by decide, by decide⟩, _, _, rfl, rfl, ?_⟩
        refine ⟨_, rfl, _, rfl, rr, _, _, _, rfl, rfl, SqL.of (B5.same _ _ hrr), atI_nat (ints_at e2), ?_⟩
        rw [innL_succ]
        refine ⟨_, ?_, fun _ _ h => h⟩
        have hinn : inn TT W (i, m) = (!decide (wat W (M11.nx TT (2 * m) i) = wat W i ++ [((m + 1 : Nat) : Int)]) && !decide (wat W i = wat W (M11.nx TT (2 * m) i) ++ [-((m + 1 : Nat) : Int)])) := rfl
        have hwr : wrdI TT W (i, m) = thinL (wat W i ++ [((m + 1 : Nat) : Int)] ++ M11.back (wat W (M11.nx TT (2 * m) i))) := rfl
        generalize M11.nx TT (2 * m) i = o at hoT hinn hwr ⊢
        have e7 : (1 : Int) + ((2 * m : Nat) : Int) / 2 = ((m + 1 : Nat) : Int) := by omega
        have hiW : i < W.length := by omega
        have hoW : o < W.length := by omega
        have a1 : ws[i]? = some (ws[i]'(by rw [hww.1]; exact hiW)) := List.getElem?_eq_getElem (by rw [hww.1]; exact hiW)
        generalize ws[i]'(by rw [hww.1]; exact hiW) = pi at a1
        have a2 : ws[o]? = some (ws[o]'(by rw [hww.1]; exact hoW)) := List.getElem?_eq_getElem (by rw [hww.1]; exact hoW)
        generalize ws[o]'(by rw [hww.1]; exact hoW) = po at a2
        have hpi := hww.2 _ _ _ a1 (wat_at hiW)
        have hpo := hww.2 _ _ _ a2 (wat_at hoW)
        have bi := hWb _ (List.mem_of_getElem? (wat_at hiW))
        have bo := hWb _ (List.mem_of_getElem? (wat_at hoW))
        have no : inn TT W (i, m) = false → ∀ H', Same H5 H' → ∃ (ps qs : List Addr) (v6 v7 v8 : Option V), [some (V.ref a), some (V.ref b), some (V.ref la), some (V.ref lb), some (V.int (i : Int)), some (V.ref rr), some (V.int ((2 * m : Nat) : Int)), some (V.int (1 + ((2 * m : Nat) : Int) / 2)), some (V.int (o : Int))] = [some (.ref a), some (.ref b), some (.ref la), some (.ref lb), some (.int (i : Int)), some (.ref rr), v6, v7, v8] ∧ Is2 H H' la lb ps qs ((innL TT W L i m ++ if inn TT W (i, m) then [(i, m)] else []).map litI) ((innL TT W L i m ++ if inn TT W (i, m) then [(i, m)] else []).map (wrdI TT W)) := fun hf H' s' => by
          refine ⟨ps, qs, _, _, _, rfl, ?_⟩
          rw [hf, if_neg Bool.false_ne_true, List.append_nil]
          exact B5.more s'
        refine ⟨_, rfl, _, rfl, b, _, _, _, rfl, rfl, SqL.of (B5.same _ _ hws), ref_at a2, _, rfl, _, rfl, b, _, _, _, rfl, rfl, SqL.of (B5.same _ _ hws), ref_at a1, _, rfl, by show 1 ≤ sizeLine; decide, fun q1 hq1 => ?_⟩
        have s6 : Same H5 (upd H5 q1 (.tup [.int (1 + ((2 * m : Nat) : Int) / 2)])) := Same.upd hq1
        have h6 : upd H5 q1 (.tup [.int (1 + ((2 * m : Nat) : Int) / 2)]) q1 = some (.tup [.int (1 + ((2 * m : Nat) : Int) / 2)]) := upd_same
        refine ⟨pi, q1, _, _, rfl, rfl, s6 _ _ (B5.same _ _ hpi), h6, ?_, fun c1 H7 s7 h7 => ?_⟩
        · rw [ints_len]
          exact Nat.le_trans (show (wat W i).length + 1 ≤ 901 by omega) (by decide)
        have s57 := s6.trans s7
        have h7' : H7 c1 = some (.tup (intV (wat W i ++ [((m + 1 : Nat) : Int)]))) := by
          rw [ints_app, ← e7]
          exact h7
        clear h6 s6 s7 h7
        refine ⟨po, c1, _, _, rfl, rfl, SqT.of (s57 _ _ (B5.same _ _ hpo)), SqT.of h7', _, rfl, ?_⟩
        by_cases d1 : wat W o = wat W i ++ [((m + 1 : Nat) : Int)]
        · rw [show (!decide (wat W o = wat W i ++ [((m + 1 : Nat) : Int)])) = false by rw [decide_eq_true d1]; rfl]
          exact iteF (iteF (no (by rw [hinn, decide_eq_true d1]; rfl) _ s57))
        rw [show (!decide (wat W o = wat W i ++ [((m + 1 : Nat) : Int)])) = true by rw [decide_eq_false d1]; rfl]
        refine iteT ?_
        have B7 := B5.more s57
        refine ⟨_, rfl, _, rfl, b, _, _, _, rfl, rfl, SqL.of (B7.same _ _ hws), ref_at a1, _, rfl, _, rfl, b, _, _, _, rfl, rfl, SqL.of (B7.same _ _ hws), ref_at a2, _, rfl, _, rfl, by show 1 ≤ sizeLine; decide, fun q2 hq2 => ?_⟩
        have s8 : Same H7 (upd H7 q2 (.tup [.int (-(1 + ((2 * m : Nat) : Int) / 2))])) := Same.upd hq2
        have h8 : upd H7 q2 (.tup [.int (-(1 + ((2 * m : Nat) : Int) / 2))]) q2 = some (.tup [.int (-(1 + ((2 * m : Nat) : Int) / 2))]) := upd_same
        refine ⟨po, q2, _, _, rfl, rfl, s8 _ _ (B7.same _ _ hpo), h8, ?_, fun c2 H9 s9 h9 => ?_⟩
        · rw [ints_len]
          exact Nat.le_trans (show (wat W o).length + 1 ≤ 901 by omega) (by decide)
        have s79 := s8.trans s9
        have h9' : H9 c2 = some (.tup (intV (wat W o ++ [-((m + 1 : Nat) : Int)]))) := by
          rw [ints_app, ← e7]
          exact h9
        clear h8 s8 s9 h9
        have B9 := B7.more s79
        refine ⟨pi, c2, _, _, rfl, rfl, SqT.of (B9.same _ _ hpi), SqT.of h9', _, rfl, ?_⟩
        by_cases d2 : wat W i = wat W o ++ [-((m + 1 : Nat) : Int)]
        · rw [show (!decide (wat W i = wat W o ++ [-((m + 1 : Nat) : Int)])) = false by rw [decide_eq_true d2]; rfl]
          exact iteF (no (by rw [hinn, decide_eq_true d2, Bool.not_true, Bool.and_false]) _ (s57.trans s79))
        rw [show (!decide (wat W i = wat W o ++ [-((m + 1 : Nat) : Int)])) = true by rw [decide_eq_false d2]; rfl]
        refine iteT ?_
        have hyes : inn TT W (i, m) = true := by rw [hinn, decide_eq_false d1, decide_eq_false d2]; rfl
        rw [hyes, if_pos rfl, List.map_append, List.map_append]
        have hlen := innL_len TT W L i m
        have hmul : i * L + m ≤ 12040 := by
          have : i * L ≤ 300 * 40 := Nat.mul_le_mul (by omega) hL2
          omega
        have ST : Same H9 H9 := fun _ _ e => e
        refine ⟨_, rfl, .inl ⟨rfl, _, SqL.of B9.a1⟩, _, rfl, _, rfl, by show 2 ≤ sizeLine; decide, fun q3 hq3 => ?_⟩
        have h10 : upd H9 q3 (.tup [.int (i : Int), .int (1 + ((2 * m : Nat) : Int) / 2)]) q3 = some (.tup (intV (litI (i, m)))) := by
          rw [upd_same, e7]
          rfl
        have B10 := B9.more (Same.upd (o := .tup [.int (i : Int), .int (1 + ((2 * m : Nat) : Int) / 2)]) hq3)
        generalize upd H9 q3 (.tup [.int (i : Int), .int (1 + ((2 * m : Nat) : Int) / 2)]) = H10 at h10 B10 ⊢
        refine ⟨la, _, _, rfl, rfl, B10.a1, ?_, ?_⟩
        · rw [List.length_map, B10.a2.1, List.length_map]
          exact Nat.lt_of_le_of_lt (show (innL TT W L i m).length ≤ 12040 by omega) (by decide)
        have B11 : Is2 H (upd H10 la (.lst (ps.map V.ref ++ [V.ref q3]))) la lb (ps ++ [q3]) qs ((innL TT W L i m).map litI ++ [litI (i, m)]) ((innL TT W L i m).map (wrdI TT W)) := by
          have := B10.lets h10
          rw [List.map_append] at this
          exact this
        generalize upd H10 la (.lst (ps.map V.ref ++ [V.ref q3])) = H11 at B11 ⊢
        refine ⟨_, rfl, .inl ⟨rfl, _, SqL.of B11.b1⟩, _, rfl, _, rfl, b, _, _, _, rfl, rfl, SqL.of (B11.same _ _ hws), ref_at a1, _, rfl, by show 1 ≤ sizeLine; decide, fun q4 hq4 => ?_⟩
        have s12 : Same H11 (upd H11 q4 (.tup [.int (1 + ((2 * m : Nat) : Int) / 2)])) := Same.upd hq4
        have h12 : upd H11 q4 (.tup [.int (1 + ((2 * m : Nat) : Int) / 2)]) q4 = some (.tup [.int (1 + ((2 * m : Nat) : Int) / 2)]) := upd_same
        refine ⟨pi, q4, _, _, rfl, rfl, s12 _ _ (B11.same _ _ hpi), h12, ?_, fun c4 H13 s13 h13 => ?_⟩
        · rw [ints_len]
          exact Nat.le_trans (show (wat W i).length + 1 ≤ 901 by omega) (by decide)
        have h13' : H13 c4 = some (.tup (intV (wat W i ++ [((m + 1 : Nat) : Int)]))) := by
          rw [ints_app, ← e7]
          exact h13
        have B13 := B11.more (s12.trans s13)
        clear h12 s12 s13 h13
        refine ⟨_, rfl, _, rfl, b, _, _, _, rfl, rfl, SqL.of (B13.same _ _ hws), ref_at a2, po, wat W o, rfl, B13.same _ _ hpo, by omega, fun lk H14 s14 h14 => ?_⟩
        have hbl : (M11.back (wat W o)).length = (wat W o).length := by unfold M11.back; rw [List.length_map, List.length_reverse]
        refine ⟨c4, lk, _, _, rfl, rfl, s14 _ _ h13', h14, ?_, fun c5 H15 s15 h15 => ?_⟩
        · rw [ints_len, ints_len, List.length_append, hbl]
          exact Nat.le_trans (show (wat W i).length + 1 + (wat W o).length ≤ 1801 by omega) (by decide)
        rw [← ints_app] at h15
        refine ⟨c5, _, rfl, .inl h15, ?_, fun lth H16 s16 h16 => ?_⟩
        · rw [List.length_append, List.length_append, hbl, List.length_singleton]
          omega
        have B16 := ((B13.more s14).more s15).more s16
        refine ⟨lb, _, _, rfl, rfl, B16.b1, ?_, ?_⟩
        · rw [List.length_map, B16.b2.1, List.length_map]
          exact Nat.lt_of_le_of_lt (show (innL TT W L i m).length ≤ 12040 by omega) (by decide)
        have B17 := B16.wrds h16
        rw [List.map_append, ← hwr] at B17
        exact ⟨_, _, _, _, _, rfl, B17⟩
      · rintro σ H5 ⟨ps, qs, v6, v7, v8, rfl, B5⟩
        rw [innL_row] at B5
        exact ⟨ps, qs, _, _, _, _, _, rfl, B5⟩
    · rintro σ H3 ⟨ps, qs, v4, v5, v6, v7, v8, rfl, B3⟩
      rw [List.length_map, hrw.1] at B3
      refine ⟨_, rfl, _, rfl, by show 2 ≤ sizeLine; decide, fun q hq => ?_⟩
      have B4 := B3.more (Same.upd (o := .tup [.ref la, .ref lb]) hq)
      exact k q la lb _ B4.same upd_same ⟨ps, B4.a1, B4.a2⟩ ⟨qs, B4.b1, B4.b2⟩
def spAlike : Sp := fun vs H Q _ => ∃ (a b : Addr) (W : List (List Int)), vs = [.ref a, .ref b] ∧ WordsAt H a W ∧ WordsAt H b W ∧ Q (.bl true) H
def spPlace : Sp := fun vs H Q _ => ∃ s : Int, vs = [.int s] ∧ s ≠ 0 ∧ s.natAbs ≤ 1000 ∧ Q (.int (M11.pl s)) H
theorem tab_get {H : Hp} {a : Addr} {T : List (List Int)} {L i : Nat} (h : TabAt H a T) (hT : M11.Tab L T) (hi : i < T.length) : ∃ (rs : List Addr) (r : Addr) (row : List Int), H a = some (.lst (rs.map V.ref)) ∧ rs[i]? = some r ∧ H r = some (.lst (intV row)) ∧ row.length = 2 * L ∧ ∀ k, k < 2 * L → row[k]? = some ((M11.nx T k i : Nat) : Int) := by
  obtain ⟨rs, h1, h2⟩ := h
  have hil : i < rs.length := by rw [h2.1]; exact hi
  have hr : rs[i]? = some rs[i] := List.getElem?_eq_getElem hil
  have ht : T[i]? = some T[i] := List.getElem?_eq_getElem hi
  refine ⟨rs, _, _, h1, hr, h2.2 i _ _ hr ht, hT.row i _ ht, fun k hk => ?_⟩
  obtain ⟨r, e1, e2⟩ := hT.val i k hi hk
  rw [ht] at e1
  rw [Option.some.inj e1]
  exact e2
theorem walk_take {T : List (List Int)} {w : List Int} {i n : Nat} {s : Int} (h : w[n]? = some s) : M11.walk T (w.take (n + 1)) i = M11.nx T (M11.pl s) (M11.walk T (w.take n) i) := by
  rw [List.take_succ, h]
  exact M11.walk_app T (w.take n) [s] i
theorem steps_take {L : Nat} {w : List Int} (n : Nat) (h : M11.Steps L w) : M11.Steps L (w.take n) := fun s hs => h s (List.mem_of_mem_take hs)
theorem ok_place_of (T : Txt K mg A) : FnOk P w K mg base CX0 1 A.f_place_of A.d_place_of ["step"] spPlace := by
  refine T.place_of.F.ok sc_place_of (fun vs H Q E h => ?_) (fun cdv AA outer s H vs Q E hr h => ?_)
  · obtain ⟨s, rfl, _⟩ := h
    rfl
  · obtain ⟨s, rfl, hs0, hsl, k⟩ := h
    refine ⟨_, (pss_cons (ps_if (pt_cmpR op_gt (pv 0) pe_int (nomark _))
        (pss_one (ps_ret (pe_op op_sub (pe_op op_mul pe_int (pv 0)) pe_int)))
        pss_nil)
      (pss_one (ps_ret (pe_op op_sub (pe_op op_mul (pe_un un_neg pe_int) (pv 0)) pe_int)))), ?_⟩
    refine ⟨_, rfl, _, _, rfl, rfl, _, rfl, ?_⟩
    refine ite2 (fun h => ?_) (fun h => ?_)
    · have h' : (0 : Int) < s := of_decide_eq_true h
      refine ⟨_, rfl, _, _, rfl, rfl, .inl ⟨by decide, by decide⟩, _, _, rfl, rfl, ?_⟩
      unfold M11.pl at k
      rw [if_pos h', show ((2 * s.natAbs - 2 : Nat) : Int) = 2 * s - 2 by omega] at k
      exact k
    · have h' : ¬ (0 : Int) < s := fun z => h (decide_eq_true z)
      refine ⟨_, rfl, _, rfl, _, _, rfl, rfl, .inl ⟨by decide, by decide⟩, _, _, rfl, rfl, ?_⟩
      unfold M11.pl at k
      rw [if_neg h', show ((2 * s.natAbs - 1 : Nat) : Int) = -2 * s - 1 by omega] at k
      exact k
theorem comp_copy {K : PySem.W.Frag} {H : Hp} {a : Addr} {fv : St} {te : TE} {Q : VK} {rs : List Addr} {rows : List (List Int)} (hrs : H a = some (.lst (rs.map V.ref))) (hrw : RowsAt H rs rows) (hz : rows.length ≤ 1000) (he : ∀ (H2 : Hp) (r : Addr) (ns : List Int) (R : VK), H2 r = some (.lst (intV ns)) → (∀ l, H2 l = none → R (.ref l) (upd H2 l (.lst (intV ns)))) → te (some (.ref r) :: fv) H2 R)
    (hQ : ∀ D H2 qs, Same H H2 → H2 D = none → RowsAt H2 qs rows → Q (.ref D) (upd H2 D (.lst (qs.map V.ref)))) : CompGo te fv Q (Itl K a) H := by
  have hrl := hrw.1
  refine ⟨fun i m ys H2 => m = rs.length - i ∧ i ≤ rs.length ∧ ∃ qs : List Addr, ys = qs.map V.ref ∧ Same H H2 ∧ RowsAt H2 qs (rows.take i), ⟨rs.length, by simp, Nat.zero_le _, [], rfl, fun _ _ e => e, ⟨by simp, fun i r ns h1 => by simp at h1⟩⟩, ?_⟩
  rintro i m ys H2 ⟨rfl, hi, qs, rfl, s2, hqa⟩
  have hql : qs.length = i := by have := hqa.1; rw [List.length_take] at this; omega
  by_cases hlt : i < rs.length
  · have g1 : rs[i]? = some rs[i] := List.getElem?_eq_getElem hlt
    have hil : i < rows.length := by omega
    have g2 : rows[i]? = some rows[i] := List.getElem?_eq_getElem hil
    have hr := hrw.2 i _ _ g1 g2
    refine .inr ⟨itl_go (SqL.of (s2 _ _ hrs)) i (by rw [List.length_map]; exact hlt), by rw [List.length_map, hql]; exact Nat.lt_of_le_of_lt (show i ≤ 1000 by omega) (by decide), fun x H3 hy => ?_⟩
    obtain ⟨rfl, hx⟩ := itl_yld (SqL.of (s2 _ _ hrs)) i x H3 (by rw [List.length_map]; exact hlt) hy
    rw [List.getElem?_map, g1] at hx
    have ex : V.ref rs[i] = x := Option.some.inj hx
    subst ex
    refine he H3 _ _ _ (s2 _ _ hr) fun l hl => ?_
    refine ⟨rs.length - (i + 1), by omega, rfl, hlt, qs ++ [l], by rw [List.map_append]; rfl, s2.trans (Same.upd hl), ?_⟩
    have e : rows.take (i + 1) = rows.take i ++ [rows[i]] := by rw [List.take_succ, g2]; rfl
    rw [e]
    exact (hqa.same (Same.upd hl)).snoc upd_same
  · have e : i = rs.length := by omega
    refine .inl ⟨?_, by rw [List.length_map, hql]; exact Nat.le_trans (show i ≤ 1000 by omega) (by decide), fun D hD => ?_⟩
    · have := itl_stop (K := K) (SqL.of (s2 _ _ hrs))
      rw [List.length_map, ← e] at this
      exact this
    · rw [List.take_of_length_le (by omega)] at hqa
      exact hQ D H2 qs s2 hD hqa
structure LW (L : Nat) (T : List (List Int)) (ws : List (List Nat)) : Prop where
  lw : M12.Lw L T ws
  ok : ∀ (i : Nat) (u : List Nat), ws[i]? = some u → (∀ k ∈ u, k < 2 * L) ∧ M11.walk T (wd u) 0 = i ∧ u.length ≤ 300
def spLeast : Sp := fun vs H Q _ => ∃ (a : Addr) (T : List (List Int)) (L : Nat), vs = [.ref a] ∧ TabAt H a T ∧ M11.Tab L T ∧ M12.Fc (2 * L) T.flatten T.length ∧ ∀ l ws H', Same H H' → H l = none → WordsAt H' l (ws.map wd) → LW L T ws → Q (.ref l) H'
def spStepsO : Sp := fun vs H Q _ => ∃ L : Nat, vs = [.int L] ∧ 1 ≤ L ∧ L ≤ 200 ∧ ∀ l H', Same H H' → H' l = some (.lst (intV ((List.range (2 * L)).map M12.st))) → Q (.ref l) H'
theorem wd_len (u : List Nat) : (wd u).length = u.length := by unfold wd; rw [List.length_map]
theorem wd_app (u v : List Nat) : wd (u ++ v) = wd u ++ wd v := by unfold wd; rw [List.map_append]
theorem lw_one {L : Nat} {T : List (List Int)} {ws ws' : List (List Nat)} (hT : M11.Tab L T) (hF : M12.Fc (2 * L) T.flatten T.length) (h : M12.Lw L T ws) (h' : M12.Lw L T ws') : ws = ws' := by
  have hL := hT.let1
  have key : ∀ j, j < T.length → ws[j]? = ws'[j]? := by
    intro j
    induction j using Nat.strongRecOn with
    | _ j ih =>
      intro hj
      by_cases h0 : j = 0
      · subst h0; rw [h.2.1, h'.2.1]
      · obtain ⟨p, a1, a2, a3⟩ := hF.2 j (by omega) hj
        obtain ⟨u, b1, b2⟩ := h.2.2 j p (by omega) hj a2 a3
        obtain ⟨u', c1, c2⟩ := h'.2.2 j p (by omega) hj a2 a3
        have hrow : p / (2 * L) < j := by
          rw [Nat.div_lt_iff_lt_mul (by omega)]
          exact a1
        have e := ih _ hrow (by omega)
        rw [b1, c1] at e
        rw [b2, c2, Option.some.inj e]
  refine List.ext_getElem? fun i => ?_
  by_cases hi : i < T.length
  · exact key i hi
  · rw [List.getElem?_eq_none (by rw [h.1]; omega), List.getElem?_eq_none (by rw [h'.1]; omega)]
theorem ok_steps_of (T : Txt K mg A) : FnOk P w K mg base CX0 1 A.f_steps_of A.d_steps_of ["letters"] spStepsO := by
  refine T.steps_of.F.ok sc_steps_of (fun vs H Q E h => ?_) (fun cdv AA outer s H vs Q E hr h => ?_)
  · obtain ⟨L, rfl, _⟩ := h
    rfl
  · obtain ⟨L, rfl, hL1, hL2, k⟩ := h
    refine ⟨_, (pss_cons (ps_set (i := 1) sc_steps_of.nd rfl (Or.inl rfl) (pe_lst pa_nil))
      (pss_cons (ps_for PassesOwn.never rfl (pi_range2 rfl T.z_range (pa_cons pe_int (pa_cons (pe_op op_add (pv 0) pe_int) pa_nil))) (pg_name (i := 2) sc_steps_of.nd rfl (Or.inl rfl))
        (pss_cons (ps_expr (pe_bm PySem.F.plainAttrs_list PySem.F.slot_list_append PySem.F.type_list_append mt_append (pv 1) (pa_cons (pv 2) pa_nil)))
        (pss_one (ps_expr (pe_bm PySem.F.plainAttrs_list PySem.F.slot_list_append PySem.F.type_list_append mt_append (pv 1) (pa_cons (pe_un un_neg (pv 2)) pa_nil))))))
      (pss_one (ps_ret (pv 1))))), ?_⟩
    refine ⟨Nat.zero_le _, fun l hl => ?_⟩
    have s0 : Same H (upd H l (.lst [])) := Same.upd hl
    have h0 : upd H l (.lst []) l = some (.lst (intV (stL (2 * 0)))) := upd_same
    generalize upd H l (.lst []) = H0 at s0 h0 ⊢
    refine ⟨_, rfl, _, _, rfl, rfl, 1, (L : Int) + 1, rfl, ⟨by omega, by omega, by omega, by omega⟩, ?_⟩
    refine for_range (lo := 1) (n := ((L : Int) + 1 - 1).toNat) (fun i σ H2 => ∃ v : Option V, σ = [some (.int L), some (.ref l), v] ∧ Same H H2 ∧ H2 l = some (.lst (intV (stL (2 * i))))) ⟨none, rfl, s0, h0⟩ ?_ ?_
    · rintro i σ H2 hi ⟨v, rfl, s2, h2⟩
      have hi' : i < L := by omega
      refine ⟨_, rfl, .inl ⟨rfl, _, SqL.of h2⟩, _, rfl, l, _, _, rfl, rfl, h2, ?_, ?_⟩
      · rw [ints_len, stL_len]
        exact Nat.lt_of_le_of_lt (show 2 * i ≤ 400 by omega) (by decide)
      refine ⟨_, rfl, .inl ⟨rfl, _, SqL.of upd_same⟩, _, rfl, _, rfl, l, _, _, rfl, rfl, upd_same, ?_, ?_⟩
      · rw [List.length_append, ints_len, stL_len]
        exact Nat.lt_of_le_of_lt (show 2 * i + 1 ≤ 400 by omega) (by decide)
      refine ⟨_, rfl, fun b o e => ?_, ?_⟩
      · rw [upd_ne (ne_of_none e hl), upd_ne (ne_of_none e hl)]
        exact s2 _ _ e
      · rw [upd_same, ← stL_two, ints_app, ints_app]
        rfl
    · rintro σ H2 ⟨v, rfl, s2, h2⟩
      rw [show ((L : Int) + 1 - 1).toNat = L by omega] at h2
      exact ⟨_, rfl, k l H2 s2 h2⟩
def RefD (kvs : List (Key × V)) (ps : List Addr) : Prop := kvs.length ≤ ps.length ∧ ∀ i : Nat, valV kvs (Sum.inl (i : Int)) = (ps[i]?).map V.ref
theorem RefD.one (p : Addr) : RefD [(Sum.inl 0, .ref p)] [p] := by
  refine ⟨Nat.le_refl _, fun i => ?_⟩
  cases i with
  | zero => exact valV_pos rfl
  | succ i =>
    rw [valV_neg (fun z => by injection z with z; omega)]
    rfl
theorem RefD.put {kvs : List (Key × V)} {ps : List Addr} (h : RefD kvs ps) (p : Addr) : RefD (putK kvs (Sum.inl (ps.length : Int)) (.ref p)) (ps ++ [p]) := by
  have hn : valV kvs (Sum.inl (ps.length : Int)) = none := by rw [h.2, List.getElem?_eq_none (Nat.le_refl _)]; rfl
  refine ⟨?_, fun i => ?_⟩
  · rw [putK_new _ hn, List.length_append, List.length_append]
    have := h.1
    simp only [List.length_cons, List.length_nil]
    omega
  · rw [valV_put]
    by_cases e : i = ps.length
    · subst e
      rw [if_pos rfl, List.getElem?_append_right (Nat.le_refl _), Nat.sub_self]
      rfl
    · rw [if_neg (fun z => e (by injection z with z; omega)), h.2]
      by_cases c : i < ps.length
      · rw [List.getElem?_append_left c]
      · rw [List.getElem?_eq_none (show ps.length ≤ i by omega), List.getElem?_eq_none (by rw [List.length_append]; simp only [List.length_cons, List.length_nil]; omega)]
theorem RefD.get {kvs : List (Key × V)} {ps : List Addr} {H : Hp} {d p : Addr} {i : Nat} (h : RefD kvs ps) (hd : H d = some (.dK kvs)) (hp : ps[i]? = some p) : DGet H d (.int (i : Int)) (some (.ref p)) := by
  have := DGet.k (k := Sum.inl (i : Int)) hd
  rw [h.2 i, hp] at this
  exact this
def natW (n : Nat) : List V := (List.range n).map fun i : Nat => V.int (i : Int)
theorem natW_len (n : Nat) : (natW n).length = n := by unfold natW; rw [List.length_map, List.length_range]
theorem natW_at {n i : Nat} (h : i < n) : (natW n)[i]? = some (V.int (i : Int)) := by
  unfold natW
  rw [List.getElem?_map, List.getElem?_range h]
  rfl
theorem comp_rangeV {H1 : Hp} {fv : St} {te : TE} {Q : VK} {n : Nat} (g : Nat → V) (hn : n ≤ 1000) (he : ∀ i : Nat, i < n → ∀ R : VK, R (g i) H1 → te (some (.int (i : Int)) :: fv) H1 R) (hQ : ∀ D, H1 D = none → Q (.ref D) (upd H1 D (.lst ((List.range n).map g)))) : CompGo te fv Q (Itr 0 n) H1 := by
  refine comp_pure (natW n) (fun v => match v with | .int z => g z.toNat | v => v) (fun i hi => by rw [natW_len] at hi; exact hi) (fun i x H3 hi y => ?_) (by rw [natW_len]; exact Nat.le_refl _) (by rw [natW_len]; exact Nat.le_trans hn (by decide)) (fun i x hx R hR => ?_) (fun D hD => ?_)
  · rw [natW_len] at hi
    obtain ⟨e1, e2⟩ := y
    refine ⟨e1, ?_⟩
    rw [natW_at hi]
    congr 1
    rw [e2, Int.zero_add]
  · have hi : i < n := by
      have := (List.getElem?_eq_some_iff.mp hx).1
      rw [natW_len] at this
      exact this
    rw [natW_at hi] at hx
    have ex := Option.some.inj hx
    subst ex
    refine he i hi R ?_
    have : R (g ((i : Int)).toNat) H1 := hR
    rw [Int.toNat_natCast] at this
    exact this
  · have e : ((natW n).map fun v => match v with | .int z => g z.toNat | v => v) = (List.range n).map g := by
      unfold natW
      rw [List.map_map]
      rfl
    rw [e]
    exact hQ D hD
theorem range_refs (ps : List Addr) : ((List.range ps.length).map fun i => V.ref (ps.getD i 0)) = ps.map V.ref := by
  apply List.ext_getElem
  · simp
  · intro i h1 h2
    simp [List.getD_eq_getElem?_getD] at h1 ⊢
    rw [List.getElem?_eq_getElem h1]
    rfl
theorem ok_least_ways (T : Txt K mg A) : FnOk P w K mg base CX0 2 A.f_least_ways A.d_least_ways ["table"] spLeast := by
  have G_steps_of : FnOk P w K mg base CX0 1 A.f_steps_of A.d_steps_of ["letters"] spStepsO := ok_steps_of T
  refine T.least_ways.F.ok sc_least_ways (fun vs H Q E h => ?_) (fun cdv AA outer s H vs Q E hr h => ?_)
  · obtain ⟨a, Tb, L, rfl, _⟩ := h
    rfl
  · obtain ⟨a, Tb, L, rfl, hTa, hT, hF, k⟩ := h
    have hu2 := hu_of hr
    refine ⟨_, (pss_cons (ps_set (i := 1) sc_least_ways.nd rfl (Or.inl rfl) (pe_call (G_steps_of) (hr.mono (by decide)) rfl T.steps_of.m T.steps_of.F.kp T.steps_of.b .nil pass0 (pa_cons (pe_op op_fdiv (pe_callB call_len_seq rfl T.z_len PySem.boot_len (pa_cons (pe_ix ix_list (pv 0) pe_int (fun _ _ => rfl)) pa_nil)) pe_int) pa_nil)))
      (pss_cons (ps_set (i := 2) sc_least_ways.nd rfl (Or.inr rfl) (pe_disp (pps_cons pe_int (pe_tup pa_nil) pps_nil) rfl rfl (by simp) (by decide)))
      (pss_cons (ps_for PassesOwn.never rfl (pi_enumL rfl T.z_enumerate (pv 0)) (pg_tup rfl (pgs_cons (pg_name (i := 3) sc_least_ways.nd rfl (Or.inl rfl)) (pgs_cons (pg_name (i := 4) sc_least_ways.nd rfl (Or.inl rfl)) pgs_nil)))
        (pss_one (ps_for PassesOwn.never rfl (pi_zip rfl T.z_zip (pa_cons (pv 1) (pa_cons (pv 4) pa_nil))) (pg_tup rfl (pgs_cons (pg_name (i := 5) sc_least_ways.nd rfl (Or.inl rfl)) (pgs_cons (pg_name (i := 6) sc_least_ways.nd rfl (Or.inl rfl)) pgs_nil)))
          (pss_one (ps_cut (ps_if (pt_cmp (pc_dnotin hu2 (pv 6) (pv 2)))
            (pss_one (ps_dput hu2 (pv 2) (pv 6) (pe_op op_catTT (pe_dget hu2 (pv 2) (pv 3) (fun _ _ => rfl)) (pe_tup (pa_cons (pv 5) pa_nil))) rfl))
            pss_nil))))))
      (pss_one (ps_ret (pe_comp (fns := ["ways"]) (ixs := [2]) (cl := _) rfl (pi_range1 rfl T.z_range (pa_cons (pe_callB call_len_seq rfl T.z_len PySem.boot_len (pa_cons (pv 0) pa_nil)) pa_nil)) (compScope1 rfl rfl (by decide +kernel) rfl (by decide +kernel) rfl (by decide +kernel) (by decide +kernel) rfl rfl rfl rfl) (fun C s H ex => (pe_dget hu2 (pv 1) (pv 0) (fun _ _ => rfl))))))))), ?_⟩
    have h300 := hT.top
    have h40 := hT.let2
    have hL1 := hT.let1
    obtain ⟨rs0, r0, row0, g1, g2, g3, g4, g5⟩ := tab_get hTa hT hT.pos
    have eL : ((intV row0).length : Int) / 2 = (L : Int) := by rw [ints_len, g4]; omega
    refine ⟨_, rfl, a, _, _, .ref r0, rfl, rfl, SqL.of g1, ref_at (i := 0) g2, r0, _, rfl, .inl (SqL.of g3), _, _, rfl, rfl, ⟨by decide, by decide⟩, ?_⟩
    refine ⟨L, by rw [← eL]; rfl, hL1, by omega, fun sl H1 s1 hs1 => ?_⟩
    intro d hd
    refine ⟨Nat.zero_le _, fun q0 hq0 => ?_⟩
    refine ⟨(Same.upd hq0) _ _ upd_same, [(Sum.inl 0, .ref q0)], rfl, by show 1 ≤ 15; decide, ?_⟩
    have hdq : q0 ≠ d := fun z => by rw [z, upd_same] at hq0; cases hq0
    have hq1 : H1 q0 = none := by rw [upd_ne hdq] at hq0; exact hq0
    generalize hH2 : upd (upd (upd H1 d (.dK [])) q0 (.tup [])) d _ = H2
    have hd2 : H2 d = some (.dK [(Sum.inl 0, .ref q0)]) := by rw [← hH2, upd_same]; rfl
    have hq2 : H2 q0 = some (.tup (intV (wd []))) := by rw [← hH2, upd_ne hdq, upd_same]; rfl
    have s2 : Same H1 H2 := fun b o e => by rw [← hH2, upd_ne (ne_of_none e hd), upd_ne (ne_of_none e hq1), upd_ne (ne_of_none e hd)]; exact e
    clear hH2
    have hT2 : TupsAt H2 [q0] ([[]].map wd) := ⟨rfl, fun i p w h1 h2 => by
      rw [List.mem_singleton.mp (List.mem_of_getElem? h1), List.mem_singleton.mp (List.mem_of_getElem? h2)]
      exact hq2⟩
    obtain ⟨rs, hrs, hrw⟩ := hTa.same s1
    have hlen : ((rs.map V.ref).length : Int) = (Tb.length : Int) := by rw [List.length_map, hrw.1]
    refine ⟨_, rfl, a, rfl, ⟨_, SqL.of (s2 _ _ hrs)⟩, ?_⟩
    refine for_enumL (K := K) (a := a) (xs := rs.map V.ref) (fun i σ H3 => ∃ (ps : List Addr) (ws : List (List Nat)) (kvs : List (Key × V)) (v3 v4 v5 v6 : Option V), σ = [some (.ref a), some (.ref sl), some (.ref d), v3, v4, v5, v6] ∧ Same H1 H3 ∧ H3 d = some (.dK kvs) ∧ RefD kvs ps ∧ TupsAt H3 ps (ws.map wd) ∧ M13.Part L Tb ws (i * (2 * L)))
      ⟨[q0], [[]], _, none, none, none, none, rfl, s2, hd2, RefD.one q0, hT2, by rw [Nat.zero_mul]; exact M13.Part.start hT hF⟩ (fun i σ H3 _ ⟨_, _, _, _, _, _, _, _, s, _⟩ => SqL.of (s _ _ hrs)) ?_ ?_
    · rintro i v σ H3 p hi hp ⟨ps, ws, kvs, v3, v4, v5, v6, rfl, s3, hd3, hr3, ht3, hP3⟩
      rw [List.getElem?_map] at hi
      have hil : i < rs.length := by
        cases e : rs[i]? with
        | none => rw [e] at hi; cases hi
        | some r => exact (List.getElem?_eq_some_iff.mp e).1
      have q1 : rs[i]? = some rs[i] := List.getElem?_eq_getElem hil
      rw [q1] at hi
      have ey : V.ref rs[i] = v := Option.some.inj hi
      subst ey
      generalize rs[i] = rr at q1
      have hiT : i < Tb.length := by rw [← hrw.1]; exact hil
      have q2 : Tb[i]? = some Tb[i] := List.getElem?_eq_getElem hiT
      generalize Tb[i] = row at q2
      have hrr := hrw.2 i rr row q1 q2
      have hrl := hT.row i row q2
      have s34 := Same.upd (o := .tup [.int (i : Int), .ref rr]) hp
      refine ⟨p, _, rfl, SqT.of upd_same, rfl, _, _, rfl, _, _, rfl, rfl, ?_⟩
      generalize upd H3 p (.tup [.int (i : Int), .ref rr]) = H4 at s34 ⊢
      have s4 := s3.trans s34
      refine ⟨_, rfl, _, rfl, sl, rr, rfl, ⟨_, SqL.of (s4 _ _ hs1)⟩, ⟨_, SqL.of (s4 _ _ hrr)⟩, ?_⟩
      refine for_zip (K := K) (a := sl) (b := rr) (xs := intV ((List.range (2 * L)).map M12.st)) (ys := intV row) (fun n σ H5 => ∃ (ps : List Addr) (ws : List (List Nat)) (kvs : List (Key × V)) (v5 v6 : Option V), σ = [some (.ref a), some (.ref sl), some (.ref d), some (.int (i : Int)), some (.ref rr), v5, v6] ∧ Same H1 H5 ∧ H5 d = some (.dK kvs) ∧ RefD kvs ps ∧ TupsAt H5 ps (ws.map wd) ∧ M13.Part L Tb ws (i * (2 * L) + n))
        (by rw [ints_len, ints_len, List.length_map, List.length_range, hrl]) ⟨ps, ws, kvs, v5, v6, rfl, s4, s34 _ _ hd3, hr3, ht3.same s34, hP3⟩ (fun n σ H5 _ ⟨_, _, _, _, _, _, s, _⟩ => ⟨SqL.of (s _ _ hs1), SqL.of (s _ _ hrr)⟩) ?_ ?_
      · rintro n v u σ H5 q hv hu hq ⟨ps, ws, kvs, v5, v6, rfl, s5, hd5, hr5, ht5, hP5⟩
        have hn' : n < 2 * L := by
          have := (List.getElem?_eq_some_iff.mp hv).1
          rw [ints_len, List.length_map, List.length_range] at this
          exact this
        rw [show (intV ((List.range (2 * L)).map M12.st))[n]? = some (V.int (M12.st n)) from ints_at (stL_at hn')] at hv
        have ev := Option.some.inj hv
        subst ev
        obtain ⟨r', e1, e2⟩ := hT.val i n hiT hn'
        have er : row = r' := Option.some.inj (q2.symm.trans e1)
        subst er
        rw [ints_at e2] at hu
        have eu := Option.some.inj hu
        subst eu
        obtain ⟨st1, st2⟩ := M13.Part.step hT hF hP5 hiT hn'
        have hle := M13.Part.le hT hF hP5 hiT hn'
        have s56 := Same.upd (o := .tup [.int (M12.st n), .int ((M11.nx Tb n i : Nat) : Int)]) hq
        refine ⟨q, _, rfl, SqT.of upd_same, rfl, _, _, rfl, _, _, rfl, rfl, ?_⟩
        generalize upd H5 q (.tup [.int (M12.st n), .int ((M11.nx Tb n i : Nat) : Int)]) = H6 at s56 ⊢
        have s6 := s5.trans s56
        have hd6 := s56 _ _ hd5
        have ht6 := ht5.same s56
        have hpl : ps.length = ws.length := by have := ht5.1; rw [List.length_map] at this; exact this
        refine ⟨_, ?_, fun _ _ h => h⟩
        refine ⟨_, rfl, _, rfl, d, _, rfl, DGet.k (k := Sum.inl ((M11.nx Tb n i : Nat) : Int)) hd6, _, rfl, ?_⟩
        rw [hr5.2]
        by_cases hnx : M11.nx Tb n i = ws.length
        · rw [List.getElem?_eq_none (show ps.length ≤ M11.nx Tb n i by omega)]
          refine iteT ?_
          have hiw := hP5.has hT hF hiT rfl
          have hu : ws[i]? = some ws[i] := List.getElem?_eq_getElem hiw
          generalize ws[i] = u at hu
          have hpi : ps[i]? = some (ps[i]'(by omega)) := List.getElem?_eq_getElem (by omega)
          generalize ps[i]'(by omega) = pa at hpi
          have hpa := ht6.2 i pa (wd u) hpi (by rw [List.getElem?_map, hu]; rfl)
          have hul := (hP5.ok i u hu).2.2
          have htop := hP5.top
          refine ⟨_, rfl, _, rfl, d, _, rfl, hr5.get hd6 hpi, _, rfl, by show 1 ≤ sizeLine; decide, fun q7 hq7 => ?_⟩
          have s67 : Same H6 (upd H6 q7 (.tup [.int (M12.st n)])) := Same.upd hq7
          have hq7' : upd H6 q7 (.tup [.int (M12.st n)]) q7 = some (.tup (intV (wd [n]))) := upd_same
          generalize upd H6 q7 (.tup [.int (M12.st n)]) = H7 at s67 hq7' ⊢
          refine ⟨pa, q7, _, _, rfl, rfl, s67 _ _ hpa, hq7', ?_, fun p3 H8 s78 h8 => ?_⟩
          · rw [ints_len, ints_len, wd_len, wd_len]
            exact Nat.le_trans (show u.length + 1 ≤ 400 by omega) (by decide)
          rw [← ints_app, ← wd_app] at h8
          have s68 := s67.trans s78
          have hd8 := s68 _ _ hd6
          refine ⟨_, rfl, _, rfl, d, _, rfl, DPut.k (k := Sum.inl ((M11.nx Tb n i : Nat) : Int)) hd8 (Nat.lt_of_le_of_lt (show kvs.length ≤ 300 by have := hr5.1; omega) (by decide)), ?_⟩
          have kp : ∀ p xs, H8 p = some (.tup xs) → upd H8 d (.dK (putK kvs (Sum.inl ((M11.nx Tb n i : Nat) : Int)) (.ref p3))) p = some (.tup xs) := fun p xs e => by
            rw [upd_ne (ne_of e hd8 (by intro z; cases z))]
            exact e
          refine ⟨ps ++ [p3], ws ++ [u ++ [n]], _, _, _, rfl, fun b o e => ?_, upd_same, ?_, ?_, st2 hnx u hu⟩
          · rw [upd_ne (ne_of_none e hd)]
            exact s68 _ _ (s6 _ _ e)
          · have := hr5.put p3
            rw [hpl, ← hnx] at this
            exact this
          · rw [List.map_append]
            exact ((ht6.same s68).snoc h8).keep kp
        · have hpx : ps[M11.nx Tb n i]? = some (ps[M11.nx Tb n i]'(by omega)) := List.getElem?_eq_getElem (by omega)
          rw [hpx]
          exact iteF ⟨ps, ws, kvs, _, _, rfl, s6, hd6, hr5, ht6, st1 hnx⟩
      · rintro σ H5 ⟨ps, ws, kvs, v5, v6, rfl, s5, hd5, hr5, ht5, hP5⟩
        rw [ints_len, List.length_map, List.length_range] at hP5
        exact ⟨ps, ws, kvs, _, _, _, _, rfl, s5, hd5, hr5, ht5, by rw [Nat.succ_mul]; exact hP5⟩
    · rintro σ H3 ⟨ps, ws, kvs, v3, v4, v5, v6, rfl, s3, hd3, hr3, ht3, hP3⟩
      rw [List.length_map, hrw.1] at hP3
      have hLw := M13.Part.end_ hT hF hP3
      have hpl : ps.length = Tb.length := by have := ht3.1; rw [List.length_map, hLw.1] at this; exact this
      refine ⟨_, rfl, a, _, rfl, .inl (SqL.of (s3 _ _ hrs)), (Tb.length : Int), by rw [← hlen], by omega, by omega, ?_⟩
      rw [Int.toNat_natCast]
      refine comp_rangeV (fun i => V.ref (ps.getD i 0)) (by omega) (fun i hi R hR => ?_) (fun D hD => ?_)
      · have hpi : ps[i]? = some (ps[i]'(by omega)) := List.getElem?_eq_getElem (by omega)
        rw [List.getD_eq_getElem?_getD, hpi] at hR
        exact ⟨_, rfl, _, rfl, d, _, rfl, hr3.get hd3 hpi, hR⟩
      · rw [← hpl, range_refs]
        refine k D ws _ ((s1.trans s3).trans (Same.upd hD)) ((s1.trans s3).free hD) ⟨ps, upd_same, ht3.same (Same.upd hD)⟩ ⟨hLw, fun i u hu => ?_⟩
        obtain ⟨a1, a2, a3⟩ := hP3.ok i u hu
        have hi := (List.getElem?_eq_some_iff.mp hu).1
        have := hP3.top
        exact ⟨a1, a2, by omega⟩
def tw (W : List (List Int)) (i : Nat) (s : Int) (o : Nat) : Bool := decide ((wat W o).getLast? = some s) || decide ((wat W i).getLast? = some (-s))
def spTree : Sp := fun vs H Q _ => ∃ (wl : Addr) (W : List (List Int)) (i o : Nat) (s : Int), vs = [.ref wl, .int i, .int s, .int o] ∧ WordsAt H wl W ∧ i < W.length ∧ o < W.length ∧ ∀ H', Same H H' → Q (.bl (tw W i s o)) H'
def spLetters : Sp := fun vs H Q _ => ∃ (a : Addr) (T : List (List Int)) (L : Nat), vs = [.ref a] ∧ TabAt H a T ∧ M11.Tab L T ∧ M12.Fc (2 * L) T.flatten T.length ∧ ∀ l ws H', Same H H' → H l = none → LW L T ws → WordsAt H' l ((innL T (ws.map wd) L T.length 0).map litI) → Q (.ref l) H'
theorem last_cut (u : List Int) : (u.drop (HT.sIx u.length 0 (some (-1)))).take (HT.sIx u.length u.length none - HT.sIx u.length 0 (some (-1))) = (match u.getLast? with | some x => [x] | none => []) := by
  have e1 : HT.sIx u.length 0 (some (-1)) = u.length - 1 := by
    show (if (-1 : Int) < 0 then ((-1 : Int) + (u.length : Int)).toNat else min (-1 : Int).toNat u.length) = _
    rw [if_pos (by decide)]
    omega
  have e2 : HT.sIx u.length u.length none = u.length := rfl
  rw [e1, e2]
  rcases List.eq_nil_or_concat u with h | ⟨v, x, h⟩
  · subst h
    rfl
  · subst h
    have : (v ++ [x]).length - 1 = v.length := by rw [List.length_append]; rfl
    rw [List.concat_eq_append, this, List.drop_left, List.getLast?_concat, List.take_of_length_le (by rw [List.length_append]; simp)]
theorem last_is (u : List Int) (s : Int) : decide ((match u.getLast? with | some x => [x] | none => []) = [s]) = decide (u.getLast? = some s) := by
  cases u.getLast? with
  | none => rfl
  | some x =>
    by_cases h : x = s
    · rw [h, decide_eq_true rfl, decide_eq_true rfl]
    · rw [decide_eq_false (fun z => h (by simpa using z)), decide_eq_false (fun z => h (Option.some.inj z))]
theorem inn_tw {L : Nat} {T : List (List Int)} {ws : List (List Nat)} (hT : M11.Tab L T) (hF : M12.Fc (2 * L) T.flatten T.length) (hw : M12.Lw L T ws) {i m : Nat} (hi : i < T.length) (hm : m < L) :
    inn T (ws.map wd) (i, m) = !(tw (ws.map wd) i ((m + 1 : Nat) : Int) (M11.nx T (2 * m) i)) := by
  have hk : 2 * m < 2 * L := by omega
  have ho := hT.lt i (2 * m) hi hk
  have hiw : i < ws.length := by rw [hw.1]; exact hi
  have how : M11.nx T (2 * m) i < ws.length := by rw [hw.1]; exact ho
  have hu : ws[i]? = some ws[i] := List.getElem?_eq_getElem hiw
  have hv : ws[M11.nx T (2 * m) i]? = some ws[M11.nx T (2 * m) i] := List.getElem?_eq_getElem how
  have a1 := M15.tree_one hT hF hw hi hk hu hv
  have a2 := M15.tree_two hT hF hw hi hk hu hv
  have w1 : wat (ws.map wd) i = ws[i].map M12.st := by
    unfold wat
    rw [List.getD_eq_getElem?_getD, List.getElem?_map, hu]
    rfl
  have w2 : wat (ws.map wd) (M11.nx T (2 * m) i) = ws[M11.nx T (2 * m) i].map M12.st := by
    unfold wat
    rw [List.getD_eq_getElem?_getD, List.getElem?_map, hv]
    rfl
  have s1 : M12.st (2 * m) = ((m + 1 : Nat) : Int) := by
    unfold M12.st
    rw [if_pos (by omega), show 2 * m / 2 = m by omega]
  have s2 : M12.st (M11.flip (2 * m)) = -((m + 1 : Nat) : Int) := by
    rw [st_flip, s1]
  rw [s1] at a1
  rw [s2] at a2
  unfold inn tw
  show (!decide (wat (ws.map wd) (M11.nx T (2 * m) i) = wat (ws.map wd) i ++ [((m + 1 : Nat) : Int)]) && !decide (wat (ws.map wd) i = wat (ws.map wd) (M11.nx T (2 * m) i) ++ [-((m + 1 : Nat) : Int)])) = _
  rw [w1, w2, decide_eq_decide.mpr a1, decide_eq_decide.mpr a2, Bool.not_or]
theorem ok_is_tree_way (T : Txt K mg A) : FnOk P w K mg base CX0 1 A.f_is_tree_way A.d_is_tree_way ["ways", "room", "step", "other"] spTree := by
  refine T.is_tree_way.F.ok sc_is_tree_way (fun vs H Q E h => ?_) (fun cdv AA outer s H vs Q E hr h => ?_)
  · obtain ⟨wl, W, i, o, s, rfl, _⟩ := h
    rfl
  · obtain ⟨wl, W, i, o, s, rfl, hW, hi, ho, k⟩ := h
    have hu := Nat.lt_of_succ_lt (hu_of hr)
    refine ⟨_, (pss_one (ps_ret (pe_or (pe_cmpR (op_eqTI hu) (pe_slice sl_tupTT (pe_ix ix_list (pv 0) (pv 3) (fun _ _ => rfl)) (po_some (pe_un un_neg pe_int)) po_none) (pe_tup (pa_cons (pv 2) pa_nil)) (nomark _)) (pe_one (pe_cmpR (op_eqTI hu) (pe_slice sl_tupTT (pe_ix ix_list (pv 0) (pv 1) (fun _ _ => rfl)) (po_some (pe_un un_neg pe_int)) po_none) (pe_tup (pa_cons (pe_un un_neg (pv 2)) pa_nil)) (nomark _)))))), ?_⟩
    have hu := Nat.lt_of_succ_lt (hu_of hr)
    obtain ⟨ps, hps, hpw⟩ := hW
    have hpl := hpw.1
    have a1 : ps[i]? = some (ps[i]'(by omega)) := List.getElem?_eq_getElem (by omega)
    have a2 : ps[o]? = some (ps[o]'(by omega)) := List.getElem?_eq_getElem (by omega)
    generalize ps[i]'(by omega) = pi at a1
    generalize ps[o]'(by omega) = po at a2
    have b1 := hpw.2 i pi _ a1 (wat_at hi)
    have b2 := hpw.2 o po _ a2 (wat_at ho)
    unfold tw at k
    generalize wat W i = u at b1 k
    generalize wat W o = v at b2 k
    refine ⟨_, rfl, _, rfl, wl, _, _, .ref po, rfl, rfl, SqL.of hps, ref_at a2, _, rfl, _, rfl, po, _, rfl, b2, fun q1 H1 s1 h1 => ?_⟩
    rw [cut_ints, last_cut] at h1
    refine ⟨_, rfl, by show 1 ≤ sizeLine; decide, fun q2 hq2 => ?_⟩
    have s12 : Same H1 (upd H1 q2 (.tup [.int s])) := Same.upd hq2
    have h2 : upd H1 q2 (.tup [.int s]) q2 = some (.tup (intV [s])) := upd_same
    generalize upd H1 q2 (.tup [.int s]) = H2 at s12 h2 ⊢
    refine ⟨q1, q2, _, _, rfl, rfl, SqT.of (s12 _ _ h1), SqT.of h2, ?_⟩
    rw [last_is]
    have s02 := s1.trans s12
    by_cases c : v.getLast? = some s
    · rw [decide_eq_true c] at k ⊢
      exact ⟨true, rfl, iteT (k _ s02)⟩
    · rw [decide_eq_false c] at k ⊢
      refine ⟨false, rfl, iteF ?_⟩
      refine ⟨_, rfl, _, rfl, wl, _, _, .ref pi, rfl, rfl, SqL.of (s02 _ _ hps), ref_at a1, _, rfl, _, rfl, pi, _, rfl, s02 _ _ b1, fun q3 H3 s3 h3 => ?_⟩
      rw [cut_ints, last_cut] at h3
      refine ⟨_, rfl, _, rfl, by show 1 ≤ sizeLine; decide, fun q4 hq4 => ?_⟩
      have s34 : Same H3 (upd H3 q4 (.tup [.int (-s)])) := Same.upd hq4
      have h4 : upd H3 q4 (.tup [.int (-s)]) q4 = some (.tup (intV [-s])) := upd_same
      generalize upd H3 q4 (.tup [.int (-s)]) = H4 at s34 h4 ⊢
      refine ⟨q3, q4, _, _, rfl, rfl, SqT.of (s34 _ _ h3), SqT.of h4, ?_⟩
      rw [last_is]
      exact k _ ((s02.trans s3).trans s34)
theorem ok_inner_letters (T : Txt K mg A) : FnOk P w K mg base CX0 3 A.f_inner_letters A.d_inner_letters ["table"] spLetters := by
  have G_least_ways : FnOk P w K mg base CX0 2 A.f_least_ways A.d_least_ways ["table"] spLeast := ok_least_ways T
  have G_is_tree_way : FnOk P w K mg base CX0 1 A.f_is_tree_way A.d_is_tree_way ["ways", "room", "step", "other"] spTree := ok_is_tree_way T
  have G_place_of : FnOk P w K mg base CX0 1 A.f_place_of A.d_place_of ["step"] spPlace := ok_place_of T
  refine T.inner_letters.F.ok sc_inner_letters (fun vs H Q E h => ?_) (fun cdv AA outer s H vs Q E hr h => ?_)
  · obtain ⟨a, Tb, L, rfl, _⟩ := h
    rfl
  · obtain ⟨a, Tb, L, rfl, hTa, hT, hF, k⟩ := h
    refine ⟨_, (pss_cons (ps_set (i := 1) sc_inner_letters.nd rfl (Or.inl rfl) (pe_call (G_least_ways) (hr.mono (by decide)) rfl T.least_ways.m T.least_ways.F.kp T.least_ways.b .nil pass0 (pa_cons (pv 0) pa_nil)))
      (pss_cons (ps_set (i := 2) sc_inner_letters.nd rfl (Or.inl rfl) (pe_lst pa_nil))
      (pss_cons (ps_for PassesOwn.never rfl (pi_enumL rfl T.z_enumerate (pv 0)) (pg_tup rfl (pgs_cons (pg_name (i := 3) sc_inner_letters.nd rfl (Or.inl rfl)) (pgs_cons (pg_name (i := 4) sc_inner_letters.nd rfl (Or.inl rfl)) pgs_nil)))
        (pss_one (ps_for PassesOwn.never rfl (pi_range2 rfl T.z_range (pa_cons pe_int (pa_cons (pe_op op_add (pe_op op_fdiv (pe_callB call_len_seq rfl T.z_len PySem.boot_len (pa_cons (pv 4) pa_nil)) pe_int) pe_int) pa_nil))) (pg_name (i := 5) sc_inner_letters.nd rfl (Or.inl rfl))
          (pss_one (ps_cut (ps_if (pt_not (pt_val (pe_call (G_is_tree_way) (hr.mono (by decide)) rfl T.is_tree_way.m T.is_tree_way.F.kp T.is_tree_way.b .nil pass0 (pa_cons (pv 1) (pa_cons (pv 3) (pa_cons (pv 5) (pa_cons (pe_ix ix_list (pv 4) (pe_call (G_place_of) (hr.mono (by decide)) rfl T.place_of.m T.place_of.F.kp T.place_of.b .nil pass0 (pa_cons (pv 5) pa_nil)) (fun _ _ => rfl)) pa_nil)))))))
            (pss_one (ps_expr (pe_bm PySem.F.plainAttrs_list PySem.F.slot_list_append PySem.F.type_list_append mt_append (pv 2) (pa_cons (pe_tup (pa_cons (pv 3) (pa_cons (pv 5) pa_nil))) pa_nil))))
            pss_nil))))))
      (pss_one (ps_ret (pv 2)))))), ?_⟩
    have h300 := hT.top
    have h40 := hT.let2
    refine ⟨_, rfl, a, Tb, L, rfl, hTa, hT, hF, fun wl ws H1 s1 n1 hW hLW => ?_⟩
    have hWl : (ws.map wd).length = Tb.length := by rw [List.length_map, hLW.lw.1]
    refine ⟨Nat.zero_le _, fun lf hlf => ?_⟩
    have s2 : Same H1 (upd H1 lf (.lst [])) := Same.upd hlf
    have h2 : upd H1 lf (.lst []) lf = some (.lst (([] : List Addr).map V.ref)) := upd_same
    generalize upd H1 lf (.lst []) = H2 at s2 h2 ⊢
    obtain ⟨rs, hrs, hrw⟩ := hTa.same s1
    refine ⟨_, rfl, a, rfl, ⟨_, SqL.of (s2 _ _ hrs)⟩, ?_⟩
    refine for_enumL (K := K) (a := a) (xs := rs.map V.ref) (fun i σ H3 => ∃ (ps : List Addr) (v3 v4 v5 : Option V), σ = [some (.ref a), some (.ref wl), some (.ref lf), v3, v4, v5] ∧ Same H1 H3 ∧ H3 lf = some (.lst (ps.map V.ref)) ∧ TupsAt H3 ps ((innL Tb (ws.map wd) L i 0).map litI)) ⟨[], none, none, none, rfl, s2, h2, rfl, fun i q u e => by simp at e⟩ (fun i σ H3 _ ⟨_, _, _, _, _, s, _⟩ => SqL.of (s _ _ hrs)) ?_ ?_
    · rintro i v σ H3 p hi hp ⟨ps, v3, v4, v5, rfl, s3, h3, t3⟩
      rw [List.getElem?_map] at hi
      have hil : i < rs.length := by
        cases e : rs[i]? with
        | none => rw [e] at hi; cases hi
        | some r => exact (List.getElem?_eq_some_iff.mp e).1
      have q1 : rs[i]? = some rs[i] := List.getElem?_eq_getElem hil
      rw [q1] at hi
      have ey : V.ref rs[i] = v := Option.some.inj hi
      subst ey
      generalize rs[i] = rr at q1
      have hiT : i < Tb.length := by rw [← hrw.1]; exact hil
      have q2 : Tb[i]? = some Tb[i] := List.getElem?_eq_getElem hiT
      generalize Tb[i] = row at q2
      have hrr := hrw.2 i rr row q1 q2
      have hrl := hT.row i row q2
      have s34 := Same.upd (o := .tup [.int (i : Int), .ref rr]) hp
      refine ⟨p, _, rfl, SqT.of upd_same, rfl, _, _, rfl, _, _, rfl, rfl, ?_⟩
      generalize upd H3 p (.tup [.int (i : Int), .ref rr]) = H4 at s34 ⊢
      have s4 := s3.trans s34
      have eL : ((intV row).length : Int) / 2 + 1 = (L : Int) + 1 := by rw [ints_len, hrl]; omega
      refine ⟨_, rfl, rr, _, rfl, .inl (SqL.of (s4 _ _ hrr)), _, _, rfl, rfl, ⟨by decide, by decide⟩, _, _, rfl, rfl, 1, (L : Int) + 1, by rw [← eL], ⟨by omega, by omega, by omega, by omega⟩, ?_⟩
      refine for_range (lo := 1) (n := ((L : Int) + 1 - 1).toNat) (fun m σ H5 => ∃ (ps : List Addr) (v5 : Option V), σ = [some (.ref a), some (.ref wl), some (.ref lf), some (.int (i : Int)), some (.ref rr), v5] ∧ Same H1 H5 ∧ H5 lf = some (.lst (ps.map V.ref)) ∧ TupsAt H5 ps ((innL Tb (ws.map wd) L i m).map litI)) ⟨ps, v5, rfl, s4, s34 _ _ h3, t3.same s34⟩ ?_ ?_
      · rintro m σ H5 hm ⟨ps, v5, rfl, s5, h5, t5⟩
        have hm' : m < L := by omega
        have em : (1 : Int) + (m : Int) = ((m + 1 : Nat) : Int) := by omega
        have hpl : M11.pl ((m + 1 : Nat) : Int) = 2 * m := by
          unfold M11.pl
          rw [if_pos (by omega)]
          omega
        obtain ⟨r', e1, e2⟩ := hT.val i (2 * m) hiT (by omega)
        have er : row = r' := Option.some.inj (q2.symm.trans e1)
        subst er
        have hoT := hT.lt i (2 * m) hiT (by omega)
        rw [innL_succ, inn_tw hT hF hLW.lw hiT hm']
        refine ⟨_, ?_, fun _ _ h => h⟩
        rw [em]
        refine ⟨_, rfl, _, rfl, _, rfl, _, rfl, _, rfl, ((m + 1 : Nat) : Int), rfl, by omega, by omega, ?_⟩
        rw [hpl]
        refine ⟨rr, _, _, _, rfl, rfl, SqL.of (s5 _ _ hrr), atI_nat (ints_at e2), ?_⟩
        refine ⟨wl, ws.map wd, i, M11.nx Tb (2 * m) i, ((m + 1 : Nat) : Int), rfl, hW.same s5, by omega, by omega, fun H6 s56 => ?_⟩
        have s6 := s5.trans s56
        have h6 := s56 _ _ h5
        have t6 := t5.same s56
        refine ⟨_, rfl, ?_⟩
        cases htw : tw (ws.map wd) i ((m + 1 : Nat) : Int) (M11.nx Tb (2 * m) i) with
        | true =>
          refine iteF ?_
          rw [show (if (!true) = true then [(i, m)] else []) = ([] : List (Nat × Nat)) from rfl, List.append_nil]
          exact ⟨ps, _, rfl, s6, h6, t6⟩
        | false =>
          refine iteT ?_
          rw [show (if (!false) = true then [(i, m)] else []) = [(i, m)] from rfl, List.map_append]
          refine ⟨_, rfl, .inl ⟨rfl, _, SqL.of h6⟩, _, rfl, _, rfl, by show 2 ≤ sizeLine; decide, fun q hq => ?_⟩
          have s67 : Same H6 (upd H6 q (.tup [.int (i : Int), .int ((m + 1 : Nat) : Int)])) := Same.upd hq
          have h7q : upd H6 q (.tup [.int (i : Int), .int ((m + 1 : Nat) : Int)]) q = some (.tup (intV (litI (i, m)))) := upd_same
          generalize upd H6 q (.tup [.int (i : Int), .int ((m + 1 : Nat) : Int)]) = H7 at s67 h7q ⊢
          have h7 := s67 _ _ h6
          refine ⟨lf, _, _, rfl, rfl, h7, ?_, ?_⟩
          · rw [List.length_map, t6.1, List.length_map]
            have h1 := innL_len Tb (ws.map wd) L i m
            have h2 : i * L ≤ 300 * 40 := Nat.mul_le_mul (by omega) h40
            exact Nat.lt_of_le_of_lt (show _ ≤ 20000 by omega) (by decide)
          refine ⟨ps ++ [q], _, rfl, fun b o e => by rw [upd_ne (ne_of_none e hlf)]; exact s67 _ _ (s6 _ _ e), by rw [upd_same, List.map_append]; rfl, ?_⟩
          exact tups_upd ((t6.same s67).snoc h7q) h7
      · rintro σ H5 ⟨ps, v5, rfl, s5, h5, t5⟩
        rw [show ((L : Int) + 1 - 1).toNat = L by omega, innL_row] at t5
        exact ⟨ps, _, _, _, rfl, s5, h5, t5⟩
    · rintro σ H3 ⟨ps, v3, v4, v5, rfl, s3, h3, t3⟩
      rw [List.length_map, hrw.1] at t3
      exact ⟨_, rfl, k lf ws H3 (s1.trans s3) (s1.free hlf) hLW ⟨ps, h3, t3⟩⟩
theorem innL_mem {T W : List (List Int)} {L n : Nat} {c : Nat × Nat} (h : c ∈ innL T W L n 0) : c.1 < n ∧ c.2 < L := by
  unfold innL at h
  have h1 := (List.mem_filter.mp h).1
  unfold cells at h1
  rw [List.range_zero, List.map_nil, List.append_nil] at h1
  obtain ⟨j, hj, h2⟩ := List.mem_flatMap.mp h1
  obtain ⟨m, hm, rfl⟩ := List.mem_map.mp h2
  exact ⟨List.mem_range.mp hj, List.mem_range.mp hm⟩
theorem rows_set {H : Hp} {rs : List Addr} {rows : List (List Int)} {j : Nat} {r : Addr} {row' : List Int} (h : RowsAt H rs rows) (hn : rs.Nodup) (hr : rs[j]? = some r) : RowsAt (upd H r (.lst (intV row'))) rs (rows.set j row') := by
  refine ⟨by rw [List.length_set]; exact h.1, fun i q ns h1 h2 => ?_⟩
  by_cases e : i = j
  · subst e
    have hq : q = r := Option.some.inj (h1.symm.trans hr)
    subst hq
    have hi : i < rows.length := by
      have := (List.getElem?_eq_some_iff.mp h2).1
      rw [List.length_set] at this
      exact this
    rw [List.getElem?_set_self hi] at h2
    rw [upd_same, Option.some.inj h2]
  · rw [List.getElem?_set_ne (Ne.symm e)] at h2
    have hne : q ≠ r := fun z => by
      subst z
      exact e ((List.getElem?_inj (List.getElem?_eq_some_iff.mp h1).1 hn).mp (h1.trans hr.symm))
    rw [upd_ne hne]
    exact h.2 i q ns h1 h2
structure Own (H0 H : Hp) (l : Addr) (rs : List Addr) (rows : List (List Int)) (L p : Nat) : Prop where
  same : Same H0 H
  at_ : H l = some (.lst (rs.map V.ref))
  rw_ : RowsAt H rs rows
  nd : rs.Nodup
  new : ∀ r ∈ rs, H0 r = none
  newl : H0 l = none
  out : l ∉ rs
  len : rows.length = L
  pm : ∀ r ∈ rows, M11.Pm p r
theorem Own.put {H0 H : Hp} {l : Addr} {rs : List Addr} {rows : List (List Int)} {L p j : Nat} {r : Addr} {row' : List Int} (h : Own H0 H l rs rows L p) (hr : rs[j]? = some r) (hp : M11.Pm p row') : Own H0 (upd H r (.lst (intV row'))) l rs (rows.set j row') L p where
  same := fun b o e => by rw [upd_ne (ne_of_none e (h.new r (List.mem_of_getElem? hr)))]; exact h.same _ _ e
  at_ := by
    have : l ≠ r := fun z => h.out (by rw [z]; exact List.mem_of_getElem? hr)
    rw [upd_ne this]
    exact h.at_
  rw_ := rows_set h.rw_ h.nd hr
  nd := h.nd
  new := h.new
  newl := h.newl
  out := h.out
  len := by rw [List.length_set]; exact h.len
  pm := fun x hx => by
    rcases List.mem_or_eq_of_mem_set hx with hx | hx
    · exact h.pm x hx
    · rw [hx]; exact hp
theorem rep_zero (p : Nat) : (List.replicate p [V.int 0]).flatten = intV (List.replicate p (0 : Int)) := by
  unfold intV
  rw [List.map_replicate]
  induction p with
  | zero => rfl
  | succ n ih => rw [List.replicate_succ, List.flatten_cons, ih, List.replicate_succ]; rfl
def pos (J : List (Nat × Nat)) (c : Nat × Nat) : Nat := if c ∈ J then J.idxOf c + 1 else 0
def num (T : List (List Int)) (J : List (Nat × Nat)) (i k : Nat) : Int := if k % 2 = 0 then (pos J (i, k / 2) : Int) else -(pos J (M11.nx T k i, k / 2) : Int)
def tell (T : List (List Int)) (J : List (Nat × Nat)) : List Int → Nat → List Int
  | [], _ => []
  | s :: w, r => (if num T J r (M11.pl s) = 0 then [] else [num T J r (M11.pl s)]) ++ tell T J w (M11.nx T (M11.pl s) r)
theorem tell_app (T : List (List Int)) (J : List (Nat × Nat)) : ∀ (w u : List Int) (r : Nat), tell T J (w ++ u) r = tell T J w r ++ tell T J u (M11.walk T w r)
  | [], u, r => rfl
  | s :: w, u, r => by
    show _ ++ tell T J (w ++ u) _ = _ ++ tell T J w _ ++ _
    rw [tell_app T J w u, List.append_assoc]
    rfl
theorem tell_len (T : List (List Int)) (J : List (Nat × Nat)) : ∀ (w : List Int) (r : Nat), (tell T J w r).length ≤ w.length
  | [], r => Nat.le_refl _
  | s :: w, r => by
    have h := tell_len T J w (M11.nx T (M11.pl s) r)
    show (_ ++ tell T J w _).length ≤ _
    rw [List.length_append, List.length_cons]
    split
    · simp only [List.length_nil]; omega
    · simp only [List.length_singleton]; omega
theorem steps_cons {L : Nat} {s : Int} {w : List Int} (h : M11.Steps L (s :: w)) : (s ≠ 0 ∧ s.natAbs ≤ L) ∧ M11.Steps L w := ⟨h s (List.mem_cons_self ..), fun x hx => h x (List.mem_cons_of_mem _ hx)⟩
theorem pos_at {J : List (Nat × Nat)} {c : Nat × Nat} (h : c ∈ J) : J[pos J c - 1]? = some c ∧ pos J c ≠ 0 := by
  unfold pos
  rw [if_pos h]
  refine ⟨?_, by omega⟩
  rw [Nat.add_sub_cancel, List.getElem?_eq_getElem (List.idxOf_lt_length_of_mem h), List.getElem_idxOf]
section
variable {L : Nat} {T W : List (List Int)} (hT : M11.Tab L T)
include hT
end
def spThinO : Sp := fun vs H Q _ => ∃ (a : Addr) (ns : List Int), vs = [.ref a] ∧ H a = some (.lst (intV ns)) ∧ ns.length ≤ 1000000 ∧ ∀ l H', Same H H' → H' l = some (.tup (intV (thinL ns))) → Q (.ref l) H'
theorem ok_thinned (T : Txt K mg A) : FnOk P w K mg base CX0 1 A.f_thinned A.d_thinned ["word"] spThinO := by
  refine T.thinned.F.ok sc_thinned (fun vs H Q E h => ?_) (fun cdv AA outer s H vs Q E hr h => ?_)
  · obtain ⟨a, ns, rfl, _⟩ := h
    rfl
  · obtain ⟨a, ns, rfl, ha, hlen, k⟩ := h
    refine ⟨_, (pss_cons (ps_set (i := 1) sc_thinned.nd rfl (Or.inl rfl) (pe_lst pa_nil))
      (pss_cons (ps_for PassesOwn.never rfl (pi_list (pv 0)) (pg_name (i := 2) sc_thinned.nd rfl (Or.inl rfl))
        (pss_one (ps_cut (ps_if (PW.pt (pw_and (pt_truth (pv 1) (fun _ => rfl)) (pw_and1 (pt_cmpR op_eq (pe_ix ix_list (pv 1) (pe_un un_neg pe_int) (fun _ _ => rfl)) (pe_un un_neg (pv 2)) (nomark _)))))
          (pss_one (ps_expr (pe_bm0 PySem.F.plainAttrs_list PySem.F.slot_list_pop PySem.F.type_list_pop mt_pop (pv 1))))
          (pss_one (ps_expr (pe_bm PySem.F.plainAttrs_list PySem.F.slot_list_append PySem.F.type_list_append mt_append (pv 1) (pa_cons (pv 2) pa_nil))))))))
      (pss_one (ps_ret (pe_callTy call_tuple_of rfl T.z_tuple PyProof.Rows.boot_tuple (pa_cons (pv 1) pa_nil)))))), ?_⟩
    refine ⟨Nat.zero_le _, fun lk hlk => ?_⟩
    have s0 : Same H (upd H lk (.lst [])) := Same.upd hlk
    have h0 : upd H lk (.lst []) lk = some (.lst (intV [])) := upd_same
    generalize upd H lk (.lst []) = H0 at s0 h0 ⊢
    refine ⟨_, rfl, a, rfl, ⟨_, SqL.of (s0 _ _ ha)⟩, ?_⟩
    refine for_list (K := K) (a := a) (xs := intV ns) (fun i σ H2 => ∃ (v : Option V), σ = [some (.ref a), some (.ref lk), v] ∧ Same H H2 ∧ H2 lk = some (.lst (intV ((ns.take i).foldl sn [])))) ⟨none, rfl, s0, h0⟩ (fun i σ H2 _ ⟨_, _, s, _⟩ => SqL.of (s _ _ ha)) ?_ ?_
    · rintro i y σ H2 hi ⟨v, rfl, s2, h2⟩
      obtain ⟨z, rfl, hz⟩ := ints_of_at hi
      have hfold : (ns.take (i + 1)).foldl sn [] = sn ((ns.take i).foldl sn []) z := by
        rw [List.take_succ, hz, List.foldl_append]
        rfl
      have hkl : ((ns.take i).foldl sn []).length ≤ 1000000 := by
        have := foldl_len (ns.take i) []
        rw [List.length_take, List.length_nil] at this
        omega
      rw [hfold]
      generalize (ns.take i).foldl sn [] = u at h2 hkl ⊢
      refine ⟨_, ?_, fun _ _ h => h⟩
      have h3 := h2
      have s3 := s2
      have app : ¬ (u.getLast? = some (-z)) → ∃ v : Option V, [some (V.ref a), some (V.ref lk), some (V.int z)] = [some (V.ref a), some (V.ref lk), v] ∧ Same H (upd H2 lk (.lst (intV u ++ [V.int z]))) ∧ upd H2 lk (.lst (intV u ++ [V.int z])) lk = some (.lst (intV (sn u z))) := fun hne => by
        refine ⟨_, rfl, fun b o e => by rw [upd_ne (ne_of_none e hlk)]; exact s3 _ _ e, ?_⟩
        unfold sn
        rw [upd_same, if_neg hne, ints_app]
        rfl
      have hul : u.length < sizeLine := Nat.lt_of_le_of_lt hkl (by decide)
      refine ⟨_, rfl, _, .inl ⟨_, SqL.of h3, rfl⟩, ?_⟩
      by_cases hu : u = []
      · rw [show (!(intV u).isEmpty) = false by rw [hu]; rfl]
        refine iteF (iteF ?_)
        exact ⟨_, rfl, .inl ⟨rfl, _, SqL.of h3⟩, _, rfl, lk, _, _, rfl, rfl, h3, by rw [ints_len]; exact hul, app (by rw [hu]; intro z; cases z)⟩
      · rw [show (!(intV u).isEmpty) = true by cases u with | nil => exact absurd rfl hu | cons a b => rfl]
        refine iteT ?_
        obtain ⟨u0, e, rfl⟩ : ∃ u0 e, u = u0 ++ [e] := ⟨u.dropLast, u.getLast hu, (List.dropLast_concat_getLast hu).symm⟩
        have eV : intV (u0 ++ [e]) = intV u0 ++ [V.int e] := by rw [ints_app]; rfl
        have hat : atI (intV (u0 ++ [e])) (-(1 : Int)) = some (V.int e) := by
          rw [eV]
          exact atI_last _ _
        refine ⟨_, rfl, _, rfl, lk, _, _, _, rfl, rfl, SqL.of h3, hat, _, rfl, _, rfl, ?_⟩
        refine ⟨rfl, _, rfl, ?_⟩
        have glast : (u0 ++ [e]).getLast? = some e := by simp
        refine ite2 (fun h => ?_) (fun h => ?_)
        · have he : e = -z := by
            have h' : V.int e = V.int (-z) := of_decide_eq_true h
            injection h'
          refine ⟨_, rfl, .inl ⟨rfl, _, SqL.of h3⟩, lk, _, V.int e, rfl, rfl, h3, ?_, _, rfl, fun b o e' => by rw [upd_ne (ne_of_none e' hlk)]; exact s3 _ _ e', ?_⟩
          · rw [eV, List.length_append, List.length_singleton, Nat.add_sub_cancel, List.getElem?_append_right (Nat.le_refl _), Nat.sub_self]
            rfl
          · unfold sn
            rw [upd_same, if_pos (by rw [glast, he]), eV, List.dropLast_concat, List.dropLast_concat]
        · exact ⟨_, rfl, .inl ⟨rfl, _, SqL.of h3⟩, _, rfl, lk, _, _, rfl, rfl, h3, by rw [ints_len]; exact hul, app (by rw [glast]; intro q; injection q with q; exact h (decide_eq_true (by rw [q])))⟩
    · rintro σ H2 ⟨v, rfl, s2, h2⟩
      rw [ints_len, List.take_length] at h2
      exact ⟨_, rfl, lk, _, rfl, .inl ⟨SqL.of h2, fun l hl => k l _ (s2.trans (Same.upd hl)) upd_same⟩⟩
def plL (w : List Int) : List Int := w.map fun s => ((M11.pl s : Nat) : Int)
def spPlaces : Sp := fun vs H Q _ => ∃ (a : Addr) (w : List Int) (L : Nat), vs = [.ref a] ∧ H a = some (.tup (intV w)) ∧ M11.Steps L w ∧ L ≤ 1000 ∧ w.length ≤ 100000 ∧ ∀ l H', Same H H' → H l = none → H' l = some (.lst (intV (plL w))) → Q (.ref l) H'
structure NumTab (L : Nat) (T : List (List Int)) (J : List (Nat × Nat)) (N : List (List Int)) : Prop where
  len : N.length = T.length
  at_ : ∀ i, i < T.length → ∃ row, N[i]? = some row ∧ row.length = 2 * L ∧ ∀ k, k < 2 * L → row[k]? = some (num T J i k)
def spNums : Sp := fun vs H Q _ => ∃ (a : Addr) (T : List (List Int)) (L : Nat), vs = [.ref a] ∧ TabAt H a T ∧ M11.Tab L T ∧ M12.Fc (2 * L) T.flatten T.length ∧ ∀ l ws N H', Same H H' → LW L T ws → TabAt H' l N → NumTab L T (innL T (ws.map wd) L T.length 0) N → Q (.ref l) H'
def spTold : Sp := fun vs H Q _ => ∃ (na a pa : Addr) (T N : List (List Int)) (J : List (Nat × Nat)) (L r : Nat) (w : List Int), vs = [.ref na, .ref a, .int r, .ref pa] ∧ TabAt H na N ∧ NumTab L T J N ∧ TabAt H a T ∧ M11.Tab L T ∧ r < T.length ∧ H pa = some (.lst (intV (plL w))) ∧ M11.Steps L w ∧ w.length ≤ 100000 ∧ ∀ l H', Same H H' → H' l = some (.tup (intV (thinL (tell T J w r)))) → Q (.ref l) H'
theorem plL_at {w : List Int} {n : Nat} {s : Int} (h : w[n]? = some s) : (plL w)[n]? = some ((M11.pl s : Nat) : Int) := by
  unfold plL
  rw [List.getElem?_map, h]
  rfl
theorem plL_len (w : List Int) : (plL w).length = w.length := by unfold plL; rw [List.length_map]
theorem ok_places_of (T : Txt K mg A) : FnOk P w K mg base CX0 2 A.f_places_of A.d_places_of ["word"] spPlaces := by
  have G_place_of : FnOk P w K mg base CX0 1 A.f_place_of A.d_place_of ["step"] spPlace := ok_place_of T
  refine T.places_of.F.ok sc_places_of (fun vs H Q E h => ?_) (fun cdv AA outer s H vs Q E hr h => ?_)
  · obtain ⟨a, w, L, rfl, _⟩ := h
    rfl
  · obtain ⟨a, w, L, rfl, ha, hst, hL, hlen, k⟩ := h
    refine ⟨_, (pss_one (ps_ret (pe_comp (fns := []) (ixs := []) (cl := []) rfl (pi_tup (pv 0)) (compScope0 (by decide +kernel) (by decide +kernel) rfl (by decide +kernel) rfl) (fun C s H ex => (pe_call (G_place_of) (hr.mono (by decide)) rfl T.place_of.m T.place_of.F.kp T.place_of.b .nil pass0 (pa_cons (pv 0) pa_nil)))))), ?_⟩
    refine ⟨_, rfl, a, rfl, ⟨_, SqT.of ha⟩, ?_⟩
    refine comp_pure (intV w) (fun v => match v with | .int z => .int ((M11.pl z : Nat) : Int) | v => v) (itt_go (SqT.of ha)) (itt_yld (SqT.of ha)) (itt_stop (SqT.of (K := K) ha)) (by rw [ints_len]; exact Nat.le_trans hlen (by decide)) (fun i x hx R hR => ?_) (fun D hD => ?_)
    · obtain ⟨z, rfl, hz⟩ := ints_of_at hx
      have hs := hst z (List.mem_of_getElem? hz)
      exact ⟨_, rfl, z, rfl, hs.1, by omega, hR⟩
    · have e : ((intV w).map fun v => match v with | .int z => V.int ((M11.pl z : Nat) : Int) | v => v) = intV (plL w) := by
        unfold intV plL
        rw [List.map_map, List.map_map]
        rfl
      rw [e]
      exact k D _ (Same.upd hD) hD upd_same
theorem tell_take {T : List (List Int)} {J : List (Nat × Nat)} {w : List Int} {n r : Nat} {s : Int} (h : w[n]? = some s) : tell T J (w.take (n + 1)) r = tell T J (w.take n) r ++ (if num T J (M11.walk T (w.take n) r) (M11.pl s) = 0 then [] else [num T J (M11.walk T (w.take n) r) (M11.pl s)]) := by
  rw [List.take_succ, h]
  show tell T J (w.take n ++ [s]) r = _
  rw [tell_app]
  show _ ++ (_ ++ []) = _
  rw [List.append_nil]
theorem ok_told_by (T : Txt K mg A) : FnOk P w K mg base CX0 2 A.f_told_by A.d_told_by ["numbers", "table", "room", "places"] spTold := by
  have G_thinned : FnOk P w K mg base CX0 1 A.f_thinned A.d_thinned ["word"] spThinO := ok_thinned T
  refine T.told_by.F.ok sc_told_by (fun vs H Q E h => ?_) (fun cdv AA outer s H vs Q E hr h => ?_)
  · obtain ⟨na, a, pa, TT, N, J, L, r, w, rfl, _⟩ := h
    rfl
  · obtain ⟨na, a, pa, TT, N, J, L, r, w, rfl, hNa, hN, hTa, hT, hr0, hpa, hst, hlen, k⟩ := h
    refine ⟨_, (pss_cons (ps_set (i := 4) sc_told_by.nd rfl (Or.inl rfl) (pe_lst pa_nil))
      (pss_cons (ps_for PassesOwn.never rfl (pi_list (pv 3)) (pg_name (i := 5) sc_told_by.nd rfl (Or.inl rfl))
        (pss_cons (ps_set (i := 6) sc_told_by.nd rfl (Or.inl rfl) (pe_ix ix_list (pe_ix ix_list (pv 0) (pv 2) (fun _ _ => rfl)) (pv 5) (fun _ _ => rfl)))
        (pss_cons (ps_cut (ps_if (pt_cmpR op_ne (pv 6) pe_int (nomark _))
          (pss_one (ps_expr (pe_bm PySem.F.plainAttrs_list PySem.F.slot_list_append PySem.F.type_list_append mt_append (pv 4) (pa_cons (pv 6) pa_nil))))
          pss_nil))
        (pss_one (ps_set (i := 2) sc_told_by.nd rfl (Or.inl rfl) (pe_ix ix_list (pe_ix ix_list (pv 1) (pv 2) (fun _ _ => rfl)) (pv 5) (fun _ _ => rfl)))))))
      (pss_one (ps_ret (pe_call (G_thinned) (hr.mono (by decide)) rfl T.thinned.m T.thinned.F.kp T.thinned.b .nil pass0 (pa_cons (pv 4) pa_nil)))))), ?_⟩
    refine ⟨Nat.zero_le _, fun lt hlt => ?_⟩
    have s0 : Same H (upd H lt (.lst [])) := Same.upd hlt
    have h0 : upd H lt (.lst []) lt = some (.lst (intV (tell TT J (w.take 0) r))) := upd_same
    generalize upd H lt (.lst []) = H0 at s0 h0 ⊢
    refine ⟨_, rfl, pa, rfl, ⟨_, SqL.of (s0 _ _ hpa)⟩, ?_⟩
    refine for_list (K := K) (a := pa) (xs := intV (plL w)) (fun n σ H2 => ∃ v5 v6 : Option V, σ = [some (.ref na), some (.ref a), some (.int ((M11.walk TT (w.take n) r : Nat) : Int)), some (.ref pa), some (.ref lt), v5, v6] ∧ Same H H2 ∧ H2 lt = some (.lst (intV (tell TT J (w.take n) r)))) ⟨none, none, rfl, s0, h0⟩ (fun n σ H2 _ ⟨_, _, _, s, _⟩ => SqL.of (s _ _ hpa)) ?_ ?_
    · rintro n y σ H2 hn ⟨v5, v6, rfl, s2, h2⟩
      obtain ⟨p0, rfl, hp0⟩ := ints_of_at hn
      have hnl : n < w.length := by
        have := (List.getElem?_eq_some_iff.mp hp0).1
        rw [plL_len] at this
        exact this
      have hz : w[n]? = some w[n] := List.getElem?_eq_getElem hnl
      generalize w[n] = z at hz
      have ep := plL_at hz
      rw [hp0] at ep
      have ep' := Option.some.inj ep
      subst ep'
      have hs := hst z (List.mem_of_getElem? hz)
      have hk := M11.pl_lt hs
      have hrl := M11.walk_lt hT (fun s hs => hst s (List.mem_of_mem_take hs) : M11.Steps L (w.take n)) hr0
      have htl := tell_len TT J (w.take n) r
      rw [List.length_take] at htl
      rw [tell_take hz, walk_take hz]
      generalize hq : M11.walk TT (w.take n) r = q at hrl
      obtain ⟨row, g1, g2, g3⟩ := hN.at_ q hrl
      obtain ⟨ns, hns, hnr⟩ := hNa.same s2
      have hql : q < ns.length := by rw [hnr.1, hN.len]; exact hrl
      have g4 : ns[q]? = some ns[q] := List.getElem?_eq_getElem hql
      generalize ns[q] = nr at g4
      have hrow := hnr.2 q nr row g4 g1
      obtain ⟨rs, rr, row2, t1, t2, t3, t4, t5⟩ := tab_get (hTa.same s2) hT hrl
      refine ⟨_, rfl, _, rfl, na, _, _, .ref nr, rfl, rfl, SqL.of hns, ref_at g4, _, rfl, nr, _, _, _, rfl, rfl, SqL.of hrow, atI_nat (ints_at (g3 _ hk)), ?_⟩
      refine ⟨fun σ' H' => σ' = [some (.ref na), some (.ref a), some (.int ((q : Nat) : Int)), some (.ref pa), some (.ref lt), some (.int ((M11.pl z : Nat) : Int)), some (.int (num TT J q (M11.pl z)))] ∧ Same H H' ∧ (∀ b o, b ≠ lt → H2 b = some o → H' b = some o) ∧ H' lt = some (.lst (intV (tell TT J (w.take n) r ++ (if num TT J q (M11.pl z) = 0 then [] else [num TT J q (M11.pl z)])))), ?_, ?_⟩
      · refine ⟨_, rfl, rfl, _, rfl, ?_⟩
        by_cases h : num TT J q (M11.pl z) = 0
        · refine iteNS (by rw [h]) ⟨rfl, s2, fun _ _ _ e => e, ?_⟩
          rw [if_pos h, List.append_nil]
          exact h2
        · refine ite2 (fun _ => ?_) (fun hh => absurd (by rw [decide_eq_false (fun e => h (by injection e))]; rfl) hh)
          refine ⟨_, rfl, .inl ⟨rfl, _, SqL.of h2⟩, _, rfl, lt, _, _, rfl, rfl, h2, ?_, rfl, fun b o e => by rw [upd_ne (ne_of_none e hlt)]; exact s2 _ _ e, fun b o hb e => by rw [upd_ne hb]; exact e, ?_⟩
          · rw [ints_len]
            exact Nat.lt_of_le_of_lt (show (tell TT J (w.take n) r).length ≤ 100000 by omega) (by decide)
          · rw [upd_same, if_neg h, ints_app]
            rfl
      rintro σ' H3 ⟨rfl, s3, k3, h3⟩
      have nlt : ∀ b o, H b = some o → b ≠ lt := fun b o e => ne_of_none e hlt
      obtain ⟨rs', rr', row', t1', t2', t3', t4', t5'⟩ := tab_get (hTa.same s3) hT hrl
      refine ⟨_, rfl, _, rfl, a, _, _, .ref rr', rfl, rfl, SqL.of t1', ref_at t2', _, rfl, rr', _, _, _, rfl, rfl, SqL.of t3', atI_nat (ints_at (t5' _ hk)), ?_⟩
      exact ⟨_, _, rfl, s3, h3⟩
    · rintro σ H2 ⟨v5, v6, rfl, s2, h2⟩
      rw [ints_len, plL_len, List.take_length] at h2
      have htl := tell_len TT J w r
      exact ⟨_, rfl, lt, _, rfl, h2, by omega, fun l H3 s3 h3 => k l H3 (s2.trans s3) h3⟩
theorem idx_app {J : List (Nat × Nat)} {c d : Nat × Nat} (h : c ∉ J) : pos (J ++ [c]) d = if d = c then J.length + 1 else pos J d := by
  unfold pos
  by_cases e : d = c
  · subst e
    rw [if_pos rfl, if_pos (by simp), List.idxOf_append, if_neg h]
    simp
  · rw [if_neg e]
    by_cases hd : d ∈ J
    · rw [if_pos hd, if_pos (List.mem_append.mpr (.inl hd)), List.idxOf_append, if_pos hd]
    · rw [if_neg hd, if_neg (fun z => by
        rcases List.mem_append.mp z with z | z
        · exact hd z
        · exact e (List.mem_singleton.mp z))]
theorem NumTab.step {L : Nat} {T N : List (List Int)} {J : List (Nat × Nat)} {r m : Nat} {row row1 : List Int} {v : Int} (hT : M11.Tab L T) (h : NumTab L T J N) (hc : (r, m) ∉ J) (hr : r < T.length) (hm : m < L) (hv : v = ((J.length + 1 : Nat) : Int)) (e0 : N[r]? = some row) (e1 : (N.set r (row.set (2 * m) v))[M11.nx T (2 * m) r]? = some row1) :
    NumTab L T (J ++ [(r, m)]) ((N.set r (row.set (2 * m) v)).set (M11.nx T (2 * m) r) (row1.set (2 * m + 1) (-v))) := by
  have ho := hT.lt r (2 * m) hr (by omega)
  have hb := hT.back r (2 * m) hr (by omega)
  have hfl : M11.flip (2 * m) = 2 * m + 1 := by unfold M11.flip; rw [if_pos (by omega)]
  rw [hfl] at hb
  generalize hgo : M11.nx T (2 * m) r = o at *
  have at1 : ∀ i, i < T.length → ∃ row', (N.set r (row.set (2 * m) v))[i]? = some row' ∧ row'.length = 2 * L ∧ ∀ k, k < 2 * L → row'[k]? = some (if i = r ∧ k = 2 * m then v else num T J i k) := fun i hi => by
    obtain ⟨row', a1, a2, a3⟩ := h.at_ i hi
    by_cases e : i = r
    · subst e
      have er : row' = row := Option.some.inj (a1.symm.trans e0)
      subst er
      refine ⟨_, List.getElem?_set_self (by rw [h.len]; exact hi), by rw [List.length_set]; exact a2, fun k hk => ?_⟩
      by_cases ek : k = 2 * m
      · subst ek
        rw [if_pos ⟨rfl, rfl⟩, List.getElem?_set_self (by omega)]
      · rw [if_neg (fun z => ek z.2), List.getElem?_set_ne (Ne.symm ek)]
        exact a3 k hk
    · refine ⟨row', by rw [List.getElem?_set_ne (Ne.symm e)]; exact a1, a2, fun k hk => ?_⟩
      rw [if_neg (fun z => e z.1)]
      exact a3 k hk
  refine ⟨by rw [List.length_set, List.length_set]; exact h.len, fun i hi => ?_⟩
  have key : ∀ k, k < 2 * L → (if i = o ∧ k = 2 * m + 1 then -v else if i = r ∧ k = 2 * m then v else num T J i k) = num T (J ++ [(r, m)]) i k := fun k hk => by
    unfold num
    by_cases hev : k % 2 = 0
    · rw [if_pos hev, if_pos hev, if_neg (fun z => by omega), idx_app hc]
      by_cases e : (i, k / 2) = (r, m)
      · have e1 : i = r := congrArg Prod.fst e
        have e2 : k / 2 = m := congrArg Prod.snd e
        rw [if_pos ⟨e1, by omega⟩, if_pos e, hv]
      · rw [if_neg (fun z => e (by rw [z.1, show k / 2 = m by omega])), if_neg e]
    · rw [if_neg hev, if_neg hev, idx_app hc]
      by_cases e : (M11.nx T k i, k / 2) = (r, m)
      · have e1 : M11.nx T k i = r := congrArg Prod.fst e
        have e2 : k / 2 = m := congrArg Prod.snd e
        have ek : k = 2 * m + 1 := by omega
        subst ek
        have hb2 := hT.back i (2 * m + 1) hi hk
        rw [show M11.flip (2 * m + 1) = 2 * m by unfold M11.flip; rw [if_neg (by omega)]; omega, e1, hgo] at hb2
        rw [if_pos ⟨hb2.symm, rfl⟩, if_pos e, hv]
      · rw [if_neg (fun z => e (by rw [z.1, z.2, hb, show (2 * m + 1) / 2 = m by omega])), if_neg (fun z => by omega), if_neg e]
  by_cases e : i = o
  · subst e
    obtain ⟨row', a1, a2, a3⟩ := at1 i hi
    have er : row' = row1 := Option.some.inj (a1.symm.trans e1)
    subst er
    refine ⟨_, List.getElem?_set_self (by rw [List.length_set, h.len]; exact hi), by rw [List.length_set]; exact a2, fun k hk => ?_⟩
    rw [← key k hk]
    by_cases ek : k = 2 * m + 1
    · subst ek
      rw [if_pos ⟨rfl, rfl⟩, List.getElem?_set_self (by omega)]
    · rw [if_neg (fun z => ek z.2), List.getElem?_set_ne (Ne.symm ek)]
      exact a3 k hk
  · obtain ⟨row', a1, a2, a3⟩ := at1 i hi
    refine ⟨row', by rw [List.getElem?_set_ne (Ne.symm e)]; exact a1, a2, fun k hk => ?_⟩
    rw [← key k hk, if_neg (fun z => e z.1)]
    exact a3 k hk
theorem NumTab.zero {L : Nat} {T : List (List Int)} : NumTab L T [] (List.replicate T.length (List.replicate (2 * L) 0)) := by
  refine ⟨List.length_replicate, fun i hi => ⟨List.replicate (2 * L) 0, ?_, List.length_replicate, fun k hk => ?_⟩⟩
  · rw [List.getElem?_replicate, if_pos hi]
  · rw [List.getElem?_replicate, if_pos hk]
    unfold num pos
    simp
theorem comp_zero {K : PySem.W.Frag} {H : Hp} {a : Addr} {fv : St} {te : TE} {Q : VK} {rs : List Addr} {rows : List (List Int)} {n : Nat} (hrs : H a = some (.lst (rs.map V.ref))) (hrw : RowsAt H rs rows) (hz : rows.length ≤ 1000) (hlen : ∀ row ∈ rows, row.length = n)
    (he : ∀ (H2 : Hp) (r : Addr) (ns : List Int) (R : VK), H2 r = some (.lst (intV ns)) → ns.length = n → (∀ l H3, Same H2 H3 → H2 l = none → H3 l = some (.lst (intV (List.replicate n 0))) → R (.ref l) H3) → te (some (.ref r) :: fv) H2 R)
    (hQ : ∀ D H2 qs, Same H H2 → H2 D = none → RowsAt H2 qs (List.replicate rows.length (List.replicate n 0)) → qs.Nodup → (∀ q ∈ qs, H q = none) → Q (.ref D) (upd H2 D (.lst (qs.map V.ref)))) : CompGo te fv Q (Itl K a) H := by
  have hrl := hrw.1
  refine ⟨fun i m ys H2 => m = rs.length - i ∧ i ≤ rs.length ∧ ∃ qs : List Addr, ys = qs.map V.ref ∧ Same H H2 ∧ RowsAt H2 qs (List.replicate i (List.replicate n 0)) ∧ qs.Nodup ∧ ∀ q ∈ qs, H q = none, ⟨rs.length, by simp, Nat.zero_le _, [], rfl, fun _ _ e => e, ⟨rfl, fun i r ns h1 => by simp at h1⟩, by simp, by simp⟩, ?_⟩
  rintro i m ys H2 ⟨rfl, hi, qs, rfl, s2, hqa, hnd, hnew⟩
  have hql : qs.length = i := by have := hqa.1; rw [List.length_replicate] at this; exact this
  by_cases hlt : i < rs.length
  · have g1 : rs[i]? = some rs[i] := List.getElem?_eq_getElem hlt
    have hil : i < rows.length := by omega
    have g2 : rows[i]? = some rows[i] := List.getElem?_eq_getElem hil
    have hr := hrw.2 i _ _ g1 g2
    refine .inr ⟨itl_go (SqL.of (s2 _ _ hrs)) i (by rw [List.length_map]; exact hlt), by rw [List.length_map, hql]; exact Nat.lt_of_le_of_lt (show i ≤ 1000 by omega) (by decide), fun x H3 hy => ?_⟩
    obtain ⟨rfl, hx⟩ := itl_yld (SqL.of (s2 _ _ hrs)) i x H3 (by rw [List.length_map]; exact hlt) hy
    rw [List.getElem?_map, g1] at hx
    have ex : V.ref rs[i] = x := Option.some.inj hx
    subst ex
    refine he H3 _ _ _ (s2 _ _ hr) (hlen _ (List.mem_of_getElem? g2)) fun l H4 s4 hl h4 => ?_
    refine ⟨rs.length - (i + 1), by omega, rfl, hlt, qs ++ [l], by rw [List.map_append]; rfl, s2.trans s4, ?_, ?_, ?_⟩
    · rw [List.replicate_succ']
      exact (hqa.same s4).snoc h4
    · rw [List.nodup_append]
      refine ⟨hnd, by simp, fun x hx y hy => ?_⟩
      rw [List.mem_singleton.mp hy]
      intro z
      obtain ⟨ns, hns⟩ := rows_mem hqa hx
      rw [z, hl] at hns
      cases hns
    · intro q hq
      rcases List.mem_append.mp hq with hq | hq
      · exact hnew q hq
      · rw [List.mem_singleton.mp hq]
        exact s2.free hl
  · have e : i = rs.length := by omega
    refine .inl ⟨?_, by rw [List.length_map, hql]; exact Nat.le_trans (show i ≤ 1000 by omega) (by decide), fun D hD => ?_⟩
    · have := itl_stop (K := K) (SqL.of (s2 _ _ hrs))
      rw [List.length_map, ← e] at this
      exact this
    · rw [e, hrl] at hqa
      exact hQ D H2 qs s2 hD hqa hnd hnew
theorem cells_nd (L n : Nat) : (cells L n 0).Nodup := by
  unfold cells
  rw [List.range_zero, List.map_nil, List.append_nil]
  rw [List.nodup_iff_pairwise_ne]
  induction n with
  | zero => simp
  | succ n ih =>
    rw [List.range_succ, List.flatMap_append, List.pairwise_append]
    refine ⟨ih, ?_, fun x hx y hy => ?_⟩
    · simp only [List.flatMap_cons, List.flatMap_nil, List.append_nil]
      rw [List.pairwise_map]
      have := List.nodup_range (n := L)
      rw [List.nodup_iff_pairwise_ne] at this
      exact this.imp fun h z => h (congrArg Prod.snd z)
    · obtain ⟨j, hj, h2⟩ := List.mem_flatMap.mp hx
      obtain ⟨m, _, rfl⟩ := List.mem_map.mp h2
      simp only [List.flatMap_cons, List.flatMap_nil, List.append_nil] at hy
      obtain ⟨m', _, rfl⟩ := List.mem_map.mp hy
      intro z
      have e1 : j = n := congrArg Prod.fst z
      have := List.mem_range.mp hj
      omega
theorem innL_nd (T W : List (List Int)) (L n : Nat) : (innL T W L n 0).Nodup := (cells_nd L n).filter _
def Off (qs : List Addr) (H H' : Hp) : Prop := ∀ b o, b ∉ qs → H b = some o → H' b = some o
theorem ok_inner_numbers (T : Txt K mg A) : FnOk P w K mg base CX0 4 A.f_inner_numbers A.d_inner_numbers ["table"] spNums := by
  have G_inner_letters : FnOk P w K mg base CX0 3 A.f_inner_letters A.d_inner_letters ["table"] spLetters := ok_inner_letters T
  have G_place_of : FnOk P w K mg base CX0 1 A.f_place_of A.d_place_of ["step"] spPlace := ok_place_of T
  refine T.inner_numbers.F.ok sc_inner_numbers (fun vs H Q E h => ?_) (fun cdv AA outer s H vs Q E hr h => ?_)
  · obtain ⟨a, TT, L, rfl, _⟩ := h
    rfl
  · obtain ⟨a, TT, L, rfl, hTa, hT, hF, k⟩ := h
    refine ⟨_, (pss_cons (ps_setComp (iy := 1) sc_inner_numbers.nd rfl (Or.inl rfl) (fns := []) (ixs := []) (cl := []) rfl (pi_list (pv 0)) (compScope0 (by decide +kernel) (by decide +kernel) rfl (by decide +kernel) rfl) (fun C s H ex => (pe_op op_rep (pe_lst (pa_cons pe_int pa_nil)) (pe_callB (call_len_seqK (K := K) rfl) rfl T.z_len PySem.boot_len (pa_cons (pv 0) pa_nil)))))
      (pss_cons (ps_for PassesOwn.never rfl (pi_enumLS rfl T.z_enumerate (pe_call (G_inner_letters) (hr.mono (by decide)) rfl T.inner_letters.m T.inner_letters.F.kp T.inner_letters.b .nil pass0 (pa_cons (pv 0) pa_nil))) (pg_tup rfl (pgs_cons (pg_name (i := 2) sc_inner_numbers.nd rfl (Or.inl rfl)) (pgs_cons (pg_name (i := 3) sc_inner_numbers.nd rfl (Or.inl rfl)) pgs_nil)))
        (pss_cons (ps_set (i := 4) sc_inner_numbers.nd rfl (Or.inl rfl) (pe_ix ix_tup (pv 3) pe_int (fun _ _ => rfl)))
        (pss_cons (ps_set (i := 5) sc_inner_numbers.nd rfl (Or.inl rfl) (pe_ix ix_tup (pv 3) pe_int (fun _ _ => rfl)))
        (pss_cons (ps_set (i := 6) sc_inner_numbers.nd rfl (Or.inl rfl) (pe_ix ix_list (pe_ix ix_list (pv 0) (pv 4) (fun _ _ => rfl)) (pe_call (G_place_of) (hr.mono (by decide)) rfl T.place_of.m T.place_of.F.kp T.place_of.b .nil pass0 (pa_cons (pv 5) pa_nil)) (fun _ _ => rfl)))
        (pss_cons (ps_asg (pv 2) (pg_sub (pe_ix ix_list (pv 1) (pv 4) (fun _ _ => rfl)) (pe_call (G_place_of) (hr.mono (by decide)) rfl T.place_of.m T.place_of.F.kp T.place_of.b .nil pass0 (pa_cons (pv 5) pa_nil)) set_list))
        (pss_one (ps_asg (pe_un un_neg (pv 2)) (pg_sub (pe_ix ix_list (pv 1) (pv 6) (fun _ _ => rfl)) (pe_call (G_place_of) (hr.mono (by decide)) rfl T.place_of.m T.place_of.F.kp T.place_of.b .nil pass0 (pa_cons (pe_un un_neg (pv 5)) pa_nil)) set_list))))))))
      (pss_one (ps_ret (pv 1))))), ?_⟩
    have h300 := hT.top
    have h40 := hT.let2
    obtain ⟨rs, hrs, hrw⟩ := id hTa
    refine ⟨_, rfl, a, rfl, ⟨_, SqL.of hrs⟩, ?_⟩
    refine comp_zero (n := 2 * L) hrs hrw (by omega) (fun row hrow => by obtain ⟨i, hi⟩ := List.getElem?_of_mem hrow; exact hT.row i row hi) (fun H2 r ns R h2 hns hR => ?_) (fun na H2 qs s2 hna hqs hnd hnew => ?_)
    · refine ⟨by show 1 ≤ sizeLine; decide, fun q hq => ?_⟩
      have sq : Same H2 (upd H2 q (.lst [.int 0])) := Same.upd hq
      have hqq : upd H2 q (.lst [.int 0]) q = some (.lst [.int 0]) := upd_same
      generalize upd H2 q (.lst [.int 0]) = H3 at sq hqq ⊢
      refine ⟨_, rfl, r, _, rfl, .inl (SqL.of (sq _ _ h2)), q, _, _, rfl, rfl, hqq, by omega, ?_, ?_, fun t ht => ?_⟩
      · rw [ints_len]; omega
      · rw [ints_len, hns, Int.toNat_natCast]
        exact Nat.le_trans (show [V.int 0].length * (2 * L) ≤ 80 by simp only [List.length_singleton]; omega) (by decide)
      · rw [ints_len, hns, Int.toNat_natCast, rep_zero]
        exact hR t _ (sq.trans (Same.upd ht)) (sq.free ht) upd_same
    have s3 : Same H2 (upd H2 na (.lst (qs.map V.ref))) := Same.upd hna
    have hn3 : upd H2 na (.lst (qs.map V.ref)) na = some (.lst (qs.map V.ref)) := upd_same
    generalize upd H2 na (.lst (qs.map V.ref)) = H3 at s3 hn3 ⊢
    have s03 := s2.trans s3
    have hqs3 := hqs.same s3
    have hnaq : na ∉ qs := fun z => by
      obtain ⟨ns, hns⟩ := rows_mem hqs z
      rw [hna] at hns
      cases hns
    refine ⟨_, rfl, a, TT, L, rfl, hTa.same s03, hT, hF, fun li ws H4 s4 n4 hLW hWI => ?_⟩
    obtain ⟨ip, hip, hit⟩ := hWI
    have hmem : ∀ c ∈ innL TT (ws.map wd) L TT.length 0, c.1 < TT.length ∧ c.2 < L := fun c hc => innL_mem hc
    have hndI := innL_nd TT (ws.map wd) L TT.length
    have hk := k na ws
    generalize innL TT (ws.map wd) L TT.length 0 = I at hit hmem hndI hk
    have hliq : li ∉ qs := fun z => by
      obtain ⟨ns, hns⟩ := rows_mem hqs3 z
      rw [n4] at hns
      cases hns
    have hIl : ip.length = I.length := by have := hit.1; rw [List.length_map] at this; exact this
    refine ⟨li, rfl, by decide, by decide, ⟨_, SqL.of hip⟩, ?_⟩
    refine for_enumLS (K := K) (a := li) (xs := ip.map V.ref) (n := 1) (fun t σ H5 => ∃ (N : List (List Int)) (v2 v3 v4 v5 v6 : Option V), σ = [some (.ref a), some (.ref na), v2, v3, v4, v5, v6] ∧ Off qs H4 H5 ∧ RowsAt H5 qs N ∧ NumTab L TT (I.take t) N)
      ⟨_, none, none, none, none, none, rfl, fun _ _ _ e => e, hqs3.same s4, by rw [hrw.1.symm.trans rfl, hrw.1]; exact NumTab.zero⟩ (fun t σ H5 _ ⟨_, _, _, _, _, _, _, o, _⟩ => SqL.of (o _ _ hliq hip)) ?_ ?_
    · rintro t v σ H5 p ht hp ⟨N, v2, v3, v4, v5, v6, rfl, o5, hN5, hNT⟩
      rw [List.getElem?_map] at ht
      have htl : t < ip.length := by
        cases e : ip[t]? with
        | none => rw [e] at ht; cases ht
        | some r => exact (List.getElem?_eq_some_iff.mp e).1
      have g1 : ip[t]? = some ip[t] := List.getElem?_eq_getElem htl
      rw [g1] at ht
      have ey : V.ref ip[t] = v := Option.some.inj ht
      subst ey
      generalize ip[t] = pp at g1
      have g2 : I[t]? = some (I[t]'(by omega)) := List.getElem?_eq_getElem (by omega)
      generalize I[t]'(by omega) = c at g2
      have hpp := hit.2 t pp (litI c) g1 (by rw [List.getElem?_map, g2]; rfl)
      obtain ⟨hc1, hc2⟩ := hmem c (List.mem_of_getElem? g2)
      have hst : I.take (t + 1) = I.take t ++ [c] := by rw [List.take_succ, g2]; rfl
      have hcn : c ∉ I.take t := fun z => by
        obtain ⟨j, hj⟩ := List.getElem?_of_mem z
        have hjt : j < t := by
          have := (List.getElem?_eq_some_iff.mp hj).1
          rw [List.length_take] at this
          omega
        rw [List.getElem?_take_of_lt hjt] at hj
        have := (List.getElem?_inj (List.getElem?_eq_some_iff.mp hj).1 hndI).mp (hj.trans g2.symm)
        omega
      obtain ⟨r, m⟩ := c
      have hcr : r < TT.length := hc1
      have hcm : m < L := hc2
      have hpp' : H4 pp = some (.tup [.int (r : Int), .int ((m + 1 : Nat) : Int)]) := hpp
      have hppq : pp ∉ qs := fun z => by
        obtain ⟨ns, hns⟩ := rows_mem (hqs3.same s4) z
        rw [hpp'] at hns
        cases hns
      have hpl1 : M11.pl ((m + 1 : Nat) : Int) = 2 * m := by
        unfold M11.pl
        rw [if_pos (by omega)]
        omega
      have hpl2 : M11.pl (-((m + 1 : Nat) : Int)) = 2 * m + 1 := by
        unfold M11.pl
        rw [if_neg (by omega)]
        omega
      have hpq : p ∉ qs := fun z => by
        obtain ⟨ns, hns⟩ := rows_mem hN5 z
        rw [hp] at hns
        cases hns
      have s56 := Same.upd (o := .tup [.int (1 + (t : Int)), .ref pp]) hp
      refine ⟨p, _, rfl, SqT.of upd_same, rfl, _, _, rfl, _, _, rfl, rfl, ?_⟩
      generalize upd H5 p (.tup [.int (1 + (t : Int)), .ref pp]) = H6 at s56 ⊢
      have o6 : Off qs H4 H6 := fun b o hb e => s56 _ _ (o5 b o hb e)
      have hN6 := hN5.same s56
      have h46 : ∀ b o, H4 b = some o → b ∉ qs → H6 b = some o := fun b o e hb => o6 b o hb e
      have hpp6 := o6 _ _ hppq hpp'
      have rq : ∀ b o, H b = some o → b ∉ qs := fun b o e z => by
        have := hnew b z
        rw [e] at this
        cases this
      have hTa6 : TabAt H6 a TT := ⟨rs, o6 _ _ (rq _ _ hrs) (s4 _ _ (s03 _ _ hrs)), ⟨hrw.1, fun i x ns h1 h2 => o6 _ _ (rq _ _ (hrw.2 i x ns h1 h2)) (s4 _ _ (s03 _ _ (hrw.2 i x ns h1 h2)))⟩⟩
      have hna6 : H6 na = some (.lst (qs.map V.ref)) := o6 _ _ hnaq (s4 _ _ hn3)
      refine ⟨_, rfl, pp, _, _, _, rfl, rfl, SqT.of hpp6, atI_nat (j := 0) rfl, ?_⟩
      refine ⟨_, rfl, pp, _, _, _, rfl, rfl, SqT.of hpp6, atI_nat (j := 1) rfl, ?_⟩
      obtain ⟨rs6, rr, row, b1, b2, b3, b4, b5⟩ := tab_get hTa6 hT hcr
      have hoT := hT.lt r (2 * m) hcr (by omega)
      refine ⟨_, rfl, _, rfl, a, _, _, .ref rr, rfl, rfl, SqL.of b1, ref_at b2, _, rfl, ((m + 1 : Nat) : Int), rfl, by omega, by omega, ?_⟩
      rw [hpl1]
      refine ⟨rr, _, _, _, rfl, rfl, SqL.of b3, atI_nat (ints_at (b5 (2 * m) (by omega))), ?_⟩
      have hql : qs.length = TT.length := by rw [hN6.1, hNT.len]
      obtain ⟨nrow, c1, c2, c3⟩ := hNT.at_ r hcr
      have d1 : qs[r]? = some (qs[r]'(by omega)) := List.getElem?_eq_getElem (by omega)
      generalize qs[r]'(by omega) = nr at d1
      have hnr := hN6.2 r nr nrow d1 c1
      refine ⟨_, rfl, _, rfl, _, rfl, na, _, _, .ref nr, rfl, rfl, SqL.of hna6, ref_at d1, _, rfl, ((m + 1 : Nat) : Int), rfl, by omega, by omega, ?_⟩
      rw [hpl1]
      refine ⟨nr, _, _, 2 * m, rfl, rfl, hnr, ixN_nat (i := 2 * m) (by rw [ints_len, c2]; omega), ?_⟩
      rw [ints_set]
      have hN7 := rows_set (row' := nrow.set (2 * m) (1 + (t : Int))) hN6 hnd d1
      have hnrq : nr ∈ qs := List.mem_of_getElem? d1
      have o7 : Off qs H4 (upd H6 nr (.lst (intV (nrow.set (2 * m) (1 + (t : Int)))))) := fun b o hb e => by
        rw [upd_ne (fun z => hb (by rw [z]; exact hnrq))]
        exact o6 b o hb e
      generalize upd H6 nr (.lst (intV (nrow.set (2 * m) (1 + (t : Int))))) = H7 at hN7 o7 ⊢
      have hna7 : H7 na = some (.lst (qs.map V.ref)) := o7 _ _ hnaq (s4 _ _ hn3)
      have d2 : qs[M11.nx TT (2 * m) r]? = some (qs[M11.nx TT (2 * m) r]'(by omega)) := List.getElem?_eq_getElem (by omega)
      generalize qs[M11.nx TT (2 * m) r]'(by omega) = nr2 at d2
      have hoN : M11.nx TT (2 * m) r < (N.set r (nrow.set (2 * m) (1 + (t : Int)))).length := by rw [List.length_set, hNT.len]; exact hoT
      have c4 : (N.set r (nrow.set (2 * m) (1 + (t : Int))))[M11.nx TT (2 * m) r]? = some ((N.set r (nrow.set (2 * m) (1 + (t : Int))))[M11.nx TT (2 * m) r]'hoN) := List.getElem?_eq_getElem hoN
      generalize (N.set r (nrow.set (2 * m) (1 + (t : Int))))[M11.nx TT (2 * m) r]'hoN = row1 at c4
      have hnr2 := hN7.2 _ nr2 row1 d2 c4
      have hNT2 := hNT.step hT hcn hcr hcm (v := 1 + (t : Int)) (by rw [List.length_take]; omega) c1 c4
      have c5 : row1.length = 2 * L := by
        obtain ⟨row', x1, x2, x3⟩ := hNT2.at_ _ hoT
        rw [List.getElem?_set_self hoN] at x1
        rw [← Option.some.inj x1, List.length_set] at x2
        exact x2
      refine ⟨_, rfl, _, rfl, _, rfl, _, rfl, na, _, _, .ref nr2, rfl, rfl, SqL.of hna7, ref_at d2, _, rfl, _, rfl, -((m + 1 : Nat) : Int), rfl, by omega, by omega, ?_⟩
      rw [hpl2]
      refine ⟨nr2, _, _, 2 * m + 1, rfl, rfl, hnr2, ixN_nat (i := 2 * m + 1) (by rw [ints_len, c5]; omega), ?_⟩
      rw [ints_set]
      have hN8 := rows_set (row' := row1.set (2 * m + 1) (-(1 + (t : Int)))) hN7 hnd d2
      have hnr2q : nr2 ∈ qs := List.mem_of_getElem? d2
      rw [hst]
      exact ⟨_, _, _, _, _, _, rfl, fun b o hb e => by rw [upd_ne (fun z => hb (by rw [z]; exact hnr2q))]; exact o7 b o hb e, hN8, hNT2⟩
    · rintro σ H5 ⟨N, v2, v3, v4, v5, v6, rfl, o5, hN5, hNT⟩
      rw [List.length_map, hIl, List.take_length] at hNT
      have rq : ∀ b o, H b = some o → b ∉ qs := fun b o e z => by
        have := hnew b z
        rw [e] at this
        cases this
      exact ⟨_, rfl, hk N H5 (fun b o e => o5 b o (rq b o e) (s4 _ _ (s03 _ _ e))) hLW ⟨qs, o5 _ _ hnaq (s4 _ _ hn3), hN5⟩ hNT⟩
theorem ok__law_alike (T : Txt K mg A) : FnOk P w K mg base CX0 2 A.f__law_alike A.d__law_alike ["_law_found", "_law_due"] spAlike := by
  have G__law_whole : FnOk P w K mg base CX0 1 A.f__law_whole A.d__law_whole ["_law_found"] spWhole := ok__law_whole T
  refine T._law_alike.F.ok sc__law_alike (fun vs H Q E h => ?_) (fun cdv AA outer s H vs Q E hr h => ?_)
  · obtain ⟨a, b, W, rfl, _⟩ := h
    rfl
  · obtain ⟨a, b, W, rfl, hA, hB, k⟩ := h
    have hu2 := hu_of hr
    refine ⟨_, (pss_cons (ps_cut (ps_if (PW.pt (pw_or (pt_not (pt_val (pe_callB call_isi rfl T.z_isinstance PyProof.Rows.boot_isinstance (pa_cons (pv 0) (pa_cons (pe_bltn (v := .ty "list") rfl T.z_list PyProof.Rows.boot_list rfl) pa_nil))))) (pw_or1 (pt_cmpR op_ne (pe_callB call_len_seq rfl T.z_len PySem.boot_len (pa_cons (pv 0) pa_nil)) (pe_callB call_len_seq rfl T.z_len PySem.boot_len (pa_cons (pv 1) pa_nil)) (nomark _)))))
        (pss_one (ps_ret pe_bl))
        pss_nil))
      (pss_cons (ps_for PassesOwn.never rfl (pi_list (pv 0)) (pg_name (i := 2) sc__law_alike.nd rfl (Or.inl rfl))
        (pss_cons (ps_if (pt_not (pt_val (pe_callB call_isi rfl T.z_isinstance PyProof.Rows.boot_isinstance (pa_cons (pv 2) (pa_cons (pe_bltn (v := .ty "tuple") rfl T.z_tuple PyProof.Rows.boot_tuple rfl) pa_nil)))))
          (pss_one (ps_ret pe_bl))
          pss_nil)
        (pss_one (ps_for PassesOwn.never rfl (pi_tup (pv 2)) (pg_name (i := 3) sc__law_alike.nd rfl (Or.inl rfl))
          (pss_one (ps_if (pt_not (pt_val (pe_call (G__law_whole) (hr.mono (by decide)) rfl T._law_whole.m T._law_whole.F.kp T._law_whole.b .nil pass0 (pa_cons (pv 3) pa_nil))))
            (pss_one (ps_ret pe_bl))
            pss_nil))))))
      (pss_one (ps_ret (pe_cmpR (op_eqLT hu2) (pv 0) (pv 1) (nomark _)))))), ?_⟩
    obtain ⟨ps, hps, hpw⟩ := id hA
    obtain ⟨qs, hqs, hqw⟩ := id hB
    refine ⟨fun σ' H' => σ' = [some (.ref a), some (.ref b), none, none] ∧ H' = H, ?_, ?_⟩
    · refine ⟨_, rfl, _, _, _, _, rfl, .lst hps, kit_self _ _, true, rfl, iteF ?_⟩
      refine ⟨_, rfl, a, _, rfl, .inl (SqL.of hps), _, rfl, b, _, rfl, .inl (SqL.of hqs), rfl, _, rfl, ?_⟩
      refine ite2 (fun h => ?_) (fun _ => ⟨rfl, rfl⟩)
      have h' : (!decide (V.int ((ps.map V.ref).length : Int) = V.int ((qs.map V.ref).length : Int))) = true := h
      rw [List.length_map, List.length_map, hpw.1, hqw.1, decide_eq_true rfl] at h'
      cases h'
    rintro σ' H' ⟨rfl, rfl⟩
    refine ⟨_, rfl, a, rfl, ⟨_, SqL.of hps⟩, ?_⟩
    refine for_list (K := K) (a := a) (xs := ps.map V.ref) (fun i σ H2 => ∃ v2 v3 : Option V, σ = [some (.ref a), some (.ref b), v2, v3] ∧ H2 = H') ⟨none, none, rfl, rfl⟩ (fun i σ H2 _ ⟨_, _, _, e⟩ => by rw [e]; exact SqL.of hps) ?_ ?_
    · rintro i y σ H2 hi ⟨v2, v3, rfl, rfl⟩
      rw [List.getElem?_map] at hi
      have hil : i < ps.length := by
        cases e : ps[i]? with
        | none => rw [e] at hi; cases hi
        | some r => exact (List.getElem?_eq_some_iff.mp e).1
      have g1 : ps[i]? = some ps[i] := List.getElem?_eq_getElem hil
      rw [g1] at hi
      have ey : V.ref ps[i] = y := Option.some.inj hi
      subst ey
      generalize ps[i] = pp at g1
      have g2 : W[i]? = some (W[i]'(by rw [← hpw.1]; exact hil)) := List.getElem?_eq_getElem (by rw [← hpw.1]; exact hil)
      generalize W[i]'(by rw [← hpw.1]; exact hil) = ww at g2
      have hpp := hpw.2 i pp ww g1 g2
      refine ⟨_, rfl, _, _, _, _, rfl, .tup hpp, kit_self _ _, true, rfl, iteF ?_⟩
      refine ⟨_, rfl, pp, rfl, ⟨_, SqT.of hpp⟩, ?_⟩
      refine for_tup (K := K) (a := pp) (xs := intV ww) (fun n σ H3 => ∃ v3 : Option V, σ = [some (.ref a), some (.ref b), some (.ref pp), v3] ∧ H3 = H2) ⟨_, rfl, rfl⟩ (fun n σ H3 _ ⟨_, _, e⟩ => by rw [e]; exact SqT.of hpp) ?_ ?_
      · rintro n y σ H3 hn ⟨v3, rfl, rfl⟩
        obtain ⟨z, rfl, hz⟩ := ints_of_at hn
        exact ⟨_, rfl, z, rfl, true, rfl, iteF ⟨_, rfl, rfl⟩⟩
      · rintro σ H3 ⟨v3, rfl, rfl⟩
        exact ⟨_, _, rfl, rfl⟩
    · rintro σ H2 ⟨v2, v3, rfl, rfl⟩
      refine ⟨_, rfl, _, rfl, a, b, W, W, rfl, rfl, hA, hB, ?_⟩
      rw [decide_eq_true rfl]
      exact k
def spLedL : Sp := fun vs H Q _ => ∃ (a wa : Addr) (T : List (List Int)) (L i : Nat) (w : List Int), vs = [.ref a, .int i, .ref wa] ∧ TabAt H a T ∧ M11.Tab L T ∧ i < T.length ∧ H wa = some (.tup (intV w)) ∧ M11.Steps L w ∧ Q (.int (M11.walk T w i)) H
theorem ok__law_led (T : Txt K mg A) : FnOk P w K mg base CX0 1 A.f__law_led A.d__law_led ["_law_table", "_law_room", "_law_word"] spLedL := by
  refine T._law_led.F.ok sc__law_led (fun vs H Q E h => ?_) (fun cdv AA outer s H vs Q E hr h => ?_)
  · obtain ⟨a, wa, TT, L, i, ws, rfl, _⟩ := h
    rfl
  · obtain ⟨a, wa, TT, L, i, ws, rfl, hTa, hT, hi, hwa, hst, k⟩ := h
    refine ⟨_, (pss_cons (ps_for PassesOwn.never rfl (pi_tup (pv 2)) (pg_name (i := 3) sc__law_led.nd rfl (Or.inl rfl))
        (pss_one (ps_set (i := 1) sc__law_led.nd rfl (Or.inl rfl) (pe_ix ix_list (pe_ix ix_list (pv 0) (pv 1) (fun _ _ => rfl)) (pe_op op_sub (pe_op op_sub (pe_op op_mul pe_int (pe_callB call_abs rfl T.z_abs PyProof.Rows.boot_abs (pa_cons (pv 3) pa_nil))) pe_int) (pe_callTy call_intB rfl T.z_int PyProof.Rows.boot_int (pa_cons (pe_cmpR op_gt (pv 3) pe_int (nomark _)) pa_nil))) (fun _ _ => rfl)))))
      (pss_one (ps_ret (pv 1)))), ?_⟩
    refine ⟨_, rfl, wa, rfl, ⟨_, SqT.of hwa⟩, ?_⟩
    refine for_tup (K := K) (a := wa) (xs := intV ws) (fun n σ H2 => ∃ v : Option V, σ = [some (.ref a), some (.int (M11.walk TT (ws.take n) i)), some (.ref wa), v] ∧ H2 = H) ⟨none, rfl, rfl⟩ (fun n σ H2 _ ⟨_, _, e⟩ => by rw [e]; exact SqT.of hwa) ?_ ?_
    · rintro n y σ H2 hn ⟨v, rfl, rfl⟩
      obtain ⟨z, rfl, hz⟩ := ints_of_at hn
      have hs := hst z (List.mem_of_getElem? hz)
      have hlt := M11.walk_lt hT (steps_take n hst) hi
      obtain ⟨rs, r, row, h1, h2, h3, h4, h5⟩ := tab_get hTa hT hlt
      have epl : 2 * (if z < 0 then -z else z) - 1 - (if decide (0 < z) = true then 1 else 0) = ((M11.pl z : Nat) : Int) := by
        unfold M11.pl
        by_cases h : 0 < z
        · rw [if_neg (show ¬ z < 0 by omega), if_pos (decide_eq_true h), if_pos h]
          omega
        · rw [if_pos (show z < 0 by omega), if_neg (by rw [decide_eq_false h]; decide), if_neg h]
          omega
      refine ⟨_, rfl, _, rfl, a, _, _, _, rfl, rfl, SqL.of h1, ref_at h2, _, rfl, z, rfl, _, _, rfl, rfl, .inl ⟨by decide, by decide⟩, _, _, rfl, rfl, _, rfl, _, _, rfl, rfl, _, rfl, _, _, rfl, rfl, ?_⟩
      simp only [epl]
      refine ⟨r, _, _, _, rfl, rfl, SqL.of h3, atI_nat (ints_at (h5 _ (M11.pl_lt hs))), ?_⟩
      exact ⟨_, by rw [walk_take hz]; rfl, rfl⟩
    · rintro σ H2 ⟨v, rfl, rfl⟩
      rw [ints_len, List.take_length]
      exact ⟨_, rfl, k⟩
theorem back_len (w : List Int) : (M11.back w).length = w.length := by unfold M11.back; rw [List.length_map, List.length_reverse]
def ad (acc : List (List Int)) (x : List Int) : List (List Int) := if x = [] ∨ x ∈ acc then acc else acc ++ [x]
def seqT (T : List (List Int)) (J : List (Nat × Nat)) (R : List (List Int)) (r n : Nat) : List (List Int) := ((List.range r).flatMap fun i => R.map fun u => thinL (tell T J u i)) ++ (R.take n).map fun u => thinL (tell T J u r)
def dueT (T : List (List Int)) (J : List (Nat × Nat)) (R : List (List Int)) (r n : Nat) : List (List Int) := (seqT T J R r n).foldl ad []
theorem dueT_row (T : List (List Int)) (J : List (Nat × Nat)) (R : List (List Int)) (r : Nat) : dueT T J R r R.length = dueT T J R (r + 1) 0 := by
  unfold dueT seqT
  rw [List.take_length, List.range_succ, List.flatMap_append, List.take_zero, List.map_nil, List.append_nil]
  simp
theorem dueT_succ {T : List (List Int)} {J : List (Nat × Nat)} {R : List (List Int)} {r n : Nat} {u : List Int} (h : R[n]? = some u) : dueT T J R r (n + 1) = ad (dueT T J R r n) (thinL (tell T J u r)) := by
  unfold dueT seqT
  rw [List.take_succ, h, List.map_append, ← List.append_assoc, List.foldl_append]
  rfl
theorem ad_len (acc : List (List Int)) (x : List Int) : (ad acc x).length ≤ acc.length + 1 := by
  unfold ad
  split
  · omega
  · rw [List.length_append]; simp
theorem due_len (T : List (List Int)) (J : List (Nat × Nat)) (R : List (List Int)) (r n : Nat) : (dueT T J R r n).length ≤ (r + 1) * R.length := by
  have key : ∀ (l acc : List (List Int)), (l.foldl ad acc).length ≤ acc.length + l.length := by
    intro l
    induction l with
    | nil => intro acc; exact Nat.le_refl _
    | cons x l ih =>
      intro acc
      have h1 := ih (ad acc x)
      have h2 := ad_len acc x
      rw [List.foldl_cons, List.length_cons]
      omega
  have h1 := key (seqT T J R r n) []
  have h2 : (seqT T J R r n).length ≤ (r + 1) * R.length := by
    unfold seqT
    rw [List.length_append, List.length_map, List.length_take]
    have : ((List.range r).flatMap fun i => R.map fun u => thinL (tell T J u i)).length = r * R.length := by
      clear h1 key
      induction r with
      | zero => simp
      | succ r ih =>
        rw [List.range_succ, List.flatMap_append, List.length_append, ih, Nat.succ_mul]
        simp
    rw [this, Nat.succ_mul]
    omega
  rw [List.length_nil] at h1
  unfold dueT
  omega
def kvT (acc : List (List Int)) : List (List Key × V) := acc.map fun w => (w.map Sum.inl, V.bl true)
theorem kv_ints (w : List Int) : (w.map (Sum.inl : Int → Key)).map kV = intV w := by
  unfold intV
  rw [List.map_map]
  rfl
theorem inl_inj {w u : List Int} (h : w.map (Sum.inl : Int → Key) = u.map Sum.inl) : w = u := (List.map_inj_right (fun a b z => by injection z)).mp h
theorem kvT_val (acc : List (List Int)) (w : List Int) : (valV (kvT acc) (w.map Sum.inl) = none ↔ w ∉ acc) := by
  induction acc with
  | nil => exact ⟨fun _ => by simp, fun _ => rfl⟩
  | cons x acc ih =>
    show valV ((x.map Sum.inl, V.bl true) :: kvT acc) _ = none ↔ _
    by_cases e : x = w
    · subst e
      rw [valV_pos rfl]
      simp
    · rw [valV_neg (fun z => e (inl_inj z)), ih]
      simp [Ne.symm e]
theorem kvT_put (acc : List (List Int)) (w : List Int) (hw : w ≠ []) : putK (kvT acc) (w.map Sum.inl) (V.bl true) = kvT (ad acc w) := by
  unfold ad
  by_cases e : w ∈ acc
  · rw [if_pos (.inr e)]
    unfold putK
    have ha : ((kvT acc).any fun kv => decide (kv.1 = w.map Sum.inl)) = true := by
      rw [valV_any]
      cases q : valV (kvT acc) (w.map Sum.inl) with
      | none => exact absurd e ((kvT_val acc w).mp q)
      | some v => rfl
    rw [if_pos ha]
    unfold kvT
    rw [List.map_map]
    refine List.map_congr_left fun x _ => ?_
    show (if x.map Sum.inl = w.map Sum.inl then (x.map Sum.inl, V.bl true) else (x.map Sum.inl, V.bl true)) = _
    split <;> rfl
  · rw [if_neg (fun z => z.elim hw e), putK_new _ ((kvT_val acc w).mpr e)]
    unfold kvT
    rw [List.map_append]
    rfl
def spRulesI : Sp := fun vs H Q _ => ∃ (a ra : Addr) (T R : List (List Int)) (L : Nat), vs = [.ref a, .ref ra] ∧ TabAt H a T ∧ M11.Tab L T ∧ M12.Fc (2 * L) T.flatten T.length ∧ WordsAt H ra R ∧ (∀ u ∈ R, M11.Steps L u ∧ u.length ≤ 1000) ∧ R.length ≤ 100 ∧ ∀ l ws H', Same H H' → LW L T ws → WordsAt H' l (dueT T (innL T (ws.map wd) L T.length 0) R T.length 0) → Q (.ref l) H'
theorem comp_places {K : PySem.W.Frag} {H : Hp} {a : Addr} {fv : St} {te : TE} {Q : VK} {rs : List Addr} {us : List (List Int)} (f : List Int → List Int) (hrs : H a = some (.lst (rs.map V.ref))) (hrw : TupsAt H rs us) (hz : us.length ≤ 1000)
    (he : ∀ (H2 : Hp) (r : Addr) (u : List Int) (R : VK), u ∈ us → H2 r = some (.tup (intV u)) → (∀ l H3, Same H2 H3 → H3 l = some (.lst (intV (f u))) → R (.ref l) H3) → te (some (.ref r) :: fv) H2 R)
    (hQ : ∀ D H2 qs, Same H H2 → H2 D = none → RowsAt H2 qs (us.map f) → Q (.ref D) (upd H2 D (.lst (qs.map V.ref)))) : CompGo te fv Q (Itl K a) H := by
  have hrl := hrw.1
  refine ⟨fun i m ys H2 => m = rs.length - i ∧ i ≤ rs.length ∧ ∃ qs : List Addr, ys = qs.map V.ref ∧ Same H H2 ∧ RowsAt H2 qs ((us.take i).map f), ⟨rs.length, by simp, Nat.zero_le _, [], rfl, fun _ _ e => e, ⟨by simp, fun i r ns h1 => by simp at h1⟩⟩, ?_⟩
  rintro i m ys H2 ⟨rfl, hi, qs, rfl, s2, hqa⟩
  have hql : qs.length = i := by have := hqa.1; rw [List.length_map, List.length_take] at this; omega
  by_cases hlt : i < rs.length
  · have g1 : rs[i]? = some rs[i] := List.getElem?_eq_getElem hlt
    have hil : i < us.length := by omega
    have g2 : us[i]? = some us[i] := List.getElem?_eq_getElem hil
    have hr := hrw.2 i _ _ g1 g2
    refine .inr ⟨itl_go (SqL.of (s2 _ _ hrs)) i (by rw [List.length_map]; exact hlt), by rw [List.length_map, hql]; exact Nat.lt_of_le_of_lt (show i ≤ 1000 by omega) (by decide), fun x H3 hy => ?_⟩
    obtain ⟨rfl, hx⟩ := itl_yld (SqL.of (s2 _ _ hrs)) i x H3 (by rw [List.length_map]; exact hlt) hy
    rw [List.getElem?_map, g1] at hx
    have ex : V.ref rs[i] = x := Option.some.inj hx
    subst ex
    refine he H3 _ _ _ (List.mem_of_getElem? g2) (s2 _ _ hr) fun l H4 s4 h4 => ?_
    refine ⟨rs.length - (i + 1), by omega, rfl, hlt, qs ++ [l], by rw [List.map_append]; rfl, s2.trans s4, ?_⟩
    have e : (us.take (i + 1)).map f = (us.take i).map f ++ [f us[i]] := by rw [List.take_succ, g2, List.map_append]; rfl
    rw [e]
    exact (hqa.same s4).snoc h4
  · have e : i = rs.length := by omega
    refine .inl ⟨?_, by rw [List.length_map, hql]; exact Nat.le_trans (show i ≤ 1000 by omega) (by decide), fun D hD => ?_⟩
    · have := itl_stop (K := K) (SqL.of (s2 _ _ hrs))
      rw [List.length_map, ← e] at this
      exact this
    · rw [List.take_of_length_le (by omega)] at hqa
      exact hQ D H2 qs s2 hD hqa
theorem ok_inner_rules (T : Txt K mg A) : FnOk P w K mg base CX0 5 A.f_inner_rules A.d_inner_rules ["table", "rules"] spRulesI := by
  have G_inner_numbers : FnOk P w K mg base CX0 4 A.f_inner_numbers A.d_inner_numbers ["table"] spNums := ok_inner_numbers T
  have G_places_of : FnOk P w K mg base CX0 2 A.f_places_of A.d_places_of ["word"] spPlaces := ok_places_of T
  have G_told_by : FnOk P w K mg base CX0 2 A.f_told_by A.d_told_by ["numbers", "table", "room", "places"] spTold := ok_told_by T
  refine T.inner_rules.F.ok sc_inner_rules (fun vs H Q E h => ?_) (fun cdv AA outer s H vs Q E hr h => ?_)
  · obtain ⟨a, ra, TT, R, L, rfl, _⟩ := h
    rfl
  · obtain ⟨a, ra, TT, R, L, rfl, hTa, hT, hF, hRa, hRs, hRl, k⟩ := h
    have hu2 := hu_of hr
    refine ⟨_, (pss_cons (ps_set (i := 2) sc_inner_rules.nd rfl (Or.inl rfl) (pe_call (G_inner_numbers) (hr.mono (by decide)) rfl T.inner_numbers.m T.inner_numbers.F.kp T.inner_numbers.b .nil pass0 (pa_cons (pv 0) pa_nil)))
      (pss_cons (ps_setComp (iy := 3) sc_inner_rules.nd rfl (Or.inl rfl) (fns := []) (ixs := []) (cl := []) rfl (pi_list (pv 1)) (compScope0 (by decide +kernel) (by decide +kernel) rfl (by decide +kernel) rfl) (fun C s H ex => (pe_call (G_places_of) (hr.mono (by decide)) rfl T.places_of.m T.places_of.F.kp T.places_of.b .nil pass0 (pa_cons (pv 0) pa_nil))))
      (pss_cons (ps_set (i := 4) sc_inner_rules.nd rfl (Or.inl rfl) pe_dnewT)
      (pss_cons (ps_for PassesOwn.never rfl (pi_range1 rfl T.z_range (pa_cons (pe_callB call_len_seq rfl T.z_len PySem.boot_len (pa_cons (pv 0) pa_nil)) pa_nil)) (pg_name (i := 5) sc_inner_rules.nd rfl (Or.inl rfl))
        (pss_one (ps_for PassesOwn.never rfl (pi_list (pv 3)) (pg_name (i := 6) sc_inner_rules.nd rfl (Or.inl rfl))
          (pss_cons (ps_set (i := 7) sc_inner_rules.nd rfl (Or.inl rfl) (pe_call (G_told_by) (hr.mono (by decide)) rfl T.told_by.m T.told_by.F.kp T.told_by.b .nil pass0 (pa_cons (pv 2) (pa_cons (pv 0) (pa_cons (pv 5) (pa_cons (pv 6) pa_nil))))))
          (pss_one (ps_cut (ps_if (pt_cmpR op_gt (pe_callB call_len_seq rfl T.z_len PySem.boot_len (pa_cons (pv 7) pa_nil)) pe_int (nomark _))
            (pss_one (ps_dput hu2 (pv 4) (pv 7) pe_bl rfl))
            pss_nil)))))))
      (pss_one (ps_ret (pe_callTy (call_list_dT rfl) rfl T.z_list PyProof.Rows.boot_list (pa_cons (pv 4) pa_nil)))))))), ?_⟩
    have h300 := hT.top
    have h40 := hT.let2
    refine ⟨_, rfl, a, TT, L, rfl, hTa, hT, hF, fun na ws N H1 s1 hLW hNa hN => ?_⟩
    have hk := fun l => k l ws
    generalize innL TT (ws.map wd) L TT.length 0 = J at hN hk
    obtain ⟨rp, hrp, hrt⟩ := hRa.same s1
    refine ⟨_, rfl, ra, rfl, ⟨_, SqL.of hrp⟩, ?_⟩
    refine comp_places plL hrp hrt (by omega) (fun H2 r u R' hu h2 hR => ⟨_, rfl, r, u, L, rfl, h2, (hRs u hu).1, by omega, by have := (hRs u hu).2; omega, fun l H3 s3 _ h3 => hR l H3 s3 h3⟩) (fun wl H2 qs s2 hwl hqs => ?_)
    have s23 : Same H2 (upd H2 wl (.lst (qs.map V.ref))) := Same.upd hwl
    have hw3 : upd H2 wl (.lst (qs.map V.ref)) wl = some (.lst (qs.map V.ref)) := upd_same
    generalize upd H2 wl (.lst (qs.map V.ref)) = H3 at s23 hw3 ⊢
    have hqs3 := hqs.same s23
    have s03 := (s1.trans s2).trans s23
    have hNa3 := hNa.same (s2.trans s23)
    have hTa3 := hTa.same s03
    intro d hd
    have s34 : Same H3 (upd H3 d (.dT [])) := Same.upd hd
    have hd4 : upd H3 d (.dT []) d = some (.dT (kvT (dueT TT J R 0 0))) := upd_same
    generalize upd H3 d (.dT []) = H4 at s34 hd4 ⊢
    obtain ⟨rs, hrs, hrw⟩ := hTa3
    have hlen : ((rs.map V.ref).length : Int) = (TT.length : Int) := by rw [List.length_map, hrw.1]
    refine ⟨_, rfl, a, _, rfl, .inl (SqL.of (s34 _ _ hrs)), (TT.length : Int), by rw [← hlen], by omega, by omega, ?_⟩
    refine for_range (lo := 0) (n := ((TT.length : Int)).toNat) (fun r σ H5 => ∃ v5 v6 v7 : Option V, σ = [some (.ref a), some (.ref ra), some (.ref na), some (.ref wl), some (.ref d), v5, v6, v7] ∧ Same H3 H5 ∧ H5 d = some (.dT (kvT (dueT TT J R r 0)))) ⟨none, none, none, rfl, s34, hd4⟩ ?_ ?_
    · rintro r σ H5 hr ⟨v5, v6, v7, rfl, s5, hd5⟩
      have hr' : r < TT.length := by omega
      have e0 : (0 : Int) + (r : Int) = (r : Int) := by omega
      refine ⟨_, rfl, wl, rfl, ⟨_, SqL.of (s5 _ _ hw3)⟩, ?_⟩
      refine for_list (K := K) (a := wl) (xs := qs.map V.ref) (fun n σ H6 => ∃ v6 v7 : Option V, σ = [some (.ref a), some (.ref ra), some (.ref na), some (.ref wl), some (.ref d), some (.int (0 + (r : Int))), v6, v7] ∧ Same H3 H6 ∧ H6 d = some (.dT (kvT (dueT TT J R r n)))) ⟨v6, v7, rfl, s5, hd5⟩ (fun n σ H6 _ ⟨_, _, _, s, _⟩ => SqL.of (s _ _ hw3)) ?_ ?_
      · rintro n y σ H6 hn ⟨v6, v7, rfl, s6, hd6⟩
        rw [List.getElem?_map] at hn
        have hnl : n < qs.length := by
          cases e : qs[n]? with
          | none => rw [e] at hn; cases hn
          | some r => exact (List.getElem?_eq_some_iff.mp e).1
        have g1 : qs[n]? = some qs[n] := List.getElem?_eq_getElem hnl
        rw [g1] at hn
        have ey : V.ref qs[n] = y := Option.some.inj hn
        subst ey
        generalize qs[n] = pp at g1
        have hql : qs.length = R.length := by rw [hqs3.1, List.length_map]
        have g2 : R[n]? = some (R[n]'(by omega)) := List.getElem?_eq_getElem (by omega)
        generalize R[n]'(by omega) = u at g2
        have hpp := hqs3.2 n pp (plL u) g1 (by rw [List.getElem?_map, g2]; rfl)
        obtain ⟨hus, hul⟩ := hRs u (List.mem_of_getElem? g2)
        rw [dueT_succ g2]
        have hdl := due_len TT J R r n
        have hmul : (r + 1) * R.length ≤ 301 * 100 := Nat.mul_le_mul (by omega) hRl
        refine ⟨_, rfl, _, rfl, _, rfl, _, rfl, na, a, pp, TT, N, J, L, r, u, congrArg (fun z => [V.ref na, V.ref a, V.int z, V.ref pp]) e0, hNa3.same s6, hN, (⟨rs, s6 _ _ hrs, hrw.same s6⟩ : TabAt H6 a TT), hT, hr', s6 _ _ hpp, hus, by omega, fun lt H7 s7 h7 => ?_⟩
        have hd7 := s7 _ _ hd6
        have s37 := s6.trans s7
        generalize dueT TT J R r n = acc at hd7 hdl
        generalize thinL (tell TT J u r) = x at h7
        refine ⟨_, ?_, fun _ _ h => h⟩
        refine ⟨_, rfl, lt, _, rfl, .inr (SqT.of h7), _, _, rfl, rfl, _, rfl, ?_⟩
        by_cases hx : x = []
        · refine ite2 (fun h => ?_) (fun _ => ?_)
          · have h' : (0 : Int) < ((intV x).length : Int) := of_decide_eq_true h
            rw [hx] at h'
            exact absurd h' (by decide)
          · have ea : ad acc x = acc := by unfold ad; rw [if_pos (.inl hx)]
            rw [ea]
            exact ⟨_, _, rfl, s37, hd7⟩
        · refine ite2 (fun _ => ?_) (fun h => ?_)
          · refine ⟨_, rfl, _, rfl, d, _, rfl, DPut.t (k := x.map Sum.inl) hd7 (by rw [kv_ints]; exact h7) ?_, ?_⟩
            · unfold kvT
              rw [List.length_map]
              exact Nat.lt_of_le_of_lt (show acc.length ≤ 40000 by omega) (by decide)
            · rw [kvT_put acc x hx]
              exact ⟨_, _, rfl, fun b o e => by rw [upd_ne (ne_of_none e hd)]; exact s37 _ _ e, upd_same⟩
          · refine absurd (decide_eq_true ?_) h
            show (0 : Int) < ((intV x).length : Int)
            rw [ints_len]
            have := List.length_pos_iff.mpr hx
            omega
      · rintro σ H6 ⟨v6, v7, rfl, s6, hd6⟩
        have hql : qs.length = R.length := by rw [hqs3.1, List.length_map]
        rw [List.length_map, hql, dueT_row] at hd6
        exact ⟨_, _, _, rfl, s6, hd6⟩
    · rintro σ H5 ⟨v5, v6, v7, rfl, s5, hd5⟩
      rw [Int.toNat_natCast] at hd5
      refine ⟨_, rfl, d, _, rfl, hd5, fun l ps hl hpl hps => ?_⟩
      have hkl : (kvT (dueT TT J R TT.length 0)).length = (dueT TT J R TT.length 0).length := by unfold kvT; rw [List.length_map]
      refine hk l _ ((s03.trans s5).trans (Same.upd hl)) hLW ⟨ps, upd_same, by rw [hpl, hkl], fun i p w h1 h2 => ?_⟩
      have := hps i p (w.map Sum.inl, V.bl true) h1 (by unfold kvT; rw [List.getElem?_map, h2]; rfl)
      rw [kv_ints] at this
      exact (Same.upd hl) _ _ this
def spRounds : Sp := fun vs H Q _ => ∃ (ta pa wa : Addr) (rows : List (List Int)) (p : Nat) (w : List Int), vs = [.ref ta, .ref pa, .ref wa] ∧ TabAt H ta rows ∧ (∀ r ∈ rows, M11.Pm p r) ∧ p ≤ 6 ∧ H pa = some (.lst (intV (rng 0 p))) ∧ H wa = some (.tup (intV w)) ∧ M11.Steps rows.length w ∧ rows.length ≤ 40 ∧ ∀ n : Nat, 1 ≤ n → n ≤ 60 → ∀ H', Same H H' → Q (.int (n : Int)) H'
def spRules : Sp := fun vs H Q _ => ∃ (ta : Addr) (rows : List (List Int)) (p : Nat) (z : Int), vs = [.ref ta, .int rows.length, .int z, .int 36] ∧ TabAt H ta rows ∧ 1 ≤ rows.length ∧ rows.length ≤ 3 ∧ (∀ r ∈ rows, M11.Pm p r) ∧ p ≤ 6 ∧ ∀ l R H', Same H H' → WordsAt H' l R → (∀ u ∈ R, M11.Steps rows.length u ∧ u.length ≤ 36) → R.length ≤ 40 → Q (.ref l) H'
def spToldL : Sp := fun vs H Q _ => ∃ (a la wa : Addr) (T : List (List Int)) (J : List (Nat × Nat)) (L r : Nat) (w : List Int), vs = [.ref a, .ref la, .int r, .ref wa] ∧ TabAt H a T ∧ M11.Tab L T ∧ WordsAt H la (J.map litI) ∧ J.Nodup ∧ r < T.length ∧ H wa = some (.tup (intV w)) ∧ M11.Steps L w ∧ w.length ≤ 1000 ∧ ∀ l H', Same H H' → H' l = some (.tup (intV (thinL (tell T J w r)))) → Q (.ref l) H'
theorem fw_lt {rows : List (List Int)} {p : Nat} (hpm : ∀ r ∈ rows, M11.Pm p r) : ∀ {w : List Int} {x : Nat}, M11.Steps rows.length w → x < p → w.foldl (sf rows) x < p
  | [], x, _, hx => hx
  | s :: w, x, hw, hx => by
    obtain ⟨hs, hw'⟩ := steps_cons hw
    exact fw_lt hpm (w := w) hw' (sf_ok hpm hx hs.1 hs.2).1
theorem fw_inj {rows : List (List Int)} {p : Nat} (hpm : ∀ r ∈ rows, M11.Pm p r) : ∀ {w : List Int} {x y : Nat}, M11.Steps rows.length w → x < p → y < p → w.foldl (sf rows) x = w.foldl (sf rows) y → x = y
  | [], x, y, _, _, _, e => e
  | s :: w, x, y, hw, hx, hy, e => by
    obtain ⟨hs, hw'⟩ := steps_cons hw
    have a1 := sf_ok hpm hx hs.1 hs.2
    have a2 := sf_ok hpm hy hs.1 hs.2
    have := fw_inj hpm (w := w) hw' a1.1 a2.1 e
    rw [← a1.2, ← a2.2, this]
def spotsL (f : Nat → Nat) (p c : Nat) : List Int := (List.range p).map fun i => ((M17.it f c i : Nat) : Int)
theorem spots_len (f : Nat → Nat) (p c : Nat) : (spotsL f p c).length = p := by unfold spotsL; rw [List.length_map, List.length_range]
theorem spots_at {f : Nat → Nat} {p c i : Nat} {z : Int} (h : (spotsL f p c)[i]? = some z) : i < p ∧ z = ((M17.it f c i : Nat) : Int) := by
  have hi : i < p := by
    have := (List.getElem?_eq_some_iff.mp h).1
    rw [spots_len] at this
    exact this
  unfold spotsL at h
  rw [List.getElem?_map, List.getElem?_range hi] at h
  exact ⟨hi, (Option.some.inj h).symm⟩
theorem spots_zero (f : Nat → Nat) (p : Nat) : rng 0 p = spotsL f p 0 := by
  unfold rng spotsL
  refine List.map_congr_left fun i _ => ?_
  show (0 : Int) + (i : Int) = (i : Int)
  omega
theorem spots_step (f : Nat → Nat) (p c : Nat) : ((intV (spotsL f p c)).map fun v => match v with | .int z => V.int ((f z.toNat : Nat) : Int) | v => v) = intV (spotsL f p (c + 1)) := by
  unfold intV spotsL
  rw [List.map_map, List.map_map, List.map_map]
  refine List.map_congr_left fun i _ => ?_
  show V.int ((f ((M17.it f c i : Nat) : Int).toNat : Nat) : Int) = V.int ((f (M17.it f c i) : Nat) : Int)
  rw [Int.toNat_natCast]
theorem spots_sixty {f : Nat → Nat} {p : Nat} (h : ∀ x, x < p → M17.it f 60 x = x) : spotsL f p 60 = spotsL f p 0 := by
  unfold spotsL
  refine List.map_congr_left fun i hi => ?_
  rw [h i (List.mem_range.mp hi)]
  rfl
theorem ok__law_rounds (T : Txt K mg A) : FnOk P w K mg base CX0 2 A.f__law_rounds A.d__law_rounds ["_law_turns", "_law_points", "_law_word"] spRounds := by
  have G__law_moved : FnOk P w K mg base CX0 1 A.f__law_moved A.d__law_moved ["_law_turns", "_law_point", "_law_word"] spMoved := ok__law_moved T
  refine T._law_rounds.F.ok sc__law_rounds (fun vs H Q E h => ?_) (fun cdv AA outer s H vs Q E hr h => ?_)
  · obtain ⟨ta, pa, wa, rows, p, w, rfl, _⟩ := h
    rfl
  · obtain ⟨ta, pa, wa, rows, p, w, rfl, hTa, hpm, hp6, hpa, hwa, hst, hrl, k⟩ := h
    have hu := Nat.lt_of_succ_lt (hu_of hr)
    refine ⟨_, (pss_cons (ps_set (i := 3) sc__law_rounds.nd rfl (Or.inl rfl) pe_int)
      (pss_cons (ps_setComp (iy := 4) sc__law_rounds.nd rfl (Or.inl rfl) (fns := ["_law_word", "_law_turns"]) (ixs := [2, 0]) (cl := _) rfl (pi_list (pv 1)) (compScope2 rfl rfl rfl (by decide +kernel) rfl (by decide +kernel) rfl (by decide +kernel) (by decide +kernel) rfl rfl rfl rfl rfl rfl rfl) (fun C s H ex => (pe_call (G__law_moved) (hr.mono (by decide)) rfl T._law_moved.m T._law_moved.F.kp T._law_moved.b .nil pass0 (pa_cons (pv 2) (pa_cons (pv 0) (pa_cons (pv 1) pa_nil))))))
      (pss_cons (ps_cut (ps_while PassesOwn.never (pt_cmpR (op_neLI hu) (pv 4) (pv 1) (nomark _))
        (pss_cons (ps_setComp (iy := 4) sc__law_rounds.nd rfl (Or.inl rfl) (fns := ["_law_word", "_law_turns"]) (ixs := [2, 0]) (cl := _) rfl (pi_list (pv 4)) (compScope2 rfl rfl rfl (by decide +kernel) rfl (by decide +kernel) rfl (by decide +kernel) (by decide +kernel) rfl rfl rfl rfl rfl rfl rfl) (fun C s H ex => (pe_call (G__law_moved) (hr.mono (by decide)) rfl T._law_moved.m T._law_moved.F.kp T._law_moved.b .nil pass0 (pa_cons (pv 2) (pa_cons (pv 0) (pa_cons (pv 1) pa_nil))))))
        (pss_one (ps_set (i := 3) sc__law_rounds.nd rfl (Or.inl rfl) (pe_op op_add (pv 3) pe_int))))))
      (pss_one (ps_ret (pv 3)))))), ?_⟩
    obtain ⟨f, hf⟩ : ∃ f : Nat → Nat, ∀ x, w.foldl (sf rows) x = f x := ⟨fun x => w.foldl (sf rows) x, fun _ => rfl⟩
    have hf1 : ∀ x, x < p → f x < p := fun x hx => by rw [← hf]; exact fw_lt hpm hst hx
    have hf2 : ∀ x y, x < p → y < p → f x = f y → x = y := fun x y hx hy e => by rw [← hf, ← hf] at e; exact fw_inj hpm hst hx hy e
    have h60 := spots_sixty (M17.sixty hp6 hf1 hf2)
    have hit := fun (n : Nat) (x : Nat) (hx : x < p) => M17.it_lt hf1 n x hx
    rw [spots_zero f p] at hpa
    refine ⟨_, rfl, pa, rfl, ⟨_, SqL.of hpa⟩, ?_⟩
    refine comp_pure (intV (spotsL f p 0)) (fun v => match v with | .int z => .int ((f z.toNat : Nat) : Int) | v => v) (itl_go (SqL.of hpa)) (itl_yld (SqL.of hpa)) (itl_stop (SqL.of hpa)) (by rw [ints_len, spots_len]; exact Nat.le_trans hp6 (by decide)) (fun i x hx R hR => ?_) (fun sl hsl => ?_)
    · obtain ⟨z, rfl, hz⟩ := ints_of_at hx
      obtain ⟨hi, rfl⟩ := spots_at hz
      have hR' : R (.int ((w.foldl (sf rows) (M17.it f 0 i) : Nat) : Int)) H := by
        have h1 : R (V.int ((f ((M17.it f 0 i : Nat) : Int).toNat : Nat) : Int)) H := hR
        rw [Int.toNat_natCast] at h1
        rw [hf]
        exact h1
      exact ⟨_, rfl, _, rfl, _, rfl, ta, wa, rows, p, M17.it f 0 i, w, rfl, hTa, hpm, hit 0 i hi, by omega, hwa, hst, by omega, hR'⟩
    rw [spots_step]
    have s1 : Same H (upd H sl (.lst (intV (spotsL f p 1)))) := Same.upd hsl
    have h1 : upd H sl (.lst (intV (spotsL f p 1))) sl = some (.lst (intV (spotsL f p 1))) := upd_same
    generalize upd H sl (.lst (intV (spotsL f p 1))) = H1 at s1 h1 ⊢
    refine ⟨fun σ' H2 => ∃ (sl : Addr) (c : Nat), σ' = [some (.ref ta), some (.ref pa), some (.ref wa), some (.int (c : Int)), some (.ref sl)] ∧ Same H H2 ∧ 1 ≤ c ∧ c ≤ 60, ?_, ?_⟩
    · refine ⟨fun m σ H2 => ∃ (sl : Addr) (c : Nat), m = 60 - c ∧ σ = [some (.ref ta), some (.ref pa), some (.ref wa), some (.int (c : Int)), some (.ref sl)] ∧ Same H H2 ∧ H2 sl = some (.lst (intV (spotsL f p c))) ∧ 1 ≤ c ∧ c ≤ 60, ⟨_, sl, 1, rfl, rfl, s1, h1, Nat.le_refl _, by omega⟩, ?_⟩
      rintro m σ H2 ⟨sl, c, rfl, rfl, s2, h2, hc1, hc2⟩
      refine ⟨_, rfl, _, rfl, sl, pa, _, _, rfl, rfl, h2, s2 _ _ hpa, _, rfl, ?_⟩
      by_cases e : spotsL f p c = spotsL f p 0
      · exact iteNS e ⟨sl, c, rfl, s2, hc1, hc2⟩
      · refine ite2 (fun _ => ?_) (fun h => absurd (by rw [decide_eq_false e]; rfl) h)
        have hc3 : c < 60 := by
          rcases Nat.lt_or_ge c 60 with q | q
          · exact q
          · exact absurd (by rw [show c = 60 by omega]; exact h60) e
        refine ⟨_, fun _ _ h => h, ?_⟩
        refine ⟨_, rfl, sl, rfl, ⟨_, SqL.of h2⟩, ?_⟩
        refine comp_pure (intV (spotsL f p c)) (fun v => match v with | .int z => .int ((f z.toNat : Nat) : Int) | v => v) (itl_go (SqL.of h2)) (itl_yld (SqL.of h2)) (itl_stop (SqL.of h2)) (by rw [ints_len, spots_len]; exact Nat.le_trans hp6 (by decide)) (fun i x hx R hR => ?_) (fun s3 hs3 => ?_)
        · obtain ⟨z, rfl, hz⟩ := ints_of_at hx
          obtain ⟨hi, rfl⟩ := spots_at hz
          have hR' : R (.int ((w.foldl (sf rows) (M17.it f c i) : Nat) : Int)) H2 := by
            have h1 : R (V.int ((f ((M17.it f c i : Nat) : Int).toNat : Nat) : Int)) H2 := hR
            rw [Int.toNat_natCast] at h1
            rw [hf]
            exact h1
          exact ⟨_, rfl, _, rfl, _, rfl, ta, wa, rows, p, M17.it f c i, w, rfl, hTa.same s2, hpm, hit c i hi, by omega, s2 _ _ hwa, hst, by omega, hR'⟩
        rw [spots_step]
        refine ⟨_, rfl, _, _, rfl, rfl, 60 - (c + 1), by omega, s3, c + 1, rfl, ?_, s2.trans (Same.upd hs3), upd_same, by omega, by omega⟩
        rw [show ((c + 1 : Nat) : Int) = (c : Int) + 1 by omega]
        rfl
    rintro σ' H2 ⟨sl, c, rfl, s2, hc1, hc2⟩
    exact ⟨_, rfl, k c hc1 hc2 H2 s2⟩
theorem pos_is {J : List (Nat × Nat)} {c : Nat × Nat} {i : Nat} (hn : J.Nodup) (h : J[i]? = some c) : pos J c = i + 1 := by
  have hm := List.mem_of_getElem? h
  obtain ⟨h1, h2⟩ := pos_at hm
  have hl := (List.getElem?_eq_some_iff.mp h).1
  have := (List.getElem?_inj hl hn).mp (h.trans h1.symm)
  omega
theorem lit_mem {J : List (Nat × Nat)} {r m : Nat} : [(r : Int), ((m + 1 : Nat) : Int)] ∈ J.map litI ↔ (r, m) ∈ J := by
  constructor
  · intro h
    obtain ⟨c, hc, e⟩ := List.mem_map.mp h
    obtain ⟨a, b⟩ := c
    have e' : [(a : Int), ((b + 1 : Nat) : Int)] = [(r : Int), ((m + 1 : Nat) : Int)] := e
    injection e' with e1 e2
    injection e2 with e2 _
    have h1 : a = r := by omega
    have h2 : b = m := by omega
    rw [← h1, ← h2]
    exact hc
  · intro h
    exact List.mem_map.mpr ⟨_, h, rfl⟩
theorem lit_at {J : List (Nat × Nat)} {r m i : Nat} (h : (J.map litI)[i]? = some [(r : Int), ((m + 1 : Nat) : Int)]) : J[i]? = some (r, m) := by
  rw [List.getElem?_map] at h
  cases q : J[i]? with
  | none => rw [q] at h; cases h
  | some c =>
    rw [q] at h
    obtain ⟨a, b⟩ := c
    have e' : [(a : Int), ((b + 1 : Nat) : Int)] = [(r : Int), ((m + 1 : Nat) : Int)] := Option.some.inj h
    injection e' with e1 e2
    injection e2 with e2 _
    rw [show a = r by omega, show b = m by omega]
theorem ok__law_told (T : Txt K mg A) : FnOk P w K mg base CX0 2 A.f__law_told A.d__law_told ["_law_table", "_law_letters", "_law_room", "_law_word"] spToldL := by
  have G__law_thin : FnOk P w K mg base CX0 1 A.f__law_thin A.d__law_thin ["_law_word"] spThin := ok__law_thin T
  have G__law_led : FnOk P w K mg base CX0 1 A.f__law_led A.d__law_led ["_law_table", "_law_room", "_law_word"] spLedL := ok__law_led T
  refine T._law_told.F.ok sc__law_told (fun vs H Q E h => ?_) (fun cdv AA outer s H vs Q E hr h => ?_)
  · obtain ⟨a, la, wa, TT, J, L, r, w, rfl, _⟩ := h
    rfl
  · obtain ⟨a, la, wa, TT, J, L, r, w, rfl, hTa, hT, hJa, hJn, hr0, hwa, hst, hlen, k⟩ := h
    have hu2 := hu_of hr
    refine ⟨_, (pss_cons (ps_set (i := 4) sc__law_told.nd rfl (Or.inl rfl) (pe_lst pa_nil))
      (pss_cons (ps_for PassesOwn.never rfl (pi_tup (pv 3)) (pg_name (i := 5) sc__law_told.nd rfl (Or.inl rfl))
        (pss_cons (ps_set (i := 6) sc__law_told.nd rfl (Or.inl rfl) (pe_call (G__law_led) (hr.mono (by decide)) rfl T._law_led.m T._law_led.F.kp T._law_led.b .nil pass0 (pa_cons (pv 0) (pa_cons (pv 2) (pa_cons (pe_tup (pa_cons (pv 5) pa_nil)) pa_nil)))))
        (pss_cons (ps_cut (ps_if (PW.pt (pw_and (pt_cmpR op_gt (pv 5) pe_int (nomark _)) (pw_and1 (pt_cmpR (op_IN_lt hu2) (pe_tup (pa_cons (pv 2) (pa_cons (pv 5) pa_nil))) (pv 1) rfl))))
          (pss_one (ps_expr (pe_bm PySem.F.plainAttrs_list PySem.F.slot_list_append PySem.F.type_list_append mt_append (pv 4) (pa_cons (pe_op op_add (pe_bm PySem.F.plainAttrs_list PySem.F.slot_list_index PySem.F.type_list_index (mt_index_lt hu2) (pv 1) (pa_cons (pe_tup (pa_cons (pv 2) (pa_cons (pv 5) pa_nil))) pa_nil)) pe_int) pa_nil))))
          pss_nil))
        (pss_cons (ps_cut (ps_if (PW.pt (pw_and (pt_cmpR op_lt (pv 5) pe_int (nomark _)) (pw_and1 (pt_cmpR (op_IN_lt hu2) (pe_tup (pa_cons (pv 6) (pa_cons (pe_un un_neg (pv 5)) pa_nil))) (pv 1) rfl))))
          (pss_one (ps_expr (pe_bm PySem.F.plainAttrs_list PySem.F.slot_list_append PySem.F.type_list_append mt_append (pv 4) (pa_cons (pe_op op_sub (pe_un un_neg pe_int) (pe_bm PySem.F.plainAttrs_list PySem.F.slot_list_index PySem.F.type_list_index (mt_index_lt hu2) (pv 1) (pa_cons (pe_tup (pa_cons (pv 6) (pa_cons (pe_un un_neg (pv 5)) pa_nil))) pa_nil))) pa_nil))))
          pss_nil))
        (pss_one (ps_set (i := 2) sc__law_told.nd rfl (Or.inl rfl) (pv 6)))))))
      (pss_one (ps_ret (pe_call (G__law_thin) (hr.mono (by decide)) rfl T._law_thin.m T._law_thin.F.kp T._law_thin.b .nil pass0 (pa_cons (pv 4) pa_nil)))))), ?_⟩
    refine ⟨Nat.zero_le _, fun lt hlt => ?_⟩
    have s0 : Same H (upd H lt (.lst [])) := Same.upd hlt
    have h0 : upd H lt (.lst []) lt = some (.lst (intV (tell TT J (w.take 0) r))) := upd_same
    generalize upd H lt (.lst []) = H0 at s0 h0 ⊢
    refine ⟨_, rfl, wa, rfl, ⟨_, SqT.of (s0 _ _ hwa)⟩, ?_⟩
    refine for_tup (K := K) (a := wa) (xs := intV w) (fun n σ H2 => ∃ v5 v6 : Option V, σ = [some (.ref a), some (.ref la), some (.int ((M11.walk TT (w.take n) r : Nat) : Int)), some (.ref wa), some (.ref lt), v5, v6] ∧ Same H H2 ∧ H2 lt = some (.lst (intV (tell TT J (w.take n) r)))) ⟨none, none, rfl, s0, h0⟩ (fun n σ H2 _ ⟨_, _, _, s, _⟩ => SqT.of (s _ _ hwa)) ?_ ?_
    · rintro n y σ H2 hn ⟨v5, v6, rfl, s2, h2⟩
      obtain ⟨z, rfl, hz⟩ := ints_of_at hn
      have hs := hst z (List.mem_of_getElem? hz)
      have hk := M11.pl_lt hs
      have hrl := M11.walk_lt hT (fun s hs => hst s (List.mem_of_mem_take hs) : M11.Steps L (w.take n)) hr0
      have htl := tell_len TT J (w.take n) r
      rw [List.length_take] at htl
      rw [tell_take hz, walk_take hz]
      generalize M11.walk TT (w.take n) r = q at hrl
      generalize tell TT J (w.take n) r = told at h2 htl
      refine ⟨_, rfl, _, rfl, _, rfl, by show 1 ≤ sizeLine; decide, fun q1 hq1 => ?_⟩
      have s23 : Same H2 (upd H2 q1 (.tup [.int z])) := Same.upd hq1
      have h3 : upd H2 q1 (.tup [.int z]) q1 = some (.tup (intV [z])) := upd_same
      generalize upd H2 q1 (.tup [.int z]) = H3 at s23 h3 ⊢
      have s3 := s2.trans s23
      refine ⟨a, q1, TT, L, q, [z], rfl, hTa.same s3, hT, hrl, h3, fun s hs' => by rw [List.mem_singleton.mp hs']; exact hs, ?_⟩
      have ew : M11.walk TT [z] q = M11.nx TT (M11.pl z) q := rfl
      rw [ew]
      have hot := hT.lt q (M11.pl z) hrl hk
      have hlt3 := s23 _ _ h2
      have hlsz : told.length < sizeLine := Nat.lt_of_le_of_lt (show told.length ≤ 1000 by omega) (by decide)
      have app : ∀ (H4 : Hp) (v : Int), Same H H4 → H4 lt = some (.lst (intV told)) → num TT J q (M11.pl z) = v → v ≠ 0 → Same H (upd H4 lt (.lst (intV told ++ [V.int v]))) ∧ upd H4 lt (.lst (intV told ++ [V.int v])) lt = some (.lst (intV (told ++ (if num TT J q (M11.pl z) = 0 then [] else [num TT J q (M11.pl z)])))) := fun H4 v s4 h4 hv hv0 => by
        refine ⟨fun b o e => by rw [upd_ne (ne_of_none e hlt)]; exact s4 _ _ e, ?_⟩
        rw [upd_same, hv, if_neg hv0, ints_app]
        rfl
      by_cases hpos : 0 < z
      · obtain ⟨m, rfl⟩ : ∃ m : Nat, z = ((m + 1 : Nat) : Int) := ⟨z.natAbs - 1, by omega⟩
        have hp : M11.pl ((m + 1 : Nat) : Int) = 2 * m := by
          unfold M11.pl
          rw [if_pos (by omega)]
          omega
        have hn' : num TT J q (2 * m) = (pos J (q, m) : Int) := by
          unfold num
          rw [if_pos (by omega), show 2 * m / 2 = m by omega]
        refine ⟨fun σ' H' => σ' = [some (.ref a), some (.ref la), some (.int ((q : Nat) : Int)), some (.ref wa), some (.ref lt), some (.int ((m + 1 : Nat) : Int)), some (.int ((M11.nx TT (M11.pl ((m + 1 : Nat) : Int)) q : Nat) : Int))] ∧ Same H H' ∧ H' lt = some (.lst (intV (told ++ (if num TT J q (M11.pl ((m + 1 : Nat) : Int)) = 0 then [] else [num TT J q (M11.pl ((m + 1 : Nat) : Int))])))), ?_, ?_⟩
        · refine ⟨_, rfl, _, _, rfl, rfl, _, rfl, ite2 (fun _ => ?_) (fun h => absurd (decide_eq_true hpos) h)⟩
          refine ⟨_, rfl, _, rfl, by show 2 ≤ sizeLine; decide, fun q2 hq2 => ?_⟩
          have s34 : Same H3 (upd H3 q2 (.tup [.int (q : Int), .int ((m + 1 : Nat) : Int)])) := Same.upd hq2
          have h4 : upd H3 q2 (.tup [.int (q : Int), .int ((m + 1 : Nat) : Int)]) q2 = some (.tup (intV [(q : Int), ((m + 1 : Nat) : Int)])) := upd_same
          generalize upd H3 q2 (.tup [.int (q : Int), .int ((m + 1 : Nat) : Int)]) = H4 at s34 h4 ⊢
          have s4 := s3.trans s34
          refine ⟨_, rfl, q2, la, _, _, rfl, rfl, h4, hJa.same s4, _, rfl, ?_⟩
          by_cases hj : (q, m) ∈ J
          · rw [decide_eq_true (lit_mem.mpr hj)]
            refine iteT ?_
            obtain ⟨jp, hjp, hjt⟩ := hJa.same s4
            refine ⟨_, rfl, .inl ⟨rfl, _, SqL.of (s34 _ _ hlt3)⟩, _, rfl, .inl ⟨rfl, _, SqL.of hjp⟩, _, rfl, _, rfl, by show 2 ≤ sizeLine; decide, fun q3 hq3 => ?_⟩
            have s45 : Same H4 (upd H4 q3 (.tup [.int (q : Int), .int ((m + 1 : Nat) : Int)])) := Same.upd hq3
            have h5 : upd H4 q3 (.tup [.int (q : Int), .int ((m + 1 : Nat) : Int)]) q3 = some (.tup (intV [(q : Int), ((m + 1 : Nat) : Int)])) := upd_same
            generalize upd H4 q3 (.tup [.int (q : Int), .int ((m + 1 : Nat) : Int)]) = H5 at s45 h5 ⊢
            have s5 := s4.trans s45
            have hlt5 := s45 _ _ (s34 _ _ hlt3)
            refine ⟨la, q3, _, _, rfl, rfl, h5, hJa.same s5, lit_mem.mpr hj, fun i hi1 _ => ?_⟩
            have hpi := pos_is hJn (lit_at hi1)
            refine ⟨_, _, rfl, rfl, lt, _, _, rfl, rfl, hlt5, by rw [ints_len]; exact hlsz, rfl, ?_⟩
            exact app H5 ((i : Int) + 1) s5 hlt5 (by rw [hp, hn', hpi]; omega) (by omega)
          · rw [decide_eq_false (fun z => hj (lit_mem.mp z))]
            refine iteF ⟨rfl, s4, ?_⟩
            have h00 : num TT J q (M11.pl ((m + 1 : Nat) : Int)) = 0 := by
              rw [hp, hn']
              unfold pos
              rw [if_neg hj]
              rfl
            rw [if_pos h00, List.append_nil]
            exact s34 _ _ hlt3
        rintro σ' H5 ⟨rfl, s5, h5⟩
        refine ⟨_, ?_, fun _ _ h => h⟩
        refine ⟨_, rfl, _, _, rfl, rfl, _, rfl, ite2 (fun h => ?_) (fun _ => iteF ?_)⟩
        · have h' : ((m + 1 : Nat) : Int) < 0 := of_decide_eq_true h
          omega
        exact ⟨_, rfl, _, _, rfl, s5, h5⟩
      · obtain ⟨m, rfl⟩ : ∃ m : Nat, z = -((m + 1 : Nat) : Int) := ⟨z.natAbs - 1, by omega⟩
        have hp : M11.pl (-((m + 1 : Nat) : Int)) = 2 * m + 1 := by
          unfold M11.pl
          rw [if_neg (by omega)]
          omega
        have hn' : num TT J q (2 * m + 1) = -(pos J (M11.nx TT (2 * m + 1) q, m) : Int) := by
          unfold num
          rw [if_neg (by omega), show (2 * m + 1) / 2 = m by omega]
        refine ⟨fun σ' H' => σ' = [some (.ref a), some (.ref la), some (.int ((q : Nat) : Int)), some (.ref wa), some (.ref lt), some (.int (-((m + 1 : Nat) : Int))), some (.int ((M11.nx TT (M11.pl (-((m + 1 : Nat) : Int))) q : Nat) : Int))] ∧ H' = H3, ?_, ?_⟩
        · exact ⟨_, rfl, _, _, rfl, rfl, _, rfl, ite2 (fun h => absurd (of_decide_eq_true h) hpos) (fun _ => iteF ⟨rfl, rfl⟩)⟩
        rintro σ' H3' ⟨rfl, rfl⟩
        rw [hp] at app hot ⊢
        generalize hgo : M11.nx TT (2 * m + 1) q = o at hn' hot
        refine ⟨fun σ' H' => σ' = [some (.ref a), some (.ref la), some (.int ((q : Nat) : Int)), some (.ref wa), some (.ref lt), some (.int (-((m + 1 : Nat) : Int))), some (.int ((o : Nat) : Int))] ∧ Same H H' ∧ H' lt = some (.lst (intV (told ++ (if num TT J q (2 * m + 1) = 0 then [] else [num TT J q (2 * m + 1)])))), ?_, ?_⟩
        · refine ⟨_, rfl, _, _, rfl, rfl, _, rfl, ite2 (fun _ => ?_) (fun h => absurd (decide_eq_true (show (-((m + 1 : Nat) : Int)) < 0 by omega)) h)⟩
          refine ⟨_, rfl, _, rfl, _, rfl, by show 2 ≤ sizeLine; decide, fun q2 hq2 => ?_⟩
          have s34 := Same.upd (o := .tup [.int (o : Int), .int (-(-((m + 1 : Nat) : Int)))]) hq2
          have h4 : upd H3' q2 (.tup [.int (o : Int), .int (-(-((m + 1 : Nat) : Int)))]) q2 = some (.tup (intV [(o : Int), ((m + 1 : Nat) : Int)])) := by
            rw [upd_same, Int.neg_neg]
            rfl
          generalize upd H3' q2 (.tup [.int (o : Int), .int (-(-((m + 1 : Nat) : Int)))]) = H4 at s34 h4 ⊢
          have s4 := s3.trans s34
          refine ⟨_, rfl, q2, la, _, _, rfl, rfl, h4, hJa.same s4, _, rfl, ?_⟩
          by_cases hj : (o, m) ∈ J
          · rw [decide_eq_true (lit_mem.mpr hj)]
            refine iteT ?_
            obtain ⟨jp, hjp, hjt⟩ := hJa.same s4
            refine ⟨_, rfl, .inl ⟨rfl, _, SqL.of (s34 _ _ hlt3)⟩, _, rfl, _, rfl, .inl ⟨rfl, _, SqL.of hjp⟩, _, rfl, _, rfl, _, rfl, by show 2 ≤ sizeLine; decide, fun q3 hq3 => ?_⟩
            have s45 := Same.upd (o := .tup [.int (o : Int), .int (-(-((m + 1 : Nat) : Int)))]) hq3
            have h5 : upd H4 q3 (.tup [.int (o : Int), .int (-(-((m + 1 : Nat) : Int)))]) q3 = some (.tup (intV [(o : Int), ((m + 1 : Nat) : Int)])) := by
              rw [upd_same, Int.neg_neg]
              rfl
            generalize upd H4 q3 (.tup [.int (o : Int), .int (-(-((m + 1 : Nat) : Int)))]) = H5 at s45 h5 ⊢
            have s5 := s4.trans s45
            have hlt5 := s45 _ _ (s34 _ _ hlt3)
            refine ⟨la, q3, _, _, rfl, rfl, h5, hJa.same s5, lit_mem.mpr hj, fun i hi1 _ => ?_⟩
            have hpi := pos_is hJn (lit_at hi1)
            refine ⟨_, _, rfl, rfl, lt, _, _, rfl, rfl, hlt5, by rw [ints_len]; exact hlsz, rfl, ?_⟩
            exact app H5 (-1 - (i : Int)) s5 hlt5 (by rw [hn', hpi]; omega) (by omega)
          · rw [decide_eq_false (fun z => hj (lit_mem.mp z))]
            refine iteF ⟨rfl, s4, ?_⟩
            have h00 : num TT J q (2 * m + 1) = 0 := by
              rw [hn']
              unfold pos
              rw [if_neg hj]
              rfl
            rw [if_pos h00, List.append_nil]
            exact s34 _ _ hlt3
        rintro σ' H5 ⟨rfl, s5, h5⟩
        exact ⟨_, rfl, _, _, rfl, s5, h5⟩
    · rintro σ H2 ⟨v5, v6, rfl, s2, h2⟩
      rw [ints_len, List.take_length] at h2
      have htl := tell_len TT J w r
      exact ⟨_, rfl, lt, _, rfl, .inr h2, by omega, fun l H3 s3 h3 => k l H3 (s2.trans s3) h3⟩
theorem comp_tupR {H1 : Hp} {fv : St} {te : TE} {Q : VK} {n : Nat} (lo : Int) (hn : n ≤ 1000) (he : ∀ (i : Nat) (H2 : Hp) (R : VK), i < n → (∀ q, H2 q = none → R (.ref q) (upd H2 q (.tup (intV [lo + (i : Int)])))) → te (some (.int (lo + (i : Int))) :: fv) H2 R)
    (hQ : ∀ D H2 qs, Same H1 H2 → H2 D = none → TupsAt H2 qs ((List.range n).map fun i : Nat => [lo + (i : Int)]) → Q (.ref D) (upd H2 D (.lst (qs.map V.ref)))) : CompGo te fv Q (Itr lo n) H1 := by
  refine ⟨fun i m ys H2 => m = n - i ∧ i ≤ n ∧ ∃ qs : List Addr, ys = qs.map V.ref ∧ Same H1 H2 ∧ TupsAt H2 qs ((List.range i).map fun i : Nat => [lo + (i : Int)]), ⟨n, by simp, Nat.zero_le _, [], rfl, fun _ _ e => e, ⟨rfl, fun i r ns h1 => by simp at h1⟩⟩, ?_⟩
  rintro i m ys H2 ⟨rfl, hi, qs, rfl, s2, hqa⟩
  have hql : qs.length = i := by have := hqa.1; rw [List.length_map, List.length_range] at this; exact this
  by_cases hlt : i < n
  · refine .inr ⟨hlt, by rw [List.length_map, hql]; exact Nat.lt_of_le_of_lt (show i ≤ 1000 by omega) (by decide), fun x H3 hy => ?_⟩
    obtain ⟨rfl, rfl⟩ := hy
    refine he i H3 _ hlt fun q hq => ?_
    refine ⟨n - (i + 1), by omega, rfl, hlt, qs ++ [q], by rw [List.map_append]; rfl, s2.trans (Same.upd hq), ?_⟩
    rw [List.range_succ, List.map_append]
    exact (hqa.same (Same.upd hq)).snoc upd_same
  · have e : i = n := by omega
    subst e
    exact .inl ⟨Nat.le_refl _, by rw [List.length_map, hql]; exact Nat.le_trans (show i ≤ 1000 by omega) (by decide), fun D hD => hQ D H2 qs s2 hD hqa⟩
theorem tups_app {H : Hp} {ps qs : List Addr} {us vs : List (List Int)} (h : TupsAt H ps us) (h' : TupsAt H qs vs) : TupsAt H (ps ++ qs) (us ++ vs) := by
  refine ⟨by rw [List.length_append, List.length_append, h.1, h'.1], fun i p w h1 h2 => ?_⟩
  by_cases hi : i < ps.length
  · rw [List.getElem?_append_left hi] at h1
    rw [List.getElem?_append_left (by rw [← h.1]; exact hi)] at h2
    exact h.2 i p w h1 h2
  · rw [List.getElem?_append_right (by omega)] at h1
    rw [List.getElem?_append_right (by rw [← h.1]; omega), ← h.1] at h2
    exact h'.2 _ p w h1 h2
theorem rep_flat (w : List Int) (n : Nat) : (List.replicate n (intV w)).flatten = intV ((List.replicate n w).flatten) := by
  induction n with
  | zero => rfl
  | succ n ih => rw [List.replicate_succ, List.flatten_cons, ih, List.replicate_succ, List.flatten_cons, ints_app]
theorem flat_mem {w : List Int} {n : Nat} {s : Int} (h : s ∈ (List.replicate n w).flatten) : s ∈ w := by
  obtain ⟨u, hu, hs⟩ := List.mem_flatten.mp h
  rw [(List.mem_replicate.mp hu).2] at hs
  exact hs
theorem flat_lenR (w : List Int) (n : Nat) : (List.replicate n w).flatten.length = w.length * n := by
  induction n with
  | zero => rfl
  | succ n ih => rw [List.replicate_succ, List.flatten_cons, List.length_append, ih, Nat.mul_succ]; omega
theorem ok__law_rules (T : Txt K mg A) : FnOk P w K mg base CX0 3 A.f__law_rules A.d__law_rules ["_law_turns", "_law_letters", "_law_mask", "_law_room"] spRules := by
  have G__law_rounds : FnOk P w K mg base CX0 2 A.f__law_rounds A.d__law_rounds ["_law_turns", "_law_points", "_law_word"] spRounds := ok__law_rounds T
  refine T._law_rules.F.ok sc__law_rules (fun vs H Q E h => ?_) (fun cdv AA outer s H vs Q E hr h => ?_)
  · obtain ⟨ta, rows, p, z0, rfl, _⟩ := h
    rfl
  · obtain ⟨ta, rows, p, z0, rfl, hTa, hL1, hL3, hpm, hp6, k⟩ := h
    refine ⟨_, (pss_cons (ps_setComp (iy := 4) sc__law_rules.nd rfl (Or.inl rfl) (fns := []) (ixs := []) (cl := []) rfl (pi_range2 rfl T.z_range (pa_cons pe_int (pa_cons (pe_op op_add (pv 1) pe_int) pa_nil))) (compScope0 (by decide +kernel) (by decide +kernel) rfl (by decide +kernel) rfl) (fun C s H ex => (pe_tup (pa_cons (pv 0) pa_nil))))
      (pss_cons (ps_for PassesOwn.never rfl (pi_range2 rfl T.z_range (pa_cons pe_int (pa_cons (pe_op op_add (pv 1) pe_int) pa_nil))) (pg_name (i := 5) sc__law_rules.nd rfl (Or.inl rfl))
        (pss_one (ps_for PassesOwn.never rfl (pi_range2 rfl T.z_range (pa_cons pe_int (pa_cons (pv 5) pa_nil))) (pg_name (i := 6) sc__law_rules.nd rfl (Or.inl rfl))
          (pss_one (ps_set (i := 4) sc__law_rules.nd rfl (Or.inl rfl) (pe_op op_cat (pv 4) (pe_lst (pa_cons (pe_tup (pa_cons (pv 6) (pa_cons (pv 5) pa_nil))) (pa_cons (pe_tup (pa_cons (pv 6) (pa_cons (pe_un un_neg (pv 5)) pa_nil))) (pa_cons (pe_tup (pa_cons (pv 6) (pa_cons (pv 5) (pa_cons (pe_un un_neg (pv 6)) (pa_cons (pe_un un_neg (pv 5)) pa_nil))))) pa_nil))))))))))
      (pss_cons (ps_set (i := 7) sc__law_rules.nd rfl (Or.inl rfl) (pe_lst pa_nil))
      (pss_cons (ps_for PassesOwn.never rfl (pi_list (pv 4)) (pg_name (i := 8) sc__law_rules.nd rfl (Or.inl rfl))
        (pss_cons (ps_set (i := 9) sc__law_rules.nd rfl (Or.inl rfl) (pe_call (G__law_rounds) (hr.mono (by decide)) rfl T._law_rounds.m T._law_rounds.F.kp T._law_rounds.b .nil pass0 (pa_cons (pv 0) (pa_cons (pe_listRange1 rfl rfl T.z_list rfl T.z_range (pa_cons (pe_callB call_len_seq rfl T.z_len PySem.boot_len (pa_cons (pe_ix ix_list (pv 0) pe_int (fun _ _ => rfl)) pa_nil)) pa_nil)) (pa_cons (pv 8) pa_nil)))))
        (pss_cons (ps_cut (ps_if (PW.pt (pw_and (pt_cmpR op_gt (pe_op op_mod (pv 2) pe_int) pe_int (nomark _)) (pw_and1 (pt_cmpR op_le (pe_op op_mul (pe_callB call_len_seq rfl T.z_len PySem.boot_len (pa_cons (pv 8) pa_nil)) (pv 9)) (pv 3) (nomark _)))))
          (pss_cons (ps_expr (pe_bm PySem.F.plainAttrs_list PySem.F.slot_list_append PySem.F.type_list_append mt_append (pv 7) (pa_cons (pe_op op_repT (pv 8) (pv 9)) pa_nil)))
          (pss_one (ps_set (i := 3) sc__law_rules.nd rfl (Or.inl rfl) (pe_op op_sub (pv 3) (pe_op op_mul (pe_callB call_len_seq rfl T.z_len PySem.boot_len (pa_cons (pv 8) pa_nil)) (pv 9))))))
          pss_nil))
        (pss_one (ps_set (i := 2) sc__law_rules.nd rfl (Or.inl rfl) (pe_op op_fdiv (pv 2) pe_int))))))
      (pss_one (ps_ret (pv 7))))))), ?_⟩
    obtain ⟨trs, htrs, htrw⟩ := id hTa
    have hr0l : 0 < rows.length := by omega
    have c0 : rows[0]? = some rows[0] := List.getElem?_eq_getElem hr0l
    have hr0p := hpm _ (List.mem_of_getElem? c0)
    generalize rows[0] = row0 at c0 hr0p
    have d0 : trs[0]? = some (trs[0]'(by rw [htrw.1]; exact hr0l)) := List.getElem?_eq_getElem (by rw [htrw.1]; exact hr0l)
    generalize trs[0]'(by rw [htrw.1]; exact hr0l) = tr0 at d0
    have htr0 := htrw.2 0 tr0 row0 d0 c0
    refine ⟨_, rfl, _, _, rfl, rfl, 1, (rows.length : Int) + 1, rfl, ⟨by omega, by omega, by omega, by omega⟩, ?_⟩
    refine comp_tupR 1 (n := ((rows.length : Int) + 1 - 1).toNat) (by omega) (fun i H2 R hi hR => ⟨_, rfl, by show 1 ≤ sizeLine; decide, fun q hq => hR q hq⟩) (fun lw H1 ps s1 hlw hps => ?_)
    have s12 : Same H1 (upd H1 lw (.lst (ps.map V.ref))) := Same.upd hlw
    have h2 : upd H1 lw (.lst (ps.map V.ref)) lw = some (.lst (ps.map V.ref)) := upd_same
    generalize upd H1 lw (.lst (ps.map V.ref)) = H2 at s12 h2 ⊢
    have hps2 := hps.same s12
    have hW0 : ∀ u ∈ (List.range ((rows.length : Int) + 1 - 1).toNat).map (fun i : Nat => [(1 : Int) + (i : Int)]), M11.Steps rows.length u ∧ u.length ≤ 4 := fun u hu => by
      obtain ⟨i, hi, rfl⟩ := List.mem_map.mp hu
      have := List.mem_range.mp hi
      exact ⟨fun s hs => by rw [List.mem_singleton.mp hs]; exact ⟨by omega, by omega⟩, by show 1 ≤ 4; decide⟩
    have hl0 : ((List.range ((rows.length : Int) + 1 - 1).toNat).map (fun i : Nat => [(1 : Int) + (i : Int)])).length ≤ 3 := by rw [List.length_map, List.length_range]; omega
    generalize (List.range ((rows.length : Int) + 1 - 1).toNat).map (fun i : Nat => [(1 : Int) + (i : Int)]) = W0 at hps2 hW0 hl0
    have s02 := s1.trans s12
    refine ⟨_, rfl, _, _, rfl, rfl, 2, (rows.length : Int) + 1, rfl, ⟨by omega, by omega, by omega, by omega⟩, ?_⟩
    refine for_range (lo := 2) (n := ((rows.length : Int) + 1 - 2).toNat) (fun i σ H3 => ∃ (lw : Addr) (ps : List Addr) (Ws : List (List Int)) (v5 v6 : Option V), σ = [some (.ref ta), some (.int (rows.length : Int)), some (.int z0), some (.int 36), some (.ref lw), v5, v6, none, none, none] ∧ Same H H3 ∧ H3 lw = some (.lst (ps.map V.ref)) ∧ TupsAt H3 ps Ws ∧ (∀ u ∈ Ws, M11.Steps rows.length u ∧ u.length ≤ 4) ∧ Ws.length ≤ 3 + 9 * i) ⟨lw, ps, W0, none, none, rfl, s02, h2, hps2, hW0, by omega⟩ ?_ ?_
    · rintro i σ H3 hi ⟨lw, ps, Ws, v5, v6, rfl, s3, h3, t3, hW3, hl3⟩
      refine ⟨_, rfl, 1, 2 + (i : Int), rfl, ⟨by omega, by omega, by omega, by omega⟩, ?_⟩
      refine for_range (lo := 1) (n := (2 + (i : Int) - 1).toNat) (fun n σ H4 => ∃ (lw : Addr) (ps : List Addr) (Ws : List (List Int)) (v6 : Option V), σ = [some (.ref ta), some (.int (rows.length : Int)), some (.int z0), some (.int 36), some (.ref lw), some (.int (2 + (i : Int))), v6, none, none, none] ∧ Same H H4 ∧ H4 lw = some (.lst (ps.map V.ref)) ∧ TupsAt H4 ps Ws ∧ (∀ u ∈ Ws, M11.Steps rows.length u ∧ u.length ≤ 4) ∧ Ws.length ≤ 3 + 9 * i + 3 * n) ⟨lw, ps, Ws, v6, rfl, s3, h3, t3, hW3, by omega⟩ ?_ ?_
      · rintro n σ H4 hn ⟨lw, ps, Ws, v6, rfl, s4, h4, t4, hW4, hl4⟩
        refine ⟨_, rfl, _, rfl, _, rfl, by show 2 ≤ sizeLine; decide, fun q1 hq1 => ?_⟩
        have s5 := Same.upd (o := .tup [.int (1 + (n : Int)), .int (2 + (i : Int))]) hq1
        have a5 : upd H4 q1 (.tup [.int (1 + (n : Int)), .int (2 + (i : Int))]) q1 = some (.tup (intV [1 + (n : Int), 2 + (i : Int)])) := upd_same
        generalize upd H4 q1 (.tup [.int (1 + (n : Int)), .int (2 + (i : Int))]) = H5 at s5 a5 ⊢
        refine ⟨_, rfl, _, rfl, _, rfl, by show 2 ≤ sizeLine; decide, fun q2 hq2 => ?_⟩
        have s6 := Same.upd (o := .tup [.int (1 + (n : Int)), .int (-(2 + (i : Int)))]) hq2
        have a6 : upd H5 q2 (.tup [.int (1 + (n : Int)), .int (-(2 + (i : Int)))]) q2 = some (.tup (intV [1 + (n : Int), -(2 + (i : Int))])) := upd_same
        generalize upd H5 q2 (.tup [.int (1 + (n : Int)), .int (-(2 + (i : Int)))]) = H6 at s6 a6 ⊢
        refine ⟨_, rfl, _, rfl, _, rfl, _, rfl, _, rfl, _, rfl, by show 4 ≤ sizeLine; decide, fun q3 hq3 => ?_⟩
        have s7 := Same.upd (o := .tup [.int (1 + (n : Int)), .int (2 + (i : Int)), .int (-(1 + (n : Int))), .int (-(2 + (i : Int)))]) hq3
        have a7 : upd H6 q3 (.tup [.int (1 + (n : Int)), .int (2 + (i : Int)), .int (-(1 + (n : Int))), .int (-(2 + (i : Int)))]) q3 = some (.tup (intV [1 + (n : Int), 2 + (i : Int), -(1 + (n : Int)), -(2 + (i : Int))])) := upd_same
        generalize upd H6 q3 (.tup [.int (1 + (n : Int)), .int (2 + (i : Int)), .int (-(1 + (n : Int))), .int (-(2 + (i : Int)))]) = H7 at s7 a7 ⊢
        refine ⟨by show 3 ≤ sizeLine; decide, fun ql hql => ?_⟩
        have s8 := Same.upd (o := .lst [.ref q1, .ref q2, .ref q3]) hql
        have a8 : upd H7 ql (.lst [.ref q1, .ref q2, .ref q3]) ql = some (.lst ([q1, q2, q3].map V.ref)) := upd_same
        generalize upd H7 ql (.lst [.ref q1, .ref q2, .ref q3]) = H8 at s8 a8 ⊢
        have s48 := ((s5.trans s6).trans s7).trans s8
        have t8 : TupsAt H8 [q1, q2, q3] [[1 + (n : Int), 2 + (i : Int)], [1 + (n : Int), -(2 + (i : Int))], [1 + (n : Int), 2 + (i : Int), -(1 + (n : Int)), -(2 + (i : Int))]] := by
          have b0 : TupsAt H8 [] [] := ⟨rfl, fun i p w h1 => by simp at h1⟩
          exact ((b0.snoc (s8 _ _ (s7 _ _ (s6 _ _ a5)))).snoc (s8 _ _ (s7 _ _ a6))).snoc (s8 _ _ a7)
        have hpl : ps.length = Ws.length := t4.1
        refine ⟨lw, ql, _, _, rfl, rfl, s48 _ _ h4, a8, ?_, fun l9 hl9 => ?_⟩
        · rw [List.length_map, List.length_map]
          exact Nat.le_trans (show ps.length + 3 ≤ 1000 by omega) (by decide)
        refine ⟨l9, ps ++ [q1, q2, q3], _, _, rfl, (s4.trans s48).trans (Same.upd hl9), by rw [upd_same, List.map_append], (tups_app (t4.same s48) t8).same (Same.upd hl9), fun u hu => ?_, ?_⟩
        · rcases List.mem_append.mp hu with hu | hu
          · exact hW4 u hu
          · have ok : ∀ s : Int, s = 1 + (n : Int) ∨ s = 2 + (i : Int) ∨ s = -(1 + (n : Int)) ∨ s = -(2 + (i : Int)) → s ≠ 0 ∧ s.natAbs ≤ rows.length := fun s hs => by
              rcases hs with rfl | rfl | rfl | rfl
              · exact ⟨by omega, by omega⟩
              · exact ⟨by omega, by omega⟩
              · exact ⟨by omega, by omega⟩
              · exact ⟨by omega, by omega⟩
            simp only [List.mem_cons, List.not_mem_nil, or_false] at hu
            rcases hu with rfl | rfl | rfl
            · refine ⟨fun s hs => ok s ?_, by show 2 ≤ 4; decide⟩
              simp only [List.mem_cons, List.not_mem_nil, or_false] at hs
              rcases hs with h | h
              · exact .inl h
              · exact .inr (.inl h)
            · refine ⟨fun s hs => ok s ?_, by show 2 ≤ 4; decide⟩
              simp only [List.mem_cons, List.not_mem_nil, or_false] at hs
              rcases hs with h | h
              · exact .inl h
              · exact .inr (.inr (.inr h))
            · refine ⟨fun s hs => ok s ?_, by show 4 ≤ 4; decide⟩
              simp only [List.mem_cons, List.not_mem_nil, or_false] at hs
              exact hs
        · rw [List.length_append]
          simp only [List.length_cons, List.length_nil]
          omega
      · rintro σ H4 ⟨lw, ps, Ws, v6, rfl, s4, h4, t4, hW4, hl4⟩
        exact ⟨lw, ps, Ws, _, _, rfl, s4, h4, t4, hW4, by omega⟩
    rintro σ H3 ⟨lw, ps, Ws, v5, v6, rfl, s3, h3, t3, hW3, hl3⟩
    refine ⟨Nat.zero_le _, fun lf hlf => ?_⟩
    have s34 : Same H3 (upd H3 lf (.lst [])) := Same.upd hlf
    have h4 : upd H3 lf (.lst []) lf = some (.lst (([] : List Addr).map V.ref)) := upd_same
    generalize upd H3 lf (.lst []) = H4 at s34 h4 ⊢
    refine ⟨_, rfl, lw, rfl, ⟨_, SqL.of (s34 _ _ h3)⟩, ?_⟩
    refine for_list (K := K) (a := lw) (xs := ps.map V.ref) (fun n σ H5 => ∃ (fs : List Addr) (R : List (List Int)) (zm rm : Int) (v8 v9 : Option V), σ = [some (.ref ta), some (.int (rows.length : Int)), some (.int zm), some (.int rm), some (.ref lw), v5, v6, some (.ref lf), v8, v9] ∧ Same H3 H5 ∧ H5 lf = some (.lst (fs.map V.ref)) ∧ TupsAt H5 fs R ∧ (∀ u ∈ R, M11.Steps rows.length u ∧ u.length ≤ 36) ∧ R.length ≤ n ∧ rm ≤ 36) ⟨[], [], z0, 36, none, none, rfl, s34, h4, ⟨rfl, fun i p w h1 => by simp at h1⟩, (fun u hu => by cases hu), Nat.zero_le _, by omega⟩ (fun n σ H5 _ ⟨_, _, _, _, _, _, _, s, _⟩ => SqL.of (s _ _ h3)) ?_ ?_
    · rintro n y σ H5 hn ⟨fs, R, zm, rm, v8, v9, rfl, s5, h5, t5, hR5, hRl, hrm⟩
      rw [List.getElem?_map] at hn
      have hnl : n < ps.length := by
        cases e : ps[n]? with
        | none => rw [e] at hn; cases hn
        | some r => exact (List.getElem?_eq_some_iff.mp e).1
      have g1 : ps[n]? = some ps[n] := List.getElem?_eq_getElem hnl
      rw [g1] at hn
      have ey : V.ref ps[n] = y := Option.some.inj hn
      subst ey
      generalize ps[n] = wa at g1
      have hpl : ps.length = Ws.length := t3.1
      have g2 : Ws[n]? = some (Ws[n]'(by omega)) := List.getElem?_eq_getElem (by omega)
      generalize Ws[n]'(by omega) = w at g2
      have hwa := t3.2 n wa w g1 g2
      obtain ⟨hws, hw4⟩ := hW3 w (List.mem_of_getElem? g2)
      have s05 := s3.trans s5
      have htrs5 := s05 _ _ htrs
      refine ⟨_, rfl, _, rfl, ta, _, _, .ref tr0, rfl, rfl, SqL.of htrs5, ref_at (i := 0) d0, tr0, _, rfl, .inl (SqL.of (s05 _ _ htr0)), p, by rw [ints_len, hr0p.1], by omega, fun lp hlp => ?_⟩
      have s56 : Same H5 (upd H5 lp (.lst (intV (rng 0 p)))) := Same.upd hlp
      have h6 : upd H5 lp (.lst (intV (rng 0 p))) lp = some (.lst (intV (rng 0 p))) := upd_same
      generalize upd H5 lp (.lst (intV (rng 0 p))) = H6 at s56 h6 ⊢
      refine ⟨_, rfl, ta, lp, wa, rows, p, w, rfl, hTa.same (s05.trans s56), hpm, hp6, h6, s56 _ _ (s5 _ _ hwa), hws, by omega, fun on ho1 ho2 H7 s67 => ?_⟩
      have s57 := s56.trans s67
      have hwa7 := s57 _ _ (s5 _ _ hwa)
      have h7 := s57 _ _ h5
      have t7 := t5.same s57
      have s37 := s5.trans s57
      refine ⟨fun σ' H' => ∃ (fs : List Addr) (R : List (List Int)) (rm : Int), σ' = [some (.ref ta), some (.int (rows.length : Int)), some (.int zm), some (.int rm), some (.ref lw), v5, v6, some (.ref lf), some (.ref wa), some (.int (on : Int))] ∧ Same H3 H' ∧ H' lf = some (.lst (fs.map V.ref)) ∧ TupsAt H' fs R ∧ (∀ u ∈ R, M11.Steps rows.length u ∧ u.length ≤ 36) ∧ R.length ≤ n + 1 ∧ rm ≤ 36, ?_, ?_⟩
      · refine ⟨_, rfl, _, _, rfl, rfl, (by show (0 : Int) < 3; decide), _, _, rfl, rfl, _, rfl, ite2 (fun _ => ?_) (fun _ => iteF ⟨fs, R, rm, rfl, s37, h7, t7, hR5, by omega, hrm⟩)⟩
        refine ⟨_, rfl, wa, _, rfl, .inr (SqT.of hwa7), _, rfl, _, _, rfl, rfl, .inr ⟨by omega, by omega⟩, _, rfl, _, _, rfl, rfl, _, rfl, ite2 (fun h => ?_) (fun _ => ⟨fs, R, rm, rfl, s37, h7, t7, hR5, by omega, hrm⟩)⟩
        have hle : ((intV w).length : Int) * (on : Int) ≤ rm := of_decide_eq_true h
        rw [ints_len] at hle
        have hmul : w.length * on ≤ 36 := by
          have : ((w.length * on : Nat) : Int) = (w.length : Int) * (on : Int) := Int.natCast_mul ..
          omega
        refine ⟨_, rfl, .inl ⟨rfl, _, SqL.of h7⟩, _, rfl, _, rfl, wa, _, _, rfl, rfl, hwa7, by omega, by omega, ?_, fun q8 H8 s78 h8 => ?_⟩
        · rw [ints_len, Int.toNat_natCast]
          exact Nat.le_trans hmul (by decide)
        rw [Int.toNat_natCast, rep_flat] at h8
        have h78 := s78 _ _ h7
        have hfl : fs.length = R.length := t5.1
        refine ⟨lf, _, _, rfl, rfl, h78, ?_, ?_⟩
        · rw [List.length_map]
          exact Nat.lt_of_le_of_lt (show fs.length ≤ 1000 by omega) (by decide)
        have hwa9 : upd H8 lf (.lst (fs.map V.ref ++ [V.ref q8])) wa = some (.tup (intV w)) := by
          rw [upd_ne (ne_of (s78 _ _ hwa7) h78 (by intro z; cases z))]
          exact s78 _ _ hwa7
        refine ⟨_, rfl, _, rfl, wa, _, rfl, .inr (SqT.of hwa9), _, rfl, _, _, rfl, rfl, .inr ⟨by omega, by omega⟩, _, _, rfl, rfl, ?_⟩
        refine ⟨fs ++ [q8], R ++ [(List.replicate on w).flatten], _, rfl, fun b o e => by rw [upd_ne (ne_of_none e hlf)]; exact s78 _ _ (s37 _ _ e), by rw [upd_same, List.map_append]; rfl, tups_upd ((t7.same s78).snoc h8) h78, fun u hu => ?_, by rw [List.length_append]; simp only [List.length_cons, List.length_nil]; omega, ?_⟩
        · rcases List.mem_append.mp hu with hu | hu
          · exact hR5 u hu
          · rw [List.mem_singleton.mp hu]
            exact ⟨fun s hs => hws s (flat_mem hs), by rw [flat_lenR]; exact hmul⟩
        · rw [ints_len]
          have : (0 : Int) ≤ (w.length : Int) * (on : Int) := Int.mul_nonneg (by omega) (by omega)
          omega
      rintro σ' H8 ⟨fs, R, rm, rfl, s8, h8, t8, hR8, hRl8, hrm8⟩
      exact ⟨_, rfl, _, _, rfl, rfl, ⟨by decide, by decide⟩, fs, R, _, rm, _, _, rfl, s8, h8, t8, hR8, hRl8, hrm8⟩
    · rintro σ H5 ⟨fs, R, zm, rm, v8, v9, rfl, s5, h5, t5, hR5, hRl, hrm⟩
      have hpl : ps.length = Ws.length := t3.1
      rw [List.length_map] at hRl
      exact ⟨_, rfl, k lf R H5 (s3.trans s5) ⟨fs, h5, t5⟩ hR5 (by omega)⟩
theorem comp_words {K : PySem.W.Frag} {H : Hp} {a : Addr} {fv : St} {te : TE} {Q : VK} {rs : List Addr} {us : List (List Int)} (f : List Int → List Int) (hrs : H a = some (.lst (rs.map V.ref))) (hrw : TupsAt H rs us) (hz : us.length ≤ 1000)
    (he : ∀ (H2 : Hp) (r : Addr) (u : List Int) (R : VK), u ∈ us → H2 r = some (.tup (intV u)) → (∀ l H3, Same H2 H3 → H3 l = some (.tup (intV (f u))) → R (.ref l) H3) → te (some (.ref r) :: fv) H2 R)
    (hQ : ∀ D H2 qs, Same H H2 → H2 D = none → TupsAt H2 qs (us.map f) → Q (.ref D) (upd H2 D (.lst (qs.map V.ref)))) : CompGo te fv Q (Itl K a) H := by
  have hrl := hrw.1
  refine ⟨fun i m ys H2 => m = rs.length - i ∧ i ≤ rs.length ∧ ∃ qs : List Addr, ys = qs.map V.ref ∧ Same H H2 ∧ TupsAt H2 qs ((us.take i).map f), ⟨rs.length, by simp, Nat.zero_le _, [], rfl, fun _ _ e => e, ⟨by simp, fun i r ns h1 => by simp at h1⟩⟩, ?_⟩
  rintro i m ys H2 ⟨rfl, hi, qs, rfl, s2, hqa⟩
  have hql : qs.length = i := by have := hqa.1; rw [List.length_map, List.length_take] at this; omega
  by_cases hlt : i < rs.length
  · have g1 : rs[i]? = some rs[i] := List.getElem?_eq_getElem hlt
    have hil : i < us.length := by omega
    have g2 : us[i]? = some us[i] := List.getElem?_eq_getElem hil
    have hr := hrw.2 i _ _ g1 g2
    refine .inr ⟨itl_go (SqL.of (s2 _ _ hrs)) i (by rw [List.length_map]; exact hlt), by rw [List.length_map, hql]; exact Nat.lt_of_le_of_lt (show i ≤ 1000 by omega) (by decide), fun x H3 hy => ?_⟩
    obtain ⟨rfl, hx⟩ := itl_yld (SqL.of (s2 _ _ hrs)) i x H3 (by rw [List.length_map]; exact hlt) hy
    rw [List.getElem?_map, g1] at hx
    have ex : V.ref rs[i] = x := Option.some.inj hx
    subst ex
    refine he H3 _ _ _ (List.mem_of_getElem? g2) (s2 _ _ hr) fun l H4 s4 h4 => ?_
    refine ⟨rs.length - (i + 1), by omega, rfl, hlt, qs ++ [l], by rw [List.map_append]; rfl, s2.trans s4, ?_⟩
    have e : (us.take (i + 1)).map f = (us.take i).map f ++ [f us[i]] := by rw [List.take_succ, g2, List.map_append]; rfl
    rw [e]
    exact (hqa.same s4).snoc h4
  · have e : i = rs.length := by omega
    refine .inl ⟨?_, by rw [List.length_map, hql]; exact Nat.le_trans (show i ≤ 1000 by omega) (by decide), fun D hD => ?_⟩
    · have := itl_stop (K := K) (SqL.of (s2 _ _ hrs))
      rw [List.length_map, ← e] at this
      exact this
    · rw [List.take_of_length_le (by omega)] at hqa
      exact hQ D H2 qs s2 hD hqa
theorem tups_take {H : Hp} {ps : List Addr} {us : List (List Int)} (n : Nat) (h : TupsAt H ps us) : TupsAt H (ps.take n) (us.take n) := by
  refine ⟨by rw [List.length_take, List.length_take, h.1], fun i p w h1 h2 => ?_⟩
  rw [List.getElem?_take] at h1 h2
  split at h1
  · rename_i hi
    rw [if_pos hi] at h2
    exact h.2 i p w h1 h2
  · cases h1
theorem cut_one (ps : List Addr) : cutV (ps.map V.ref) none (some 1) = (ps.take 1).map V.ref := by
  unfold cutV
  rw [HT.sIx_none, show (1 : Int) = ((1 : Nat) : Int) from rfl, HT.sIx_nat, List.drop_zero, List.length_map, Nat.sub_zero, List.map_take]
  cases ps with
  | nil => rfl
  | cons p ps => rw [List.length_cons, show min 1 (ps.length + 1) = 1 by omega]
theorem ok_law (T : Txt K mg A) : FnOk P w K mg base CX0 9 A.f_law A.d_law ["_law_script"] (spLaw K) := by
  have G__law_drawn : FnOk P w K mg base CX0 2 A.f__law_drawn A.d__law_drawn ["_law_script"] (spDrawn K) := ok__law_drawn T
  have G__law_table_of : FnOk P w K mg base CX0 2 A.f__law_table_of A.d__law_table_of ["_law_turns", "_law_letters", "_law_first"] spTableOf := ok__law_table_of T
  have G__law_rules : FnOk P w K mg base CX0 3 A.f__law_rules A.d__law_rules ["_law_turns", "_law_letters", "_law_mask", "_law_room"] spRules := ok__law_rules T
  have G_inner_rules : FnOk P w K mg base CX0 5 A.f_inner_rules A.d_inner_rules ["table", "rules"] spRulesI := ok_inner_rules T
  have G__law_inner : FnOk P w K mg base CX0 2 A.f__law_inner A.d__law_inner ["_law_table", "_law_ways"] spInner := ok__law_inner T
  have G__law_alike : FnOk P w K mg base CX0 2 A.f__law_alike A.d__law_alike ["_law_found", "_law_due"] spAlike := ok__law_alike T
  have G__law_cell_at : FnOk P w K mg base CX0 1 A.f__law_cell_at A.d__law_cell_at ["_law_script", "_law_k"] (spAt K) := ok__law_cell_at T
  have G__law_told : FnOk P w K mg base CX0 2 A.f__law_told A.d__law_told ["_law_table", "_law_letters", "_law_room", "_law_word"] spToldL := ok__law_told T
  have G__law_back : FnOk P w K mg base CX0 1 A.f__law_back A.d__law_back ["_law_word"] spBack := ok__law_back T
  refine T.law.F.ok sc_law (fun vs H Q E h => ?_) (fun cdv AA outer s H vs Q E hr h => ?_)
  · obtain ⟨a, ns, rfl, _⟩ := h
    rfl
  · obtain ⟨a, ns, rfl, hS, hlen, k⟩ := h
    have hu2 := hu_of hr
    have hu3 := Nat.lt_of_le_of_lt (Nat.add_le_add_left (by decide : 2 ≤ 64) _) hr.units
    have hu := Nat.lt_of_succ_lt (hu_of hr)
    refine ⟨_, (pss_cons (ps_asg (pe_call (G__law_drawn) (hr.mono (by decide)) rfl T._law_drawn.m T._law_drawn.F.kp T._law_drawn.b .nil pass0 (pa_cons (pv 0) pa_nil)) (pg_tup rfl (pgs_cons (pg_name (i := 1) sc_law.nd rfl (Or.inl rfl)) (pgs_cons (pg_name (i := 2) sc_law.nd rfl (Or.inl rfl)) (pgs_cons (pg_name (i := 3) sc_law.nd rfl (Or.inl rfl)) pgs_nil)))))
      (pss_cons (ps_asg (pe_call (G__law_table_of) (hr.mono (by decide)) rfl T._law_table_of.m T._law_table_of.F.kp T._law_table_of.b .nil pass0 (pa_cons (pv 2) (pa_cons (pv 1) (pa_cons (pv 3) pa_nil)))) (pg_tup rfl (pgs_cons (pg_name (i := 4) sc_law.nd rfl (Or.inl rfl)) (pgs_cons (pg_name (i := 5) sc_law.nd rfl (Or.inl rfl)) pgs_nil))))
      (pss_cons (ps_set (i := 6) sc_law.nd rfl (Or.inl rfl) (pe_call (G__law_rules) (hr.mono (by decide)) rfl T._law_rules.m T._law_rules.F.kp T._law_rules.b .nil pass0 (pa_cons (pv 2) (pa_cons (pv 1) (pa_cons (pe_op op_mod (pe_call (G__law_cell_at) (hr.mono (by decide)) rfl T._law_cell_at.m T._law_cell_at.F.kp T._law_cell_at.b .nil pass0 (pa_cons (pv 0) (pa_cons pe_int pa_nil))) pe_int) (pa_cons pe_int pa_nil))))))
      (pss_cons (ps_cut (ps_if (pt_cmpR op_eq (pe_op op_mod (pe_call (G__law_cell_at) (hr.mono (by decide)) rfl T._law_cell_at.m T._law_cell_at.F.kp T._law_cell_at.b .nil pass0 (pa_cons (pv 0) (pa_cons pe_int pa_nil))) pe_int) pe_int (nomark _))
        (pss_one (ps_set (i := 6) sc_law.nd rfl (Or.inl rfl) (pe_op op_cat (pv 6) (pe_slice sl_list (pv 6) po_none (po_some pe_int)))))
        pss_nil))
      (pss_cons (ps_cut (ps_if (pt_cmpR op_eq (pe_op op_mod (pe_call (G__law_cell_at) (hr.mono (by decide)) rfl T._law_cell_at.m T._law_cell_at.F.kp T._law_cell_at.b .nil pass0 (pa_cons (pv 0) (pa_cons pe_int pa_nil))) pe_int) pe_int (nomark _))
        (pss_one (ps_set (i := 6) sc_law.nd rfl (Or.inl rfl) (pe_op op_cat (pe_comp (fns := []) (ixs := []) (cl := []) rfl (pi_list (pe_slice sl_list (pv 6) po_none (po_some pe_int))) (compScope0 (by decide +kernel) (by decide +kernel) rfl (by decide +kernel) rfl) (fun C s H ex => (pe_op op_catTT (pv 0) (pe_call (G__law_back) (hr.mono (by decide)) rfl T._law_back.m T._law_back.F.kp T._law_back.b .nil pass0 (pa_cons (pv 0) pa_nil))))) (pv 6))))
        pss_nil))
      (pss_cons (ps_set (i := 7) sc_law.nd rfl (Or.inl rfl) (pe_ix ix_tup (pe_call (G__law_inner) (hr.mono (by decide)) rfl T._law_inner.m T._law_inner.F.kp T._law_inner.b .nil pass0 (pa_cons (pv 4) (pa_cons (pv 5) pa_nil))) pe_int (fun _ _ => rfl)))
      (pss_cons (ps_set (i := 8) sc_law.nd rfl (Or.inl rfl) (pe_lst pa_nil))
      (pss_cons (ps_for PassesOwn.never rfl (pi_range1 rfl T.z_range (pa_cons (pe_callB call_len_seq rfl T.z_len PySem.boot_len (pa_cons (pv 4) pa_nil)) pa_nil)) (pg_name (i := 9) sc_law.nd rfl (Or.inl rfl))
        (pss_one (ps_for PassesOwn.never rfl (pi_list (pv 6)) (pg_name (i := 10) sc_law.nd rfl (Or.inl rfl))
          (pss_cons (ps_set (i := 11) sc_law.nd rfl (Or.inl rfl) (pe_call (G__law_told) (hr.mono (by decide)) rfl T._law_told.m T._law_told.F.kp T._law_told.b .nil pass0 (pa_cons (pv 4) (pa_cons (pv 7) (pa_cons (pv 9) (pa_cons (pv 10) pa_nil))))))
          (pss_one (ps_cut (ps_if (PW.pt (pw_and (pt_cmpR (op_neTI hu) (pv 11) (pe_tup pa_nil) (nomark _)) (pw_and1 (pt_cmpR (op_NOTIN_lt hu2) (pv 11) (pv 8) rfl))))
            (pss_one (ps_expr (pe_bm PySem.F.plainAttrs_list PySem.F.slot_list_append PySem.F.type_list_append mt_append (pv 8) (pa_cons (pv 11) pa_nil))))
            pss_nil)))))))
      (pss_cons (ps_set (i := 12) sc_law.nd rfl (Or.inl rfl) (pe_tup (pa_cons (pe_comp (fns := []) (ixs := []) (cl := []) rfl (pi_list (pv 4)) (compScope0 (by decide +kernel) (by decide +kernel) rfl (by decide +kernel) rfl) (fun C s H ex => (pe_callTy (call_list_ofK (K := K) rfl) rfl T.z_list PyProof.Rows.boot_list (pa_cons (pv 0) pa_nil)))) (pa_cons (pe_callTy call_list_of rfl T.z_list PyProof.Rows.boot_list (pa_cons (pv 6) pa_nil)) pa_nil))))
      (pss_cons (ps_set (i := 13) sc_law.nd rfl (Or.inl rfl) (pe_call (G_inner_rules) (hr.mono (by decide)) rfl T.inner_rules.m T.inner_rules.F.kp T.inner_rules.b .nil pass0 (pa_cons (pe_ix ix_tup (pv 12) pe_int (fun _ _ => rfl)) (pa_cons (pe_ix ix_tup (pv 12) pe_int (fun _ _ => rfl)) pa_nil))))
      (pss_one (ps_ret (pe_and (pe_call (G__law_alike) (hr.mono (by decide)) rfl T._law_alike.m T._law_alike.F.kp T._law_alike.b .nil pass0 (pa_cons (pv 13) (pa_cons (pv 8) pa_nil))) (pe_one (pe_cmpR (op_eqTM hu3) (pv 12) (pe_tup (pa_cons (pv 4) (pa_cons (pv 6) pa_nil))) (nomark _)))))))))))))))), ?_⟩
    refine ⟨_, rfl, a, ns, rfl, hS, hlen, fun l0 lt L rows p x H1 s1 hl0 hTr hrl hL1 hL3 hpm hx hp6 => ?_⟩
    refine ⟨l0, _, rfl, SqT.of hl0, rfl, _, _, rfl, _, _, rfl, _, _, rfl, rfl, ?_⟩
    subst hrl
    refine ⟨_, rfl, _, rfl, _, rfl, lt, rows, p, x, rfl, hTr, hL1, by omega, by omega, hpm, hx, fun l1 la lw Tb ws H2 s2 hl1 hTa hW hT hF hLw hwb => ?_⟩
    refine ⟨l1, _, rfl, SqT.of hl1, rfl, _, _, rfl, _, _, rfl, rfl, ?_⟩
    have h300 := hT.top
    have hpos := hT.pos
    have hWl : (ws.map wd).length = Tb.length := by rw [List.length_map, hLw.1]
    have s02 := s1.trans s2
    refine ⟨_, rfl, _, rfl, _, rfl, a, ns, 6, rfl, s02.seq hS, by omega, fun z6 => ?_⟩
    refine ⟨_, _, rfl, rfl, (by show (0 : Int) < 531441; decide), lt, rows, p, _, rfl, hTr.same s2, hL1, hL3, hpm, hp6, fun l3 R H3 s3 hR hRs hRl => ?_⟩
    have s03 := s02.trans s3
    refine ⟨fun σ' H' => ∃ (l4 : Addr) (R4 : List (List Int)), σ' = [some (.ref a), some (.int (rows.length : Int)), some (.ref lt), some (.int (x : Int)), some (.ref la), some (.ref lw), some (.ref l4), none, none, none, none, none, none, none] ∧ Same H2 H' ∧ WordsAt H' l4 R4 ∧ (∀ u ∈ R4, M11.Steps rows.length u ∧ u.length ≤ 36) ∧ R4.length ≤ 41, ?_, ?_⟩
    · refine ⟨_, rfl, a, ns, 7, rfl, s03.seq hS, by omega, fun z7 => ?_⟩
      refine ⟨_, _, rfl, rfl, (by show (0 : Int) < 3; decide), rfl, _, rfl, ite2 (fun _ => ?_) (fun _ => ⟨l3, R, rfl, s3, hR, hRs, by omega⟩)⟩
      obtain ⟨ps, hps, hpt⟩ := id hR
      refine ⟨_, rfl, _, rfl, 1, rfl, l3, _, rfl, SqL.of hps, fun q hq => ?_⟩
      rw [cut_one]
      have s34 : Same H3 (upd H3 q (.lst ((ps.take 1).map V.ref))) := Same.upd hq
      have hq4 : upd H3 q (.lst ((ps.take 1).map V.ref)) q = some (.lst ((ps.take 1).map V.ref)) := upd_same
      generalize upd H3 q (.lst ((ps.take 1).map V.ref)) = H4 at s34 hq4 ⊢
      have hpl : ps.length = R.length := hpt.1
      refine ⟨l3, q, _, _, rfl, rfl, s34 _ _ hps, hq4, ?_, fun l4 hl4 => ?_⟩
      · rw [List.length_map, List.length_map, List.length_take]
        exact Nat.le_trans (show ps.length + min 1 ps.length ≤ 100 by omega) (by decide)
      have s45 := Same.upd (o := .lst (ps.map V.ref ++ (ps.take 1).map V.ref)) hl4
      refine ⟨l4, R ++ R.take 1, rfl, (s3.trans s34).trans s45, ⟨ps ++ ps.take 1, by rw [upd_same, List.map_append], tups_app (hpt.same (s34.trans s45)) ((tups_take 1 hpt).same (s34.trans s45))⟩, fun u hu => ?_, ?_⟩
      · rcases List.mem_append.mp hu with hu | hu
        · exact hRs u hu
        · exact hRs u (List.mem_of_mem_take hu)
      · rw [List.length_append, List.length_take]
        omega
    rintro σ' H4 ⟨l4, R4, rfl, s24, hR4, hRs4, hRl4⟩
    have s04 := s02.trans s24
    refine ⟨fun σ' H' => ∃ (l5 : Addr) (R5 : List (List Int)), σ' = [some (.ref a), some (.int (rows.length : Int)), some (.ref lt), some (.int (x : Int)), some (.ref la), some (.ref lw), some (.ref l5), none, none, none, none, none, none, none] ∧ Same H2 H' ∧ WordsAt H' l5 R5 ∧ (∀ u ∈ R5, M11.Steps rows.length u ∧ u.length ≤ 72) ∧ R5.length ≤ 42, ?_, ?_⟩
    · refine ⟨_, rfl, a, ns, 7, rfl, s04.seq hS, by omega, fun z7 => ?_⟩
      refine ⟨_, _, rfl, rfl, (by show (0 : Int) < 3; decide), rfl, _, rfl, ite2 (fun _ => ?_) (fun _ => ⟨l4, R4, rfl, s24, hR4, fun u hu => ⟨(hRs4 u hu).1, by have := (hRs4 u hu).2; omega⟩, by omega⟩)⟩
      obtain ⟨ps, hps, hpt⟩ := id hR4
      refine ⟨_, rfl, 1, rfl, l4, _, rfl, SqL.of hps, fun q hq => ?_⟩
      rw [cut_one]
      have s45 : Same H4 (upd H4 q (.lst ((ps.take 1).map V.ref))) := Same.upd hq
      have hq5 : upd H4 q (.lst ((ps.take 1).map V.ref)) q = some (.lst ((ps.take 1).map V.ref)) := upd_same
      generalize upd H4 q (.lst ((ps.take 1).map V.ref)) = H5 at s45 hq5 ⊢
      have hpl : ps.length = R4.length := hpt.1
      refine ⟨q, rfl, ⟨_, SqL.of hq5⟩, ?_⟩
      refine comp_words (fun u => u ++ M11.back u) hq5 ((tups_take 1 hpt).same s45) (by rw [List.length_take]; omega) (fun H6 r u Q6 hu h6 hQ6 => ?_) (fun D H6 qs s56 hD hqs => ?_)
      · have hul := (hRs4 u (List.mem_of_mem_take hu)).2
        refine ⟨_, rfl, _, rfl, r, u, rfl, h6, by omega, fun lb H7 s67 h7 => ?_⟩
        refine ⟨r, lb, _, _, rfl, rfl, s67 _ _ h6, h7, ?_, fun l8 H8 s78 h8 => ?_⟩
        · rw [ints_len, ints_len, back_len]
          exact Nat.le_trans (show u.length + u.length ≤ 100 by omega) (by decide)
        rw [← ints_app] at h8
        exact hQ6 l8 H8 (s67.trans s78) h8
      have s67 : Same H6 (upd H6 D (.lst (qs.map V.ref))) := Same.upd hD
      have hD7 : upd H6 D (.lst (qs.map V.ref)) D = some (.lst (qs.map V.ref)) := upd_same
      generalize upd H6 D (.lst (qs.map V.ref)) = H7 at s67 hD7 ⊢
      have hql := hqs.1
      rw [List.length_map, List.length_take] at hql
      have s47 := (s45.trans s56).trans s67
      refine ⟨_, rfl, D, l4, _, _, rfl, rfl, hD7, s47 _ _ hps, ?_, fun l8 hl8 => ?_⟩
      · rw [List.length_map, List.length_map]
        exact Nat.le_trans (show qs.length + ps.length ≤ 100 by omega) (by decide)
      have s78 := Same.upd (o := .lst (qs.map V.ref ++ ps.map V.ref)) hl8
      refine ⟨l8, (R4.take 1).map (fun u => u ++ M11.back u) ++ R4, rfl, (s24.trans s47).trans s78, ⟨qs ++ ps, by rw [upd_same, List.map_append], tups_app (hqs.same (s67.trans s78)) (hpt.same (s47.trans s78))⟩, fun u hu => ?_, ?_⟩
      · rcases List.mem_append.mp hu with hu | hu
        · obtain ⟨v, hv, rfl⟩ := List.mem_map.mp hu
          have h := hRs4 v (List.mem_of_mem_take hv)
          refine ⟨fun s hs => ?_, by rw [List.length_append, back_len]; have := h.2; omega⟩
          rcases List.mem_append.mp hs with hs | hs
          · exact h.1 s hs
          · exact M11.steps_back h.1 s hs
        · have h := hRs4 u hu
          exact ⟨h.1, by have := h.2; omega⟩
      · rw [List.length_append, List.length_map, List.length_take]
        omega
    rintro σ' H5 ⟨l5, R5, rfl, s25, hR5, hRs5, hRl5⟩
    refine ⟨_, rfl, _, rfl, la, lw, Tb, ws.map wd, rows.length, rfl, hTa.same s25, hW.same s25, hT, hWl, fun u hu => ?_, fun l2 ld lx H6 s56 hl2 hD hX => ?_⟩
    · obtain ⟨v, hv, rfl⟩ := List.mem_map.mp hu
      obtain ⟨i, hi⟩ := List.getElem?_of_mem hv
      have h1 := (hwb i v hi).1
      have hil := (List.getElem?_eq_some_iff.mp hi).1
      rw [hLw.1] at hil
      rw [wd_len]
      omega
    refine ⟨l2, _, _, _, rfl, rfl, SqT.of hl2, atI_nat (j := 0) rfl, ?_⟩
    clear hl2 hX
    have hnd := innL_nd Tb (ws.map wd) rows.length Tb.length
    refine ⟨Nat.zero_le _, fun du hdu => ?_⟩
    obtain ⟨J, hJ⟩ : ∃ J, J = innL Tb (ws.map wd) rows.length Tb.length 0 := ⟨_, rfl⟩
    rw [← hJ] at hD hnd
    have s67 : Same H6 (upd H6 du (.lst [])) := Same.upd hdu
    have hd7 : WordsAt (upd H6 du (.lst [])) du (dueT Tb J R5 0 0) := ⟨[], upd_same, rfl, fun i p w h1 => by simp at h1⟩
    generalize upd H6 du (.lst []) = H7 at s67 hd7 ⊢
    have hTa6 := hTa.same (s25.trans s56)
    have hR6 := hR5.same s56
    obtain ⟨rs, hrs, hrw⟩ := id hTa6
    obtain ⟨ps, hps, hpt⟩ := id hR6
    have hpl : ps.length = R5.length := hpt.1
    have hlen6 : ((rs.map V.ref).length : Int) = (Tb.length : Int) := by rw [List.length_map, hrw.1]
    refine ⟨_, rfl, la, _, rfl, .inl (SqL.of (s67 _ _ hrs)), (Tb.length : Int), by rw [← hlen6], by omega, by omega, ?_⟩
    refine for_range (lo := 0) (n := ((Tb.length : Int)).toNat) (fun r σ H8 => ∃ v9 v10 v11 : Option V, σ = [some (.ref a), some (.int (rows.length : Int)), some (.ref lt), some (.int (x : Int)), some (.ref la), some (.ref lw), some (.ref l5), some (.ref ld), some (.ref du), v9, v10, v11, none, none] ∧ Same H6 H8 ∧ WordsAt H8 du (dueT Tb J R5 r 0)) ⟨none, none, none, rfl, s67, hd7⟩ ?_ ?_
    · rintro r σ H8 hr ⟨v9, v10, v11, rfl, s8, hd8⟩
      have hr' : r < Tb.length := by omega
      have e0 : (0 : Int) + (r : Int) = (r : Int) := by omega
      refine ⟨_, rfl, l5, rfl, ⟨_, SqL.of (s8 _ _ hps)⟩, ?_⟩
      refine for_list (K := K) (a := l5) (xs := ps.map V.ref) (fun n σ H9 => ∃ v10 v11 : Option V, σ = [some (.ref a), some (.int (rows.length : Int)), some (.ref lt), some (.int (x : Int)), some (.ref la), some (.ref lw), some (.ref l5), some (.ref ld), some (.ref du), some (.int (0 + (r : Int))), v10, v11, none, none] ∧ Same H6 H9 ∧ WordsAt H9 du (dueT Tb J R5 r n)) ⟨v10, v11, rfl, s8, hd8⟩ (fun n σ H9 _ ⟨_, _, _, s, _⟩ => SqL.of (s _ _ hps)) ?_ ?_
      · rintro n y σ H9 hn ⟨v10, v11, rfl, s9, hd9⟩
        rw [List.getElem?_map] at hn
        have hnl : n < ps.length := by
          cases e : ps[n]? with
          | none => rw [e] at hn; cases hn
          | some r => exact (List.getElem?_eq_some_iff.mp e).1
        have g1 : ps[n]? = some ps[n] := List.getElem?_eq_getElem hnl
        rw [g1] at hn
        have ey : V.ref ps[n] = y := Option.some.inj hn
        subst ey
        generalize ps[n] = pp at g1
        have g2 : R5[n]? = some (R5[n]'(by omega)) := List.getElem?_eq_getElem (by omega)
        generalize R5[n]'(by omega) = u at g2
        have hpp := hpt.2 n pp u g1 g2
        obtain ⟨hus, hul⟩ := hRs5 u (List.mem_of_getElem? g2)
        rw [dueT_succ g2]
        have hdl := due_len Tb J R5 r n
        have hmul : (r + 1) * R5.length ≤ 301 * 42 := Nat.mul_le_mul (by omega) hRl5
        refine ⟨_, rfl, _, rfl, _, rfl, _, rfl, la, ld, pp, Tb, J, rows.length, r, u, congrArg (fun z => [V.ref la, V.ref ld, V.int z, V.ref pp]) e0, hTa6.same s9, hT, hD.same s9, hnd, hr', s9 _ _ hpp, hus, by omega, fun lt' H10 s10 h10 => ?_⟩
        have hd10 := hd9.same s10
        have s610 := s9.trans s10
        generalize dueT Tb J R5 r n = acc at hd10 hdl
        generalize thinL (tell Tb J u r) = t at h10
        refine ⟨_, ?_, fun _ _ h => h⟩
        refine ⟨_, rfl, Nat.zero_le _, fun q hq => ?_⟩
        have s1011 := Same.upd (o := .tup []) hq
        have hq11 : upd H10 q (.tup []) q = some (.tup (intV [])) := upd_same
        generalize upd H10 q (.tup []) = H11 at s1011 hq11 ⊢
        have h11 := s1011 _ _ h10
        have hd11 := hd10.same s1011
        have s611 := s610.trans s1011
        refine ⟨lt', q, _, _, rfl, rfl, SqT.of h11, SqT.of hq11, ?_⟩
        by_cases ht : t = []
        · refine ⟨_, rfl, ?_⟩
          rw [decide_eq_true ht]
          refine iteF ?_
          have ea : ad acc t = acc := by unfold ad; rw [if_pos (.inl ht)]
          rw [ea]
          exact iteF ⟨_, _, rfl, s611, hd11⟩
        · refine ⟨_, rfl, ?_⟩
          rw [decide_eq_false ht]
          refine iteT ?_
          refine ⟨_, rfl, _, rfl, lt', du, _, _, rfl, rfl, h11, hd11, _, rfl, ?_⟩
          by_cases hm : t ∈ acc
          · rw [decide_eq_true hm]
            have ea : ad acc t = acc := by unfold ad; rw [if_pos (.inr hm)]
            rw [ea]
            exact iteF ⟨_, _, rfl, s611, hd11⟩
          · rw [decide_eq_false hm]
            refine iteT ?_
            have ea : ad acc t = acc ++ [t] := by unfold ad; rw [if_neg (fun z => z.elim ht hm)]
            rw [ea]
            obtain ⟨dp, hdp, hdt⟩ := hd11
            have hdpl : dp.length = acc.length := hdt.1
            refine ⟨_, rfl, .inl ⟨rfl, _, SqL.of hdp⟩, _, rfl, du, _, _, rfl, rfl, hdp, ?_, ?_⟩
            · rw [List.length_map]
              exact Nat.lt_of_le_of_lt (show dp.length ≤ 20000 by omega) (by decide)
            · exact ⟨_, _, rfl, fun b o e => by rw [upd_ne (ne_of_none e hdu)]; exact s611 _ _ e, ⟨dp ++ [lt'], by rw [upd_same, List.map_append]; rfl, tups_upd (hdt.snoc h11) hdp⟩⟩
      · rintro σ H9 ⟨v10, v11, rfl, s9, hd9⟩
        rw [List.length_map, hpl, dueT_row] at hd9
        exact ⟨_, _, _, rfl, s9, hd9⟩
    rintro σ H8 ⟨v9, v10, v11, rfl, s8, hd8⟩
    rw [Int.toNat_natCast] at hd8
    refine ⟨_, rfl, la, rfl, ⟨_, SqL.of (s8 _ _ hrs)⟩, ?_⟩
    refine comp_copy (s8 _ _ hrs) (hrw.same s8) (by omega) (fun H9 r ms R9 h9 hR9 => ⟨_, rfl, r, _, rfl, .inl (SqL.of h9), hR9⟩) (fun lh H9 qs s89 hlh hqs => ?_)
    have s910 : Same H9 (upd H9 lh (.lst (qs.map V.ref))) := Same.upd hlh
    have hTh : TabAt (upd H9 lh (.lst (qs.map V.ref))) lh Tb := ⟨qs, upd_same, hqs.same s910⟩
    generalize upd H9 lh (.lst (qs.map V.ref)) = H10 at s910 hTh ⊢
    have s810 := s89.trans s910
    have s610 := s8.trans s810
    refine ⟨_, rfl, l5, _, rfl, .inl (SqL.of (s610 _ _ hps)), fun lr hlr => ?_⟩
    have s1011 : Same H10 (upd H10 lr (.lst (ps.map V.ref))) := Same.upd hlr
    have hRh : WordsAt (upd H10 lr (.lst (ps.map V.ref))) lr R5 := ⟨ps, upd_same, (hpt.same s610).same s1011⟩
    generalize upd H10 lr (.lst (ps.map V.ref)) = H11 at s1011 hRh ⊢
    have s611 := s610.trans s1011
    refine ⟨by show 2 ≤ sizeLine; decide, fun hh hhh => ?_⟩
    have s1112 : Same H11 (upd H11 hh (.tup [.ref lh, .ref lr])) := Same.upd hhh
    have hh12 : upd H11 hh (.tup [.ref lh, .ref lr]) hh = some (.tup [.ref lh, .ref lr]) := upd_same
    generalize upd H11 hh (.tup [.ref lh, .ref lr]) = H12 at s1112 hh12 ⊢
    have s612 := s611.trans s1112
    have hTh12 := (hTh.same s1011).same s1112
    have hRh12 := hRh.same s1112
    refine ⟨_, rfl, hh, _, _, _, rfl, rfl, SqT.of hh12, atI_nat (j := 0) rfl, _, rfl, hh, _, _, _, rfl, rfl, SqT.of hh12, atI_nat (j := 1) rfl, ?_⟩
    refine ⟨lh, lr, Tb, R5, rows.length, rfl, hTh12, hT, hF, hRh12, fun u hu => ⟨(hRs5 u hu).1, by have := (hRs5 u hu).2; omega⟩, by omega, fun lf ws1 H13 s13 hLW1 hf => ?_⟩
    have e1 : ws = ws1 := lw_one hT hF hLw hLW1.lw
    subst e1
    rw [← hJ] at hf
    have s613 := s612.trans s13
    refine ⟨_, rfl, _, rfl, lf, du, _, rfl, hf, hd8.same (((s810.trans s1011).trans s1112).trans s13), true, rfl, iteT ?_⟩
    refine ⟨_, rfl, _, rfl, _, rfl, by show 2 ≤ sizeLine; decide, fun q hq => ?_⟩
    have s14 := Same.upd (o := .tup [.ref la, .ref l5]) hq
    refine ⟨hh, q, lh, lr, la, l5, Tb, R5, rfl, rfl, s14 _ _ (s13 _ _ hh12), upd_same, (hTh12.same s13).same s14, (hTa6.same s613).same s14, (hRh12.same s13).same s14, (hR6.same s613).same s14, ?_⟩
    exact k _
end
theorem all_mk {l : PySem.W.OpenLaw} {w : World} {K : PySem.W.Frag} {h : Heap} {mg : Str → Option Value} {fa : Addr} (X : K.In h) (G : h.Ns mainGlobals mg) (hfa : mg "law" = some (.ref fa))
    {f1 : Addr} {od1 an1 : Option Addr} {sl1 : Array (Option Value)} {oc1 kV1 dc1 pm1 cd1 ct1 : Value} {f2 : Addr} {od2 an2 : Option Addr} {sl2 : Array (Option Value)} {oc2 kV2 dc2 pm2 cd2 ct2 : Value} {f3 : Addr} {od3 an3 : Option Addr} {sl3 : Array (Option Value)} {oc3 kV3 dc3 pm3 cd3 ct3 : Value} {f4 : Addr} {od4 an4 : Option Addr} {sl4 : Array (Option Value)} {oc4 kV4 dc4 pm4 cd4 ct4 : Value} {f5 : Addr} {od5 an5 : Option Addr} {sl5 : Array (Option Value)} {oc5 kV5 dc5 pm5 cd5 ct5 : Value} {f6 : Addr} {od6 an6 : Option Addr} {sl6 : Array (Option Value)} {oc6 kV6 dc6 pm6 cd6 ct6 : Value} {f7 : Addr} {od7 an7 : Option Addr} {sl7 : Array (Option Value)} {oc7 kV7 dc7 pm7 cd7 ct7 : Value} {f8 : Addr} {od8 an8 : Option Addr} {sl8 : Array (Option Value)} {oc8 kV8 dc8 pm8 cd8 ct8 : Value} {f9 : Addr} {od9 an9 : Option Addr} {sl9 : Array (Option Value)} {oc9 kV9 dc9 pm9 cd9 ct9 : Value} {f10 : Addr} {od10 an10 : Option Addr} {sl10 : Array (Option Value)} {oc10 kV10 dc10 pm10 cd10 ct10 : Value} {f11 : Addr} {od11 an11 : Option Addr} {sl11 : Array (Option Value)} {oc11 kV11 dc11 pm11 cd11 ct11 : Value} {f12 : Addr} {od12 an12 : Option Addr} {sl12 : Array (Option Value)} {oc12 kV12 dc12 pm12 cd12 ct12 : Value} {f13 : Addr} {od13 an13 : Option Addr} {sl13 : Array (Option Value)} {oc13 kV13 dc13 pm13 cd13 ct13 : Value} {f14 : Addr} {od14 an14 : Option Addr} {sl14 : Array (Option Value)} {oc14 kV14 dc14 pm14 cd14 ct14 : Value} {f15 : Addr} {od15 an15 : Option Addr} {sl15 : Array (Option Value)} {oc15 kV15 dc15 pm15 cd15 ct15 : Value} {f16 : Addr} {od16 an16 : Option Addr} {sl16 : Array (Option Value)} {oc16 kV16 dc16 pm16 cd16 ct16 : Value} {f17 : Addr} {od17 an17 : Option Addr} {sl17 : Array (Option Value)} {oc17 kV17 dc17 pm17 cd17 ct17 : Value} {f18 : Addr} {od18 an18 : Option Addr} {sl18 : Array (Option Value)} {oc18 kV18 dc18 pm18 cd18 ct18 : Value} {f19 : Addr} {od19 an19 : Option Addr} {sl19 : Array (Option Value)} {oc19 kV19 dc19 pm19 cd19 ct19 : Value} {f20 : Addr} {od20 an20 : Option Addr} {sl20 : Array (Option Value)} {oc20 kV20 dc20 pm20 cd20 ct20 : Value} {f21 : Addr} {od21 an21 : Option Addr} {sl21 : Array (Option Value)} {oc21 kV21 dc21 pm21 cd21 ct21 : Value} {f22 : Addr} {od22 an22 : Option Addr} {sl22 : Array (Option Value)} {oc22 kV22 dc22 pm22 cd22 ct22 : Value} {f23 : Addr} {od23 an23 : Option Addr} {sl23 : Array (Option Value)} {oc23 kV23 dc23 pm23 cd23 ct23 : Value} {f24 : Addr} {od24 an24 : Option Addr} {sl24 : Array (Option Value)} {oc24 kV24 dc24 pm24 cd24 ct24 : Value} {f25 : Addr} {od25 an25 : Option Addr} {sl25 : Array (Option Value)} {oc25 kV25 dc25 pm25 cd25 ct25 : Value} {f26 : Addr} {od26 an26 : Option Addr} {sl26 : Array (Option Value)} {oc26 kV26 dc26 pm26 cd26 ct26 : Value}
    (a1 : PySem.W.nsIn K mainGlobals "steps_of" = some (some (.ref f1))) (l1 : K.lookup f1 = some ⟨oc1, od1, .func (PySem.W.fnOf "steps_of" "steps_of" (defArgs s_steps_of) (defBody s_steps_of) (defScope s_steps_of) .none kV1 dc1 pm1 an1 cd1 ct1), sl1⟩) (c1 : PySem.W.codeIn K cd1 "steps_of" = true) (k1 : PySem.W.keepIn K (.ref f1) = true)
    (a2 : PySem.W.nsIn K mainGlobals "thinned" = some (some (.ref f2))) (l2 : K.lookup f2 = some ⟨oc2, od2, .func (PySem.W.fnOf "thinned" "thinned" (defArgs s_thinned) (defBody s_thinned) (defScope s_thinned) .none kV2 dc2 pm2 an2 cd2 ct2), sl2⟩) (c2 : PySem.W.codeIn K cd2 "thinned" = true) (k2 : PySem.W.keepIn K (.ref f2) = true)
    (a3 : PySem.W.nsIn K mainGlobals "place_of" = some (some (.ref f3))) (l3 : K.lookup f3 = some ⟨oc3, od3, .func (PySem.W.fnOf "place_of" "place_of" (defArgs s_place_of) (defBody s_place_of) (defScope s_place_of) .none kV3 dc3 pm3 an3 cd3 ct3), sl3⟩) (c3 : PySem.W.codeIn K cd3 "place_of" = true) (k3 : PySem.W.keepIn K (.ref f3) = true)
    (a4 : PySem.W.nsIn K mainGlobals "least_ways" = some (some (.ref f4))) (l4 : K.lookup f4 = some ⟨oc4, od4, .func (PySem.W.fnOf "least_ways" "least_ways" (defArgs s_least_ways) (defBody s_least_ways) (defScope s_least_ways) .none kV4 dc4 pm4 an4 cd4 ct4), sl4⟩) (c4 : PySem.W.codeIn K cd4 "least_ways" = true) (k4 : PySem.W.keepIn K (.ref f4) = true)
    (a5 : PySem.W.nsIn K mainGlobals "inner_letters" = some (some (.ref f5))) (l5 : K.lookup f5 = some ⟨oc5, od5, .func (PySem.W.fnOf "inner_letters" "inner_letters" (defArgs s_inner_letters) (defBody s_inner_letters) (defScope s_inner_letters) .none kV5 dc5 pm5 an5 cd5 ct5), sl5⟩) (c5 : PySem.W.codeIn K cd5 "inner_letters" = true) (k5 : PySem.W.keepIn K (.ref f5) = true)
    (a6 : PySem.W.nsIn K mainGlobals "inner_rules" = some (some (.ref f6))) (l6 : K.lookup f6 = some ⟨oc6, od6, .func (PySem.W.fnOf "inner_rules" "inner_rules" (defArgs s_inner_rules) (defBody s_inner_rules) (defScope s_inner_rules) .none kV6 dc6 pm6 an6 cd6 ct6), sl6⟩) (c6 : PySem.W.codeIn K cd6 "inner_rules" = true) (k6 : PySem.W.keepIn K (.ref f6) = true)
    (a7 : PySem.W.nsIn K mainGlobals "is_tree_way" = some (some (.ref f7))) (l7 : K.lookup f7 = some ⟨oc7, od7, .func (PySem.W.fnOf "is_tree_way" "is_tree_way" (defArgs s_is_tree_way) (defBody s_is_tree_way) (defScope s_is_tree_way) .none kV7 dc7 pm7 an7 cd7 ct7), sl7⟩) (c7 : PySem.W.codeIn K cd7 "is_tree_way" = true) (k7 : PySem.W.keepIn K (.ref f7) = true)
    (a8 : PySem.W.nsIn K mainGlobals "inner_numbers" = some (some (.ref f8))) (l8 : K.lookup f8 = some ⟨oc8, od8, .func (PySem.W.fnOf "inner_numbers" "inner_numbers" (defArgs s_inner_numbers) (defBody s_inner_numbers) (defScope s_inner_numbers) .none kV8 dc8 pm8 an8 cd8 ct8), sl8⟩) (c8 : PySem.W.codeIn K cd8 "inner_numbers" = true) (k8 : PySem.W.keepIn K (.ref f8) = true)
    (a9 : PySem.W.nsIn K mainGlobals "places_of" = some (some (.ref f9))) (l9 : K.lookup f9 = some ⟨oc9, od9, .func (PySem.W.fnOf "places_of" "places_of" (defArgs s_places_of) (defBody s_places_of) (defScope s_places_of) .none kV9 dc9 pm9 an9 cd9 ct9), sl9⟩) (c9 : PySem.W.codeIn K cd9 "places_of" = true) (k9 : PySem.W.keepIn K (.ref f9) = true)
    (a10 : PySem.W.nsIn K mainGlobals "told_by" = some (some (.ref f10))) (l10 : K.lookup f10 = some ⟨oc10, od10, .func (PySem.W.fnOf "told_by" "told_by" (defArgs s_told_by) (defBody s_told_by) (defScope s_told_by) .none kV10 dc10 pm10 an10 cd10 ct10), sl10⟩) (c10 : PySem.W.codeIn K cd10 "told_by" = true) (k10 : PySem.W.keepIn K (.ref f10) = true)
    (a11 : PySem.W.nsIn K mainGlobals "_law_cell_at" = some (some (.ref f11))) (l11 : K.lookup f11 = some ⟨oc11, od11, .func (PySem.W.fnOf "_law_cell_at" "_law_cell_at" (defArgs s__law_cell_at) (defBody s__law_cell_at) (defScope s__law_cell_at) .none kV11 dc11 pm11 an11 cd11 ct11), sl11⟩) (c11 : PySem.W.codeIn K cd11 "_law_cell_at" = true) (k11 : PySem.W.keepIn K (.ref f11) = true)
    (a12 : PySem.W.nsIn K mainGlobals "_law_whole" = some (some (.ref f12))) (l12 : K.lookup f12 = some ⟨oc12, od12, .func (PySem.W.fnOf "_law_whole" "_law_whole" (defArgs s__law_whole) (defBody s__law_whole) (defScope s__law_whole) .none kV12 dc12 pm12 an12 cd12 ct12), sl12⟩) (c12 : PySem.W.codeIn K cd12 "_law_whole" = true) (k12 : PySem.W.keepIn K (.ref f12) = true)
    (a13 : PySem.W.nsIn K mainGlobals "_law_turning" = some (some (.ref f13))) (l13 : K.lookup f13 = some ⟨oc13, od13, .func (PySem.W.fnOf "_law_turning" "_law_turning" (defArgs s__law_turning) (defBody s__law_turning) (defScope s__law_turning) .none kV13 dc13 pm13 an13 cd13 ct13), sl13⟩) (c13 : PySem.W.codeIn K cd13 "_law_turning" = true) (k13 : PySem.W.keepIn K (.ref f13) = true)
    (a14 : PySem.W.nsIn K mainGlobals "_law_moved" = some (some (.ref f14))) (l14 : K.lookup f14 = some ⟨oc14, od14, .func (PySem.W.fnOf "_law_moved" "_law_moved" (defArgs s__law_moved) (defBody s__law_moved) (defScope s__law_moved) .none kV14 dc14 pm14 an14 cd14 ct14), sl14⟩) (c14 : PySem.W.codeIn K cd14 "_law_moved" = true) (k14 : PySem.W.keepIn K (.ref f14) = true)
    (a15 : PySem.W.nsIn K mainGlobals "_law_rounds" = some (some (.ref f15))) (l15 : K.lookup f15 = some ⟨oc15, od15, .func (PySem.W.fnOf "_law_rounds" "_law_rounds" (defArgs s__law_rounds) (defBody s__law_rounds) (defScope s__law_rounds) .none kV15 dc15 pm15 an15 cd15 ct15), sl15⟩) (c15 : PySem.W.codeIn K cd15 "_law_rounds" = true) (k15 : PySem.W.keepIn K (.ref f15) = true)
    (a16 : PySem.W.nsIn K mainGlobals "_law_rules" = some (some (.ref f16))) (l16 : K.lookup f16 = some ⟨oc16, od16, .func (PySem.W.fnOf "_law_rules" "_law_rules" (defArgs s__law_rules) (defBody s__law_rules) (defScope s__law_rules) .none kV16 dc16 pm16 an16 cd16 ct16), sl16⟩) (c16 : PySem.W.codeIn K cd16 "_law_rules" = true) (k16 : PySem.W.keepIn K (.ref f16) = true)
    (a17 : PySem.W.nsIn K mainGlobals "_law_steps" = some (some (.ref f17))) (l17 : K.lookup f17 = some ⟨oc17, od17, .func (PySem.W.fnOf "_law_steps" "_law_steps" (defArgs s__law_steps) (defBody s__law_steps) (defScope s__law_steps) .none kV17 dc17 pm17 an17 cd17 ct17), sl17⟩) (c17 : PySem.W.codeIn K cd17 "_law_steps" = true) (k17 : PySem.W.keepIn K (.ref f17) = true)
    (a18 : PySem.W.nsIn K mainGlobals "_law_table_of" = some (some (.ref f18))) (l18 : K.lookup f18 = some ⟨oc18, od18, .func (PySem.W.fnOf "_law_table_of" "_law_table_of" (defArgs s__law_table_of) (defBody s__law_table_of) (defScope s__law_table_of) .none kV18 dc18 pm18 an18 cd18 ct18), sl18⟩) (c18 : PySem.W.codeIn K cd18 "_law_table_of" = true) (k18 : PySem.W.keepIn K (.ref f18) = true)
    (a19 : PySem.W.nsIn K mainGlobals "_law_thin" = some (some (.ref f19))) (l19 : K.lookup f19 = some ⟨oc19, od19, .func (PySem.W.fnOf "_law_thin" "_law_thin" (defArgs s__law_thin) (defBody s__law_thin) (defScope s__law_thin) .none kV19 dc19 pm19 an19 cd19 ct19), sl19⟩) (c19 : PySem.W.codeIn K cd19 "_law_thin" = true) (k19 : PySem.W.keepIn K (.ref f19) = true)
    (a20 : PySem.W.nsIn K mainGlobals "_law_back" = some (some (.ref f20))) (l20 : K.lookup f20 = some ⟨oc20, od20, .func (PySem.W.fnOf "_law_back" "_law_back" (defArgs s__law_back) (defBody s__law_back) (defScope s__law_back) .none kV20 dc20 pm20 an20 cd20 ct20), sl20⟩) (c20 : PySem.W.codeIn K cd20 "_law_back" = true) (k20 : PySem.W.keepIn K (.ref f20) = true)
    (a21 : PySem.W.nsIn K mainGlobals "_law_led" = some (some (.ref f21))) (l21 : K.lookup f21 = some ⟨oc21, od21, .func (PySem.W.fnOf "_law_led" "_law_led" (defArgs s__law_led) (defBody s__law_led) (defScope s__law_led) .none kV21 dc21 pm21 an21 cd21 ct21), sl21⟩) (c21 : PySem.W.codeIn K cd21 "_law_led" = true) (k21 : PySem.W.keepIn K (.ref f21) = true)
    (a22 : PySem.W.nsIn K mainGlobals "_law_inner" = some (some (.ref f22))) (l22 : K.lookup f22 = some ⟨oc22, od22, .func (PySem.W.fnOf "_law_inner" "_law_inner" (defArgs s__law_inner) (defBody s__law_inner) (defScope s__law_inner) .none kV22 dc22 pm22 an22 cd22 ct22), sl22⟩) (c22 : PySem.W.codeIn K cd22 "_law_inner" = true) (k22 : PySem.W.keepIn K (.ref f22) = true)
    (a23 : PySem.W.nsIn K mainGlobals "_law_drawn" = some (some (.ref f23))) (l23 : K.lookup f23 = some ⟨oc23, od23, .func (PySem.W.fnOf "_law_drawn" "_law_drawn" (defArgs s__law_drawn) (defBody s__law_drawn) (defScope s__law_drawn) .none kV23 dc23 pm23 an23 cd23 ct23), sl23⟩) (c23 : PySem.W.codeIn K cd23 "_law_drawn" = true) (k23 : PySem.W.keepIn K (.ref f23) = true)
    (a24 : PySem.W.nsIn K mainGlobals "_law_told" = some (some (.ref f24))) (l24 : K.lookup f24 = some ⟨oc24, od24, .func (PySem.W.fnOf "_law_told" "_law_told" (defArgs s__law_told) (defBody s__law_told) (defScope s__law_told) .none kV24 dc24 pm24 an24 cd24 ct24), sl24⟩) (c24 : PySem.W.codeIn K cd24 "_law_told" = true) (k24 : PySem.W.keepIn K (.ref f24) = true)
    (a25 : PySem.W.nsIn K mainGlobals "_law_alike" = some (some (.ref f25))) (l25 : K.lookup f25 = some ⟨oc25, od25, .func (PySem.W.fnOf "_law_alike" "_law_alike" (defArgs s__law_alike) (defBody s__law_alike) (defScope s__law_alike) .none kV25 dc25 pm25 an25 cd25 ct25), sl25⟩) (c25 : PySem.W.codeIn K cd25 "_law_alike" = true) (k25 : PySem.W.keepIn K (.ref f25) = true)
    (a26 : PySem.W.nsIn K mainGlobals "law" = some (some (.ref f26))) (l26 : K.lookup f26 = some ⟨oc26, od26, .func (PySem.W.fnOf "law" "law" (defArgs s_law) (defBody s_law) (defScope s_law) .none kV26 dc26 pm26 an26 cd26 ct26), sl26⟩) (c26 : PySem.W.codeIn K cd26 "law" = true) (k26 : PySem.W.keepIn K (.ref f26) = true)
    (z1 : PySem.W.nsIn K mainGlobals "zip" = some none)
    (z2 : PySem.W.nsIn K mainGlobals "abs" = some none)
    (z3 : PySem.W.nsIn K mainGlobals "range" = some none)
    (z4 : PySem.W.nsIn K mainGlobals "len" = some none)
    (z5 : PySem.W.nsIn K mainGlobals "tuple" = some none)
    (z6 : PySem.W.nsIn K mainGlobals "list" = some none)
    (z7 : PySem.W.nsIn K mainGlobals "isinstance" = some none)
    (z8 : PySem.W.nsIn K mainGlobals "int" = some none)
    (z9 : PySem.W.nsIn K mainGlobals "bool" = some none)
    (z10 : PySem.W.nsIn K mainGlobals "enumerate" = some none)
    : ∃ fd : FuncData, (∀ (s : Shared) (v : Value), BindsTo s fd ⟨[v], []⟩ [("_law_script", v)]) ∧ ∀ base : Heap, K.In base → base.Ns mainGlobals mg → FnOk l.prog w K mg base CX0 9 fa fd ["_law_script"] (spLaw K) := by
  have e := hfa.symm.trans (PySem.W.mg_of X G a26)
  cases e
  have F1 := fun_mk (st := s_steps_of) l1 c1 k1
  have D1 : Def K mg "steps_of" s_steps_of ["letters"] _ _ := ⟨F1, PySem.W.mg_of X G a1, F1.binds (ps := ["letters"]) fun _ _ _ _ _ _ us hl => match us, hl with | [_], _ => rfl⟩
  have F2 := fun_mk (st := s_thinned) l2 c2 k2
  have D2 : Def K mg "thinned" s_thinned ["word"] _ _ := ⟨F2, PySem.W.mg_of X G a2, F2.binds (ps := ["word"]) fun _ _ _ _ _ _ us hl => match us, hl with | [_], _ => rfl⟩
  have F3 := fun_mk (st := s_place_of) l3 c3 k3
  have D3 : Def K mg "place_of" s_place_of ["step"] _ _ := ⟨F3, PySem.W.mg_of X G a3, F3.binds (ps := ["step"]) fun _ _ _ _ _ _ us hl => match us, hl with | [_], _ => rfl⟩
  have F4 := fun_mk (st := s_least_ways) l4 c4 k4
  have D4 : Def K mg "least_ways" s_least_ways ["table"] _ _ := ⟨F4, PySem.W.mg_of X G a4, F4.binds (ps := ["table"]) fun _ _ _ _ _ _ us hl => match us, hl with | [_], _ => rfl⟩
  have F5 := fun_mk (st := s_inner_letters) l5 c5 k5
  have D5 : Def K mg "inner_letters" s_inner_letters ["table"] _ _ := ⟨F5, PySem.W.mg_of X G a5, F5.binds (ps := ["table"]) fun _ _ _ _ _ _ us hl => match us, hl with | [_], _ => rfl⟩
  have F6 := fun_mk (st := s_inner_rules) l6 c6 k6
  have D6 : Def K mg "inner_rules" s_inner_rules ["table", "rules"] _ _ := ⟨F6, PySem.W.mg_of X G a6, F6.binds (ps := ["table", "rules"]) fun _ _ _ _ _ _ us hl => match us, hl with | [_, _], _ => rfl⟩
  have F7 := fun_mk (st := s_is_tree_way) l7 c7 k7
  have D7 : Def K mg "is_tree_way" s_is_tree_way ["ways", "room", "step", "other"] _ _ := ⟨F7, PySem.W.mg_of X G a7, F7.binds (ps := ["ways", "room", "step", "other"]) fun _ _ _ _ _ _ us hl => match us, hl with | [_, _, _, _], _ => rfl⟩
  have F8 := fun_mk (st := s_inner_numbers) l8 c8 k8
  have D8 : Def K mg "inner_numbers" s_inner_numbers ["table"] _ _ := ⟨F8, PySem.W.mg_of X G a8, F8.binds (ps := ["table"]) fun _ _ _ _ _ _ us hl => match us, hl with | [_], _ => rfl⟩
  have F9 := fun_mk (st := s_places_of) l9 c9 k9
  have D9 : Def K mg "places_of" s_places_of ["word"] _ _ := ⟨F9, PySem.W.mg_of X G a9, F9.binds (ps := ["word"]) fun _ _ _ _ _ _ us hl => match us, hl with | [_], _ => rfl⟩
  have F10 := fun_mk (st := s_told_by) l10 c10 k10
  have D10 : Def K mg "told_by" s_told_by ["numbers", "table", "room", "places"] _ _ := ⟨F10, PySem.W.mg_of X G a10, F10.binds (ps := ["numbers", "table", "room", "places"]) fun _ _ _ _ _ _ us hl => match us, hl with | [_, _, _, _], _ => rfl⟩
  have F11 := fun_mk (st := s__law_cell_at) l11 c11 k11
  have D11 : Def K mg "_law_cell_at" s__law_cell_at ["_law_script", "_law_k"] _ _ := ⟨F11, PySem.W.mg_of X G a11, F11.binds (ps := ["_law_script", "_law_k"]) fun _ _ _ _ _ _ us hl => match us, hl with | [_, _], _ => rfl⟩
  have F12 := fun_mk (st := s__law_whole) l12 c12 k12
  have D12 : Def K mg "_law_whole" s__law_whole ["_law_found"] _ _ := ⟨F12, PySem.W.mg_of X G a12, F12.binds (ps := ["_law_found"]) fun _ _ _ _ _ _ us hl => match us, hl with | [_], _ => rfl⟩
  have F13 := fun_mk (st := s__law_turning) l13 c13 k13
  have D13 : Def K mg "_law_turning" s__law_turning ["_law_number", "_law_many", "_law_plain"] _ _ := ⟨F13, PySem.W.mg_of X G a13, F13.binds (ps := ["_law_number", "_law_many", "_law_plain"]) fun _ _ _ _ _ _ us hl => match us, hl with | [_, _, _], _ => rfl⟩
  have F14 := fun_mk (st := s__law_moved) l14 c14 k14
  have D14 : Def K mg "_law_moved" s__law_moved ["_law_turns", "_law_point", "_law_word"] _ _ := ⟨F14, PySem.W.mg_of X G a14, F14.binds (ps := ["_law_turns", "_law_point", "_law_word"]) fun _ _ _ _ _ _ us hl => match us, hl with | [_, _, _], _ => rfl⟩
  have F15 := fun_mk (st := s__law_rounds) l15 c15 k15
  have D15 : Def K mg "_law_rounds" s__law_rounds ["_law_turns", "_law_points", "_law_word"] _ _ := ⟨F15, PySem.W.mg_of X G a15, F15.binds (ps := ["_law_turns", "_law_points", "_law_word"]) fun _ _ _ _ _ _ us hl => match us, hl with | [_, _, _], _ => rfl⟩
  have F16 := fun_mk (st := s__law_rules) l16 c16 k16
  have D16 : Def K mg "_law_rules" s__law_rules ["_law_turns", "_law_letters", "_law_mask", "_law_room"] _ _ := ⟨F16, PySem.W.mg_of X G a16, F16.binds (ps := ["_law_turns", "_law_letters", "_law_mask", "_law_room"]) fun _ _ _ _ _ _ us hl => match us, hl with | [_, _, _, _], _ => rfl⟩
  have F17 := fun_mk (st := s__law_steps) l17 c17 k17
  have D17 : Def K mg "_law_steps" s__law_steps ["_law_letters"] _ _ := ⟨F17, PySem.W.mg_of X G a17, F17.binds (ps := ["_law_letters"]) fun _ _ _ _ _ _ us hl => match us, hl with | [_], _ => rfl⟩
  have F18 := fun_mk (st := s__law_table_of) l18 c18 k18
  have D18 : Def K mg "_law_table_of" s__law_table_of ["_law_turns", "_law_letters", "_law_first"] _ _ := ⟨F18, PySem.W.mg_of X G a18, F18.binds (ps := ["_law_turns", "_law_letters", "_law_first"]) fun _ _ _ _ _ _ us hl => match us, hl with | [_, _, _], _ => rfl⟩
  have F19 := fun_mk (st := s__law_thin) l19 c19 k19
  have D19 : Def K mg "_law_thin" s__law_thin ["_law_word"] _ _ := ⟨F19, PySem.W.mg_of X G a19, F19.binds (ps := ["_law_word"]) fun _ _ _ _ _ _ us hl => match us, hl with | [_], _ => rfl⟩
  have F20 := fun_mk (st := s__law_back) l20 c20 k20
  have D20 : Def K mg "_law_back" s__law_back ["_law_word"] _ _ := ⟨F20, PySem.W.mg_of X G a20, F20.binds (ps := ["_law_word"]) fun _ _ _ _ _ _ us hl => match us, hl with | [_], _ => rfl⟩
  have F21 := fun_mk (st := s__law_led) l21 c21 k21
  have D21 : Def K mg "_law_led" s__law_led ["_law_table", "_law_room", "_law_word"] _ _ := ⟨F21, PySem.W.mg_of X G a21, F21.binds (ps := ["_law_table", "_law_room", "_law_word"]) fun _ _ _ _ _ _ us hl => match us, hl with | [_, _, _], _ => rfl⟩
  have F22 := fun_mk (st := s__law_inner) l22 c22 k22
  have D22 : Def K mg "_law_inner" s__law_inner ["_law_table", "_law_ways"] _ _ := ⟨F22, PySem.W.mg_of X G a22, F22.binds (ps := ["_law_table", "_law_ways"]) fun _ _ _ _ _ _ us hl => match us, hl with | [_, _], _ => rfl⟩
  have F23 := fun_mk (st := s__law_drawn) l23 c23 k23
  have D23 : Def K mg "_law_drawn" s__law_drawn ["_law_script"] _ _ := ⟨F23, PySem.W.mg_of X G a23, F23.binds (ps := ["_law_script"]) fun _ _ _ _ _ _ us hl => match us, hl with | [_], _ => rfl⟩
  have F24 := fun_mk (st := s__law_told) l24 c24 k24
  have D24 : Def K mg "_law_told" s__law_told ["_law_table", "_law_letters", "_law_room", "_law_word"] _ _ := ⟨F24, PySem.W.mg_of X G a24, F24.binds (ps := ["_law_table", "_law_letters", "_law_room", "_law_word"]) fun _ _ _ _ _ _ us hl => match us, hl with | [_, _, _, _], _ => rfl⟩
  have F25 := fun_mk (st := s__law_alike) l25 c25 k25
  have D25 : Def K mg "_law_alike" s__law_alike ["_law_found", "_law_due"] _ _ := ⟨F25, PySem.W.mg_of X G a25, F25.binds (ps := ["_law_found", "_law_due"]) fun _ _ _ _ _ _ us hl => match us, hl with | [_, _], _ => rfl⟩
  have F26 := fun_mk (st := s_law) l26 c26 k26
  have D26 : Def K mg "law" s_law ["_law_script"] _ _ := ⟨F26, PySem.W.mg_of X G a26, F26.binds (ps := ["_law_script"]) fun _ _ _ _ _ _ us hl => match us, hl with | [_], _ => rfl⟩
  have T : Txt K mg ⟨f1, PySem.W.fnOf "steps_of" "steps_of" (defArgs s_steps_of) (defBody s_steps_of) (defScope s_steps_of) .none kV1 dc1 pm1 an1 cd1 ct1, f2, PySem.W.fnOf "thinned" "thinned" (defArgs s_thinned) (defBody s_thinned) (defScope s_thinned) .none kV2 dc2 pm2 an2 cd2 ct2, f3, PySem.W.fnOf "place_of" "place_of" (defArgs s_place_of) (defBody s_place_of) (defScope s_place_of) .none kV3 dc3 pm3 an3 cd3 ct3, f4, PySem.W.fnOf "least_ways" "least_ways" (defArgs s_least_ways) (defBody s_least_ways) (defScope s_least_ways) .none kV4 dc4 pm4 an4 cd4 ct4, f5, PySem.W.fnOf "inner_letters" "inner_letters" (defArgs s_inner_letters) (defBody s_inner_letters) (defScope s_inner_letters) .none kV5 dc5 pm5 an5 cd5 ct5, f6, PySem.W.fnOf "inner_rules" "inner_rules" (defArgs s_inner_rules) (defBody s_inner_rules) (defScope s_inner_rules) .none kV6 dc6 pm6 an6 cd6 ct6, f7, PySem.W.fnOf "is_tree_way" "is_tree_way" (defArgs s_is_tree_way) (defBody s_is_tree_way) (defScope s_is_tree_way) .none kV7 dc7 pm7 an7 cd7 ct7, f8, PySem.W.fnOf "inner_numbers" "inner_numbers" (defArgs s_inner_numbers) (defBody s_inner_numbers) (defScope s_inner_numbers) .none kV8 dc8 pm8 an8 cd8 ct8, f9, PySem.W.fnOf "places_of" "places_of" (defArgs s_places_of) (defBody s_places_of) (defScope s_places_of) .none kV9 dc9 pm9 an9 cd9 ct9, f10, PySem.W.fnOf "told_by" "told_by" (defArgs s_told_by) (defBody s_told_by) (defScope s_told_by) .none kV10 dc10 pm10 an10 cd10 ct10, f11, PySem.W.fnOf "_law_cell_at" "_law_cell_at" (defArgs s__law_cell_at) (defBody s__law_cell_at) (defScope s__law_cell_at) .none kV11 dc11 pm11 an11 cd11 ct11, f12, PySem.W.fnOf "_law_whole" "_law_whole" (defArgs s__law_whole) (defBody s__law_whole) (defScope s__law_whole) .none kV12 dc12 pm12 an12 cd12 ct12, f13, PySem.W.fnOf "_law_turning" "_law_turning" (defArgs s__law_turning) (defBody s__law_turning) (defScope s__law_turning) .none kV13 dc13 pm13 an13 cd13 ct13, f14, PySem.W.fnOf "_law_moved" "_law_moved" (defArgs s__law_moved) (defBody s__law_moved) (defScope s__law_moved) .none kV14 dc14 pm14 an14 cd14 ct14, f15, PySem.W.fnOf "_law_rounds" "_law_rounds" (defArgs s__law_rounds) (defBody s__law_rounds) (defScope s__law_rounds) .none kV15 dc15 pm15 an15 cd15 ct15, f16, PySem.W.fnOf "_law_rules" "_law_rules" (defArgs s__law_rules) (defBody s__law_rules) (defScope s__law_rules) .none kV16 dc16 pm16 an16 cd16 ct16, f17, PySem.W.fnOf "_law_steps" "_law_steps" (defArgs s__law_steps) (defBody s__law_steps) (defScope s__law_steps) .none kV17 dc17 pm17 an17 cd17 ct17, f18, PySem.W.fnOf "_law_table_of" "_law_table_of" (defArgs s__law_table_of) (defBody s__law_table_of) (defScope s__law_table_of) .none kV18 dc18 pm18 an18 cd18 ct18, f19, PySem.W.fnOf "_law_thin" "_law_thin" (defArgs s__law_thin) (defBody s__law_thin) (defScope s__law_thin) .none kV19 dc19 pm19 an19 cd19 ct19, f20, PySem.W.fnOf "_law_back" "_law_back" (defArgs s__law_back) (defBody s__law_back) (defScope s__law_back) .none kV20 dc20 pm20 an20 cd20 ct20, f21, PySem.W.fnOf "_law_led" "_law_led" (defArgs s__law_led) (defBody s__law_led) (defScope s__law_led) .none kV21 dc21 pm21 an21 cd21 ct21, f22, PySem.W.fnOf "_law_inner" "_law_inner" (defArgs s__law_inner) (defBody s__law_inner) (defScope s__law_inner) .none kV22 dc22 pm22 an22 cd22 ct22, f23, PySem.W.fnOf "_law_drawn" "_law_drawn" (defArgs s__law_drawn) (defBody s__law_drawn) (defScope s__law_drawn) .none kV23 dc23 pm23 an23 cd23 ct23, f24, PySem.W.fnOf "_law_told" "_law_told" (defArgs s__law_told) (defBody s__law_told) (defScope s__law_told) .none kV24 dc24 pm24 an24 cd24 ct24, f25, PySem.W.fnOf "_law_alike" "_law_alike" (defArgs s__law_alike) (defBody s__law_alike) (defScope s__law_alike) .none kV25 dc25 pm25 an25 cd25 ct25, fa, PySem.W.fnOf "law" "law" (defArgs s_law) (defBody s_law) (defScope s_law) .none kV26 dc26 pm26 an26 cd26 ct26⟩ := ⟨D1, D2, D3, D4, D5, D6, D7, D8, D9, D10, D11, D12, D13, D14, D15, D16, D17, D18, D19, D20, D21, D22, D23, D24, D25, D26, PySem.W.mg_none_of X G z1, PySem.W.mg_none_of X G z2, PySem.W.mg_none_of X G z3, PySem.W.mg_none_of X G z4, PySem.W.mg_none_of X G z5, PySem.W.mg_none_of X G z6, PySem.W.mg_none_of X G z7, PySem.W.mg_none_of X G z8, PySem.W.mg_none_of X G z9, PySem.W.mg_none_of X G z10⟩
  exact ⟨_, fun s v => .of_eq rfl, fun base _ _ => ok_law T⟩
theorem walk {l : PySem.W.OpenLaw} {q : Program} {loose : List Str} {XP : (Str → Option Value) → Heap → Prop} {YP : World → Heap → Prop} {d : DefRec} {K : Params → PySem.W.Frag} (hn : l.most = some 63) (hdf : d.params.defaults = [])
    (hY : ∀ (w : World) (h : Heap), YP w h → (K w.params).In h)
    (F : ∀ (w : World) (mg : Str → Option Value) (fa : Addr) (h : Heap), (K w.params).In h → h.Ns mainGlobals mg → mg d.name = some (.ref fa) →
      ∃ fd : FuncData, (∀ (s : Shared) (u : Value), BindsTo s fd ⟨[u], []⟩ [("_law_script", u)]) ∧ ∀ base : Heap, (K w.params).In base → base.Ns mainGlobals mg → FnOk l.prog w (K w.params) mg base CX0 9 fa fd ["_law_script"] (spLaw (K w.params))) :
    PySem.W.WalkO q loose XP YP l.row.toRowW d [] (fun f vs => PySem.call f vs) :=
  L2.walk_of (n := 63) (k := 9) (x := "_law_script") (CX := fun w => CX0) (sp := fun w => spLaw (K w.params)) hn (by decide) hdf ⟨rfl, by decide, by decide⟩ hY F (fun _ _ a ns hl _ hS => ⟨a, ns, rfl, hS, hl, fun _ => rfl⟩) fun _ _ _ _ _ z => z
end K63
open PySem PySem.W PyProof.Rows
set_option maxRecDepth 100000 in
set_option maxHeartbeats 0 in
theorem PySem.Challenge.cw_cosetyard_k63_inner_rules_holds : PySem.Challenge.rw_cosetyard_k63_inner_rules.Holds := by
  w_on; o_law; k_head; (case hw => w_witness2)
  k_fill
  refine K63.walk (l := PySem.Challenge.rw_cosetyard_k63_inner_rules) rfl rfl (fun w h Y => PySem.W.kIn_of Y) ?F
  case F =>
    intro w mg fa h KX G hmg
    refine' K63.all_mk KX G hmg ?a1 ?l1 ?c1 ?k1 ?a2 ?l2 ?c2 ?k2 ?a3 ?l3 ?c3 ?k3 ?a4 ?l4 ?c4 ?k4 ?a5 ?l5 ?c5 ?k5 ?a6 ?l6 ?c6 ?k6 ?a7 ?l7 ?c7 ?k7 ?a8 ?l8 ?c8 ?k8 ?a9 ?l9 ?c9 ?k9 ?a10 ?l10 ?c10 ?k10 ?a11 ?l11 ?c11 ?k11 ?a12 ?l12 ?c12 ?k12 ?a13 ?l13 ?c13 ?k13 ?a14 ?l14 ?c14 ?k14 ?a15 ?l15 ?c15 ?k15 ?a16 ?l16 ?c16 ?k16 ?a17 ?l17 ?c17 ?k17 ?a18 ?l18 ?c18 ?k18 ?a19 ?l19 ?c19 ?k19 ?a20 ?l20 ?c20 ?k20 ?a21 ?l21 ?c21 ?k21 ?a22 ?l22 ?c22 ?k22 ?a23 ?l23 ?c23 ?k23 ?a24 ?l24 ?c24 ?k24 ?a25 ?l25 ?c25 ?k25 ?a26 ?l26 ?c26 ?k26 ?z1 ?z2 ?z3 ?z4 ?z5 ?z6 ?z7 ?z8 ?z9 ?z10
    (case a1 => k_is)
    (case l1 => k_is)
    (case c1 => k_is)
    (case k1 => k_is)
    (case a2 => k_is)
    (case l2 => k_is)
    (case c2 => k_is)
    (case k2 => k_is)
    (case a3 => k_is)
    (case l3 => k_is)
    (case c3 => k_is)
    (case k3 => k_is)
    (case a4 => k_is)
    (case l4 => k_is)
    (case c4 => k_is)
    (case k4 => k_is)
    (case a5 => k_is)
    (case l5 => k_is)
    (case c5 => k_is)
    (case k5 => k_is)
    (case a6 => k_is)
    (case l6 => k_is)
    (case c6 => k_is)
    (case k6 => k_is)
    (case a7 => k_is)
    (case l7 => k_is)
    (case c7 => k_is)
    (case k7 => k_is)
    (case a8 => k_is)
    (case l8 => k_is)
    (case c8 => k_is)
    (case k8 => k_is)
    (case a9 => k_is)
    (case l9 => k_is)
    (case c9 => k_is)
    (case k9 => k_is)
    (case a10 => k_is)
    (case l10 => k_is)
    (case c10 => k_is)
    (case k10 => k_is)
    (case a11 => k_is)
    (case l11 => k_is)
    (case c11 => k_is)
    (case k11 => k_is)
    (case a12 => k_is)
    (case l12 => k_is)
    (case c12 => k_is)
    (case k12 => k_is)
    (case a13 => k_is)
    (case l13 => k_is)
    (case c13 => k_is)
    (case k13 => k_is)
    (case a14 => k_is)
    (case l14 => k_is)
    (case c14 => k_is)
    (case k14 => k_is)
    (case a15 => k_is)
    (case l15 => k_is)
    (case c15 => k_is)
    (case k15 => k_is)
    (case a16 => k_is)
    (case l16 => k_is)
    (case c16 => k_is)
    (case k16 => k_is)
    (case a17 => k_is)
    (case l17 => k_is)
    (case c17 => k_is)
    (case k17 => k_is)
    (case a18 => k_is)
    (case l18 => k_is)
    (case c18 => k_is)
    (case k18 => k_is)
    (case a19 => k_is)
    (case l19 => k_is)
    (case c19 => k_is)
    (case k19 => k_is)
    (case a20 => k_is)
    (case l20 => k_is)
    (case c20 => k_is)
    (case k20 => k_is)
    (case a21 => k_is)
    (case l21 => k_is)
    (case c21 => k_is)
    (case k21 => k_is)
    (case a22 => k_is)
    (case l22 => k_is)
    (case c22 => k_is)
    (case k22 => k_is)
    (case a23 => k_is)
    (case l23 => k_is)
    (case c23 => k_is)
    (case k23 => k_is)
    (case a24 => k_is)
    (case l24 => k_is)
    (case c24 => k_is)
    (case k24 => k_is)
    (case a25 => k_is)
    (case l25 => k_is)
    (case c25 => k_is)
    (case k25 => k_is)
    (case a26 => k_is)
    (case l26 => k_is)
    (case c26 => k_is)
    (case k26 => k_is)
    (case z1 => k_is)
    (case z2 => k_is)
    (case z3 => k_is)
    (case z4 => k_is)
    (case z5 => k_is)
    (case z6 => k_is)
    (case z7 => k_is)
    (case z8 => k_is)
    (case z9 => k_is)
    (case z10 => k_is)
