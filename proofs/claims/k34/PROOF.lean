import PyProof.Rows.All
import Wide.All
import OpenK.AllK
import Wide.FinOn
import KE.KUnpack
import KE.KLam
import KE.KRevIter
import KE.KDictOf
import PyProof.AttrMissSeq
import KE.KDictList
import KE.LcSums
import KE.KSortTup
import KE.KIntText
import PyProof.StrLawsTight
import PyProof.StrLawsChain
import PyProof.Rows.StrItems
import PyProof.NeKinds
import PyProof.Rows.SetFrom
import PyProof.DictFindH
import Lean
import PyProof.EqAt
import PyProof.EqKinds
import PyProof.TupleCall
import PyProof.ListStr
import KE.KRevSl
import PyProof.Rows.Range3
import PySem.Challenge.RW_spreadwords_k34_whole_wishes_moved
set_option Elab.async false
set_option linter.all false
set_option maxRecDepth 100000
set_option maxHeartbeats 4000000
namespace L2
open PySem PySem.Spec PyProof.Rows
abbrev Key := Sum Int Str
def keyIs : Key → Value → Bool
  | .inl k, v => Value.isInt k v
  | .inr x, v => Value.isStrOf x v
def keyH (w : World) : Key → Int
  | .inl k => hashInt k
  | .inr x => hashStr w x
theorem keyIs_shape : ∀ {k : Key} {v : Value}, keyIs k v = true → (∃ i t, k = Sum.inl i ∧ v = Value.int i t) ∨ (∃ x t, k = Sum.inr x ∧ v = Value.str x t)
  | .inl i, v, h => by
    obtain ⟨t, e⟩ := Value.isInt_shape (k := i) (v := v) h
    exact .inl ⟨i, t, rfl, e⟩
  | .inr x, v, h => by
    obtain ⟨t, e⟩ := Value.isStrOf_shape (x := x) (v := v) h
    exact .inr ⟨x, t, rfl, e⟩
theorem keyIs_int (i : Int) (t : Tok) : keyIs (.inl i) (.int i t) = true := by simp [keyIs, Value.isInt]
theorem keyIs_str (x : Str) (t : Tok) : keyIs (.inr x) (.str x t) = true := by simp [keyIs, Value.isStrOf]
theorem key_ll (a b : Int) : decide ((Sum.inl a : Key) = Sum.inl b) = (a == b) := by
  by_cases e : a = b
  · subst e; simp
  · have h : ¬ (Sum.inl a : Key) = Sum.inl b := fun q => e (Sum.inl.inj q)
    rw [decide_eq_false h]
    exact (beq_eq_false_iff_ne.mpr e).symm
theorem key_rr (a b : Str) : decide ((Sum.inr a : Key) = Sum.inr b) = decide (a = b) := by
  by_cases e : a = b
  · subst e; simp
  · have h : ¬ (Sum.inr a : Key) = Sum.inr b := fun q => e (Sum.inr.inj q)
    rw [decide_eq_false h, decide_eq_false e]
theorem key_lr (a : Int) (b : Str) : decide ((Sum.inl a : Key) = Sum.inr b) = false := decide_eq_false (fun q => nomatch q)
theorem key_rl (a : Str) (b : Int) : decide ((Sum.inr a : Key) = Sum.inl b) = false := decide_eq_false (fun q => nomatch q)
def mixKind (prog : Program) (w : World) : PySem.KeyKind prog w Key where
  is := keyIs
  hash := keyH w
  inj := fun v a b ha hb => by
    rcases keyIs_shape ha with ⟨i, t, rfl, rfl⟩ | ⟨x, t, rfl, rfl⟩
    · rcases keyIs_shape hb with ⟨j, u, rfl, e⟩ | ⟨y, u, rfl, e⟩
      · injection e with e1 _; rw [e1]
      · exact nomatch e
    · rcases keyIs_shape hb with ⟨j, u, rfl, e⟩ | ⟨y, u, rfl, e⟩
      · exact nomatch e
      · injection e with e1 _; rw [e1]
  byValue := fun k v h => by
    rcases keyIs_shape h with ⟨i, t, rfl, rfl⟩ | ⟨x, t, rfl, rfl⟩ <;> rfl
  pyHash := fun hv h => by
    rcases keyIs_shape hv with ⟨i, t, rfl, rfl⟩ | ⟨x, t, rfl, rfl⟩
    · exact wpAny_pyHash_int h
    · exact wpAny_pyHash_str h
  eqBool := fun hu hv h => by
    rcases keyIs_shape hu with ⟨i, t, rfl, rfl⟩ | ⟨x, t, rfl, rfl⟩
    · rcases keyIs_shape hv with ⟨j, u, rfl, rfl⟩ | ⟨y, u, rfl, rfl⟩
      · rw [key_ll] at h; exact wpAny_eqBool_int h
      · rw [key_lr] at h; exact SeqAt.EqAt.int_str i t y u _ _ _ _ h
    · rcases keyIs_shape hv with ⟨j, u, rfl, rfl⟩ | ⟨y, u, rfl, rfl⟩
      · rw [key_rl] at h; exact SeqAt.EqAt.str_int x t j u _ _ _ _ h
      · rw [key_rr] at h; exact wpAny_eqBool_str h
  «strs» := fun k x t v h => by
    rcases keyIs_shape h with ⟨i, u, rfl, e⟩ | ⟨y, u, rfl, e⟩
    · exact nomatch e
    · injection e with e1 _
      subst e1
      cases v <;> rfl
theorem mixKind_int (prog : Program) (w : World) (i : Int) (t : Tok) : (mixKind prog w).is (.inl i) (.int i t) = true := keyIs_int i t
theorem mixKind_str (prog : Program) (w : World) (x : Str) (t : Tok) : (mixKind prog w).is (.inr x) (.str x t) = true := keyIs_str x t
end L2
namespace L2
open PySem PySem.Spec PyProof.Rows
inductive V where
  | non | bl (b : Bool) | int (i : Int) | str (x : Str) | byt (b : Array UInt8) | flt (b : UInt64) | ref (a : Addr) | ty (n : String)
  deriving DecidableEq
def RelV : V → Value → Prop
  | .non, u => u = Value.none
  | .bl b, u => u = Value.bool b
  | .int i, u => ∃ t, u = Value.int i t
  | .str x, u => ∃ t, u = Value.str x t
  | .byt b, u => ∃ t, u = Value.bytes b t
  | .flt b, u => ∃ t, u = Value.float b t
  | .ref a, u => u = Value.ref a
  | .ty n, u => u = Value.type n
abbrev Vals : List V → List Value → Prop := Paired RelV
theorem Vals.length {xs : List V} {us : List Value} (r : Vals xs us) : xs.length = us.length := Paired.length r
theorem Vals.get : ∀ {xs : List V} {us : List Value} {i : Nat} {x : V}, Vals xs us → xs[i]? = some x → ∃ u, us[i]? = some u ∧ RelV x u
  | _, _, _, _, .nil, e => by simp at e
  | _, _, 0, _, .cons r _, e => by simp at e; subst e; exact ⟨_, rfl, r⟩
  | _, _, i + 1, x, .cons _ t, e => by
    obtain ⟨u, h1, h2⟩ := Vals.get (i := i) (x := x) t (by simpa using e)
    exact ⟨u, by simpa using h1, h2⟩
theorem Vals.set {x : V} {u : Value} (r : RelV x u) : ∀ {xs : List V} {us : List Value} (i : Nat), Vals xs us → Vals (xs.set i x) (us.set i u)
  | _, _, _, .nil => .nil
  | _, _, 0, .cons _ t => .cons r t
  | _, _, i + 1, .cons q t => .cons q (Vals.set r i t)
theorem Vals.append : ∀ {xs ys : List V} {us ws : List Value}, Vals xs us → Vals ys ws → Vals (xs ++ ys) (us ++ ws)
  | _, _, _, _, .nil, s => s
  | _, _, _, _, .cons r t, s => .cons r (Vals.append t s)
theorem Vals.take : ∀ {xs : List V} {us : List Value} (n : Nat), Vals xs us → Vals (xs.take n) (us.take n)
  | _, _, 0, _ => .nil
  | _, _, _ + 1, .nil => .nil
  | _, _, n + 1, .cons r t => .cons r (Vals.take n t)
theorem Vals.drop : ∀ {xs : List V} {us : List Value} (n : Nat), Vals xs us → Vals (xs.drop n) (us.drop n)
  | _, _, 0, r => r
  | _, _, _ + 1, .nil => .nil
  | _, _, n + 1, .cons _ t => Vals.drop n t
theorem Vals.none_of : ∀ {xs : List V} {us : List Value} {i : Nat}, Vals xs us → xs[i]? = none → us[i]? = none := fun {xs us i} r e => by
  have h1 := r.length
  have h2 : xs.length ≤ i := List.getElem?_eq_none_iff.mp e
  exact List.getElem?_eq_none_iff.mpr (by omega)
def RelO : Option V → Option Value → Prop
  | some v, some u => RelV v u
  | none, none => True
  | _, _ => False
def KV {κ : Type} : List (κ × V) → List (κ × Value) → Prop := Paired fun (p : κ × V) (q : κ × Value) => p.1 = q.1 ∧ RelV p.2 q.2
def kV : Key → V
  | .inl i => .int i
  | .inr x => .str x
inductive HO where
  /-- a list -/
  | lst (xs : List V)
  /-- a tuple (never changes) -/
  | tup (xs : List V)
  /-- a dict whose keys are ints and texts; one whose keys are tuples of ints and texts (the empty one is both) -/
  | dK (kvs : List (Key × V)) | dT (kvs : List (List Key × V))
  /-- a set of ints: its members, its size -/
  | set (S : Int → Bool) (n : Nat)
  /-- an instance of the class at C, its dict at dx, its attributes -/
  | ins (C dx : Addr) (fs : List (Str × V))
  /-- the dict of the instance at x -/
  | own (x : Addr)
  /-- the dict of an exception -/
  | xd (fs : List (Str × V))
  /-- a bound method, f of x -/
  | met (f x : Addr)
  /-- a range object lo, lo + 1, .. below hi -/
  | rng (lo hi : Int)
  /-- a thing that is known to the object (the script; a dict while a loop walks it): read, never written while it is so -/
  | frz (o : Obj) (u : HO)
  /-- a code object's table -/
  | tbl (ps : Array Value)
  /-- any other thing, by what is true of its one object (a def of one's own: SetO a S n := HO.ext fun h => ..) -/
  | ext (φ : Heap → Prop)
abbrev Hp := Addr → Option HO
def upd (H : Hp) (a : Addr) (o : HO) : Hp := fun b => if b = a then some o else H b
theorem upd_same {H : Hp} {a : Addr} {o : HO} : upd H a o a = some o := by unfold upd; rw [if_pos rfl]
theorem upd_ne {H : Hp} {a b : Addr} {o : HO} (h : b ≠ a) : upd H a o b = H b := by unfold upd; rw [if_neg h]
theorem upd_upd {H : Hp} {a : Addr} {o u : HO} : upd (upd H a o) a u = upd H a u := by
  funext b; unfold upd; split <;> rfl
theorem ne_of {H : Hp} {a b : Addr} {o u : HO} (h : H a = some o) (h' : H b = some u) (d : o ≠ u) : a ≠ b := by
  intro e; subst e; rw [h] at h'; exact d (Option.some.inj h')
theorem ne_of_none {H : Hp} {a b : Addr} {o : HO} (h : H a = some o) (h' : H b = none) : a ≠ b := by
  intro e; subst e; rw [h] at h'; cases h'
section
variable (P : Program) (w : World)
def ObjOk (H : Hp) (h : Heap) (a : Addr) : HO → Prop
  | .lst xs => xs.length ≤ sizeLine ∧ ∃ (its : List Value) (n : Nat), Vals xs its ∧ h.get? a = some { cls := .type "list", data := .seq its.toArray n }
  | .tup xs => xs.length ≤ sizeLine ∧ ∃ its : List Value, Vals xs its ∧ IsTup h a its.toArray
  | .dK kvs => kvs.length ≤ sizeLine ∧ (a == sysModules) = false ∧ ∃ vs, KV kvs vs ∧ h.DictOf (mixKind P w) a vs
  | .dT kvs => kvs.length ≤ sizeLine ∧ (a == sysModules) = false ∧ ∃ xs : List (List Key × Addr × Value),
      Paired (fun (p : List Key × V) (q : List Key × Addr × Value) => p.1 = q.1 ∧ H q.2.1 = some (.tup (p.1.map kV)) ∧ RelV p.2 q.2.2) kvs xs ∧
      ∃ o es ep, h.get? a = some o ∧ o.ExactDict ∧ o.data = .dict es ep ∧ es.toList = xs.map (entryOfKey (tupleKind (mixKind P w))) ∧ (xs.map (·.1)).Nodup
  | .set S n => h.SetOf (intKind P w) a S n
  | .ins C dx fs => H dx = some (.own a) ∧ fs.length ≤ 1000 ∧ dx ≠ a ∧ h.get? a = some (PySem.W.instObj C dx) ∧
      ∃ mA, h.Ns1 dx mA ∧ (∀ f, RelO (fs.lookup f) (mA f)) ∧ PySem.Within mA (fs.map (·.1))
  | .own _ => ∃ o, h.get? a = some o
  | .xd fs => ∃ mA, h.Ns1 a mA ∧ ∀ f, RelO (fs.lookup f) (mA f)
  | .rng lo hi => ∃ t u v, h.get? a = some { cls := .type "range", data := .fields #[.int lo t, .int hi u, .int 1 v] }
  | .frz o u => h.get? a = some o ∧ ObjOk H h a u
  | .tbl ps => h.get? a = some { cls := .none, data := .fields ps }
  | .met f x => h.get? a = some (PySem.W.methodObj (.ref f) (.ref x))
  | .ext φ => φ h ∧ (∃ o, h.get? a = some o) ∧ ∀ h1 h2 : Heap, φ h1 → (∀ o, h1.get? a = some o → h2.get? a = some o) → φ h2
def HOk (H : Hp) (h : Heap) : Prop := ∀ a o, H a = some o → ObjOk P w H h a o
end
section
variable {P : Program} {w : World} {H H' : Hp} {h h' : Heap} {a : Addr} {o : HO}
theorem ObjOk.lt (x : ObjOk P w H h a o) : a < h.objs.size := by
  cases o with
  | lst xs => obtain ⟨_, _, _, _, e⟩ := x; exact Heap.lt_size e
  | tup xs => obtain ⟨_, _, _, p⟩ := x; exact p.lt
  | dK kvs => obtain ⟨_, _, _, _, o, _, _, e, _⟩ := x; exact Heap.lt_size e
  | dT kvs => obtain ⟨_, _, _, _, o, _, _, e, _⟩ := x; exact Heap.lt_size e
  | set S n => obtain ⟨o, _, _, _, e, _⟩ := x; exact Heap.lt_size e
  | ins C dx fs => obtain ⟨_, _, _, e, _⟩ := x; exact Heap.lt_size e
  | own y => obtain ⟨_, e⟩ := x; exact Heap.lt_size e
  | xd fs => obtain ⟨_, ⟨_, _, _, e, _⟩, _⟩ := x; exact Heap.lt_size e
  | rng lo hi => obtain ⟨_, _, _, e⟩ := x; exact Heap.lt_size e
  | frz ob u => obtain ⟨e, _⟩ := x; exact Heap.lt_size e
  | tbl ps => exact Heap.lt_size (show h.get? a = some _ from x)
  | met f y => exact Heap.lt_size (show h.get? a = some _ from x)
  | ext φ => obtain ⟨_, ⟨_, e⟩, _⟩ := x; exact Heap.lt_size e
theorem Paired.mapP {α β : Type} {F G : α → β → Prop} : ∀ {l₁ : List α} {l₂ : List β}, Paired F l₁ l₂ → (∀ a b, F a b → G a b) → Paired G l₁ l₂
  | _, _, .nil, _ => .nil
  | _, _, .cons r t, f => .cons (f _ _ r) (Paired.mapP t f)
theorem ObjOk.stay (x : ObjOk P w H h a o) (k : ∀ b u, (b = a ∨ H b = some (.own a)) → h.get? b = some u → h'.get? b = some u)
    (ho : ∀ b, H b = some (.own a) → H' b = some (.own a)) (ht : ∀ b xs, H b = some (.tup xs) → H' b = some (.tup xs)) : ObjOk P w H' h' a o := by
  induction o with
  | lst xs => obtain ⟨z, its, n, r, e⟩ := x; exact ⟨z, its, n, r, k _ _ (.inl rfl) e⟩
  | tup xs => obtain ⟨z, its, r, ob, e, c⟩ := x; exact ⟨z, its, r, ob, k _ _ (.inl rfl) e, c⟩
  | dK kvs => obtain ⟨z, y, vs, r, ob, es, ep, e, c⟩ := x; exact ⟨z, y, vs, r, ob, es, ep, k _ _ (.inl rfl) e, c⟩
  | dT kvs =>
    obtain ⟨z, y, xs, r, ob, es, ep, e, c⟩ := x
    exact ⟨z, y, xs, Paired.mapP r fun p q z => ⟨z.1, ht _ _ z.2.1, z.2.2⟩, ob, es, ep, k _ _ (.inl rfl) e, c⟩
  | set S n => obtain ⟨ob, es, ep, t, e, c⟩ := x; exact ⟨ob, es, ep, t, k _ _ (.inl rfl) e, c⟩
  | ins C dx fs =>
    obtain ⟨d, z, ne, e, mA, ⟨od, es, ep, e2, c⟩, r⟩ := x
    exact ⟨ho _ d, z, ne, k _ _ (.inl rfl) e, mA, ⟨od, es, ep, k _ _ (.inr d) e2, c⟩, r⟩
  | own y => obtain ⟨ob, e⟩ := x; exact ⟨ob, k _ _ (.inl rfl) e⟩
  | xd fs => obtain ⟨mA, ⟨od, es, ep, e, c⟩, r⟩ := x; exact ⟨mA, ⟨od, es, ep, k _ _ (.inl rfl) e, c⟩, r⟩
  | rng lo hi => obtain ⟨t, u, v, e⟩ := x; exact ⟨t, u, v, k _ _ (.inl rfl) e⟩
  | frz ob u ih => obtain ⟨e, q⟩ := x; exact ⟨k _ _ (.inl rfl) e, ih q⟩
  | tbl ps =>
    have e : h.get? a = some { cls := .none, data := .fields ps } := x
    show h'.get? a = some { cls := .none, data := .fields ps }
    exact k a _ (.inl rfl) e
  | met f y =>
    have e : h.get? a = some (PySem.W.methodObj (.ref f) (.ref y)) := x
    show h'.get? a = some (PySem.W.methodObj (.ref f) (.ref y))
    exact k a _ (.inl rfl) e
  | ext φ => obtain ⟨p, ⟨o, e⟩, st⟩ := x; exact ⟨st _ _ p fun o q => k _ _ (.inl rfl) q, ⟨o, k _ _ (.inl rfl) e⟩, st⟩
theorem HOk.lt (x : HOk P w H h) (e : H a = some o) : a < h.objs.size := (x a o e).lt
theorem HOk.fresh (x : HOk P w H h) (e : h.objs.size ≤ a) : H a = none := by
  cases q : H a with
  | none => rfl
  | some u => exact absurd (Nat.lt_of_lt_of_le (x.lt q) e) (Nat.lt_irrefl _)
theorem HOk.kept (x : HOk P w H h) (k : ∀ b u, h.get? b = some u → h'.get? b = some u) : HOk P w H h' := fun a o e =>
  (x a o e).stay (fun b u _ q => k b u q) (fun _ q => q) fun _ _ q => q
theorem HOk.laid (x : HOk P w H h) (k : ∀ b u, h.get? b = some u → h'.get? b = some u) (hp : h.objs.size ≤ a) (new : ObjOk P w (upd H a o) h' a o) : HOk P w (upd H a o) h' := fun b u e => by
  have hn := x.fresh hp
  by_cases hb : b = a
  · subst hb; rw [upd_same] at e; cases e; exact new
  · rw [upd_ne hb] at e
    exact (x b u e).stay (fun c v _ q => k c v q) (fun c q => by rw [upd_ne (ne_of_none q hn)]; exact q) fun c xs q => by rw [upd_ne (ne_of_none q hn)]; exact q
end
def Rd (H : Hp) (a : Addr) (u : HO) : Prop := H a = some u ∨ ∃ o, H a = some (.frz o u)
theorem Rd.of {H : Hp} {a : Addr} {u : HO} (h : H a = some u) : Rd H a u := .inl h
theorem Rd.ok {P : Program} {w : World} {H : Hp} {h : Heap} {a : Addr} {u : HO} (r : Rd H a u) (x : HOk P w H h) : ObjOk P w H h a u := by
  rcases r with r | ⟨o, r⟩
  · exact x a u r
  · obtain ⟨_, q⟩ := x a _ r
    exact q
def Mut : Option HO → Prop
  | some (.lst _) => True
  | some (.dK _) => True
  | some (.dT _) => True
  | some (.set _ _) => True
  | some (.ins _ _ _) => True
  | some (.ext _) => True
  | _ => False
section
variable {P : Program} {w : World} {H : Hp} {h h' : Heap} {x e : Addr} {o' : HO}
theorem HOk.write (ok : HOk P w H h) (mu : Mut (H x)) (he : e = x ∨ H e = some (.own x)) (k : ∀ b u, b ≠ e → h.get? b = some u → h'.get? b = some u) (heo : ∃ u, h'.get? e = some u)
    (new : ObjOk P w (upd H x o') h' x o') : HOk P w (upd H x o') h' := fun b u q => by
  have nown : ∀ c y, H c = some (.own y) → c ≠ x := fun c y r z => by subst z; rw [r] at mu; exact mu
  have ntup : ∀ c xs, H c = some (.tup xs) → c ≠ x := fun c xs r z => by subst z; rw [r] at mu; exact mu
  by_cases hb : b = x
  · subst hb; rw [upd_same] at q; cases q; exact new
  · rw [upd_ne hb] at q
    by_cases hbe : b = e
    · have q' : H b = some (.own x) := by
        rcases he with z | z
        · exact absurd (hbe.trans z) hb
        · rw [hbe]; exact z
      rw [q] at q'; cases q'
      obtain ⟨v, hv⟩ := heo
      exact ⟨v, by rw [hbe]; exact hv⟩
    · refine (ok b u q).stay (fun c v hc r => k c v ?_ r) (fun c r => by rw [upd_ne (nown c b r)]; exact r) fun c xs r => by rw [upd_ne (ntup c xs r)]; exact r
      rcases hc with rfl | hc
      · exact hbe
      · rintro rfl
        rcases he with z | z
        · exact nown c b hc z
        · rw [hc] at z; cases z; exact hb rfl
end
structure Un (fs ex : List Addr) (H H' : Hp) (h h' : Heap) : Prop where
  keep : ∀ b o, h.get? b = some o → H b = none → b ∉ fs → b ∉ ex → h'.get? b = some o
  slot : ∀ b o, h.get? b = some o → H b = none → b ∈ fs → b ∉ ex → ∃ sl, h'.get? b = some { o with slots := sl }
  free : ∀ b o, h.get? b = some o → H b = none → b ∉ ex → H' b = none
  there : ∀ b o, h.get? b = some o → b ∉ ex → ∃ o', h'.get? b = some o'
  tups : ∀ b xs, H b = some (.tup xs) → H' b = some (.tup xs)
  frzs : ∀ b o u, H b = some (.frz o u) → H' b = some (.frz o u)
  tbls : ∀ b ps, H b = some (.tbl ps) → ∃ more, H' b = some (.tbl (ps ++ more))
section
variable {fs fs' ex ex' : List Addr} {H H1 H2 : Hp} {h h1 h2 h' : Heap} {a x e : Addr} {o : HO}
theorem Un.any (u : Un fs ex H H1 h h1) {b : Addr} {ob : Obj} (q : h.get? b = some ob) (n : H b = none) (hx : b ∉ ex) : ∃ sl, h1.get? b = some { ob with slots := sl } := by
  by_cases hb : b ∈ fs
  · exact u.slot b ob q n hb hx
  · exact ⟨ob.slots, u.keep b ob q n hb hx⟩
theorem Un.trans (a : Un fs ex H H1 h h1) (b : Un fs ex H1 H2 h1 h2) : Un fs ex H H2 h h2 where
  keep := fun c ob q n hc hx => b.keep c ob (a.keep c ob q n hc hx) (a.free c ob q n hx) hc hx
  slot := fun c ob q n hc hx => by
    obtain ⟨sl, e1⟩ := a.slot c ob q n hc hx
    obtain ⟨sl', e2⟩ := b.slot c _ e1 (a.free c ob q n hx) hc hx
    exact ⟨sl', e2⟩
  free := fun c ob q n hx => by
    obtain ⟨o', e1⟩ := a.there c ob q hx
    exact b.free c o' e1 (a.free c ob q n hx) hx
  there := fun c ob q hx => by
    obtain ⟨o', e1⟩ := a.there c ob q hx
    exact b.there c o' e1 hx
  tups := fun c xs q => b.tups c xs (a.tups c xs q)
  frzs := fun c ob xs q => b.frzs c ob xs (a.frzs c ob xs q)
  tbls := fun c ps q => by
    obtain ⟨m1, e1⟩ := a.tbls c ps q
    obtain ⟨m2, e2⟩ := b.tbls c _ e1
    exact ⟨m1 ++ m2, by rw [e2, Array.append_assoc]⟩
theorem Un.kept (k : ∀ b u, h.get? b = some u → h'.get? b = some u) : Un fs ex H H h h' :=
  ⟨fun b ob q _ _ _ => k b ob q, fun b ob q _ _ _ => ⟨ob.slots, k b ob q⟩, fun _ _ _ n _ => n, fun b ob q _ => ⟨ob, k b ob q⟩, fun _ _ q => q, fun _ _ _ q => q, fun _ ps q => ⟨#[], by rw [q]; simp⟩⟩
theorem Un.refl : Un fs ex H H h h := Un.kept fun _ _ q => q
theorem Un.laid (k : ∀ b u, h.get? b = some u → h'.get? b = some u) (hp : h.objs.size ≤ a) (hn : H a = none) : Un fs ex H (upd H a o) h h' where
  keep := fun b u q _ _ _ => k b u q
  slot := fun b u q _ _ _ => ⟨u.slots, k b u q⟩
  free := fun b u q n _ => by rw [upd_ne (Nat.ne_of_lt (Nat.lt_of_lt_of_le (Heap.lt_size q) hp))]; exact n
  there := fun b u q _ => ⟨u, k b u q⟩
  tups := fun b xs q => by rw [upd_ne (ne_of_none q hn)]; exact q
  frzs := fun b u xs q => by rw [upd_ne (ne_of_none q hn)]; exact q
  tbls := fun b ps q => ⟨#[], by rw [upd_ne (ne_of_none q hn), q]; simp⟩
theorem Un.write (mu : Mut (H x)) (he : e = x ∨ H e = some (.own x)) (k : ∀ b u, b ≠ e → h.get? b = some u → h'.get? b = some u) (heo : ∃ u, h'.get? e = some u) : Un fs ex H (upd H x o) h h' := by
  have hx : ∀ b, H b = none → b ≠ x := fun b n z => by subst z; rw [n] at mu; exact mu
  have hb : ∀ b, H b = none → b ≠ e := fun b n z => by
    subst z
    rcases he with r | r
    · exact hx b n r
    · rw [n] at r; cases r
  have hm : ∀ b u, H b = some u → ¬ Mut (some u) → b ≠ x := fun b u q nm z => by subst z; rw [q] at mu; exact nm mu
  refine ⟨fun b u q n _ _ => k b u (hb b n) q, fun b u q n _ _ => ⟨u.slots, k b u (hb b n) q⟩, fun b u q n _ => by rw [upd_ne (hx b n)]; exact n, fun b u q _ => ?_,
    fun b xs q => by rw [upd_ne (hm b _ q fun z => z)]; exact q, fun b u xs q => by rw [upd_ne (hm b _ q fun z => z)]; exact q, fun b ps q => ⟨#[], by rw [upd_ne (hm b _ q fun z => z), q]; simp⟩⟩
  by_cases hbe : b = e
  · subst hbe; exact heo
  · exact ⟨u, k b u hbe q⟩
theorem Un.mono (u : Un fs ex H H1 h h1) (hs : ∀ b ∈ fs, b ∈ fs') (hx : ∀ b ∈ ex, b ∈ ex') : Un fs' ex' H H1 h h1 :=
  ⟨fun b ob q n hb he => u.keep b ob q n (fun z => hb (hs b z)) fun z => he (hx b z), fun _ _ q n _ he => u.any q n fun z => he (hx _ z), fun b ob q n he => u.free b ob q n fun z => he (hx b z), fun b ob q he => u.there b ob q fun z => he (hx b z), u.tups, u.frzs, u.tbls⟩
end
def trk (h : Heap) (H : Hp) : List Addr := (List.range h.objs.size).filter fun a => (H a).isSome
def hidT (h : Heap) (H : Hp) : Heap := PySem.W.hideAll h (trk h H)
theorem hidT_size (h : Heap) (H : Hp) : (hidT h H).objs.size = h.objs.size := PySem.W.hideAll_size _ _
theorem hidT_get {h : Heap} {H : Hp} {b : Addr} {o : Obj} (e : h.get? b = some o) (n : H b = none) : (hidT h H).get? b = some o :=
  PySem.W.hideAll_get _ e fun hm => by
    have q : (H b).isSome = true := (List.mem_filter.mp hm).2
    rw [n] at q; simp at q
theorem of_hidT {h : Heap} {H : Hp} {b : Addr} {o : Obj} (e : (hidT h H).get? b = some o) : h.get? b = some o ∧ H b = none := by
  have e' : h.get? b = some o := PySem.W.of_hideAll (trk h H) e
  refine ⟨e', ?_⟩
  cases q : H b with
  | none => rfl
  | some x =>
    have hm : b ∈ trk h H := List.mem_filter.mpr ⟨List.mem_range.mpr (Heap.lt_size e'), by simp [q]⟩
    have z : (hidT h H).get? b = none := PySem.W.hideAll_none (trk h H) hm
    rw [z] at e; cases e
def allNews (g h : Heap) (L : Addr) : List (Addr × Obj) := (List.range h.objs.size).filterMap fun a => if a = L ∨ (g.get? a).isSome = true then none else (h.get? a).map fun o => (a, o)
def rest (g h : Heap) (L d : Addr) : List (Addr × Obj) := (allNews g h L).filter fun p => decide (p.1 ≠ d)
end L2
namespace L2
open PySem PySem.Spec PyProof.Rows
structure Mod (K : PySem.W.Frag) (mg : Str → Option Value) (base : Heap) : Prop where
  kin : K.In base
  glob : base.Ns mainGlobals mg
  blt : ∃ mb, base.Ns builtinsNs mb ∧ ∀ x : Str, x ≠ "__name__" → mb x = bootBuiltins x
  nolimit : base.NoLimit
structure Cx where
  prog : Program
  w : World
  K : PySem.W.Frag
  mg : Str → Option Value
  base : Heap
  A : Around
  N : List Str
  s₀ : Shared
  H₀ : Hp
  env : Env
  outer : List Env
  stack : List Env
  ex : List Addr
  fn : Str → Bool
  calm : Bool
  pn : List (Addr × Obj)
  xe : Value → Shared → Prop
def frs (l : List Env) : List Addr := l.filterMap (·.frame)
abbrev Cx.fs (X : Cx) : List Addr := frs X.outer
def Vis (sc : Scope) (x : Str) : Prop := sc.names.lookup x = some .local ∨ sc.names.lookup x = some .cell ∨ sc.names.lookup x = some .free
def Loc (sc : Scope) (x : Str) : Prop := sc.names.lookup x = some .local ∨ sc.names.lookup x = some .cell
def Look (env : Env) (h : Heap) (m : Str → Option Value) (x : Str) (u : Value) : Prop :=
  (env.kindOf x = some .local ∧ m x = some u) ∨ ((env.kindOf x = some .cell ∨ env.kindOf x = some .free) ∧ ∃ c, env.cells.lookup x = some c ∧ h.IsCell c (some u))
structure Cx.Ok (X : Cx) : Prop where
  mod : Mod X.K X.mg X.base
  kind : X.env.scope.kind = .function
  glob : X.env.globals = mainGlobals
  blt : X.env.builtins = builtinsNs
  above : X.s₀.heap.objs.size ≤ X.env.locals
  inj : ∀ x y c, X.env.cells.lookup x = some c → X.env.cells.lookup y = some c → x = y
  has : ∀ x, (X.env.kindOf x = some .cell ∨ X.env.kindOf x = some .free) → ∃ c, X.env.cells.lookup x = some c
  cab : ∀ x c, X.fn x = true → X.env.cells.lookup x = some c → X.s₀.heap.objs.size ≤ c
  hd : X.calm = true → X.A.handled = none
  frames : X.A.frames = some X.stack
  stk : X.stack = X.outer ∨ (X.stack = X.env :: X.outer ∧ X.env.frame = some X.env.locals)
  exf : ∀ b ∈ X.ex, b ≠ X.env.locals ∧ ∀ x c, X.env.cells.lookup x = some c → c ≠ b
  bs : ∀ b o, X.base.get? b = some o → X.s₀.heap.get? b = some o ∧ X.H₀ b = none
  bsz : X.base.objs.size ≤ X.s₀.heap.objs.size
  noex : ∀ b o, X.base.get? b = some o → b ∉ X.ex
  exfs : ∀ b ∈ X.ex, b ∉ X.fs
  funs : X.s₀.heap.FunFrames X.base X.outer
  frf : ∀ b ∈ X.fs, X.H₀ b = none
structure Inv (X : Cx) (pins : List (Addr × Obj)) (σ : List (Option V)) (H : Hp) (s : Shared) : Prop where
  ok : X.Ok
  os : s.os = X.s₀.os
  bare : AllBare s.gens
  base : Un X.fs X.ex X.H₀ H X.s₀.heap s.heap
  loc : ∃ m, s.heap.Ns X.env.locals m ∧ ∀ (i : Nat) (x : Str) (v : V), X.N[i]? = some x → σ[i]? = some (some v) → Vis X.env.scope x → ∃ u, RelV v u ∧ Look X.env s.heap m x u
  cell : ∀ x c, X.env.cells.lookup x = some c → ∃ v, s.heap.IsCell c v
  free : H X.env.locals = none
  freeC : ∀ x c, X.env.cells.lookup x = some c → H c = none
  pin : ∀ p ∈ X.pn ++ pins, s.heap.get? p.1 = some p.2 ∧ H p.1 = none ∧ p.1 ≠ X.env.locals ∧ p.1 ∉ X.fs ∧ ∀ v, p.2.data ≠ .cell v
  hok : HOk X.prog X.w H s.heap
  len : σ.length = X.N.length
section
variable {X : Cx} {pins : List (Addr × Obj)} {σ : List (Option V)} {H H' : Hp} {s : Shared} {h' : Heap}
theorem Cx.Ok.nofr (ok : X.Ok) {b : Addr} {o : Obj} (e : X.base.get? b = some o) : b ∉ X.fs := fun hb => by
  have := (ok.funs.mem hb).1
  rw [e] at this; cases this
theorem Inv.bs (I : Inv X pins σ H s) : ∀ b o, X.base.get? b = some o → s.heap.get? b = some o ∧ H b = none := fun b o e =>
  ⟨I.base.keep b o (I.ok.bs b o e).1 (I.ok.bs b o e).2 (I.ok.nofr e) (I.ok.noex b o e), I.base.free b o (I.ok.bs b o e).1 (I.ok.bs b o e).2 (I.ok.noex b o e)⟩
theorem Inv.bk (I : Inv X pins σ H s) : ∀ b o, X.base.get? b = some o → s.heap.get? b = some o := fun b o e => (I.bs b o e).1
theorem Inv.mod (I : Inv X pins σ H s) : Mod X.K X.mg X.base := I.ok.mod
theorem Inv.kIn (I : Inv X pins σ H s) : X.K.In s.heap := I.ok.mod.kin.keeps I.bk
theorem Inv.nolimit (I : Inv X pins σ H s) : s.heap.NoLimit := I.ok.mod.nolimit.keeps I.bk
theorem Inv.fr (I : Inv X pins σ H s) : ∃ m, Fr X.base X.env.locals s.heap m :=
  let ⟨m, hn, _⟩ := I.loc
  ⟨m, hn, I.bk, Nat.le_trans I.ok.bsz I.ok.above⟩
theorem Inv.lt (I : Inv X pins σ H s) : X.env.locals < s.heap.objs.size := let ⟨_, hn, _⟩ := I.loc; hn.lt
theorem Inv.sz (I : Inv X pins σ H s) : X.s₀.heap.objs.size ≤ s.heap.objs.size := Nat.le_trans I.ok.above (Nat.le_of_lt I.lt)
theorem Inv.nofs (I : Inv X pins σ H s) {a : Addr} (h : s.heap.objs.size ≤ a) : a ∉ X.fs := fun hb => by
  obtain ⟨_, o, ho, _⟩ := I.ok.funs.mem hb
  exact absurd (Nat.lt_of_lt_of_le (Heap.lt_size ho) (Nat.le_trans I.sz h)) (Nat.lt_irrefl _)
theorem Inv.cne (I : Inv X pins σ H s) : ∀ x c, X.env.cells.lookup x = some c → c ≠ X.env.locals := fun x c e z => by
  obtain ⟨v, o, ho, hd⟩ := I.cell x c e
  obtain ⟨m, ⟨o', es, ep, ho', hd', _⟩, _⟩ := I.loc
  rw [z, ho'] at ho; cases ho; rw [hd'] at hd; cases hd
theorem Inv.funs (I : Inv X pins σ H s) : s.heap.FunFrames X.base X.outer := by
  have all : ∀ (l : List Env), (∀ b ∈ frs l, b ∈ X.fs) → X.s₀.heap.FunFrames X.base l → s.heap.FunFrames X.base l := by
    intro l
    induction l with
    | nil => intro _ _; trivial
    | cons env r ih =>
      intro hs hl
      obtain ⟨hk, ⟨L, o, hf, hn, ho, hd⟩, hr⟩ := hl
      have hL : L ∈ X.fs := hs L (by unfold frs; rw [List.filterMap_cons, hf]; exact List.mem_cons_self)
      obtain ⟨sl, e⟩ := I.base.slot L o ho (I.ok.frf L hL) hL fun z => I.ok.exfs L z hL
      exact ⟨hk, ⟨L, _, hf, hn, e, hd⟩, ih (fun b hb => hs b (by unfold frs; rw [List.filterMap_cons, hf]; exact List.mem_cons_of_mem _ hb)) hr⟩
  exact all X.outer (fun _ hb => hb) I.ok.funs
theorem Inv.stack (I : Inv X pins σ H s) : s.heap.FunFrames X.base X.stack := by
  rcases I.ok.stk with e | ⟨e, hf⟩
  · rw [e]; exact I.funs
  · rw [e]
    obtain ⟨m, hn, _⟩ := I.loc
    refine .cons (by rw [I.ok.kind]; decide) hf hn ?_ I.funs
    exact Heap.get?_none_of_le (Nat.le_trans I.ok.bsz I.ok.above)
theorem Inv.stkSub (I : Inv X pins σ H s) : ∀ b ∈ frs X.stack, b ∈ X.env.locals :: X.fs := fun b hb => by
  rcases I.ok.stk with e | ⟨e, hf⟩
  · rw [e] at hb; exact List.mem_cons_of_mem _ hb
  · rw [e] at hb
    unfold frs at hb
    rw [List.filterMap_cons, hf] at hb
    exact hb
theorem Inv.stkFree (I : Inv X pins σ H s) : ∀ b ∈ frs X.stack, H b = none := fun b hb => by
  rcases List.mem_cons.mp (I.stkSub b hb) with e | hb
  · rw [e]; exact I.free
  · obtain ⟨_, o, ho, _⟩ := I.ok.funs.mem hb
    exact I.base.free b o ho (I.ok.frf b hb) fun z => I.ok.exfs b z hb
theorem Inv.step {g' : Array GenState} {t' : Nat} {d' : Drawn} {ch : List Addr} (I : Inv X pins σ H s)
    (hch : ∀ b ∈ ch, (b ∈ X.ex ∨ X.s₀.heap.objs.size ≤ b) ∧ b ≠ X.env.locals ∧ (∀ x c, X.env.cells.lookup x = some c → c ≠ b) ∧ ∀ p ∈ X.pn ++ pins, p.1 ≠ b)
    (keep : ∀ b o, b ≠ X.env.locals → b ∉ X.fs → b ∉ ch → s.heap.get? b = some o → H b = none → h'.get? b = some o)
    (slot : ∀ b o, b ≠ X.env.locals → b ∈ X.fs → b ∉ ch → s.heap.get? b = some o → H b = none → ∃ sl, h'.get? b = some { o with slots := sl }) (free : ∀ b o, b ∉ ch → s.heap.get? b = some o → H b = none → H' b = none)
    (there : ∀ b o, b ∉ ch → s.heap.get? b = some o → ∃ o', h'.get? b = some o')
    (tups : ∀ b xs, H b = some (.tup xs) → H' b = some (.tup xs)) (frzs : ∀ b o u, H b = some (.frz o u) → H' b = some (.frz o u)) (tbls : ∀ b ps, H b = some (.tbl ps) → ∃ more, H' b = some (.tbl (ps ++ more)))
    (ns : ∀ m, s.heap.Ns X.env.locals m → h'.Ns X.env.locals m) (hok : HOk X.prog X.w H' h') (hg : AllBare g') :
    Inv X pins σ H' { s with heap := h', gens := g', drawn := d', toks := t' } := by
  have neL : ∀ b o, X.s₀.heap.get? b = some o → b ≠ X.env.locals := fun b o e => Nat.ne_of_lt (Nat.lt_of_lt_of_le (Heap.lt_size e) I.ok.above)
  have neC : ∀ b o, X.s₀.heap.get? b = some o → b ∉ X.ex → b ∉ ch := fun b o e hx hb => by
    rcases (hch b hb).1 with z | z
    · exact hx z
    · exact absurd (Nat.lt_of_lt_of_le (Heap.lt_size e) z) (Nat.lt_irrefl _)
  have cellK : ∀ x c, X.env.cells.lookup x = some c → ∀ v, s.heap.IsCell c v → h'.IsCell c v := fun x c e v ⟨o, ho, hd⟩ => by
    have nch : c ∉ ch := fun z => (hch c z).2.2.1 x c e rfl
    by_cases hc : c ∈ X.fs
    · obtain ⟨sl, q⟩ := slot c o (I.cne x c e) hc nch ho (I.freeC x c e)
      exact ⟨_, q, hd⟩
    · exact ⟨o, keep c o (I.cne x c e) hc nch ho (I.freeC x c e), hd⟩
  refine ⟨I.ok, I.os, hg, ⟨fun b o e n hb hx => ?_, fun b o e n hb hx => ?_, fun b o e n hx => ?_, fun b o e hx => ?_, fun b xs e => tups b xs (I.base.tups b xs e), fun b o xs e => frzs b o xs (I.base.frzs b o xs e), fun b ps e => ?_⟩, ?_, fun x c e => ?_, ?_, fun x c e => ?_, fun p hp => ?_, hok, I.len⟩
  · exact keep b o (neL b o e) hb (neC b o e hx) (I.base.keep b o e n hb hx) (I.base.free b o e n hx)
  · obtain ⟨sl, e1⟩ := I.base.slot b o e n hb hx
    obtain ⟨sl', e2⟩ := slot b _ (neL b o e) hb (neC b o e hx) e1 (I.base.free b o e n hx)
    exact ⟨sl', e2⟩
  · obtain ⟨o', e1⟩ := I.base.there b o e hx
    exact free b o' (neC b o e hx) e1 (I.base.free b o e n hx)
  · obtain ⟨o', e1⟩ := I.base.there b o e hx
    exact there b o' (neC b o e hx) e1
  · obtain ⟨m1, e1⟩ := I.base.tbls b ps e
    obtain ⟨m2, e2⟩ := tbls b _ e1
    exact ⟨m1 ++ m2, by rw [e2, Array.append_assoc]⟩
  · obtain ⟨m, hn, hl⟩ := I.loc
    refine ⟨m, ns m hn, fun i x v e1 e2 e3 => ?_⟩
    obtain ⟨u, r, l⟩ := hl i x v e1 e2 e3
    refine ⟨u, r, ?_⟩
    rcases l with l | ⟨k, c, e, z⟩
    · exact .inl l
    · exact .inr ⟨k, c, e, cellK x c e _ z⟩
  · obtain ⟨v, z⟩ := I.cell x c e
    exact ⟨v, cellK x c e v z⟩
  · obtain ⟨m, ⟨o, _, _, ho, _⟩, _⟩ := I.loc
    exact free _ o (fun z => (hch _ z).2.1 rfl) ho I.free
  · obtain ⟨v, o, ho, hd⟩ := I.cell x c e
    exact free c o (fun z => (hch c z).2.2.1 x c e rfl) ho (I.freeC x c e)
  · obtain ⟨e, n, ne, nf, d⟩ := I.pin p hp
    have nch : p.1 ∉ ch := fun z => (hch p.1 z).2.2.2 p hp rfl
    exact ⟨keep p.1 p.2 ne nf nch e n, free p.1 p.2 nch e n, ne, nf, d⟩
theorem Inv.un {t' : Nat} (I : Inv X pins σ H s) (u : Un X.fs [] H H' s.heap h') (hok : HOk X.prog X.w H' h') : Inv X pins σ H' { s with heap := h', toks := t' } := by
  obtain ⟨m, ⟨o, es, ep, ho, r⟩, _⟩ := id I.loc
  obtain ⟨sl, hL⟩ := u.any ho I.free (by simp)
  exact I.step (g' := s.gens) (d' := s.drawn) (ch := []) (fun _ z => nomatch z) (fun b o _ hb _ e n => u.keep b o e n hb (by simp)) (fun b o _ hb _ e n => u.slot b o e n hb (by simp)) (fun b o _ e n => u.free b o e n (by simp)) (fun b o _ e => u.there b o e (by simp)) u.tups u.frzs u.tbls (fun m' hm => by
    obtain ⟨o', es', ep', ho', r'⟩ := hm
    rw [ho] at ho'; cases ho'
    exact ⟨_, es', ep', hL, r'⟩) hok I.bare
theorem Inv.call {g' : Array GenState} {t' : Nat} {d' : Drawn} {ch : List Addr} (I : Inv X pins σ H s) (u : Un (frs X.stack) ch H H' s.heap h') (hok : HOk X.prog X.w H' h') (hg : AllBare g')
    (hch : ∀ b ∈ ch, (b ∈ X.ex ∨ X.s₀.heap.objs.size ≤ b) ∧ b ≠ X.env.locals ∧ (∀ x c, X.env.cells.lookup x = some c → c ≠ b) ∧ ∀ p ∈ X.pn ++ pins, p.1 ≠ b) :
    Inv X pins σ H' { s with heap := h', gens := g', drawn := d', toks := t' } := by
  obtain ⟨m, ⟨o, es, ep, ho, r⟩, _⟩ := id I.loc
  obtain ⟨sl, hL⟩ := u.any ho I.free fun z => (hch _ z).2.1 rfl
  exact I.step (ch := ch) hch (fun b o hL hb hc e n => u.keep b o e n (fun z => (List.mem_cons.mp (I.stkSub b z)).elim hL hb) hc) (fun b o _ _ hc e n => u.any e n hc) (fun b o hc e n => u.free b o e n hc) (fun b o hc e => u.there b o e hc) u.tups u.frzs u.tbls (fun m' hm => by
    obtain ⟨o', es', ep', ho', r'⟩ := hm
    rw [ho] at ho'; cases ho'
    exact ⟨_, es', ep', hL, r'⟩) hok hg
theorem Inv.turned {t' : Nat} {it : Addr} (I : Inv X pins σ H s) (k : ∀ b o, b ≠ it → s.heap.get? b = some o → h'.get? b = some o) (hn : H it = none) (hL : it ≠ X.env.locals)
    (h1 : it ∈ X.ex ∨ X.s₀.heap.objs.size ≤ it) (h2 : ∀ x c, X.env.cells.lookup x = some c → c ≠ it) (h3 : ∀ p ∈ X.pn ++ pins, p.1 ≠ it) : Inv X pins σ H { s with heap := h', toks := t' } := by
  have nit : ∀ b u, H b = some u → b ≠ it := fun b u e z => by rw [z, hn] at e; cases e
  refine I.step (g' := s.gens) (d' := s.drawn) (ch := [it]) (fun b hb => ?_) (fun b o _ _ hc e _ => k b o (fun z => hc (by simp [z])) e) (fun b o _ _ hc e _ => ⟨o.slots, k b o (fun z => hc (by simp [z])) e⟩) (fun _ _ _ _ n => n)
    (fun b o hc e => ⟨o, k b o (fun z => hc (by simp [z])) e⟩) (fun _ _ e => e) (fun _ _ _ e => e) (fun b ps e => ⟨#[], by rw [e]; simp⟩) (fun m hm => ?_) (fun b u e => ?_) I.bare
  · have e : b = it := by simpa using hb
    subst e
    exact ⟨h1, hL, h2, h3⟩
  · obtain ⟨o, es, ep, ho, r⟩ := hm
    exact ⟨o, es, ep, k _ o (Ne.symm hL) ho, r⟩
  · refine (I.hok b u e).stay (fun c v hc q => k c v ?_ q) (fun _ q => q) fun _ _ q => q
    rcases hc with z | z
    · rw [z]; exact nit b u e
    · exact nit c _ z
theorem Inv.tok (I : Inv X pins σ H s) (t : Nat) : Inv X pins σ H { s with toks := t } := I.un (h' := s.heap) (t' := t) Un.refl I.hok
theorem Inv.kept {t' : Nat} (I : Inv X pins σ H s) (k : ∀ b u, s.heap.get? b = some u → h'.get? b = some u) : Inv X pins σ H { s with heap := h', toks := t' } := I.un (Un.kept k) (I.hok.kept k)
theorem Inv.laid {a : Addr} {o : HO} {t' : Nat} (I : Inv X pins σ H s) (k : ∀ b u, s.heap.get? b = some u → h'.get? b = some u) (hp : s.heap.objs.size ≤ a) (new : ObjOk X.prog X.w (upd H a o) h' a o) :
    Inv X pins σ (upd H a o) { s with heap := h', toks := t' } := I.un (Un.laid k hp (I.hok.fresh hp)) (I.hok.laid k hp new)
theorem Inv.write {x e : Addr} {o : HO} {t' : Nat} (I : Inv X pins σ H s) (mu : Mut (H x)) (he : e = x ∨ H e = some (.own x)) (k : ∀ b u, b ≠ e → s.heap.get? b = some u → h'.get? b = some u) (heo : ∃ u, h'.get? e = some u)
    (new : ObjOk X.prog X.w (upd H x o) h' x o) : Inv X pins σ (upd H x o) { s with heap := h', toks := t' } := I.un (Un.write mu he k heo) (I.hok.write mu he k heo new)
theorem Inv.weak {σ' : List (Option V)} (I : Inv X pins σ H s) (hl : σ'.length = σ.length) (w : ∀ (i : Nat) v, σ'[i]? = some (some v) → σ[i]? = some (some v)) : Inv X pins σ' H s :=
  ⟨I.ok, I.os, I.bare, I.base, let ⟨m, hn, hl'⟩ := I.loc; ⟨m, hn, fun i x v e1 e2 e3 => hl' i x v e1 (w i v e2) e3⟩, I.cell, I.free, I.freeC, I.pin, I.hok, hl.trans I.len⟩
theorem Inv.pins_of {pins' : List (Addr × Obj)} (I : Inv X pins σ H s) (h : ∀ p ∈ pins', s.heap.get? p.1 = some p.2 ∧ H p.1 = none ∧ p.1 ≠ X.env.locals ∧ p.1 ∉ X.fs ∧ ∀ v, p.2.data ≠ .cell v) : Inv X pins' σ H s :=
  ⟨I.ok, I.os, I.bare, I.base, I.loc, I.cell, I.free, I.freeC, fun p hp => (List.mem_append.mp hp).elim (fun z => I.pin p (List.mem_append_left _ z)) (h p), I.hok, I.len⟩
theorem nodup_ix {N : List Str} (hN : N.Nodup) {i j : Nat} {x : Str} (a : N[i]? = some x) (b : N[j]? = some x) : i = j := by
  obtain ⟨h1, e1⟩ := List.getElem?_eq_some_iff.mp a
  obtain ⟨h2, e2⟩ := List.getElem?_eq_some_iff.mp b
  exact (List.getElem_inj hN).mp (e1.trans e2.symm)
theorem store_ok2 {M : Model} {A : Around} {E : Value → Shared → Prop} {i : Nat} {x : Str} {v : V} {u : Value} {Q : Unit → Shared → Prop} (I : Inv X pins σ H s) (hN : X.N.Nodup) (hi : X.N[i]? = some x) (hx : Loc X.env.scope x) (r : RelV v u)
    (h : ∀ s', Inv X pins (σ.set i (some v)) H s' → (∃ a, Heap.SameBut a s.heap s'.heap ∧ (a = X.env.locals ∨ X.env.cells.lookup x = some a)) → Q () s') (hf : X.fn x = true ∨ X.env.scope.names.lookup x = some .local := by first | exact .inl rfl | exact .inr rfl | assumption) : wpAny M A (storeName X.env x u) Q E s := by
  obtain ⟨m, hn, hl⟩ := id I.loc
  have hcls : (X.env.scope.kind == .class || (X.env.scope.kind == .module && X.env.locals != X.env.globals)) = false := by rw [I.ok.kind]; rfl
  have hiσ : i < σ.length := by rw [I.len]; exact (List.getElem?_eq_some_iff.mp hi).1
  have cne := I.cne
  have tracked : ∀ {a : Addr} {h' : Heap}, (∃ o, s.heap.get? a = some o ∧ H a = none) → Heap.SameBut a s.heap h' → HOk X.prog X.w H h' := fun {a h'} ha hs b ob e => by
    obtain ⟨_, _, hfree⟩ := ha
    refine (I.hok b ob e).stay (fun c w' hc q => (hs.2 c ?_).trans q) (fun _ q => q) fun _ _ q => q
    rintro rfl
    rcases hc with rfl | hc
    · rw [hfree] at e; cases e
    · rw [hfree] at hc; cases hc
  rcases hx with hk | hk
  · refine wpAny_storeName_local hk hn (fun h' hn' hs => ?_) hcls
    obtain ⟨oL, _, _, hoL, _⟩ := id hn
    refine h _ ⟨I.ok, I.os, I.bare, ⟨fun b o e n hb hx => ?_, fun b o e n hb hx => ?_, I.base.free, fun b o e hx => ?_, I.base.tups, I.base.frzs, I.base.tbls⟩, ⟨_, hn', fun j y v' e1 e2 e3 => ?_⟩, fun y c e => ?_, I.free, I.freeC, fun p hp => ?_, tracked ⟨oL, hoL, I.free⟩ hs, by simpa using I.len⟩ ⟨_, hs, .inl rfl⟩
    · exact (hs.2 b (Nat.ne_of_lt (Nat.lt_of_lt_of_le (Heap.lt_size e) I.ok.above))).trans (I.base.keep b o e n hb hx)
    · obtain ⟨sl, e1⟩ := I.base.slot b o e n hb hx
      exact ⟨sl, (hs.2 b (Nat.ne_of_lt (Nat.lt_of_lt_of_le (Heap.lt_size e) I.ok.above))).trans e1⟩
    · obtain ⟨o', e1⟩ := I.base.there b o e hx
      exact ⟨o', (hs.2 b (Nat.ne_of_lt (Nat.lt_of_lt_of_le (Heap.lt_size e) I.ok.above))).trans e1⟩
    · by_cases hj : j = i
      · subst hj
        rw [hi] at e1; cases e1
        rw [List.getElem?_set_self hiσ] at e2
        cases e2
        exact ⟨u, r, .inl ⟨hk, by simp⟩⟩
      · rw [List.getElem?_set_ne (Ne.symm hj)] at e2
        obtain ⟨u', r', q⟩ := hl j y v' e1 e2 e3
        refine ⟨u', r', ?_⟩
        rcases q with ⟨k, e⟩ | ⟨k, c, e, z⟩
        · refine .inl ⟨k, ?_⟩
          have : y ≠ x := fun e => hj (nodup_ix hN e1 (e ▸ hi))
          simp [this, e]
        · exact .inr ⟨k, c, e, z.sameBut hs (cne y c e)⟩
    · obtain ⟨w', z⟩ := I.cell y c e
      exact ⟨w', z.sameBut hs (cne y c e)⟩
    · obtain ⟨e, n, ne, nf, d⟩ := I.pin p hp
      exact ⟨(hs.2 p.1 ne).trans e, n, ne, nf, d⟩
  · have hfn : X.fn x = true := by
      rcases hf with z | z
      · exact z
      · rw [z] at hk; cases hk
    obtain ⟨c, hc⟩ := I.ok.has x (.inl hk)
    obtain ⟨w', z⟩ := I.cell x c hc
    refine wpAny_storeName_cell I.ok.kind hk hc z (fun h' hc' hs => ?_)
    obtain ⟨oc, hoc, hocd⟩ := id z
    refine h { s with heap := h' } ⟨I.ok, I.os, I.bare, ⟨fun b o e n hb hx => ?_, fun b o e n hb hx => ?_, I.base.free, fun b o e hx => ?_, I.base.tups, I.base.frzs, I.base.tbls⟩, ⟨m, hn.sameBut hs (Ne.symm (cne x c hc)), fun j y v' e1 e2 e3 => ?_⟩, fun y c' e => ?_, I.free, I.freeC, fun p hp => ?_, tracked ⟨oc, hoc, I.freeC x c hc⟩ hs, by simpa using I.len⟩ ⟨c, hs, .inr hc⟩
    · exact (hs.2 b (Nat.ne_of_lt (Nat.lt_of_lt_of_le (Heap.lt_size e) (I.ok.cab x c hfn hc)))).trans (I.base.keep b o e n hb hx)
    · obtain ⟨sl, e1⟩ := I.base.slot b o e n hb hx
      exact ⟨sl, (hs.2 b (Nat.ne_of_lt (Nat.lt_of_lt_of_le (Heap.lt_size e) (I.ok.cab x c hfn hc)))).trans e1⟩
    · obtain ⟨o', e1⟩ := I.base.there b o e hx
      exact ⟨o', (hs.2 b (Nat.ne_of_lt (Nat.lt_of_lt_of_le (Heap.lt_size e) (I.ok.cab x c hfn hc)))).trans e1⟩
    · by_cases hj : j = i
      · subst hj
        rw [hi] at e1; cases e1
        rw [List.getElem?_set_self hiσ] at e2
        cases e2
        exact ⟨u, r, .inr ⟨.inl hk, c, hc, hc'⟩⟩
      · rw [List.getElem?_set_ne (Ne.symm hj)] at e2
        obtain ⟨u', r', q⟩ := hl j y v' e1 e2 e3
        refine ⟨u', r', ?_⟩
        rcases q with q | ⟨k, c', e, z'⟩
        · exact .inl q
        · refine .inr ⟨k, c', e, z'.sameBut hs ?_⟩
          rintro rfl
          exact hj (nodup_ix hN e1 (I.ok.inj _ _ _ e hc ▸ hi))
    · by_cases hcc : c' = c
      · subst hcc; exact ⟨_, hc'⟩
      · obtain ⟨w2, z2⟩ := I.cell y c' e
        exact ⟨w2, z2.sameBut hs hcc⟩
    · obtain ⟨e, n, ne, nf, d⟩ := I.pin p hp
      refine ⟨(hs.2 p.1 ?_).trans e, n, ne, nf, d⟩
      intro q
      rw [q, hoc] at e
      have q' : oc = p.2 := Option.some.inj e
      exact d w' (by rw [← q']; exact hocd)
theorem store_ok {M : Model} {A : Around} {E : Value → Shared → Prop} {i : Nat} {x : Str} {v : V} {u : Value} {Q : Unit → Shared → Prop} (I : Inv X pins σ H s) (hN : X.N.Nodup) (hi : X.N[i]? = some x) (hx : Loc X.env.scope x) (r : RelV v u)
    (h : ∀ s', Inv X pins (σ.set i (some v)) H s' → Q () s') (hf : X.fn x = true ∨ X.env.scope.names.lookup x = some .local := by first | exact .inl rfl | exact .inr rfl | assumption) : wpAny M A (storeName X.env x u) Q E s :=
  store_ok2 I hN hi hx r (fun s' I' _ => h s' I') hf
theorem Inv.call' {s' : Shared} {ch : List Addr} (I : Inv X pins σ H s) (ho : s'.os = s.os) (u : Un (frs X.stack) ch H H' s.heap s'.heap) (hok : HOk X.prog X.w H' s'.heap) (hg : AllBare s'.gens)
    (hch : ∀ b ∈ ch, (b ∈ X.ex ∨ X.s₀.heap.objs.size ≤ b) ∧ b ≠ X.env.locals ∧ (∀ x c, X.env.cells.lookup x = some c → c ≠ b) ∧ ∀ p ∈ X.pn ++ pins, p.1 ≠ b) : Inv X pins σ H' s' := by
  obtain ⟨h', g', d', t', o'⟩ := s'
  have e : o' = s.os := ho
  subst e
  exact I.call (g' := g') (t' := t') (d' := d') u hok hg hch
end
abbrev XK := Value → Option Addr → Hp → Prop
abbrev St := List (Option V)
abbrev VK := V → Hp → Prop
abbrev TE := St → Hp → VK → Prop
abbrev TT := St → Hp → (Bool → Hp → Prop) → Prop
abbrev TA := St → Hp → (List V → Hp → Prop) → Prop
structure Ends where
  nx : St → Hp → Prop
  rt : VK
  bk : St → Hp → Prop := fun _ _ => False
  ct : St → Hp → Prop := fun _ _ => False
abbrev TS := Ends → St → Hp → Prop
def EP (X : Cx) (pins : List (Addr × Obj)) (σ : St) (Q : VK) (u : Value) (s' : Shared) : Prop := ∃ v H', Inv X pins σ H' s' ∧ RelV v u ∧ Q v H'
def TP (X : Cx) (pins : List (Addr × Obj)) (σ : St) (Q : Bool → Hp → Prop) (b : Bool) (s' : Shared) : Prop := ∃ H', Inv X pins σ H' s' ∧ Q b H'
def AP (X : Cx) (pins : List (Addr × Obj)) (σ : St) (Q : List V → Hp → Prop) (us : List Value) (s' : Shared) : Prop := ∃ vs H', Inv X pins σ H' s' ∧ Vals vs us ∧ Q vs H'
def SP (X : Cx) (pins : List (Addr × Obj)) (D : Ends) (f : Flow) (s' : Shared) : Prop :=
  match f with
  | .next => ∃ σ' H', Inv X pins σ' H' s' ∧ D.nx σ' H'
  | .brk => ∃ σ' H', Inv X pins σ' H' s' ∧ D.bk σ' H'
  | .cont => ∃ σ' H', Inv X pins σ' H' s' ∧ D.ct σ' H'
  | .ret u => ∃ v σ' H', Inv X pins σ' H' s' ∧ RelV v u ∧ D.rt v H'
def PE (X : Cx) (e : Expr) (t : TE) : Prop :=
  ∀ (pins : List (Addr × Obj)) (s : Shared) (σ : St) (H : Hp) (Q : VK), Inv X pins σ H s → t σ H Q → wpAny (model X.prog X.w) X.A (eval e X.env) (EP X pins σ Q) X.xe s
def PT (X : Cx) (e : Expr) (t : TT) : Prop :=
  ∀ (pins : List (Addr × Obj)) (s : Shared) (σ : St) (H : Hp) (Q : Bool → Hp → Prop), Inv X pins σ H s → t σ H Q → wpAny (model X.prog X.w) X.A (isTrue e X.env (eval e X.env)) (TP X pins σ Q) X.xe s
def PW (X : Cx) (e : Expr) (t : TT) : Prop :=
  ∀ (whole : Sem Value) (pins : List (Addr × Obj)) (s : Shared) (σ : St) (H : Hp) (Q : Bool → Hp → Prop), Inv X pins σ H s → t σ H Q → wpAny (model X.prog X.w) X.A (isTrue e X.env whole) (TP X pins σ Q) X.xe s
theorem PW.pt {X : Cx} {e : Expr} {t : TT} (h : PW X e t) : PT X e t := h _
def PA (X : Cx) (es : List Expr) (t : TA) : Prop :=
  ∀ (pos : Pos) (pins : List (Addr × Obj)) (s : Shared) (σ : St) (H : Hp) (Q : List V → Hp → Prop), Inv X pins σ H s → t σ H Q → wpAny (model X.prog X.w) X.A (spliced (backTo pos (starEach es X.env))) (AP X pins σ Q) X.xe s
def PS (X : Cx) (st : Stmt) (t : TS) : Prop :=
  ∀ (pins : List (Addr × Obj)) (s : Shared) (σ : St) (H : Hp) (D : Ends), Inv X pins σ H s → t D σ H → wpAny (model X.prog X.w) X.A (exec st X.env) (SP X pins D) X.xe s
def PSs (X : Cx) (st : List Stmt) (t : TS) : Prop :=
  ∀ (pins : List (Addr × Obj)) (s : Shared) (σ : St) (H : Hp) (D : Ends), Inv X pins σ H s → t D σ H → wpAny (model X.prog X.w) X.A (execs st X.env) (SP X pins D) X.xe s
theorem thn {α : Type} {t : Sem α} {Q Q' : α → Shared → Prop} {M : Model} {A : Around} {E : Value → Shared → Prop} {s : Shared} (h : wpAny M A t Q E s) (hQ : ∀ a s, Q a s → Q' a s) : wpAny M A t Q' E s := wpAny_mono h hQ fun _ _ x => x
end L2
namespace L2
open PySem PySem.Spec PyProof.Rows
section
variable {X : Cx}
def tVar (i : Nat) : TE := fun σ H Q => ∃ v, σ[i]? = some (some v) ∧ Q v H
def tC (v : V) : TE := fun _ H Q => Q v H
theorem pe_var {i : Nat} {x : Str} {pos : Pos} (hN : X.N[i]? = some x) (hv : Vis X.env.scope x) (hd : (x == ("__debug__" : Str)) = false := by decide) (hcd : (x == ("__classdict__" : Str)) = false := by decide) : PE X (.Name x pos) (tVar i) := by
  intro pins s σ H Q I h
  obtain ⟨v, e, h⟩ := h
  obtain ⟨m, hn, hl⟩ := I.loc
  obtain ⟨u, r, l⟩ := hl i x v hN e hv
  have fin : EP X pins σ Q u s := ⟨v, H, I, r, h⟩
  rcases l with ⟨hk, hm⟩ | ⟨hk, c, hc, hcell⟩
  · exact wpAny_Name (wpAny_loadName_local I.ok.kind hk hn hm fin) hd
  · rcases hk with hk | hk
    · exact wpAny_Name (wpAny_loadName_cell I.ok.kind hk hc hcell fin) hd
    · exact wpAny_Name (wpAny_loadName_free I.ok.kind hk hc hcell fin hcd) hd
theorem pe_int {i j pos} : PE X (.Constant (.int i) j pos) (tC (.int i)) := fun _ _ _ H _ I h => wpAny_Constant_int ⟨.int i, H, I.tok _, ⟨_, rfl⟩, h⟩
theorem pe_bl {b j pos} : PE X (.Constant (.bool b) j pos) (tC (.bl b)) := fun _ _ _ H _ I h => Constant_bool ⟨.bl b, H, I, rfl, h⟩
theorem pe_non {j pos} : PE X (.Constant .none j pos) (tC .non) := fun _ _ _ H _ I h => Constant_none ⟨.non, H, I, rfl, h⟩
theorem pe_str {x j pos} : PE X (.Constant (.str x) j pos) (tC (.str x)) := fun _ _ _ H _ I h => Calls.Constant_str ⟨.str x, H, I.tok _, ⟨_, rfl⟩, h⟩
def Gl (X : Cx) (x : Str) : Prop := X.env.kindOf x = some .globalImplicit
theorem ld_glob {E : Value → Shared → Prop} {pins : List (Addr × Obj)} {s : Shared} {σ : St} {H : Hp} {x : Str} {u : Value} {pos : Pos} {Q : Value → Shared → Prop} (I : Inv X pins σ H s) (hg : Gl X x) (hm : X.mg x = some u) (h : Q u s)
    (hd : (x == ("__debug__" : Str)) = false := by decide) : wpAny (model X.prog X.w) X.A (eval (.Name x pos) X.env) Q E s :=
  Calls.Name_function_global I.ok.kind hg (Calls.loadGlobal_global (by rw [I.ok.glob]; exact I.mod.glob.keeps I.bk) hm h) hd
theorem ld_blt {E : Value → Shared → Prop} {pins : List (Addr × Obj)} {s : Shared} {σ : St} {H : Hp} {x : Str} {u : Value} {pos : Pos} {Q : Value → Shared → Prop} (I : Inv X pins σ H s) (hg : Gl X x) (hm : X.mg x = none) (hv : bootBuiltins x = some u) (h : Q u s)
    (hn : x ≠ "__name__" := by decide) (hd : (x == ("__debug__" : Str)) = false := by decide) : wpAny (model X.prog X.w) X.A (eval (.Name x pos) X.env) Q E s := by
  obtain ⟨mb, h1, h2⟩ := I.mod.blt
  exact Calls.Name_function_global I.ok.kind hg (Calls.loadGlobal_builtin (by rw [I.ok.glob]; exact I.mod.glob.keeps I.bk) hm (by rw [I.ok.blt]; exact h1.keeps I.bk) ((h2 x hn).trans hv) h) hd
theorem pe_glob {x : Str} {v : V} {u : Value} {pos : Pos} (hg : Gl X x) (hm : X.mg x = some u) (r : RelV v u) (hd : (x == ("__debug__" : Str)) = false := by decide) : PE X (.Name x pos) (tC v) :=
  fun _ _ _ H _ I h => ld_glob I hg hm ⟨v, H, I, r, h⟩ hd
def t2I (ta tb : TE) (k : Int → Int → Hp → Prop) : St → Hp → Prop := fun σ H => ta σ H fun x H1 => tb σ H1 fun y H2 => ∃ i j, x = .int i ∧ y = .int j ∧ k i j H2
variable {a b : Expr} {ta tb : TE} {pos : Pos}
def tCmp (p : Int → Int → Bool) (ta tb : TE) : TE := fun σ H Q => t2I ta tb (fun i j H2 => Q (.bl (p i j)) H2) σ H
abbrev tLt : TE → TE → TE := tCmp fun i j => decide (i < j)
abbrev tLe : TE → TE → TE := tCmp fun i j => decide (i ≤ j)
abbrev tGt : TE → TE → TE := tCmp fun i j => decide (j < i)
abbrev tGe : TE → TE → TE := tCmp fun i j => decide (j ≤ i)
abbrev tEqI : TE → TE → TE := tCmp fun i j => decide (i = j)
abbrev tNeI : TE → TE → TE := tCmp fun i j => !decide (i = j)
variable {tA tB' : TT} {rest : List Expr}
def tAnd (t u : TT) : TT := fun σ H Q => t σ H fun c H1 => if c = true then u σ H1 Q else Q false H1
def tOr (t u : TT) : TT := fun σ H Q => t σ H fun c H1 => if c = true then Q true H1 else u σ H1 Q
def tNot (t : TT) : TT := fun σ H Q => t σ H fun c H1 => Q (!c) H1
theorem pw_and1 (ha : PT X a tA) : PW X (.BoolOp .And [a] pos) tA := by
  intro wh pins s σ H Q I h
  refine isTrue_and (thn (ha pins s σ H Q I h) fun c s1 e => ?_)
  cases c with
  | true => exact isTrue_and_nil e
  | false => exact e
theorem pw_or1 (ha : PT X a tA) : PW X (.BoolOp .Or [a] pos) tA := by
  intro wh pins s σ H Q I h
  refine isTrue_or (thn (ha pins s σ H Q I h) fun c s1 e => ?_)
  cases c with
  | false => exact isTrue_or_nil e
  | true => exact e
theorem pw_and (ha : PT X a tA) (hb : PW X (.BoolOp .And (b :: rest) pos) tB') : PW X (.BoolOp .And (a :: b :: rest) pos) (tAnd tA tB') := by
  intro wh pins s σ H Q I h
  refine isTrue_and (thn (ha pins s σ H _ I h) fun c s1 ⟨H1, I1, q1⟩ => ?_)
  cases c with
  | true => exact hb wh pins s1 σ H1 Q I1 q1
  | false => exact ⟨H1, I1, q1⟩
theorem pw_or (ha : PT X a tA) (hb : PW X (.BoolOp .Or (b :: rest) pos) tB') : PW X (.BoolOp .Or (a :: b :: rest) pos) (tOr tA tB') := by
  intro wh pins s σ H Q I h
  refine isTrue_or (thn (ha pins s σ H _ I h) fun c s1 ⟨H1, I1, q1⟩ => ?_)
  cases c with
  | true => exact ⟨H1, I1, q1⟩
  | false => exact hb wh pins s1 σ H1 Q I1 q1
theorem pt_not (ha : PT X a tA) : PT X (.UnaryOp .Not a pos) (tNot tA) := by
  intro pins s σ H Q I h
  exact isTrue_not (ha pins s σ H (fun c H1 => Q (!c) H1) I h)
def tAndV (ta tb : TE) : TE := fun σ H Q => ta σ H fun x H1 => ∃ c, x = .bl c ∧ if c = true then tb σ H1 Q else Q (.bl false) H1
def tOrV (ta tb : TE) : TE := fun σ H Q => ta σ H fun x H1 => ∃ c, x = .bl c ∧ if c = true then Q (.bl true) H1 else tb σ H1 Q
def tNotV (ta : TE) : TE := fun σ H Q => ta σ H fun x H1 => ∃ c, x = .bl c ∧ Q (.bl (!c)) H1
theorem pe_one {op} {t : TE} (h : PE X a t) : PE X (.BoolOp op [a] pos) t := fun pins s σ H Q I hw => BoolOp_one (h pins s σ H Q I hw)
theorem pe_and (ha : PE X a ta) (hb : PE X (.BoolOp .And (b :: rest) pos) tb) : PE X (.BoolOp .And (a :: b :: rest) pos) (tAndV ta tb) := by
  intro pins s σ H Q I h
  refine BoolOp_and (thn (ha pins s σ H _ I h) fun v s1 ⟨x, H1, I1, r1, q1⟩ => ?_)
  obtain ⟨c, rfl, q1⟩ := q1
  cases r1
  refine wpAny_truthy_bool ?_
  cases c with
  | true => exact hb pins s1 σ H1 Q I1 q1
  | false => exact ⟨.bl false, H1, I1, rfl, q1⟩
theorem pe_or (ha : PE X a ta) (hb : PE X (.BoolOp .Or (b :: rest) pos) tb) : PE X (.BoolOp .Or (a :: b :: rest) pos) (tOrV ta tb) := by
  intro pins s σ H Q I h
  refine BoolOp_or (thn (ha pins s σ H _ I h) fun v s1 ⟨x, H1, I1, r1, q1⟩ => ?_)
  obtain ⟨c, rfl, q1⟩ := q1
  cases r1
  refine wpAny_truthy_bool ?_
  cases c with
  | false => exact hb pins s1 σ H1 Q I1 q1
  | true => exact ⟨.bl true, H1, I1, rfl, q1⟩
theorem pe_not (ha : PE X a ta) : PE X (.UnaryOp .Not a pos) (tNotV ta) := by
  intro pins s σ H Q I h
  refine UnaryOp_ (thn (ha pins s σ H _ I h) fun v s1 ⟨x, H1, I1, r1, q1⟩ => ?_)
  obtain ⟨c, rfl, q1⟩ := q1
  cases r1
  exact not_of (wpAny_truthy_bool ⟨.bl (!c), H1, I1, rfl, q1⟩)
def tIf (t : TT) (ta tb : TE) : TE := fun σ H Q => t σ H fun c H1 => if c = true then ta σ H1 Q else tb σ H1 Q
theorem pe_ifExp {c : Expr} (hc : PT X c tA) (ha : PE X a ta) (hb : PE X b tb) : PE X (.IfExp c a b pos) (tIf tA ta tb) := by
  intro pins s σ H Q I h
  refine wpAny_IfExp (thn (hc pins s σ H _ I h) fun d s1 ⟨H1, I1, q1⟩ => ?_)
  cases d with
  | true => exact ha pins s1 σ H1 Q I1 q1
  | false => exact hb pins s1 σ H1 Q I1 q1
end
end L2
namespace L2
open PySem PySem.Spec PyProof.Rows
def SqL (K : PySem.W.Frag) (H : Hp) (a : Addr) (xs : List V) : Prop :=
  Rd H a (.lst xs) ∨
    ∃ (o : Obj) (its : Array Value) (n : Nat), K.lookup a = some o ∧ o.cls = .type "list" ∧ o.dict = none ∧ o.data = .seq its n ∧ its.size ≤ sizeLine ∧ Vals xs its.toList
def SqT (K : PySem.W.Frag) (H : Hp) (a : Addr) (xs : List V) : Prop :=
  Rd H a (.tup xs) ∨
    ∃ (o : Obj) (its : Array Value) (n : Nat), K.lookup a = some o ∧ o.cls = .type "tuple" ∧ o.data = .seq its n ∧ its.size ≤ sizeLine ∧ Vals xs its.toList
def absV : Value → Option V
  | .none => some .non
  | .bool b => some (.bl b)
  | .int i _ => some (.int i)
  | .str x _ => some (.str x)
  | .bytes b _ => some (.byt b)
  | .float b _ => some (.flt b)
  | .ref a => some (.ref a)
  | .type n => some (.ty n)
  | _ => none
theorem RelV.abs {x : V} {u : Value} (r : RelV x u) : absV u = some x := by
  cases x with
  | non => cases r; rfl
  | bl _ => cases r; rfl
  | int _ => obtain ⟨t, rfl⟩ := r; rfl
  | str _ => obtain ⟨t, rfl⟩ := r; rfl
  | byt _ => obtain ⟨t, rfl⟩ := r; rfl
  | flt _ => obtain ⟨t, rfl⟩ := r; rfl
  | ref _ => cases r; rfl
  | ty _ => cases r; rfl
theorem RelV.inj {x y : V} {u : Value} (r : RelV x u) (q : RelV y u) : x = y := Option.some.inj (r.abs.symm.trans q.abs)
theorem Vals.inj : ∀ {xs ys : List V} {us : List Value}, Vals xs us → Vals ys us → xs = ys
  | _, _, _, .nil, .nil => rfl
  | _, _, _, .cons r t, .cons r' t' => by rw [r.inj r', Vals.inj t t']
section
variable {X : Cx} {pins : List (Addr × Obj)} {σ : St} {H : Hp} {s : Shared} {a : Addr} {xs ys : List V}
theorem SqL.of {K : PySem.W.Frag} (h : H a = some (.lst xs)) : SqL K H a xs := .inl (.inl h)
theorem SqT.of {K : PySem.W.Frag} (h : H a = some (.tup xs)) : SqT K H a xs := .inl (.inl h)
theorem Inv.list (I : Inv X pins σ H s) (h : SqL X.K H a xs) : ∃ its : List Value, Vals xs its ∧ PlainL s.heap a its.toArray ∧ xs.length ≤ sizeLine := by
  rcases h with h | ⟨o, its, n, hk, hc, hd, hs, hz, r⟩
  · obtain ⟨z, its, n, r, e⟩ := h.ok I.hok
    exact ⟨its, r, ⟨_, n, e, rfl, rfl, rfl⟩, z⟩
  · refine ⟨its.toList, r, ⟨o, n, I.kIn a o hk, hc, hd, by simpa using hs⟩, ?_⟩
    have e := r.length
    simp only [Array.length_toList] at e
    omega
theorem Inv.tuple (I : Inv X pins σ H s) (h : SqT X.K H a xs) : ∃ its : List Value, Vals xs its ∧ IsTup s.heap a its.toArray ∧ xs.length ≤ sizeLine := by
  rcases h with h | ⟨o, its, n, hk, hc, hs, hz, r⟩
  · obtain ⟨z, its, r, p⟩ := h.ok I.hok
    exact ⟨its, r, p, z⟩
  · refine ⟨its.toList, r, ⟨o, I.kIn a o hk, hc, n, by simpa using hs⟩, ?_⟩
    have e := r.length
    simp only [Array.length_toList] at e
    omega
theorem Inv.list_inj (I : Inv X pins σ H s) (h : SqL X.K H a xs) (h' : SqL X.K H a ys) : xs = ys := by
  obtain ⟨its, r, ⟨o, n, e, _, _, d⟩, _⟩ := I.list h
  obtain ⟨its', r', ⟨o', n', e', _, _, d'⟩, _⟩ := I.list h'
  rw [e] at e'; cases e'
  rw [d] at d'
  injection d' with d1 _
  have : its = its' := by simpa using congrArg Array.toList d1
  subst this
  exact r.inj r'
end
abbrev Cx.wish (X : Cx) (E : Value → Shared → Prop) : Cx := { X with xe := E }
abbrev Cx.nox (X : Cx) : Cx := X.wish fun _ _ => False
theorem Cx.Ok.wish {X : Cx} (ok : X.Ok) (E : Value → Shared → Prop) : (X.wish E).Ok :=
  ⟨ok.mod, ok.kind, ok.glob, ok.blt, ok.above, ok.inj, ok.has, ok.cab, ok.hd, ok.frames, ok.stk, ok.exf, ok.bs, ok.bsz, ok.noex, ok.exfs, ok.funs, ok.frf⟩
theorem Cx.Ok.unwish {X : Cx} {E : Value → Shared → Prop} (ok : (X.wish E).Ok) : X.Ok :=
  ⟨ok.mod, ok.kind, ok.glob, ok.blt, ok.above, ok.inj, ok.has, ok.cab, ok.hd, ok.frames, ok.stk, ok.exf, ok.bs, ok.bsz, ok.noex, ok.exfs, ok.funs, ok.frf⟩
section
variable {X : Cx} {pins : List (Addr × Obj)} {σ : St} {H : Hp} {s : Shared} {E : Value → Shared → Prop}
theorem Inv.wish (I : Inv X pins σ H s) (E : Value → Shared → Prop) : Inv (X.wish E) pins σ H s := ⟨I.ok.wish E, I.os, I.bare, I.base, I.loc, I.cell, I.free, I.freeC, I.pin, I.hok, I.len⟩
theorem Inv.unwish (I : Inv (X.wish E) pins σ H s) : Inv X pins σ H s := ⟨I.ok.unwish, I.os, I.bare, I.base, I.loc, I.cell, I.free, I.freeC, I.pin, I.hok, I.len⟩
theorem SP.unwish {D : Ends} {f : Flow} {s' : Shared} (h : SP (X.wish E) pins D f s') : SP X pins D f s' := by
  cases f with
  | next => obtain ⟨σ', H', I, q⟩ := h; exact ⟨σ', H', I.unwish, q⟩
  | brk => obtain ⟨σ', H', I, q⟩ := h; exact ⟨σ', H', I.unwish, q⟩
  | cont => obtain ⟨σ', H', I, q⟩ := h; exact ⟨σ', H', I.unwish, q⟩
  | ret u => obtain ⟨v, σ', H', I, r, q⟩ := h; exact ⟨v, σ', H', I.unwish, r, q⟩
theorem PE.nox {e : Expr} {t : TE} (h : PE X.nox e t) : PE X e t := fun pins s σ H Q I hw =>
  wpAny_mono (h pins s σ H Q (I.wish _) hw) (fun _ _ ⟨v, H', I', r, q⟩ => ⟨v, H', I'.unwish, r, q⟩) fun _ _ z => False.elim z
theorem PT.nox {e : Expr} {t : TT} (h : PT X.nox e t) : PT X e t := fun pins s σ H Q I hw =>
  wpAny_mono (h pins s σ H Q (I.wish _) hw) (fun _ _ ⟨H', I', q⟩ => ⟨H', I'.unwish, q⟩) fun _ _ z => False.elim z
theorem PSs.nox {st : List Stmt} {t : TS} (h : PSs X.nox st t) : PSs X st t := fun pins s σ H D I hw =>
  wpAny_mono (h pins s σ H D (I.wish _) hw) (fun _ _ q => q.unwish) fun _ _ z => False.elim z
end
section
variable {X : Cx} {st : Stmt} {rest : List Stmt} {t u : TS} {e : Expr} {te : TE} {pos : Pos}
def tNext : TS := fun D σ H => D.nx σ H
def tSeq (t u : TS) : TS := fun D σ H => t { D with nx := u D } σ H
theorem pss_nil : PSs X [] tNext := fun _ _ σ H _ I h => wpAny_execs_nil ⟨σ, H, I, h⟩
theorem pss_cons (h1 : PS X st t) (h2 : PSs X rest u) : PSs X (st :: rest) (tSeq t u) := by
  intro pins s σ H D I h
  refine wpAny_execs_cons (thn (h1 pins s σ H { D with nx := u D } I h) fun f s1 q => ?_)
  cases f with
  | next =>
    obtain ⟨σ', H', I', q⟩ := q
    exact h2 pins s1 σ' H' D I' q
  | ret v => exact q
  | brk => exact q
  | cont => exact q
theorem pss_one (h1 : PS X st t) : PSs X [st] t := by
  intro pins s σ H D I h
  refine wpAny_execs_cons (thn (h1 pins s σ H D I h) fun f s1 q => ?_)
  cases f with
  | next => exact wpAny_execs_nil q
  | ret v => exact q
  | brk => exact q
  | cont => exact q
theorem Inv.quiet {pins : List (Addr × Obj)} {σ : St} {H : Hp} {s : Shared} (I : Inv X pins σ H s) : interactive X.env = false := by simp [interactive, I.ok.kind]
def tDrop (te : TE) : TS := fun D σ H => te σ H fun _ H1 => D.nx σ H1
theorem ps_expr (he : PE X e te) (hs : swapsWith e none pos.line X.env = pure false := by rfl) : PS X (.Expr e pos) (tDrop te) := by
  intro pins s σ H D I h
  exact wpAny_Expr_any (thn (he pins s σ H _ I h) fun v s1 ⟨x, H1, I1, r1, q1⟩ => ⟨σ, H1, I1, q1⟩) I.quiet hs
def tRet (te : TE) : TS := fun D σ H => te σ H D.rt
theorem ps_ret (he : PE X e te) : PS X (.Return (some e) pos) (tRet te) := by
  intro pins s σ H D I h
  exact wpAny_Return_some (thn (he pins s σ H _ I h) fun v s1 ⟨x, H1, I1, r1, q1⟩ => ⟨x, σ, H1, I1, r1, q1⟩)
def tIfS (c : TT) (t u : TS) : TS := fun D σ H => c σ H fun b H1 => if b = true then t D σ H1 else u D σ H1
theorem ps_if {c : Expr} {a b : List Stmt} {tc : TT} (hc : PT X c tc) (ha : PSs X a t) (hb : PSs X b u) : PS X (.If c a b pos) (tIfS tc t u) := by
  intro pins s σ H D I h
  refine wpAny_If (thn (hc pins s σ H _ I h) fun d s1 ⟨H1, I1, q1⟩ => ?_)
  cases d with
  | true => exact ha pins s1 σ H1 D I1 q1
  | false => exact hb pins s1 σ H1 D I1 q1
end
abbrev TG := V → St → Hp → (St → Hp → Prop) → Prop
abbrev TGs := List V → St → Hp → (St → Hp → Prop) → Prop
def PG (X : Cx) (target : Expr) (t : TG) : Prop :=
  ∀ (pins : List (Addr × Obj)) (s : Shared) (σ : St) (H : Hp) (v : V) (u : Value) (Q : St → Hp → Prop), Inv X pins σ H s → RelV v u → t v σ H Q →
    wpAny (model X.prog X.w) X.A (assign target X.env u) (fun _ s' => ∃ σ' H', Inv X pins σ' H' s' ∧ Q σ' H') X.xe s
def PGs (X : Cx) (ts : List Expr) (t : TGs) : Prop :=
  ∀ (pins : List (Addr × Obj)) (s : Shared) (σ : St) (H : Hp) (vs : List V) (us : List Value) (Q : St → Hp → Prop), Inv X pins σ H s → Vals vs us → t vs σ H Q →
    wpAny (model X.prog X.w) X.A (assignInOrder ((assignEach ts X.env).map (·.2)) us) (fun _ s' => ∃ σ' H', Inv X pins σ' H' s' ∧ Q σ' H') X.xe s
abbrev TSet := V → V → V → Hp → (Hp → Prop) → Prop
def PSet (X : Cx) (t : TSet) : Prop :=
  ∀ (pins : List (Addr × Obj)) (s : Shared) (σ : St) (H : Hp) (o i v : V) (ov iv u : Value) (Q : Hp → Prop), Inv X pins σ H s → RelV o ov → RelV i iv → RelV v u → t o i v H Q →
    wpAny (model X.prog X.w) X.A (setItem ov iv u) (fun _ s' => ∃ H', Inv X pins σ H' s' ∧ Q H') X.xe s
abbrev TIp := V → V → Hp → VK → Prop
section
variable {X : Cx} {pos : Pos}
def gName (i : Nat) : TG := fun v σ H Q => Q (σ.set i (some v)) H
theorem pg_name {i : Nat} {x : Str} (hN : X.N.Nodup) (hi : X.N[i]? = some x) (hx : Loc X.env.scope x) (hf : X.fn x = true ∨ X.env.scope.names.lookup x = some .local := by first | exact .inl rfl | exact .inr rfl | assumption) : PG X (.Name x pos) (gName i) := by
  intro pins s σ H v u Q I r h
  exact wpAny_assign_Name (store_ok I hN hi hx r (fun s' I' => ⟨_, H, I', h⟩) hf)
def gNil : TGs := fun vs σ H Q => vs = [] ∧ Q σ H
def gCons (t : TG) (u : TGs) : TGs := fun vs σ H Q => ∃ v r, vs = v :: r ∧ t v σ H fun σ' H' => u r σ' H' Q
theorem pgs_nil : PGs X [] gNil := by
  intro pins s σ H vs us Q I r h
  obtain ⟨e, h⟩ := h
  subst e
  cases r
  exact assignInOrder_nil ⟨σ, H, I, h⟩
theorem pgs_cons {e : Expr} {es : List Expr} {t : TG} {u : TGs} (h1 : PG X e t) (h2 : PGs X es u)
    (hs : (assignEach (e :: es) X.env).map (·.2) = assign e X.env :: (assignEach es X.env).map (·.2) := by rfl) : PGs X (e :: es) (gCons t u) := by
  intro pins s σ H vs us Q I r h
  obtain ⟨v, vr, e1, h⟩ := h
  subst e1
  cases r with
  | cons r rr =>
    rw [hs]
    refine assignInOrder_cons (thn (h1 pins s σ H _ _ _ I r h) fun _ s1 ⟨σ1, H1, I1, q1⟩ => ?_)
    exact h2 pins s1 σ1 H1 _ _ Q I1 rr q1
def gSub (to ti : TE) (t : TSet) : TG := fun v σ H Q => to σ H fun o H1 => ti σ H1 fun i H2 => t o i v H2 fun H3 => Q σ H3
theorem pg_sub {o i : Expr} {to ti : TE} {t : TSet} (ho : PE X o to) (hi : PE X i ti) (hs : PSet X t)
    (ha : ∀ v, assign (.Subscript o i pos) X.env v = (do
      let ov ← holding [v] (eval o X.env)
      let iv ← holding [v, ov] (eval i X.env)
      standAt pos
      holding [v, ov, iv] (setItem ov iv v)
      release [v, ov, iv] []) := by intro _; rfl) : PG X (.Subscript o i pos) (gSub to ti t) := by
  intro pins s σ H v u Q I r h
  rw [ha]
  refine wpAny_bind (wpAny_holding (thn (ho pins s σ H _ I h) fun ov s1 ⟨x, H1, I1, r1, q1⟩ => ?_))
  refine wpAny_bind (wpAny_holding (thn (hi pins s1 σ H1 _ I1 q1) fun iv s2 ⟨y, H2, I2, r2, q2⟩ => ?_))
  refine wpAny_bind (wpAny_standAt (wpAny_bind (wpAny_holding (thn (hs pins s2 σ H2 x y v ov iv u _ I2 r1 r2 r q2) fun _ s3 ⟨H3, I3, q3⟩ => ?_))))
  exact wpAny_release ⟨σ, H3, I3, q3⟩
def tAsg (te : TE) (g : TG) : TS := fun D σ H => te σ H fun x H1 => g x σ H1 D.nx
theorem ps_asg {tg e : Expr} {te : TE} {g : TG} (he : PE X e te) (hg : PG X tg g) (hs : swapsWithSole [tg] e pos.line X.env = pure false := by rfl) (hw : swappedStores [tg] e X.env = pure none := by rfl)
    (h1 : (assignEach [tg] X.env).map (·.2) = [assign tg X.env] := by rfl) : PS X (.Assign [tg] e pos) (tAsg te g) := by
  intro pins s σ H D I h
  refine wpAny_Assign_stores (thn (he pins s σ H _ I h) fun v s1 ⟨x, H1, I1, r1, q1⟩ => ?_) hs hw
  rw [h1]
  exact thn (hg pins s1 σ H1 x v _ I1 r1 q1) fun _ s2 q => q
theorem ps_set {i : Nat} {x : Str} {e : Expr} {te : TE} {pos' : Pos} (hN : X.N.Nodup) (hi : X.N[i]? = some x) (hx : Loc X.env.scope x) (he : PE X e te) (hs : swapsWith e (some (.Name x pos')) pos.line X.env = pure false := by rfl) (hf : X.fn x = true ∨ X.env.scope.names.lookup x = some .local := by first | exact .inl rfl | exact .inr rfl | assumption) :
    PS X (.Assign [.Name x pos'] e pos) (tAsg te (gName i)) := by
  intro pins s σ H D I h
  refine wpAny_Assign_Name (thn (he pins s σ H _ I h) fun v s1 ⟨y, H1, I1, r1, q1⟩ => ?_) hs
  exact store_ok I1 hN hi hx r1 (fun s2 I2 => ⟨_, H1, I2, q1⟩) hf
def tPar (i j : Nat) (ta : TA) : TS := fun D σ H => ta σ H fun vs H1 => ∃ v w, vs = [v, w] ∧ D.nx ((σ.set i (some v)).set j (some w)) H1
theorem ps_par {i j : Nat} {x y : Str} {a b : Expr} {ta : TA} {px py pt : Pos} {kt k2 pt2} (hc : X.calm = true) (hN : X.N.Nodup) (hi : X.N[i]? = some x) (hj : X.N[j]? = some y) (hij : i ≠ j)
    (hx : X.env.scope.names.lookup x = some .local) (hy : X.env.scope.names.lookup y = some .local) (ha : PA X [a, b] ta)
    (hw : swappedStores [.Tuple [.Name x px, .Name y py] kt pt] (.Tuple [a, b] k2 pt2) X.env = pure (some [x, y]))
    (hs : swapsWithSole [.Tuple [.Name x px, .Name y py] kt pt] (.Tuple [a, b] k2 pt2) pos.line X.env = pure false := by rfl) :
    PS X (.Assign [.Tuple [.Name x px, .Name y py] kt pt] (.Tuple [a, b] k2 pt2) pos) (tPar i j ta) := by
  intro pins s σ H D I h
  rw [exec_Assign_arm]
  refine wpAny_bind (wpAny_standAt ?_)
  rw [hs]
  refine wpAny_bind (wpAny_pure ?_)
  rw [if_neg (by decide)]
  refine wpAny_bind (Tuple_ (thn (ha _ pins s σ H _ I h) fun us s1 ⟨vs, H1, I1, r1, q1⟩ => ?_))
  obtain ⟨v, w, e1, q1⟩ := q1
  subst e1
  obtain ⟨u1, u2, rfl, rv, rw'⟩ : ∃ u1 u2, us = [u1, u2] ∧ RelV v u1 ∧ RelV w u2 := by
    cases r1 with
    | cons p q =>
      cases q with
      | cons p' q' =>
        cases q'
        exact ⟨_, _, rfl, p, p'⟩
  refine wpAny_newObj_type ?_ (by show 2 ≤ sizeLine; decide)
  have I2 : Inv X pins σ H1 { s1 with heap := s1.heap.push { cls := .type "tuple", data := .seq [u1, u2].toArray } } := I1.kept (t' := s1.toks) fun b o e => Heap.get?_push_of_some _ e
  rw [hw]
  refine wpAny_bind (wpAny_pure ?_)
  show wpAny (model X.prog X.w) X.A (do rule "assign.swapped-stores"; let items ← unpackItems (.ref s1.heap.objs.size) 2 none; assignInOrder [fun v => bindName X.env y v, fun v => bindName X.env x v] items.reverse; pure Flow.next) _ _ _
  refine wpAny_bind (wpAny_rule (wpAny_bind (unpackItems_tuple (items := #[u1, u2]) (I.ok.hd hc) (IsTup.new s1.heap _) fun h' hx' => ?_)))
  have I3 := I2.kept (h' := h') (t' := s1.toks) fun b o e => hx' b o (Nat.ne_of_lt (Heap.lt_size e)) e
  show wpAny _ _ (assignInOrder [fun v => bindName X.env y v, fun v => bindName X.env x v] [u2, u1] >>= fun _ => pure Flow.next) _ _ _
  refine wpAny_bind (assignInOrder_cons (wpAny_bindName (store_ok I3 hN hj (.inl hy) rw' (fun s2 I4 => ?_) (.inr hy))))
  refine assignInOrder_cons (wpAny_bindName (store_ok I4 hN hi (.inl hx) rv (fun s3 I5 => assignInOrder_nil (wpAny_pure ?_)) (.inr hx)))
  rw [List.set_comm _ _ (Ne.symm hij)] at I5
  exact ⟨_, H1, I5, q1⟩
end
section
variable {X : Cx} {pos : Pos}
def tWhile (c : TT) (tb : TS) : TS := fun D σ H => ∃ W : Nat → St → Hp → Prop, (∃ m, W m σ H) ∧ ∀ m σ H, W m σ H →
  c σ H fun b H1 => if b = true then ∃ N : St → Hp → Prop, (∀ σ' H', N σ' H' → ∃ m', m' < m ∧ W m' σ' H') ∧ tb { D with nx := N, ct := N, bk := D.nx } σ H1 else D.nx σ H1
theorem ps_while {c : Expr} {body : List Stmt} {tc : TT} {tb : TS} (hp : PassesOwn (model X.prog X.w) X.A X.env X.xe) (hc : PT X c tc) (hb : PSs X body tb) : PS X (.While c body [] pos) (tWhile tc tb) := by
  intro pins s σ H D I h
  obtain ⟨W, ⟨m0, w0⟩, turn⟩ := h
  refine wpAny_While (codeAny_whileLoop (fun n s' => ∃ σ' H', Inv X pins σ' H' s' ∧ W n σ' H') ?_ m0 ⟨σ, H, I, w0⟩)
  rintro n s1 ⟨σ1, H1, I1, w1⟩
  refine wpAny_passesOwn hp (thn (hc pins s1 σ1 H1 _ I1 (turn n σ1 H1 w1)) fun b s2 ⟨H2, I2, q2⟩ => ?_)
  cases b with
  | true =>
    obtain ⟨N, hN, q2⟩ := q2
    rw [if_pos rfl]
    refine wpAny_passesOwn hp (thn (hb pins s2 σ1 H2 _ I2 q2) fun f s3 q3 => ?_)
    cases f with
    | next =>
      obtain ⟨σ3, H3, I3, n3⟩ := q3
      obtain ⟨m', hm, w3⟩ := hN σ3 H3 n3
      exact ⟨m', hm, σ3, H3, I3, w3⟩
    | cont =>
      obtain ⟨σ3, H3, I3, n3⟩ := q3
      obtain ⟨m', hm, w3⟩ := hN σ3 H3 n3
      exact ⟨m', hm, σ3, H3, I3, w3⟩
    | brk => exact q3
    | ret v => exact q3
  | false =>
    rw [if_neg Bool.false_ne_true]
    exact wpAny_execs_nil ⟨σ1, H2, I2, q2⟩
end
structure It where
  go : Nat → Hp → Prop
  yld : Nat → Hp → V → Hp → Prop
  stop : Nat → Hp → Prop
def FpOk (X : Cx) (pins : List (Addr × Obj)) (H : Hp) (b : Addr) : Prop :=
  H b = none ∧ b ≠ X.env.locals ∧ b ∉ X.fs ∧ (b ∈ X.ex ∨ X.s₀.heap.objs.size ≤ b) ∧ (∀ x c, X.env.cells.lookup x = some c → c ≠ b) ∧ ∀ p ∈ X.pn ++ pins, p.1 ≠ b
theorem Inv.fpOk {X : Cx} {pins : List (Addr × Obj)} {σ : St} {H H' : Hp} {s : Shared} {b : Addr} (I : Inv X pins σ H s) (hb : s.heap.objs.size ≤ b) (hn : H' b = none) : FpOk X pins H' b := by
  refine ⟨hn, Nat.ne_of_gt (Nat.lt_of_lt_of_le I.lt hb), I.nofs hb, .inr (Nat.le_trans I.sz hb), fun x c e z => ?_, fun p hp z => ?_⟩
  · obtain ⟨v, q⟩ := I.cell x c e
    exact absurd (Nat.lt_of_lt_of_le q.lt (by rw [z]; exact hb)) (Nat.lt_irrefl _)
  · exact absurd (Nat.lt_of_lt_of_le (Heap.lt_size (I.pin p hp).1) (by rw [z]; exact hb)) (Nat.lt_irrefl _)
structure Turn (P : Program) (w : World) (K : PySem.W.Frag) (tg : Expr) (J : It) (fp : List Addr) (it : Addr) (tn : Nat → Heap → Prop) : Prop where
  mem : it ∈ fp
  obj : ∀ i h, tn i h → ∀ b ∈ fp, ∃ o, h.get? b = some o ∧ ∀ v, o.data ≠ .cell v
  keep : ∀ i h h', tn i h → (∀ b ∈ fp, ∀ o, h.get? b = some o → h'.get? b = some o) → tn i h'
  item : ∀ (X : Cx), X.prog = P → X.w = w → X.K = K → X.calm = true → ∀ (i : Nat) (pins : List (Addr × Obj)) (s : Shared) (σ : St) (H : Hp) (E : Value → Shared → Prop), Inv X pins σ H s → (∀ b ∈ fp, FpOk X pins H b) → tn i s.heap → J.go i H →
    wpAny (model P w) X.A (pyNext (.ref it)) (fun r s1 => ∃ u, r = some u ∧
      wpAny (model P w) X.A (letOwnedTupleGo tg (.ref it) u) (fun _ s2 => ∃ x H', Inv X pins σ H' s2 ∧ RelV x u ∧ J.yld i H x H' ∧ tn (i + 1) s2.heap ∧ ∀ b ∈ fp, H' b = none) E s1) E s
  done : ∀ (X : Cx), X.prog = P → X.w = w → X.K = K → X.calm = true → ∀ (i : Nat) (pins : List (Addr × Obj)) (s : Shared) (σ : St) (H : Hp) (E : Value → Shared → Prop), Inv X pins σ H s → (∀ b ∈ fp, FpOk X pins H b) → tn i s.heap → J.stop i H →
    wpAny (model P w) X.A (pyNext (.ref it)) (fun r s1 => r = none ∧ Inv X pins σ H s1) E s
  self : ∀ (A : Around) (i : Nat) (s : Shared) (Q : Value → Shared → Prop) (E : Value → Shared → Prop), tn i s.heap → Q (.ref it) s → wpAny (model P w) A (pyIter (.ref it)) Q E s
abbrev TI := St → Hp → (It → Hp → Prop) → Prop
def PIE (X : Cx) (pins : List (Addr × Obj)) (σ : St) (tg : Expr) (R : It → Hp → Prop) (itv : Value) (s2 : Shared) : Prop :=
  ∃ (it : Addr) (fp : List Addr) (tn : Nat → Heap → Prop) (J : It) (H' : Hp), itv = .ref it ∧ Inv X pins σ H' s2 ∧ Turn X.prog X.w X.K tg J fp it tn ∧ tn 0 s2.heap ∧ (∀ b ∈ fp, FpOk X pins H' b) ∧ R J H'
def PI (X : Cx) (tg iter : Expr) (wi : TI) : Prop :=
  ∀ (pins : List (Addr × Obj)) (s : Shared) (σ : St) (H : Hp) (R : It → Hp → Prop), Inv X pins σ H s → wi σ H R →
    wpAny (model X.prog X.w) X.A (eval iter X.env) (fun v s1 => wpAny (model X.prog X.w) X.A (pyIter v) (PIE X pins σ tg R) X.xe s1) X.xe s
theorem go_of {M : Model} {A : Around} {E : Value → Shared → Prop} {s : Shared} {tg : Expr} {it : Addr} {u : Value} {o : Obj} {n : String} {vs : Array Value} {Q : Unit → Shared → Prop} (ho : s.heap.get? it = some o) (hc : o.cls = .type n) (hd : o.data = .fields vs)
    (hn : ["enumerate", "zip", "dict_itemiterator", "dict_reverseitemiterator", "odict_iterator", "itertools.zip_longest", "itertools.pairwise"].contains n = false) (hQ : Q () s) : wpAny M A (letOwnedTupleGo tg (.ref it) u) Q E s := by
  unfold letOwnedTupleGo
  cases tg <;> first
    | exact wpAny_pure hQ
    | (cases u <;> first
        | exact wpAny_pure hQ
        | (refine wpAny_bind (wpAny_load ho ?_)
           rw [hc, hd]
           show wpAny M A (if (["enumerate", "zip", "dict_itemiterator", "dict_reverseitemiterator", "odict_iterator", "itertools.zip_longest", "itertools.pairwise"].contains n && vs[0]? == some (rawInt _)) = true then _ else _) Q E s
           rw [if_neg (by intro h; rw [hn, Bool.false_and] at h; cases h)]
           exact wpAny_pure hQ))
def Itl (K : PySem.W.Frag) (a : Addr) : It :=
  ⟨fun i H => ∃ xs x, SqL K H a xs ∧ xs[i]? = some x, fun i H x H' => H' = H ∧ ∀ xs, SqL K H a xs → xs[i]? = some x, fun i H => ∃ xs, SqL K H a xs ∧ xs.length ≤ i⟩
def Itr (lo : Int) (n : Nat) : It := ⟨fun i _ => i < n, fun i H x H' => H' = H ∧ x = .int (lo + i), fun i _ => n ≤ i⟩
theorem turn_list {P : Program} {w : World} {K : PySem.W.Frag} {tg : Expr} (a it : Addr) : Turn P w K tg (Itl K a) [it] it (fun i h => h.IsListIter it a i) where
  mem := by simp
  obj := fun i h st b hb => by
    have e : b = it := by simpa using hb
    subst e
    obtain ⟨o, e, c, d⟩ := st
    exact ⟨o, e, fun v z => by rw [d] at z; cases z⟩
  keep := fun i h h' st k => st.at fun o e => k it (by simp) o e
  item := by
    intro X hP hw hK hc i pins s σ H E I hf st hg
    subst hP hw hK
    obtain ⟨xs, x, hq, hx⟩ := hg
    obtain ⟨its, rv, p, hz⟩ := I.list hq
    obtain ⟨u, hu, ru⟩ := rv.get hx
    obtain ⟨f0, f1, f2, f3, f4, f5⟩ := hf it (by simp)
    refine wpAny_pyNext_list_item st p.isList (x := u) (by simpa using hu) fun h' st' sb => ?_
    have I1 : Inv X pins σ H { s with heap := h' } := I.turned (t' := s.toks) (fun b o hb e => (sb.2 b hb).trans e) f0 f1 f3 f4 f5
    obtain ⟨o, e, c, d⟩ := id st'
    exact ⟨u, rfl, go_of (s := { s with heap := h' }) e c d (by decide) ⟨x, H, I1, ru, ⟨rfl, fun ys hy => by rw [I.list_inj hy hq]; exact hx⟩, st', fun b hb => (hf b hb).1⟩⟩
  done := by
    intro X hP hw hK hc i pins s σ H E I hf st hg
    subst hP hw hK
    obtain ⟨xs, hq, hx⟩ := hg
    obtain ⟨its, rv, p, hz⟩ := I.list hq
    obtain ⟨f0, f1, f2, f3, f4, f5⟩ := hf it (by simp)
    have hl := rv.length
    exact wpAny_pyNext_list_end (I.ok.hd hc) st p.isList (by simp; omega) fun h' eb => ⟨rfl, I.turned (t' := s.toks) (fun b o hb e => eb b o hb e) f0 f1 f3 f4 f5⟩
  self := fun _ _ _ _ _ st h => wpAny_pyIter_listiter st h
theorem turn_range {P : Program} {w : World} {K : PySem.W.Frag} {tg : Expr} (it : Addr) (lo : Int) (n : Nat) : Turn P w K tg (Itr lo n) [it] it (fun i h => IsRangeIter h it (lo + (i : Nat) * 1) ((n : Int) - (i : Nat)) 1) where
  mem := by simp
  obj := fun i h st b hb => by
    have e : b = it := by simpa using hb
    subst e
    exact ⟨_, st, fun v z => by
      have z' : Data.fields _ = Data.cell v := z
      cases z'⟩
  keep := fun i h h' st k => k it (by simp) _ st
  item := by
    intro X hP hw hK hc i pins s σ H E I hf st hg
    subst hP hw hK
    obtain ⟨f0, f1, f2, f3, f4, f5⟩ := hf it (by simp)
    have W := Walks.range (prog := X.prog) (w := X.w) (I.ok.hd hc) it lo 1 n
    refine W.item i s _ _ hg st fun v h' tk hv st' kk => ?_
    obtain ⟨t, rfl⟩ := hv
    have I1 : Inv X pins σ H { s with heap := h', toks := tk } := I.turned (fun b o hb e => kk b o (by simpa using hb) e) f0 f1 f3 f4 f5
    refine ⟨_, rfl, go_of (s := { s with heap := h', toks := tk }) (n := "range_iterator") st' rfl rfl (by decide) ⟨.int (lo + i), H, I1, ⟨t, ?_⟩, ⟨rfl, rfl⟩, st', fun b hb => (hf b hb).1⟩⟩
    rw [Int.mul_one]
  done := by
    intro X hP hw hK hc i pins s σ H E I hf st hg
    subst hP hw hK
    obtain ⟨f0, f1, f2, f3, f4, f5⟩ := hf it (by simp)
    exact wpAny_pyNext_range_end (I.ok.hd hc) st (by have : n ≤ i := hg; omega) fun h' eb => ⟨rfl, I.turned (t' := s.toks) (fun b o hb e => eb b o hb e) f0 f1 f3 f4 f5⟩
  self := fun _ _ _ _ _ st h => wpAny_pyIter_rangeiter st h
end L2
namespace L2
open PySem PySem.Spec PyProof.Rows
section
variable {X : Cx} {tg : Expr}
def iList (K : PySem.W.Frag) (tl : TE) : TI := fun σ H R => tl σ H fun x H1 => ∃ a, x = .ref a ∧ (∃ xs, SqL K H1 a xs) ∧ R (Itl K a) H1
theorem pi_list {l : Expr} {tl : TE} (hl : PE X l tl) : PI X tg l (iList X.K tl) := by
  intro pins s σ H R I h
  refine thn (hl pins s σ H _ I h) fun v s1 ⟨x, H1, I1, r1, q1⟩ => ?_
  obtain ⟨a, e, ⟨xs, hq⟩, q⟩ := q1
  subst e
  cases r1
  obtain ⟨its, rv, p, hz⟩ := I1.list hq
  refine wpAny_pyIter_list p.isList ?_
  refine ⟨s1.heap.objs.size, [s1.heap.objs.size], _, _, H1, rfl, I1.kept (t' := s1.toks) fun b o e => Heap.get?_push_of_some _ e, turn_list a _, ⟨_, Heap.get?_push_size _ rfl, rfl, rfl⟩, fun b hb => ?_, q⟩
  have e : b = s1.heap.objs.size := by simpa using hb
  subst e
  exact I1.fpOk (Nat.le_refl _) (I1.hok.fresh (Nat.le_refl _))
theorem range_it {pins : List (Addr × Obj)} {σ : St} {H : Hp} {s : Shared} {R : It → Hp → Prop} {E : Value → Shared → Prop} {lo hi : Int} {t u v : Tok} {tk : Nat} (I : Inv X pins σ H s) (h1 : -(2 ^ 62) ≤ lo) (h2 : lo < 2 ^ 62) (h3 : -(2 ^ 62) ≤ hi) (h4 : hi < 2 ^ 62)
    (q : R (Itr lo (hi - lo).toNat) H) : wpAny (model X.prog X.w) X.A (pyIter (.ref s.heap.objs.size)) (PIE X pins σ tg R) E { s with heap := s.heap.push { cls := .type "range", data := .fields #[.int lo t, .int hi u, .int 1 v] }, toks := tk } := by
  refine wpAny_pyIter_range (IsRange.new ..) (small_one h1 h2 h3 h4) ?_
  have I1 : Inv X pins σ H { s with heap := s.heap.push { cls := .type "range", data := .fields #[.int lo t, .int hi u, .int 1 v] }, toks := tk } := I.kept fun b o e => Heap.get?_push_of_some _ e
  refine ⟨(s.heap.push { cls := .type "range", data := .fields #[.int lo t, .int hi u, .int 1 v] }).objs.size, [(s.heap.push { cls := .type "range", data := .fields #[.int lo t, .int hi u, .int 1 v] }).objs.size], _, _, H, rfl,
    I1.kept (t' := tk) fun b o e => Heap.get?_push_of_some _ e, turn_range _ lo (hi - lo).toNat, ?_, fun b hb => ?_, q⟩
  · have e1 : lo + ((0 : Nat) : Int) * 1 = lo := by simp
    have e2 : (((hi - lo).toNat : Nat) : Int) - ((0 : Nat) : Int) = Builtin.Range.rangeSize lo hi 1 := by rw [rangeSize_one]; split <;> omega
    show IsRangeIter _ _ (lo + ((0 : Nat) : Int) * 1) ((((hi - lo).toNat : Nat) : Int) - ((0 : Nat) : Int)) 1
    rw [e1, e2]
    exact Heap.get?_push_size _ rfl
  · have e : b = (s.heap.push { cls := .type "range", data := .fields #[.int lo t, .int hi u, .int 1 v] }).objs.size := by simpa using hb
    subst e
    exact I1.fpOk (Nat.le_refl _) (I1.hok.fresh (Nat.le_refl _))
def iRng1 (ta : TA) : TI := fun σ H R => ta σ H fun vs H1 => ∃ j : Int, vs = [.int j] ∧ -(2 ^ 62) ≤ j ∧ j < 2 ^ 62 ∧ R (Itr 0 j.toNat) H1
theorem pi_range1 {a : Expr} {ta : TA} {p pos : Pos} (hg : Gl X "range") (hm : X.mg "range" = none) (ha : PA X [a] ta) (hs : starEach [a] X.env = [(false, eval a X.env)] := by rfl) : PI X tg (.Call (.Name "range" p) [a] [] pos) (iRng1 ta) := by
  intro pins s σ H R I h
  refine Call_ (ld_blt I hg hm boot_range (PyProof.Rows.callWith_type1 (thn (ha pos pins s σ H _ I h) fun us s1 ⟨vs, H1, I1, r1, q1⟩ => ?_) hs rfl))
  obtain ⟨j, e, q1, q2, q⟩ := q1
  subst e
  cases r1 with
  | cons r rr =>
    cases rr
    obtain ⟨t, rfl⟩ := r
    exact call_range_1 (range_it I1 (by omega) (by omega) q1 q2 (by simpa using q))
def tFor (wi : TI) (g : TG) (tb : TS) : TS := fun D σ H => wi σ H fun J H1 => ∃ W : Nat → Nat → St → Hp → Prop, (∃ m, W 0 m σ H1) ∧ ∀ i m σ H, W i m σ H →
  (J.stop i H ∧ D.nx σ H) ∨ (J.go i H ∧ ∃ N : St → Hp → Prop, (∀ σ' H', N σ' H' → ∃ m', m' < m ∧ W (i + 1) m' σ' H') ∧ ∀ x H', J.yld i H x H' → g x σ H' fun σ2 H2 => tb { D with nx := N, ct := N, bk := D.nx } σ2 H2)
def pinsAt (fp : List Addr) (h : Heap) : List (Addr × Obj) := fp.filterMap fun b => (h.get? b).map fun o => (b, o)
theorem mem_pinsAt {fp : List Addr} {h : Heap} {b : Addr} {o : Obj} (hb : b ∈ fp) (e : h.get? b = some o) : (b, o) ∈ pinsAt fp h := List.mem_filterMap.mpr ⟨b, hb, by rw [e]; rfl⟩
theorem of_pinsAt {fp : List Addr} {h : Heap} {p : Addr × Obj} (hp : p ∈ pinsAt fp h) : p.1 ∈ fp ∧ h.get? p.1 = some p.2 := by
  obtain ⟨b, hb, e⟩ := List.mem_filterMap.mp hp
  cases q : h.get? b with
  | none => rw [q] at e; cases e
  | some o =>
    rw [q] at e
    have e' : (b, o) = p := Option.some.inj e
    subst e'
    exact ⟨hb, q⟩
theorem Inv.pinned {pins : List (Addr × Obj)} {σ : St} {H : Hp} {s : Shared} {fp : List Addr} (I : Inv X pins σ H s) (hf : ∀ b ∈ fp, FpOk X pins H b) (ho : ∀ b ∈ fp, ∃ o, s.heap.get? b = some o ∧ ∀ v, o.data ≠ .cell v) : Inv X (pins ++ pinsAt fp s.heap) σ H s :=
  I.pins_of fun p hp => (List.mem_append.mp hp).elim (fun z => I.pin p (List.mem_append_right _ z)) fun z => by
    obtain ⟨hb, e⟩ := of_pinsAt z
    obtain ⟨f0, f1, f2, _⟩ := hf p.1 hb
    obtain ⟨o, e', d⟩ := ho p.1 hb
    rw [e] at e'; cases e'
    exact ⟨e, f0, f1, f2, d⟩
theorem Inv.unpinned {pins pl : List (Addr × Obj)} {σ : St} {H : Hp} {s : Shared} (I : Inv X (pins ++ pl) σ H s) : Inv X pins σ H s := I.pins_of fun p hp => I.pin p (List.mem_append_right _ (List.mem_append_left _ hp))
theorem ps_for {iter : Expr} {body : List Stmt} {wi : TI} {g : TG} {tb : TS} {pos : Pos} (hp : PassesOwn (model X.prog X.w) X.A X.env X.xe) (hc : X.calm = true) (hi : PI X tg iter wi) (hg : PG X tg g) (hb : PSs X body tb)
    (hs : ∀ x, foldedSetIterable iter X.env x = pure x := by intro _; rfl) : PS X (.For tg iter body [] pos) (tFor wi g tb) := by
  intro pins s σ H D I h
  refine wpAny_For (thn (hi pins s σ H _ I h) fun v s1 h1 => thn h1 fun itv s2 h2 => ?_) hs
  obtain ⟨it, fp, tn, J, H2, e, I2, T, st2, f2, W, ⟨m0, w0⟩, turn⟩ := h2
  subst e
  -- what stays true of the iterator's objects through the loop
  have stat : ∀ {H' : Hp}, (∀ b ∈ fp, H' b = none) → ∀ b ∈ fp, FpOk X pins H' b := fun hn b hb => ⟨hn b hb, (f2 b hb).2⟩
  refine codeAny_forLoop_any (fun n s' => ∃ i σ' H', Inv X pins σ' H' s' ∧ tn i s'.heap ∧ (∀ b ∈ fp, H' b = none) ∧ W i n σ' H') ?_ m0 ⟨0, σ, H2, I2, st2, fun b hb => (f2 b hb).1, w0⟩
  rintro n s3 ⟨i, σ3, H3, I3, st3, fr3, w3⟩
  rcases turn i n σ3 H3 w3 with ⟨stop, qn⟩ | ⟨go, N, hN, step⟩
  · refine wpAny_passesOwn hp (thn (T.done X rfl rfl rfl hc i pins s3 σ3 H3 X.xe I3 (stat fr3) st3 stop) fun r s4 ⟨hr, I4⟩ => ?_)
    subst hr
    exact wpAny_execs_nil ⟨σ3, H3, I4, qn⟩
  · refine wpAny_passesOwn hp (thn (T.item X rfl rfl rfl hc i pins s3 σ3 H3 X.xe I3 (stat fr3) st3 go) fun r s4 ⟨u, hr, h4⟩ => ?_)
    subst hr
    refine wpAny_passesOwn hp (thn h4 fun _ s5 ⟨x, H5, I5, r5, y5, st5, fr5⟩ => ?_)
    have I5' := I5.pinned (stat fr5) (T.obj _ _ st5)
    refine wpAny_passesOwn hp (thn (hg _ s5 σ3 H5 x u _ I5' r5 (step x H5 y5)) fun _ s6 ⟨σ6, H6, I6, q6⟩ => ?_)
    refine wpAny_passesOwn hp (thn (hb _ s6 σ6 H6 _ I6 q6) fun f s7 q7 => ?_)
    have again : ∀ {σ7 : St} {H7 : Hp}, Inv X (pins ++ pinsAt fp s5.heap) σ7 H7 s7 → N σ7 H7 → ∃ m, m < n ∧ ∃ i σ' H', Inv X pins σ' H' s7 ∧ tn i s7.heap ∧ (∀ b ∈ fp, H' b = none) ∧ W i m σ' H' := fun {σ7 H7} I7 n7 => by
      obtain ⟨m', hm, w7⟩ := hN σ7 H7 n7
      refine ⟨m', hm, i + 1, σ7, H7, I7.unpinned, T.keep _ _ _ st5 fun b hb o e => (I7.pin (b, o) (List.mem_append_right _ (List.mem_append_right _ (mem_pinsAt hb e)))).1, fun b hb => ?_, w7⟩
      obtain ⟨o, e, d⟩ := T.obj _ _ st5 b hb
      exact (I7.pin (b, o) (List.mem_append_right _ (List.mem_append_right _ (mem_pinsAt hb e)))).2.1
    cases f with
    | next => obtain ⟨σ7, H7, I7, n7⟩ := q7; exact again I7 n7
    | cont => obtain ⟨σ7, H7, I7, n7⟩ := q7; exact again I7 n7
    | brk => obtain ⟨σ7, H7, I7, q7⟩ := q7; exact ⟨σ7, H7, I7.unpinned, q7⟩
    | ret v => obtain ⟨x7, σ7, H7, I7, r7, q7⟩ := q7; exact ⟨x7, σ7, H7, I7.unpinned, r7, q7⟩
end
theorem for_list {K : PySem.W.Frag} {a : Addr} {xs : List V} {g : TG} {tb : TS} {D : Ends} {σ : St} {H : Hp} (Pv : Nat → St → Hp → Prop) (h0 : Pv 0 σ H) (hl : ∀ i σ H, i ≤ xs.length → Pv i σ H → SqL K H a xs)
    (hs : ∀ i x σ H, xs[i]? = some x → Pv i σ H → g x σ H fun σ2 H2 => tb { D with nx := Pv (i + 1), ct := Pv (i + 1), bk := D.nx } σ2 H2) (hd : ∀ σ H, Pv xs.length σ H → D.nx σ H) :
    ∃ W : Nat → Nat → St → Hp → Prop, (∃ m, W 0 m σ H) ∧ ∀ i m σ H, W i m σ H →
      ((Itl K a).stop i H ∧ D.nx σ H) ∨ ((Itl K a).go i H ∧ ∃ N : St → Hp → Prop, (∀ σ' H', N σ' H' → ∃ m', m' < m ∧ W (i + 1) m' σ' H') ∧ ∀ x H', (Itl K a).yld i H x H' → g x σ H' fun σ2 H2 => tb { D with nx := N, ct := N, bk := D.nx } σ2 H2) := by
  refine ⟨fun i m σ H => m = xs.length - i ∧ i ≤ xs.length ∧ Pv i σ H, ⟨xs.length, by simp, Nat.zero_le _, h0⟩, ?_⟩
  rintro i m σ H ⟨rfl, hi, p⟩
  have q := hl i σ H hi p
  by_cases hlt : i < xs.length
  · refine .inr ⟨⟨xs, xs[i], q, by simp [hlt]⟩, Pv (i + 1), fun σ' H' p' => ⟨xs.length - (i + 1), by omega, rfl, hlt, p'⟩, fun x H' y => ?_⟩
    obtain ⟨e, y⟩ := y
    subst e
    exact hs i x σ _ (y xs q) p
  · have e : i = xs.length := by omega
    subst e
    exact .inl ⟨⟨xs, q, Nat.le_refl _⟩, hd σ H p⟩
theorem for_range {lo : Int} {n : Nat} {g : TG} {tb : TS} {D : Ends} {σ : St} {H : Hp} (Pv : Nat → St → Hp → Prop) (h0 : Pv 0 σ H)
    (hs : ∀ i σ H, i < n → Pv i σ H → g (.int (lo + i)) σ H fun σ2 H2 => tb { D with nx := Pv (i + 1), ct := Pv (i + 1), bk := D.nx } σ2 H2) (hd : ∀ σ H, Pv n σ H → D.nx σ H) :
    ∃ W : Nat → Nat → St → Hp → Prop, (∃ m, W 0 m σ H) ∧ ∀ i m σ H, W i m σ H →
      ((Itr lo n).stop i H ∧ D.nx σ H) ∨ ((Itr lo n).go i H ∧ ∃ N : St → Hp → Prop, (∀ σ' H', N σ' H' → ∃ m', m' < m ∧ W (i + 1) m' σ' H') ∧ ∀ x H', (Itr lo n).yld i H x H' → g x σ H' fun σ2 H2 => tb { D with nx := N, ct := N, bk := D.nx } σ2 H2) := by
  refine ⟨fun i m σ H => m = n - i ∧ i ≤ n ∧ Pv i σ H, ⟨n, by simp, Nat.zero_le _, h0⟩, ?_⟩
  rintro i m σ H ⟨rfl, hi, p⟩
  by_cases hlt : i < n
  · refine .inr ⟨hlt, Pv (i + 1), fun σ' H' p' => ⟨n - (i + 1), by omega, rfl, hlt, p'⟩, fun x H' y => ?_⟩
    obtain ⟨e, y⟩ := y
    subst e y
    exact hs i σ _ hlt p
  · have e : i = n := by omega
    subst e
    exact .inl ⟨Nat.le_refl _, hd σ H p⟩
end L2
namespace L2
open PySem PySem.Spec PyProof.Rows
abbrev R2 := V → V → Hp → VK → Prop
def OpR (X : Cx) (f : Value → Value → Sem Value) (r : R2) : Prop :=
  ∀ (pins : List (Addr × Obj)) (s : Shared) (σ : St) (H : Hp) (x y : V) (v u : Value) (Q : VK), Inv X pins σ H s → RelV x v → RelV y u → r x y H Q →
    wpAny (model X.prog X.w) X.A (f v u) (EP X pins σ Q) X.xe s
def UnR (X : Cx) (f : Value → Sem Value) (r : V → Hp → VK → Prop) : Prop :=
  ∀ (pins : List (Addr × Obj)) (s : Shared) (σ : St) (H : Hp) (x : V) (v : Value) (Q : VK), Inv X pins σ H s → RelV x v → r x H Q →
    wpAny (model X.prog X.w) X.A (f v) (EP X pins σ Q) X.xe s
def CallR (X : Cx) (f : Value) (r : List V → Hp → VK → Prop) : Prop :=
  ∀ (pins : List (Addr × Obj)) (s : Shared) (σ : St) (H : Hp) (xs : List V) (us : List Value) (Q : VK), Inv X pins σ H s → Vals xs us → r xs H Q →
    wpAny (model X.prog X.w) X.A (call f us) (EP X pins σ Q) X.xe s
def TruR (X : Cx) (r : V → Hp → (Bool → Hp → Prop) → Prop) : Prop :=
  ∀ (pins : List (Addr × Obj)) (s : Shared) (σ : St) (H : Hp) (x : V) (v : Value) (Q : Bool → Hp → Prop), Inv X pins σ H s → RelV x v → r x H Q →
    wpAny (model X.prog X.w) X.A (truthy v) (TP X pins σ Q) X.xe s
def tOp (r : R2) (ta tb : TE) : TE := fun σ H Q => ta σ H fun x H1 => tb σ H1 fun y H2 => r x y H2 Q
def tUn (r : V → Hp → VK → Prop) (ta : TE) : TE := fun σ H Q => ta σ H fun x H1 => r x H1 Q
def rI (C : Int → Int → Prop) (g : Int → Int → V) : R2 := fun x y H Q => ∃ i j, x = .int i ∧ y = .int j ∧ C i j ∧ Q (g i j) H
def rI0 (g : Int → Int → V) : R2 := fun x y H Q => ∃ i j, x = .int i ∧ y = .int j ∧ Q (g i j) H
def rU (g : Int → V) : V → Hp → VK → Prop := fun x H Q => ∃ i, x = .int i ∧ Q (g i) H
section
variable {X : Cx} {a b c : Expr} {ta tb tc : TE} {pos : Pos}
theorem binT (ha : PE X a ta) (hb : PE X b tb) {pins : List (Addr × Obj)} {s : Shared} {σ : St} {H : Hp} {R : V → V → Hp → Prop} (I : Inv X pins σ H s)
    (h : ta σ H fun x H1 => tb σ H1 fun y H2 => R x y H2) {Q : Value → Shared → Prop} {f : Value → Value → Sem Value}
    (hf : ∀ v u s2 x y H2, Inv X pins σ H2 s2 → RelV x v → RelV y u → R x y H2 → wpAny (model X.prog X.w) X.A (f v u) Q X.xe s2) :
    wpAny (model X.prog X.w) X.A (eval a X.env) (fun v s₁ => wpAny (model X.prog X.w) X.A (eval b X.env) (fun u s₂ => wpAny (model X.prog X.w) X.A (f v u) Q X.xe s₂) X.xe s₁) X.xe s := by
  refine thn (ha pins s σ H _ I h) fun v s1 ⟨x, H1, I1, r1, q1⟩ => ?_
  refine thn (hb pins s1 σ H1 _ I1 q1) fun u s2 ⟨y, H2, I2, r2, q2⟩ => ?_
  exact hf v u s2 x y H2 I2 r1 r2 q2
theorem pe_op {op : Operator} {r : R2} (ho : OpR X (binaryOp op) r) (ha : PE X a ta) (hb : PE X b tb) : PE X (.BinOp a op b pos) (tOp r ta tb) := by
  intro pins s σ H Q I h
  exact wpAny_BinOp (binT ha hb I h fun v u s2 x y H2 I2 rx ry q => ho pins s2 σ H2 x y v u Q I2 rx ry q)
theorem pe_un {op : UnaryOp} {r : V → Hp → VK → Prop} (ho : UnR X (unaryOp op) r) (ha : PE X a ta) : PE X (.UnaryOp op a pos) (tUn r ta) := by
  intro pins s σ H Q I h
  exact UnaryOp_ (thn (ha pins s σ H _ I h) fun v s1 ⟨x, H1, I1, r1, q1⟩ => ho pins s1 σ H1 x v Q I1 r1 q1)
theorem opI {f : Value → Value → Sem Value} {C : Int → Int → Prop} {g : Int → Int → Int}
    (rule : ∀ (i j : Int) (t u : Tok) (s : Shared) (Q : Value → Shared → Prop) (E : Value → Shared → Prop), C i j → Q (.int (g i j) s.toks) { s with toks := s.toks + 1 } → wpAny (model X.prog X.w) X.A (f (.int i t) (.int j u)) Q E s) :
    OpR X f (rI C fun i j => .int (g i j)) := by
  intro pins s σ H x y v u Q I rx ry h
  obtain ⟨i, j, rfl, rfl, hc, q⟩ := h
  obtain ⟨t, rfl⟩ := rx
  obtain ⟨t', rfl⟩ := ry
  exact rule i j t t' s _ _ hc ⟨.int (g i j), H, I.tok _, ⟨_, rfl⟩, q⟩
theorem opI0 {f : Value → Value → Sem Value} {g : Int → Int → Int}
    (rule : ∀ (i j : Int) (t u : Tok) (s : Shared) (Q : Value → Shared → Prop) (E : Value → Shared → Prop), Q (.int (g i j) s.toks) { s with toks := s.toks + 1 } → wpAny (model X.prog X.w) X.A (f (.int i t) (.int j u)) Q E s) :
    OpR X f (rI0 fun i j => .int (g i j)) := by
  intro pins s σ H x y v u Q I rx ry h
  obtain ⟨i, j, rfl, rfl, q⟩ := h
  obtain ⟨t, rfl⟩ := rx
  obtain ⟨t', rfl⟩ := ry
  exact rule i j t t' s _ _ ⟨.int (g i j), H, I.tok _, ⟨_, rfl⟩, q⟩
theorem opB0 {f : Value → Value → Sem Value} {g : Int → Int → Bool}
    (rule : ∀ (i j : Int) (t u : Tok) (s : Shared) (Q : Value → Shared → Prop) (E : Value → Shared → Prop), Q (.bool (g i j)) s → wpAny (model X.prog X.w) X.A (f (.int i t) (.int j u)) Q E s) :
    OpR X f (rI0 fun i j => .bl (g i j)) := by
  intro pins s σ H x y v u Q I rx ry h
  obtain ⟨i, j, rfl, rfl, q⟩ := h
  obtain ⟨t, rfl⟩ := rx
  obtain ⟨t', rfl⟩ := ry
  exact rule i j t t' s _ _ ⟨.bl (g i j), H, I, rfl, q⟩
def CDiv (i j : Int) : Prop := 0 < j ∧ j < 1073741824
def CPow (i j : Int) : Prop := 0 ≤ j ∧ j ≤ 1000000 ∧ i.natAbs < 2 ^ 64
def CMul (i j : Int) : Prop := (-(2 ^ 64) < i ∧ i < 2 ^ 64) ∨ (-(2 ^ 64) < j ∧ j < 2 ^ 64)
theorem CMul.ok {i j : Int} (h : CMul i j) : IntMulOk i j := by
  rcases h with ⟨h1, h2⟩ | ⟨h1, h2⟩
  · exact .of_left (intBits_le_64 h1 h2)
  · exact .of_right (intBits_le_64 h1 h2)
theorem op_add : OpR X (binaryOp .Add) (rI0 fun i j => .int (i + j)) := opI0 fun _ _ _ _ _ _ _ q => add_int q
theorem op_sub : OpR X (binaryOp .Sub) (rI0 fun i j => .int (i - j)) := opI0 fun _ _ _ _ _ _ _ q => sub_int q
theorem op_mul : OpR X (binaryOp .Mult) (rI CMul fun i j => .int (i * j)) := opI fun _ _ _ _ _ _ _ hc q => mul_int q hc.ok
theorem op_fdiv : OpR X (binaryOp .FloorDiv) (rI CDiv fun i j => .int (i / j)) := opI fun i j _ _ _ _ _ hc q => by
  have h1 : (0 : Int) < j := hc.1
  have h2 : j < 1073741824 := hc.2
  exact floordiv_int (by omega) (by rw [Int.fdiv_eq_ediv_of_nonneg i (by omega)]; exact q) (.inl (PyProof.noPylong_small (by omega)))
theorem op_mod : OpR X (binaryOp .Mod) (rI (fun _ j => 0 < j) fun i j => .int (i % j)) := opI fun i j _ _ _ _ _ hc q => by
  have h1 : (0 : Int) < j := hc
  exact mod_int' (by omega) (by rw [Int.fmod_eq_emod_of_nonneg i (by omega)]; exact q)
theorem op_pow : OpR X (binaryOp .Pow) (rI CPow fun i j => .int (i ^ j.toNat)) := opI fun _ _ _ _ _ _ _ hc q => pow_int_small hc.1 hc.2.1 hc.2.2 q
theorem unI {f : Value → Sem Value} {g : Int → Int}
    (rule : ∀ (i : Int) (t : Tok) (s : Shared) (Q : Value → Shared → Prop) (E : Value → Shared → Prop), Q (.int (g i) s.toks) { s with toks := s.toks + 1 } → wpAny (model X.prog X.w) X.A (f (.int i t)) Q E s) :
    UnR X f (rU fun i => .int (g i)) := by
  intro pins s σ H x v Q I rx h
  obtain ⟨i, rfl, q⟩ := h
  obtain ⟨t, rfl⟩ := rx
  exact rule i t s _ _ ⟨.int (g i), H, I.tok _, ⟨_, rfl⟩, q⟩
theorem un_neg : UnR X (unaryOp .USub) (rU fun i => .int (-i)) := unI fun _ _ _ _ _ q => neg_int q
end
def scal : V → V → Bool
  | .non, .non => true | .non, .int _ => true | .int _, .non => true | .non, .bl _ => true | .bl _, .non => true | .non, .str _ => true | .str _, .non => true
  | .int _, .int _ => true | .bl _, .bl _ => true | .str _, .str _ => true | .byt _, .byt _ => true
  | .int _, .str _ => true | .str _, .int _ => true | .bl _, .str _ => true | .str _, .bl _ => true
  | _, _ => false
def rEq : R2 := fun x y H Q => scal x y = true ∧ Q (.bl (decide (x = y))) H
def rNe : R2 := fun x y H Q => scal x y = true ∧ Q (.bl (!decide (x = y))) H
theorem dec_int {i j : Int} : decide (V.int i = V.int j) = (i == j) := by
  rw [Bool.eq_iff_iff]
  simp
theorem dec_bl {i j : Bool} : decide (V.bl i = V.bl j) = (i == j) := by
  rw [Bool.eq_iff_iff]
  simp
theorem dec_str {i j : Str} : decide (V.str i = V.str j) = (i == j) := by
  rw [Bool.eq_iff_iff]
  simp
theorem dec_byt {i j : Array UInt8} : decide (V.byt i = V.byt j) = (i.toList == j.toList) := by
  rw [Bool.eq_iff_iff]
  cases i
  cases j
  simp
section
variable {X : Cx} {a b c : Expr} {ta tb tc : TE} {pos : Pos}
theorem fin_bl {pins : List (Addr × Obj)} {σ : St} {H : Hp} {s : Shared} {Q : VK} {k k' : Bool} (I : Inv X pins σ H s) (q : Q (.bl k) H) (e : k = k') : EP X pins σ Q (.bool k') s := by
  subst e
  exact ⟨.bl k, H, I, rfl, q⟩
theorem op_eq : OpR X (compareOp .Eq) rEq := by
  intro pins s σ H x y v u Q I rx ry h
  obtain ⟨hs, q⟩ := h
  cases x with
  | non =>
    cases rx
    cases y with
    | non => cases ry; exact PySem.EqNone.eq_none_none (fin_bl I q (by simp))
    | bl j => cases ry; exact PySem.EqNone.eq_none_bool (fin_bl I q (by simp))
    | int j => obtain ⟨t', rfl⟩ := ry; exact PySem.EqNone.eq_none_int (fin_bl I q (by simp))
    | str j => obtain ⟨t', rfl⟩ := ry; exact PySem.EqNone.eq_none_str (fin_bl I q (by simp))
    | _ => exact absurd (show false = true from hs) Bool.false_ne_true
  | bl i =>
    cases rx
    cases y with
    | non => cases ry; exact PySem.EqNone.eq_bool_none (fin_bl I q (by simp))
    | bl j => cases ry; exact eq_bool (fin_bl I q dec_bl)
    | str j => obtain ⟨t', rfl⟩ := ry; exact PySem.EqMixed.eq_bool_str (fin_bl I q (by simp))
    | _ => exact absurd (show false = true from hs) Bool.false_ne_true
  | int i =>
    obtain ⟨t, rfl⟩ := rx
    cases y with
    | non => cases ry; exact PySem.EqNone.eq_int_none (fin_bl I q (by simp))
    | int j => obtain ⟨t', rfl⟩ := ry; exact eq_int (fin_bl I q dec_int)
    | str j => obtain ⟨t', rfl⟩ := ry; exact PySem.EqMixed.eq_int_str (fin_bl I q (by simp))
    | _ => exact absurd (show false = true from hs) Bool.false_ne_true
  | str i =>
    obtain ⟨t, rfl⟩ := rx
    cases y with
    | non => cases ry; exact PySem.EqNone.eq_str_none (fin_bl I q (by simp))
    | bl j => cases ry; exact PySem.EqMixed.eq_str_bool (fin_bl I q (by simp))
    | int j => obtain ⟨t', rfl⟩ := ry; exact PySem.EqMixed.eq_str_int (fin_bl I q (by simp))
    | str j => obtain ⟨t', rfl⟩ := ry; exact eq_str (fin_bl I q dec_str)
    | _ => exact absurd (show false = true from hs) Bool.false_ne_true
  | byt i =>
    obtain ⟨t, rfl⟩ := rx
    cases y with
    | byt j => obtain ⟨t', rfl⟩ := ry; exact PySem.W.eq_bytes (fin_bl I q dec_byt)
    | _ => exact absurd (show false = true from hs) Bool.false_ne_true
  | _ => cases y <;> exact absurd (show false = true from hs) Bool.false_ne_true
theorem op_ne : OpR X (compareOp .NotEq) rNe := by
  intro pins s σ H x y v u Q I rx ry h
  obtain ⟨hs, q⟩ := h
  cases x with
  | non =>
    cases rx
    cases y with
    | non => cases ry; exact PySem.EqNone.ne_none_none (fin_bl I q (by simp))
    | bl j => cases ry; exact PySem.EqNone.ne_none_bool (fin_bl I q (by simp))
    | int j => obtain ⟨t', rfl⟩ := ry; exact PySem.EqNone.ne_none_int (fin_bl I q (by simp))
    | str j => obtain ⟨t', rfl⟩ := ry; exact PySem.EqNone.ne_none_str (fin_bl I q (by simp))
    | _ => exact absurd (show false = true from hs) Bool.false_ne_true
  | bl i =>
    cases rx
    cases y with
    | non => cases ry; exact PySem.EqNone.ne_bool_none (fin_bl I q (by simp))
    | bl j => cases ry; exact ne_bool (fin_bl I q (congrArg not dec_bl))
    | str j => obtain ⟨t', rfl⟩ := ry; exact PySem.EqMixed.ne_bool_str (fin_bl I q (by simp))
    | _ => exact absurd (show false = true from hs) Bool.false_ne_true
  | int i =>
    obtain ⟨t, rfl⟩ := rx
    cases y with
    | non => cases ry; exact PySem.EqNone.ne_int_none (fin_bl I q (by simp))
    | int j => obtain ⟨t', rfl⟩ := ry; exact ne_int (fin_bl I q (congrArg not dec_int))
    | str j => obtain ⟨t', rfl⟩ := ry; exact PySem.EqMixed.ne_int_str (fin_bl I q (by simp))
    | _ => exact absurd (show false = true from hs) Bool.false_ne_true
  | str i =>
    obtain ⟨t, rfl⟩ := rx
    cases y with
    | non => cases ry; exact PySem.EqNone.ne_str_none (fin_bl I q (by simp))
    | bl j => cases ry; exact PySem.EqMixed.ne_str_bool (fin_bl I q (by simp))
    | int j => obtain ⟨t', rfl⟩ := ry; exact PySem.EqMixed.ne_str_int (fin_bl I q (by simp))
    | str j => obtain ⟨t', rfl⟩ := ry; exact ne_str (fin_bl I q (congrArg not dec_str))
    | _ => exact absurd (show false = true from hs) Bool.false_ne_true
  | byt i =>
    obtain ⟨t, rfl⟩ := rx
    cases y with
    | byt j => obtain ⟨t', rfl⟩ := ry; exact PySem.W.ne_bytes (fin_bl I q (congrArg not dec_byt))
    | _ => exact absurd (show false = true from hs) Bool.false_ne_true
  | _ => cases y <;> exact absurd (show false = true from hs) Bool.false_ne_true
theorem op_lt : OpR X (compareOp .Lt) (rI0 fun i j => .bl (decide (i < j))) := opB0 fun _ _ _ _ _ _ _ q => lt_int q
theorem op_le : OpR X (compareOp .LtE) (rI0 fun i j => .bl (decide (i ≤ j))) := opB0 fun _ _ _ _ _ _ _ q => le_int q
theorem op_gt : OpR X (compareOp .Gt) (rI0 fun i j => .bl (decide (j < i))) := opB0 fun _ _ _ _ _ _ _ q => gt_int q
theorem op_ge : OpR X (compareOp .GtE) (rI0 fun i j => .bl (decide (j ≤ i))) := opB0 fun _ _ _ _ _ _ _ q => ge_int q
theorem op_notN : OpR X (compareOp .IsNot) (fun x y H Q => y = .non ∧ Q (.bl (!decide (x = .non))) H) := by
  intro pins s σ H x y v u Q I rx ry h
  obtain ⟨rfl, q⟩ := h
  cases ry
  refine isnot_none_gen (fin_bl I q ?_)
  cases x <;> first
    | (cases rx; rfl)
    | (obtain ⟨t, rfl⟩ := rx; rfl)
theorem OpR.or {f : Value → Value → Sem Value} {r r' : R2} (h : OpR X f r) (h' : OpR X f r') : OpR X f (fun x y H Q => r x y H Q ∨ r' x y H Q) := by
  intro pins s σ H x y v u Q I rx ry q
  rcases q with q | q
  · exact h pins s σ H x y v u Q I rx ry q
  · exact h' pins s σ H x y v u Q I rx ry q
theorem nomark (b : Expr) {op : CmpOp} (h : op ≠ .In := by decide) (h2 : op ≠ .NotIn := by decide) : behindInMarks op b = false := by
  have e1 : (op == CmpOp.In) = false := by cases op <;> first | rfl | exact absurd rfl h
  have e2 : (op == CmpOp.NotIn) = false := by cases op <;> first | rfl | exact absurd rfl h2
  cases b <;> simp [behindInMarks, e1, e2]
theorem pe_cmpR {op : CmpOp} {r : R2} (ho : OpR X (compareOp op) r) (ha : PE X a ta) (hb : PE X b tb) (hm : behindInMarks op b = false) : PE X (.Compare a [op] [b] pos) (tOp r ta tb) := by
  intro pins s σ H Q I h
  exact wpAny_Compare1 (binT ha hb I h fun v u s2 x y H2 I2 rx ry q => ho pins s2 σ H2 x y v u Q I2 rx ry q) hm
def tTest (t : TE) : TT := fun σ H Q => t σ H fun x H' => ∃ k, x = .bl k ∧ Q k H'
theorem pt_cmpR {op : CmpOp} {r : R2} (ho : OpR X (compareOp op) r) (ha : PE X a ta) (hb : PE X b tb) (hm : behindInMarks op b = false) : PT X (.Compare a [op] [b] pos) (tTest (tOp r ta tb)) := by
  intro pins s σ H Q I h
  refine wpAny_isTrue_Compare1 (thn (ha pins s σ H _ I h) fun v s1 ⟨x, H1, I1, r1, q1⟩ => thn (hb pins s1 σ H1 _ I1 q1) fun u s2 ⟨y, H2, I2, r2, q2⟩ =>
    thn (ho pins s2 σ H2 x y v u _ I2 r1 r2 q2) fun c s3 ⟨z, H3, I3, r3, k, e, q3⟩ => ?_) hm
  subst e
  cases r3
  exact wpAny_truthy_bool ⟨H3, I3, q3⟩
def TruV (K : PySem.W.Frag) (x : V) (H : Hp) (k : Bool) : Prop :=
  match x with
  | .non => k = false
  | .bl b => k = b
  | .int i => k = (i != 0)
  | .str y => y.length ≤ sizeLine ∧ k = ((y.length : Int) != 0)
  | .byt y => y.size ≤ sizeLine ∧ k = ((y.size : Int) != 0)
  | .ref p => (∃ xs, SqL K H p xs ∧ k = !xs.isEmpty) ∨ (∃ xs, SqT K H p xs ∧ k = !xs.isEmpty) ∨ ∃ kvs, H p = some (.dK kvs) ∧ k = !kvs.isEmpty
  | _ => False
theorem isEmpty_kv {κ : Type} {kvs : List (κ × V)} {vs : List (κ × Value)} (r : KV kvs vs) : (!vs.isEmpty) = !kvs.isEmpty := by
  cases r <;> rfl
theorem isEmpty_of {xs : List V} {its : List Value} (r : Vals xs its) : (!its.toArray.isEmpty) = !xs.isEmpty := by
  cases r <;> simp
theorem line63 : (sizeLine : Nat) < 2 ^ 63 := by rw [sizeLine_eq]; decide
theorem tru_ok : TruR X (fun x H Q => ∃ k, TruV X.K x H k ∧ Q k H) := by
  intro pins s σ H x v Q I rx h
  obtain ⟨k, e, q⟩ := h
  have hl := line63
  have hs : sizeLine = 16777216 := sizeLine_eq
  cases x with
  | non =>
    cases rx
    have e' : k = false := e
    subst e'
    exact truthy_none ⟨H, I, q⟩
  | bl b =>
    cases rx
    have e' : k = b := e
    subst e'
    exact wpAny_truthy_bool ⟨H, I, q⟩
  | int i =>
    obtain ⟨t, rfl⟩ := rx
    have e' : k = (i != 0) := e
    subst e'
    exact PySem.P.truthy_int ⟨H, I, q⟩
  | str y =>
    obtain ⟨t, rfl⟩ := rx
    obtain ⟨hy, e'⟩ : y.length ≤ sizeLine ∧ k = ((y.length : Int) != 0) := e
    subst e'
    exact PySem.P.truthy_str (by omega) ⟨H, I.tok _, q⟩
  | byt y =>
    obtain ⟨t, rfl⟩ := rx
    obtain ⟨hy, e'⟩ : y.size ≤ sizeLine ∧ k = ((y.size : Int) != 0) := e
    subst e'
    exact PySem.W.truthy_bytes (by omega) ⟨H, I.tok _, q⟩
  | ref p =>
    cases rx
    have e' : (∃ xs, SqL X.K H p xs ∧ k = !xs.isEmpty) ∨ (∃ xs, SqT X.K H p xs ∧ k = !xs.isEmpty) ∨ ∃ kvs, H p = some (.dK kvs) ∧ k = !kvs.isEmpty := e
    rcases e' with ⟨xs, hx, e'⟩ | ⟨xs, hx, e'⟩ | ⟨kvs, hx, e'⟩
    · subst e'
      obtain ⟨its, r, pl, hz⟩ := I.list hx
      have hlen := r.length
      exact wpAny_truthy_list pl.isList (by simp only [List.size_toArray]; omega) ⟨H, I.tok _, by rw [isEmpty_of r]; exact q⟩
    · subst e'
      obtain ⟨its, r, pl, hz⟩ := I.tuple hx
      have hlen := r.length
      exact truthy_tuple pl (by simp only [List.size_toArray]; omega) ⟨H, I.tok _, by rw [isEmpty_of r]; exact q⟩
    · subst e'
      obtain ⟨hz, hS, vs, r, m⟩ : kvs.length ≤ sizeLine ∧ (p == sysModules) = false ∧ ∃ vs, KV kvs vs ∧ s.heap.DictOf (mixKind X.prog X.w) p vs := I.hok p _ hx
      have hlen : kvs.length = vs.length := Paired.length r
      exact wpAny_truthy_dict hS m (by omega) ⟨H, I.tok _, by rw [isEmpty_kv r]; exact q⟩
  | _ => exact (show False from e).elim
theorem pt_truth (ha : PE X a ta) (he : ∀ whole, isTrue a X.env whole = (do let v ← whole; standAt a.pos; holding [v] (truthy v))) :
    PT X a (fun σ H Q => ta σ H fun x H' => ∃ k, TruV X.K x H' k ∧ Q k H') := by
  intro pins s σ H Q I h
  exact isTrue_plain (thn (ha pins s σ H _ I h) fun v s1 ⟨x, H1, I1, r1, q1⟩ => tru_ok pins s1 σ H1 x v Q I1 r1 q1) (he _)
theorem vals1 {x : V} {us : List Value} (r : Vals [x] us) : ∃ u, us = [u] ∧ RelV x u := by
  cases r with
  | cons r1 r2 => cases r2; exact ⟨_, rfl, r1⟩
theorem call_int1 : CallR X (.type "int") (fun xs H Q => (∃ i, xs = [.int i] ∧ Q (.int i) H) ∨ ∃ k, xs = [.bl k] ∧ Q (.int (if k then 1 else 0)) H) := by
  intro pins s σ H xs us Q I r h
  rcases h with ⟨i, rfl, q⟩ | ⟨k, rfl, q⟩
  · obtain ⟨u, rfl, t, rfl⟩ := vals1 r
    exact call_int_int ⟨.int i, H, I, ⟨_, rfl⟩, q⟩
  · obtain ⟨u, rfl, r1⟩ := vals1 r
    cases r1
    exact call_int_bool ⟨.int (if k then 1 else 0), H, I.tok _, ⟨_, rfl⟩, q⟩
end
end L2
namespace L2
open PySem PySem.Spec PyProof.Rows
structure ObjM (h : Heap) (x dx C : Addr) (mA : Str → Option Value) : Prop where
  obj : h.get? x = some (PySem.W.instObj C dx)
  ns : h.Ns1 dx mA
  ne : dx ≠ x
theorem lookIn_ns {h : Heap} {dx : Addr} {mA : Str → Option Value} (n : h.Ns1 dx mA) : ∃ od, h.get? dx = some od ∧ ∀ name, PySem.W.lookIn name od = some (mA name) := by
  obtain ⟨o, es, ep, ho, hd, hk, _, hm⟩ := n
  refine ⟨o, ho, fun name => ?_⟩
  have e := hm name
  unfold nsFind findBy at e
  rw [← Array.find?_toList] at e
  unfold PySem.W.lookIn
  rw [hd]
  dsimp only
  split
  · rename_i y q
    rw [q] at e
    exact congrArg some e
  · rename_i q
    rw [q] at e
    have a : es.toList.any (·.refKey) = false := by
      rw [List.any_eq_false]
      intro y hy
      obtain ⟨z, t, hkey⟩ := hk y (Array.mem_toList_iff.mp hy)
      simp [DictEntry.refKey, hkey]
    have a' : ¬ es.toList.any (·.refKey) = true := by rw [a]; exact Bool.false_ne_true
    rw [if_neg a']
    exact congrArg some e
theorem ObjM.look {h : Heap} {x dx C : Addr} {mA : Str → Option Value} (I : ObjM h x dx C mA) : ∃ od, PySem.W.InstAt h x (PySem.W.instObj C dx) C (some od) ∧ ∀ name, PySem.W.lookIn name od = some (mA name) :=
  let ⟨od, ho, hl⟩ := lookIn_ns I.ns
  ⟨od, ⟨I.obj, rfl, rfl, ho⟩, hl⟩
section
variable {prog : Program} {w : World} {A : Around} {E : Value → Shared → Prop} {s : Shared} {K : PySem.W.Frag} {x dx C f : Addr} {mA : Str → Option Value} {name : Str} {v : Value}
end
theorem RelO.some_of {v : V} {o : Option Value} (r : RelO (some v) o) : ∃ u, o = some u ∧ RelV v u := by
  cases o with
  | none => exact (show False from r).elim
  | some u => exact ⟨u, rfl, r⟩
theorem RelO.none_of {o : Option Value} (r : RelO none o) : o = none := by
  cases o with
  | none => rfl
  | some u => exact (show False from r).elim
section
variable {P : Program} {w : World} {H H' : Hp} {h h' : Heap} {a C dx : Addr} {fs fs' : List (Str × V)}
end
structure Cls (K : PySem.W.Frag) (C : Addr) : Prop where
  pg : PySem.W.plainGet K C Str.empty = true
  hd : PySem.W.hasDictIn K C = true
  po : PySem.W.plainOver K C = true
  sa : PySem.W.findIn K (.ref C) "__setattr__" = some (some (.builtin "object.__setattr__"))
theorem Cls.get {K : PySem.W.Frag} {C : Addr} (c : Cls K C) (f : Str) : PySem.W.plainGet K C f = true := c.pg
structure Con (K : PySem.W.Frag) (C : Addr) (f : Str) (v : V) (u : Value) : Prop where
  at_ : PySem.W.findIn K (.ref C) f = some (some u)
  rel : RelV v u
  get : PySem.W.specialIn K u "__get__" = some none
  cp : PySem.W.copiedNames.contains f = false
structure Meth (K : PySem.W.Frag) (C : Addr) (m : Str) (f : Addr) : Prop where
  at_ : PySem.W.findIn K (.ref C) m = some (some (.ref f))
  fn : PySem.W.isFn K (.ref f) = true
  kp : PySem.W.keepIn K (.ref f) = true
section
variable {X : Cx} {pins : List (Addr × Obj)} {σ : St} {H : Hp} {s : Shared} {a C dx : Addr} {fs : List (Str × V)} {f : Str} {v : V} {A : Around} {E : Value → Shared → Prop}
theorem Inv.made (I : Inv X pins σ H s) : Inv X pins σ (upd (upd H s.heap.objs.size (.own (s.heap.objs.size + 1))) (s.heap.objs.size + 1) (.ins C s.heap.objs.size []))
    { s with heap := (s.heap.push PySem.W.emptyDict).push (PySem.W.instObj C s.heap.objs.size) } := by
  have e1 : (s.heap.push PySem.W.emptyDict).get? s.heap.objs.size = some PySem.W.emptyDict := Heap.get?_push_size s.heap rfl
  have e2 : ((s.heap.push PySem.W.emptyDict).push (PySem.W.instObj C s.heap.objs.size)).get? (s.heap.objs.size + 1) = some (PySem.W.instObj C s.heap.objs.size) := by
    have := Heap.get?_push_size (s.heap.push PySem.W.emptyDict) (o := PySem.W.instObj C s.heap.objs.size) rfl
    rwa [Heap.size_push] at this
  have e3 : (s.heap.push PySem.W.emptyDict).Ns s.heap.objs.size (fun _ => none) := ⟨PySem.W.emptyDict, #[], _, e1, rfl, (fun e he => absurd he (by simp)), fun _ => rfl⟩
  have I1 := I.laid (a := s.heap.objs.size) (o := .own (s.heap.objs.size + 1)) (h' := s.heap.push PySem.W.emptyDict) (t' := s.toks) (fun b u q => Heap.get?_push_of_some _ q) (Nat.le_refl _) ⟨_, e1⟩
  refine I1.laid (a := s.heap.objs.size + 1) (o := .ins C s.heap.objs.size []) (t' := s.toks) (fun b u q => Heap.get?_push_of_some _ q) (Nat.le_of_eq (Heap.size_push _ _)) ?_
  have ne : s.heap.objs.size ≠ s.heap.objs.size + 1 := Nat.ne_of_lt (Nat.lt_succ_self _)
  refine ⟨by rw [upd_ne ne, upd_same], Nat.zero_le _, ne, e2, fun _ => none, (Heap.Ns1.of_empty e3).at fun o q => Heap.get?_push_of_some _ q, fun _ => True.intro, fun y hy => absurd rfl hy⟩
end
section
variable {X : Cx} {o e value : Expr} {f : Str} {pos pos' tpos : Pos} {ta tv : TE}
end
section
variable {X : Cx} {pins : List (Addr × Obj)} {σ : St} {H : Hp} {s : Shared} {A : Around} {E : Value → Shared → Prop} {Q : Value → Shared → Prop} {c : Value} {b : Bool}
inductive TyOf (K : PySem.W.Frag) (H : Hp) : V → Value → Prop where
  | non : TyOf K H .non (.type "NoneType")
  | bl (x : Bool) : TyOf K H (.bl x) (.type "bool")
  | int (i : Int) : TyOf K H (.int i) (.type "int")
  | str (x : Str) : TyOf K H (.str x) (.type "str")
  | flt (x : UInt64) : TyOf K H (.flt x) (.type "float")
  | lst {a : Addr} {xs : List V} (e : H a = some (.lst xs)) : TyOf K H (.ref a) (.type "list")
  | frz {a : Addr} {o : Obj} {xs : List V} (e : H a = some (.frz o (.lst xs))) : TyOf K H (.ref a) (.type "list")
  | tup {a : Addr} {xs : List V} (e : H a = some (.tup xs)) : TyOf K H (.ref a) (.type "tuple")
  | dK {a : Addr} {kvs : List (Key × V)} (e : H a = some (.dK kvs)) : TyOf K H (.ref a) (.type "dict")
  | dT {a : Addr} {kvs : List (List Key × V)} (e : H a = some (.dT kvs)) : TyOf K H (.ref a) (.type "dict")
  | ins {a C dx : Addr} {fs : List (Str × V)} (e : H a = some (.ins C dx fs)) (cl : Cls K C) (ha : PySem.W.findIn K (.ref C) "__class__" = some (some (.builtin "object.__class__")))
      (hn : PySem.W.specialIn K (.builtin "object.__class__") "__get__" = some (some (.builtin "getset_descriptor.__get__"))) (htk : PySem.W.takesIn K (.builtin "object.__class__") = some true)
      (hm : PySem.W.mroIn K C (.type "object") = some true) : TyOf K H (.ref a) (.ref C)
end
end L2
namespace L2
open PySem PySem.Spec PyProof.Rows
structure Room (k : Nat) (A : Around) : Prop where
  hd : A.handled = none
  dp : A.depth + 3 * k + 5 < recursionLimit
  un : A.units + 16 * k + 200 < cLine
theorem Room.mono {j k : Nat} {A : Around} (r : Room k A) (h : j ≤ k) : Room j A := ⟨r.hd, by have := r.dp; omega, by have := r.un; omega⟩
theorem Room.deeper {k : Nat} {A : Around} (r : Room (k + 1) A) (env : Env) : Room k (A.deeper env) :=
  ⟨r.hd, by have := r.dp; show A.depth + 1 + 3 * k + 5 < _; omega, by have := r.un; show A.units + 3 + 16 * k + 200 < _; omega⟩
theorem Room.in1 {k : Nat} {A : Around} (r : Room (k + 1) A) : Room k A.in1 :=
  ⟨r.hd, by have := r.dp; show A.depth + 3 * k + 5 < _; omega, by have := r.un; show A.units + 1 + 16 * k + 200 < _; omega⟩
theorem Room.depth {k : Nat} {A : Around} (r : Room k A) : A.depth < recursionLimit := by have := r.dp; omega
theorem Room.units {k : Nat} {A : Around} (r : Room k A) : A.units + 64 < cLine := by have := r.un; omega
def tNil : TA := fun _ H Q => Q [] H
def tCons (ta : TE) (tr : TA) : TA := fun σ H Q => ta σ H fun x H1 => tr σ H1 fun xs H2 => Q (x :: xs) H2
section
variable {X : Cx} {e : Expr} {es : List Expr} {te : TE} {t : TA} {pos : Pos}
theorem pa_nil : PA X [] tNil := fun _ _ _ _ H Q I h => Calls.spliced_nil ⟨[], H, I, .nil, h⟩
theorem pa_cons (ha : PE X e te) (hr : PA X es t) (hs : starEach (e :: es) X.env = (false, eval e X.env) :: starEach es X.env := by rfl) : PA X (e :: es) (tCons te t) := by
  intro pos pins s σ H Q I h
  rw [hs]
  show wpAny _ _ (spliced ((false, eval e X.env) :: backTo pos (starEach es X.env))) _ _ s
  refine Calls.spliced_cons (thn (ha pins s σ H _ I h) fun u s1 ⟨x, H1, I1, r1, q1⟩ => ?_)
  exact thn (hr pos pins s1 σ H1 _ I1 q1) fun us s2 ⟨xs, H2, I2, r2, q2⟩ => ⟨x :: xs, H2, I2, .cons r1 r2, q2⟩
def tTup (t : TA) : TE := fun σ H Q => t σ H fun xs H1 => xs.length ≤ sizeLine ∧ ∀ p, H1 p = none → Q (.ref p) (upd H1 p (.tup xs))
def tLst (t : TA) : TE := fun σ H Q => t σ H fun xs H1 => xs.length ≤ sizeLine ∧ ∀ p, H1 p = none → Q (.ref p) (upd H1 p (.lst xs))
theorem pe_tup {x1} (h : PA X es t) : PE X (.Tuple es x1 pos) (tTup t) := by
  intro pins s σ H Q I hq
  refine wpAny_Tuple_spliced (thn (h pos pins s σ H _ I hq) fun us s1 ⟨xs, H1, I1, r, z, q⟩ => ⟨by rw [← r.length]; exact z, ?_⟩)
  have hf : H1 s1.heap.objs.size = none := I1.hok.fresh (Nat.le_refl _)
  refine ⟨.ref s1.heap.objs.size, upd H1 s1.heap.objs.size (.tup xs), I1.laid (t' := s1.toks) (fun b u e => Heap.get?_push_of_some _ e) (Nat.le_refl _) ?_, rfl, q _ hf⟩
  exact ⟨z, us, r, ⟨_, Heap.get?_push_size _ rfl, rfl, _, rfl⟩⟩
theorem pe_lst (h : PA X es t) : PE X (.List es pos) (tLst t) := by
  intro pins s σ H Q I hq
  refine wpAny_List_spliced (thn (h pos pins s σ H _ I hq) fun us s1 ⟨xs, H1, I1, r, z, q⟩ => ⟨by rw [← r.length]; exact z, ?_⟩)
  have hf : H1 s1.heap.objs.size = none := I1.hok.fresh (Nat.le_refl _)
  refine ⟨.ref s1.heap.objs.size, upd H1 s1.heap.objs.size (.lst xs), I1.laid (t' := s1.toks) (fun b u e => Heap.get?_push_of_some _ e) (Nat.le_refl _) ?_, rfl, q _ hf⟩
  exact ⟨z, us, 0, r, Heap.get?_push_size _ rfl⟩
end
abbrev Sp := List V → Hp → VK → XK → Prop
abbrev CXT := List Env → Hp → Shared → XK → Value → Shared → Prop
structure Env0 (P : Program) (w : World) (K : PySem.W.Frag) (mg : Str → Option Value) (base : Heap) (A : Around) (outer : List Env) (s : Shared) (H : Hp) : Prop where
  frames : A.frames = some outer
  mod : Mod K mg base
  bs : ∀ b o, base.get? b = some o → s.heap.get? b = some o ∧ H b = none
  bsz : base.objs.size ≤ s.heap.objs.size
  funs : s.heap.FunFrames base outer
  frf : ∀ b ∈ frs outer, H b = none
  hok : HOk P w H s.heap
  bare : AllBare s.gens
def CE (outer : List Env) (P : Program) (w : World) (H : Hp) (s : Shared) (Q : VK) (u : Value) (s' : Shared) : Prop :=
  ∃ v H', s'.os = s.os ∧ AllBare s'.gens ∧ Un (frs outer) [] H H' s.heap s'.heap ∧ HOk P w H' s'.heap ∧ RelV v u ∧ Q v H'
def CR (CX : CXT) (outer : List Env) (P : Program) (w : World) (H : Hp) (s : Shared) (Q : VK) (E : XK) (r : Result) (s' : Shared) : Prop :=
  match r with
  | .ok (.ret u) => CE outer P w H s Q u s'
  | .ok _ => False
  | .error e => CX outer H s E e s'
structure FnOk (P : Program) (w : World) (K : PySem.W.Frag) (mg : Str → Option Value) (base : Heap) (CX : CXT) (k : Nat) (f : Addr) (fd : FuncData) (ps : List Str) (sp : Sp) : Prop where
  len : ∀ vs H Q E, sp vs H Q E → vs.length = ps.length
  run : ∀ (A : Around) (outer : List Env) (s : Shared) (H : Hp) (args : Args) (us : List Value) (vs : List V) (Q : VK) (E : XK), Room k A → Env0 P w K mg base A outer s H → BindsTo s fd args (ps.zip us) → Vals vs us → sp vs H Q E →
    codeAny (model P w) A (.call (.ref f) args) (CR CX outer P w H s Q E) s
theorem FnOk.mono {P : Program} {w : World} {K : PySem.W.Frag} {mg : Str → Option Value} {base : Heap} {CX : CXT} {j k : Nat} {f : Addr} {fd : FuncData} {ps : List Str} {sp : Sp} (F : FnOk P w K mg base CX j f fd ps sp) (h : j ≤ k) :
    FnOk P w K mg base CX k f fd ps sp := ⟨F.len, fun A outer s H args us vs Q E hr => F.run A outer s H args us vs Q E (hr.mono h)⟩
theorem FnOk.imp {P : Program} {w : World} {K : PySem.W.Frag} {mg : Str → Option Value} {base : Heap} {CX : CXT} {k : Nat} {f : Addr} {fd : FuncData} {ps : List Str} {sp sp' : Sp} (F : FnOk P w K mg base CX k f fd ps sp)
    (h : ∀ vs H Q E, sp' vs H Q E → sp vs H Q E) : FnOk P w K mg base CX k f fd ps sp' :=
  ⟨fun vs H Q E q => F.len vs H Q E (h _ _ _ _ q), fun A outer s H args us vs Q E hr he hb hv hs => F.run A outer s H args us vs Q E hr he hb hv (h _ _ _ _ hs)⟩
theorem Env0.in1 {P : Program} {w : World} {K : PySem.W.Frag} {mg : Str → Option Value} {base : Heap} {A : Around} {outer : List Env} {s : Shared} {H : Hp} (e : Env0 P w K mg base A outer s H) :
    Env0 P w K mg base A.in1 outer s H := ⟨e.frames, e.mod, e.bs, e.bsz, e.funs, e.frf, e.hok, e.bare⟩
section
variable {X : Cx} {pins : List (Addr × Obj)} {σ : St} {H : Hp} {s s' : Shared}
theorem Inv.env0 (I : Inv X pins σ H s) : Env0 X.prog X.w X.K X.mg X.base X.A X.stack s H :=
  ⟨I.ok.frames, I.ok.mod, I.bs, Nat.le_trans I.ok.bsz I.sz, I.stack, I.stkFree, I.hok, I.bare⟩
theorem Inv.after {Q : VK} {u : Value} (I : Inv X pins σ H s) (h : CE X.stack X.prog X.w H s Q u s') : EP X pins σ Q u s' := by
  obtain ⟨v, H', os, bare, un, hok, r, q⟩ := h
  obtain ⟨hh, g, d, t, os'⟩ := s'
  obtain rfl : os' = s.os := os
  exact ⟨v, H', I.call (h' := hh) (g' := g) (d' := d) (t' := t) (ch := []) un hok bare (fun b z => absurd z (by simp)), r, q⟩
end
def tCall (sp : Sp) (dvs : List V) (E : XK) (t : TA) : TE := fun σ H Q => t σ H fun vs H1 => sp (vs ++ dvs) H1 Q E
def Binds (K : PySem.W.Frag) (fd : FuncData) (ps : List Str) (ds : List Value) : Prop :=
  ∀ (s : Shared) (us : List Value), K.In s.heap → (us ++ ds).length = ps.length → BindsTo s fd ⟨us, []⟩ (ps.zip (us ++ ds))
theorem Binds.all {K : PySem.W.Frag} {fd : FuncData} {ps : List Str} (h : ∀ us : List Value, us.length = ps.length → bindArgs fd ⟨us, []⟩ = pure (ps.zip us)) : Binds K fd ps [] := fun s us _ hl => by
  rw [List.append_nil] at hl ⊢
  exact .of_eq (h us hl)
def Passes (CX : CXT) (X : Cx) (E : XK) : Prop := ∀ (pins : List (Addr × Obj)) (σ : St) (H : Hp) (s : Shared) (e : Value) (s' : Shared), Inv X pins σ H s → CX X.stack H s E e s' → X.xe e s'
section
variable {X : Cx} {CX : CXT} {k : Nat} {f C : Addr} {fd : FuncData} {ps : List Str} {sp : Sp} {dvs : List V} {ds : List Value} {E : XK} {x m : Str} {p pos apos : Pos} {e o : Expr} {es : List Expr} {ta : TE} {t : TA}
theorem run_fn {pins : List (Addr × Obj)} {σ : St} {H : Hp} {s : Shared} {Q : VK} {us : List Value} {vs : List V} (F : FnOk X.prog X.w X.K X.mg X.base CX k f fd ps sp) (hr : Room k X.A) (hb : Binds X.K fd ps ds) (hd : Vals dvs ds) (hx : Passes CX X E)
    (I : Inv X pins σ H s) (r : Vals vs us) (h : sp (vs ++ dvs) H Q E) : wpAny (model X.prog X.w) X.A (call (.ref f) us) (EP X pins σ Q) X.xe s := by
  have r2 : Vals (vs ++ dvs) (us ++ ds) := r.append hd
  have hl : (us ++ ds).length = ps.length := by rw [← r2.length]; exact F.len _ _ _ _ h
  refine wpAny_call (codeAny_mono (F.run X.A X.stack s H ⟨us, []⟩ (us ++ ds) (vs ++ dvs) Q E hr I.env0 (hb s us I.kIn hl) r2 h) fun r s' hq => ?_)
  cases r with
  | error e => exact hx pins σ H s e s' I hq
  | ok fl =>
    cases fl with
    | ret u => exact I.after hq
    | next => exact False.elim hq
    | brk => exact False.elim hq
    | cont => exact False.elim hq
theorem pe_call (F : FnOk X.prog X.w X.K X.mg X.base CX k f fd ps sp) (hr : Room k X.A) (hg : Gl X x) (hm : X.mg x = some (.ref f)) (hk : PySem.W.keepIn X.K (.ref f) = true) (hb : Binds X.K fd ps ds) (hd : Vals dvs ds) (hx : Passes CX X E)
    (ha : PA X (e :: es) t) (hdb : (x == ("__debug__" : Str)) = false := by decide) (he : starEach (e :: es) X.env = (false, eval e X.env) :: starEach es X.env := by rfl) (hpl : (backTo pos (starEach es X.env)).any (·.1) = false := by rfl) :
    PE X (.Call (.Name x p) (e :: es) [] pos) (tCall sp dvs E t) := by
  intro pins s σ H Q I h
  refine wpAny_Call_Name_kw (ld_glob I hg hm ?_ hdb)
  refine PySem.W.callWith_K (h₀ := X.base) I.ok.mod.kin hk (thn (ha pos pins s σ H _ I h) fun us s1 ⟨vs, H1, I1, r, q⟩ => ⟨I1.kIn, ?_⟩) he hpl
  exact run_fn F hr hb hd hx I1 r q
structure Mk (K : PySem.W.Frag) (C f : Addr) : Prop where
  makes : PySem.W.makesIn K C = true
  init : PySem.W.findIn K (.ref C) "__init__" = some (some (.ref f))
  fn : PySem.W.isFn K (.ref f) = true
  kp : PySem.W.keepIn K (.ref C) = true
end
section
variable {X : Cx} {CX : CXT} {k : Nat} {f C : Addr} {fd : FuncData} {ps ks : List Str} {sp : Sp} {E : XK} {x m : Str} {p pos apos kpos : Pos} {e o : Expr} {es : List Expr} {kws : List Keyword} {te ta : TE} {t tk : TA} {nm : Option Str}
structure KBinds (K : PySem.W.Frag) (fd : FuncData) (ps ks : List Str) (g : List Value → List Value → List Value) (gV : List V → List V → List V) : Prop where
  to : ∀ (s : Shared) (us ws : List Value), K.In s.heap → (g us ws).length = ps.length → BindsTo s fd ⟨us, ks.zip ws⟩ (ps.zip (g us ws))
  rel : ∀ {vs : List V} {us : List Value} {zs : List V} {ws : List Value}, Vals vs us → Vals zs ws → Vals (gV vs zs) (g us ws)
variable {g : List Value → List Value → List Value} {gV : List V → List V → List V}
end
structure FnScope (N P : List Str) (sc : Scope) : Prop where
  kind : sc.kind = .function
  co : sc.isCoroutine = false
  gen : sc.isGenerator = false
  nd : N.Nodup
  pre : N.take P.length = P
  par : ∀ x ∈ P, sc.names.lookup x = some .local ∨ sc.names.lookup x = some .cell
  nofree : ∀ y ∈ sc.names, y.2 ≠ .free
theorem bindL_out {kindOf : Str → Option NameKind} {x : Str} : ∀ {binds : List (Str × Value)} {m : Str → Option Value}, (∀ v, (x, v) ∉ binds) → bindL kindOf binds m x = m x
  | [], _, _ => rfl
  | (n, v) :: r, m, h => by
    unfold bindL
    rw [bindL_out fun w hw => h w (List.mem_cons_of_mem _ hw)]
    split
    · have : x ≠ n := by rintro rfl; exact h v List.mem_cons_self
      simp [this]
    · rfl
theorem bindC_out {kindOf : Str → Option NameKind} {x : Str} : ∀ {binds : List (Str × Value)} {m : Str → Option Value}, (∀ v, (x, v) ∉ binds) → bindC kindOf binds m x = m x
  | [], _, _ => rfl
  | (n, v) :: r, m, h => by
    unfold bindC
    rw [bindC_out fun w hw => h w (List.mem_cons_of_mem _ hw)]
    split
    · rfl
    · have : x ≠ n := by rintro rfl; exact h v List.mem_cons_self
      simp [this]
theorem bindL_get {kindOf : Str → Option NameKind} {x : Str} {v : Value} : ∀ {P : List Str} {vs : List Value} {i : Nat} {m : Str → Option Value}, P.Nodup → P[i]? = some x → vs[i]? = some v → kindOf x = some .local →
    bindL kindOf (P.zip vs) m x = some v
  | [], _, _, _, _, h, _, _ => by simp at h
  | _ :: _, [], _, _, _, _, h, _ => by simp at h
  | p :: P, w :: vs, 0, m, nd, h1, h2, hk => by
    simp at h1 h2; subst h1; subst h2
    show bindL kindOf ((p, w) :: P.zip vs) m p = _
    unfold bindL
    rw [bindL_out fun v hv => (List.nodup_cons.mp nd).1 (List.of_mem_zip hv).1, if_pos hk]
    simp
  | p :: P, w :: vs, i + 1, m, nd, h1, h2, hk => by
    show bindL kindOf ((p, w) :: P.zip vs) m x = _
    unfold bindL
    exact bindL_get (i := i) (List.nodup_cons.mp nd).2 (by simpa using h1) (by simpa using h2) hk
theorem bindC_get {kindOf : Str → Option NameKind} {x : Str} {v : Value} : ∀ {P : List Str} {vs : List Value} {i : Nat} {m : Str → Option Value}, P.Nodup → P[i]? = some x → vs[i]? = some v → kindOf x ≠ some .local →
    bindC kindOf (P.zip vs) m x = some v
  | [], _, _, _, _, h, _, _ => by simp at h
  | _ :: _, [], _, _, _, _, h, _ => by simp at h
  | p :: P, w :: vs, 0, m, nd, h1, h2, hk => by
    simp at h1 h2; subst h1; subst h2
    show bindC kindOf ((p, w) :: P.zip vs) m p = _
    unfold bindC
    rw [bindC_out fun v hv => (List.nodup_cons.mp nd).1 (List.of_mem_zip hv).1, if_neg hk]
    simp
  | p :: P, w :: vs, i + 1, m, nd, h1, h2, hk => by
    show bindC kindOf ((p, w) :: P.zip vs) m x = _
    unfold bindC
    exact bindC_get (i := i) (List.nodup_cons.mp nd).2 (by simpa using h1) (by simpa using h2) hk
def start (N : List Str) (vs : List V) : St := vs.map some ++ List.replicate (N.length - vs.length) none
def cxOf (CX : CXT) (P : Program) (w : World) (K : PySem.W.Frag) (mg : Str → Option Value) (base : Heap) (N : List Str) (qual : Str) (scope : Scope) (f : Addr) (cd : Value) (A : Around) (outer : List Env) (s : Shared) (H : Hp) (E : XK) : Cx where
  prog := P
  w := w
  K := K
  mg := mg
  base := base
  A := A.deeper (envOfC qual scope s.heap.objs.size f cd)
  N := N
  s₀ := s
  H₀ := H
  env := envOfC qual scope s.heap.objs.size f cd
  outer := outer
  stack := envOfC qual scope s.heap.objs.size f cd :: outer
  ex := []
  calm := true
  fn := fun _ => true
  pn := []
  xe := fun e s' => wpAny (model P w) (A.deeper (envOfC qual scope s.heap.objs.size f cd)) (leaving (envOfC qual scope s.heap.objs.size f cd) e) (fun _ s'' => CX outer H s E e s'') (fun e' s'' => CX outer H s E e' s'') s'
theorem cell_has {sc : Scope} {n : Nat} {x : Str} (h : sc.names.lookup x = some .cell) : ∃ c, (cellsFrom n sc.names []).lookup x = some c := by
  have q := PySem.W.cellsFrom_some sc.names n [] (.inl h)
  exact Option.isSome_iff_exists.mp q
theorem inv_start {CX : CXT} {P : Program} {w : World} {K : PySem.W.Frag} {mg : Str → Option Value} {base : Heap} {N ps : List Str} {qual : Str} {scope : Scope} {f : Addr} {cd : Value} {A : Around} {outer : List Env} {s s1 : Shared} {H : Hp} {E : XK} {us : List Value} {vs : List V}
    (S : FnScope N ps scope) (hd : A.handled = none) (e0 : Env0 P w K mg base A outer s H) (hl : vs.length = ps.length) (r : Vals vs us)
    (x : InCallC s s.heap.objs.size (bindL (envOfC qual scope s.heap.objs.size f cd).kindOf (ps.zip us) fun _ => none) (cellsFrom (s.heap.objs.size + 1) scope.names []) (bindC (envOfC qual scope s.heap.objs.size f cd).kindOf (ps.zip us) fun _ => none) s1) :
    Inv (cxOf CX P w K mg base N qual scope f cd A outer s H E) [] (start N vs) H s1 := by
  have hpl : ps.length ≤ N.length := by have := congrArg List.length S.pre; rw [List.length_take] at this; omega
  obtain ⟨h1, tk, rfl, hk⟩ := x.done
  have noA : ∀ b : Addr, b ∉ (cxOf CX P w K mg base N qual scope f cd A outer s H E).ex := fun b z => absurd (show b ∈ ([] : List Addr) from z) (by simp)
  refine ⟨⟨e0.mod, S.kind, rfl, rfl, Nat.le_refl _, fun y z c h1 h2 => ?_, fun y hy => ?_, fun y c _ h => ?_, fun _ => hd, Around.frames_deeper e0.frames, .inr ⟨rfl, rfl⟩, fun b z => absurd z (noA b), e0.bs, e0.bsz, fun b _ _ => noA b, fun b z => absurd z (noA b), e0.funs, e0.frf⟩,
    rfl, e0.bare, Un.kept hk, ⟨_, x.toInCall.ns, fun i y v h1 h2 h3 => ?_⟩, fun y c h => ⟨_, x.cell y c h⟩, e0.hok.fresh (Nat.le_refl _), fun y c h => ?_, fun p hp => absurd (show p ∈ ([] : List (Addr × Obj)) from hp) (by simp), e0.hok.kept hk, ?_⟩
  · exact name_of_addr x.apart (PySem.mem_of_lookup h1) (PySem.mem_of_lookup h2)
  · have hy : scope.names.lookup y = some .cell ∨ scope.names.lookup y = some .free := hy
    rcases hy with hy | hy
    · exact cell_has hy
    · exact absurd rfl (S.nofree _ (PySem.mem_of_lookup hy))
  · exact Nat.le_of_lt (x.above y c (PySem.mem_of_lookup h))
  · have hi : i < vs.length := by
      unfold start at h2
      by_cases hi : i < vs.length
      · exact hi
      · rw [List.getElem?_append_right (by simpa using hi)] at h2
        rw [List.getElem?_replicate] at h2
        split at h2 <;> cases h2
    have ha : vs[i]? = some v := by
      unfold start at h2
      rw [List.getElem?_append_left (by simpa using hi), List.getElem?_map] at h2
      cases e : vs[i]? with
      | none => rw [e] at h2; cases h2
      | some a => rw [e] at h2; cases h2; rfl
    obtain ⟨u, hu, rv⟩ := r.get ha
    have hp : ps[i]? = some y := by
      rw [← S.pre, List.getElem?_take_of_lt (by omega)]; exact h1
    have ndP : ps.Nodup := by rw [← S.pre]; exact S.nd.sublist (List.take_sublist _ _)
    refine ⟨u, rv, ?_⟩
    rcases S.par y (List.mem_of_getElem? hp) with k | k
    · exact .inl ⟨k, bindL_get ndP hp hu k⟩
    · obtain ⟨c, e⟩ := cell_has (n := s.heap.objs.size + 1) k
      refine .inr ⟨.inl k, c, e, ?_⟩
      have q := x.cell y c e
      rw [bindC_get ndP hp hu (by show scope.names.lookup y ≠ _; rw [k]; decide)] at q
      exact q
  · exact e0.hok.fresh (Nat.le_of_lt (x.above y c (PySem.mem_of_lookup h)))
  · unfold start
    show _ = N.length
    rw [List.length_append, List.length_map, List.length_replicate]
    omega
theorem fn_of {CX : CXT} {P : Program} {w : World} {K : PySem.W.Frag} {mg : Str → Option Value} {base : Heap} {k : Nat} {f : Addr} {name qual : Str} {params : Arguments} {body : List Stmt} {scope : Scope} {dV kV doc pm cdv ct oc : Value} {an od : Option Addr}
    {osl : Array (Option Value)} {N ps : List Str} {sp : Sp} (lk : K.lookup f = some ⟨oc, od, .func (PySem.W.fnOf name qual params body scope dV kV doc pm an cdv ct), osl⟩) (hcd : PySem.W.codeIn K cdv qual = true) (S : FnScope N ps scope)
    (len : ∀ vs H Q E, sp vs H Q E → vs.length = ps.length)
    (hbody : ∀ (A : Around) (outer : List Env) (s : Shared) (H : Hp) (vs : List V) (Q : VK) (E : XK), Room k (A.deeper (envOfC qual scope s.heap.objs.size f cdv)) → sp vs H Q E →
      ∃ t, PSs (cxOf CX P w K mg base N qual scope f cdv A outer s H E) body t ∧ t { nx := fun _ H' => Q .non H', rt := Q } (start N vs) H) :
    FnOk P w K mg base CX (k + 1) f (PySem.W.fnOf name qual params body scope dV kV doc pm an cdv ct) ps sp := by
  refine ⟨len, fun A outer s H args us vs Q E hr e0 hb r hsp => ?_⟩
  have hl := len _ _ _ _ hsp
  have KX : K.In s.heap := e0.mod.kin.keeps fun b o e => (e0.bs b o e).1
  have lim : s.heap.NoLimit := e0.mod.nolimit.keeps fun b o e => (e0.bs b o e).1
  have hkind : ∀ y ∈ ps.zip us, scope.names.lookup y.1 = some .local ∨ (scope.names.lookup y.1 = some .cell ∧ ((cellsFrom (s.heap.objs.size + 1) scope.names []).lookup y.1).isSome = true) := fun ⟨n, v⟩ hy => by
    rcases S.par n (List.of_mem_zip hy).1 with q | q
    · exact .inl q
    · exact .inr ⟨q, PySem.W.cellsFrom_some _ _ _ (.inl q)⟩
  refine codeAny_call_function hr.depth (KX _ _ lk) rfl S.co S.gen rfl (PySem.W.codeRec_of KX hcd) (hb _ _ _ _ ?_)
  refine wpAny_newFunctionEnv_cells S.kind hkind fun env he s1 x => ?_
  subst he
  refine ⟨lim.keeps x.toInCall.keep, codeAny_func ?_⟩
  obtain ⟨t, ht, hq⟩ := hbody A outer s H vs Q E (hr.deeper _) hsp
  have I : Inv (cxOf CX P w K mg base N qual scope f cdv A outer s H E) [] (start N vs) H s1 := inv_start S hr.hd e0 hl r x
  refine wpAny_mono (ht [] s1 (start N vs) H _ I hq) (fun fl s' hs => ?_) fun e s' hs => hs
  have fin : ∀ {σ' : St} {H' : Hp} {v : V} {u : Value}, Inv (cxOf CX P w K mg base N qual scope f cdv A outer s H E) [] σ' H' s' → RelV v u → Q v H' → CE outer P w H s Q u s' :=
    fun {σ' H' v u} J rv q => ⟨v, H', J.os, J.bare, J.base, J.hok, rv, q⟩
  cases fl with
  | ret u =>
    obtain ⟨v, σ', H', J, rv, q⟩ := hs
    exact fin J rv q
  | next =>
    obtain ⟨σ', H', J, q⟩ := hs
    exact fin (v := V.non) (u := Value.none) J rfl q
  | brk =>
    obtain ⟨_, _, _, q⟩ := hs
    exact False.elim q
  | cont =>
    obtain ⟨_, _, _, q⟩ := hs
    exact False.elim q
end L2
namespace L2
open PySem PySem.Spec PyProof.Rows
section
variable {X : Cx} {x : Str} {p pos : Pos} {e : Expr} {es : List Expr} {t : TA} {id T : String} {r : List V → Hp → VK → Prop}
def tCB (r : List V → Hp → VK → Prop) (t : TA) : TE := fun σ H Q => t σ H fun vs H1 => r vs H1 Q
theorem pe_callB (hc : CallR X (.builtin id) r) (hg : Gl X x) (hm : X.mg x = none) (hv : bootBuiltins x = some (.builtin id)) (ha : PA X (e :: es) t) (hn : x ≠ "__name__" := by decide) (hdb : (x == ("__debug__" : Str)) = false := by decide)
    (he : starEach (e :: es) X.env = (false, eval e X.env) :: starEach es X.env := by rfl) (hpl : (backTo pos (starEach es X.env)).any (·.1) = false := by rfl) : PE X (.Call (.Name x p) (e :: es) [] pos) (tCB r t) := by
  intro pins s σ H Q I h
  refine wpAny_Call_Name_kw (ld_blt I hg hm hv ?_ hn hdb)
  exact PyProof.Rows.callWith_builtin1 (thn (ha pos pins s σ H _ I h) fun us s1 ⟨vs, H1, I1, r1, q1⟩ => hc pins s1 σ H1 vs us Q I1 r1 q1) he hpl
theorem pe_callTy (hc : CallR X (.type T) r) (hg : Gl X x) (hm : X.mg x = none) (hv : bootBuiltins x = some (.type T)) (ha : PA X (e :: es) t) (hn : x ≠ "__name__" := by decide) (hdb : (x == ("__debug__" : Str)) = false := by decide)
    (he : starEach (e :: es) X.env = (false, eval e X.env) :: starEach es X.env := by rfl) (hpl : (backTo pos (starEach es X.env)).any (·.1) = false := by rfl) : PE X (.Call (.Name x p) (e :: es) [] pos) (tCB r t) := by
  intro pins s σ H Q I h
  refine wpAny_Call_Name_kw (ld_blt I hg hm hv ?_ hn hdb)
  exact PyProof.Rows.callWith_type1 (thn (ha pos pins s σ H _ I h) fun us s1 ⟨vs, H1, I1, r1, q1⟩ => hc pins s1 σ H1 vs us Q I1 r1 q1) he hpl
end
end L2
namespace HT
open PySem PyProof.Rows
section
open PySem.SeqAt
open PySem.AutoSeq1 (wpAny_loadPart')
open PySem.MeetsSeq PySem.MeetsSeq2 PySem.MeetsSeq3
end
section
variable {prog : Program} {w : World} {A : Around} {E : Value → Shared → Prop} {s : Shared}
theorem cat_tup {t b : Addr} {vs ws : List Value} {Q : Value → Shared → Prop} (ht : IsTup s.heap t vs.toArray) (hb : IsTup s.heap b ws.toArray) (hv : vs ≠ [])
    (h1 : ws = [] → Q (.ref t) s) (h2 : ws ≠ [] → Q (.ref s.heap.objs.size) { s with heap := s.heap.push { cls := .type "tuple", data := .seq (vs ++ ws).toArray } })
    (hsz : vs.length + ws.length ≤ sizeLine) : wpAny (model prog w) A (binaryOp .Add (.ref t) (.ref b)) Q E s := by
  obtain ⟨⟨cls, dd, data, sl⟩, ho, hc, n, hd⟩ := id ht
  obtain ⟨⟨cls2, dd2, data2, sl2⟩, ho2, hc2, n2, hd2⟩ := id hb
  simp only at hc hd hc2 hd2
  subst hc hd hc2 hd2
  have e : vs.toArray ++ ws.toArray = (vs ++ ws).toArray := by simp
  by_cases hw : ws = []
  · exact concat_meets ⟨_, ho, rfl⟩ ⟨_, ho2, rfl⟩ noFill_tuple_add seq_tuple_add PySem.F.slot_tuple_add PySem.F.entry_tuple_add (PySem.F.args_tuple_add_2 _ _)
      (tuple_addW1 t b vs.toArray ws.toArray n n2 dd dd2 sl sl2 (by simpa using hv) (by simp [hw])) ⟨ho, ho2, h1 hw⟩
  · refine concat_meets ⟨_, ho, rfl⟩ ⟨_, ho2, rfl⟩ noFill_tuple_add seq_tuple_add PySem.F.slot_tuple_add PySem.F.entry_tuple_add (PySem.F.args_tuple_add_2 _ _)
      (tuple_addW2 t b vs.toArray ws.toArray n n2 dd dd2 sl sl2 (by simpa using hv) (by simpa using hw) (by rw [List.size_toArray, List.size_toArray]; exact hsz)) ⟨ho, ho2, ?_⟩
    rw [e]
    exact h2 hw
def sIx (n d : Nat) : Option Int → Nat
  | none => d
  | some v => if v < 0 then (v + (n : Int)).toNat else min v.toNat n
theorem sIx_none (n d : Nat) : sIx n d none = d := rfl
theorem sIx_nat (n d k : Nat) : sIx n d (some (k : Int)) = min k n := by
  show (if (k : Int) < 0 then ((k : Int) + (n : Int)).toNat else min (k : Int).toNat n) = min k n
  rw [if_neg (by omega), Int.toNat_natCast]
theorem sIx_le (n d : Nat) (hd : d ≤ n) (o : Option Int) : sIx n d o ≤ n := by
  cases o with
  | none => exact hd
  | some v =>
    show (if v < 0 then (v + (n : Int)).toNat else min v.toNat n) ≤ n
    by_cases hv : v < 0
    · rw [if_pos hv]; omega
    · rw [if_neg hv]; exact Nat.min_le_right _ _
theorem clip_eq (v : Int) (n d : Nat) : (if v < 0 then max (v + (n : Int)) 0 else min v (n : Int)) = ((sIx n d (some v) : Nat) : Int) := by
  show (if v < 0 then max (v + (n : Int)) 0 else min v (n : Int)) = (((if v < 0 then (v + (n : Int)).toNat else min v.toNat n) : Nat) : Int)
  by_cases hv : v < 0
  · simp only [if_pos hv]; omega
  · simp only [if_neg hv]; omega
theorem adjust_gen (lo hi : Option Int) (n : Nat) : Builtin.Slice.sliceAdjust lo hi 1 (n : Int) = (((sIx n 0 lo : Nat) : Int), ((sIx n n hi : Nat) : Int)) := by
  have h1 : ¬ ((1 : Int) < 0) := by omega
  unfold Builtin.Slice.sliceAdjust
  simp only [h1, if_false]
  refine Prod.ext ?_ ?_
  · cases lo with
    | none => rfl
    | some v => exact clip_eq v n 0
  · cases hi with
    | none => rfl
    | some v => exact clip_eq v n n
theorem places_gen (i j : Nat) : Builtin.Slice.slicePlaces (i : Int) (j : Int) 1 = j - i := by
  unfold Builtin.Slice.slicePlaces
  have h1 : (1 : Int) > 0 := by omega
  simp only [h1, if_true, Int.ediv_one]
  split <;> omega
theorem slicePart_ {v : Value} {o : Option Int} {Q : Option Int → Shared → Prop} (p : IsPart v o) (h : Q o s) : wpAny (model prog w) A (Builtin.Slice.slicePartIndex v) Q E s := by
  cases p with
  | none => exact slicePart_none h
  | int i t => exact slicePart_int h
theorem sliceApplied_gen {sl : Addr} {vl vu : Value} {lo hi : Option Int} {n : Nat} {Q : Int × Int × Nat → Shared → Prop} (hs : s.heap.IsSliceOf sl vl vu .none) (pl : IsPart vl lo) (pu : IsPart vu hi)
    (h : Q (((sIx n 0 lo : Nat) : Int), 1, sIx n n hi - sIx n 0 lo) s) : wpAny (model prog w) A (Builtin.Slice.sliceApplied (.ref sl) (pure (n : Int))) Q E s := by
  obtain ⟨os, hos, hcs, hds⟩ := id hs
  unfold Builtin.Slice.sliceApplied Builtin.Slice.sliceFields
  refine wpAny_bind (wpAny_bind (wpAny_field hos hds (x := vl) rfl (wpAny_bind (wpAny_field hos hds (x := vu) rfl (wpAny_bind (wpAny_field hos hds (x := .none) rfl (wpAny_pure ?_)))))))
  refine wpAny_bind (slicePart_none ?_)
  show wpAny _ _ (if ((1 : Int) == 0) = true then _ else _) _ _ s
  rw [if_neg (by decide)]
  refine wpAny_bind (slicePart_ pl (wpAny_bind (slicePart_ pu (wpAny_bind (wpAny_pure ?_)))))
  show wpAny _ _ (match Builtin.Slice.sliceAdjust lo hi 1 (n : Int) with | (lo, hi) => pure (lo, (1 : Int), Builtin.Slice.slicePlaces lo hi 1)) _ _ s
  rw [adjust_gen lo hi n]
  show wpAny _ _ (pure (((sIx n 0 lo : Nat) : Int), (1 : Int), Builtin.Slice.slicePlaces ((sIx n 0 lo : Nat) : Int) ((sIx n n hi : Nat) : Int) 1)) _ _ s
  rw [places_gen]
  exact wpAny_pure h
theorem pick_gen (xs : Array Value) (i k : Nat) : ((List.range k).filterMap fun (m : Nat) => xs[((i : Int) + (m : Int) * 1).toNat]?).toArray = ((xs.toList.drop i).take k).toArray := by
  have e : (fun (m : Nat) => xs[((i : Int) + (m : Int) * 1).toNat]?) = fun m => xs[i + m]? := by
    funext m
    have : ((i : Int) + (m : Int) * 1).toNat = i + m := by omega
    rw [this]
  rw [e]
  have := pick_run xs i k
  rw [List.filterMap_map] at this
  have e2 : ((fun x => xs[x]?) ∘ fun x => i + x) = fun m => xs[i + m]? := rfl
  rw [e2] at this
  rw [this]
theorem getItem_tuple_cut {t sl : Addr} {items : Array Value} {vl vu : Value} {lo hi : Option Int} {Q : Value → Shared → Prop} (ht : IsTup s.heap t items) (hs : s.heap.IsSliceOf sl vl vu .none) (pl : IsPart vl lo) (pu : IsPart vu hi)
    (hw : ¬ (sIx items.size 0 lo = 0 ∧ sIx items.size items.size hi = items.size))
    (h : Q (.ref s.heap.objs.size) { s with heap := s.heap.push { cls := .type "tuple", data := .seq ((items.toList.drop (sIx items.size 0 lo)).take (sIx items.size items.size hi - sIx items.size 0 lo)).toArray } })
    (hsz : items.size ≤ sizeLine) : wpAny (model prog w) A (getItem (.ref t) (.ref sl)) Q E s := by
  have htake : sizeOk (.seq ((items.toList.drop (sIx items.size 0 lo)).take (sIx items.size items.size hi - sIx items.size 0 lo)).toArray) := by
    show ((items.toList.drop (sIx items.size 0 lo)).take (sIx items.size items.size hi - sIx items.size 0 lo)).toArray.size ≤ sizeLine
    rw [List.size_toArray, List.length_take, List.length_drop, Array.length_toList]
    omega
  have hj : sIx items.size items.size hi ≤ items.size := sIx_le _ _ (Nat.le_refl _) hi
  obtain ⟨os, hos, hcs, hds⟩ := id hs
  have hTs : s.TypeIs (.ref sl) "slice" := ⟨os, hos, hcs⟩
  unfold getItem
  try with_reducible refine wpAny_holding ?_
  first | refine wpAny_bind (wpAny_pure ?_) | skip
  refine wpAny_bind (wpAny_sequenceKey ht.typeIs (by decide) ?_)
  refine wpAny_bind (wpAny_callSpecial?_slot (name := Str.ofString "__getitem__") ht.typeIs PyProof.Rows.slot_tuple_getitem
    (wpAny_call_entry PyProof.Rows.slot_tuple_getitem ht.typeIs entry_tuple_getitem ?_ (args_tuple_getitem _ _)))
  show wpAny _ _ (Builtin.Tuple.tupleItemsOf (.ref t) >>= _) _ _ s
  refine wpAny_bind (tupleItemsOf_ ht ?_)
  refine wpAny_bind (wpAny_typeOf hTs ?_)
  rw [if_pos (by decide)]
  refine wpAny_bind (sliceApplied_gen hs pl pu ?_)
  have hno : ¬ ((((sIx items.size 0 lo : Nat) : Int) == 0 && (1 : Int) == 1 && (sIx items.size items.size hi - sIx items.size 0 lo) == items.size) = true) := by
    intro q
    rw [Bool.and_eq_true, Bool.and_eq_true] at q
    have q1 : ((sIx items.size 0 lo : Nat) : Int) = 0 := eq_of_beq q.1.1
    have q2 : sIx items.size items.size hi - sIx items.size 0 lo = items.size := eq_of_beq q.2
    exact hw ⟨by omega, by omega⟩
  show wpAny _ _ (if (((sIx items.size 0 lo : Nat) : Int) == 0 && (1 : Int) == 1 && (sIx items.size items.size hi - sIx items.size 0 lo) == items.size) = true then _ else _) _ _ s
  rw [if_neg hno, pick_gen]
  first
    | exact wpAny_bind (m := Builtin.Tuple.tupleExact _) (wpAny_newObj_type (wpAny_pure ⟨_, rfl, wpAny_pure h⟩) htake)
    | exact wpAny_bind (m := Builtin.Tuple.tupleExact _) (wpAny_newObj_type (wpAny_bind (wpAny_pure (wpAny_pure ⟨_, rfl, wpAny_pure h⟩))) htake)
    | exact wpAny_bind (wpAny_bind (m := Builtin.Tuple.tupleExact _) (wpAny_newObj_type (wpAny_pure (wpAny_pure ⟨_, rfl, wpAny_pure h⟩)) htake))
    | exact wpAny_bind (wpAny_bind (m := Builtin.Tuple.tupleExact _) (wpAny_newObj_type (wpAny_pure ⟨_, rfl, wpAny_pure h⟩) htake))
end
end HT
namespace L2
open PySem PySem.Spec PyProof.Rows
abbrev TO := St → Hp → (Option Int → Hp → Prop) → Prop
def PO (X : Cx) (e : Option Expr) (t : TO) : Prop :=
  ∀ (pins : List (Addr × Obj)) (s : Shared) (σ : St) (H : Hp) (Q : Option Int → Hp → Prop), Inv X pins σ H s → t σ H Q →
    wpAny (model X.prog X.w) X.A (evalPart e X.env) (fun u s' => ∃ o H', Inv X pins σ H' s' ∧ IsPart u o ∧ Q o H') X.xe s
def tNoPart : TO := fun _ H Q => Q none H
def tPart (t : TE) : TO := fun σ H Q => t σ H fun x H1 => ∃ i, x = .int i ∧ Q (some i) H1
theorem intsAre_of {ns : List Int} : ∀ {us : List Value}, Vals (ns.map V.int) us → IntsAre us ns := by
  induction ns with
  | nil => intro us r; rw [List.map_nil] at r; cases r; exact .nil
  | cons n ns ih =>
    intro us r
    rw [List.map_cons] at r
    cases r with
    | cons r1 r2 =>
      obtain ⟨t, e⟩ := r1
      subst e
      exact .cons n t (ih r2)
section
variable {X : Cx} {e : Expr} {te : TE} {lo hi : Option Expr} {tl th : TO} {pos p2 : Pos}
theorem po_none : PO X none tNoPart := by
  intro pins s σ H Q I h
  rw [evalPart_none]
  exact wpAny_pure ⟨none, H, I, .none, h⟩
theorem po_some (h : PE X e te) : PO X (some e) (tPart te) := by
  intro pins s σ H Q I hw
  rw [evalPart_some]
  refine thn (h pins s σ H _ I hw) fun u s1 ⟨x, H1, I1, r1, q1⟩ => ?_
  obtain ⟨i, rfl, q⟩ := q1
  obtain ⟨t, rfl⟩ := r1
  exact ⟨some i, H1, I1, .int i t, q⟩
def SlR (X : Cx) (r : V → Option Int → Option Int → Hp → VK → Prop) : Prop :=
  ∀ (pins : List (Addr × Obj)) (s : Shared) (σ : St) (H : Hp) (x : V) (v vl vu : Value) (lo hi : Option Int) (sl : Addr) (Q : VK), Inv X pins σ H s → RelV x v → s.heap.IsSliceOf sl vl vu .none → IsPart vl lo → IsPart vu hi → r x lo hi H Q →
    ∃ T id, typeLookup (.type T) "__getitem__" = pure (some (.builtin id)) ∧ s.TypeIs v T ∧ wpAny (model X.prog X.w) X.A (getItem v (.ref sl)) (EP X pins σ Q) X.xe s
theorem SlR.or {r r' : V → Option Int → Option Int → Hp → VK → Prop} (h : SlR X r) (h' : SlR X r') : SlR X (fun x lo hi H Q => r x lo hi H Q ∨ r' x lo hi H Q) := by
  intro pins s σ H x v vl vu lo hi sl Q I rx hs pl pu q
  rcases q with q | q
  · exact h pins s σ H x v vl vu lo hi sl Q I rx hs pl pu q
  · exact h' pins s σ H x v vl vu lo hi sl Q I rx hs pl pu q
def tSl (r : V → Option Int → Option Int → Hp → VK → Prop) (te : TE) (tl th : TO) : TE := fun σ H Q => te σ H fun x H1 => tl σ H1 fun l H2 => th σ H2 fun u H3 => r x l u H3 Q
theorem pe_slice {r : V → Option Int → Option Int → Hp → VK → Prop} (hr : SlR X r) (he : PE X e te) (hl : PO X lo tl) (hu : PO X hi th) : PE X (.Subscript e (.Slice lo hi none p2) pos) (tSl r te tl th) := by
  intro pins s σ H Q I h
  refine Subscript_ (thn (he pins s σ H _ I h) fun v s1 ⟨x, H1, I1, r1, q1⟩ => ?_)
  refine wpAny_Slice (thn (hl pins s1 σ H1 _ I1 q1) fun vl s2 ⟨l, H2, I2, pl, q2⟩ => thn (hu pins s2 σ H2 _ I2 q2) fun vu s3 ⟨u, H3, I3, pu, q3⟩ => ?_)
  rw [evalPart_none]
  refine wpAny_pure ?_
  have I4 : Inv X pins σ H3 { s3 with heap := s3.heap.push { cls := .type "slice", data := .fields #[vl, vu, .none] } } := I3.kept (t' := s3.toks) fun b ob q => Heap.get?_push_of_some _ q
  obtain ⟨T, id, hT, ht, hg⟩ := hr pins { s3 with heap := s3.heap.push { cls := .type "slice", data := .fields #[vl, vu, .none] } } σ H3 x v vl vu l u s3.heap.objs.size Q I4 r1 (Heap.IsSliceOf.new ..) pl pu q3
  show wpAny (model X.prog X.w) X.A (subscriptTail e (.Slice lo hi none p2) v (.ref s3.heap.objs.size)) (EP X pins σ Q) X.xe { s3 with heap := s3.heap.push { cls := .type "slice", data := .fields #[vl, vu, .none] } }
  exact tail_any (ops := [.ref s3.heap.objs.size, v]) ht hT hg (by with_unfolding_all rfl)
def cutV (xs : List V) (lo hi : Option Int) : List V := (xs.drop (HT.sIx xs.length 0 lo)).take (HT.sIx xs.length xs.length hi - HT.sIx xs.length 0 lo)
theorem cutV_length (xs : List V) (lo hi : Option Int) : (cutV xs lo hi).length ≤ xs.length := by
  unfold cutV
  rw [List.length_take, List.length_drop]
  omega
def rSlT (K : PySem.W.Frag) : V → Option Int → Option Int → Hp → VK → Prop := fun x lo hi H Q => ∃ a xs, x = .ref a ∧ SqT K H a xs ∧
  ¬ (HT.sIx xs.length 0 lo = 0 ∧ HT.sIx xs.length xs.length hi = xs.length) ∧ ∀ p, H p = none → Q (.ref p) (upd H p (.tup (cutV xs lo hi)))
theorem sl_tup : SlR X (rSlT X.K) := by
  intro pins s σ H x v vl vu lo hi sl Q I rx hs pl pu h
  obtain ⟨a, xs, rfl, hx, hw, q⟩ := h
  cases rx
  obtain ⟨its, r, ht, hz⟩ := I.tuple hx
  have hlen : its.toArray.size = xs.length := by rw [List.size_toArray]; exact r.length.symm
  refine ⟨"tuple", _, PyProof.Rows.slot_tuple_getitem.lookup, ht.typeIs, ?_⟩
  refine HT.getItem_tuple_cut ht hs pl pu (by rw [hlen]; exact hw) ?_ (by rw [hlen]; exact hz)
  rw [hlen]
  refine ⟨.ref s.heap.objs.size, _, I.laid (t' := s.toks) (o := .tup (cutV xs lo hi)) (fun b ob q => Heap.get?_push_of_some _ q) (Nat.le_refl _) ?_, rfl, q _ (I.hok.fresh (Nat.le_refl _))⟩
  exact ⟨Nat.le_trans (cutV_length xs lo hi) hz, _, (r.drop (HT.sIx xs.length 0 lo)).take (HT.sIx xs.length xs.length hi - HT.sIx xs.length 0 lo), IsTup.new _ _⟩
def rCatT (K : PySem.W.Frag) : R2 := fun x y H Q => ∃ a b xs ys, x = .ref a ∧ y = .ref b ∧ SqT K H a xs ∧ SqT K H b ys ∧ xs ≠ [] ∧ xs.length + ys.length ≤ sizeLine ∧
  (ys = [] → Q (.ref a) H) ∧ (ys ≠ [] → ∀ p, H p = none → Q (.ref p) (upd H p (.tup (xs ++ ys))))
theorem Vals.nil_iff {xs : List V} {us : List Value} (r : Vals xs us) : us = [] ↔ xs = [] := by
  cases r with
  | nil => simp
  | cons _ _ => simp
theorem op_catT : OpR X (binaryOp .Add) (rCatT X.K) := by
  intro pins s σ H x y v u Q I rx ry h
  obtain ⟨a, b, xs, ys, rfl, rfl, ha, hb, hx, hz, q1, q2⟩ := h
  cases rx
  cases ry
  obtain ⟨its, r1, p1, _⟩ := I.tuple ha
  obtain ⟨its2, r2, p2, _⟩ := I.tuple hb
  refine HT.cat_tup p1 p2 (fun z => hx (r1.nil_iff.mp z)) (fun z => ⟨.ref a, H, I, rfl, q1 (r2.nil_iff.mp z)⟩) (fun z => ?_) (by rw [← r1.length, ← r2.length]; exact hz)
  refine ⟨.ref s.heap.objs.size, _, I.laid (t' := s.toks) (o := .tup (xs ++ ys)) (fun b ob q => Heap.get?_push_of_some _ q) (Nat.le_refl _) ?_, rfl, q2 (fun w => z (r2.nil_iff.mpr w)) _ (I.hok.fresh (Nat.le_refl _))⟩
  exact ⟨by rw [List.length_append]; exact hz, _, r1.append r2, IsTup.new _ _⟩
end
end L2
namespace L2
open PySem PySem.Spec PyProof.Rows
def ixN (n : Nat) (i : Int) : Option Nat := if 0 ≤ i then (if i < n then some i.toNat else none) else if -(n : Int) ≤ i then some (i + n).toNat else none
def atI {α : Type} (xs : List α) (i : Int) : Option α := (ixN xs.length i).bind fun j => xs[j]?
theorem ixN_seq {n : Nat} {i : Int} {j : Nat} (h : ixN n i = some j) : seqIndex? i n = some j ∧ j < n ∧ -(n : Int) ≤ i ∧ i < n := by
  unfold ixN at h
  by_cases h0 : 0 ≤ i
  · rw [if_pos h0] at h
    by_cases h1 : i < n
    · rw [if_pos h1] at h
      have e : i.toNat = j := Option.some.inj h
      exact ⟨by rw [seqIndex_of h0 h1, e], by omega, by omega, h1⟩
    · rw [if_neg h1] at h; cases h
  · rw [if_neg h0] at h
    by_cases h1 : -(n : Int) ≤ i
    · rw [if_pos h1] at h
      have e : (i + n).toNat = j := Option.some.inj h
      exact ⟨by rw [seqIndex_neg (by omega) h1, e], by omega, h1, by omega⟩
    · rw [if_neg h1] at h; cases h
theorem atI_get {α : Type} {xs : List α} {i : Int} {v : α} (h : atI xs i = some v) : ∃ j, seqIndex? i xs.length = some j ∧ xs[j]? = some v ∧ j < xs.length ∧ -(xs.length : Int) ≤ i ∧ i < xs.length := by
  unfold atI at h
  cases e : ixN xs.length i with
  | none => rw [e] at h; cases h
  | some j =>
    rw [e] at h
    obtain ⟨h1, h2, h3, h4⟩ := ixN_seq e
    exact ⟨j, h1, h, h2, h3, h4⟩
theorem atI_nat {α : Type} {xs : List α} {j : Nat} {v : α} (h : xs[j]? = some v) : atI xs (j : Int) = some v := by
  have hj : j < xs.length := (List.getElem?_eq_some_iff.mp h).1
  have e : ixN xs.length (j : Int) = some j := by
    unfold ixN
    rw [if_pos (by omega), if_pos (by omega)]; simp
  unfold atI; rw [e]; exact h
def PlainIx (b : Expr) : Prop := ∀ o i, subscripted b false o i = operate [o, i] (getItem o i)
def IxR (X : Cx) (r : R2) : Prop :=
  ∀ (value slice : Expr) (pins : List (Addr × Obj)) (s : Shared) (σ : St) (H : Hp) (x y : V) (v u : Value) (Q : VK), Inv X pins σ H s → RelV x v → RelV y u → r x y H Q →
    subscripted slice false v u = operate [v, u] (getItem v u) → wpAny (model X.prog X.w) X.A (subscriptTail value slice v u) (EP X pins σ Q) X.xe s
def MtR (X : Cx) (id : String) (r : V → List V → Hp → VK → Prop) : Prop :=
  ∀ (pins : List (Addr × Obj)) (s : Shared) (σ : St) (H : Hp) (x : V) (xs : List V) (v : Value) (us : List Value) (Q : VK), Inv X pins σ H s → RelV x v → Vals xs us → r x xs H Q →
    wpAny (model X.prog X.w) X.A (call (.builtin id) (v :: us)) (EP X pins σ Q) X.xe s
section
variable {X : Cx} {a b : Expr} {ta tb : TE} {pos : Pos}
theorem IxR.or {r r' : R2} (h : IxR X r) (h' : IxR X r') : IxR X (fun x y H Q => r x y H Q ∨ r' x y H Q) := by
  intro value slice pins s σ H x y v u Q I rx ry q hs
  rcases q with q | q
  · exact h value slice pins s σ H x y v u Q I rx ry q hs
  · exact h' value slice pins s σ H x y v u Q I rx ry q hs
theorem MtR.or {id : String} {r r' : V → List V → Hp → VK → Prop} (h : MtR X id r) (h' : MtR X id r') : MtR X id (fun x xs H Q => r x xs H Q ∨ r' x xs H Q) := by
  intro pins s σ H x xs v us Q I rx rs q
  rcases q with q | q
  · exact h pins s σ H x xs v us Q I rx rs q
  · exact h' pins s σ H x xs v us Q I rx rs q
theorem pe_ix {r : R2} (hr : IxR X r) (ha : PE X a ta) (hb : PE X b tb) (hs : PlainIx b) : PE X (.Subscript a b pos) (tOp r ta tb) := by
  intro pins s σ H Q I h
  exact Subscript_ (binT ha hb I h fun v u s2 x y H2 I2 rx ry q => hr a b pins s2 σ H2 x y v u Q I2 rx ry q (hs _ _))
def rIxL (K : PySem.W.Frag) : R2 := fun x y H Q => ∃ p xs i v, x = .ref p ∧ y = .int i ∧ SqL K H p xs ∧ atI xs i = some v ∧ Q v H
def rIxT (K : PySem.W.Frag) : R2 := fun x y H Q => ∃ p xs i v, x = .ref p ∧ y = .int i ∧ SqT K H p xs ∧ atI xs i = some v ∧ Q v H
def rIxS : R2 := fun x y H Q => ∃ z i c, x = .str z ∧ y = .int i ∧ z.length ≤ sizeLine ∧ atI z.cps.toList i = some c ∧ Q (.str ⟨#[c]⟩) H
theorem ix_list : IxR X (rIxL X.K) := by
  intro value slice pins s σ H x y v u Q I rx ry h hs
  obtain ⟨p, xs, i, z, rfl, rfl, hq, he, q⟩ := h
  cases rx
  obtain ⟨t, rfl⟩ := ry
  obtain ⟨its, r, pl, hz⟩ := I.list hq
  obtain ⟨j, h1, h2, h3, h4, h5⟩ := atI_get he
  obtain ⟨w, ew, rw'⟩ := r.get h2
  have hl := r.length
  have hn := line63
  have fin : EP X pins σ Q w s := ⟨z, H, I, rw', q⟩
  by_cases h0 : 0 ≤ i
  · have hj : i.toNat = j := by
      rw [seqIndex_of h0 h5] at h1
      exact Option.some.inj h1
    exact item_listR pl.isList h0 (by omega) (by rw [hj]; simpa using ew) fin hs
  · have hj : (i + (its.toArray.size : Int)).toNat = j := by
      rw [seqIndex_neg (by omega) h4] at h1
      rw [List.size_toArray, ← hl]
      exact Option.some.inj h1
    exact subscriptTail_builtinR (x := w) pl.isList.typeIs slot_list_getitem.lookup
      (wpAny_getItem_list_neg (Q := fun r s' => r = w ∧ EP X pins σ Q r s') pl.isList (by omega) (by rw [List.size_toArray] <;> omega) (by omega) (by rw [hj]; simpa using ew) ⟨rfl, fin⟩) hs
theorem ix_tup : IxR X (rIxT X.K) := by
  intro value slice pins s σ H x y v u Q I rx ry h hs
  obtain ⟨p, xs, i, z, rfl, rfl, hq, he, q⟩ := h
  cases rx
  obtain ⟨t, rfl⟩ := ry
  obtain ⟨its, r, pl, hz⟩ := I.tuple hq
  obtain ⟨j, h1, h2, h3, h4, h5⟩ := atI_get he
  obtain ⟨w, ew, rw'⟩ := r.get h2
  have hl := r.length
  have hn := line63
  have fin : EP X pins σ Q w s := ⟨z, H, I, rw', q⟩
  exact subscriptTail_builtinR (x := w) pl.typeIs slot_tuple_getitem.lookup
    (getItem_tuple (j := j) (Q := fun r s' => r = w ∧ EP X pins σ Q r s') pl (by omega) (by omega) (by rw [List.size_toArray, ← hl]; exact h1) (by simpa using ew) ⟨rfl, fin⟩) hs
theorem ix_str : IxR X rIxS := by
  intro value slice pins s σ H x y v u Q I rx ry h hs
  obtain ⟨z, i, c, rfl, rfl, hz, he, q⟩ := h
  obtain ⟨t, rfl⟩ := rx
  obtain ⟨t', rfl⟩ := ry
  obtain ⟨j, h1, h2, h3, h4, h5⟩ := atI_get he
  have hl : z.cps.toList.length = z.length := by simp [Str.length]
  rw [hl] at h1 h4 h5
  have hn := line63
  exact tail_any (typeIs_str s z t) slot_str_getitem.lookup (getItem_str (c := c) (by
    have e1 : decide (i < -(2 ^ 63 : Int)) = false := decide_eq_false (by omega)
    have e2 : decide (i ≥ 2 ^ 63) = false := decide_eq_false (by omega)
    rw [e1, e2, Bool.or_false]) (by rw [h1]; simpa using h2) ⟨.str ⟨#[c]⟩, H, I.tok _, ⟨_, rfl⟩, q⟩) hs
theorem mapSeq_set (its : List Value) (n j : Nat) (u : Value) : Obj.mapSeq (·.setIfInBounds j u) { cls := .type "list", data := .seq its.toArray n } = { cls := .type "list", data := .seq (its.set j u).toArray n } := by
  simp [Obj.mapSeq]
theorem Inv.lst {pins : List (Addr × Obj)} {σ : St} {H : Hp} {s : Shared} {p : Addr} {xs : List V} (I : Inv X pins σ H s) (h : H p = some (.lst xs)) :
    ∃ (its : List Value) (n : Nat), Vals xs its ∧ s.heap.get? p = some { cls := .type "list", data := .seq its.toArray n } ∧ xs.length ≤ sizeLine := by
  obtain ⟨z, its, n, r, e⟩ := I.hok p _ h
  exact ⟨its, n, r, e, z⟩
theorem Inv.lstUpd {pins : List (Addr × Obj)} {σ : St} {H : Hp} {s : Shared} {p : Addr} {xs ys : List V} {its its' : List Value} {n n' : Nat} {f : Obj → Obj} (I : Inv X pins σ H s) (h : H p = some (.lst xs))
    (ho : s.heap.get? p = some { cls := .type "list", data := .seq its.toArray n }) (hf : f { cls := .type "list", data := .seq its.toArray n } = { cls := .type "list", data := .seq its'.toArray n' }) (r : Vals ys its') (hz : ys.length ≤ sizeLine) (t : Nat) :
    Inv X pins σ (upd H p (.lst ys)) { s with heap := s.heap.update p f, toks := t } := by
  have e : (s.heap.update p f).get? p = some { cls := .type "list", data := .seq its'.toArray n' } := by
    rw [Heap.get?_update_self f ho (by rw [hf] <;> rfl), hf]
  refine I.write (x := p) (e := p) (by rw [h]; trivial) (.inl rfl) (fun b u hb q => (Heap.get?_update_other _ _ (Ne.symm hb)).trans q) ⟨_, e⟩ ?_
  exact ⟨hz, its', n', r, e⟩
def rSetL : V → V → V → Hp → (Hp → Prop) → Prop := fun o i v H Q => ∃ p xs k j, o = .ref p ∧ i = .int k ∧ H p = some (.lst xs) ∧ ixN xs.length k = some j ∧ Q (upd H p (.lst (xs.set j v)))
theorem set_list : PSet X rSetL := by
  intro pins s σ H o i v ov iv u Q I ro ri rv h
  obtain ⟨p, xs, k, j, rfl, rfl, hp, hj, q⟩ := h
  cases ro
  obtain ⟨t, rfl⟩ := ri
  obtain ⟨its, n, r, ho, hz⟩ := I.lst hp
  obtain ⟨h1, h2, h3, h4⟩ := ixN_seq hj
  have hl := r.length
  have hn := line63
  have I' : Inv X pins σ (upd H p (.lst (xs.set j v))) { s with heap := s.heap.update p (Obj.mapSeq (·.setIfInBounds j u)) } :=
    I.lstUpd hp ho (mapSeq_set its n j u) (r.set rv j) (by rw [List.length_set]; exact hz) s.toks
  by_cases h0 : 0 ≤ k
  · have hk : k.toNat = j := by
      rw [seqIndex_of h0 h4] at h1
      exact Option.some.inj h1
    exact PySem.W.ki_setAt ho h0 (by omega) (by rw [List.size_toArray, ← hl]; exact h4) (by rw [hk]; exact ⟨_, I', q⟩)
  · have hk : (k + (its.toArray.size : Int)).toNat = j := by
      rw [seqIndex_neg (by omega) h3] at h1
      rw [List.size_toArray, ← hl]
      exact Option.some.inj h1
    exact PySem.W.ki_setBack ho (by omega) (by rw [List.size_toArray, ← hl]; exact h3) (by omega) (by rw [hk]; exact ⟨_, I', q⟩)
theorem slice_bounds (lo hi : Option Int) (n : Nat) : (sliceBounds lo hi none n).1 = ((HT.sIx n 0 lo : Nat) : Int) ∧ (sliceBounds lo hi none n).2.1 = ((HT.sIx n n hi : Nat) : Int) ∧ (sliceBounds lo hi none n).2.2 = 1 := by
  refine ⟨?_, ?_, rfl⟩
  · cases lo with
    | none => simp [sliceBounds, HT.sIx]
    | some i =>
      simp only [sliceBounds, HT.sIx, Option.getD_none, show (1 : Int) > 0 by decide, if_true]
      by_cases h : i < 0
      · simp only [h, if_true] <;> omega
      · simp only [h, if_false] <;> omega
  · cases hi with
    | none => simp [sliceBounds, HT.sIx]
    | some i =>
      simp only [sliceBounds, HT.sIx, Option.getD_none, show (1 : Int) > 0 by decide, if_true]
      by_cases h : i < 0
      · simp only [h, if_true] <;> omega
      · simp only [h, if_false] <;> omega
theorem call_len_seq : CallR X (.builtin "len") (fun xs H Q => ∃ p ys, xs = [.ref p] ∧ (SqL X.K H p ys ∨ SqT X.K H p ys) ∧ Q (.int ys.length) H) := by
  intro pins s σ H xs us Q I r h
  obtain ⟨p, ys, rfl, hq, q⟩ := h
  obtain ⟨u, rfl, rx⟩ := vals1 r
  cases rx
  have hn := line63
  rcases hq with hq | hq
  · obtain ⟨its, r', pl, hz⟩ := I.list hq
    have hlen := r'.length
    exact Calls.call_len_list pl.isList (by simp only [List.size_toArray] <;> omega) ⟨.int ys.length, H, I.tok _, ⟨s.toks + 1, by rw [List.size_toArray, hlen]⟩, q⟩
  · obtain ⟨its, r', pl, hz⟩ := I.tuple hq
    have hlen := r'.length
    exact len_tuple pl (by simp only [List.size_toArray] <;> omega) ⟨.int ys.length, H, I.tok _, ⟨s.toks + 1, by rw [List.size_toArray, hlen]⟩, q⟩
theorem call_len_str : CallR X (.builtin "len") (fun xs H Q => ∃ z, xs = [.str z] ∧ z.length ≤ sizeLine ∧ Q (.int z.length) H) := by
  intro pins s σ H xs us Q I r h
  obtain ⟨z, rfl, hz, q⟩ := h
  obtain ⟨u, rfl, t, rfl⟩ := vals1 r
  have hn := line63
  exact len_str (by omega) ⟨.int z.length, H, I.tok _, ⟨_, rfl⟩, q⟩
theorem CallR.or {f : Value} {r r' : List V → Hp → VK → Prop} (h : CallR X f r) (h' : CallR X f r') : CallR X f (fun xs H Q => r xs H Q ∨ r' xs H Q) := by
  intro pins s σ H xs us Q I rs q
  rcases q with q | q
  · exact h pins s σ H xs us Q I rs q
  · exact h' pins s σ H xs us Q I rs q
theorem call_list_of : CallR X (.type "list") (fun xs H Q => ∃ p ys, xs = [.ref p] ∧ (SqL X.K H p ys ∨ SqT X.K H p ys) ∧ ∀ l, H l = none → Q (.ref l) (upd H l (.lst ys))) := by
  intro pins s σ H xs us Q I r h
  obtain ⟨p, ys, rfl, hq, q⟩ := h
  obtain ⟨u, rfl, rx⟩ := vals1 r
  cases rx
  have fin : ∀ (its : List Value), Vals ys its → ys.length ≤ sizeLine → ∀ (h' : Heap) (c' : Nat), (∀ b o', s.heap.get? b = some o' → h'.get? b = some o') →
      h'.get? s.heap.objs.size = some { cls := .type "list", dict := none, data := .seq its.toArray c', slots := #[] } → EP X pins σ Q (.ref s.heap.objs.size) { s with heap := h' } := fun its r' hz h' c' kp e =>
    ⟨.ref s.heap.objs.size, _, I.laid (t' := s.toks) kp (Nat.le_refl _) (show ObjOk X.prog X.w _ h' _ (.lst ys) from ⟨hz, its, c', r', e⟩), rfl, q _ (I.hok.fresh (Nat.le_refl _))⟩
  rcases hq with hq | hq
  · obtain ⟨its, r', pl, hz⟩ := I.list hq
    have hlen := r'.length
    obtain ⟨o, ho, hc, n, hd⟩ := pl.isList
    exact call_list_seq p (.inl rfl) ho hc hd (fun h' c' kp e => fin its r' hz h' c' kp e) (by simp only [List.size_toArray] <;> omega)
  · obtain ⟨its, r', pl, hz⟩ := I.tuple hq
    have hlen := r'.length
    obtain ⟨o, ho, hc, n, hd⟩ := pl
    exact call_list_seq p (.inr rfl) ho hc hd (fun h' c' kp e => fin its r' hz h' c' kp e) (by simp only [List.size_toArray] <;> omega)
theorem call_tuple_of : CallR X (.type "tuple") (fun xs H Q => ∃ p ys, xs = [.ref p] ∧ ((SqL X.K H p ys ∧ ∀ l, H l = none → Q (.ref l) (upd H l (.tup ys))) ∨ (SqT X.K H p ys ∧ Q (.ref p) H))) := by
  intro pins s σ H xs us Q I r h
  obtain ⟨p, ys, rfl, h⟩ := h
  obtain ⟨u, rfl, rx⟩ := vals1 r
  cases rx
  rcases h with ⟨hq, q⟩ | ⟨hq, q⟩
  · obtain ⟨its, r', pl, hz⟩ := I.list hq
    have hlen := r'.length
    refine call_tuple_list pl.isList (fun h' kp => ?_) (by simp only [List.size_toArray] <;> omega)
    have I1 : Inv X pins σ H { s with heap := h' } := I.kept (t' := s.toks) kp
    have I2 : Inv X pins σ (upd H h'.objs.size (.tup ys)) { s with heap := h'.push { cls := .type "tuple", data := .seq its.toArray } } :=
      I1.laid (t' := s.toks) (fun b o e => Heap.get?_push_of_some _ e) (Nat.le_refl _) (show ObjOk X.prog X.w _ _ _ (.tup ys) from ⟨hz, its, r', IsTup.new _ _⟩)
    exact ⟨.ref h'.objs.size, _, I2, rfl, q _ (I1.hok.fresh (Nat.le_refl _))⟩
  · obtain ⟨its, r', pl, hz⟩ := I.tuple hq
    exact call_tuple_same pl ⟨.ref p, H, I, rfl, q⟩
def tyV (K : PySem.W.Frag) (T : String) (x : V) (H : Hp) : Prop := match x with
  | .str _ => T = "str"
  | .int _ => T = "int"
  | .ref p => (T = "list" ∧ ∃ xs, SqL K H p xs) ∨ (T = "tuple" ∧ ∃ o, K.lookup p = some o ∧ o.cls = .type "tuple" ∧ o.dict = none) ∨
      (T = "dict" ∧ ((∃ kvs, H p = some (.dK kvs)) ∨ ∃ kvs, H p = some (.dT kvs))) ∨ (T = "set" ∧ ∃ S n, H p = some (.set S n))
  | _ => False
theorem tyV_is {pins : List (Addr × Obj)} {σ : St} {H : Hp} {s : Shared} {T : String} {x : V} {v : Value} (I : Inv X pins σ H s) (r : RelV x v) (ty : tyV X.K T x H) :
    s.TypeIs v T ∧ ∀ a, v = .ref a → ∃ ob, s.heap.get? a = some ob ∧ ob.dict = none := by
  cases x with
  | str z =>
    obtain ⟨t, rfl⟩ := r
    cases (show T = "str" from ty)
    exact ⟨typeIs_str s z t, fun _ e => nomatch e⟩
  | int i =>
    obtain ⟨t, rfl⟩ := r
    cases (show T = "int" from ty)
    exact ⟨typeIs_int s i t, fun _ e => nomatch e⟩
  | ref p =>
    cases r
    rcases ty with ⟨rfl, xs, hq⟩ | ⟨rfl, o, hk, hc, hd⟩ | ⟨rfl, hk⟩ | ⟨rfl, S, n, hk⟩
    · obtain ⟨its, _, pl, _⟩ := I.list hq
      refine ⟨pl.isList.typeIs, fun a e => ?_⟩
      cases e
      obtain ⟨o, n, e, c, hd, _⟩ := pl
      exact ⟨o, e, hd⟩
    · refine ⟨⟨o, I.kIn p o hk, hc⟩, fun a e => ?_⟩
      cases e
      exact ⟨o, I.kIn _ o hk, hd⟩
    · have z : ∃ o, s.heap.get? p = some o ∧ o.ExactDict := by
        rcases hk with ⟨kvs, hk⟩ | ⟨kvs, hk⟩
        · obtain ⟨_, _, _, _, o, _, _, e, ex, _⟩ := I.hok p _ hk
          exact ⟨o, e, ex⟩
        · obtain ⟨_, _, _, _, o, _, _, e, ex, _⟩ := I.hok p _ hk
          exact ⟨o, e, ex⟩
      obtain ⟨o, e, ex⟩ := z
      refine ⟨⟨o, e, ex.1⟩, fun a e2 => ?_⟩
      cases e2
      exact ⟨o, e, ex.2.1⟩
    · obtain ⟨o, _, _, _, e, ex, _⟩ := I.hok p _ hk
      refine ⟨⟨o, e, ex.1⟩, fun a e2 => ?_⟩
      cases e2
      exact ⟨o, e, ex.2.1⟩
  | _ => exact False.elim ty
def tBM0 (K : PySem.W.Frag) (T : String) (r : V → List V → Hp → VK → Prop) (to : TE) : TE := fun σ H Q => to σ H fun x H1 => tyV K T x H1 ∧ r x [] H1 Q
def tBM (K : PySem.W.Frag) (T : String) (r : V → List V → Hp → VK → Prop) (to : TE) (t : TA) : TE := fun σ H Q => to σ H fun x H1 => tyV K T x H1 ∧ t σ H1 fun xs H2 => r x xs H2 Q
variable {o e : Expr} {es : List Expr} {to : TE} {t : TA} {name : Str} {apos cpos : Pos} {T id : String} {r : V → List V → Hp → VK → Prop}
theorem pe_bm0 (pa : PlainAttrs T) (slot : Slot T name id) (hty : typeOf (.builtin id) = pure (.type "method_descriptor")) (hm : MtR X id r) (ho : PE X o to)
    (hbase : attributeBase o name X.env (eval o X.env) = eval o X.env := by rfl) (hline : (apos.endLine == cpos.line) = true := by rfl) : PE X (.Call (.Attribute o name apos) [] [] cpos) (tBM0 X.K T r to) := by
  intro pins s σ H Q I h
  refine wpAny_Call_method0_late hbase hline (thn (ho pins s σ H _ I h) fun v s1 ⟨x, H1, I1, r1, ty, q1⟩ => ?_)
  obtain ⟨h1, h2⟩ := tyV_is I1 r1 ty
  exact ⟨T, id, pa, slot, hty, h1, h2, Calls.callWith_builtin rfl (PySem.evalArgs_none (hm pins s1 σ H1 x [] v [] Q I1 r1 .nil q1))⟩
theorem pe_bm (pa : PlainAttrs T) (slot : Slot T name id) (hty : typeOf (.builtin id) = pure (.type "method_descriptor")) (hm : MtR X id r) (ho : PE X o to) (ha : PA X (e :: es) t)
    (hbase : attributeBase o name X.env (eval o X.env) = eval o X.env := by rfl)
    (hfew : ((backTo cpos (starEach (e :: es) X.env)).all (fun x => !x.1) && (backToKw cpos (keywordEach [] X.env)).all (fun x => x.1.isSome)
      && decide ((e :: es).length + ([] : List Keyword).length + (if ([] : List Keyword).isEmpty then 0 else 1) < 30)) = true := by rfl)
    (hline : (apos.endLine == cpos.line) = true := by rfl) (hs : starEach (e :: es) X.env = (false, eval e X.env) :: starEach es X.env := by rfl) (hplain : (backTo cpos (starEach es X.env)).any (·.1) = false := by rfl) :
    PE X (.Call (.Attribute o name apos) (e :: es) [] cpos) (tBM X.K T r to t) := by
  intro pins s σ H Q I h
  refine wpAny_Call_method_late hbase hfew hline rfl (thn (ho pins s σ H _ I h) fun v s1 ⟨x, H1, I1, r1, ty, q1⟩ => ?_)
  obtain ⟨h1, h2⟩ := tyV_is I1 r1 ty
  refine ⟨T, id, pa, slot, hty, h1, h2, ?_⟩
  have hA := ha cpos pins s1 σ H1 _ I1 q1
  rw [hs] at hA ⊢
  refine Calls.callWith_builtin (by show (false || (backTo cpos (starEach es X.env)).any (·.1)) = false; rw [hplain] <;> rfl) (Calls.evalArgs_plain ?_)
  exact thn hA fun us s2 ⟨vs, H2, I2, r2, q2⟩ => hm pins s2 σ H2 x vs v us Q I2 r1 r2 q2
end
end L2
namespace L2
open PySem PySem.Spec PyProof.Rows
def MtM (X : Cx) (id : String) (r : V → List V → Hp → VK → Prop) : Prop :=
  ∀ (pins : List (Addr × Obj)) (s : Shared) (σ : St) (H : Hp) (x : V) (xs : List V) (v : Value) (us : List Value) (Q : VK), Inv X pins σ H s → RelV x v → Vals xs us → r x xs H Q →
    wpAny (model X.prog X.w) X.A (call (.builtin id) (v :: us)) (EP X pins σ Q) X.xe s
theorem Vals.one : ∀ {x : V} {us : List Value}, Vals [x] us → ∃ u, us = [u] ∧ RelV x u
  | _, _, .cons r .nil => ⟨_, rfl, r⟩
theorem Vals.two : ∀ {x y : V} {us : List Value}, Vals [x, y] us → ∃ u v, us = [u, v] ∧ RelV x u ∧ RelV y v
  | _, _, _, .cons r (.cons q .nil) => ⟨_, _, rfl, r, q⟩
theorem Vals.zero : ∀ {us : List Value}, Vals [] us → us = []
  | _, .nil => rfl
theorem Vals.dropLast {xs : List V} {us : List Value} (h : Vals xs us) : Vals xs.dropLast us.dropLast := by
  induction h with
  | nil => exact .nil
  | cons r t ih =>
    cases t with
    | nil => exact .nil
    | cons q t' => exact .cons r ih
theorem Vals.eraseIdx : ∀ {xs : List V} {us : List Value} (i : Nat), Vals xs us → Vals (xs.eraseIdx i) (us.eraseIdx i)
  | _, _, _, .nil => .nil
  | _, _, 0, .cons _ t => t
  | _, _, i + 1, .cons r t => .cons r (Vals.eraseIdx i t)
theorem Vals.reverse {xs : List V} {us : List Value} (h : Vals xs us) : Vals xs.reverse us.reverse := by
  induction h with
  | nil => exact .nil
  | cons r t ih => rw [List.reverse_cons, List.reverse_cons]; exact Vals.append ih (.cons r .nil)
theorem erase_last {α : Type} (l : List α) : l.eraseIdx (l.length - 1) = l.dropLast := by
  induction l with
  | nil => rfl
  | cons a r ih =>
    cases r with
    | nil => rfl
    | cons b r =>
      have e : (a :: b :: r).length - 1 = ((b :: r).length - 1) + 1 := by
        have h1 : (a :: b :: r).length = r.length + 2 := rfl
        have h2 : (b :: r).length = r.length + 1 := rfl
        omega
      rw [e, List.eraseIdx_cons_succ, ih]
      all_goals rfl
theorem len_erase {α : Type} : ∀ (l : List α) (i : Nat), (l.eraseIdx i).length ≤ l.length
  | [], _ => Nat.le_refl _
  | _ :: _, 0 => Nat.le_succ _
  | _ :: r, i + 1 => Nat.succ_le_succ (len_erase r i)
section
variable {X : Cx} {pins : List (Addr × Obj)} {σ : St} {H : Hp} {s : Shared} {l b : Addr} {xs ys zs : List V}
theorem Inv.lset {its its' : List Value} {n : Nat} {f : Array Value → Array Value} {t' : Nat} (I : Inv X pins σ H s) (hH : H l = some (.lst xs))
    (e : s.heap.get? l = some { cls := .type "list", data := .seq its.toArray n }) (hf : f its.toArray = its'.toArray) (hv : Vals ys its') (hz : ys.length ≤ sizeLine) :
    Inv X pins σ (upd H l (.lst ys)) { s with heap := s.heap.update l (Obj.mapSeq f), toks := t' } := by
  have q := PySem.IsL.update e f
  rw [hf] at q
  refine I.write (x := l) (e := l) (by rw [hH]; exact trivial) (.inl rfl) (fun b' u hb hu => (Heap.get?_update_other s.heap (Obj.mapSeq f) (Ne.symm hb)).trans hu) ⟨_, q⟩ ?_
  exact ⟨hz, its', _, hv, q⟩
theorem Inv.lnew {its : List Value} {t' : Nat} (I : Inv X pins σ H s) (hv : Vals ys its) (hz : ys.length ≤ sizeLine) :
    Inv X pins σ (upd H s.heap.objs.size (.lst ys)) { s with heap := s.heap.push { cls := .type "list", data := .seq its.toArray }, toks := t' } :=
  I.laid (fun _ _ q => Heap.get?_push_of_some _ q) (Nat.le_refl _) ⟨hz, its, 0, hv, Heap.get?_push_size _ rfl⟩
theorem Inv.fresh (I : Inv X pins σ H s) : H s.heap.objs.size = none := I.hok.fresh (Nat.le_refl _)
theorem Inv.lstM (I : Inv X pins σ H s) (hH : H l = some (.lst xs)) : xs.length ≤ sizeLine ∧ ∃ (its : List Value) (n : Nat), Vals xs its ∧ xs.length = its.length ∧ s.heap.get? l = some { cls := .type "list", data := .seq its.toArray n } := by
  obtain ⟨z, its, n, r, e⟩ := I.hok l _ hH
  exact ⟨z, its, n, r, r.length, e⟩
theorem notLongL {n : Nat} (h : n ≤ sizeLine) : Builtin.List.listTooLong n = false := by
  unfold Builtin.List.listTooLong
  exact decide_eq_false (by omega)
end
section
variable {X : Cx}
def rAppend : V → List V → Hp → VK → Prop := fun x vs H Q => ∃ l xs y, x = .ref l ∧ vs = [y] ∧ H l = some (.lst xs) ∧ xs.length < sizeLine ∧ Q .non (upd H l (.lst (xs ++ [y])))
theorem mt_append : MtM X "list.append" rAppend := by
  intro pins s σ H x vs v us Q I rx rv h
  obtain ⟨l, xs, y, rfl, rfl, hH, hz, q⟩ := h
  cases rx
  obtain ⟨u, rfl, ru⟩ := rv.one
  obtain ⟨z, its, n, r, hl, e⟩ := I.lstM hH
  refine call_meets F.slot_list_append ⟨_, e, rfl⟩ F.entry_list_append (F.args_list_append_2 _ _) (PySem.list_append l its.toArray n u (by rw [List.size_toArray]; omega)) ⟨e, ?_⟩
  refine ⟨.non, _, I.lset (its' := its ++ [u]) hH e (by simp) (r.append (.cons ru .nil)) ?_, rfl, q⟩
  rw [List.length_append, List.length_singleton]
  omega
def rExtend : V → List V → Hp → VK → Prop := fun x vs H Q => ∃ l b xs zs, x = .ref l ∧ vs = [.ref b] ∧ H l = some (.lst xs) ∧ H b = some (.lst zs) ∧ xs.length + zs.length ≤ sizeLine ∧ Q .non (upd H l (.lst (xs ++ zs)))
theorem mt_extend : MtM X "list.extend" rExtend := by
  intro pins s σ H x vs v us Q I rx rv h
  obtain ⟨l, b, xs, zs, rfl, rfl, hH, hB, hz, q⟩ := h
  cases rx
  obtain ⟨u, rfl, ru⟩ := rv.one
  cases ru
  obtain ⟨z, its, n, r, hl, e⟩ := I.lstM hH
  obtain ⟨z2, its2, n2, r2, hl2, e2⟩ := I.lstM hB
  have hsz : its.toArray.size + its2.toArray.size ≤ sizeLine := by rw [List.size_toArray, List.size_toArray]; omega
  have hlong : ¬ (!its.toArray.isEmpty && Builtin.List.listTooLong (its.toArray.size + its2.toArray.size)) = true := by
    rw [notLongL hsz, Bool.and_false]
    exact Bool.false_ne_true
  refine call_meets F.slot_list_extend ⟨_, e, rfl⟩ F.entry_list_extend (F.args_list_extend_2 _ _)
    (AutoSeq1.list_extend_list_list_0 l its.toArray n b its2.toArray n2 hlong (by rw [List.size_toArray]; omega) (by omega)) ⟨e, e2, ?_⟩
  refine ⟨.non, _, I.lset (its' := its ++ its2) hH e (by simp) (r.append r2) ?_, rfl, q⟩
  rw [List.length_append]
  omega
def rPop : V → List V → Hp → VK → Prop := fun x vs H Q => ∃ l xs y, x = .ref l ∧ vs = [] ∧ H l = some (.lst xs) ∧ xs[xs.length - 1]? = some y ∧ Q y (upd H l (.lst xs.dropLast))
theorem mt_pop : MtM X "list.pop" rPop := by
  intro pins s σ H x vs v us Q I rx rv h
  obtain ⟨l, xs, y, rfl, rfl, hH, hy, q⟩ := h
  cases rx
  have hus := rv.zero
  subst hus
  obtain ⟨z, its, n, r, hl, e⟩ := I.lstM hH
  obtain ⟨u, hu, ru⟩ := r.get hy
  have hy' : its.toArray[its.toArray.size - 1]? = some u := by
    show its.toArray[its.length - 1]? = some u
    rw [← Array.getElem?_toList, ← hl]
    exact hu
  refine call_meets F.slot_list_pop ⟨_, e, rfl⟩ F.entry_list_pop (F.args_list_pop_1 _) (MeetsSeq.list_pop_last l its.toArray n u hy' (by rw [List.size_toArray]; omega)) ⟨e, ?_⟩
  refine ⟨y, _, I.lset (its' := its.dropLast) hH e ?_ r.dropLast ?_, ru, q⟩
  · show its.toArray.eraseIdxIfInBounds (its.toArray.size - 1) = its.dropLast.toArray
    rw [List.size_toArray, List.eraseIdxIfInBounds_toArray, erase_last]
  · rw [List.length_dropLast]
    omega
def rPopAt : V → List V → Hp → VK → Prop := fun x vs H Q => ∃ l xs i k y, x = .ref l ∧ vs = [.int i] ∧ H l = some (.lst xs) ∧ -(2 ^ 63) ≤ i ∧ i < 2 ^ 63 ∧ seqIndex? i xs.length = some k ∧ xs[k]? = some y ∧ Q y (upd H l (.lst (xs.eraseIdx k)))
theorem mt_popAt : MtM X "list.pop" rPopAt := by
  intro pins s σ H x vs v us Q I rx rv h
  obtain ⟨l, xs, i, k, y, rfl, rfl, hH, h1, h2, hk, hy, q⟩ := h
  cases rx
  obtain ⟨u, rfl, ru⟩ := rv.one
  obtain ⟨t, rfl⟩ := ru
  obtain ⟨z, its, n, r, hl, e⟩ := I.lstM hH
  obtain ⟨w, hw, rw'⟩ := r.get hy
  refine call_meets F.slot_list_pop ⟨_, e, rfl⟩ F.entry_list_pop (F.args_list_pop_2 _ _)
    (MeetsSeq.list_pop_at l its.toArray n i t k w (fitsIndex_both h1 h2) (by rw [List.size_toArray, ← hl]; exact hk) (by rw [← Array.getElem?_toList]; exact hw) (by rw [List.size_toArray]; omega)) ⟨e, ?_⟩
  refine ⟨y, _, I.lset (its' := its.eraseIdx k) hH e ?_ (r.eraseIdx k) ?_, rw', q⟩
  · show its.toArray.eraseIdxIfInBounds k = (its.eraseIdx k).toArray
    rw [List.eraseIdxIfInBounds_toArray]
  · have := len_erase xs k
    omega
def rCat : R2 := fun x y H Q => ∃ l b xs zs, x = .ref l ∧ y = .ref b ∧ H l = some (.lst xs) ∧ H b = some (.lst zs) ∧ xs.length + zs.length ≤ sizeLine ∧ ∀ p, H p = none → Q (.ref p) (upd H p (.lst (xs ++ zs)))
theorem op_cat : OpR X (binaryOp .Add) rCat := by
  intro pins s σ H x y v u Q I rx ry h
  obtain ⟨l, b, xs, zs, rfl, rfl, hH, hB, hz, q⟩ := h
  cases rx
  cases ry
  obtain ⟨z, its, n, r, hl, e⟩ := I.lstM hH
  obtain ⟨z2, its2, n2, r2, hl2, e2⟩ := I.lstM hB
  refine PySem.P.add_list e e2 ?_ (by rw [List.size_toArray, List.size_toArray]; omega)
  have ea : its.toArray ++ its2.toArray = (its ++ its2).toArray := by simp
  rw [ea]
  exact ⟨.ref _, _, I.lnew (t' := s.toks) (r.append r2) (by rw [List.length_append]; omega), rfl, q _ I.fresh⟩
theorem len_rep {α : Type} (xs : List α) (k : Nat) : (List.replicate k xs).flatten.length = k * xs.length := by
  induction k with
  | zero => simp
  | succ k ih => rw [List.replicate_succ, List.flatten_cons, List.length_append, ih, Nat.succ_mul, Nat.add_comm]
end
section
variable {prog : Program} {w : World} {A : Around} {E : Value → Shared → Prop} {s : Shared}
set_option maxRecDepth 100000 in
end
section
variable {X : Cx}
end
end L2
namespace Att
open PySem PySem.W PySem.Calls PyProof.Rows
theorem ints_of_wellAll {P : Params} {h : Heap} : ∀ (ns : List Int) (vs : List Value), WellAll P h vs (ns.map WData.int) → IntsAre vs ns := by
  intro ns
  induction ns with
  | nil =>
    intro vs w
    rw [List.map_nil] at w
    cases w
    exact .nil
  | cons n ns ih =>
    intro vs w
    rw [List.map_cons] at w
    cases w with
    | cons a b =>
      cases a
      exact .cons _ _ (ih _ b)
theorem script_of {l : OpenLaw} {n : Nat} (hn : l.most = some n) {P : Params} {h : Heap} {args : List WData} {vals : List Value}
    (hpre : l.row.toRowW.claim.pre args = true) (hwl : WellAll P h vals args) :
    ∃ a vs ns, vals = [Value.ref a] ∧ args = [WData.list (ns.map WData.int)] ∧ h.get? a = some { cls := .type "list", data := .seq vs.toArray } ∧ IntsAre vs ns ∧ ns.length ≤ n := by
  have hsh : WShape.hasAll [] args [.list .int] = true := (pre_splitW hpre).1
  have hc : l.pre.holds [] { args := args } = true := (pre_splitW hpre).2
  obtain ⟨d, r, rfl, h1, h2⟩ := hasAllW_cons hsh
  obtain rfl := hasAllW_nil h2
  obtain ⟨xs, rfl, h3⟩ := hasW_list h1
  obtain ⟨ns, rfl⟩ := items_int h3
  have hlen : ns.length ≤ n := by
    unfold OpenLaw.pre at hc
    have h4 : (WTm.not (.lt (.lit (.int (n : Int))) (.len (.arg 0)))).holds [] { args := [.list (ns.map .int)] } = true := by
      have h4 := (holds_andW hc).1
      rw [hn] at h4
      exact h4
    have h5 := condW_of h4 (w_not (w_lt w_lit (w_len_list (w_arg rfl))))
    rw [List.length_map] at h5
    refine Nat.le_of_not_lt fun q => ?_
    have q' : (n : Int) < ((ns.length : Nat) : Int) := by omega
    first
      | (rw [decide_eq_true q'] at h5; exact absurd h5 (by decide))
      | (simp at h5; omega)
  cases hwl with
  | cons w1 w2 =>
    cases w2
    cases w1 with
    | list ho hall => exact ⟨_, _, ns, rfl, rfl, ho, ints_of_wellAll ns _ hall, hlen⟩
theorem post_true (l : OpenLaw) (args : List WData) : l.row.toRowW.claim.post args (.bool true) args = true :=
  postW_of (r := l.row.toRowW) (X := (true == true))
    (show WShape.has [] (.bool true) .bool = true by first | rfl | decide | simp [WShape.has, WShape.arms, WShape.armsAll])
    (show (WTm.eq .res (.lit (.bool true))).value [] { args := args, res := some (.bool true), after := args } = some (.bool (true == true)) from w_eq_bool (w_res rfl) w_lit) rfl
theorem attach_call {l : OpenLaw} {n : Nat} {q : Program} {loose : List Str} {XP : (Str → Option Value) → Heap → Prop} {YP : World → Heap → Prop} {d : DefRec}
    (hn : l.most = some n) (hdf : d.params.defaults = [])
    (call : ∀ (w : World) (s₀ s₁ : Shared) (mg mb : Str → Option Value) (fa : Addr) (o : Obj) (pm cd doc : Value) (a : Addr) (vs : List Value) (ns : List Int),
      Ground q loose [] XP w s₀ mg mb s₁.heap → YP w s₁.heap →
      s₁.heap.get? fa = some o → o.data = .func (docDef d.name d.params d.body d.scope pm cd doc) → s₁.heap.CodeRec cd d.name → mg d.name = some (.ref fa) →
      s₁.heap.get? a = some { cls := .type "list", data := .seq vs.toArray } → IntsAre vs ns → ns.length ≤ n → s₁.gens = #[] →
      codeAny (model l.prog w) callerA (.call (.ref fa) ⟨[.ref a], []⟩) (fun r s' => r = .ok (.ret (.bool true)) ∧ OldK s₁.heap s'.heap ∧ s'.os = s₁.os ∧ AllBare s'.gens) s₁) :
    WalkO q loose XP YP l.row.toRowW d [] (fun f vs => PySem.call f vs) := by
  intro w s₀ s₁ mg mb G Y fa o pm cd doc dV kV ho hd hcd hD hmg hg args vals as hpre hlay hrd hwl hlo
  obtain rfl : dV = .none := Dflts.none hD hdf
  obtain rfl : kV = .none := Dflts.noKw hD
  obtain ⟨a, vs, ns, rfl, rfl, hobj, hints, hlen⟩ := script_of hn hpre hwl
  refine enter_call (codeAny_mono (call w s₀ s₁ mg mb fa o pm cd doc a vs ns G Y ho (fd_plain hd) hcd hmg hobj hints hlen hg) fun r s' hq => ?_)
  obtain ⟨rfl, h2, h3, h4⟩ := hq
  exact ⟨.inl ⟨.bool true, .bool true, [], rfl, fun _ => rfl, .bool true, post_true l _, fun _ => ⟨List.Pairwise.nil, fun _ hm => (nomatch hm)⟩⟩, h2, h3, h4⟩
section
variable {prog : Program} {w : World} {A : Around} {E : Value → Shared → Prop} {s : Shared} {K : Frag}
def ledger (h : Heap) (L d : Addr) : List (Addr × Obj) := (List.range h.objs.size).filterMap fun a => if a = L ∨ a = d then none else (h.get? a).map fun o => (a, o)
end
end Att
namespace L2
open PySem PySem.Spec PyProof.Rows
theorem vals_ints : ∀ {vs : List Value} {ns : List Int}, IntsAre vs ns → Vals (ns.map V.int) vs
  | _, _, .nil => .nil
  | _, _, .cons n t h => .cons ⟨t, rfl⟩ (vals_ints h)
def Only (H : Hp) : Prop := ∀ b, H b = none ∨ ∃ o xs, H b = some (.frz o (.lst xs))
theorem law_call {P : Program} {w : World} {K : PySem.W.Frag} {mg mb : Str → Option Value} {CX : CXT} {k : Nat} {fa a : Addr} {fd : FuncData} {x : Str} {sp : Sp} {s₁ : Shared} {vs : List Value} {ns : List Int}
    (KX : K.In s₁.heap) (hns : s₁.heap.Ns mainGlobals mg) (hb : s₁.heap.Ns builtinsNs mb) (hbb : ∀ x : Str, x ≠ "__name__" → mb x = bootBuiltins x) (hlim : s₁.heap.NoLimit) (hg : s₁.gens = #[])
    (ha : s₁.heap.get? a = some { cls := .type "list", data := .seq vs.toArray }) (hi : IntsAre vs ns) (hl : ns.length ≤ sizeLine) (hr : Room k callerA)
    (F : ∀ base : Heap, K.In base → base.Ns mainGlobals mg → FnOk P w K mg base CX k fa fd [x] sp) (hbind : ∀ (s : Shared) (u : Value), BindsTo s fd ⟨[u], []⟩ [(x, u)])
    (hsp : ∀ H : Hp, Only H → SqL K H a (ns.map V.int) → sp [.ref a] H (fun v _ => v = .bl true) fun _ _ _ => False)
    (hCX : ∀ H e s', CX [] H s₁ (fun _ _ _ => False) e s' → False) :
    codeAny (model P w) callerA (.call (.ref fa) ⟨[.ref a], []⟩) (fun r s' => r = .ok (.ret (.bool true)) ∧ OldK s₁.heap s'.heap ∧ s'.os = s₁.os ∧ AllBare s'.gens) s₁ := by
  have rv := vals_ints hi
  have lenV := hi.length
  -- from an abstract heap in which nothing but the script may be tracked
  have core : ∀ H : Hp, Only H → SqL K H a (ns.map V.int) → HOk P w H s₁.heap → (∀ b, H b ≠ none → b = a) → (H a ≠ none → K.lookup a = none) →
      codeAny (model P w) callerA (.call (.ref fa) ⟨[.ref a], []⟩) (fun r s' => r = .ok (.ret (.bool true)) ∧ OldK s₁.heap s'.heap ∧ s'.os = s₁.os ∧ AllBare s'.gens) s₁ := by
    intro H hO hS hok hA hK
    have base_of : ∀ {b : Addr} {o : Obj}, s₁.heap.get? b = some o → H b = none → (hidT s₁.heap H).get? b = some o := fun e n => hidT_get e n
    have noA : ∀ {b : Addr} {o : Obj} {es : Array DictEntry} {ep : Nat}, s₁.heap.get? b = some o → o.data = .dict es ep → H b = none := fun {b o es ep} e d => by
      cases q : H b with
      | none => rfl
      | some u =>
        have e' : b = a := hA b (by rw [q]; simp)
        subst e'
        rw [ha] at e; cases e
        have d' : Data.seq vs.toArray _ = Data.dict es ep := d
        cases d'
    have nsK : ∀ {b : Addr} {m : Str → Option Value}, s₁.heap.Ns b m → (hidT s₁.heap H).Ns b m := fun {b m} ⟨o, es, ep, e, d, r⟩ => ⟨o, es, ep, base_of e (noA e d), d, r⟩
    have hKb : K.In (hidT s₁.heap H) := fun b o e => base_of (KX b o e) (by
      cases q : H b with
      | none => rfl
      | some u =>
        have e' : b = a := hA b (by rw [q]; simp)
        subst e'
        rw [hK (by rw [q]; simp)] at e; cases e)
    have hM : Mod K mg (hidT s₁.heap H) := ⟨hKb, nsK hns, ⟨mb, nsK hb, hbb⟩, let ⟨mc, h1, h2⟩ := hlim; ⟨mc, nsK h1, h2⟩⟩
    have e0 : Env0 P w K mg (hidT s₁.heap H) callerA [] s₁ H := ⟨rfl, hM, fun b o e => of_hidT e, Nat.le_of_eq (hidT_size _ _), trivial, fun b hb => absurd (show b ∈ ([] : List Addr) from hb) (by simp), hok, .of_eq hg⟩
    refine codeAny_mono ((F _ hKb (nsK hns)).run callerA [] s₁ H ⟨[.ref a], []⟩ [.ref a] [.ref a] _ _ hr e0 (hbind s₁ (.ref a)) (.cons rfl .nil) (hsp H hO hS)) fun r s' h => ?_
    cases r with
    | error e => exact (hCX H e s' h).elim
    | ok fl =>
      cases fl with
      | next => exact False.elim h
      | brk => exact False.elim h
      | cont => exact False.elim h
      | ret u =>
        obtain ⟨v, H', os, bare, un, hok', r', q⟩ := h
        have q' : v = .bl true := q
        subst q'
        obtain rfl : u = Value.bool true := r'
        refine ⟨rfl, OldK.of_keep fun b o e => ?_, os, bare⟩
        cases q : H b with
        | none => exact un.keep b o e q (by intro z; exact absurd (show b ∈ ([] : List Addr) from z) (by simp)) (by simp)
        | some u =>
          rcases hO b with z | ⟨ob, xs, z⟩
          · rw [q] at z; cases z
          · have z2 := un.frzs b ob _ z
            obtain ⟨e1, _⟩ := hok b _ z
            obtain ⟨e2, _⟩ := hok' b _ z2
            rw [e] at e1; cases e1
            exact e2
  cases hk : K.lookup a with
  | some o =>
    -- the script is one of the module's own objects
    have e := KX a o hk
    rw [ha] at e
    cases e
    refine core (fun _ => none) (fun _ => .inl rfl) (.inr ⟨_, vs.toArray, _, hk, rfl, rfl, rfl, by rw [List.size_toArray, lenV]; exact hl, by simpa using rv⟩) (fun b u z => by have z' : (none : Option HO) = some u := z; cases z') (fun b z => absurd rfl z) fun z => absurd rfl z
  | none =>
    refine core (fun b => if b = a then some (.frz { cls := .type "list", data := .seq vs.toArray } (.lst (ns.map V.int))) else none) (fun b => ?_) (.inl (.inr ⟨{ cls := .type "list", data := .seq vs.toArray }, if_pos rfl⟩)) (fun b u z => ?_) (fun b z => ?_) fun _ => hk
    · by_cases hb : b = a
      · exact .inr ⟨_, _, if_pos hb⟩
      · exact .inl (if_neg hb)
    · by_cases hb : b = a
      · have z' := (if_pos hb).symm.trans z
        cases z'
        subst hb
        exact ⟨ha, by rw [List.length_map]; exact hl, vs, _, rv, ha⟩
      · have z' := (if_neg hb).symm.trans z
        cases z'
    · by_cases hb : b = a
      · exact hb
      · exact absurd (if_neg hb) z
end L2
namespace L2
open PySem PySem.Spec PyProof.Rows
abbrev KOf {K : PySem.W.Frag} {h : Heap} (_ : K.In h) : PySem.W.Frag := K
theorem walk_of {l : PySem.W.OpenLaw} {n k : Nat} {q : Program} {loose : List Str} {XP : (Str → Option Value) → Heap → Prop} {YP : World → Heap → Prop} {d : DefRec} {K : Params → PySem.W.Frag} {CX : World → CXT} {sp : World → Sp} {x : Str}
    (hn : l.most = some n) (hn2 : n ≤ sizeLine) (hdf : d.params.defaults = []) (hr : Room k callerA)
    (hY : ∀ (w : World) (h : Heap), YP w h → (K w.params).In h)
    (F : ∀ (w : World) (mg : Str → Option Value) (fa : Addr) (h : Heap), (K w.params).In h → h.Ns mainGlobals mg → mg d.name = some (.ref fa) →
      ∃ fd : FuncData, (∀ (s : Shared) (u : Value), BindsTo s fd ⟨[u], []⟩ [(x, u)]) ∧
        ∀ base : Heap, (K w.params).In base → base.Ns mainGlobals mg → FnOk l.prog w (K w.params) mg base (CX w) k fa fd [x] (sp w))
    (hsp : ∀ (w : World) (H : Hp) (a : Addr) (ns : List Int), ns.length ≤ n → Only H → SqL (K w.params) H a (ns.map V.int) → sp w [.ref a] H (fun v _ => v = .bl true) fun _ _ _ => False)
    (hCX : ∀ (w : World) (H : Hp) (s : Shared) (e : Value) (s' : Shared), CX w [] H s (fun _ _ _ => False) e s' → False) :
    PySem.W.WalkO q loose XP YP l.row.toRowW d [] (fun f vs => PySem.call f vs) := by
  refine Att.attach_call hn hdf fun w s₀ s₁ mg mb fa o pm cd doc a vs ns G Y ho hd hcd hmg hobj hints hlen hg => ?_
  have KX := hY w _ Y
  obtain ⟨fd, hb, hF⟩ := F w mg fa _ KX G.T.g hmg
  exact law_call KX G.T.g G.T.b G.T.builtins G.T.nolimit hg hobj hints (Nat.le_trans hlen hn2) hr hF hb (fun H hO hS => hsp w H a ns hlen hO hS) fun H e s' => hCX w H s₁ e s'
end L2
/- THE LAST THEOREM (shape; LID, My.* are yours):
   My.Adr: a structure of the addresses that your layer names (classes, functions); My.Txt K t: a structure (Prop) of the equations over K;
   My.txt_mk : {K} {implicit addresses ..} (e1 : nsIn K mainGlobals "law" = some (some (.ref f))) (e2 : K.lookup f = some ⟨oc, od, .func (fnOf "law" "law" params body scope dV kV doc pm an cdv ct), sl⟩) (e3 : codeIn K cdv "law" = true) .. : ∃ t, My.Txt K t

set_option maxRecDepth 100000 in
set_option maxHeartbeats 0 in
theorem PySem.Challenge.cw_LID_holds : PySem.Challenge.rw_LID.Holds := by
  w_on; o_law; k_head; (case hw => w_witness2)
  k_fill
  refine L2.walk_of (l := PySem.Challenge.rw_LID) (n := 63) (k := 40) (x := "script") (CX := fun w => ..) (sp := fun _ => My.sp_law) rfl (by decide) rfl ⟨rfl, by decide, by decide⟩ (fun w h Y => PySem.W.kIn_of Y) ?F ?S ?C
  case F =>
    intro w mg fa h KX G hmg
    have T : ∃ t, My.Txt (L2.KOf KX) t := by
      dsimp only [L2.KOf]                          -- K must stand as «<heap const> w.params» for k_is
      refine' My.txt_mk ?e1 ?e2 ?e3 ..
      (case e1 => PySem.W.k_is)                    -- in the order: a name -> its address -> its object -> its parts
      (case e2 => PySem.W.k_is)
      ..
    obtain ⟨t, T⟩ := T
    have e0 := hmg.symm.trans (PySem.W.mg_of KX G T.law)
    cases e0                                       -- fa is the law's own address
    exact ⟨_, fun s u => .of_eq rfl, fun base kb nb => My.law_fn T kb nb⟩     -- if «.of_eq rfl» comes too early: refine' ⟨_, ?b, fun base kb nb => My.law_fn T kb nb⟩; exact fun s u => .of_eq rfl
  case S => exact fun w H a ns hl hO hS => ..
  case C => exact ..
(the tactic k_is has no namespace: write k_is) -/
namespace L2
open PySem PySem.Spec PyProof.Rows
def defArgs (s : Stmt) : Arguments := match s with
  | .FunctionDef _ a _ _ _ _ _ _ _ _ => a
  | _ => { posonlyargs := [], args := [], vararg := none, kwonlyargs := [], kw_defaults := [], kwarg := none, defaults := [] }
def defBody (s : Stmt) : List Stmt := match s with
  | .FunctionDef _ _ b _ _ _ _ _ _ _ => b
  | _ => []
def defScope (s : Stmt) : Scope := match s with
  | .FunctionDef _ _ _ _ _ _ sc _ _ _ => sc
  | _ => { kind := .function, names := [], isGenerator := false, isCoroutine := false }
abbrev CX0 : CXT := fun _ _ _ _ _ _ => False
abbrev E0 : XK := fun _ _ _ => False
theorem pass0 {X : Cx} : Passes CX0 X E0 := fun _ _ _ _ _ _ _ h => h.elim
structure Fun (K : PySem.W.Frag) (x qual : Str) (st : Stmt) (f : Addr) (fd : FuncData) : Prop where
  ex : ∃ (oc : Value) (od : Option Addr) (kV doc pm : Value) (an : Option Addr) (cdv ct : Value) (osl : Array (Option Value)),
    fd = PySem.W.fnOf x qual (defArgs st) (defBody st) (defScope st) .none kV doc pm an cdv ct ∧ K.lookup f = some ⟨oc, od, .func fd, osl⟩ ∧ PySem.W.codeIn K cdv qual = true
  kp : PySem.W.keepIn K (.ref f) = true
section
variable {P : Program} {w : World} {K : PySem.W.Frag} {mg : Str → Option Value} {base : Heap}
theorem Fun.ok {x qual : Str} {st : Stmt} {f : Addr} {fd : FuncData} {N ps : List Str} {k : Nat} {sp : Sp} (F : Fun K x qual st f fd) (S : FnScope N ps (defScope st)) (len : ∀ vs H Q E, sp vs H Q E → vs.length = ps.length)
    (hbody : ∀ (cdv : Value) (A : Around) (outer : List Env) (s : Shared) (H : Hp) (vs : List V) (Q : VK) (E : XK), Room k (A.deeper (envOfC qual (defScope st) s.heap.objs.size f cdv)) → sp vs H Q E →
      ∃ t, PSs (cxOf CX0 P w K mg base N qual (defScope st) f cdv A outer s H E).nox (defBody st) t ∧ t { nx := fun _ H' => Q .non H', rt := Q } (start N vs) H) : FnOk P w K mg base CX0 (k + 1) f fd ps sp := by
  obtain ⟨oc, od, kV, doc, pm, an, cdv, ct, osl, rfl, lk, hcd⟩ := F.ex
  refine fn_of lk hcd S len fun A outer s H vs Q E hr hsp => ?_
  obtain ⟨t, h, q⟩ := hbody cdv A outer s H vs Q E hr hsp
  exact ⟨t, h.nox, q⟩
theorem Fun.binds {x qual : Str} {st : Stmt} {f : Addr} {fd : FuncData} {ps : List Str} (F : Fun K x qual st f fd)
    (h : ∀ (kV doc pm : Value) (an : Option Addr) (cdv ct : Value) (us : List Value), us.length = ps.length → bindArgs (PySem.W.fnOf x qual (defArgs st) (defBody st) (defScope st) .none kV doc pm an cdv ct) ⟨us, []⟩ = pure (ps.zip us)) : Binds K fd ps [] := by
  obtain ⟨oc, od, kV, doc, pm, an, cdv, ct, osl, rfl, lk, hcd⟩ := F.ex
  exact .all (h kV doc pm an cdv ct)
theorem fun_mk {x qual : Str} {st : Stmt} {f : Addr} {oc : Value} {od an : Option Addr} {osl : Array (Option Value)} {kV doc pm cdv ct : Value} (l : K.lookup f = some ⟨oc, od, .func (PySem.W.fnOf x qual (defArgs st) (defBody st) (defScope st) .none kV doc pm an cdv ct), osl⟩)
    (c : PySem.W.codeIn K cdv qual = true) (k : PySem.W.keepIn K (.ref f) = true) : Fun K x qual st f (PySem.W.fnOf x qual (defArgs st) (defBody st) (defScope st) .none kV doc pm an cdv ct) := ⟨⟨oc, od, kV, doc, pm, an, cdv, ct, osl, rfl, l, c⟩, k⟩
end
theorem hu_of {A : Around} {k : Nat} (hr : Room k A) : A.units + 1 < cLine := Nat.lt_of_le_of_lt (Nat.add_le_add_left (by decide : 1 ≤ 64) _) hr.units
theorem small1000 {n : Nat} (h : n ≤ 1000) : n < sizeLine := Nat.lt_of_le_of_lt h (by decide)
section
variable {X : Cx}
theorem pv (i : Nat) {x : Str} {pos : Pos} (hN : X.N[i]? = some x := by rfl) (hv : Vis X.env.scope x := by first | exact Or.inl rfl | exact Or.inr (Or.inl rfl) | exact Or.inr (Or.inr rfl)) (hd : (x == ("__debug__" : Str)) = false := by decide)
    (hcd : (x == ("__classdict__" : Str)) = false := by decide) : PE X (.Name x pos) (tVar i) := pe_var hN hv hd hcd
end
theorem iteF {A B : Prop} (h : B) : if false = true then A else B := by
  rw [if_neg Bool.false_ne_true]
  exact h
theorem iteT {A B : Prop} (h : A) : if true = true then A else B := by
  rw [if_pos rfl]
  exact h
theorem ite2 {c A B : Prop} [Decidable c] (h1 : c → A) (h2 : ¬ c → B) : if c then A else B := by
  by_cases h : c
  · rw [if_pos h]
    exact h1 h
  · rw [if_neg h]
    exact h2 h
def Same (H H' : Hp) : Prop := ∀ b o, H b = some o → H' b = some o
theorem Same.refl (H : Hp) : Same H H := fun _ _ h => h
theorem Same.trans {H H1 H2 : Hp} (a : Same H H1) (b : Same H1 H2) : Same H H2 := fun c o h => b c o (a c o h)
theorem Same.free {H H' : Hp} (e : Same H H') {l : Addr} (h : H' l = Option.none) : H l = Option.none := by
  cases q : H l with
  | none => rfl
  | some o =>
    rw [e l o q] at h
    cases h
theorem Same.seq {K : PySem.W.Frag} {H H' : Hp} {a : Addr} {xs : List V} (e : Same H H') (h : SqL K H a xs) : SqL K H' a xs := by
  rcases h with (h | ⟨o, h⟩) | h
  · exact .inl (.inl (e _ _ h))
  · exact .inl (.inr ⟨o, e _ _ h⟩)
  · exact .inr h
end L2
namespace L2
open PySem PySem.Spec PyProof.Rows
section
variable {κ : Type} [DecidableEq κ]
def valV (kvs : List (κ × V)) (k : κ) : Option V := (kvs.find? fun kv => decide (kv.1 = k)).map (·.2)
def putK (kvs : List (κ × V)) (k : κ) (v : V) : List (κ × V) :=
  if (kvs.any fun kv => decide (kv.1 = k)) = true then kvs.map (fun kv => if kv.1 = k then (kv.1, v) else kv) else kvs ++ [(k, v)]
def dropK (kvs : List (κ × V)) (k : κ) : List (κ × V) := kvs.filter fun kv => decide (kv.1 ≠ k)
theorem valV_pos {p : κ × V} {r : List (κ × V)} {k : κ} (e : p.1 = k) : valV (p :: r) k = some p.2 := by simp [valV, List.find?_cons, e]
theorem valV_neg {p : κ × V} {r : List (κ × V)} {k : κ} (e : ¬ p.1 = k) : valV (p :: r) k = valV r k := by simp [valV, List.find?_cons, e]
theorem valV_any (k : κ) : ∀ kvs : List (κ × V), (kvs.any fun kv => decide (kv.1 = k)) = (valV kvs k).isSome
  | [] => rfl
  | p :: r => by
    rw [List.any_cons]
    by_cases e : p.1 = k
    · simp only [valV_pos e, decide_eq_true e, Bool.true_or, Option.isSome_some]
    · rw [valV_neg e, decide_eq_false e, Bool.false_or]; exact valV_any k r
theorem valV_map (k j : κ) (y : V) : ∀ kvs : List (κ × V), valV (kvs.map fun kv => if kv.1 = k then (kv.1, y) else kv) j = (valV kvs j).map fun x => if j = k then y else x
  | [] => rfl
  | p :: r => by
    have ih := valV_map k j y r
    rw [List.map_cons]
    by_cases h : p.1 = k
    · rw [if_pos h]
      by_cases e : p.1 = j
      · rw [valV_pos (p := (p.1, y)) e, valV_pos e, Option.map_some, if_pos (e.symm.trans h)]
      · rw [valV_neg (p := (p.1, y)) e, valV_neg e, ih]
    · rw [if_neg h]
      by_cases e : p.1 = j
      · rw [valV_pos (p := p) e, valV_pos e, Option.map_some, if_neg (fun z => h (e.trans z))]
      · rw [valV_neg (p := p) e, valV_neg e, ih]
theorem valV_snoc (k j : κ) (y : V) : ∀ kvs : List (κ × V), valV kvs k = none → valV (kvs ++ [(k, y)]) j = if j = k then some y else valV kvs j
  | [], _ => by
    by_cases e : k = j
    · rw [if_pos e.symm]; exact valV_pos (p := (k, y)) e
    · rw [if_neg (fun z => e z.symm)]; exact valV_neg (p := (k, y)) e
  | p :: r, hn => by
    rw [List.cons_append]
    have hk : ¬ p.1 = k := fun z => by rw [valV_pos z] at hn; cases hn
    rw [valV_neg hk] at hn
    have ih := valV_snoc k j y r hn
    by_cases e : p.1 = j
    · rw [valV_pos e, valV_pos e, if_neg (fun z => hk (e.trans z))]
    · rw [valV_neg e, valV_neg e, ih]
theorem valV_put (kvs : List (κ × V)) (k j : κ) (y : V) : valV (putK kvs k y) j = if j = k then some y else valV kvs j := by
  unfold putK
  by_cases a : (kvs.any fun kv => decide (kv.1 = k)) = true
  · rw [if_pos a, valV_map]
    rw [valV_any] at a
    by_cases e : j = k
    · obtain ⟨x, hx⟩ := Option.isSome_iff_exists.mp a
      rw [if_pos e, e, hx, Option.map_some, if_pos rfl]
    · rw [if_neg e]
      cases valV kvs j with
      | none => rfl
      | some x => rw [Option.map_some, if_neg e]
  · rw [if_neg a]
    refine valV_snoc k j y kvs ?_
    rw [valV_any] at a
    cases q : valV kvs k with
    | none => rfl
    | some x => rw [q] at a; exact (a rfl).elim
theorem length_putK (kvs : List (κ × V)) (k : κ) (v : V) : (putK kvs k v).length ≤ kvs.length + 1 := by
  unfold putK
  split
  · rw [List.length_map]; omega
  · rw [List.length_append, List.length_cons, List.length_nil]; omega
theorem RelO.isSome_eq {o : Option V} {u : Option Value} (r : RelO o u) : o.isSome = u.isSome := by
  cases o with
  | none => cases u with
    | none => rfl
    | some _ => exact (show False from r).elim
  | some _ => cases u with
    | none => exact (show False from r).elim
    | some _ => rfl
theorem RelO.getD {o : Option V} {u : Option Value} {d : V} {d' : Value} (r : RelO o u) (rd : RelV d d') : RelV (o.getD d) (u.getD d') := by
  cases o with
  | none => cases u with
    | none => exact rd
    | some _ => exact (show False from r).elim
  | some _ => cases u with
    | none => exact (show False from r).elim
    | some _ => exact r
theorem KV.val {kvs : List (κ × V)} {vs : List (κ × Value)} (r : KV kvs vs) (k : κ) : RelO (valV kvs k) (valueAt vs k) := by
  unfold KV at r
  induction r with
  | nil => exact True.intro
  | @cons p q ps qs h t ih =>
    obtain ⟨h1, h2⟩ := h
    by_cases e : p.1 = k
    · have e' : q.1 = k := h1.symm.trans e
      have b : valueAt (q :: qs) k = some q.2 := by simp [valueAt, List.find?_cons, e']
      rw [valV_pos e, b]; exact h2
    · have e' : ¬ q.1 = k := fun z => e (h1.trans z)
      have b : valueAt (q :: qs) k = valueAt qs k := by simp [valueAt, List.find?_cons, e']
      rw [valV_neg e, b]; exact ih
theorem KV.any {kvs : List (κ × V)} {vs : List (κ × Value)} (r : KV kvs vs) (k : κ) : (kvs.any fun kv => decide (kv.1 = k)) = vs.any fun kv => decide (kv.1 = k) := by
  unfold KV at r
  induction r with
  | nil => rfl
  | cons h t ih => rw [List.any_cons, List.any_cons, ih, h.1]
theorem KV.repl {kvs : List (κ × V)} {vs : List (κ × Value)} (r : KV kvs vs) (k : κ) {y : V} {u : Value} (ry : RelV y u) :
    KV (kvs.map fun kv => if kv.1 = k then (kv.1, y) else kv) (vs.map fun kv => if kv.1 = k then (kv.1, u) else kv) := by
  unfold KV at r ⊢
  induction r with
  | nil => exact .nil
  | @cons p q ps qs h t ih =>
    rw [List.map_cons, List.map_cons]
    refine .cons ?_ ih
    obtain ⟨h1, h2⟩ := h
    by_cases e : p.1 = k
    · rw [if_pos e, if_pos (h1.symm.trans e)]; exact ⟨h1, ry⟩
    · rw [if_neg e, if_neg (fun z => e (h1.trans z))]; exact ⟨h1, h2⟩
theorem KV.put {kvs : List (κ × V)} {vs : List (κ × Value)} (r : KV kvs vs) (k : κ) {y : V} {u : Value} (ry : RelV y u) : KV (putK kvs k y) (stored vs k u) := by
  unfold putK stored
  rw [r.any k]
  by_cases e : (vs.any fun kv => decide (kv.1 = k)) = true
  · rw [if_pos e, if_pos e]; exact r.repl k ry
  · rw [if_neg e, if_neg e]; exact Paired.snoc r ⟨rfl, ry⟩
theorem KV.drop {kvs : List (κ × V)} {vs : List (κ × Value)} (r : KV kvs vs) (k : κ) : KV (dropK kvs k) (without vs k) := by
  unfold KV at r ⊢
  unfold dropK without
  induction r with
  | nil => exact .nil
  | @cons p q ps qs h t ih =>
    obtain ⟨h1, h2⟩ := h
    rw [List.filter_cons, List.filter_cons]
    by_cases e : p.1 = k
    · have a : ¬ decide (p.1 ≠ k) = true := by simp [e]
      have b : ¬ decide (q.1 ≠ k) = true := by simp [h1.symm.trans e]
      rw [if_neg a, if_neg b]; exact ih
    · have e' : ¬ q.1 = k := fun z => e (h1.trans z)
      have a : decide (p.1 ≠ k) = true := by simp [e]
      have b : decide (q.1 ≠ k) = true := by simp [e']
      rw [if_pos a, if_pos b]; exact .cons ⟨h1, h2⟩ ih
theorem KV.keys {kvs : List (κ × V)} {vs : List (κ × Value)} (r : KV kvs vs) : kvs.map (·.1) = vs.map (·.1) := by
  unfold KV at r
  induction r with
  | nil => rfl
  | cons h t ih => rw [List.map_cons, List.map_cons, ih, h.1]
theorem KV.length {kvs : List (κ × V)} {vs : List (κ × Value)} (r : KV kvs vs) : kvs.length = vs.length := Paired.length r
end
theorem kV_is {P : Program} {w : World} {k : Key} {u : Value} (r : RelV (kV k) u) : (mixKind P w).is k u = true := by
  cases k with
  | inl i => obtain ⟨t, e⟩ := (show ∃ t, u = Value.int i t from r); subst e; exact mixKind_int P w i t
  | inr x => obtain ⟨t, e⟩ := (show ∃ t, u = Value.str x t from r); subst e; exact mixKind_str P w x t
theorem items_are {P : Program} {w : World} : ∀ {ks : List Key} {us : List Value}, Vals (ks.map kV) us → ItemsAre (mixKind P w) ks us
  | [], _, r => by rw [List.map_nil] at r; cases r; exact .nil
  | k :: ks, _, r => by
    rw [List.map_cons] at r
    cases r with
    | cons h t => exact .cons (kV_is h) (items_are t)
abbrev KT (H : Hp) : List (List Key × V) → List (List Key × Addr × Value) → Prop := Paired fun p q => p.1 = q.1 ∧ H q.2.1 = some (.tup (p.1.map kV)) ∧ RelV p.2 q.2.2
theorem KT.val {H : Hp} {kvs : List (List Key × V)} {xs : List (List Key × Addr × Value)} (r : KT H kvs xs) (k : List Key) : RelO (valV kvs k) ((atKey xs k).map (·.2)) := by
  induction r with
  | nil => exact True.intro
  | @cons p q ps qs h t ih =>
    obtain ⟨h1, _, h2⟩ := h
    by_cases e : p.1 = k
    · have e' : q.1 = k := h1.symm.trans e
      have b : atKey (q :: qs) k = some q.2 := by simp [atKey, List.find?_cons, e']
      rw [valV_pos e, b]; exact h2
    · have e' : ¬ q.1 = k := fun z => e (h1.trans z)
      have b : atKey (q :: qs) k = atKey qs k := by simp [atKey, List.find?_cons, e']
      rw [valV_neg e, b]; exact ih
theorem KT.repl {H : Hp} {kvs : List (List Key × V)} {xs : List (List Key × Addr × Value)} (r : KT H kvs xs) (k : List Key) {y : V} {u : Value} (ry : RelV y u) :
    KT H (kvs.map fun kv => if kv.1 = k then (kv.1, y) else kv) (xs.map (putAt k u)) := by
  induction r with
  | nil => exact .nil
  | @cons p q ps qs h t ih =>
    rw [List.map_cons, List.map_cons]
    refine .cons ?_ ih
    obtain ⟨h1, h2, h3⟩ := h
    unfold putAt
    by_cases e : p.1 = k
    · rw [if_pos e, if_pos (h1.symm.trans e)]; exact ⟨h1, h2, ry⟩
    · rw [if_neg e, if_neg (fun z => e (h1.trans z))]; exact ⟨h1, h2, h3⟩
theorem KT.put {H : Hp} {kvs : List (List Key × V)} {xs : List (List Key × Addr × Value)} (r : KT H kvs xs) (k : List Key) {b : Addr} {y : V} {u : Value} (hb : H b = some (.tup (k.map kV))) (ry : RelV y u) :
    KT H (putK kvs k y) (storedH xs k b u) := by
  have e : (kvs.any fun kv => decide (kv.1 = k)) = (atKey xs k).isSome := by
    rw [valV_any, (r.val k).isSome_eq, Option.isSome_map]
  unfold putK storedH
  rw [e]
  by_cases q : (atKey xs k).isSome = true
  · rw [if_pos q, if_pos q]; exact r.repl k ry
  · rw [if_neg q, if_neg q]; exact Paired.snoc r ⟨rfl, hb, ry⟩
theorem KT.keeps {H H' : Hp} {kvs : List (List Key × V)} {xs : List (List Key × Addr × Value)} (r : KT H kvs xs) (ht : ∀ b ys, H b = some (.tup ys) → H' b = some (.tup ys)) : KT H' kvs xs :=
  Paired.mapP r fun _ _ z => ⟨z.1, ht _ _ z.2.1, z.2.2⟩
section
variable {P : Program} {w : World} {H : Hp} {h : Heap} {a : Addr}
theorem rd_of {u : HO} (ok : HOk P w H h) (e : Rd H a u) : ObjOk P w H h a u := e.ok ok
theorem dk_rd {kvs : List (Key × V)} (ok : HOk P w H h) (e : Rd H a (.dK kvs)) : kvs.length ≤ sizeLine ∧ (a == sysModules) = false ∧ ∃ vs, KV kvs vs ∧ h.DictOf (mixKind P w) a vs :=
  show ObjOk P w H h a (.dK kvs) from rd_of ok e
theorem dk_of {kvs : List (Key × V)} (ok : HOk P w H h) (e : H a = some (.dK kvs)) : kvs.length ≤ sizeLine ∧ (a == sysModules) = false ∧ ∃ vs, KV kvs vs ∧ h.DictOf (mixKind P w) a vs := dk_rd ok (.inl e)
theorem key_of {ks : List Key} (ok : HOk P w H h) (e : H a = some (.tup (ks.map kV))) : (tupleKind (mixKind P w)).is h ks a := by
  obtain ⟨_, its, r, o, h1, h2, n, h3⟩ := (show ObjOk P w H h a (.tup (ks.map kV)) from ok a _ e)
  exact ⟨o, its.toArray, n, h1, h2, h3, by simpa using items_are r⟩
theorem dt_rd {kvs : List (List Key × V)} (ok : HOk P w H h) (e : Rd H a (.dT kvs)) : kvs.length ≤ sizeLine ∧ (a == sysModules) = false ∧
    ∃ xs, KT H kvs xs ∧ h.DictOfH (tupleKind (mixKind P w)) a xs := by
  obtain ⟨z, y, xs, r, o, es, ep, h1, h2, h3, h4, h5⟩ := (show ObjOk P w H h a (.dT kvs) from rd_of ok e)
  refine ⟨z, y, xs, r, o, es, ep, h1, h2, h3, h4, fun x hx => ?_, h5⟩
  have all : ∀ {l : List (List Key × V)} {m : List (List Key × Addr × Value)}, KT H l m → ∀ x ∈ m, (tupleKind (mixKind P w)).is h x.1 x.2.1 := by
    intro l m q
    induction q with
    | nil => intro x hx; exact nomatch hx
    | @cons p q ps qs hq t ih =>
      intro x hx
      rcases List.mem_cons.mp hx with e | hx
      · subst e
        exact key_of ok (by rw [← hq.1]; exact hq.2.1)
      · exact ih x hx
  exact all r x hx
theorem dt_of {kvs : List (List Key × V)} (ok : HOk P w H h) (e : H a = some (.dT kvs)) : kvs.length ≤ sizeLine ∧ (a == sysModules) = false ∧
    ∃ xs, KT H kvs xs ∧ h.DictOfH (tupleKind (mixKind P w)) a xs := dt_rd ok (.inl e)
end
def DGet (H : Hp) (a : Addr) (y : V) (r : Option V) : Prop :=
  (∃ kvs k, Rd H a (.dK kvs) ∧ y = kV k ∧ r = valV kvs k) ∨ ∃ kvs k b, Rd H a (.dT kvs) ∧ y = .ref b ∧ H b = some (.tup (k.map kV)) ∧ r = valV kvs k
def DPut (H : Hp) (a : Addr) (y v : V) (H' : Hp) : Prop :=
  (∃ kvs k, H a = some (.dK kvs) ∧ y = kV k ∧ kvs.length < sizeLine ∧ H' = upd H a (.dK (putK kvs k v))) ∨
  ∃ kvs k b, H a = some (.dT kvs) ∧ y = .ref b ∧ H b = some (.tup (k.map kV)) ∧ kvs.length < sizeLine ∧ H' = upd H a (.dT (putK kvs k v))
theorem DGet.k {H : Hp} {a : Addr} {kvs : List (Key × V)} {k : Key} (e : H a = some (.dK kvs)) : DGet H a (kV k) (valV kvs k) := .inl ⟨kvs, k, .inl e, rfl, rfl⟩
theorem DGet.t {H : Hp} {a b : Addr} {kvs : List (List Key × V)} {k : List Key} (e : H a = some (.dT kvs)) (eb : H b = some (.tup (k.map kV))) : DGet H a (.ref b) (valV kvs k) := .inr ⟨kvs, k, b, .inl e, rfl, eb, rfl⟩
theorem DPut.k {H : Hp} {a : Addr} {kvs : List (Key × V)} {k : Key} {v : V} (e : H a = some (.dK kvs)) (hl : kvs.length < sizeLine) : DPut H a (kV k) v (upd H a (.dK (putK kvs k v))) := .inl ⟨kvs, k, e, rfl, hl, rfl⟩
theorem DPut.t {H : Hp} {a b : Addr} {kvs : List (List Key × V)} {k : List Key} {v : V} (e : H a = some (.dT kvs)) (eb : H b = some (.tup (k.map kV))) (hl : kvs.length < sizeLine) :
    DPut H a (.ref b) v (upd H a (.dT (putK kvs k v))) := .inr ⟨kvs, k, b, e, rfl, eb, hl, rfl⟩
section
variable {X : Cx} {pins : List (Addr × Obj)} {σ : St} {H : Hp} {s : Shared} {a : Addr} {y v : V} {u r : Value} {o : Option V} {A : Around} {E : Value → Shared → Prop}
theorem Inv.big (I : Inv X pins σ H s) : sysModules < s.heap.objs.size := by
  have h : mainGlobals < s.heap.objs.size := (I.mod.glob.keeps I.bk).lt
  exact Nat.lt_trans (by decide) h
theorem d_getItem {Q : Value → Shared → Prop} (hu : A.units + 1 < cLine) (I : Inv X pins σ H s) (g : DGet H a y (some v)) (ry : RelV y u) (h : ∀ w' s', Inv X pins σ H s' → RelV v w' → Q w' s') :
    wpAny (model X.prog X.w) A (getItem (.ref a) u) Q E s := by
  rcases g with ⟨kvs, k, e, ey, l⟩ | ⟨kvs, k, b, e, ey, eb, l⟩
  · subst ey
    obtain ⟨z, hd, vs, rel, dd⟩ := dk_rd I.hok e
    obtain ⟨w', hw, rw'⟩ := RelO.some_of (v := v) (o := valueAt vs k) (by rw [l]; exact rel.val k)
    exact wpAny_getItem_of (kV_is ry) dd.mapOf hw (h w' _ (I.tok _) rw')
  · subst ey
    cases (show u = Value.ref b from ry)
    obtain ⟨z, hd, xs, rel, dd⟩ := dt_rd I.hok e
    obtain ⟨w', hw, rw'⟩ := RelO.some_of (v := v) (o := (atKey xs k).map (·.2)) (by rw [l]; exact rel.val k)
    obtain ⟨p, hp, hp2⟩ := Option.map_eq_some_iff.mp hw
    refine wpAny_getItem_heap (tupleKind_room_in1 hu) (key_of I.hok eb) dd hp ?_
    rw [hp2]
    exact h w' _ (I.tok _) rw'
theorem d_write {h' : Heap} {t' : Nat} {ob : HO} (I : Inv X pins σ H s) (mu : Mut (H a)) (hs : Heap.SameBut a s.heap h') (he : ∃ q, h'.get? a = some q) (new : ObjOk X.prog X.w (upd H a ob) h' a ob) :
    Inv X pins σ (upd H a ob) { s with heap := h', toks := t' } :=
  I.write (x := a) (e := a) mu (.inl rfl) (fun b q hb z => (hs.2 b hb).trans z) he new
theorem dk_new {P : Program} {w : World} {H' : Hp} {h' : Heap} {kvs : List (Key × V)} {vs : List (Key × Value)} (z : kvs.length ≤ sizeLine) (hd : (a == sysModules) = false) (rel : KV kvs vs) (dd : h'.DictOf (mixKind P w) a vs) :
    ObjOk P w H' h' a (.dK kvs) := ⟨z, hd, vs, rel, dd⟩
theorem d_setItem {H' : Hp} {Q : Unit → Shared → Prop} (hu : A.units + 1 < cLine) (I : Inv X pins σ H s) (g : DPut H a y v H') (ry : RelV y u) (rv : RelV v r) (h : ∀ s', Inv X pins σ H' s' → Q () s') :
    wpAny (model X.prog X.w) A (setItem (.ref a) u r) Q E s := by
  rcases g with ⟨kvs, k, e, ey, l, eH⟩ | ⟨kvs, k, b, e, ey, eb, l, eH⟩
  · subst ey eH
    obtain ⟨z, hd, vs, rel, dd⟩ := dk_of I.hok e
    have hz : vs.length ≤ sizeLine := by rw [← rel.length]; exact z
    have hl : (putK kvs k v).length ≤ sizeLine := by have := length_putK kvs k v; omega
    refine wpAny_setItem_pairs (hsz := hz) (kV_is ry) dd fun h' dd' hs => h _ ?_
    have he : ∃ q, h'.get? a = some q := let ⟨q, _, _, hq, _⟩ := dd'; ⟨q, hq⟩
    exact d_write I (by rw [e]; exact True.intro) hs he (dk_new hl hd (rel.put k rv) dd')
  · subst ey eH
    cases (show u = Value.ref b from ry)
    obtain ⟨z, hd, xs, rel, dd⟩ := dt_of I.hok e
    have hz : xs.length ≤ sizeLine := by rw [← Paired.length rel]; exact z
    have hl : (putK kvs k v).length ≤ sizeLine := by have := length_putK kvs k v; omega
    refine wpAny_setItem_heap (hsz := hz) (tupleKind_room_in1 hu) (key_of I.hok eb) dd fun h' dd' hs => h _ ?_
    obtain ⟨q, es, ep, hq, h2, h3, h4, _, h5⟩ := dd'
    refine d_write I (by rw [e]; exact True.intro) hs ⟨q, hq⟩ ⟨hl, hd, _, (rel.put k eb rv).keeps fun c ys ec => ?_, q, es, ep, hq, h2, h3, h4, h5⟩
    rw [upd_ne (ne_of ec e (fun z => nomatch z))]
    exact ec
end
section
variable {X : Cx} {pins : List (Addr × Obj)} {σ : St} {H : Hp} {s : Shared} {a : Addr} {kvs : List (Key × V)} {k : Key} {u : Value} {A : Around} {E : Value → Shared → Prop}
end
def NoSl (i : Expr) : Prop := ∀ ov iv, subscripted i false ov iv = operate [ov, iv] (getItem ov iv)
theorem subD_of {prog : Program} {w : World} {A : Around} {E : Value → Shared → Prop} {s : Shared} {env : Env} {value slice : Expr} {pos : Pos} {T id : String} {Q : Value → Shared → Prop}
    (hl : typeLookup (.type T) "__getitem__" = pure (some (.builtin id))) (hs : NoSl slice)
    (h : wpAny (model prog w) A (eval value env) (fun o s₁ => wpAny (model prog w) A (eval slice env) (fun i s₂ => s₂.TypeIs o T ∧ wpAny (model prog w) A (getItem o i) Q E s₂) E s₁) E s) :
    wpAny (model prog w) A (eval (.Subscript value slice pos) env) Q E s := by
  refine Subscript_ (wpAny_mono h (fun o s₁ h₁ => wpAny_mono h₁ (fun i s₂ h₂ => ?_) fun _ _ x => x) fun _ _ x => x)
  obtain ⟨hT, h₂⟩ := h₂
  unfold subscriptTail
  refine wpAny_bind ?_
  rw [getitemInPython_of_ne hT.not_modules]
  refine wpAny_bind (wpAny_specialOf hT hl ?_)
  have fin : wpAny (model prog w) A (subscripted slice false o i) (fun r s₃ => wpAny (model prog w) A (letTemporaryGo value o r >>= fun _ => pure r) Q E s₃) E s₂ := by
    rw [hs o i]
    exact wpAny_operating (wpAny_mono h₂ (fun r s₃ h₃ => wpAny_bind (wpAny_letTemporaryGo (wpAny_pure h₃))) fun _ _ x => x)
  first
    | exact wpAny_pure (wpAny_bind fin)
    | exact wpAny_bind (wpAny_pure (wpAny_bind fin))
    | exact wpAny_bind fin
theorem dict_typeIs {X : Cx} {pins : List (Addr × Obj)} {σ : St} {H : Hp} {s : Shared} {a : Addr} {y : V} {o : Option V} (I : Inv X pins σ H s) (g : DGet H a y o) : s.TypeIs (.ref a) "dict" := by
  rcases g with ⟨kvs, k, e, _, _⟩ | ⟨kvs, k, b, e, _, _, _⟩
  · obtain ⟨_, _, vs, _, dd⟩ := dk_rd I.hok e
    exact dd.typeIs
  · obtain ⟨_, _, xs, _, dd⟩ := dt_rd I.hok e
    exact dd.typeIs
def tDGet (td ty : TE) : TE := fun σ H Q => td σ H fun x H1 => ty σ H1 fun y H2 => ∃ a v, x = .ref a ∧ DGet H2 a y (some v) ∧ Q v H2
def sDPut (td ty tv : TE) : TS := fun D σ H => tv σ H fun v H1 => td σ H1 fun x H2 => ty σ H2 fun y H3 => ∃ a H4, x = .ref a ∧ DPut H3 a y v H4 ∧ D.nx σ H4
section
variable {X : Cx} {o i e value : Expr} {pos pos' tpos : Pos} {td ty tv : TE}
theorem pe_dget (hu : X.A.units + 1 < cLine) (ho : PE X o td) (hi : PE X i ty) (hs : NoSl i) : PE X (.Subscript o i pos) (tDGet td ty) := by
  intro pins s σ H Q I h
  refine subD_of PySem.F.slot_dict_getitem.lookup hs (thn (ho pins s σ H _ I h) fun u s1 ⟨x, H1, I1, rx, q1⟩ => thn (hi pins s1 σ H1 _ I1 q1) fun iv s2 ⟨y, H2, I2, ry, a, v, ex, g, q2⟩ => ?_)
  subst ex
  obtain rfl : u = Value.ref a := rx
  exact ⟨dict_typeIs I2 g, d_getItem hu I2 g ry fun w' s3 I3 rw' => ⟨v, H2, I3, rw', q2⟩⟩
theorem ps_dput (hu : X.A.units + 1 < cLine) (ho : PE X o td) (hi : PE X i ty) (hv : PE X value tv) (hs : swapsWith value (some (.Subscript o i pos')) pos.line X.env = pure false) :
    PS X (.Assign [.Subscript o i pos'] value pos) (sDPut td ty tv) := by
  intro pins s σ H D I h
  refine wpAny_Assign_Subscript (thn (hv pins s σ H _ I h) fun r s1 ⟨v, H1, I1, rv, q1⟩ => thn (ho pins s1 σ H1 _ I1 q1) fun u s2 ⟨x, H2, I2, rx, q2⟩ => thn (hi pins s2 σ H2 _ I2 q2) fun iv s3 ⟨y, H3, I3, ry, a, H4, ex, g, q3⟩ => ?_) hs
  subst ex
  obtain rfl : u = Value.ref a := rx
  exact d_setItem hu I3 g ry rv fun s4 I4 => ⟨σ, H4, I4, q3⟩
end
theorem dk_empty {P : Program} {w : World} {H : Hp} (h : Heap) (hb : sysModules < h.objs.size) : ObjOk P w H (h.push { cls := .type "dict", data := .dict #[] }) h.objs.size (.dK []) :=
  ⟨Nat.zero_le _, beq_eq_false_iff_ne.mpr (Ne.symm (Nat.ne_of_lt hb)), [], .nil, Heap.DictOf.new h⟩
def tDNewK : TE := fun _ H Q => ∀ p, H p = none → Q (.ref p) (upd H p (.dK []))
section
variable {X : Cx} {pos : Pos}
theorem pe_dnewK : PE X (.Dict [] [] pos) tDNewK := fun pins s σ H Q I h =>
  wpAny_Dict_empty ⟨.ref s.heap.objs.size, _, I.laid (a := s.heap.objs.size) (o := .dK []) (t' := s.toks) (fun _ _ q => Heap.get?_push_of_some _ q) (Nat.le_refl _) (dk_empty s.heap I.big), rfl, h _ (I.hok.fresh (Nat.le_refl _))⟩
end
abbrev VV : List (V × V) → List (Value × Value) → Prop := Paired fun p q => RelV p.1 q.1 ∧ RelV p.2 q.2
structure M1 (X : Cx) (o : Expr) (m : Str) (apos : Pos) (e : Expr) (cpos : Pos) : Prop where
  base : attributeBase o m X.env (eval o X.env) = eval o X.env
  few : ((backTo cpos (starEach [e] X.env)).all (fun x => !x.1) && (backToKw cpos (keywordEach [] X.env)).all (fun x => x.1.isSome)
    && decide (([e] : List Expr).length + ([] : List Keyword).length + (if ([] : List Keyword).isEmpty then 0 else 1) < 30)) = true
  line : (apos.endLine == cpos.line) = true
  trees : backTo cpos (starEach [e] X.env) = [(false, eval e X.env)]
structure M2 (X : Cx) (o : Expr) (m : Str) (apos : Pos) (e f : Expr) (cpos : Pos) : Prop where
  base : attributeBase o m X.env (eval o X.env) = eval o X.env
  few : ((backTo cpos (starEach [e, f] X.env)).all (fun x => !x.1) && (backToKw cpos (keywordEach [] X.env)).all (fun x => x.1.isSome)
    && decide (([e, f] : List Expr).length + ([] : List Keyword).length + (if ([] : List Keyword).isEmpty then 0 else 1) < 30)) = true
  line : (apos.endLine == cpos.line) = true
  trees : backTo cpos (starEach [e, f] X.env) = [(false, eval e X.env), (false, eval f X.env)]
section
variable {X : Cx} {pins : List (Addr × Obj)} {σ : St} {H : Hp} {s : Shared} {a : Addr} {y d : V} {u r : Value} {o : Option V} {A : Around} {E : Value → Shared → Prop}
end
section
variable {X : Cx} {o e f : Expr} {apos cpos : Pos} {td ty tx : TE}
end
end L2
namespace L2
open PySem PySem.Spec PyProof.Rows
def clOf (env : Env) : List (Str × NameKind) → List (Str × Addr) → List (Str × Addr)
  | [], acc => acc
  | (n, .free) :: r, acc => clOf env r ((n, (env.cells.lookup n).getD 0) :: acc)
  | _ :: r, acc => clOf env r acc
def ClGood (env : Env) (acc : List (Str × Addr)) : Prop := ∀ y c, acc.lookup y = some c → c = (env.cells.lookup y).getD 0
theorem clOf_skip {env : Env} {n : Str} {k : NameKind} {r : List (Str × NameKind)} {acc : List (Str × Addr)} (h : k ≠ .free) : clOf env ((n, k) :: r) acc = clOf env r acc := by
  cases k <;> first | rfl | exact absurd rfl h
theorem clOf_good {env : Env} : ∀ (names : List (Str × NameKind)) (acc : List (Str × Addr)), ClGood env acc → ClGood env (clOf env names acc)
  | [], acc, h => h
  | (n, k) :: r, acc, h => by
    by_cases hk : k = .free
    · subst hk
      refine clOf_good r _ fun y c e => ?_
      rw [List.lookup_cons] at e
      by_cases hy : y = n
      · subst hy
        simp only [beq_self_eq_true] at e
        exact (Option.some.inj e).symm
      · have hb : (y == n) = false := by simpa using hy
        rw [hb] at e
        exact h y c e
    · rw [clOf_skip hk]
      exact clOf_good r acc h
theorem clOf_has {env : Env} {x : Str} : ∀ (names : List (Str × NameKind)) (acc : List (Str × Addr)), ((∃ c, acc.lookup x = some c) ∨ (x, NameKind.free) ∈ names) → ∃ c, (clOf env names acc).lookup x = some c
  | [], acc, h => by
    rcases h with h | h
    · exact h
    · cases h
  | (n, k) :: r, acc, h => by
    by_cases hk : k = .free
    · subst hk
      refine clOf_has r _ ?_
      rw [List.lookup_cons]
      by_cases hy : x = n
      · subst hy
        exact .inl ⟨(env.cells.lookup x).getD 0, by simp only [beq_self_eq_true]⟩
      · have hb : (x == n) = false := by simpa using hy
        rw [hb]
        rcases h with h | h
        · exact .inl h
        · rcases List.mem_cons.mp h with h | h
          · exact absurd (congrArg Prod.fst h) hy
          · exact .inr h
    · rw [clOf_skip hk]
      refine clOf_has r acc ?_
      rcases h with h | h
      · exact .inl h
      · rcases List.mem_cons.mp h with h | h
        · exact absurd (congrArg Prod.snd h).symm hk
        · exact .inr h
theorem clOf_mem {env : Env} {x : Str} {c : Addr} : ∀ (names : List (Str × NameKind)) (acc : List (Str × Addr)), (clOf env names acc).lookup x = some c → acc.lookup x = some c ∨ (x, NameKind.free) ∈ names
  | [], acc, h => .inl h
  | (n, k) :: r, acc, h => by
    by_cases hk : k = .free
    · subst hk
      rcases clOf_mem r _ h with h1 | h1
      · rw [List.lookup_cons] at h1
        by_cases hy : x = n
        · subst hy
          exact .inr List.mem_cons_self
        · have hb : (x == n) = false := by simpa using hy
          rw [hb] at h1
          exact .inl h1
      · exact .inr (List.mem_cons_of_mem _ h1)
    · rw [clOf_skip hk] at h
      rcases clOf_mem r acc h with h1 | h1
      · exact .inl h1
      · exact .inr (List.mem_cons_of_mem _ h1)
theorem forIn_cl {env : Env} {f : Str × NameKind → List (Str × Addr) → Sem (ForInStep (List (Str × Addr)))} (h1 : ∀ n k r, k ≠ NameKind.free → f (n, k) r = pure (.yield r))
    (h2 : ∀ n r c, env.cells.lookup n = some c → f (n, .free) r = pure (.yield ((n, c) :: r))) :
    ∀ (names : List (Str × NameKind)) (acc : List (Str × Addr)), (∀ y ∈ names, y.2 = NameKind.free → ∃ c, env.cells.lookup y.1 = some c) → forIn names acc f = pure (clOf env names acc)
  | [], acc, _ => rfl
  | (n, k) :: r, acc, hc => by
    have hr : ∀ y ∈ r, y.2 = NameKind.free → ∃ c, env.cells.lookup y.1 = some c := fun y hy => hc y (List.mem_cons_of_mem _ hy)
    rw [List.forIn_cons]
    by_cases hk : k = .free
    · subst hk
      obtain ⟨c, e⟩ := hc (n, .free) List.mem_cons_self rfl
      rw [h2 n acc c e, pure_bind]
      show forIn r ((n, c) :: acc) f = _
      rw [forIn_cl h1 h2 r _ hr]
      show _ = pure (clOf env r ((n, (env.cells.lookup n).getD 0) :: acc))
      rw [e]
      rfl
    · rw [h1 n k acc hk, pure_bind, clOf_skip hk]
      exact forIn_cl h1 h2 r acc hr
theorem closure_is {env : Env} {scope : Scope} (hc : ∀ y ∈ scope.names, y.2 = NameKind.free → ∃ c, env.cells.lookup y.1 = some c) : closureFor scope env = pure (clOf env scope.names []) := by
  unfold closureFor
  dsimp only
  rw [forIn_cl (env := env) ?_ ?_ scope.names [] hc]
  · rfl
  · intro n k r hk
    have hb : (k == NameKind.free) = false := by simpa using hk
    simp only [hb, Bool.false_eq_true, if_false]
  · intro n r c e
    simp only [cellOf, e, beq_self_eq_true, if_true, pure_bind]
structure CompOk (sc : Scope) (Nm own : List Str) (fr : List Nat) (scope : Scope) : Prop where
  kind : scope.kind = .function
  nocell : ∀ y ∈ scope.names, y.2 ≠ NameKind.cell
  free : ∀ y ∈ scope.names, y.2 = NameKind.free → sc.names.lookup y.1 = some .cell ∨ sc.names.lookup y.1 = some .free
  locs : ∀ y ∈ scope.names, y.2 = NameKind.local → scope.names.lookup y.1 = some .local
  frs : ∀ j ∈ fr, j < Nm.length ∧ scope.names.lookup (Nm.getD j "") = some .free
def inNm (own Nm : List Str) (fr : List Nat) : List Str := own ++ fr.map fun j => Nm.getD j ""
def inSt (n : Nat) (fr : List Nat) (σ : St) : St := List.replicate n none ++ fr.map fun j => σ.getD j none
structure CD where
  cl : List (Str × Addr)
  C : Addr
  s : Shared
  H : Hp
  fp : List Addr
def compCx (X : Cx) (Nm : List Str) (scope : Scope) (d : CD) : Cx :=
  { prog := X.prog, w := X.w, K := X.K, mg := X.mg, base := X.base, A := X.A, N := Nm, s₀ := d.s, H₀ := d.H, env := compEnvC scope d.cl d.C X.env, outer := X.stack, stack := X.stack,
    ex := d.fp, fn := fun _ => false, calm := X.calm, pn := [], xe := fun _ _ => False }
def PTs (X : Cx) (ifs : List Expr) (t : TT) : Prop :=
  ∀ (pins : List (Addr × Obj)) (s : Shared) (σ : St) (H : Hp) (Q : Bool → Hp → Prop), Inv X pins σ H s → t σ H Q →
    wpAny (model X.prog X.w) X.A (forIn ifs true fun c r => if r = true then do let ok ← isTrue c X.env (eval c X.env); pure (ForInStep.yield ok) else pure (ForInStep.yield r)) (TP X pins σ Q) X.xe s
def tYes : TT := fun _ H Q => Q true H
theorem pts_nil {X : Cx} : PTs X [] tYes := by
  intro pins s σ H Q I h
  rw [List.forIn_nil]
  exact wpAny_pure ⟨H, I, h⟩
theorem pts_one {X : Cx} {c : Expr} {t : TT} (hc : PT X c t) : PTs X [c] t := by
  intro pins s σ H Q I h
  rw [List.forIn_cons, if_pos rfl]
  refine wpAny_bind (wpAny_bind (thn (hc pins s σ H Q I h) fun b s1 q => wpAny_pure ?_))
  show wpAny _ _ (forIn [] b _) _ _ s1
  rw [List.forIn_nil]
  exact wpAny_pure q
def GFr (n : Nat) (g : TG) : Prop := ∀ v σ H Q, g v σ H Q → g v σ H fun σ2 H2 => Q σ2 H2 ∧ σ2.length = σ.length ∧ ∀ i, n ≤ i → σ2[i]? = σ[i]?
theorem gfr_name {n i : Nat} (h : i < n) : GFr n (gName i) := fun v σ H Q q => ⟨q, by simp, fun j hj => by
  rw [List.getElem?_set_ne (by omega)]⟩
def CompW (J : It) (n : Nat) (fr : List Nat) (g : TG) (tt : TT) (te : TE) (σ : St) (H1 : Hp) (Q : VK) : Prop := ∃ W : Nat → Nat → List V → Hp → Prop, (∃ m, W 0 m [] H1) ∧ ∀ i m acc H2, W i m acc H2 →
  acc.length < sizeLine ∧ ((J.stop i H2 ∧ ∀ l, H2 l = none → Q (.ref l) (upd H2 l (.lst acc))) ∨
    (J.go i H2 ∧ ∃ Nx : List V → Hp → Prop, (∀ acc' H', Nx acc' H' → ∃ m', m' < m ∧ W (i + 1) m' acc' H') ∧
      ∀ x H3, J.yld i H2 x H3 → g x (inSt n fr σ) H3 fun σ4 H4 => tt σ4 H4 fun b H5 => if b = true then te σ4 H5 fun v H6 => Nx (acc ++ [v]) H6 else Nx acc H5))
def tComp (n : Nat) (fr : List Nat) (wi : TI) (g : TG) (tt : TT) (te : TE) : TE := fun σ H Q => wi σ H fun J H1 => CompW J n fr g tt te σ H1 Q
section
variable {X : Cx} {pins : List (Addr × Obj)} {σ : St} {H : Hp} {s : Shared}
theorem Inv.adopt {a : Addr} {o : HO} (I : Inv X pins σ H s) (hp : X.s₀.heap.objs.size ≤ a) (hn : H a = none) (hL : a ≠ X.env.locals) (hc : ∀ x c, X.env.cells.lookup x = some c → c ≠ a)
    (hq : ∀ p ∈ X.pn ++ pins, p.1 ≠ a) (new : ObjOk X.prog X.w (upd H a o) s.heap a o) : Inv X pins σ (upd H a o) s := by
  refine ⟨I.ok, I.os, I.bare, ⟨I.base.keep, I.base.slot, fun b ob e n hx => ?_, I.base.there, fun b xs e => ?_, fun b ob u e => ?_, fun b ps e => ?_⟩, I.loc, I.cell, ?_, fun x c e => ?_, fun p hp' => ?_, fun b u e => ?_, I.len⟩
  · rw [upd_ne (Nat.ne_of_lt (Nat.lt_of_lt_of_le (Heap.lt_size e) hp))]
    exact I.base.free b ob e n hx
  · have q := I.base.tups b xs e
    rw [upd_ne (ne_of_none q hn)]
    exact q
  · have q := I.base.frzs b ob u e
    rw [upd_ne (ne_of_none q hn)]
    exact q
  · obtain ⟨more, q⟩ := I.base.tbls b ps e
    exact ⟨more, by rw [upd_ne (ne_of_none q hn)]; exact q⟩
  · rw [upd_ne (Ne.symm hL)]
    exact I.free
  · rw [upd_ne (hc x c e)]
    exact I.freeC x c e
  · obtain ⟨h1, h2, h3⟩ := I.pin p hp'
    exact ⟨h1, by rw [upd_ne (hq p hp')]; exact h2, h3⟩
  · by_cases hb : b = a
    · subst hb
      rw [upd_same] at e
      cases e
      exact new
    · rw [upd_ne hb] at e
      refine (I.hok b u e).stay (fun c v _ q => q) (fun c q => ?_) fun c xs q => ?_
      · rw [upd_ne (ne_of_none q hn)]; exact q
      · rw [upd_ne (ne_of_none q hn)]; exact q
end
section
variable {prog : Program} {w : World} {A : Around} {R : Result → Shared → Prop} {s : Shared}
theorem loop_comp {elt target iter : Expr} {ifs : List Expr} {scope : Scope} {pos : Pos} {it acc : Value} {env : Env} (J : Nat → Shared → Prop)
    (turn : ∀ n s, J n s → wpAny (model prog w) A (pyNext it) (fun r s1 => match r with
      | none => R (.ok .next) s1
      | some v => wpAny (model prog w) A (letOwnedTupleGo target it v) (fun _ s2 => wpAny (model prog w) A (assign target env v) (fun _ s3 =>
          wpAny (model prog w) A (forIn ifs true fun c r => if r = true then do let ok ← isTrue c env (eval c env); pure (ForInStep.yield ok) else pure (ForInStep.yield r)) (fun ok s4 =>
            if ok = true then wpAny (model prog w) A (eval elt env) (fun x s5 => wpAny (model prog w) A (call (.builtin "list.append") [acc, x]) (fun _ s6 => ∃ m, m < n ∧ J m s6) (fun _ _ => False) s5) (fun _ _ => False) s4
            else ∃ m, m < n ∧ J m s4) (fun _ _ => False) s3) (fun _ _ => False) s2) (fun _ _ => False) s1) (fun _ _ => False) s)
    (n : Nat) (h : J n s) : codeAny (model prog w) A (.compLoop (.ListComp elt [⟨target, iter, ifs, 0⟩] scope pos) 0 it acc env) R s := by
  refine codeAny_loop rfl J (fun k t hJ => ?_) n h
  show wpAny _ A ((compTurn (.ListComp elt [⟨target, iter, ifs, 0⟩] scope pos) 0 it acc env).onRaise (fun x => do noteFrame x env; theTreesLotGoes x)) _ _ t
  refine wpAny_noted ?_
  rw [compTurn_list]
  have no : ∀ {α : Type} {m : Sem α} {Q : α → Shared → Prop} {E : Value → Shared → Prop} {u : Shared}, wpAny (model prog w) A m Q (fun _ _ => False) u → wpAny (model prog w) A m Q E u := fun q => wpAny_mono q (fun _ _ z => z) fun _ _ z => z.elim
  refine wpAny_bind (wpAny_standAt (wpAny_bind (no (thn (turn k t hJ) fun r s1 h1 => ?_))))
  cases r with
  | none => exact wpAny_pure h1
  | some v =>
    refine wpAny_bind (no (thn h1 fun _ s2 h2 => wpAny_bind (no (thn h2 fun _ s3 h3 => wpAny_bind (no (thn h3 fun ok s4 h4 => ?_))))))
    cases ok with
    | false => exact wpAny_pure ⟨rfl, h4⟩
    | true =>
      exact wpAny_bind (wpAny_bind (no (thn h4 fun x s5 h5 => wpAny_bind (no (thn h5 fun _ s6 h6 => wpAny_pure (wpAny_pure ⟨rfl, h6⟩))))))
end
section
variable {X : Cx} {sc scope : Scope} {Nm own : List Str} {fr : List Nat} {elt tg iter : Expr} {ifs : List Expr} {cpos : Pos} {wi : TI} {g : TG} {tt : TT} {te : TE}
theorem lookup_relab {env : Env} {x : Str} {k : NameKind} : ∀ {names : List (Str × NameKind)}, (names.map fun (n, k) => if (k == NameKind.free && env.scope.kind == .function && env.kindOf n == some .cell) then (n, NameKind.cell) else (n, k)).lookup x = some k →
    names.lookup x = some k ∨ (k = .cell ∧ names.lookup x = some .free)
  | [], h => by simp at h
  | (n, j) :: r, h => by
    have ih := @lookup_relab env x k r
    have h' : List.lookup x ((if (j == NameKind.free && env.scope.kind == .function && env.kindOf n == some .cell) = true then (n, NameKind.cell) else (n, j)) :: _) = some k := h
    cases hx : x == n with
    | true =>
      by_cases hc : (j == NameKind.free && env.scope.kind == .function && env.kindOf n == some .cell) = true
      · rw [if_pos hc] at h'
        simp only [List.lookup_cons, hx] at h' ⊢
        simp only [Bool.and_eq_true, beq_iff_eq] at hc
        exact .inr ⟨(Option.some.inj h').symm, congrArg some hc.1.1⟩
      · rw [if_neg hc] at h'
        simp only [List.lookup_cons, hx] at h' ⊢
        exact .inl h'
    | false =>
      have h2 : List.lookup x (r.map fun (n, k) => if (k == NameKind.free && env.scope.kind == .function && env.kindOf n == some .cell) then (n, NameKind.cell) else (n, k)) = some k := by
        by_cases hc : (j == NameKind.free && env.scope.kind == .function && env.kindOf n == some .cell) = true
        · rw [if_pos hc] at h'
          simpa only [List.lookup_cons, hx] using h'
        · rw [if_neg hc] at h'
          simpa only [List.lookup_cons, hx] using h'
      simp only [List.lookup_cons, hx]
      exact ih h2
theorem relab_free {env : Env} {x : Str} : ∀ {names : List (Str × NameKind)}, names.lookup x = some .free →
    (names.map fun (n, k) => if (k == NameKind.free && env.scope.kind == .function && env.kindOf n == some .cell) then (n, NameKind.cell) else (n, k)).lookup x = some .cell ∨
    (names.map fun (n, k) => if (k == NameKind.free && env.scope.kind == .function && env.kindOf n == some .cell) then (n, NameKind.cell) else (n, k)).lookup x = some .free
  | [], h => by simp at h
  | (n, j) :: r, h => by
    have ih := @relab_free env x r
    show List.lookup x ((if (j == NameKind.free && env.scope.kind == .function && env.kindOf n == some .cell) = true then (n, NameKind.cell) else (n, j)) :: _) = _ ∨ List.lookup x ((if (j == NameKind.free && env.scope.kind == .function && env.kindOf n == some .cell) = true then (n, NameKind.cell) else (n, j)) :: _) = _
    cases hx : x == n with
    | true =>
      simp only [List.lookup_cons, hx] at h
      by_cases hc : (j == NameKind.free && env.scope.kind == .function && env.kindOf n == some .cell) = true
      · rw [if_pos hc]; simp only [List.lookup_cons, hx]; first | exact .inl rfl | exact .inl trivial
      · rw [if_neg hc]; simp only [List.lookup_cons, hx]; exact .inr h
    | false =>
      simp only [List.lookup_cons, hx] at h
      by_cases hc : (j == NameKind.free && env.scope.kind == .function && env.kindOf n == some .cell) = true
      · rw [if_pos hc]; simp only [List.lookup_cons, hx]; exact ih h
      · rw [if_neg hc]; simp only [List.lookup_cons, hx]; exact ih h
theorem comp_core (S : CompOk sc Nm own fr scope) (hsc : X.env.scope = sc) (hN : X.N = Nm) (hc : X.calm = true) (hgf : GFr own.length g) (hi : PI X tg iter wi) (hg : ∀ d, PG (compCx X (inNm own Nm fr) scope d) tg g)
    (ht : ∀ d, PTs (compCx X (inNm own Nm fr) scope d) ifs tt) (he : ∀ d, PE (compCx X (inNm own Nm fr) scope d) elt te) (hs : ∀ x, foldedSetIterable iter X.env x = pure x)
    {use : Option (Value → Sem Unit)} {Q0 : Value → Shared → Prop} {pins : List (Addr × Obj)} {s : Shared} {σ : St} {H : Hp} (I : Inv X pins σ H s) {Qf : VK} (h : tComp own.length fr wi g tt te σ H Qf)
    (hfin : ∀ (D C : Addr) (Hd : Hp) (s' : Shared) (m : Str → Option Value), Inv X pins σ Hd s' → Qf (.ref D) Hd → s'.heap.Ns C m → Hd C = none → X.s₀.heap.objs.size ≤ C → C ≠ X.env.locals → (∀ x c, X.env.cells.lookup x = some c → c ≠ C) →
      (∀ p ∈ X.pn ++ pins, p.1 ≠ C) → compPost (model X.prog X.w) X.A X.xe use Q0 (.ref D) C (.ok .next) s') :
    wpAny (model X.prog X.w) X.A (comprehension (.ListComp elt [⟨tg, iter, ifs, 0⟩] scope cpos) scope X.env (firstIterPos [⟨tg, iter, ifs, 0⟩] cpos) (newList []) false (eval iter X.env) use) Q0 X.xe s := by
  have hfree : ∀ y ∈ scope.names, y.2 = NameKind.free → ∃ c, X.env.cells.lookup y.1 = some c := fun y hy hk => by
    have q := S.free y hy hk
    rw [← hsc] at q
    exact I.ok.has y.1 q
  refine wpAny_comprehension_free (g := ⟨tg, iter, ifs, 0⟩) (gs := []) rfl hs (closure_is hfree) S.kind S.locs ?_
  refine thn (hi pins s σ H _ I h) fun v s1 h1 => thn h1 fun itv s2 h2 => ?_
  obtain ⟨it, fp, tn, J, H2, e, I2, T, st2, f2, W, ⟨m0, w0⟩, turn⟩ := h2
  subst e
  refine wpAny_newObj_type (wpAny_newFunctionEnv S.nocell (by intro y hy; simp at hy) (fun h1 hns hsb => ?_) S.kind)
  dsimp only at hns hsb ⊢
  generalize hG : s2.heap.push { cls := .type "list", dict := none, data := .seq ([] : List Value).toArray } = G at hns hsb ⊢
  have hC : G.objs.size = s2.heap.objs.size + 1 := by rw [← hG, Heap.size_push]
  have hDC : s2.heap.objs.size ≠ G.objs.size := by omega
  have lo : ∀ b, b < s2.heap.objs.size → b ≠ G.objs.size ∧ b ≠ s2.heap.objs.size := fun b hb => ⟨by omega, by omega⟩
  have old : ∀ b o, s2.heap.get? b = some o → h1.get? b = some o := fun b o e => hsb.extBut b o (lo b (Heap.lt_size e)).1 (Heap.get?_push_of_some _ (hG ▸ Heap.get?_push_of_some _ e))
  have hacc : h1.PlainList s2.heap.objs.size #[] := ⟨_, hsb.extBut _ _ hDC (Heap.get?_push_of_some _ (hG ▸ Heap.get?_push_size _ rfl))⟩
  have fpl : ∀ b ∈ fp, b < s2.heap.objs.size := fun b hb => by
    obtain ⟨o, e, _⟩ := T.obj 0 _ st2 b hb
    exact Heap.lt_size e
  have hDf : s2.heap.objs.size ∉ fp := fun z => Nat.lt_irrefl _ (fpl _ z)
  have hCf : G.objs.size ∉ fp := fun z => Nat.lt_irrefl _ (Nat.lt_trans (fpl _ z) (by rw [hC]; exact Nat.lt_succ_self _))
  have cellL : ∀ x c, (clOf X.env scope.names []).lookup x = some c → X.env.cells.lookup x = some c ∧ (x, NameKind.free) ∈ scope.names := fun x c e => by
    have e1 := clOf_good (env := X.env) scope.names [] (fun y c z => by simp at z) x c e
    rcases clOf_mem scope.names [] e with z | z
    · simp at z
    · obtain ⟨c', e'⟩ := hfree _ z rfl
      rw [e1, e']
      exact ⟨rfl, z⟩
  have cellLt : ∀ x c, X.env.cells.lookup x = some c → c < s2.heap.objs.size := fun x c e => by
    obtain ⟨v, q⟩ := I2.cell x c e
    exact q.lt
  -- the block's context
  let d : CD := ⟨clOf X.env scope.names [], G.objs.size, s2, H2, fp⟩
  have isFree : ∀ x, ((compCx X (inNm own Nm fr) scope d).env.kindOf x = some .cell ∨ (compCx X (inNm own Nm fr) scope d).env.kindOf x = some .free) → scope.names.lookup x = some .free := fun x hx => by
    have noC : scope.names.lookup x ≠ some .cell := fun z => S.nocell _ (PySem.mem_of_lookup z) rfl
    rcases hx with hx | hx
    · rcases lookup_relab (names := scope.names) hx with z | z
      · exact absurd z noC
      · exact z.2
    · rcases lookup_relab (names := scope.names) hx with z | z
      · exact z
      · exact absurd z.1 (by decide)
  have ok : (compCx X (inNm own Nm fr) scope d).Ok := by
    refine ⟨I.ok.mod, S.kind, I.ok.glob, I.ok.blt, ?_, fun x y c e1 e2 => ?_, fun x hx => ?_, fun x c z => ?_, I.ok.hd, I.ok.frames, .inl rfl, fun b hb => ⟨?_, fun x c e => ?_⟩, I2.bs, Nat.le_trans I2.ok.bsz I2.sz, fun b o e hb => ?_, fun b hb z => ?_, I2.stack, I2.stkFree⟩
    · show s2.heap.objs.size ≤ G.objs.size
      omega
    · exact I.ok.inj x y c (cellL x c e1).1 (cellL y c e2).1
    · exact clOf_has scope.names [] (.inr (PySem.mem_of_lookup (isFree x hx)))
    · exact absurd (show false = true from z) Bool.false_ne_true
    · exact fun z => hCf ((show b = G.objs.size from z) ▸ hb)
    · exact (f2 b hb).2.2.2.2.1 x c (cellL x c e).1
    · rcases (f2 b hb).2.2.2.1 with z | z
      · exact I.ok.noex b o e z
      · exact absurd (Nat.lt_of_lt_of_le (Heap.lt_size e) (Nat.le_trans I.ok.bsz z)) (Nat.lt_irrefl _)
    · rcases List.mem_cons.mp (I2.stkSub b z) with z | z
      · exact (f2 b hb).2.1 z
      · exact (f2 b hb).2.2.1 z
  have hfrs : ∀ (i : Nat) x v, (inNm own Nm fr)[i]? = some x → (inSt own.length fr σ)[i]? = some (some v) → scope.names.lookup x = some .free ∧ ∃ j, Nm[j]? = some x ∧ σ[j]? = some (some v) := fun i x v e1 e2 => by
    unfold inNm at e1
    unfold inSt at e2
    by_cases hil : i < own.length
    · rw [List.getElem?_append_left (by simpa using hil), List.getElem?_replicate, if_pos hil] at e2
      cases e2
    · rw [List.getElem?_append_right (by omega), List.getElem?_map] at e1
      rw [List.getElem?_append_right (by simpa using hil), List.getElem?_map, List.length_replicate] at e2
      cases q : fr[i - own.length]? with
      | none => rw [q] at e1; cases e1
      | some j =>
        rw [q] at e1 e2
        have hj := S.frs j (List.mem_of_getElem? q)
        have e1' : Nm.getD j "" = x := Option.some.inj e1
        have e2' : σ.getD j none = some v := Option.some.inj e2
        rw [e1'] at hj
        refine ⟨hj.2, j, ?_, ?_⟩
        · rw [← e1', List.getD_eq_getElem?_getD, List.getElem?_eq_getElem hj.1]
          rfl
        · rw [List.getD_eq_getElem?_getD] at e2'
          cases q2 : σ[j]? with
          | none => rw [q2] at e2'; cases e2'
          | some z => rw [q2] at e2'; exact congrArg some e2'
  have lenSt : (inSt own.length fr σ).length = (inNm own Nm fr).length := by
    unfold inSt inNm
    simp
  have J0 : ∀ tk, Inv (compCx X (inNm own Nm fr) scope d) [] (inSt own.length fr σ) H2 { s2 with heap := h1, toks := tk } := fun tk => by
    obtain ⟨m, hn, hl⟩ := I2.loc
    refine ⟨ok, rfl, I2.bare, Un.kept old, ⟨_, hns, fun i x v e1 e2 _ => ?_⟩, fun x c e => ?_, I2.hok.fresh (show s2.heap.objs.size ≤ G.objs.size by omega), fun x c e => I2.freeC x c (cellL x c e).1, fun p hp => absurd (show p ∈ ([] : List (Addr × Obj)) from hp) (by simp), I2.hok.kept old, lenSt⟩
    · obtain ⟨hf, j, hj1, hj2⟩ := hfrs i x v e1 e2
      have kd : X.env.scope.names.lookup x = some .cell ∨ X.env.scope.names.lookup x = some .free := by
        rw [hsc]
        exact S.free _ (PySem.mem_of_lookup hf) rfl
      obtain ⟨u, r, q⟩ := hl j x v (by rw [hN]; exact hj1) hj2 (kd.elim (fun z => .inr (.inl z)) fun z => .inr (.inr z))
      refine ⟨u, r, .inr ⟨relab_free hf, ?_⟩⟩
      obtain ⟨c, e⟩ := clOf_has (env := X.env) scope.names [] (.inr (PySem.mem_of_lookup hf))
      refine ⟨c, e, ?_⟩
      rcases q with ⟨k, _⟩ | ⟨_, c', e', z⟩
      · have k' : X.env.scope.names.lookup x = some .local := k
        rcases kd with y | y <;> rw [y] at k' <;> cases k'
      · have : c = c' := Option.some.inj ((cellL x c e).1.symm.trans e')
        subst this
        obtain ⟨o, ho, hd⟩ := z
        exact ⟨o, old _ o ho, hd⟩
    · obtain ⟨v, o, ho, hd⟩ := I2.cell x c (cellL x c e).1
      exact ⟨v, o, old _ o ho, hd⟩
  have stat : ∀ {H' : Hp} {pl : List (Addr × Obj)}, (∀ b ∈ fp, H' b = none) → (∀ p ∈ pl, p.1 ∉ fp) → ∀ b ∈ fp, FpOk (compCx X (inNm own Nm fr) scope d) pl H' b := fun hn hp b hb =>
    ⟨hn b hb, fun z => hCf ((show b = G.objs.size from z) ▸ hb), ok.exfs b hb, .inl hb, (ok.exf b hb).2, fun p hp' z => hp p (by simpa using (show p ∈ ([] : List (Addr × Obj)) ++ _ from hp')) (z ▸ hb)⟩
  -- the loop
  have loop : ∀ tk, codeAny (model X.prog X.w) X.A (.compLoop (.ListComp elt [⟨tg, iter, ifs, 0⟩] scope cpos) 0 (.ref it) (.ref s2.heap.objs.size) (compEnvC scope (clOf X.env scope.names []) G.objs.size X.env))
      (compPost (model X.prog X.w) X.A X.xe use Q0 (.ref s2.heap.objs.size) G.objs.size) { s2 with heap := h1, toks := tk } := by
    intro tk
    refine loop_comp (fun n s' => ∃ i acc its H', Inv (compCx X (inNm own Nm fr) scope d) [] (inSt own.length fr σ) H' s' ∧ tn i s'.heap ∧ (∀ b ∈ fp, H' b = none) ∧ H' s2.heap.objs.size = none ∧ Vals acc its ∧ s'.heap.PlainList s2.heap.objs.size its.toArray ∧ W i n acc H') ?_ m0
      ⟨0, [], [], H2, J0 tk, T.keep 0 _ _ st2 fun b _ o e => old b o e, fun b hb => (f2 b hb).1, I2.hok.fresh (Nat.le_refl _), .nil, hacc, w0⟩
    rintro n s3 ⟨i, acc, its, H3, I3, st3, fr3, nD, va, ⟨na, pa⟩, w3⟩
    have pinD : Inv (compCx X (inNm own Nm fr) scope d) [(s2.heap.objs.size, { cls := .type "list", data := .seq its.toArray na })] (inSt own.length fr σ) H3 s3 := I3.pins_of fun p hp => by
      have hp' := List.mem_singleton.mp hp
      subst hp'
      refine ⟨pa, nD, hDC, fun z => ?_, fun v z => ?_⟩
      · have z' : s2.heap.objs.size ∈ frs X.stack := z
        rcases List.mem_cons.mp (I2.stkSub _ z') with y | y
        · exact absurd I2.lt (by rw [← y]; exact Nat.lt_irrefl _)
        · exact I2.nofs (Nat.le_refl _) y
      · have z' : Data.seq its.toArray na = Data.cell v := z
        cases z'
    have pinsOut : ∀ p ∈ [(s2.heap.objs.size, ({ cls := .type "list", data := .seq its.toArray na } : Obj))], p.1 ∉ fp := fun p hp => by
      rw [List.mem_singleton.mp hp]
      exact hDf
    obtain ⟨hz, alt⟩ := turn i n acc H3 w3
    rcases alt with ⟨stop, qn⟩ | ⟨go, Nx, hNx, step⟩
    · refine thn (T.done (compCx X (inNm own Nm fr) scope d) rfl rfl rfl hc i _ s3 _ H3 _ pinD (stat fr3 pinsOut) st3 stop) fun r s4 ⟨hr, I4⟩ => ?_
      subst hr
      have pD := I4.pin (s2.heap.objs.size, { cls := .type "list", data := .seq its.toArray na }) (List.mem_append_right _ (List.mem_singleton.mpr rfl))
      obtain ⟨m4, hn4, _⟩ := I4.loc
      have I5 : Inv X pins σ H3 s4 := I2.call' (ch := fp) I4.os I4.base I4.hok I4.bare fun b hb => ⟨(f2 b hb).2.2.2.1, (f2 b hb).2.1, (f2 b hb).2.2.2.2.1, (f2 b hb).2.2.2.2.2⟩
      have far : ∀ a, s2.heap.objs.size ≤ a → X.s₀.heap.objs.size ≤ a ∧ a ≠ X.env.locals ∧ (∀ x c, X.env.cells.lookup x = some c → c ≠ a) ∧ ∀ p ∈ X.pn ++ pins, p.1 ≠ a := fun a ha =>
        ⟨Nat.le_trans I2.sz ha, Nat.ne_of_gt (Nat.lt_of_lt_of_le I2.lt ha), fun x c e => Nat.ne_of_lt (Nat.lt_of_lt_of_le (cellLt x c e) ha), fun p hp => Nat.ne_of_lt (Nat.lt_of_lt_of_le (Heap.lt_size (I2.pin p hp).1) ha)⟩
      have fD := far s2.heap.objs.size (Nat.le_refl _)
      have fC := far G.objs.size (by omega)
      have I6 := I5.adopt (o := .lst acc) fD.1 pD.2.1 fD.2.1 fD.2.2.1 fD.2.2.2 ⟨Nat.le_of_lt hz, its, na, va, pD.1⟩
      exact hfin s2.heap.objs.size G.objs.size _ s4 m4 I6 (qn _ pD.2.1) hn4 (by rw [upd_ne (Ne.symm hDC)]; exact I4.free) fC.1 fC.2.1 fC.2.2.1 fC.2.2.2
    · refine thn (T.item (compCx X (inNm own Nm fr) scope d) rfl rfl rfl hc i _ s3 _ H3 _ pinD (stat fr3 pinsOut) st3 go) fun r s4 ⟨u, hr, h4⟩ => ?_
      subst hr
      refine thn h4 fun _ s5 ⟨x, H5, I5, r5, y5, st5, fr5⟩ => ?_
      have I5' := I5.pinned (stat fr5 pinsOut) (T.obj _ _ st5)
      refine thn (hg d _ s5 _ H5 x u _ I5' r5 (hgf _ _ _ _ (step x H5 y5))) fun _ s6 ⟨σ6, H6, I6, q6, l6, k6⟩ => ?_
      have wk : ∀ (j : Nat) v, (inSt own.length fr σ)[j]? = some (some v) → σ6[j]? = some (some v) := fun j v e => by
        by_cases hj : j < own.length
        · unfold inSt at e
          rw [List.getElem?_append_left (by simpa using hj), List.getElem?_replicate, if_pos hj] at e
          cases e
        · rw [k6 j (by omega)]
          exact e
      refine thn (ht d _ s6 σ6 H6 _ I6 q6) fun b s7 ⟨H7, I7, q7⟩ => ?_
      have fpK : ∀ {σ' : St} {H' : Hp} {s' : Shared}, Inv (compCx X (inNm own Nm fr) scope d) ([(s2.heap.objs.size, ({ cls := .type "list", data := .seq its.toArray na } : Obj))] ++ pinsAt fp s5.heap) σ' H' s' →
          tn (i + 1) s'.heap ∧ (∀ b ∈ fp, H' b = none) ∧ H' s2.heap.objs.size = none ∧ s'.heap.get? s2.heap.objs.size = some { cls := .type "list", data := .seq its.toArray na } := fun {σ' H' s'} I' => by
        have pD := I'.pin (s2.heap.objs.size, { cls := .type "list", data := .seq its.toArray na }) (List.mem_append_right _ (List.mem_append_left _ (List.mem_singleton.mpr rfl)))
        refine ⟨T.keep _ _ _ st5 fun b hb o e => (I'.pin (b, o) (List.mem_append_right _ (List.mem_append_right _ (mem_pinsAt hb e)))).1, fun b hb => ?_, pD.2.1, pD.1⟩
        obtain ⟨o, e, _⟩ := T.obj _ _ st5 b hb
        exact (I'.pin (b, o) (List.mem_append_right _ (List.mem_append_right _ (mem_pinsAt hb e)))).2.1
      have drop : ∀ {σ' : St} {H' : Hp} {s' : Shared}, (∀ (j : Nat) v, (inSt own.length fr σ)[j]? = some (some v) → σ'[j]? = some (some v)) → Inv (compCx X (inNm own Nm fr) scope d) ([(s2.heap.objs.size, ({ cls := .type "list", data := .seq its.toArray na } : Obj))] ++ pinsAt fp s5.heap) σ' H' s' →
          Inv (compCx X (inNm own Nm fr) scope d) [] (inSt own.length fr σ) H' s' := fun {σ' H' s'} hw I' =>
        (I'.pins_of (pins' := []) (fun p hp => absurd hp (by simp))).weak (lenSt.trans I'.len.symm) hw
      cases b with
      | false =>
        rw [if_neg Bool.false_ne_true]
        obtain ⟨m', hm, w'⟩ := hNx acc H7 (by rw [if_neg Bool.false_ne_true] at q7; exact q7)
        obtain ⟨k1, k2, k3, k4⟩ := fpK I7
        exact ⟨m', hm, i + 1, acc, its, H7, drop wk I7, k1, k2, k3, va, ⟨_, k4⟩, w'⟩
      | true =>
        rw [if_pos rfl]
        rw [if_pos rfl] at q7
        refine thn (he d _ s7 σ6 H7 _ I7 q7) fun y s8 ⟨yv, H8, I8, r8, q8⟩ => ?_
        obtain ⟨m', hm, w'⟩ := hNx _ H8 q8
        obtain ⟨k1, k2, k3, k4⟩ := fpK I8
        have hsz : its.toArray.size ≤ sizeLine := by
          rw [List.size_toArray, ← va.length]
          exact Nat.le_of_lt hz
        refine wpAny_list_append_plain (hsz := hsz) ⟨_, k4⟩ fun h9 hl9 hs9 => ?_
        have I9 : Inv (compCx X (inNm own Nm fr) scope d) [] (inSt own.length fr σ) H8 { s8 with heap := h9 } := by
          refine (drop wk I8).turned (t' := s8.toks) (it := s2.heap.objs.size) (fun b o hb e => hs9.extBut b o hb e) k3 hDC (.inr (Nat.le_refl _)) (fun x c e => ?_) fun p hp => absurd (show p ∈ ([] : List (Addr × Obj)) from hp) (by simp)
          exact Nat.ne_of_lt (cellLt x c (cellL x c e).1)
        refine ⟨m', hm, i + 1, acc ++ [yv], its ++ [y], H8, I9, T.keep _ _ _ k1 fun b hb o e => hs9.extBut b o (fun z => hDf (z ▸ hb)) e, k2, k3, va.append (.cons r8 .nil), ?_, w'⟩
        rw [show (its ++ [y]).toArray = its.toArray.push y by simp]
        exact hl9
  exact codeAny_compStart_list (loop _) (T.self _ 0 _ _ _ (T.keep 0 _ _ st2 fun b _ o e => old b o e) (loop _))
theorem pe_comp (S : CompOk sc Nm own fr scope) (hc : X.calm = true) (hgf : GFr own.length g) (hi : PI X tg iter wi) (hg : ∀ d, PG (compCx X (inNm own Nm fr) scope d) tg g)
    (ht : ∀ d, PTs (compCx X (inNm own Nm fr) scope d) ifs tt) (he : ∀ d, PE (compCx X (inNm own Nm fr) scope d) elt te) (hsc : X.env.scope = sc := by rfl) (hN : X.N = Nm := by rfl)
    (hs : ∀ x, foldedSetIterable iter X.env x = pure x := by intro _; rfl) : PE X (.ListComp elt [⟨tg, iter, ifs, 0⟩] scope cpos) (tComp own.length fr wi g tt te) := by
  intro pins s σ H Q I h
  rw [eval_ListComp]
  refine comp_core (use := none) S hsc hN hc hgf hi hg ht he hs I h fun D C Hd s' m I' q hn nC c1 c2 c3 c4 => ?_
  exact ⟨m, hn, fun h' hb => ⟨.ref D, Hd, I'.turned (t' := s'.toks) (fun b o hne e => hb.extBut b o hne e) nC c2 (.inr c1) c3 c4, rfl, q⟩⟩
theorem ps_setc {i : Nat} {x : Str} {pos pos' : Pos} (hNd : X.N.Nodup) (hix : X.N[i]? = some x) (hx : X.env.scope.names.lookup x = some .local) (S : CompOk sc Nm own fr scope) (hc : X.calm = true) (hgf : GFr own.length g) (hi : PI X tg iter wi)
    (hg : ∀ d, PG (compCx X (inNm own Nm fr) scope d) tg g) (ht : ∀ d, PTs (compCx X (inNm own Nm fr) scope d) ifs tt) (he : ∀ d, PE (compCx X (inNm own Nm fr) scope d) elt te) (hsc : X.env.scope = sc := by rfl) (hN : X.N = Nm := by rfl)
    (hs : ∀ x, foldedSetIterable iter X.env x = pure x := by intro _; rfl)
    (hsw : swapsWith (.ListComp elt [⟨tg, iter, ifs, 0⟩] scope cpos) (some (.Name x pos')) pos.line X.env = pure true := by rfl) :
    PS X (.Assign [.Name x pos'] (.ListComp elt [⟨tg, iter, ifs, 0⟩] scope cpos) pos) (tAsg (tComp own.length fr wi g tt te) (gName i)) := by
  intro pins s σ H D0 I h
  rw [exec_Assign_Name_used _ _ _ _ hsw]
  refine wpAny_bind (wpAny_standAt (wpAny_bind ?_))
  refine wpAny_bind (thn (comp_core (use := some (assign (.Name x pos') X.env)) (Q0 := fun _ s' => SP X pins D0 .next s') S hsc hN hc hgf hi hg ht he hs I h fun D C Hd s' m I' q hn nC c1 c2 c3 c4 => ?_) fun _ s' q => wpAny_pure (wpAny_pure q))
  show wpAny _ _ (assign (.Name x pos') X.env (.ref D)) _ _ s'
  refine wpAny_assign_Name (store_ok2 I' hNd hix (.inl hx) (v := .ref D) rfl (fun s2 I2 ⟨a, sb, ha⟩ => ?_) (.inr hx))
  have hCa : C ≠ a := by
    rcases ha with z | z
    · rw [z]; exact c2
    · exact (c3 x a z).symm
  refine ⟨m, hn.sameBut sb hCa, fun h' hb => ⟨_, Hd, I2.turned (t' := s2.toks) (fun b o hne e => hb.extBut b o hne e) nC c2 (.inr c1) c3 c4, q⟩⟩
end
theorem comp_gen {J : It} {n k : Nat} {fr : List Nat} {g : TG} {tt : TT} {te : TE} {σ : St} {H : Hp} {Q : VK} (Pv : Nat → List V → Hp → Prop) (hk : k < sizeLine) (h0 : Pv 0 [] H) (hlen : ∀ i acc H, Pv i acc H → acc.length ≤ i)
    (hgo : ∀ i acc H, i < k → Pv i acc H → J.go i H) (hst : ∀ acc H, Pv k acc H → J.stop k H)
    (hs : ∀ i acc H2 x H3, i < k → Pv i acc H2 → J.yld i H2 x H3 → g x (inSt n fr σ) H3 fun σ4 H4 => tt σ4 H4 fun b H5 => if b = true then te σ4 H5 fun v H6 => Pv (i + 1) (acc ++ [v]) H6 else Pv (i + 1) acc H5)
    (hd : ∀ acc H2, Pv k acc H2 → ∀ l, H2 l = none → Q (.ref l) (upd H2 l (.lst acc))) :
    CompW J n fr g tt te σ H Q := by
  refine ⟨fun i m acc H => m = k - i ∧ i ≤ k ∧ Pv i acc H, ⟨k, by simp, Nat.zero_le _, h0⟩, ?_⟩
  rintro i m acc H2 ⟨rfl, hi, p⟩
  have hl := hlen i acc H2 p
  refine ⟨by omega, ?_⟩
  by_cases hlt : i < k
  · exact .inr ⟨hgo i acc H2 hlt p, Pv (i + 1), fun acc' H' p' => ⟨k - (i + 1), by omega, rfl, hlt, p'⟩, fun x H3 y => hs i acc H2 x H3 hlt p y⟩
  · have e : i = k := by omega
    subst e
    exact .inl ⟨hst acc H2 p, hd acc H2 p⟩
def comp_range {lo : Int} {n k : Nat} {fr : List Nat} {g : TG} {tt : TT} {te : TE} {σ : St} {H : Hp} {Q : VK} (Pv : Nat → List V → Hp → Prop) (hk : k < sizeLine) (h0 : Pv 0 [] H) (hlen : ∀ i acc H, Pv i acc H → acc.length ≤ i)
    (hs : ∀ i acc H2, i < k → Pv i acc H2 → g (.int (lo + i)) (inSt n fr σ) H2 fun σ4 H4 => tt σ4 H4 fun b H5 => if b = true then te σ4 H5 fun v H6 => Pv (i + 1) (acc ++ [v]) H6 else Pv (i + 1) acc H5)
    (hd : ∀ acc H2, Pv k acc H2 → ∀ l, H2 l = none → Q (.ref l) (upd H2 l (.lst acc))) :=
  comp_gen (J := Itr lo k) (n := n) (fr := fr) (g := g) (tt := tt) (te := te) (σ := σ) (Q := Q) Pv hk h0 hlen (fun _ _ _ h _ => h) (fun _ _ _ => Nat.le_refl _) (fun i acc H2 x H3 hi p y => by
    obtain ⟨e1, e2⟩ := y
    subst e1 e2
    exact hs i acc _ hi p) hd
def comp_list {K : PySem.W.Frag} {a : Addr} {xs : List V} {n : Nat} {fr : List Nat} {g : TG} {tt : TT} {te : TE} {σ : St} {H : Hp} {Q : VK} (Pv : Nat → List V → Hp → Prop) (hk : xs.length < sizeLine) (h0 : Pv 0 [] H) (hlen : ∀ i acc H, Pv i acc H → acc.length ≤ i)
    (hl : ∀ i acc H, Pv i acc H → SqL K H a xs)
    (hs : ∀ i acc H2 x, xs[i]? = some x → Pv i acc H2 → g x (inSt n fr σ) H2 fun σ4 H4 => tt σ4 H4 fun b H5 => if b = true then te σ4 H5 fun v H6 => Pv (i + 1) (acc ++ [v]) H6 else Pv (i + 1) acc H5)
    (hd : ∀ acc H2, Pv xs.length acc H2 → ∀ l, H2 l = none → Q (.ref l) (upd H2 l (.lst acc))) :=
  comp_gen (J := Itl K a) (n := n) (fr := fr) (g := g) (tt := tt) (te := te) (σ := σ) (Q := Q) Pv hk h0 hlen (fun i acc H hi p => ⟨xs, xs[i], hl i acc H p, by simp [hi]⟩) (fun acc H p => ⟨xs, hl _ acc H p, Nat.le_refl _⟩) (fun i acc H2 x H3 hi p y => by
    obtain ⟨e1, e2⟩ := y
    subst e1
    exact hs i acc _ x (e2 xs (hl i acc _ p)) p) hd
end L2
namespace L2
open PySem PySem.Spec PyProof.Rows
def Its (cs : List Nat) : It := ⟨fun i _ => i < cs.length, fun i H x H' => H' = H ∧ ∃ c, cs[i]? = some c ∧ x = .str ⟨#[c]⟩, fun i _ => cs.length ≤ i⟩
theorem turn_str {P : Program} {w : World} {K : PySem.W.Frag} {tg : Expr} (it : Addr) (ty : String) (hty : ty = "str_ascii_iterator" ∨ ty = "str_iterator") (x : Str) (t : Tok) :
    Turn P w K tg (Its x.cps.toList) [it] it (fun i h => h.IsStrIter it ty x t i) where
  mem := by simp
  obj := fun i h st b hb => by
    rw [List.mem_singleton.mp hb]
    obtain ⟨o, e, c, d⟩ := st
    exact ⟨o, e, fun v z => by rw [d] at z; cases z⟩
  keep := fun i h h' st k => by
    obtain ⟨o, e, r⟩ := st
    exact ⟨o, k it (by simp) o e, r⟩
  item := by
    intro X hP hw hK hc i pins s σ H E I hf st hg
    subst hP hw hK
    have hlt : i < x.cps.toList.length := hg
    obtain ⟨f0, f1, f2, f3, f4, f5⟩ := hf it (by simp)
    have hx : x.cps[i]? = some (x.cps.toList[i]) := by
      rw [← Array.getElem?_toList]
      exact List.getElem?_eq_getElem hlt
    have fin : ∀ h', h'.IsStrIter it ty x t (i + 1) → Heap.SameBut it s.heap h' → ∃ u, some (Value.str ⟨#[x.cps.toList[i]]⟩ s.toks) = some u ∧
        wpAny (model X.prog X.w) X.A (letOwnedTupleGo tg (.ref it) u) (fun _ s2 => ∃ y H', Inv X pins σ H' s2 ∧ RelV y u ∧ (Its x.cps.toList).yld i H y H' ∧ s2.heap.IsStrIter it ty x t (i + 1) ∧ ∀ b ∈ [it], H' b = none) E { s with heap := h', toks := s.toks + 1 } := fun h' st' sb => by
      have I1 : Inv X pins σ H { s with heap := h', toks := s.toks + 1 } := I.turned (fun b o hb e => (sb.2 b hb).trans e) f0 f1 f3 f4 f5
      obtain ⟨o, e, c, d⟩ := id st'
      refine ⟨_, rfl, go_of (s := { s with heap := h', toks := s.toks + 1 }) (n := ty) e c d (by rcases hty with z | z <;> subst z <;> decide) ⟨.str ⟨#[x.cps.toList[i]]⟩, H, I1, ⟨_, rfl⟩, ⟨rfl, _, List.getElem?_eq_getElem hlt, rfl⟩, st', fun b hb => (hf b hb).1⟩⟩
    rcases hty with z | z
    · subst z
      exact wpAny_pyNext_ascii_item st hx fun h' st' sb => fin h' st' sb
    · subst z
      exact wpAny_pyNext_wide_item st hx fun h' st' sb => fin h' st' sb
  done := by
    intro X hP hw hK hc i pins s σ H E I hf st hg
    subst hP hw hK
    have hle : x.cps.toList.length ≤ i := hg
    obtain ⟨f0, f1, f2, f3, f4, f5⟩ := hf it (by simp)
    have hx : x.cps[i]? = none := by
      rw [← Array.getElem?_toList]
      exact List.getElem?_eq_none_iff.mpr hle
    rcases hty with z | z
    · subst z
      exact wpAny_pyNext_ascii_end (I.ok.hd hc) st hx fun h' eb => ⟨rfl, I.turned (t' := s.toks) (fun b o hb e => eb b o hb e) f0 f1 f3 f4 f5⟩
    · subst z
      exact wpAny_pyNext_wide_end (I.ok.hd hc) st hx fun h' eb => ⟨rfl, I.turned (t' := s.toks) (fun b o hb e => eb b o hb e) f0 f1 f3 f4 f5⟩
  self := fun _ _ _ _ _ st h => by
    rcases hty with z | z
    · subst z
      exact wpAny_pyIter_striter_ascii st h
    · subst z
      exact wpAny_pyIter_striter_wide st h
section
variable {X : Cx} {tg e : Expr} {te : TE}
def iStr (te : TE) : TI := fun σ H R => te σ H fun v H1 => ∃ z, v = .str z ∧ R (Its z.cps.toList) H1
theorem pi_str (he : PE X e te) : PI X tg e (iStr te) := by
  intro pins s σ H R I h
  refine thn (he pins s σ H _ I h) fun v s1 ⟨x, H1, I1, r1, q1⟩ => ?_
  obtain ⟨z, e1, q⟩ := q1
  subst e1
  obtain ⟨t, rfl⟩ := r1
  have go : ∀ (ty : String), (ty = "str_ascii_iterator" ∨ ty = "str_iterator") → PIE X pins σ tg R (.ref s1.heap.objs.size) { s1 with heap := s1.heap.push { cls := .type ty, data := .fields #[.str z t, .int 0 0] } } := fun ty hty => by
    refine ⟨s1.heap.objs.size, [s1.heap.objs.size], _, _, H1, rfl, I1.kept (t' := s1.toks) fun b o e => Heap.get?_push_of_some _ e, turn_str _ ty hty z t, ⟨_, Heap.get?_push_size _ rfl, rfl, rfl⟩, fun b hb => ?_, q⟩
    rw [List.mem_singleton.mp hb]
    exact I1.fpOk (Nat.le_refl _) (I1.hok.fresh (Nat.le_refl _))
  cases ha : z.cps.all (· < 128) with
  | false => exact wpAny_pyIter_wide ha (go _ (.inr rfl))
  | true => exact wpAny_pyIter_ascii ha (go _ (.inl rfl))
end
theorem for_str {cs : List Nat} {g : TG} {tb : TS} {D : Ends} {σ : St} {H : Hp} (Pv : Nat → St → Hp → Prop) (h0 : Pv 0 σ H)
    (hs : ∀ i c σ H, cs[i]? = some c → Pv i σ H → g (.str ⟨#[c]⟩) σ H fun σ2 H2 => tb { D with nx := Pv (i + 1), ct := Pv (i + 1), bk := D.nx } σ2 H2) (hd : ∀ σ H, Pv cs.length σ H → D.nx σ H) :
    ∃ W : Nat → Nat → St → Hp → Prop, (∃ m, W 0 m σ H) ∧ ∀ i m σ H, W i m σ H →
      ((Its cs).stop i H ∧ D.nx σ H) ∨ ((Its cs).go i H ∧ ∃ N : St → Hp → Prop, (∀ σ' H', N σ' H' → ∃ m', m' < m ∧ W (i + 1) m' σ' H') ∧ ∀ x H', (Its cs).yld i H x H' → g x σ H' fun σ2 H2 => tb { D with nx := N, ct := N, bk := D.nx } σ2 H2) := by
  refine ⟨fun i m σ H => m = cs.length - i ∧ i ≤ cs.length ∧ Pv i σ H, ⟨cs.length, by simp, Nat.zero_le _, h0⟩, ?_⟩
  rintro i m σ H ⟨rfl, hi, p⟩
  by_cases hlt : i < cs.length
  · refine .inr ⟨hlt, Pv (i + 1), fun σ' H' p' => ⟨cs.length - (i + 1), by omega, rfl, hlt, p'⟩, fun x H' y => ?_⟩
    obtain ⟨e, c, hc, hx⟩ := y
    subst e hx
    exact hs i c σ _ hc p
  · have e : i = cs.length := by omega
    subst e
    exact .inl ⟨Nat.le_refl _, hd σ H p⟩
section
variable {X : Cx}
theorem strsAre_of : ∀ {ys : List Str} {us : List Value}, Vals (ys.map V.str) us → StrsAre us ys
  | [], us, r => by rw [List.map_nil] at r; cases r; exact .nil
  | y :: ys, us, r => by
    rw [List.map_cons] at r
    cases r with
    | cons r1 r2 =>
      obtain ⟨t, e⟩ := r1
      subst e
      exact .cons y t (strsAre_of r2)
theorem vals_strs : ∀ {us : List Value} {ys : List Str}, StrsAre us ys → Vals (ys.map V.str) us
  | _, _, .nil => .nil
  | _, _, .cons y t h => .cons ⟨t, rfl⟩ (vals_strs h)
def rJoin (K : PySem.W.Frag) : V → List V → Hp → VK → Prop := fun x xs H Q => ∃ z p ys, x = .str z ∧ xs = [.ref p] ∧ SqL K H p (ys.map V.str) ∧ (ys.map (·.length)).sum + ys.length * z.length ≤ 16777216 ∧ Q (.str (Txt.join z ys)) H
theorem mt_join : MtR X "str.join" (rJoin X.K) := by
  intro pins s σ H x xs v us Q I rx rs h
  obtain ⟨z, p, ys, rfl, rfl, hq, hz, q⟩ := h
  obtain ⟨t, rfl⟩ := rx
  obtain ⟨u, rfl, ru⟩ := rs.one
  cases ru
  obtain ⟨its, r, pl, _⟩ := I.list hq
  exact join_list pl.isList (by simpa using strsAre_of r) hz fun t' k => ⟨.str _, H, I.tok _, ⟨_, rfl⟩, q⟩
theorem join_nil_list (ys : List Str) : (Txt.join (Str.ofString "") ys).cps.toList = (ys.map fun y => y.cps.toList).flatten := by
    show (Builtin.Str.glued (Str.ofString "") ys).cps.toList = _
    rw [StrLaws.glued_eq_join]
    induction ys with
    | nil => rfl
    | cons y r ih =>
      cases r with
      | nil => simp [Str.join]
      | cons z r =>
        have e : Str.join (Str.ofString "") (y :: z :: r) = y ++ Str.ofString "" ++ Str.join (Str.ofString "") (z :: r) := rfl
        rw [e]
        have h0 : (Str.ofString "").cps = #[] := by decide +kernel
        show ((y.cps ++ (Str.ofString "").cps) ++ (Str.join (Str.ofString "") (z :: r)).cps).toList = _
        rw [h0, Array.append_empty, Array.toList_append, ih, List.map_cons, List.map_cons, List.flatten_cons]
        rfl
def rSlS : V → Option Int → Option Int → Hp → VK → Prop := fun x lo hi H Q => ∃ z, x = .str z ∧ z.length ≤ sizeLine ∧ Q (.str (Txt.slice z lo hi)) H
theorem sl_str : SlR X rSlS := by
  intro pins s σ H x v vl vu lo hi sl Q I rx hs pl pu h
  obtain ⟨z, rfl, hz, q⟩ := h
  obtain ⟨t, rfl⟩ := rx
  refine ⟨"str", _, F.slot_str_getitem.lookup, typeIs_str _ _ _, ?_⟩
  have fin : ∀ t' k, EP X pins σ Q (.str (Txt.slice z lo hi) t') { s with toks := k } := fun t' k => ⟨.str _, H, I.tok _, ⟨_, rfl⟩, q⟩
  have hle : (Txt.slice z lo hi).length ≤ sizeLine := Nat.le_trans (Txt.slice_le z _ _) hz
  cases pl with
  | none =>
    cases pu with
    | none => exact wpAny_getItem_str_slice (l := none) (u := none) (st := none) hs rfl (post_val_or_str ⟨hle, fin⟩)
    | int j uj => exact wpAny_getItem_str_slice (l := none) (u := some (j, uj)) (st := none) hs rfl (post_val_or_str ⟨hle, fin⟩)
  | int i ui =>
    cases pu with
    | none => exact wpAny_getItem_str_slice (l := some (i, ui)) (u := none) (st := none) hs rfl (post_val_or_str ⟨hle, fin⟩)
    | int j uj => exact wpAny_getItem_str_slice (l := some (i, ui)) (u := some (j, uj)) (st := none) hs rfl (post_val_or_str ⟨hle, fin⟩)
def repS (z : Str) (n : Nat) : Str := ⟨(List.replicate n z.cps.toList).flatten.toArray⟩
theorem foldl_arr (a : Array Nat) : ∀ (k : Nat) (acc : List Nat), List.foldl (fun x1 x2 => x1 ++ x2) acc.toArray (List.replicate k a) = (acc ++ (List.replicate k a.toList).flatten).toArray
  | 0, acc => by simp
  | k + 1, acc => by
    rw [List.replicate_succ, List.foldl_cons]
    have e : acc.toArray ++ a = (acc ++ a.toList).toArray := by simp
    rw [e, foldl_arr a k, List.replicate_succ, List.flatten_cons, List.append_assoc]
theorem op_mul_str : OpR X (binaryOp .Mult) (fun x y H Q => ∃ z n, x = .str z ∧ y = .int n ∧ 0 ≤ n ∧ n ≤ 1000 ∧ z.length ≤ 1000 ∧ Q (.str (repS z n.toNat)) H) := by
  intro pins s σ H x y v u Q I rx ry h
  obtain ⟨z, n, rfl, rfl, h0, h1, hz, q⟩ := h
  obtain ⟨t, rfl⟩ := rx
  obtain ⟨t', rfl⟩ := ry
  have hl : z.length * n.toNat ≤ 1000 * 1000 := Nat.mul_le_mul hz (by omega)
  have hline : sizeLine = 16777216 := sizeLine_eq
  have hlong : Builtin.Str.tooLong (z.length * n.toNat) = false := by
    unfold Builtin.Str.tooLong
    exact decide_eq_false (by omega)
  refine PySem.P.mul_str (by
      rw [decide_eq_false (by omega), decide_eq_false (by omega)]; rfl) (fun hn _ => ?_) (fun _ _ => hlong) ?_
  · have h2 : (2 ^ 63 - 1 : Int) / n ≥ 1000 := by
      refine Int.le_ediv_of_mul_le (by omega) ?_
      have : (1000 : Int) * n ≤ 1000 * 1000 := Int.mul_le_mul_of_nonneg_left h1 (by omega)
      omega
    omega
  · have rep0 : ∀ k, (⟨(List.replicate k z.cps).foldl (· ++ ·) #[]⟩ : Str) = repS z k := fun k => by
      have := foldl_arr z.cps k []
      rw [List.nil_append] at this
      exact congrArg Str.mk this
    have fin : ∀ (y : Str), y = repS z n.toNat → ∀ t2 k, EP X pins σ Q (.str y t2) { s with toks := k } := fun y e t2 k => by
      subst e
      exact ⟨.str _, H, I.tok _, ⟨_, rfl⟩, q⟩
    by_cases hn : n < 1
    · rw [if_pos hn]
      refine ⟨by decide, fin _ ?_ _ _⟩
      have : n.toNat = 0 := by omega
      rw [this]
      rfl
    · rw [if_neg hn]
      by_cases hb : (n == 1 || z.length == 0) = true
      · rw [if_pos hb]
        refine fin z ?_ t s.toks
        rcases Bool.or_eq_true_iff.mp hb with e | e
        · have : n = 1 := by simpa using e
          subst this
          show z = ⟨([z.cps.toList].flatten).toArray⟩
          simp
        · have e' : z.cps.size = 0 := by simpa [Str.length] using e
          have e2 : z.cps = #[] := Array.eq_empty_of_size_eq_zero e'
          unfold repS
          obtain ⟨c⟩ := z
          subst e2
          simp
      · rw [if_neg hb]
        refine ⟨?_, ?_⟩
        · rw [rep0]
          show ((List.replicate n.toNat z.cps.toList).flatten.toArray).size ≤ sizeLine
          rw [List.size_toArray, len_rep, Array.length_toList]
          have : n.toNat * z.cps.size = z.length * n.toNat := Nat.mul_comm _ _
          omega
        · exact fin _ (rep0 _) _ _
def rSortS (K : PySem.W.Frag) : List V → Hp → VK → Prop := fun xs H Q => ∃ p ys, xs = [.ref p] ∧ SqL K H p (ys.map V.str) ∧ ys.length < 64 ∧
  ∀ ys' l, ys'.Perm ys → sortedS ys' = true → H l = none → Q (.ref l) (upd H l (.lst (ys'.map V.str)))
theorem call_sorted_str : CallR X (.builtin "sorted") (rSortS X.K) := by
  intro pins s σ H xs us Q I r h
  obtain ⟨p, ys, rfl, hq, h64, q⟩ := h
  obtain ⟨u, rfl, ru⟩ := vals1 r
  cases ru
  obtain ⟨its, r', pl, hz⟩ := I.list hq
  have hlen := r'.length
  rw [List.length_map] at hlen hz
  refine sorted_strs pl.isList (strsAre_of r') (by omega) fun out ss' a1 a2 a3 => ?_
  obtain ⟨e, he⟩ := sortedAll_at s.heap its out
  have hn : H (s.heap.objs.size + 1) = none := I.hok.fresh (Nat.le_succ _)
  refine ⟨.ref (s.heap.objs.size + 1), upd H (s.heap.objs.size + 1) (.lst (ss'.map V.str)), I.laid (t' := s.toks) (fun _ _ => sortedAll_old) (Nat.le_succ _) ⟨?_, out.toList, e, vals_strs a1, ?_⟩, rfl, q ss' _ a2 a3 hn⟩
  · rw [List.length_map, a2.length_eq]
    exact hz
  · simpa [seqObj] using he
def oneS (c : Nat) : V := .str ⟨#[c]⟩
theorem vals_signs {x : Str} : ∀ (us : List Value) (k : Nat), (∀ i v, us[i]? = some v → SignAt x (k + i) v) → us.length + k = x.cps.toList.length → Vals ((x.cps.toList.drop k).map oneS) us
  | [], k, _, hl => by
    rw [List.drop_eq_nil_of_le (by simpa using Nat.le_of_eq hl.symm)]
    exact .nil
  | u :: us, k, h, hl => by
    have hk : k < x.cps.toList.length := by
      simp only [List.length_cons] at hl
      omega
    rw [List.drop_eq_getElem_cons hk, List.map_cons]
    refine .cons ?_ (vals_signs us (k + 1) (fun i v e => ?_) (by simp only [List.length_cons] at hl; omega))
    · obtain ⟨c, t, hc, rfl⟩ := h 0 u rfl
      have hc' : x.cps.toList[k]? = some c := by
        rw [Array.getElem?_toList]
        exact hc
      rw [List.getElem?_eq_getElem hk] at hc'
      rw [Option.some.inj hc']
      exact ⟨t, rfl⟩
    · have := h (i + 1) v e
      rw [show k + 1 + i = k + (i + 1) by omega]
      exact this
theorem call_list_text (hc : X.calm = true) : CallR X (.type "list") (fun xs H Q => ∃ z, xs = [.str z] ∧ z.length ≤ sizeLine ∧ ∀ l, H l = none → Q (.ref l) (upd H l (.lst (z.cps.toList.map oneS)))) := by
  intro pins s σ H xs us Q I r h
  obtain ⟨z, rfl, hz, q⟩ := h
  obtain ⟨u, rfl, t, rfl⟩ := vals1 r
  refine call_list_str (hn := hz) (I.ok.hd hc) z t fun h' tk acc c kp e it => ?_
  refine ⟨.ref s.heap.objs.size, _, I.laid kp (Nat.le_refl _) (show ObjOk X.prog X.w _ h' _ (.lst (z.cps.toList.map oneS)) from ⟨by rw [List.length_map]; simpa [Str.length] using hz, acc.toList, c, ?_, by simpa using e⟩), rfl, q _ (I.hok.fresh (Nat.le_refl _))⟩
  have e1 := vals_signs (x := z) acc.toList 0 (fun i v e => by rw [Nat.zero_add]; exact it.2 i v (by rw [← Array.getElem?_toList]; exact e)) (by rw [Array.length_toList, it.1, Nat.add_zero, Array.length_toList])
  rw [List.drop_zero] at e1
  exact e1
def rFind3 : V → List V → Hp → VK → Prop := fun x xs H Q => ∃ z y i, x = .str z ∧ xs = [.str y, .int i] ∧ Q (.int (Txt.find3 z y i)) H
theorem mt_find3 : MtR X "str.find" rFind3 := by
  intro pins s σ H x xs v us Q I rx rs h
  obtain ⟨z, y, i, rfl, rfl, q⟩ := h
  obtain ⟨t, rfl⟩ := rx
  obtain ⟨u1, u2, rfl, ⟨t1, rfl⟩, ⟨t2, rfl⟩⟩ := rs.two
  exact SC.find3 ⟨.int _, H, I.tok _, ⟨_, rfl⟩, q⟩
end
end L2
namespace L2
open PySem PySem.Spec PyProof.Rows
def tCut (t u : TS) : TS := fun D σ H => ∃ P : St → Hp → Prop, t { D with nx := P } σ H ∧ ∀ σ' H', P σ' H' → u D σ' H'
theorem pss_cut {X : Cx} {st : Stmt} {rest : List Stmt} {t u : TS} (h1 : PS X st t) (h2 : PSs X rest u) : PSs X (st :: rest) (tCut t u) := by
  intro pins s σ H D I h
  obtain ⟨P, q, k⟩ := h
  have z : PSs X (st :: rest) (tSeq (fun D' σ' H' => D' = D ∧ σ' = σ ∧ H' = H) (fun _ _ _ => True)) → True := fun _ => True.intro
  exact pss_cons (t := fun D' σ' H' => t { D' with nx := P } σ' H' ∧ ∀ σ2 H2, P σ2 H2 → D'.nx σ2 H2) (u := u) (fun pins s σ H D I h => by
    refine thn (h1 pins s σ H _ I h.1) fun f s' r => ?_
    cases f with
    | next =>
      obtain ⟨σ', H', I', p⟩ := r
      exact ⟨σ', H', I', h.2 σ' H' p⟩
    | brk => exact r
    | cont => exact r
    | ret v => exact r) h2 pins s σ H D I ⟨q, k⟩
structure Cal (P : Program) (w : World) (K : PySem.W.Frag) (mg : Str → Option Value) (base : Heap) (x : Str) (k : Nat) (ps : List Str) (sp : Sp) where
  f : Addr
  fd : FuncData
  ok : FnOk P w K mg base CX0 k f fd ps sp
  at_ : mg x = some (.ref f)
  kp : PySem.W.keepIn K (.ref f) = true
  b : Binds K fd ps []
theorem pe_c {X : Cx} {x : Str} {k : Nat} {ps : List Str} {sp : Sp} {p pos : Pos} {e : Expr} {es : List Expr} {t : TA} (C : Cal X.prog X.w X.K X.mg X.base x k ps sp) (hr : Room k X.A) (ha : PA X (e :: es) t) (hg : Gl X x := by rfl)
    (hdb : (x == ("__debug__" : Str)) = false := by decide) (he : starEach (e :: es) X.env = (false, eval e X.env) :: starEach es X.env := by rfl) (hpl : (backTo pos (starEach es X.env)).any (·.1) = false := by rfl) :
    PE X (.Call (.Name x p) (e :: es) [] pos) (tCall sp [] E0 t) := pe_call C.ok hr hg C.at_ C.kp C.b .nil pass0 ha hdb he hpl
section
variable {X : Cx}
end
theorem lt_one (a b : Nat) : decide (([a] : List Nat) < [b]) = decide (a < b) := by
  rw [Bool.eq_iff_iff, decide_eq_true_eq, decide_eq_true_eq]
  constructor
  · intro h
    cases h with
    | rel h => exact h
    | cons h => cases h
  · intro h
    exact List.Lex.rel h
section
variable {X : Cx} {K : PySem.W.Frag}
def rLenQ (K : PySem.W.Frag) : List V → Hp → VK → Prop := fun xs H Q => ∃ p ys, xs = [V.ref p] ∧ (SqL K H p ys ∨ SqT K H p ys) ∧ Q (.int ys.length) H
def rListQ (K : PySem.W.Frag) : List V → Hp → VK → Prop := fun xs H Q => ∃ p ys, xs = [V.ref p] ∧ (SqL K H p ys ∨ SqT K H p ys) ∧ ∀ l, H l = none → Q (.ref l) (upd H l (.lst ys))
def rTupQ (K : PySem.W.Frag) : List V → Hp → VK → Prop := fun xs H Q => ∃ p ys, xs = [V.ref p] ∧ ((SqL K H p ys ∧ ∀ l, H l = none → Q (.ref l) (upd H l (.tup ys))) ∨ (SqT K H p ys ∧ Q (.ref p) H))
theorem ix_listK (hK : X.K = K := by rfl) : IxR X (rIxL K) := by subst hK; exact ix_list
theorem ix_tupK (hK : X.K = K := by rfl) : IxR X (rIxT K) := by subst hK; exact ix_tup
theorem call_lenK (hK : X.K = K := by rfl) : CallR X (.builtin "len") (rLenQ K) := by subst hK; exact call_len_seq
theorem call_listK (hK : X.K = K := by rfl) : CallR X (.type "list") (rListQ K) := by subst hK; exact call_list_of
theorem call_tupK (hK : X.K = K := by rfl) : CallR X (.type "tuple") (rTupQ K) := by subst hK; exact call_tuple_of
theorem call_sortK (hK : X.K = K := by rfl) : CallR X (.builtin "sorted") (rSortS K) := by subst hK; exact call_sorted_str
theorem op_catTK (hK : X.K = K := by rfl) : OpR X (binaryOp .Add) (rCatT K) := by subst hK; exact op_catT
theorem sl_tupK (hK : X.K = K := by rfl) : SlR X (rSlT K) := by subst hK; exact sl_tup
theorem mt_joinK (hK : X.K = K := by rfl) : MtR X "str.join" (rJoin K) := by subst hK; exact mt_join
theorem pi_listK {tg l : Expr} {tl : TE} (hl : PE X l tl) (hK : X.K = K := by rfl) : PI X tg l (iList K tl) := by subst hK; exact pi_list hl
theorem pe_bm0K {o : Expr} {to : TE} {name : Str} {apos cpos : Pos} {T id : String} {r : V → List V → Hp → VK → Prop} (pa : PlainAttrs T) (slot : Slot T name id) (hty : typeOf (.builtin id) = pure (.type "method_descriptor")) (hm : MtR X id r) (ho : PE X o to) (hK : X.K = K := by rfl)
    (hbase : attributeBase o name X.env (eval o X.env) = eval o X.env := by rfl) (hline : (apos.endLine == cpos.line) = true := by rfl) : PE X (.Call (.Attribute o name apos) [] [] cpos) (tBM0 K T r to) := by subst hK; exact pe_bm0 pa slot hty hm ho hbase hline
theorem pe_bmK {o e : Expr} {es : List Expr} {to : TE} {t : TA} {name : Str} {apos cpos : Pos} {T id : String} {r : V → List V → Hp → VK → Prop} (pa : PlainAttrs T) (slot : Slot T name id) (hty : typeOf (.builtin id) = pure (.type "method_descriptor")) (hm : MtR X id r) (ho : PE X o to)
    (ha : PA X (e :: es) t) (hK : X.K = K := by rfl) (hbase : attributeBase o name X.env (eval o X.env) = eval o X.env := by rfl)
    (hfew : ((backTo cpos (starEach (e :: es) X.env)).all (fun x => !x.1) && (backToKw cpos (keywordEach [] X.env)).all (fun x => x.1.isSome)
      && decide ((e :: es).length + ([] : List Keyword).length + (if ([] : List Keyword).isEmpty then 0 else 1) < 30)) = true := by rfl)
    (hline : (apos.endLine == cpos.line) = true := by rfl) (hs : starEach (e :: es) X.env = (false, eval e X.env) :: starEach es X.env := by rfl) (hplain : (backTo cpos (starEach es X.env)).any (·.1) = false := by rfl) :
    PE X (.Call (.Attribute o name apos) (e :: es) [] cpos) (tBM K T r to t) := by subst hK; exact pe_bm pa slot hty hm ho ha hbase hfew hline hs hplain
end
theorem slice_ix (lo hi : Option Int) (n : Nat) : Builtin.Str.strSliceIndices lo hi 1 n = (List.range (HT.sIx n n hi - HT.sIx n 0 lo)).map (HT.sIx n 0 lo + ·) := by
  obtain ⟨h1, h2, h3⟩ := slice_bounds lo hi n
  have e : Builtin.Str.strSliceIndices lo hi 1 n = sliceRange (sliceBounds lo hi none n).1 (sliceBounds lo hi none n).2.1 (sliceBounds lo hi none n).2.2 := by
    cases lo <;> cases hi <;> rfl
  rw [e, h1, h2, h3, sliceRange_one]
theorem slice_list (z : Str) (lo hi : Option Int) : (Txt.slice z lo hi).cps.toList = (z.cps.toList.drop (HT.sIx z.length 0 lo)).take (HT.sIx z.length z.length hi - HT.sIx z.length 0 lo) := by
  unfold Txt.slice
  rw [slice_ix]
  by_cases hc : ((1 : Int) == 1 && ((List.range (HT.sIx z.length z.length hi - HT.sIx z.length 0 lo)).map (HT.sIx z.length 0 lo + ·)).length == z.length) = true
  · rw [if_pos hc]
    simp only [Bool.and_eq_true, List.length_map, List.length_range, beq_iff_eq, true_and] at hc
    have h1 := HT.sIx_le z.length 0 (Nat.zero_le _) lo
    have h2 := HT.sIx_le z.length z.length (Nat.le_refl _) hi
    have hl : z.cps.toList.length = z.length := by simp [Str.length]
    by_cases h0 : z.length = 0
    · have : z.cps.toList = [] := List.eq_nil_of_length_eq_zero (by omega)
      rw [this]
      simp
    · have e0 : HT.sIx z.length 0 lo = 0 := by omega
      rw [e0, List.drop_zero, List.take_of_length_le (by omega)]
  · rw [if_neg hc]
    rw [pick_run]
theorem bt_len : bootBuiltins "len" = some (.builtin "len") := by decide +kernel
theorem bt_sorted : bootBuiltins "sorted" = some (.builtin "sorted") := by decide +kernel
theorem bt_max : bootBuiltins "max" = some (.builtin "max") := by decide +kernel
theorem bt_list : bootBuiltins "list" = some (.type "list") := by decide +kernel
theorem bt_tuple : bootBuiltins "tuple" = some (.type "tuple") := by decide +kernel
theorem bt_int : bootBuiltins "int" = some (.type "int") := by decide +kernel
theorem bt_reversed : bootBuiltins "reversed" = some (.type "reversed") := by decide +kernel
theorem bt_set : bootBuiltins "set" = some (.type "set") := by decide +kernel
theorem cyes {i : Nat} {x : V} {σ : St} {H : Hp} {te : TE} {Nt : VK} {Nf : Hp → Prop} (h : te (σ.set i (some x)) H Nt) : gName i x σ H fun σ4 H4 => tYes σ4 H4 fun b H5 => if b = true then te σ4 H5 Nt else Nf H5 := by
  show if true = true then te (σ.set i (some x)) H Nt else Nf H
  exact iteT h
theorem same_new {H : Hp} {p : Addr} (h : H p = none) (o : HO) : Same H (upd H p o) := fun b u q => by rw [upd_ne (ne_of_none q h)]; exact q
theorem line_le {n : Nat} (h : n ≤ 1000) : n ≤ sizeLine := Nat.le_of_lt (small1000 h)
def FlowXs (sc : Addr) (xs : List V) : Prop := ∃ a b c d : Int, xs = [.ref sc, .int a, .int b, .int c, .int d] ∧ 0 ≤ a ∧ 0 ≤ b ∧ 0 ≤ c ∧ c < 2147483647 ∧ 0 ≤ d
structure FlowAt (H : Hp) (p sc : Addr) : Prop where
  here : ∃ xs, H p = some (.lst xs) ∧ FlowXs sc xs
  cells : ∃ ns : List Int, H sc = some (.lst (ns.map V.int))
theorem FlowAt.ne {H : Hp} {p sc : Addr} (F : FlowAt H p sc) : sc ≠ p := by
  obtain ⟨xs, h1, a, b, c, d, e, _⟩ := F.here
  obtain ⟨ns, h2⟩ := F.cells
  refine ne_of h2 h1 fun z => ?_
  have z' : ns.map V.int = xs := by injection z
  rw [e] at z'
  cases ns with
  | nil => cases z'
  | cons n r =>
    rw [List.map_cons] at z'
    injection z' with z1
    cases z1
theorem FlowAt.go {H : Hp} {p sc : Addr} {xs : List V} (F : FlowAt H p sc) (h : FlowXs sc xs) : FlowAt (upd H p (.lst xs)) p sc := by
  obtain ⟨ns, h2⟩ := F.cells
  exact ⟨⟨xs, upd_same, h⟩, ns, by rw [upd_ne F.ne]; exact h2⟩
def Drew (H H' : Hp) (p : Addr) : Prop := ∀ b o, H b = some o → b ≠ p → H' b = some o
theorem FlowAt.same {H H' : Hp} {p sc : Addr} (F : FlowAt H p sc) (e : Same H H') : FlowAt H' p sc := by
  obtain ⟨xs, h1, h2⟩ := F.here
  obtain ⟨ns, h3⟩ := F.cells
  exact ⟨⟨xs, e _ _ h1, h2⟩, ns, e _ _ h3⟩
theorem Drew.refl (H : Hp) (p : Addr) : Drew H H p := fun _ _ h _ => h
theorem Drew.trans {H H1 H2 : Hp} {p : Addr} (a : Drew H H1 p) (b : Drew H1 H2 p) : Drew H H2 p := fun c o h n => b c o (a c o h n) n
theorem Drew.upd {H : Hp} {p : Addr} (o : HO) : Drew H (upd H p o) p := fun b u h n => by rw [upd_ne n]; exact h
theorem Drew.same {H H' : Hp} {p : Addr} (h : Same H H') : Drew H H' p := fun b o e _ => h b o e
def spFlow (K : PySem.W.Frag) : Sp := fun vs H Q _ => ∃ (a : Addr) (ns : List Int), vs = [.ref a] ∧ SqL K H a (ns.map V.int) ∧ ∀ p sc H', H p = none → Same H H' → FlowAt H' p sc → Q (.ref p) H'
def spPick : Sp := fun vs H Q _ => ∃ (p sc : Addr) (m : Int), vs = [.ref p, .int m] ∧ 0 < m ∧ m < 1073741824 ∧ FlowAt H p sc ∧ ∀ r xs, 0 ≤ r → r < m → FlowXs sc xs → Q (.int r) (upd H p (.lst xs))
def IsLetters (z : Str) (n : Nat) : Prop := z.cps.toList.length = n ∧ z.cps.toList.Pairwise (· < ·) ∧ ∀ c ∈ z.cps.toList, 97 ≤ c ∧ c ≤ 122
def spLetters : Sp := fun vs H Q _ => ∃ (p sc : Addr) (m : Int), vs = [.ref p, .int m] ∧ 0 ≤ m ∧ m ≤ 26 ∧ FlowAt H p sc ∧ ∀ z H', IsLetters z m.toNat → Drew H H' p → FlowAt H' p sc → Q (.str z) H'
def spWord : Sp := fun vs H Q _ => ∃ (p sc : Addr) (l : Str) (m : Int), vs = [.ref p, .str l, .int m] ∧ 0 < l.length ∧ l.length ≤ 1000 ∧ 0 ≤ m ∧ m ≤ 100 ∧ FlowAt H p sc ∧
  ∀ z H', (z.cps.toList.length : Int) ≤ m → (∀ c ∈ z.cps.toList, c ∈ l.cps.toList) → Drew H H' p → FlowAt H' p sc → Q (.str z) H'
inductive Dt where
  | non | bl (b : Bool) | int (i : Int) | str (x : Str) | lst (ds : List Dt) | tup (ds : List Dt)
def Dt.dep : Dt → Nat
  | .lst ds => (ds.map Dt.dep).foldr max 0 + 1
  | .tup ds => (ds.map Dt.dep).foldr max 0 + 1
  | _ => 0
inductive Den (H : Hp) : V → Dt → Prop where
  | non : Den H .non .non
  | bl (b : Bool) : Den H (.bl b) (.bl b)
  | int (i : Int) : Den H (.int i) (.int i)
  | str (x : Str) : Den H (.str x) (.str x)
  | lst {a : Addr} {xs : List V} {ds : List Dt} (h : H a = some (.lst xs)) (hz : xs.length ≤ 1000000) (hl : xs.length = ds.length) (hd : ∀ (i : Nat) x d, xs[i]? = some x → ds[i]? = some d → Den H x d) : Den H (.ref a) (.lst ds)
  | tup {a : Addr} {xs : List V} {ds : List Dt} (h : H a = some (.tup xs)) (hz : xs.length ≤ 1000000) (hl : xs.length = ds.length) (hd : ∀ (i : Nat) x d, xs[i]? = some x → ds[i]? = some d → Den H x d) : Den H (.ref a) (.tup ds)
theorem Den.same {H H' : Hp} (e : Same H H') {v : V} {d : Dt} (h : Den H v d) : Den H' v d := by
  induction h with
  | non => exact .non
  | bl b => exact .bl b
  | int i => exact .int i
  | str x => exact .str x
  | lst h hz hl hd ih => exact .lst (e _ _ h) hz hl ih
  | tup h hz hl hd ih => exact .tup (e _ _ h) hz hl ih
end L2
namespace L2
open PySem PySem.Spec PyProof.Rows
section
variable {X : Cx} {tg : Expr}
end
def tTru (K : PySem.W.Frag) (ta : TE) : TT := fun σ H Q => ta σ H fun x H' => ∃ k, TruV K x H' k ∧ Q k H'
theorem pt_truthK {X : Cx} {K : PySem.W.Frag} {a : Expr} {ta : TE} (ha : PE X a ta) (he : ∀ whole, isTrue a X.env whole = (do let v ← whole; standAt a.pos; holding [v] (truthy v))) (hK : X.K = K := by rfl) : PT X a (tTru K ta) := by
  subst hK
  exact pt_truth ha he
end L2
namespace L2
open PySem PySem.Spec PyProof.Rows
def EntS (w : World) (e : Int × Value) : Prop := ∃ y u, e = (hashStr w y, Value.str y u)
def keyS (e : Int × Value) : Str := strOf e.2
def SetTx (w : World) (o : Obj) (D : List Str) (n : Nat) : Prop :=
  ∃ (es : Array (Int × Value)) (ep : Nat) (t : SetTable), o = { cls := .type "set", dict := none, data := .set es ep t } ∧ (∀ e ∈ es.toList, EntS w e) ∧
    (es.toList.map keyS).Nodup ∧ (∀ y, y ∈ es.toList.map keyS ↔ y ∈ D) ∧ es.size ≤ n ∧ t.fits es.size = true ∧ t.led = !w.params.followText "set-order" ∧ (es.size = 0 ∨ t.plain = false)
theorem lay_marks (t : SetTable) (es : Array (Int × Value)) (h : Int) (x : Value) : (layNew t es h x).2.1.led = t.led ∧ (t.plain = false → (layNew t es h x).2.1.plain = false) := by
  unfold layNew
  split
  · dsimp only
    unfold SetTable.orStandIn
    split
    · exact ⟨rfl, fun z => z⟩
    · exact ⟨rfl, fun _ => rfl⟩
  · exact ⟨rfl, fun _ => rfl⟩
theorem relay_marks (t : SetTable) (es : Array (Int × Value)) (n : Nat) : (relayAll t es n).2.1.led = t.led ∧ (t.plain = false → (relayAll t es n).2.1.plain = false) := by
  unfold relayAll
  split
  · rename_i t' order hr
    dsimp only
    split
    · unfold SetTable.relaid SetTable.laid at hr
      cases hl : SetTable.layClean (SetTable.sizeAbove n - 1) (es.map (·.1)) with
      | none => rw [hl] at hr; cases hr
      | some ow =>
        rw [hl] at hr
        have e := Option.some.inj hr
        have e1 : t'.led = t.led := by rw [← (Prod.mk.inj e).1]
        have e2 : t'.plain = t.plain := by rw [← (Prod.mk.inj e).1]
        exact ⟨e1, fun z => e2.trans z⟩
    · exact ⟨rfl, fun _ => rfl⟩
  · exact ⟨rfl, fun _ => rfl⟩
section
variable {P : Program} {w : World} {A : Around} {E : Value → Shared → Prop} {s : Shared}
theorem elems_of {es : List (Int × Value)} (h : ∀ e ∈ es, EntS w e) : ElemsOf (strKind P w) es := fun e he => by
  obtain ⟨y, u, rfl⟩ := h e he
  exact ⟨⟨y, by show Value.isStrOf y (.str y u) = true; simp [Value.isStrOf], rfl⟩, rfl⟩
theorem store_text {a : Addr} {es es' : Array (Int × Value)} {ep : Nat} {t t' : SetTable} {Q : Unit → Shared → Prop} (ho : s.heap.get? a = some { cls := .type "set", dict := none, data := .set es ep t }) (hz : es'.size ≤ 4096)
    (h : ∀ h', Heap.SameBut a s.heap h' → h'.get? a = some { cls := .type "set", dict := none, data := .set es' (ep + 1) t' } → Q () { s with heap := h' }) : wpAny (model P w) A (storeSet a es' t') Q E s := by
  refine wpAny_storeSet_of ho rfl (h _ (Heap.SameBut.update _ _ _) ?_) (Nat.le_trans hz (by rw [sizeLine_eq]; omega))
  have e := Heap.get?_update_self (Obj.putSet es' t') ho (by rw [putSet_of es' t' rfl]; rfl)
  rw [putSet_of es' t' rfl] at e
  exact e
theorem tail_text {g : Bool → Sem Unit} (hg : ∀ (b : Bool) (s₁ : Shared) (Q' : Unit → Shared → Prop), Q' () s₁ → wpAny (model P w) A (g b) Q' E s₁) {a : Addr} {es es1 : Array (Int × Value)} {ep : Nat} {t t2 : SetTable}
    (ho : s.heap.get? a = some { cls := .type "set", dict := none, data := .set es ep t }) (hz : es1.size ≤ 4096) (hf : t2.fits es1.size = true) {wd : Bool} {R : Option Bool → Shared → Prop}
    (h : ∀ h' es2 ep2 t3, Heap.SameBut a s.heap h' → h'.get? a = some { cls := .type "set", dict := none, data := .set es2 ep2 t3 } → es2.toList.Perm es1.toList → t3.fits es2.size = true → t3.led = t2.led → (t2.plain = false → t3.plain = false) →
      R (some true) { s with heap := h' }) :
    wpAny (model P w) A (do
      storeSet a es1 t2
      if (!wd && t2.tooFull) = true then do
        g (relayAll t2 es1 (SetTable.grown es1.size)).2.2
        storeSet a (relayAll t2 es1 (SetTable.grown es1.size)).1
          (relayAll t2 es1 (SetTable.grown es1.size)).2.1
        pure (some true)
      else pure (some true)) R E s := by
  refine wpAny_bind (store_text ho hz fun h1 sb1 e1 => ?_)
  split
  · have hp := relayAll_perm t2 es1 (SetTable.grown es1.size)
    have hfr := relayAll_fits t2 es1 (SetTable.grown es1.size)
    have hmk := relay_marks t2 es1 (SetTable.grown es1.size)
    generalize hRl : relayAll t2 es1 (SetTable.grown es1.size) = Rl at hp hfr hmk ⊢
    obtain ⟨es2, t3, gv⟩ := Rl
    dsimp only at hp hfr hmk ⊢
    have hsz : es2.size = es1.size := by rw [← Array.length_toList, hp.length_eq, Array.length_toList]
    refine wpAny_bind (hg _ _ _ ?_)
    refine wpAny_bind (store_text (s := { s with heap := h1 }) e1 (by rw [hsz]; exact hz) fun h2 sb2 e2 => ?_)
    exact wpAny_pure (h h2 _ _ _ (sb1.trans sb2) e2 hp hfr hmk.1 hmk.2)
  · exact wpAny_pure (h h1 _ _ _ sb1 e1 (List.Perm.refl _) hf rfl fun z => z)
theorem key_is {es : List (Int × Value)} (h : ∀ e ∈ es, EntS w e) {e : Int × Value} (he : e ∈ es) (y : Str) : (strKind P w).is y e.2 = true ↔ keyS e = y := by
  obtain ⟨z, u, rfl⟩ := h e he
  show Value.isStrOf y (.str z u) = true ↔ z = y
  simp only [Value.isStrOf, beq_iff_eq]
theorem add_text {a : Addr} {o : Obj} {D : List Str} {n : Nat} {Q : Bool → Shared → Prop} (ho : s.heap.get? a = some o) (hS : SetTx w o D n) (hb : n + 1 < 4096) (y : Str) (u : Tok)
    (h : ∀ b h' o', Heap.SameBut a s.heap h' → h'.get? a = some o' → SetTx w o' (D ++ [y]) (n + 1) → Q b { s with heap := h' }) : wpAny (model P w) A (setAddHashed a (.str y u) (hashStr w y)) Q E s := by
  obtain ⟨es, ep, t, rfl, hen, hnd, hmem, hsz, hf, hled, hpl⟩ := hS
  have hel : ElemsOf (strKind P w) es.toList := elems_of hen
  have hbs : es.size < scanBound := by show es.size < 4096; omega
  have hkey : (strKind P w).is y (.str y u) = true := by show Value.isStrOf y (.str y u) = true; simp [Value.isStrOf]
  unfold setAddHashed setAddHashedIn
  refine wpAny_holding (wpAny_bind (wpAny_setState_of ho rfl hf ?_))
  dsimp only
  rw [byScan_of (knd := strKind P w) (x := .str y u) rfl hbs hel]
  simp only [↓reduceIte]
  unfold setAddByScan
  refine wpAny_bind (wpAny_bind (wpAny_rule (wpAny_bind ?_)))
  refine wpAny_setScan_of (knd := strKind P w) (k := y) hkey ho rfl hf hel ?_
  have hfi : ∀ r, es.toList.findIdx? (fun e => (strKind P w).is y e.2) = r → r.isSome = decide (y ∈ es.toList.map keyS) := fun r hr => by
    subst hr
    rw [Bool.eq_iff_iff, decide_eq_true_eq, List.findIdx?_isSome, List.any_eq_true, List.mem_map]
    exact ⟨fun ⟨e, he, z⟩ => ⟨e, he, (key_is (P := P) hen he y).mp z⟩, fun ⟨e, he, z⟩ => ⟨e, he, (key_is (P := P) hen he y).mpr z⟩⟩
  cases hr : es.toList.findIdx? (fun e => (strKind P w).is y e.2) with
  | some j =>
    have hin : y ∈ es.toList.map keyS := of_decide_eq_true (hfi _ hr).symm
    dsimp only
    refine wpAny_pure (wpAny_pure ?_)
    refine h _ s.heap _ (Heap.SameBut.refl a s.heap) ho ⟨es, ep, t, rfl, hen, hnd, fun z => ?_, by omega, hf, hled, hpl⟩
    rw [hmem z, List.mem_append, List.mem_singleton]
    exact ⟨.inl, fun z => z.elim id fun e => e ▸ (hmem y).mp hin⟩
  | none =>
    have hout : y ∉ es.toList.map keyS := fun z => by
      have := hfi _ hr
      rw [decide_eq_true z] at this
      cases this
    dsimp only
    have hperm := layNew_perm t es (hashStr w y) (.str y u)
    have hfits := layNew_fits t es (hashStr w y) (.str y u)
    have hmk := lay_marks t es (hashStr w y) (.str y u)
    show wpAny (model P w) A (_ >>= _) _ _ _
    have eh : (strKind P w).hash y = hashStr w y := rfl
    generalize hL : layNew t es (hashStr w y) (.str y u) = L at hperm hfits hmk ⊢
    obtain ⟨es1, t1, wd, gv⟩ := L
    dsimp only at hperm hfits hmk ⊢
    rw [Array.toList_push] at hperm
    have hsz1 : es1.size = es.size + 1 := by rw [← Array.length_toList, hperm.length_eq, List.length_append, Array.length_toList]; rfl
    have hgw : ∀ (b : Bool) (s₁ : Shared) (Q' : Unit → Shared → Prop), Q' () s₁ → wpAny (model P w) A (match b with | true => rule "set.scan.the-table-gave-way" | false => pure ()) Q' E s₁ :=
      fun b s₁ Q' hq => by cases b <;> first | exact wpAny_pure hq | exact wpAny_rule hq
    have fin : ∀ t2 : SetTable, t2.led = t1.led → t2.plain = false → t2.fits es1.size = true → ∀ h' es2 ep2 t3, Heap.SameBut a s.heap h' → h'.get? a = some { cls := .type "set", dict := none, data := .set es2 ep2 t3 } → es2.toList.Perm es1.toList →
        t3.fits es2.size = true → t3.led = t2.led → (t2.plain = false → t3.plain = false) → Q true { s with heap := h' } := fun t2 l2 p2 _ h' es2 ep2 t3 sb e2 hp f3 l3 p3 => by
      have pm : es2.toList.Perm (es.toList ++ [(hashStr w y, .str y u)]) := hp.trans hperm
      have pk : (es2.toList.map keyS).Perm (es.toList.map keyS ++ [y]) := by
        have := pm.map keyS
        rw [List.map_append] at this
        exact this
      refine h _ h' _ sb e2 ⟨es2, ep2, t3, rfl, fun e he => ?_, ?_, fun z => ?_, ?_, f3, ?_, .inr (p3 p2)⟩
      · rcases List.mem_append.mp (pm.mem_iff.mp he) with z | z
        · exact hen e z
        · exact ⟨y, u, List.mem_singleton.mp z⟩
      · refine pk.nodup_iff.mpr (List.nodup_append.mpr ⟨hnd, by simp, fun a ha b hb => ?_⟩)
        rw [List.mem_singleton.mp hb]
        exact fun z => hout (z ▸ ha)
      · rw [pk.mem_iff, List.mem_append, List.mem_append, hmem z]
      · have : es2.size = es1.size := by rw [← Array.length_toList, hp.length_eq, Array.length_toList]
        omega
      · rw [l3, l2, hmk.1, hled]
    refine wpAny_bind (hgw _ _ _ ?_)
    split
    · refine wpAny_bind ?_
      rw [hashByValue_scannable 8 (x := .str y u) rfl]
      refine wpAny_pure ?_
      refine tail_text hgw ho (by omega) (t2 := { t1 with plain := false }) (SetTable.fits_plain_off hfits) fun h' es2 ep2 t3 sb e2 hp f3 l3 p3 => ?_
      dsimp only
      exact wpAny_pure (fin { t1 with plain := false } rfl rfl (SetTable.fits_plain_off hfits) h' es2 ep2 t3 sb e2 hp f3 l3 p3)
    · rename_i hnp
      refine wpAny_bind (wpAny_pure ?_)
      simp only [↓reduceIte]
      refine tail_text hgw ho (by omega) hfits fun h' es2 ep2 t3 sb e2 hp f3 l3 p3 => ?_
      dsimp only
      exact wpAny_pure (fin t1 rfl (by simpa using hnp) hfits h' es2 ep2 t3 sb e2 hp f3 l3 p3)
def newSetObj (w : World) : Obj := { cls := .type "set", dict := none, data := .set #[] 0 (.fresh 0 0 (!w.params.followText "set-order")) }
theorem new_text (v : Value) {Q₁ : Value → Shared → Prop} (h : Q₁ (.ref s.heap.objs.size) { s with heap := s.heap.push (newSetObj w) }) : codeAny (model P w) A (.call (.builtin "set.__new__") ⟨[.type "set", v], []⟩) (wants Q₁ E) s := by
  refine codeAny_of_tree ?_
  show wpAny _ A.in1 (do checkBuiltinCall "set.__new__" ⟨[.type "set", v], []⟩; again (.builtin "set.__new__" ⟨[.type "set", v], []⟩)) _ _ s
  refine wpAny_bind (wpAny_of_eq (PySem.F.newCall_set_1 v) (wpAny_pure ⟨plainId_quiet PySem.F.plain_set_new _, codeAny_builtin PySem.F.entry_set_new ?_⟩))
  rw [Around.under_plainId PySem.F.plain_set_new _]
  unfold Builtin.«set.__new__» Builtin.Frozenset.newClass
  have hsub := PySem.sub_set_self
  obtain ⟨hp, g, d, tk, os⟩ := s
  dsimp only
  wp_walk
  refine wpAny_askSetting (wpAny_pure ?_)
  dsimp only
  simp only [newObj]
  exact wpAny_bind (wpAny_alloc (wpAny_pure (wpAny_pure h)))
theorem newTx (w : World) : SetTx w (newSetObj w) [] 0 :=
  ⟨#[], 0, _, rfl, fun e he => by simp at he, by simp, fun y => by simp, Nat.le_refl _, rfl, rfl, .inl rfl⟩
set_option maxHeartbeats 3200000 in
end
end L2
namespace L2
open PySem PySem.Spec PyProof.Rows
theorem slot_si_next : Slot "set_iterator" "__next__" "set_iterator.__next__" :=
  .of (owner := "set_iterator") (n := "__next__") (by rw [typeLookup_type, builtinLookup_eq_fast]; kernel_rfl) (by decide +kernel) (by decide +kernel) (by decide +kernel) (by first | exact .inl (by decide +kernel) | exact .inr (by decide +kernel)) (by rw [isSubtype_type]; kernel_rfl)
theorem slot_si_iter : Slot "set_iterator" "__iter__" "set_iterator.__iter__" :=
  .of (owner := "set_iterator") (n := "__iter__") (by rw [typeLookup_type, builtinLookup_eq_fast]; kernel_rfl) (by decide +kernel) (by decide +kernel) (by decide +kernel) (by first | exact .inl (by decide +kernel) | exact .inr (by decide +kernel)) (by rw [isSubtype_type]; kernel_rfl)
theorem entry_si_next : entryFor table "set_iterator.__next__" = some Builtin.«set_iterator.__next__» := entryFor_of_tree (by kernel_rfl)
theorem args_si_next (a : Value) : argsOk "set_iterator.__next__" ⟨[a], []⟩ := by unfold argsOk; kernel_rfl
theorem args_si_iter (a : Value) : argsOk "set_iterator.__iter__" ⟨[a], []⟩ := by unfold argsOk; kernel_rfl
theorem entry_set_iter : entryFor table "set.__iter__" = some Builtin.«frozenset.__iter__» :=
  entryFor_alias (id' := "frozenset.__iter__") (by kernel_rfl) rfl (by decide +kernel) (by kernel_rfl)
theorem erase_permI {α : Type} : ∀ (l : List α) (i : Nat) (h : i < l.length), (l[i] :: l.eraseIdx i).Perm l
  | x :: l, 0, h => List.Perm.refl _
  | x :: l, i + 1, h => by
    have := erase_permI l i (by simpa using h)
    exact (List.Perm.swap _ _ _).trans (List.Perm.cons x this)
theorem pick_go {α : Type} (next : Nat → Nat) : ∀ (fuel k : Nat) (left : List α) (out : Array α), left.length = fuel → (pickOrder.go next fuel k left out).toList.Perm (out.toList ++ left)
  | 0, k, left, out, h => by
    rw [List.eq_nil_of_length_eq_zero h, List.append_nil]
    exact List.Perm.refl _
  | fuel + 1, k, left, out, h => by
    have hlt : next k % left.length < left.length := Nat.mod_lt _ (by omega)
    unfold pickOrder.go
    rw [List.getElem?_eq_getElem hlt]
    dsimp only
    refine (pick_go next fuel (k + 1) _ _ (by rw [List.length_eraseIdx, if_pos hlt]; omega)).trans ?_
    rw [Array.toList_push, List.append_assoc]
    refine List.Perm.append_left _ ?_
    exact (erase_permI _ _ hlt)
theorem pick_perm {α : Type} (next : Nat → Nat) (xs : Array α) : (pickOrder next xs).toList.Perm xs.toList := by
  have := pick_go next xs.size 0 xs.toList #[] (by simp)
  rw [show (#[] : Array α).toList = [] from rfl, List.nil_append] at this
  exact this
section
variable {P : Program} {w : World} {A : Around} {E : Value → Shared → Prop} {s : Shared}
theorem draw_any {α : Type} : ∀ (n : Nat) (xs : List α) {s : Shared} {Q : List α → Shared → Prop}, xs.length = n → (∀ ps d', ps.Perm xs → Q ps { s with drawn := d' }) → wpAny (model P w) A (drawOrder n xs) Q E s
  | 0, xs, s, Q, h, hq => by
    rw [List.eq_nil_of_length_eq_zero h] at hq ⊢
    exact wpAny_pure (hq [] s.drawn (List.Perm.refl _))
  | n + 1, [], s, Q, h, hq => by cases h
  | n + 1, x :: xs, s, Q, h, hq => by
    unfold drawOrder
    refine wpAny_bind ?_
    intro Γ p hΓ
    show Sem.wp _ _ (Sem.choose .order (x :: xs).length Sem.pure) _ _ _ _
    rw [Sem.wp_choose]
    refine ⟨by simp, ?_⟩
    have hlt := Nat.mod_lt ((model P w).w.draws .order (s.drawn.get .order)) (show 0 < (x :: xs).length by simp)
    generalize ((model P w).w.draws .order (s.drawn.get .order)) % (x :: xs).length = i at hlt
    rw [Sem.wp_pure]
    refine (show wpAny (model P w) A (match (x :: xs)[i]? with | some y => (do return y :: (← drawOrder n ((x :: xs).eraseIdx i))) | none => unsupported "internal:drawOrder") Q E { s with drawn := s.drawn.bump .order } from ?_)
    rw [List.getElem?_eq_getElem hlt]
    dsimp only
    refine wpAny_bind (draw_any n _ (by rw [List.length_eraseIdx, if_pos hlt]; omega) fun ps d' hp => wpAny_pure ?_)
    exact hq _ _ ((List.Perm.cons _ hp).trans (erase_permI _ _ hlt))
def setO (es : Array (Int × Value)) (ep : Nat) (t : SetTable) : Obj := { cls := .type "set", dict := none, data := .set es ep t }
def itO (f : Value) (i : Nat) (S : Addr) (n ep : Nat) : Obj := { cls := .type "set_iterator", data := .fields #[f, .int i 0, .ref S, .int n 0, .int ep 0] }
def ItT (w : World) (I S T : Addr) (es : Array (Int × Value)) (ep : Nat) (t : SetTable) (vs : List Value) (i : Nat) (h : Heap) : Prop :=
  h.get? S = some (setO es ep t) ∧ (
    (w.params.followText "set-order" = true ∧ vs = (pickOrder (w.params.setOrder S ep) es).toList.map (·.2) ∧ h.get? I = some (itO (.int 0 0) i S es.size ep)) ∨
    (w.params.followText "set-order" = false ∧ es.size ≤ 1 ∧ vs = es.toList.map (·.2) ∧ ∃ k : Nat, h.get? I = some (itO (.int k 0) i S es.size ep) ∧ SetTable.below t.place k = i) ∨
    (w.params.followText "set-order" = false ∧ ∃ ps : List Nat, vs = ps.map (fun p => ((es[p]?).map (·.2)).getD .none) ∧ (∀ p ∈ ps, p < es.size) ∧ h.get? I = some (itO (.ref T) i S es.size ep) ∧
      h.get? T = some { cls := .type "tuple", data := .seq (ps.map fun (p : Nat) => Value.int p 0).toArray }))
theorem fields_step {a : Addr} {i : Nat} {f v : Value} {j : Nat} {S : Addr} {n ep : Nat} {Q : Unit → Shared → Prop} (ho : s.heap.get? a = some (itO f j S n ep)) (hi : i < 5)
    (h : ∀ h', Heap.SameBut a s.heap h' → h'.get? a = some { cls := .type "set_iterator", data := .fields ((#[f, .int j 0, .ref S, .int n 0, .int ep 0] : Array Value).setIfInBounds i v) } → Q () { s with heap := h' }) :
    wpAny (model P w) A (setField (.ref a) i v) Q E s :=
  wpAny_setField_rec (cls := .type "set_iterator") (vs := #[f, .int j 0, .ref S, .int n 0, .int ep 0]) ho hi fun h' e sb => h h' sb e
theorem raise_stop {Q : Option Value → Shared → Prop} {Q0 : Fin → Shared → Prop} (hh : A.handled = none) (hQ : ∀ h', (∀ b o, s.heap.get? b = some o → h'.get? b = some o) → Q none { s with heap := h' }) :
    wpAny (model P w) A (do raiseNew (← newExc (.type "StopIteration") [])) Q0 (fun e s' => wpAny (model P w) A (do if ← isInstance e (.type "StopIteration") then pure none else throw e) Q E s') s := by
  refine wpAny_bind ?_
  simp only [newExc, newTuple]
  refine wpAny_bind (wpAny_newObj_type ?_ (by size_fits))
  refine wpAny_bind (m := firstArgMember _ _) (wpAny_of_eq (a := Value.none) (by first | rfl | (simp only [firstArgMember]; rfl)) ?_)
  refine wpAny_newObj_type ?_ (by size_fits)
  simp only [raiseNew]
  refine wpAny_bind (wpAny_handled ?_)
  rw [hh]
  refine wpAny_bind (wpAny_pure (wpAny_throw ?_))
  refine wpAny_bind (wpAny_isInstance (T := "StopIteration") (b := true) ⟨_, Heap.get?_push_size _ rfl, rfl⟩ isSubtype_stop ?_)
  exact wpAny_pure (hQ _ fun b o e => Heap.get?_push_of_some _ (Heap.get?_push_of_some _ e))
theorem by_text {Q : Bool → Shared → Prop} (h : Q (w.params.followText "set-order") s) : wpAny (model P w) A setsByText Q E s := by
  unfold setsByText
  exact wpAny_bind (wpAny_askSetting (wpAny_pure h))
theorem turn_text {I S : Addr} {f v : Value} {i n ep nx : Nat} {Q : Option Value → Shared → Prop} {E0 : Value → Shared → Prop} (hI : s.heap.get? I = some (itO f i S n ep))
    (hQ : ∀ h', (∀ b, b ≠ I → h'.get? b = s.heap.get? b) → h'.get? I = some (itO (.int nx 0) (i + 1) S n ep) → Q (some v) { s with heap := h' }) :
    wpAny (model P w) A.in1 (do setField (.ref I) 0 (rawInt nx); setField (.ref I) 1 (rawInt (i + 1)); ret v) (fun fin s' => ∃ v, fin = Fin.done (Flow.ret v) ∧ wpAny (model P w) A (pure (some v)) Q E s') E0 s := by
  refine wpAny_bind (fields_step hI (by omega) fun h1 sb1 e1 => ?_)
  refine wpAny_bind (fields_step (s := { s with heap := h1 }) (f := .int nx 0) e1 (by omega) fun h2 sb2 e2 => ?_)
  exact wpAny_pure ⟨v, rfl, wpAny_pure (hQ h2 (fun b hb => (sb2.2 b hb).trans (sb1.2 b hb)) e2)⟩
theorem below_one {pl : Array Nat} {j : Nat} (h : pl.size = 1) (e : pl[0]? = some j) : SetTable.below pl (j + 1) = 1 := by
  obtain ⟨l⟩ := pl
  match l, h with
  | [z], _ =>
    have : z = j := by simpa using e
    subst this
    simp [SetTable.below, SetTable.below.go]
theorem below_zero (pl : Array Nat) : SetTable.below pl 0 = 0 := by
  have : ∀ fuel hi, SetTable.below.go pl 0 fuel 0 hi = 0 := fun fuel => by
    induction fuel with
    | zero => intro hi; rfl
    | succ n ih =>
      intro hi
      unfold SetTable.below.go
      split
      · dsimp only
        rw [if_neg (Nat.not_lt_zero _)]
        exact ih _
      · rfl
  exact this _ _
theorem led_ok {Q : Unit → Shared → Prop} {t : SetTable} {es : Array (Int × Value)} (h : t.led = true) (q : Q () s) : wpAny (model P w) A (if (!t.led && !es.isEmpty) = true then unsupported "set:maker-not-led" else pure ()) Q E s := by
  rw [h]
  exact wpAny_pure q
theorem next_text {I S T : Addr} {es : Array (Int × Value)} {ep : Nat} {t : SetTable} {vs : List Value} {i : Nat} {Q : Option Value → Shared → Prop} (hIS : S ≠ I) (hIT : T ≠ I) (hst : ItT w I S T es ep t vs i s.heap) (hh : A.handled = none)
    (hf : t.fits es.size = true) (hled : t.led = !w.params.followText "set-order") (hi : i ≤ vs.length)
    (hQ : ∀ v h', vs[i]? = some v → (∀ b, b ≠ I → h'.get? b = s.heap.get? b) → ItT w I S T es ep t vs (i + 1) h' → Q (some v) { s with heap := h' })
    (hN : vs[i]? = none → ∀ h', (∀ b o, b ≠ I → s.heap.get? b = some o → h'.get? b = some o) → Q none { s with heap := h' }) : wpAny (model P w) A (pyNext (.ref I)) Q E s := by
  obtain ⟨hS, hm⟩ := hst
  have hI : ∃ f, s.heap.get? I = some (itO f i S es.size ep) := by
    rcases hm with ⟨_, _, e⟩ | ⟨_, _, _, k, e, _⟩ | ⟨_, ps, _, _, e, _⟩ <;> exact ⟨_, e⟩
  obtain ⟨f, hI⟩ := hI
  have hT : s.TypeIs (.ref I) "set_iterator" := ⟨_, hI, rfl⟩
  have stop : ∀ (s1 : Shared) (Q0 : Fin → Shared → Prop) (f1 : Value), (∀ b o, b ≠ I → s.heap.get? b = some o → s1.heap.get? b = some o) → s1 = { s with heap := s1.heap } → s1.heap.get? I = some (itO f1 i S es.size ep) → vs[i]? = none →
      wpAny (model P w) A.in1 (do setField (.ref I) 2 .none; raiseNew (← newExc (.type "StopIteration") [])) Q0 (fun e s' => wpAny (model P w) A (do if ← isInstance e (.type "StopIteration") then pure none else throw e) Q E s') s1 := fun s1 Q0 f1 k e1 eI en => by
    refine wpAny_bind (fields_step eI (by omega) fun h2 sb2 _ => ?_)
    refine raise_stop (A := A.in1) hh (s := { s1 with heap := h2 }) (Q := Q) (fun h3 k3 => ?_) |> fun z => wpAny_mono z (fun _ _ q => q) fun e s' q => wpAny_of_in1 q
    have := hN en h3 fun b o hb e => k3 b o ((sb2.2 b hb).trans (k b o hb e))
    rw [e1]
    exact this
  have hpl : t.place.size = es.size := by
    have := hf
    simp only [SetTable.fits, Bool.and_eq_true, beq_iff_eq] at this
    exact this.1
  unfold pyNext
  refine wpAny_bind (wpAny_attempt (wpAny_callSpecial?_slot (name := Str.ofString "__next__") hT slot_si_next (wpAny_call_entry slot_si_next hT entry_si_next ?_ (args_si_next _))))
  unfold Builtin.«set_iterator.__next__»
  refine wpAny_bind (m := slotArgs "__next__" 0 _) (wpAny_pure (wpAny_bind ?_))
  refine wpAny_fieldsOf hI rfl ?_
  show wpAny (model P w) _ (do if ((← setEntries S).size : Int) != (es.size : Int) then _ else _) _ _ _
  refine wpAny_bind (wpAny_setEntries_of hS rfl hf ?_)
  rw [if_neg (by simp)]
  rcases hm with ⟨hb, rfl, hI'⟩ | ⟨hb, h1, rfl, k, hI', hk⟩ | ⟨hb, ps, rfl, hps, hI', hT'⟩
  · cases hI.symm.trans hI'
    show wpAny (model P w) _ (setNext S 0 i ep >>= _) _ _ _
    unfold setNext
    refine wpAny_bind (wpAny_bind (wpAny_setState_of hS rfl hf ?_))
    refine wpAny_bind (by_text ?_)
    rw [hb]
    simp only [if_true]
    rw [if_neg (by simp)]
    refine wpAny_bind ?_
    unfold setWalk
    refine wpAny_bind (wpAny_setState_of hS rfl hf (wpAny_bind (by_text ?_)))
    rw [hb]
    simp only [if_true]
    refine wpAny_bind (wpAny_askSetting (wpAny_pure (wpAny_pure ?_)))
    show wpAny (model P w) A.in1 (match ((pickOrder (w.params.setOrder S ep) es)[i]?).map (fun e => (e.2, 0)) with | some (x, next) => _ | none => _) _ _ _
    cases hv : (pickOrder (w.params.setOrder S ep) es)[i]? with
    | none =>
      refine stop s _ _ (fun b o _ e => e) rfl hI ?_
      rw [List.getElem?_map, Array.getElem?_toList, hv]
      rfl
    | some e =>
      have hv' : ((pickOrder (w.params.setOrder S ep) es).toList.map (·.2))[i]? = some e.2 := by
        rw [List.getElem?_map, Array.getElem?_toList, hv]
        rfl
      exact turn_text (nx := 0) hI fun h' k e1 => hQ _ h' hv' k ⟨(k S hIS).trans hS, .inl ⟨hb, rfl, e1⟩⟩
  · cases hI.symm.trans hI'
    show wpAny (model P w) _ (setNext S k i ep >>= _) _ _ _
    unfold setNext
    refine wpAny_bind (wpAny_bind (wpAny_setState_of hS rfl hf ?_))
    refine wpAny_bind (by_text ?_)
    rw [hb]
    simp only [Bool.false_eq_true, if_false]
    refine wpAny_ite_split (fun hd => ?_) (fun _ => ?_)
    · have hd' : (!t.plain && decide (es.size > 1)) = true := hd
      simp only [Bool.and_eq_true, decide_eq_true_eq] at hd'
      omega
    · refine wpAny_bind (led_ok (by rw [hled, hb]; rfl) (wpAny_pure ?_))
      rw [hk]
      cases hv : es[i]? with
      | none =>
        refine stop s _ _ (fun b o _ e => e) rfl hI ?_
        rw [List.getElem?_map, Array.getElem?_toList, hv]
        rfl
      | some e =>
        have hlt : i < es.size := by
          rcases Nat.lt_or_ge i es.size with z | z
          · exact z
          · rw [Array.getElem?_eq_none z] at hv; cases hv
        have hi0 : i = 0 := by omega
        subst hi0
        have hv' : (es.toList.map (·.2))[0]? = some e.2 := by
          rw [List.getElem?_map, Array.getElem?_toList, hv]
          rfl
        have hj : t.place[0]? = some (t.place[0]'(by omega)) := Array.getElem?_eq_getElem (by omega)
        rw [hj]
        obtain ⟨eh, ev⟩ := e
        exact turn_text (nx := t.place[0]'(by omega) + 1) hI fun h' k e1 => hQ _ h' hv' k ⟨(k S hIS).trans hS, .inr (.inl ⟨hb, h1, rfl, _, e1, below_one (by omega) hj⟩)⟩
  · cases hI.symm.trans hI'
    show wpAny (model P w) A.in1 (seqItems? (.ref T) >>= _) _ _ _
    unfold seqItems?
    refine wpAny_bind (wpAny_bind (wpAny_load hT' (wpAny_pure ?_)))
    show wpAny (model P w) A.in1 (match ((ps.map fun (p : Nat) => Value.int p 0).toArray)[i]? with | some (.int place _) => _ | some _ => _ | none => _) _ _ _
    cases hv : ps[i]? with
    | none =>
      have e0 : ((ps.map fun (p : Nat) => Value.int p 0).toArray)[i]? = none := by
        rw [List.getElem?_toArray, List.getElem?_map, hv]
        rfl
      rw [e0]
      refine wpAny_bind (fields_step hI (by omega) fun h1 sb1 e1 => ?_)
      refine stop { s with heap := h1 } _ (rawInt 0) (fun b o hb e => (sb1.2 b hb).trans e) rfl e1 ?_
      rw [List.getElem?_map, hv]
      rfl
    | some p =>
      have e0 : ((ps.map fun (p : Nat) => Value.int p 0).toArray)[i]? = some (Value.int p 0) := by
        rw [List.getElem?_toArray, List.getElem?_map, hv]
        rfl
      rw [e0]
      have hp := hps p (List.mem_of_getElem? hv)
      have he : es[p]? = some es[p] := Array.getElem?_eq_getElem hp
      show wpAny (model P w) A.in1 (setNextDrawn S p ep >>= _) _ _ _
      unfold setNextDrawn
      refine wpAny_bind (wpAny_bind (wpAny_setState_of hS rfl hf ?_))
      dsimp only
      rw [if_neg (by simp)]
      rw [he]
      generalize he2 : es[p] = e2 at he
      obtain ⟨eh, ev⟩ := e2
      have hv' : (ps.map fun p => ((es[p]?).map (·.2)).getD .none)[i]? = some ev := by
        rw [List.getElem?_map, hv]
        show some (((es[p]?).map (·.2)).getD .none) = _
        rw [he]
        rfl
      refine wpAny_pure (wpAny_bind (fields_step hI (by omega) fun h1 sb1 e1 => ?_))
      exact wpAny_pure ⟨ev, rfl, wpAny_pure (hQ ev h1 hv' (fun b hb => sb1.2 b hb) ⟨(sb1.2 S hIS).trans hS, .inr (.inr ⟨hb, ps, rfl, hps, e1, (sb1.2 T hIT).trans hT'⟩)⟩)⟩
theorem iter_text {S : Addr} {es : Array (Int × Value)} {ep : Nat} {t : SetTable} {Q : Value → Shared → Prop} (hS : s.heap.get? S = some (setO es ep t)) (hf : t.fits es.size = true) (hp : es.size = 0 ∨ t.plain = false) (hz : es.size ≤ 4096)
    (hQ : ∀ I T vs h' d', (∀ b o, s.heap.get? b = some o → h'.get? b = some o) → s.heap.objs.size ≤ I → s.heap.objs.size ≤ T → T ≠ I → vs.Perm (es.toList.map (·.2)) → ItT w I S T es ep t vs 0 h' → Q (.ref I) { s with heap := h', drawn := d' }) :
    wpAny (model P w) A (pyIter (.ref S)) Q E s := by
  have hT : s.TypeIs (.ref S) "set" := ⟨_, hS, rfl⟩
  refine wpAny_pyIter_slot hT PySem.F.slot_set_iter (wpAny_call_entry PySem.F.slot_set_iter hT entry_set_iter ?_ (PySem.F.args_set_iter_1 _))
  unfold Builtin.«frozenset.__iter__» Builtin.Frozenset.slot0
  refine wpAny_bind (wpAny_bind (m := slotArgs "__iter__" 0 _) (wpAny_pure (wpAny_pure ?_)))
  unfold Builtin.Frozenset.sizeOf
  refine wpAny_bind (wpAny_bind (wpAny_setEntries_of hS rfl hf (wpAny_pure ?_)))
  refine wpAny_bind ?_
  unfold setDrawn
  refine wpAny_bind (wpAny_setState_of hS rfl hf (wpAny_bind (by_text (wpAny_pure ?_))))
  have fin : ∀ (s1 : Shared) (f : Value), s1.heap.get? S = some (setO es ep t) → (∀ h', (∀ b o, s1.heap.get? b = some o → h'.get? b = some o) → h'.get? s1.heap.objs.size = some (itO f 0 S es.size ep) → Q (.ref s1.heap.objs.size) { s1 with heap := h' }) →
      wpAny (model P w) A.in1 (do ret (← newFields "set_iterator" [f, rawInt 0, .ref S, rawInt es.size, rawInt (← setEpoch S)])) (fun fin s' => ∃ v, fin = .done (.ret v) ∧ ∃ T' r, s'.TypeIs v T' ∧ typeLookup (.type T') "__next__" = pure (some r) ∧ Q v s') E s1 := fun s1 f e1 q => by
    refine wpAny_bind (wpAny_setEpoch_of e1 rfl hf ?_)
    refine wpAny_bind (wpAny_newObj_type ?_ (by size_fits))
    refine wpAny_pure ⟨_, rfl, "set_iterator", _, ⟨_, Heap.get?_push_size _ rfl, rfl⟩, slot_si_next.lookup, ?_⟩
    exact q _ (fun b o e => Heap.get?_push_of_some _ e) (Heap.get?_push_size _ rfl)
  have lt := Heap.lt_size hS
  cases hb : w.params.followText "set-order" with
  | true =>
    dsimp only
    refine wpAny_ite_split (fun hd => nomatch (show false = true from hd)) (fun _ => wpAny_bind (wpAny_pure ?_))
    refine fin s (rawInt 0) hS fun h' k e => ?_
    exact hQ _ (s.heap.objs.size + 1) _ h' s.drawn k (Nat.le_refl _) (Nat.le_succ _) (Nat.succ_ne_self _) ((pick_perm _ es).map _) ⟨k _ _ hS, .inl ⟨hb, rfl, e⟩⟩
  | false =>
    by_cases h1 : es.size ≤ 1
    · dsimp only
      refine wpAny_ite_split (fun hd => ?_) (fun _ => wpAny_bind (wpAny_pure ?_))
      · have hd' : (!t.plain && decide (es.size > 1)) = true := hd
        simp only [Bool.and_eq_true, decide_eq_true_eq] at hd'
        omega
      · refine fin s (rawInt 0) hS fun h' k e => ?_
        exact hQ _ (s.heap.objs.size + 1) _ h' s.drawn k (Nat.le_refl _) (Nat.le_succ _) (Nat.succ_ne_self _) (List.Perm.refl _) ⟨k _ _ hS, .inr (.inl ⟨hb, h1, rfl, 0, e, below_zero _⟩)⟩
    · dsimp only
      refine wpAny_ite_split (fun _ => ?_) (fun hd => absurd (show (!t.plain && decide (es.size > 1)) = true from ?_) hd)
      · refine wpAny_bind (draw_any es.size (List.range es.size) List.length_range fun ps d' hps => ?_)
        have hl : (ps.map fun (i : Nat) => rawInt i).length = es.size := by rw [List.length_map, hps.length_eq, List.length_range]
        refine wpAny_bind (wpAny_newTuple ?_ (by rw [hl, sizeLine_eq]; omega))
        have e1 : (s.heap.push { cls := .type "tuple", data := .seq (ps.map fun (i : Nat) => rawInt i).toArray }).get? S = some (setO es ep t) := Heap.get?_push_of_some _ hS
        refine fin _ (.ref s.heap.objs.size) e1 fun h' k e => ?_
        have sz : (s.heap.push { cls := .type "tuple", data := .seq (ps.map fun (i : Nat) => rawInt i).toArray }).objs.size = s.heap.objs.size + 1 := Heap.size_push _ _
        refine hQ _ s.heap.objs.size (ps.map fun p => ((es[p]?).map (·.2)).getD .none) h' d' (fun b o e => k b o (Heap.get?_push_of_some _ e)) (by rw [sz]; exact Nat.le_succ _) (Nat.le_refl _) (by rw [sz]; exact Nat.ne_of_lt (Nat.lt_succ_self _)) ?_
          ⟨k _ _ e1, .inr (.inr ⟨hb, ps, rfl, fun p hp => List.mem_range.mp (hps.mem_iff.mp hp), e, k _ _ (Heap.get?_push_size _ rfl)⟩)⟩
        refine (hps.map _).trans (List.Perm.of_eq ?_)
        refine List.ext_getElem (by simp) fun i h1 h2 => ?_
        have hlt : i < es.size := by simpa using h1
        simp [hlt]
      · rcases hp with z | z
        · omega
        · rw [z]
          exact decide_eq_true (by omega)
theorem entry_si_iter : entryFor table "set_iterator.__iter__" = some Builtin.«dict_keyiterator.__iter__» :=
  entryFor_alias (id' := "dict_keyiterator.__iter__") (by kernel_rfl) rfl (by decide +kernel) (by kernel_rfl)
theorem ItT.at {I S T : Addr} {es : Array (Int × Value)} {ep : Nat} {t : SetTable} {vs : List Value} {i : Nat} {h h' : Heap} (x : ItT w I S T es ep t vs i h) (k : ∀ b, b = I ∨ b = S ∨ b = T → ∀ o, h.get? b = some o → h'.get? b = some o) : ItT w I S T es ep t vs i h' := by
  obtain ⟨hS, hm⟩ := x
  refine ⟨k S (.inr (.inl rfl)) _ hS, ?_⟩
  rcases hm with ⟨hb, e, hI⟩ | ⟨hb, h1, e, j, hI, hk⟩ | ⟨hb, ps, e, hps, hI, hT⟩
  · exact .inl ⟨hb, e, k I (.inl rfl) _ hI⟩
  · exact .inr (.inl ⟨hb, h1, e, j, k I (.inl rfl) _ hI, hk⟩)
  · exact .inr (.inr ⟨hb, ps, e, hps, k I (.inl rfl) _ hI, k T (.inr (.inr rfl)) _ hT⟩)
theorem walks_text {I S T : Addr} {es : Array (Int × Value)} {ep : Nat} {t : SetTable} {vs : List Value} (hh : A.handled = none) (hIS : S ≠ I) (hIT : T ≠ I) (hf : t.fits es.size = true) (hled : t.led = !w.params.followText "set-order") :
    Walks P w A I [I, S, T] [I] vs.length (fun i v => vs[i]? = some v) (fun i h => ItT w I S T es ep t vs i h) where
  sub := fun b hb => by simp at hb; simp [hb]
  frame := fun i h h' st k => ItT.at st fun b hb o e => k b (by rcases hb with z | z | z <;> simp [z]) o e
  item := fun i s Q E hi st hQ => next_text hIS hIT st hh hf hled (Nat.le_of_lt hi) (fun v h' hv k st' => hQ v h' s.toks hv st' fun b o hb e => (k b (fun z => hb (by simp [z]))).trans e) fun hn => by
    rw [List.getElem?_eq_getElem hi] at hn
    cases hn
  done := fun s Q E st hQ => next_text hIS hIT st hh hf hled (Nat.le_refl _) (fun v h' hv => by simp at hv) fun _ h' k => hQ h' s.toks fun b o hb e => k b o (fun z => hb (by simp [z])) e
  self := fun i s Q E st h => by
    have hI : ∃ f, s.heap.get? I = some (itO f i S es.size ep) := by
      rcases st.2 with ⟨_, _, e⟩ | ⟨_, _, _, k, e, _⟩ | ⟨_, ps, _, _, e, _⟩ <;> exact ⟨_, e⟩
    obtain ⟨f, hI⟩ := hI
    have hT : s.TypeIs (.ref I) "set_iterator" := ⟨_, hI, rfl⟩
    refine wpAny_pyIter_slot hT slot_si_iter (wpAny_call_entry slot_si_iter hT entry_si_iter ?_ (args_si_iter _))
    show wpAny _ _ (ret (.ref I)) _ _ s
    exact wpAny_pure ⟨_, rfl, "set_iterator", _, hT, slot_si_next.lookup, h⟩
theorem hint_text {r : Addr} {Q : Bool → Shared → Prop} (hT : s.TypeIs (.ref r) "set") (h : Q false s) : wpAny (model P w) A (Builtin.List.listLengthHint (.ref r)) Q E s := by
  unfold Builtin.List.listLengthHint
  refine wpAny_bind (wpAny_specialOf hT PySem.F.slot_set_len.lookup ?_)
  generalize hid : ("set.__len__" : String) = id0
  wp_delta
  rw [show splitId id0 = some ("set", "__len__") from by subst hid; decide +kernel]
  subst hid
  refine wpAny_bind (wpAny_isInstance (T := "set") (b := true) hT sub_set_self ?_)
  refine wpAny_ite_split (fun z => absurd z (by decide)) (fun _ => wpAny_ite_split (fun _ => ?_) (fun z => absurd (by decide +kernel) z))
  exact wpAny_bind (wpAny_typeOf hT (wpAny_pure h))
theorem collect_text {S : Addr} {o : Obj} {D : List Str} {n : Nat} {Q : List Value → Shared → Prop} (hh : A.handled = none) (hS : s.heap.get? S = some o) (hX : SetTx w o D n) (hn : n ≤ 4000)
    (hQ : ∀ (vs : List Value) (ys : List Str) (h' : Heap) tk d', s.heap.objs.size ≤ h'.objs.size → StrsAre vs ys → ys.Nodup → (∀ y, y ∈ ys ↔ y ∈ D) → ys.length ≤ n → (∀ b o, s.heap.get? b = some o → h'.get? b = some o) → Q vs { s with heap := h', toks := tk, drawn := d' }) :
    wpAny (model P w) A (collect (.ref S)) Q E s := by
  obtain ⟨es, ep, t, rfl, hen, hnd, hmem, hsz, hf, hled, hpl⟩ := hX
  have lt := Heap.lt_size hS
  unfold collect
  refine wpAny_bind (wpAny_runValue (codeAny_builtin PySem.F.entry_proto_collect ?_))
  rw [Around.under_plainId PySem.F.plain_proto_collect _]
  show wpAny _ A.in1 (newList [] >>= fun l => again (.builtin "list.__iadd__" ⟨[l, .ref S], []⟩)) _ _ s
  refine wpAny_bind (wpAny_newObj_type ?_)
  refine wpAny_pure ⟨plainId_quiet PySem.F.plain_list_iadd _, codeAny_builtin PySem.F.entry_list_iadd ?_⟩
  rw [Around.under_plainId PySem.F.plain_list_iadd _]
  show wpAny _ A.in1 (Builtin.List.listExtendWith (.ref s.heap.objs.size) (.ref S) (.ref s.heap.objs.size)) _ _ _
  generalize hH : s.heap.push { cls := .type "list", data := .seq ([] : List Value).toArray } = H
  have hHs : H.objs.size = s.heap.objs.size + 1 := by rw [← hH, Heap.size_push]
  have hL : H.get? s.heap.objs.size = some { cls := .type "list", data := .seq #[] 0 } := hH ▸ Heap.get?_push_size _ rfl
  have hS1 : H.get? S = some (setO es ep t) := hH ▸ Heap.get?_push_of_some _ hS
  unfold Builtin.List.listExtendWith
  refine wpAny_bind (wpAny_typeOf (T := "set") ⟨_, hS1, rfl⟩ ?_)
  have h1 : Builtin.List.listSameRef (.ref s.heap.objs.size) (.ref S) = false := by simp [Builtin.List.listSameRef, Nat.ne_of_gt lt]
  have h2 : (Value.type "set" == Value.type "list") = false := by decide
  have h3 : (Value.type "set" == Value.type "tuple") = false := by decide
  simp only [h1, h2, h3, Bool.or_false, Bool.false_eq_true, if_false]
  refine wpAny_bind (iter_text (s := { s with heap := H }) hS1 hf hpl (by omega) fun I T vs h2 d2 k2 gI gT hTI hvs st => ?_)
  have gI' : s.heap.objs.size + 1 ≤ I := hHs ▸ gI
  have gT' : s.heap.objs.size + 1 ≤ T := hHs ▸ gT
  refine wpAny_bind (wpAny_holding (hint_text ⟨_, k2 _ _ hS1, rfl⟩ ?_))
  have hL2 := k2 _ _ hL
  have hSf : s.heap.objs.size ∉ [I, S, T] := by
    simp only [List.mem_cons, List.not_mem_nil, or_false, not_or]
    exact ⟨Nat.ne_of_lt (Nat.lt_of_lt_of_le (Nat.lt_succ_self _) gI'), Nat.ne_of_gt lt, Nat.ne_of_lt (Nat.lt_of_lt_of_le (Nat.lt_succ_self _) gT')⟩
  have hSI : S ≠ I := Nat.ne_of_lt (Nat.lt_of_lt_of_le (Nat.lt_succ_of_lt lt) gI')
  have hlen : vs.length = es.size := by rw [hvs.length_eq, List.length_map, Array.length_toList]
  have W : Walks P w A.in1 I [I, S, T] [I] vs.length (fun i v => vs[i]? = some v) (fun i h => ItT w I S T es ep t vs i h) := walks_text (A := A.in1) hh hSI hTI hf hled
  have stx : ∀ us : List Value, us.Perm (es.toList.map (·.2)) → ∃ ys, StrsAre us ys ∧ ys.Perm (es.toList.map keyS) := fun us hp => by
    refine ⟨us.map strOf, strsAre_map us fun v hv => ?_, ?_⟩
    · obtain ⟨e, he, rfl⟩ := List.mem_map.mp (hp.mem_iff.mp hv)
      obtain ⟨y, u, rfl⟩ := hen e he
      exact ⟨y, u, rfl⟩
    · have := hp.map strOf
      rw [List.map_map] at this
      exact this
  have key : ∀ (h : Heap) (c tk : Nat), ItT w I S T es ep t vs 0 h → (∀ b o, b ≠ s.heap.objs.size → h2.get? b = some o → h.get? b = some o) → h.get? s.heap.objs.size = some { cls := .type "list", data := .seq #[] c } →
      codeAny (model P w) A (.builtin "list.extend.loop" ⟨[.ref s.heap.objs.size, .ref I, .ref s.heap.objs.size], []⟩)
        (fun r s' => match r with | .ok (.ret v) => wpAny (model P w) A (match v with | .ref a => (do match (← load a).data with | .seq xs _ => pure xs.toList | _ => unsupported "internal:collect") | _ => unsupported "internal:collect") Q E s' | .ok _ => False | .error e => E e s') { s with heap := h, toks := tk, drawn := d2 } := fun h c tk st' k hL' => by
    refine codeAny_extend_loopS W.toS (by rw [hlen, sizeLine_eq]; omega) _ hSf _ vs.length 0 _ #[] c rfl (Nat.zero_le _) st' hL' (ItemsOf.nil _) fun s' acc c' hm hL'' hacc => ?_
    refine wpAny_bind (wpAny_load hL'' ?_)
    have eacc : acc.toList = vs := by
      refine List.ext_getElem? fun i => ?_
      rw [Array.getElem?_toList]
      cases ev : acc[i]? with
      | some v => exact (hacc.2 i v ev).symm
      | none =>
        symm
        rw [List.getElem?_eq_none_iff, ← hacc.1]
        exact Array.getElem?_eq_none_iff.mp ev
    obtain ⟨ys, sy, py⟩ := stx vs hvs
    obtain ⟨h3, g3, d3, t3, o3⟩ := s'
    have eg : g3 = s.gens := hm.gens
    have ed : d3 = d2 := hm.drawn
    have eo : o3 = s.os := hm.os
    subst eg; subst ed; subst eo
    refine wpAny_pure ?_
    rw [eacc]
    refine hQ vs ys h3 t3 d3 (Nat.le_of_lt (Heap.lt_size hL'')) sy (py.nodup_iff.mpr hnd) (fun y => (py.mem_iff).trans (hmem y)) (by rw [py.length_eq, List.length_map, Array.length_toList]; exact hsz) fun b o e => ?_
    have lb := Heap.lt_size e
    refine hm.heap b o (fun z => ?_) (k b o (Nat.ne_of_lt lb) (k2 b o (hH ▸ Heap.get?_push_of_some _ e)))
    rcases List.mem_cons.mp z with z | z
    · exact Nat.lt_irrefl _ (z ▸ lb)
    · have := List.mem_singleton.mp z
      exact Nat.lt_irrefl _ (Nat.lt_of_lt_of_le (Nat.lt_succ_of_lt lb) (this ▸ gI'))
  refine wpAny_ite_split (fun _ => ?_) (fun z => absurd (by decide +kernel) z)
  refine wpAny_bind (wpAny_rule (wpAny_bind ?_))
  show wpAny _ _ (updateSeq s.heap.objs.size (·.push .none) >>= fun _ => updateSeq s.heap.objs.size (·.pop)) _ _ _
  refine wpAny_bind (wpAny_updateSeq hL2 rfl ?_)
  have hL3 := Heap.get?_update_self (Obj.mapSeq (·.push Value.none)) hL2 rfl
  refine wpAny_updateSeq (hz := by seq_fits) hL3 rfl ?_
  have hL4 := Heap.get?_update_self (Obj.mapSeq (·.pop)) hL3 rfl
  have oth : ∀ b o, b ≠ s.heap.objs.size → h2.get? b = some o → ((h2.update s.heap.objs.size (Obj.mapSeq (·.push Value.none))).update s.heap.objs.size (Obj.mapSeq (·.pop))).get? b = some o := fun b o hb e =>
    (Heap.get?_update_other _ _ (Ne.symm hb)).trans ((Heap.get?_update_other _ _ (Ne.symm hb)).trans e)
  refine wpAny_pure ⟨plainId_quiet PySem.F.plain_extend_loop _, key _ _ _ (st.at fun b hb o e => oth b o (fun z => hSf (by rw [← z]; rcases hb with y | y | y <;> simp [y])) e) oth hL4⟩
end
end L2
namespace L2
open PySem PySem.Spec PyProof.Rows
section
variable {P : Program} {w : World} {A : Around} {E : Value → Shared → Prop} {s : Shared}
theorem sorted_text {S : Addr} {o : Obj} {D : List Str} {n : Nat} {Q : Value → Shared → Prop} (hh : A.handled = none) (hS : s.heap.get? S = some o) (hX : SetTx w o D n) (hn : n < 64)
    (hQ : ∀ (a : Addr) (out : List Value) (e : Nat) (ys : List Str) h' tk d', ys.length ≤ n → StrsAre out ys → ys.Nodup → (∀ y, y ∈ ys ↔ y ∈ D) → sortedS ys = true → (∀ b o, s.heap.get? b = some o → h'.get? b = some o) → s.heap.objs.size ≤ a →
      h'.get? a = some (seqObj "list" out.toArray e) → Q (.ref a) { s with heap := h', toks := tk, drawn := d' }) : wpAny (model P w) A (call (.builtin "sorted") [.ref S]) Q E s := by
  refine Calls.call_function_entry kind_sorted plain_sorted entry_sorted (args_sorted1 _) ?_
  unfold Builtin.«sorted»
  refine wpAny_bind (m := checkCount "sorted" 1 1 _) (wpAny_pure ?_)
  refine wpAny_bind (collect_text (A := A.in1) hh hS hX (by omega) fun vs ys h' tk d' le sy nd mem len k => ?_)
  have hlen : vs.length = ys.length := by rw [← sy.strs, List.length_map]
  refine wpAny_bind (wpAny_newList ?_ (by rw [hlen, sizeLine_eq]; omega))
  have hoL : (h'.push (seqObj "list" vs.toArray 0)).get? h'.objs.size = some (seqObj "list" vs.toArray 0) := Heap.get?_push_size _ rfl
  refine wpAny_bind (wpAny_holding (wpAny_call_entry slot_list_sort ⟨_, hoL, rfl⟩ entry_list_sort (list_sort_treeK (s := { s with heap := h'.push (seqObj "list" vs.toArray 0), toks := tk, drawn := d' }) strKind_oneLt hoL sy.keysOf (fun v₁ v₂ rest e => keyKind_strs (by rw [← e]; exact sy)) (by omega) fun st' a1 a2 => ⟨_, rfl, ?_⟩) (args_list_sort _)))
  obtain ⟨ys', s1, s2, s3⟩ := sorted_out_str sy a1 a2
  obtain ⟨e, he⟩ := sortedHeap_at (vs := vs) (out := (arrOf st').map (·.2)) (n := 0) hoL
  refine wpAny_pure ⟨_, rfl, hQ h'.objs.size ((arrOf st').map (·.2)).toList e ys' _ tk d' (by rw [s2.length_eq]; exact len) s1 (s2.nodup_iff.mpr nd) (fun y => s2.mem_iff.trans (mem y)) s3 (fun b o' eb => ?_) le ?_⟩
  · have lb := Heap.lt_size (k b o' eb)
    rw [sortedHeap_old (Nat.ne_of_lt lb) (by rw [size_push']; exact Nat.lt_succ_of_lt lb)]
    exact Heap.get?_push_of_some _ (k b o' eb)
  · rw [Array.toArray_toList]
    exact he
end
theorem Inv.drawAny {X : Cx} {pins : List (Addr × Obj)} {σ : St} {H : Hp} {s : Shared} (I : Inv X pins σ H s) (d : Drawn) : Inv X pins σ H { s with drawn := d } :=
  ⟨I.ok, I.os, I.bare, I.base, I.loc, I.cell, I.free, I.freeC, I.pin, I.hok, I.len⟩
def signs (z : Str) : List Str := z.cps.toList.map fun c => ⟨#[c]⟩
def setH (w : World) (a : Addr) (D : List Str) (n : Nat) : HO := .ext fun h => ∃ o, h.get? a = some o ∧ SetTx w o D n
section
variable {X : Cx}
def rSortSet (w : World) : List V → Hp → VK → Prop := fun xs H Q => ∃ p D n, xs = [.ref p] ∧ H p = some (setH w p D n) ∧ n < 64 ∧
  ∀ (ys : List Str) l, ys.Nodup → (∀ y, y ∈ ys ↔ y ∈ D) → sortedS ys = true → H l = none → Q (.ref l) (upd H l (.lst (ys.map V.str)))
theorem call_sortset (hc : X.calm = true) : CallR X (.builtin "sorted") (rSortSet X.w) := by
  intro pins s σ H xs us Q I r h
  obtain ⟨p, D, n, rfl, hp, hn, q⟩ := h
  obtain ⟨u, rfl, ru⟩ := vals1 r
  cases ru
  obtain ⟨⟨o, e, sx⟩, _, _⟩ := (show ObjOk X.prog X.w H s.heap p (setH X.w p D n) from I.hok p _ hp)
  refine sorted_text (I.ok.hd hc) e sx hn fun a out ee ys h' tk d' len sy nd mem so k le ea => ?_
  have hnone : H a = none := I.hok.fresh le
  have hlen : out.length = ys.length := by rw [← sy.strs, List.length_map]
  have lenD : ys.length ≤ sizeLine := by rw [sizeLine_eq]; omega
  exact ⟨.ref a, _, (I.drawAny d').laid (s := { s with drawn := d' }) k le (show ObjOk X.prog X.w _ h' a (.lst (ys.map V.str)) from ⟨by rw [List.length_map]; exact lenD, out, ee, vals_strs sy, ea⟩), rfl, q ys a nd mem so hnone⟩
end
end L2
namespace L2
open PySem PySem.Spec PyProof.Rows
end L2
namespace L2
open PySem PySem.Spec PyProof.Rows
theorem Vals.at_ : ∀ {xs : List V} {us : List Value} {j : Nat} {u : Value}, Vals xs us → us[j]? = some u → ∃ x, xs[j]? = some x ∧ RelV x u
  | _, _, j, u, .nil, h => by simp at h
  | _, _, 0, u, .cons r t, h => by
    cases h
    exact ⟨_, rfl, r⟩
  | _, _, j + 1, u, .cons r t, h => by
    obtain ⟨x, e, r'⟩ := Vals.at_ (j := j) t (by simpa using h)
    exact ⟨x, by simpa using e, r'⟩
section
variable {X : Cx} {K : PySem.W.Frag}
def rMax1 (K : PySem.W.Frag) : List V → Hp → VK → Prop := fun xs H Q => ∃ (l : Addr) (ns : List Int), xs = [.ref l] ∧ SqL K H l (ns.map V.int) ∧ 0 < ns.length ∧ ∀ M, M ∈ ns → (∀ a ∈ ns, a ≤ M) → Q (.int M) H
theorem call_max1 (hc : X.calm = true) (hK : X.K = K := by rfl) : CallR X (.builtin "max") (rMax1 K) := by
  subst hK
  intro pins s σ H xs us Q I r h
  obtain ⟨l, ns, rfl, hl, hne, q⟩ := h
  obtain ⟨u, rfl, ru⟩ := vals1 r
  cases ru
  obtain ⟨its, r1, p1, _⟩ := I.list hl
  have hi : IntsAre its.toArray.toList ns := intsAre_of r1
  obtain ⟨ys, e⟩ := hi.allInts.items
  have en : ns = ys.toList.map (·.1) := (hi.numsOf.symm.trans (by rw [e])).trans (nums_intItems ys)
  have el : ns.length = ys.size := by rw [en, List.length_map]; exact Array.length_toList
  have p1' := p1.isList
  rw [show its.toArray = intItems ys from e] at p1'
  refine max_intList (I.ok.hd hc) p1' (by omega) fun v h' tk hv hk => ?_
  obtain ⟨t, rfl⟩ := intItems_at hv
  have g := argBest_gt (numAt ys) (ys.size - 1)
  have at_ : ∀ j, numAt ys j = ns.getD j 0 := fun j => by rw [en]; exact numAt_eq ..
  refine ⟨.int _, H, I.kept hk, ⟨_, rfl⟩, q _ (by rw [at_]; exact getD_mem (by have := g.1; omega)) fun a ha => ?_⟩
  obtain ⟨j, hj, rfl⟩ := mem_getD ha
  rw [← at_]
  exact g.2 j (by omega)
def revS (z : Str) : Str := ⟨z.cps.toList.reverse.toArray⟩
theorem revS_len (z : Str) : (revS z).length = z.length := by simp [revS, Str.length]
end
end L2
namespace L2
open PySem PySem.Spec PyProof.Rows
section
variable {X : Cx}
end
def jl (c : Nat) : List (List Nat) → List Nat
  | [] => []
  | [x] => x
  | x :: y :: r => x ++ c :: jl c (y :: r)
end L2
namespace L2
open PySem PySem.Spec PyProof.Rows
section
variable {X : Cx} {K : PySem.W.Frag}
end
section
open PySem.SeqAt
open PySem.AutoSeq1 (wpAny_loadPart')
open PySem.MeetsSeq PySem.MeetsSeq2 PySem.MeetsSeq3
end
section
variable {X : Cx} {K : PySem.W.Frag}
end
end L2
namespace L2
open PySem PySem.Spec PyProof.Rows
section
open PySem.W (KasT kas_asc kas_count kas_cmp kas_st kas_item)
def Asks (n : Nat) (lt : Nat → Nat → Bool) {α : Type} (P : α → Prop) : KasT α → Prop
  | .ret a => P a
  | .ask i j k => i < n ∧ j < n ∧ Asks n lt P (k (lt i j))
theorem Asks.imp {n : Nat} {lt : Nat → Nat → Bool} {α : Type} {P P' : α → Prop} (g : ∀ a, P a → P' a) : ∀ {t : KasT α}, Asks n lt P t → Asks n lt P' t
  | .ret a, h => g a h
  | .ask _ _ _, ⟨h1, h2, h3⟩ => ⟨h1, h2, Asks.imp g h3⟩
theorem Asks.bind {n : Nat} {lt : Nat → Nat → Bool} {α β : Type} {P : α → Prop} {R : β → Prop} {f : α → KasT β} (g : ∀ a, P a → Asks n lt R (f a)) : ∀ {t : KasT α}, Asks n lt P t → Asks n lt R (t.bind f)
  | .ret a, h => g a h
  | .ask _ _ _, ⟨h1, h2, h3⟩ => ⟨h1, h2, Asks.bind g h3⟩
theorem Asks.wp {n : Nat} {lt : Nat → Nat → Bool} {α : Type} {P : α → Prop} {cmp : Nat → Nat → (Bool → Shared → Prop) → Shared → Prop} {s : Shared} {Q : α → Shared → Prop}
    (hc : ∀ i j (C : Bool → Shared → Prop), i < n → j < n → C (lt i j) s → cmp i j C s) (q : ∀ a, P a → Q a s) : ∀ {t : KasT α}, Asks n lt P t → t.kasWp cmp Q s
  | .ret a, h => q a h
  | .ask i j _, ⟨h1, h2, h3⟩ => hc i j _ h1 h2 (Asks.wp hc q h3)
end
def ordLt (i j : Int) (a b : Str) : Bool := if i = j then decide (a.cps.toList < b.cps.toList) else decide (i < j)
section
variable {prog : Program} {w : World} {A : Around} {E : Value → Shared → Prop} {s : Shared}
theorem forIn_turns {M : Model} {α : Type} {body : α → PUnit → Sem (ForInStep PUnit)} (J : Nat → Shared → Prop) : ∀ (l : List α) (i : Nat) (s : Shared), (∀ j x t, l[j]? = some x → J (i + j) t → wpAny M A (body x ⟨⟩) (fun r t' => r = .yield ⟨⟩ ∧ J (i + j + 1) t') E t) → J i s →
    wpAny M A (forIn l PUnit.unit body) (fun _ t => J (i + l.length) t) E s
  | [], i, s, _, h => by
    rw [List.forIn_nil]
    exact wpAny_pure h
  | x :: l, i, s, st, h => by
    rw [List.forIn_cons]
    refine wpAny_bind (wpAny_mono (st 0 x s rfl h) (fun r t hr => ?_) fun _ _ z => z)
    obtain ⟨rfl, hr⟩ := hr
    have q := forIn_turns J l (i + 1) t (fun j y t' hy hj => by
      have z := st (j + 1) y t' (by simpa using hy) (by rw [show i + (j + 1) = i + 1 + j by omega]; exact hj)
      rw [show i + 1 + j + 1 = i + (j + 1) + 1 by omega]
      exact z) hr
    rw [show i + (x :: l).length = i + 1 + l.length by rw [List.length_cons]; omega]
    exact q
end
abbrev lo (ks : List Value) (e : Nat) : Obj := { cls := .type "list", data := .seq ks.toArray e }
section
variable {X : Cx} {pins : List (Addr × Obj)} {σ : St} {H : Hp} {s : Shared}
structure Far (X : Cx) (pins : List (Addr × Obj)) (a : Addr) : Prop where
  loc : a ≠ X.env.locals
  fs : a ∉ X.fs
  new : X.s₀.heap.objs.size ≤ a
  cell : ∀ x c, X.env.cells.lookup x = some c → c ≠ a
  pin : ∀ p ∈ X.pn ++ pins, p.1 ≠ a
theorem Inv.far (I : Inv X pins σ H s) {a : Addr} (h : s.heap.objs.size ≤ a) : Far X pins a := by
  obtain ⟨_, f1, f2, f3, f4, f5⟩ := I.fpOk (H' := fun _ => none) h rfl
  exact ⟨f1, f2, Nat.le_trans I.sz h, f4, f5⟩
theorem Far.more {a : Addr} (f : Far X pins a) {b : Addr} {o : Obj} (h : b ≠ a) : Far X (pins ++ [(b, o)]) a :=
  ⟨f.loc, f.fs, f.new, f.cell, fun p hp => by
    rcases List.mem_append.mp hp with z | z
    · exact f.pin p (List.mem_append_left _ z)
    · rcases List.mem_append.mp z with y | y
      · exact f.pin p (List.mem_append_right _ y)
      · rw [List.mem_singleton.mp y]
        exact h⟩
theorem Inv.hold {a : Addr} {ks : List Value} {e : Nat} (I : Inv X pins σ H s) (f : Far X pins a) (h : s.heap.get? a = some (lo ks e)) (hn : H a = none) : Inv X (pins ++ [(a, lo ks e)]) σ H s :=
  I.pins_of fun p hp => (List.mem_append.mp hp).elim (fun z => I.pin p (List.mem_append_right _ z)) fun z => by
    rw [List.mem_singleton.mp z]
    exact ⟨h, hn, f.loc, f.fs, fun v y => by cases y⟩
theorem Inv.held {a : Addr} {o : Obj} (I : Inv X (pins ++ [(a, o)]) σ H s) : s.heap.get? a = some o ∧ H a = none :=
  let p := I.pin (a, o) (List.mem_append_right _ (List.mem_append_right _ (List.mem_singleton.mpr rfl)))
  ⟨p.1, p.2.1⟩
theorem Inv.rehold {a : Addr} {ks ks' : List Value} {e : Nat} {f : Array Value → Array Value} (I : Inv X (pins ++ [(a, lo ks e)]) σ H s) (fa : Far X pins a) (hf : f ks.toArray = ks'.toArray) :
    ∃ e', Inv X (pins ++ [(a, lo ks' e')]) σ H { s with heap := s.heap.update a (Obj.mapSeq f) } := by
  obtain ⟨h1, hn⟩ := I.held
  have q := PySem.IsL.update h1 f
  rw [hf] at q
  have I1 := (I.unpinned).turned (t' := s.toks) (it := a) (h' := s.heap.update a (Obj.mapSeq f)) (fun b o hb hu => (Heap.get?_update_other s.heap (Obj.mapSeq f) (Ne.symm hb)).trans hu) hn fa.loc (.inr fa.new) fa.cell fa.pin
  exact ⟨_, I1.hold fa q hn⟩
end
section
variable {X : Cx} {pins : List (Addr × Obj)} {σ : St} {H : Hp} {s : Shared} {x : Str} {k : Nat} {ps : List Str} {sp : Sp} {ok : V → Prop} {kf : V → List V}
theorem line_leM {n : Nat} (h : n ≤ 1000000) : n ≤ sizeLine := by rw [sizeLine_eq]; omega
theorem sort_tail {D kS : Addr} {e1 e : Nat} {ks its : List Value} {ws : List V} {st : SortSt} {A : Around} {E : Value → Shared → Prop} {P : PySem.Fin → Shared → Prop} (I : Inv X (pins ++ [(D, lo [] e1)] ++ [(kS, lo ks e)]) σ H s) (fD : Far X pins D)
    (fk : Far X (pins ++ [(D, lo [] e1)]) kS) (hks : ks.length ≤ 1000000) (hout : (arrOf st).map (·.2) = its.toArray) (hf : failedOf st = none) (hv : Vals ws its) (hw : ws.length ≤ 1000000)
    (fin : ∀ s', Inv X pins σ (upd H D (.lst ws)) s' → P (.done (.ret .none)) s') : wpAny (model X.prog X.w) A (ksk_tail D false e1 (.ref kS) st) P E s := by
  obtain ⟨hk, _⟩ := I.held
  obtain ⟨e2, I2⟩ := I.rehold (f := fun _ => #[]) (ks' := []) fk rfl
  have I3 := I2.unpinned
  obtain ⟨hD, nD⟩ := I3.held
  obtain ⟨e3, I4⟩ := I3.rehold (f := fun _ => its.toArray) (ks' := its) fD rfl
  have hli : its.length ≤ 1000000 := by rw [← hv.length]; exact hw
  have I5 := (I4.unpinned).adopt (o := .lst ws) fD.new nD fD.loc fD.cell fD.pin ⟨line_leM hw, its, e3, hv, I4.held.1⟩
  unfold ksk_tail
  dsimp only
  rw [hout]
  refine wpAny_bind (listUpdate_at hk rfl ?_ (by rw [List.size_toArray]; exact line_leM hks) (Nat.zero_le _))
  refine wpAny_bind (wpAny_letGo ?_)
  refine wpAny_bind (seqEpoch_at hD rfl ?_)
  refine wpAny_bind (listUpdate_at hD rfl ?_ (Nat.zero_le _) (Nat.le_succ_of_le (by show its.toArray.size ≤ _; rw [List.size_toArray]; exact line_leM hli)))
  rw [hf]
  simp only [bne_self_eq_false, Bool.false_eq_true, if_false]
  exact wpAny_pure (fin _ I5)
def ordS (a b : Str) : Bool := ordLt (a.length : Int) (b.length : Int) a b
end
theorem range_getD {n i : Nat} (h : i < n) : (List.range n).toArray.getD i 0 = i := by simp [Array.getD, h]
end L2
namespace L2
open PySem PySem.Spec PyProof.Rows
section
open PySem.W (KasT kas_asc kas_desc kas_tail3 kas_descPart kas_count kas_place kas_bin kas_sort kas_rev)
structure Strict (n : Nat) (lt : Nat → Nat → Bool) : Prop where
  irr : ∀ i, i < n → lt i i = false
  tra : ∀ i j k, i < n → j < n → k < n → lt i j = true → lt j k = true → lt i k = true
  tot : ∀ i j, i < n → j < n → i ≠ j → lt i j = true ∨ lt j i = true
structure Perm0 (n : Nat) (p : Array Nat) : Prop where
  per : p.toList.Perm (List.range n)
theorem getD_of {p : Array Nat} {i : Nat} (h : i < p.size) : p[i]? = some (p.getD i 0) := by
  rw [Array.getElem?_eq_getElem h]
  simp [Array.getD, h]
theorem getD_q {p q : Array Nat} {i j : Nat} (h : p[i]? = q[j]?) : p.getD i 0 = q.getD j 0 := by
  rw [Array.getD_eq_getD_getElem?, Array.getD_eq_getD_getElem?, h]
theorem perm0_range (n : Nat) : Perm0 n (List.range n).toArray := ⟨by simp⟩
theorem Perm0.size {n : Nat} {p : Array Nat} (h : Perm0 n p) : p.size = n := by
  have := h.per.length_eq
  simpa using this
theorem Perm0.lt {n : Nat} {p : Array Nat} (h : Perm0 n p) (i : Nat) (hi : i < n) : p.getD i 0 < n := by
  have q := getD_of (p := p) (i := i) (by rw [h.size]; exact hi)
  rw [← Array.getElem?_toList] at q
  exact List.mem_range.mp (h.per.mem_iff.mp (List.mem_of_getElem? q))
theorem Perm0.inj {n : Nat} {p : Array Nat} (h : Perm0 n p) (i j : Nat) (hi : i < n) (hj : j < n) (e : p.getD i 0 = p.getD j 0) : i = j := by
  have nd : p.toList.Nodup := h.per.nodup_iff.mpr List.nodup_range
  rw [List.nodup_iff_pairwise_ne, List.pairwise_iff_getElem] at nd
  have li : i < p.toList.length := by rw [Array.length_toList, h.size]; exact hi
  have lj : j < p.toList.length := by rw [Array.length_toList, h.size]; exact hj
  have a := getD_of (p := p) (i := i) (by rw [h.size]; exact hi)
  have b := getD_of (p := p) (i := j) (by rw [h.size]; exact hj)
  rw [← Array.getElem?_toList, List.getElem?_eq_getElem li] at a
  rw [← Array.getElem?_toList, List.getElem?_eq_getElem lj] at b
  have e' : p.toList[i] = p.toList[j] := by rw [Option.some.inj a, Option.some.inj b, e]
  rcases Nat.lt_trichotomy i j with z | z | z
  · exact absurd e' (nd i j li lj z)
  · exact z
  · exact absurd e'.symm (nd j i lj li z)
def UpTo (lt : Nat → Nat → Bool) (p : Array Nat) (m : Nat) : Prop := ∀ i j, i < j → j < m → lt (p.getD i 0) (p.getD j 0) = true
def DownTo (lt : Nat → Nat → Bool) (p : Array Nat) (m : Nat) : Prop := ∀ i j, i < j → j < m → lt (p.getD j 0) (p.getD i 0) = true
variable {n : Nat} {lt : Nat → Nat → Bool} {p : Array Nat}
theorem UpTo.succ (hS : Strict n lt) (hp : Perm0 n p) {m : Nat} (h1 : 1 ≤ m) (hm : m < n) (u : UpTo lt p m) (c : lt (p.getD (m - 1) 0) (p.getD m 0) = true) : UpTo lt p (m + 1) := fun i j hij hj => by
  by_cases e : j = m
  · subst e
    by_cases e2 : i = j - 1
    · subst e2; exact c
    · exact hS.tra _ _ _ (hp.lt _ (by omega)) (hp.lt _ (by omega)) (hp.lt _ hm) (u i (j - 1) (by omega) (by omega)) c
  · exact u i j hij (by omega)
theorem DownTo.succ (hS : Strict n lt) (hp : Perm0 n p) {m : Nat} (h1 : 1 ≤ m) (hm : m < n) (u : DownTo lt p m) (c : lt (p.getD m 0) (p.getD (m - 1) 0) = true) : DownTo lt p (m + 1) := fun i j hij hj => by
  by_cases e : j = m
  · subst e
    by_cases e2 : i = j - 1
    · subst e2; exact c
    · exact hS.tra _ _ _ (hp.lt _ hm) (hp.lt _ (by omega)) (hp.lt _ (by omega)) c (u i (j - 1) (by omega) (by omega))
  · exact u i j hij (by omega)
theorem Strict.not (hS : Strict n lt) {i j : Nat} (hi : i < n) (hj : j < n) (h : i ≠ j) (c : lt i j = false) : lt j i = true := by
  rcases hS.tot i j hi hj h with z | z
  · rw [c] at z; cases z
  · exact z
theorem Perm0.rev (hp : Perm0 n p) (m : Nat) : Perm0 n (kas_rev p 0 m) := ⟨(Array.perm_iff_toList_perm.mp (mirror_perm _ _ _ _)).trans hp.per⟩
theorem bub_getD (hp : Perm0 n p) {k l : Nat} (hk : k < n) (hl : l ≤ k) (t : Nat) : (bubble p k (k - l)).getD t 0 = if t = l then p.getD k 0 else if l < t ∧ t ≤ k then p.getD (t - 1) 0 else p.getD t 0 := by
  have h := getElem?_bubble (xs := p) (src := k) (by rw [hp.size]; exact hk) (k - l) (by omega) t
  rw [show k - (k - l) = l by omega] at h
  split at h
  · rename_i z; rw [if_pos z]; exact getD_q h
  · rename_i z
    rw [if_neg z]
    split at h
    · rename_i y; rw [if_pos y]; exact getD_q h
    · rename_i y; rw [if_neg y]; exact getD_q h
theorem Perm0.bub (hp : Perm0 n p) (k d : Nat) : Perm0 n (bubble p k d) := ⟨(Array.perm_iff_toList_perm.mp (bubble_perm _ _ _)).trans hp.per⟩
end
end L2
namespace L2
open PySem PySem.Spec PyProof.Rows
def OrdAll (zs : List Str) : Prop := zs.Pairwise fun a b => ordS b a = false
section
open PySem.W (kas_count kas_ask kas_item kas_st kas_asc)
end
section
variable {X : Cx} {pins : List (Addr × Obj)} {σ : St} {H : Hp} {s : Shared} {x : Str} {k : Nat} {ps : List Str} {sp : Sp}
theorem lt_tri (x y : List Nat) (h : x ≠ y) : x < y ∨ y < x := by
  rcases Decidable.em (x < y) with z | z
  · exact .inl z
  · rcases Decidable.em (y < x) with z' | z'
    · exact .inr z'
    · exact absurd (List.le_antisymm (List.not_lt.mp z') (List.not_lt.mp z)) h
theorem ordS_tot {a b : Str} (h : a ≠ b) : ordS a b = true ∨ ordS b a = true := by
  unfold ordS ordLt
  by_cases e : (a.length : Int) = b.length
  · rw [if_pos e, if_pos e.symm]
    rcases lt_tri a.cps.toList b.cps.toList (fun z => h (by cases a; cases b; simpa using z)) with z | z
    · exact .inl (decide_eq_true z)
    · exact .inr (decide_eq_true z)
  · rw [if_neg e, if_neg (fun z => e z.symm)]
    rcases Int.lt_or_lt_of_ne e with z | z
    · exact .inl (decide_eq_true z)
    · exact .inr (decide_eq_true z)
theorem ord_one {zs zs' : List Str} (h : zs.Perm zs') (a : OrdAll zs) (b : OrdAll zs') : zs = zs' := by
  refine List.Perm.eq_of_pairwise (le := fun x y => ordS y x = false) (fun x y _ _ h1 h2 => ?_) a b h
  rcases Decidable.em (x = y) with e | e
  · exact e
  · rcases ordS_tot e with z | z
    · rw [h2] at z; cases z
    · rw [h1] at z; cases z
end
end L2
namespace L2
open PySem PySem.Spec PyProof.Rows
section
variable {P : Program} {w : World} {A : Around} {E : Value → Shared → Prop} {s : Shared}
end
section
variable {X : Cx} {pins : List (Addr × Obj)} {σ : St} {H : Hp} {s : Shared} {x : Str} {k : Nat} {ps : List Str} {sp : Sp}
end
end L2
namespace L2
open PySem PySem.Spec PyProof.Rows
abbrev bmV : List Value := [.type "ValueError", .type "Exception", .type "BaseException", .type "object"]
def excK (K : PySem.W.Frag) (C : Addr) (ini : Option Value) : Bool := match K.lookup C with
  | some ⟨.type "type", _, .cls cd, sl⟩ => match cd.mro, sl.toList with
    | .ref C' :: bm, [_, _, _, _, some (.builtin n), _] => C' == C && n == "ValueError.__new__" && !cd.hasDel && cd.hasDict && PySem.W.tailIn K bmV bm && PySem.W.nsOkIn K cd.ns && PySem.W.nsIn K cd.ns "__init__" == some ini
    | _, _ => false
  | _ => false
structure ExcC (K : PySem.W.Frag) (h : Heap) (C : Addr) (ini : Option Value) : Prop where
  obj : ∃ nm q N bs bm sn sub ab col dd k0 k1 k2 k3 k5 mN, h.get? C = some (excClassObj nm q C N bs bm true sn sub ab col dd k0 k1 k2 k3 k5 "ValueError.__new__") ∧ h.Ns N mN ∧ mN "__init__" = ini ∧ OwnTail h bmV bm
section
variable {prog : Program} {w : World} {A : Around} {E : Value → Shared → Prop} {s : Shared} {K : PySem.W.Frag} {C : Addr}
end
abbrev exO (C T : Addr) (d : Option Addr) : Obj := { cls := .ref C, dict := d, data := .fields #[.ref T, .none, .none, .none, .bool false, .none] }
section
variable {prog : Program} {w : World} {A : Around} {E : Value → Shared → Prop} {s : Shared} {K : PySem.W.Frag} {x C : Addr} {ox : Obj} {od : Option Obj} {name : Str}
def passB : List Value → Bool
  | [] => false
  | v :: r => (v :: r) == bmV || match v with | .ref _ => passB r | _ => false
end
end L2
namespace L2
open PySem PySem.Spec PyProof.Rows
def exH (a C : Addr) (d : Option Addr) : HO := .ext fun h => ∃ T, h.get? a = some (exO C T d)
def xdH (dx : Addr) (fs : List (Str × V)) : HO := .ext fun h => ∃ mA, h.Ns1 dx mA ∧ (∀ f, RelO (fs.lookup f) (mA f)) ∧ PySem.Within mA (fs.map (·.1))
def Exn (H : Hp) (a C : Addr) (fs : List (Str × V)) : Prop := (H a = some (exH a C none) ∧ fs = []) ∨ ∃ dx, H a = some (exH a C (some dx)) ∧ H dx = some (xdH dx fs)
theorem Exn.same {H H' : Hp} {a C : Addr} {fs : List (Str × V)} (h : Exn H a C fs) (e : Same H H') : Exn H' a C fs := by
  rcases h with ⟨h1, h2⟩ | ⟨dx, h1, h2⟩
  · exact .inl ⟨e _ _ h1, h2⟩
  · exact .inr ⟨dx, e _ _ h1, e _ _ h2⟩
structure ExcF (K : PySem.W.Frag) (C : Addr) : Prop where
  ga : PySem.W.findIn K (.ref C) "__getattribute__" = some (some (.builtin "BaseException.__getattribute__"))
  gn : PySem.W.findIn K (.ref C) "__getattr__" = some none
  be : PySem.W.mroIn K C (.type "BaseException") = some true
  ob : PySem.W.mroIn K C (.type "object") = some true
  cl : ∃ cd, PySem.W.clsIn K C = some cd ∧ cd.hasDict = true ∧ passB cd.mro = true
  sa : PySem.W.findIn K (.ref C) "__setattr__" = some (some (.builtin "object.__setattr__"))
  cc : PySem.W.findIn K (.ref C) "__class__" = some (some (.builtin "object.__class__"))
  cg : PySem.W.specialIn K (.builtin "object.__class__") "__get__" = some (some (.builtin "getset_descriptor.__get__"))
  ct : PySem.W.takesIn K (.builtin "object.__class__") = some true
section
variable {X : Cx} {pins : List (Addr × Obj)} {σ : St} {H : Hp} {s : Shared} {a C : Addr} {fs : List (Str × V)} {A : Around} {E : Value → Shared → Prop}
structure CalX (P : Program) (w : World) (K : PySem.W.Frag) (mg : Str → Option Value) (base : Heap) (x : Str) (k : Nat) (ps : List Str) (sp : Sp) (C : Addr) where
  f : Addr
  fd : FuncData
  oI : Obj
  exc : excK K C (some (.ref f)) = true
  kp : PySem.W.keepIn K (.ref C) = true
  at_ : mg x = some (.ref C)
  lk : K.lookup f = some oI
  fc : oI.cls = .type "function"
  ok : FnOk P w K mg base CX0 k f fd ps sp
  b : Binds K fd ps []
end
end L2
namespace L2
open PySem PySem.Spec PyProof.Rows
section
variable {P : Program} {w : World} {A : Around} {E : Value → Shared → Prop} {s : Shared}
end
section
variable {X : Cx}
end
end L2
namespace L2
open PySem PySem.Spec PyProof.Rows
def ValsAt (h : Heap) (d : Addr) (vs : List Value) (ep : Nat) : Prop := ∃ o es, h.get? d = some o ∧ o.ExactDict ∧ o.data = .dict es ep ∧ es.toList.map (·.val) = vs
theorem ValsAt.to {h h' : Heap} {d : Addr} {vs : List Value} {ep : Nat} (x : ValsAt h d vs ep) (e : ∀ o, h.get? d = some o → h'.get? d = some o) : ValsAt h' d vs ep := let ⟨o, es, q, r⟩ := x; ⟨o, es, e o q, r⟩
theorem ValsAt.lt {h : Heap} {d : Addr} {vs : List Value} {ep : Nat} (x : ValsAt h d vs ep) : d < h.objs.size := let ⟨_, _, q, _⟩ := x; Heap.lt_size q
section
variable {P : Program} {w : World} {A : Around} {E : Value → Shared → Prop} {s : Shared} {d : Addr} {vs : List Value} {ep : Nat}
end
section
variable {X : Cx} {pins : List (Addr × Obj)} {σ : St} {H : Hp} {s : Shared} {x : Str} {k : Nat} {ps : List Str} {sp : Sp}
end
end L2
namespace L2
open PySem PySem.Spec PyProof.Rows
section
open PySem.W (KasT kas_asc kas_desc kas_tail3 kas_descPart kas_count kas_place kas_bin kas_sort kas_rev)
variable {n : Nat} {key : Nat → Nat} {p : Array Nat}
def ltK (key : Nat → Nat) (i j : Nat) : Bool := decide (key i < key j)
structure Pf (n m : Nat) (p : Array Nat) : Prop where
  per : Perm0 n p
  rest : ∀ i, m ≤ i → i < n → p.getD i 0 = i
theorem Pf.low {m : Nat} (h : Pf n m p) {i : Nat} (hi : i < m) (hn : i < n) : p.getD i 0 < m := by
  rcases Nat.lt_or_ge (p.getD i 0) m with z | z
  · exact z
  · have l := h.per.lt i hn
    have := h.per.inj (p.getD i 0) i l hn (h.rest _ z l)
    omega
theorem Pf.more {m : Nat} (h : Pf n m p) : Pf n (m + 1) p := ⟨h.per, fun i a b => h.rest i (by omega) b⟩
theorem pf_range (n m : Nat) : Pf n m (List.range n).toArray := ⟨perm0_range n, fun i _ h => range_getD h⟩
def SUp (key : Nat → Nat) (p : Array Nat) (m : Nat) : Prop := ∀ i j, i < j → j < m → key (p.getD i 0) < key (p.getD j 0) ∨ (key (p.getD i 0) = key (p.getD j 0) ∧ p.getD i 0 < p.getD j 0)
theorem SUp.le {m : Nat} (u : SUp key p m) {i j : Nat} (h : i ≤ j) (hj : j < m) : key (p.getD i 0) ≤ key (p.getD j 0) := by
  by_cases e : i = j
  · rw [e]; exact Nat.le_refl _
  · rcases u i j (by omega) hj with z | z <;> omega
theorem SUp.succ {m : Nat} (u : SUp key p m) (h : 1 ≤ m) (lo : ∀ i, i < m → p.getD i 0 < p.getD m 0) (c : key (p.getD (m - 1) 0) ≤ key (p.getD m 0)) : SUp key p (m + 1) := fun i j hij hj => by
  by_cases e : j = m
  · subst e
    have a := u.le (i := i) (j := j - 1) (by omega) (by omega)
    have b := lo i hij
    rcases Nat.lt_or_ge (key (p.getD i 0)) (key (p.getD j 0)) with z | z
    · exact .inl z
    · exact .inr ⟨by omega, b⟩
  · exact u i j hij (by omega)
theorem Pf.lo {m : Nat} (h : Pf n m p) (hm : m < n) : ∀ i, i < m → p.getD i 0 < p.getD m 0 := fun i hi => by
  rw [h.rest m (Nat.le_refl _) hm]
  exact h.low hi (by omega)
theorem stay_asc : ∀ (f m : Nat), 1 ≤ m → m + f ≤ n → Pf n m p → SUp key p m → Asks n (ltK key) (fun r => m ≤ r ∧ r ≤ m + f ∧ SUp key p r ∧ (r < m + f → key (p.getD r 0) < key (p.getD (r - 1) 0))) (kas_asc p f m)
  | 0, m, _, _, _, u => ⟨Nat.le_refl _, Nat.le_refl _, u, fun z => absurd z (by omega)⟩
  | f + 1, m, h1, h2, hp, u => by
    refine ⟨hp.per.lt m (by omega), hp.per.lt (m - 1) (by omega), ?_⟩
    by_cases c : key (p.getD m 0) < key (p.getD (m - 1) 0)
    · rw [show ltK key (p.getD m 0) (p.getD (m - 1) 0) = true from decide_eq_true c]
      exact ⟨Nat.le_refl _, by omega, u, fun _ => c⟩
    · rw [show ltK key (p.getD m 0) (p.getD (m - 1) 0) = false from decide_eq_false c]
      exact (stay_asc f (m + 1) (by omega) (by omega) hp.more (u.succ h1 (hp.lo (by omega)) (by omega))).imp fun r h => ⟨by omega, by omega, h.2.2.1, fun z => h.2.2.2 (by omega)⟩
structure SDn (key : Nat → Nat) (p : Array Nat) (m q : Nat) : Prop where
  fit : q + 1 ≤ m
  d1 : ∀ i j, i < j → j < m - (q + 1) → key (p.getD j 0) < key (p.getD i 0) ∨ (key (p.getD i 0) = key (p.getD j 0) ∧ p.getD j 0 < p.getD i 0)
  d2 : ∀ i j, i < m - (q + 1) → m - (q + 1) ≤ j → j < m → key (p.getD j 0) < key (p.getD i 0)
  d3 : ∀ i j, m - (q + 1) ≤ i → i < j → j < m → key (p.getD i 0) = key (p.getD j 0) ∧ p.getD i 0 < p.getD j 0
def STd (key : Nat → Nat) (p : Array Nat) (m : Nat) : Prop := ∀ i j, i < j → j < m → key (p.getD j 0) < key (p.getD i 0) ∨ (key (p.getD i 0) = key (p.getD j 0) ∧ p.getD j 0 < p.getD i 0)
theorem rev_at (hp : Perm0 n p) {a b : Nat} (hab : a ≤ b) (hb : b ≤ n) (k : Nat) : (kas_rev p a b).getD k 0 = if a ≤ k ∧ k < b then p.getD (a + b - 1 - k) 0 else p.getD k 0 := by
  have h := getElem?_mirror_all (xs := p) (i := a) (j := b) (by rw [hp.size]; exact hb) k
  unfold PySem.W.kas_rev
  by_cases z : a ≤ k ∧ k < b
  · rw [if_pos z] at h
    rw [if_pos z]
    exact getD_q h
  · rw [if_neg z] at h
    rw [if_neg z]
    exact getD_q h
theorem Perm0.revA (hp : Perm0 n p) (a b : Nat) : Perm0 n (kas_rev p a b) := ⟨(Array.perm_iff_toList_perm.mp (mirror_perm _ _ _ _)).trans hp.per⟩
theorem Pf.rev {m : Nat} (h : Pf n m p) {a b : Nat} (hab : a ≤ b) (hb : b ≤ m) (hm : m ≤ n) : Pf n m (kas_rev p a b) := ⟨h.per.revA a b, fun i h1 h2 => by rw [rev_at h.per hab (by omega), if_neg (by omega)]; exact h.rest i h1 h2⟩
theorem SDn.turn {m q : Nat} (h : SDn key p m q) (hp : Perm0 n p) (hm : m ≤ n) : STd key (kas_rev p (m - (q + 1)) m) m := fun i j hij hj => by
  have fit := h.fit
  rw [rev_at hp (by omega) hm, rev_at hp (by omega) hm]
  by_cases c1 : j < m - (q + 1)
  · rw [if_neg (by omega), if_neg (by omega)]
    exact h.d1 i j hij c1
  · by_cases c2 : i < m - (q + 1)
    · rw [if_pos ⟨by omega, hj⟩, if_neg (by omega)]
      exact .inl (h.d2 i _ c2 (by omega) (by omega))
    · rw [if_pos ⟨by omega, hj⟩, if_pos ⟨by omega, by omega⟩]
      have := h.d3 (m - (q + 1) + m - 1 - j) (m - (q + 1) + m - 1 - i) (by omega) (by omega) (by omega)
      exact .inr ⟨this.1.symm, this.2⟩
theorem SDn.flat {m : Nat} (h : SDn key p m 0) : STd key p m := fun i j hij hj => by
  have fit := h.fit
  by_cases c1 : j < m - (0 + 1)
  · exact h.d1 i j hij c1
  · exact .inl (h.d2 i j (by omega) (by omega) hj)
theorem STd.grow {m : Nat} (h : STd key p m) (h1 : 1 ≤ m) (c : key (p.getD m 0) < key (p.getD (m - 1) 0)) : SDn key p (m + 1) 0 := by
  have le : ∀ i, i < m → key (p.getD (m - 1) 0) ≤ key (p.getD i 0) := fun i hi => by
    by_cases e : i = m - 1
    · rw [e]; exact Nat.le_refl _
    · rcases h i (m - 1) (by omega) (by omega) with z | z <;> omega
  refine ⟨by omega, fun i j a b => h i j a (by omega), fun i j a b d => ?_, fun i j a b d => absurd d (by omega)⟩
  obtain rfl : j = m := by omega
  have := le i (by omega)
  omega
theorem SDn.tie {m q : Nat} (h : SDn key p m q) (hl : ∀ i, i < m → p.getD i 0 < p.getD m 0) (c : key (p.getD m 0) = key (p.getD (m - 1) 0)) : SDn key p (m + 1) (q + 1) := by
  have fit := h.fit
  have last : ∀ i, m - (q + 1) ≤ i → i < m → key (p.getD i 0) = key (p.getD m 0) := fun i a b => by
    by_cases e : i = m - 1
    · rw [e]; exact c.symm
    · rw [(h.d3 i (m - 1) a (by omega) (by omega)).1]; exact c.symm
  refine ⟨by omega, fun i j a b => h.d1 i j a (by omega), fun i j a b d => ?_, fun i j a b d => ?_⟩
  · by_cases e : j = m
    · subst e
      have := h.d2 i (j - 1) (by omega) (by omega) (by omega)
      omega
    · exact h.d2 i j (by omega) (by omega) (by omega)
  · by_cases e : j = m
    · subst e
      exact ⟨last i (by omega) b, hl i b⟩
    · exact h.d3 i j (by omega) b (by omega)
theorem stay_desc : ∀ (f : Nat) (p : Array Nat) (m q : Nat), 1 ≤ m → m + f ≤ n → Pf n m p → SDn key p m q → Asks n (ltK key) (fun r => m ≤ r.2.1 ∧ r.2.1 ≤ m + f ∧ Pf n r.2.1 r.1 ∧ SDn key r.1 r.2.1 r.2.2) (kas_desc f p m q)
  | 0, p, m, q, _, _, hp, u => ⟨Nat.le_refl _, Nat.le_refl _, hp, u⟩
  | f + 1, p, m, q, h1, h2, hp, u => by
    have fit := u.fit
    refine ⟨hp.per.lt m (by omega), hp.per.lt (m - 1) (by omega), ?_⟩
    by_cases c : key (p.getD m 0) < key (p.getD (m - 1) 0)
    · rw [show ltK key (p.getD m 0) (p.getD (m - 1) 0) = true from decide_eq_true c]
      show Asks n (ltK key) _ (if q > 0 then kas_desc f (kas_rev p (m - (q + 1)) m) (m + 1) 0 else kas_desc f p (m + 1) 0)
      by_cases z : q > 0
      · rw [if_pos z]
        have hp' := hp.rev (a := m - (q + 1)) (b := m) (by omega) (Nat.le_refl _) (by omega)
        refine (stay_desc f _ (m + 1) 0 (by omega) (by omega) hp'.more ((u.turn hp.per (by omega)).grow h1 ?_)).imp fun r h => ⟨by omega, by omega, h.2.2.1, h.2.2.2⟩
        rw [rev_at hp.per (by omega) (by omega), rev_at hp.per (by omega) (by omega), if_neg (by omega), if_pos ⟨by omega, by omega⟩]
        have := (u.d3 (m - (q + 1) + m - 1 - (m - 1)) (m - 1) (by omega) (by omega) (by omega)).1
        omega
      · rw [if_neg z]
        obtain rfl : q = 0 := by omega
        exact (stay_desc f p (m + 1) 0 (by omega) (by omega) hp.more (u.flat.grow h1 c)).imp fun r h => ⟨by omega, by omega, h.2.2.1, h.2.2.2⟩
    · rw [show ltK key (p.getD m 0) (p.getD (m - 1) 0) = false from decide_eq_false c]
      refine ⟨hp.per.lt (m - 1) (by omega), hp.per.lt m (by omega), ?_⟩
      by_cases d : key (p.getD (m - 1) 0) < key (p.getD m 0)
      · rw [show ltK key (p.getD (m - 1) 0) (p.getD m 0) = true from decide_eq_true d]
        exact ⟨Nat.le_refl _, by show m ≤ m + (f + 1); omega, hp, u⟩
      · rw [show ltK key (p.getD (m - 1) 0) (p.getD m 0) = false from decide_eq_false d]
        exact (stay_desc f p (m + 1) (q + 1) (by omega) (by omega) hp.more (u.tie (hp.lo (by omega)) (by omega))).imp fun r h => ⟨by omega, by omega, h.2.2.1, h.2.2.2⟩
theorem STd.turn {m : Nat} (h : STd key p m) (hp : Perm0 n p) (hm : m ≤ n) : SUp key (kas_rev p 0 m) m := fun i j hij hj => by
  rw [rev_at hp (Nat.zero_le _) hm, rev_at hp (Nat.zero_le _) hm, if_pos ⟨Nat.zero_le _, by omega⟩, if_pos ⟨Nat.zero_le _, hj⟩]
  rcases h (0 + m - 1 - j) (0 + m - 1 - i) (by omega) (by omega) with z | z
  · exact .inl z
  · exact .inr ⟨z.1.symm, z.2⟩
def Cnt (n : Nat) (key : Nat → Nat) (r : Nat × Array Nat) : Prop := 1 ≤ r.1 ∧ r.1 ≤ n ∧ Pf n r.1 r.2 ∧ SUp key r.2 r.1
theorem stay_tail {m : Nat} (h1 : 1 ≤ m) (hm : m ≤ n) (hp : Pf n m p) (u : STd key p m) : Asks n (ltK key) (Cnt n key) (kas_tail3 m n p) := by
  unfold PySem.W.kas_tail3
  have hp' := hp.rev (a := 0) (b := m) (Nat.zero_le _) (Nat.le_refl _) hm
  refine Asks.bind (fun q hq => ?_) (stay_asc (n - m) m h1 (by omega) hp' (u.turn hp.per hm))
  exact ⟨by omega, by omega, ⟨hp'.per, fun i a b => hp'.rest i (by omega) b⟩, hq.2.2.1⟩
theorem stay_part {m : Nat} (h1 : 1 ≤ m) (hm : m < n) (hp : Pf n m p) (u : SDn key p (m + 1) 0) : Asks n (ltK key) (Cnt n key) (kas_descPart m n p) := by
  unfold PySem.W.kas_descPart
  refine Asks.bind (fun r hr => ?_) (stay_desc (n - (m + 1)) p (m + 1) 0 (by omega) (by omega) hp.more u)
  obtain ⟨r1, r2, r3⟩ := r
  obtain ⟨e1, e2, e3, e4⟩ := hr
  dsimp only at e1 e2 e3 e4 ⊢
  have fit := e4.fit
  by_cases z : r3 > 0
  · rw [if_pos z]
    exact stay_tail (by omega) (by omega) (e3.rev (by omega) (Nat.le_refl _) (by omega)) (e4.turn e3.per (by omega))
  · rw [if_neg z]
    obtain rfl : r3 = 0 := by omega
    exact stay_tail (by omega) (by omega) e3 e4.flat
theorem stay_count (h1 : 1 ≤ n) : Asks n (ltK key) (Cnt n key) (kas_count n (List.range n).toArray) := by
  unfold PySem.W.kas_count
  have hp := fun m => pf_range n m
  refine Asks.bind (fun m hm => ?_) (stay_asc (p := (List.range n).toArray) (n - 1) 1 (Nat.le_refl _) (by omega) (hp 1) fun i j a b => by omega)
  obtain ⟨m1, m2, u, c⟩ := hm
  by_cases e : m = n
  · subst e
    rw [if_pos (by simp)]
    exact ⟨h1, Nat.le_refl _, hp _, u⟩
  · rw [if_neg (by simpa using e)]
    have c' := c (by omega)
    by_cases g : m > 1
    · rw [if_pos g]
      refine ⟨(hp 0).per.lt _ (by omega), (hp 0).per.lt _ (by omega), ?_⟩
      by_cases d : key ((List.range n).toArray.getD 0 0) < key ((List.range n).toArray.getD (m - 1) 0)
      · rw [show ltK key _ _ = true from decide_eq_true d]
        exact ⟨m1, by omega, hp _, u⟩
      · rw [show ltK key _ _ = false from decide_eq_false d]
        show Asks n (ltK key) _ (kas_descPart m n (kas_rev (List.range n).toArray 0 m))
        have hp' := (hp m).rev (a := 0) (b := m) (Nat.zero_le _) (Nat.le_refl _) (by omega)
        have eqs : ∀ i, i < m → key ((List.range n).toArray.getD i 0) = key ((List.range n).toArray.getD 0 0) := fun i hi => by
          have a := u.le (i := 0) (j := i) (Nat.zero_le _) hi
          have b := u.le (i := i) (j := m - 1) (by omega) (by omega)
          omega
        refine stay_part m1 (by omega) hp' (STd.grow (fun i j a b => ?_) m1 ?_)
        · rw [rev_at (hp 0).per (Nat.zero_le _) (by omega), rev_at (hp 0).per (Nat.zero_le _) (by omega), if_pos (show 0 ≤ j ∧ j < m from ⟨Nat.zero_le _, b⟩), if_pos (show 0 ≤ i ∧ i < m from ⟨Nat.zero_le _, by omega⟩)]
          have x1 := eqs (0 + m - 1 - i) (by omega)
          have x2 := eqs (0 + m - 1 - j) (by omega)
          refine .inr ⟨by omega, ?_⟩
          rw [range_getD (by omega), range_getD (by omega)]
          omega
        · rw [rev_at (hp 0).per (Nat.zero_le _) (by omega), rev_at (hp 0).per (Nat.zero_le _) (by omega), if_neg (by omega), if_pos ⟨Nat.zero_le _, by omega⟩]
          have x1 := eqs (0 + m - 1 - (m - 1)) (by omega)
          have x2 := eqs (m - 1) (by omega)
          omega
    · rw [if_neg g]
      obtain rfl : m = 1 := by omega
      refine stay_part (Nat.le_refl _) (by omega) (hp 1) (STd.grow (fun i j a b => absurd b (by omega)) (Nat.le_refl _) c')
theorem stay_place {k : Nat} (hp : Pf n k p) (hk : k < n) (u : SUp key p k) : ∀ (f l r : Nat), l ≤ r → r ≤ k → r - l ≤ f → (∀ t, t < l → key (p.getD t 0) ≤ key (p.getD k 0)) → (∀ t, r ≤ t → t < k → key (p.getD k 0) < key (p.getD t 0)) →
    Asks n (ltK key) (fun l' => l' ≤ k ∧ (∀ t, t < l' → key (p.getD t 0) ≤ key (p.getD k 0)) ∧ ∀ t, l' ≤ t → t < k → key (p.getD k 0) < key (p.getD t 0)) (kas_place p k f l r)
  | 0, l, r, h1, h2, h3, a, b => ⟨by omega, a, fun t t1 t2 => b t (by omega) t2⟩
  | f + 1, l, r, h1, h2, h3, a, b => by
    unfold PySem.W.kas_place
    by_cases z : l ≥ r
    · rw [if_pos z]
      exact ⟨by omega, a, fun t t1 t2 => b t (by omega) t2⟩
    · rw [if_neg z]
      refine ⟨hp.per.lt k hk, hp.per.lt _ (by omega), ?_⟩
      by_cases c : key (p.getD k 0) < key (p.getD ((l + r) / 2) 0)
      · rw [show ltK key _ _ = true from decide_eq_true c]
        refine stay_place hp hk u f l ((l + r) / 2) (by omega) (by omega) (by omega) a fun t t1 t2 => ?_
        have := u.le (i := (l + r) / 2) (j := t) t1 t2
        omega
      · rw [show ltK key _ _ = false from decide_eq_false c]
        refine stay_place hp hk u f ((l + r) / 2 + 1) r (by omega) h2 (by omega) (fun t t1 => ?_) b
        have := u.le (i := t) (j := (l + r) / 2) (by omega) (by omega)
        omega
theorem stay_bin : ∀ (f : Nat) (p : Array Nat) (k : Nat), Pf n k p → 1 ≤ k → k + f = n → SUp key p k → Asks n (ltK key) (fun q => Perm0 n q ∧ SUp key q n) (kas_bin f p k)
  | 0, p, k, hp, _, e, u => ⟨hp.per, by rw [← e]; exact u⟩
  | f + 1, p, k, hp, h1, e, u => by
    have hk : k < n := by omega
    unfold PySem.W.kas_bin
    refine Asks.bind (fun l hl => ?_) (stay_place hp hk u k 0 k (Nat.zero_le _) (Nat.le_refl _) (by omega) (fun t z => absurd z (Nat.not_lt_zero _)) fun t a b => absurd a (by omega))
    obtain ⟨l1, l2, l3⟩ := hl
    refine stay_bin f _ (k + 1) ⟨hp.per.bub k (k - l), fun i a b => ?_⟩ (by omega) (by omega) fun i j a b => ?_
    · rw [bub_getD hp.per hk l1, if_neg (by omega), if_neg (by omega)]
      exact hp.rest i (by omega) b
    rw [bub_getD hp.per hk l1, bub_getD hp.per hk l1]
    by_cases c1 : i = l
    · rw [if_pos c1, if_neg (by omega)]
      split
      · exact .inl (l3 _ (by omega) (by omega))
      · exact absurd a (by omega)
    · rw [if_neg c1]
      by_cases c2 : j = l
      · rw [if_pos c2, if_neg (by omega)]
        have x1 := l2 i (by omega)
        have x2 := hp.lo hk i (by omega)
        rcases Nat.lt_or_ge (key (p.getD i 0)) (key (p.getD k 0)) with z | z
        · exact .inl z
        · exact .inr ⟨by omega, x2⟩
      · rw [if_neg c2]
        split <;> split <;> exact u _ _ (by omega) (by omega)
theorem stay_sort (h1 : 1 ≤ n) : Asks n (ltK key) (fun q => Perm0 n q ∧ SUp key q n) (kas_sort n) := by
  unfold PySem.W.kas_sort
  refine Asks.bind (fun r hr => ?_) (stay_count h1)
  obtain ⟨m, q⟩ := r
  obtain ⟨e1, e2, e3, e4⟩ := hr
  dsimp only at e1 e2 e3 e4 ⊢
  by_cases z : m < n
  · rw [if_pos z, show max m 1 = m by omega]
    exact stay_bin (n - m) q m e3 e1 (by omega) e4
  · rw [if_neg z]
    obtain rfl : m = n := by omega
    exact ⟨e3.per, e4⟩
end
end L2
namespace L2
open PySem PySem.Spec PyProof.Rows
section
open PySem.W (kas_sort kas_ask kas_item)
variable {X : Cx} {pins : List (Addr × Obj)} {σ : St} {H : Hp} {s : Shared}
def lnS (z : Str) : Int := (z.length : Int)
theorem ints_at : ∀ {vs : List Value} {ns : List Int} {i : Nat} {n : Int}, IntsAre vs ns → ns[i]? = some n → ∃ t, vs[i]? = some (.int n t)
  | _, _, i, n, .nil, h => by simp at h
  | _, _, 0, n, .cons n' t r, h => by cases h; exact ⟨t, rfl⟩
  | _, _, i + 1, n, .cons n' t r, h => ints_at (i := i) r (by simpa using h)
def LenOut (zs zs' : List Str) : Prop := ∃ p : List Nat, p.Perm (List.range zs.length) ∧ zs' = p.map (fun i => zs.getD i ⟨#[]⟩) ∧
  p.Pairwise fun i j => (zs.getD i ⟨#[]⟩).length < (zs.getD j ⟨#[]⟩).length ∨ ((zs.getD i ⟨#[]⟩).length = (zs.getD j ⟨#[]⟩).length ∧ i < j)
theorem len_cmp {zs : List Str} {ks : List Value} {A : Around} {i j : Nat} {C : Bool → Shared → Prop} (hk : IntsAre ks (zs.map lnS)) (hi : i < zs.length) (hj : j < zs.length)
    (h : C (ltK (fun i => (zs.getD i ⟨#[]⟩).length) i j) s) : kas_ask X.prog X.w A oneType' ks i j C s := by
  obtain ⟨t, e1⟩ := ints_at (i := i) (n := lnS zs[i]) hk (by rw [List.getElem?_map, List.getElem?_eq_getElem hi]; rfl)
  obtain ⟨u, e2⟩ := ints_at (i := j) (n := lnS zs[j]) hk (by rw [List.getElem?_map, List.getElem?_eq_getElem hj]; rfl)
  unfold PySem.W.kas_ask
  rw [List.getD_eq_getElem?_getD, e1, List.getD_eq_getElem?_getD, e2]
  refine PySem.W.kat_lt_int ?_
  have : ltK (fun i => (zs.getD i ⟨#[]⟩).length) i j = decide (lnS zs[i] < lnS zs[j]) := by
    have ga : zs.getD i ⟨#[]⟩ = zs[i] := by rw [List.getD_eq_getElem?_getD, List.getElem?_eq_getElem hi]; rfl
    have gb : zs.getD j ⟨#[]⟩ = zs[j] := by rw [List.getD_eq_getElem?_getD, List.getElem?_eq_getElem hj]; rfl
    show decide ((zs.getD i ⟨#[]⟩).length < (zs.getD j ⟨#[]⟩).length) = decide ((zs[i].length : Int) < (zs[j].length : Int))
    simp only [ga, gb]
    exact decide_eq_decide.mpr (by omega)
  rw [this] at h
  exact h
theorem len_end {D kS : Addr} {e1 e : Nat} {ks its : List Value} {zs : List Str} {A : Around} {E : Value → Shared → Prop} {P : PySem.Fin → Shared → Prop} (I : Inv X (pins ++ [(D, lo [] e1)] ++ [(kS, lo ks e)]) σ H s) (fD : Far X pins D)
    (fk : Far X (pins ++ [(D, lo [] e1)]) kS) (hz : Vals (zs.map V.str) its) (hn : zs.length < 64) (hk : IntsAre ks (zs.map lnS))
    (fin : ∀ zs' s', LenOut zs zs' → Inv X pins σ (upd H D (.lst (zs'.map V.str))) s' → P (.done (.ret .none)) s') : wpAny (model X.prog X.w) A (ksk_end D false its.toArray e1 (.ref kS) ks.toArray) P E s := by
  have hi : its.length = zs.length := by rw [← hz.length, List.length_map]
  have hl : ks.length = zs.length := by rw [hk.length, List.length_map]
  have hki : ks.length = its.length := by omega
  have hw : (zs.map V.str).length ≤ 1000000 := by rw [List.length_map]; omega
  unfold ksk_end
  dsimp only
  simp only [Bool.false_eq_true, if_false]
  by_cases n2 : its.toArray.size < 2
  · rw [if_pos n2, if_pos n2]
    refine wpAny_bind (wpAny_pure (wpAny_bind (wpAny_pure ?_)))
    refine sort_tail I fD fk (by omega) ?_ rfl hz hw fun s' I' => fin zs s' ⟨List.range zs.length, .refl _, ?_, ?_⟩ I'
    · show (ks.toArray.zip its.toArray).map (·.2) = its.toArray
      apply Array.toList_inj.mp
      simp only [Array.toList_map, Array.toList_zip]
      rw [show (fun x : Value × Value => x.2) = Prod.snd from rfl, List.map_snd_zip (by omega)]
    · refine (List.ext_getElem (by simp) fun i a b => ?_).symm
      simp [b]
    · rw [List.size_toArray, hi] at n2
      rw [List.pairwise_iff_getElem]
      intro i j a b c
      rw [List.length_range] at a b
      omega
  · rw [if_neg n2, if_neg n2]
    have two : 2 ≤ its.length := by rw [List.size_toArray] at n2; omega
    refine wpAny_bind (wpAny_of_eq (ksk_kind (keys := ks.toArray) (kz := zs.map lnS) (by simpa using hk) (by rw [List.size_toArray]; omega)) (wpAny_bind ?_))
    refine wpAny_mono (PySem.W.kat_run (E := E) (Q := fun st t => ∃ p : Array Nat, arrOf st = p.map (kas_item (ks.toArray.zip its.toArray)) ∧ failedOf st = none ∧ (Perm0 its.length p ∧ SUp (fun i => (zs.getD i ⟨#[]⟩).length) p its.length) ∧ t = s)
      (G := fun p t => (Perm0 its.length p ∧ SUp (fun i => (zs.getD i ⟨#[]⟩).length) p its.length) ∧ t = s) hki two (by omega) (fun p st t _ b c d => ⟨p, b, c, d.1, d.2⟩)
      (Asks.wp (n := its.length) (lt := ltK fun i => (zs.getD i ⟨#[]⟩).length) (fun i j C hi' hj' hC => len_cmp hk (by omega) (by omega) hC) (fun r hr => ⟨hr, rfl⟩) (stay_sort (by omega)))) (fun r t hr => ?_) fun _ _ z => z
    obtain ⟨⟨⟩, st⟩ := r
    obtain ⟨p, h1, h2, ⟨h3, h5⟩, h4⟩ := hr
    subst h4
    have pl : p.toList.Perm (List.range zs.length) := by rw [← hi]; exact h3.per
    have hout : Vals ((p.toList.map fun i => zs.getD i ⟨#[]⟩).map V.str) (p.toList.map fun i => its.getD i Value.none) := by
      have : ∀ l : List Nat, (∀ i ∈ l, i < zs.length) → Vals ((l.map fun i => zs.getD i ⟨#[]⟩).map V.str) (l.map fun i => its.getD i Value.none) := fun l => by
        induction l with
        | nil => exact fun _ => .nil
        | cons i l ih =>
          intro h
          have hi' := h i List.mem_cons_self
          refine .cons ?_ (ih fun j hj => h j (List.mem_cons_of_mem _ hj))
          obtain ⟨u, hu, ru⟩ := Vals.get (i := i) (x := V.str zs[i]) hz (by rw [List.getElem?_map, List.getElem?_eq_getElem hi']; rfl)
          show RelV (V.str (zs.getD i ⟨#[]⟩)) (its.getD i Value.none)
          rw [List.getD_eq_getElem?_getD, List.getElem?_eq_getElem hi', List.getD_eq_getElem?_getD, hu]
          exact ru
      exact this _ fun i hi' => List.mem_range.mp (pl.mem_iff.mp hi')
    have hzl : p.toList.length = zs.length := by rw [pl.length_eq, List.length_range]
    refine sort_tail I fD fk (by omega) (PySem.W.kat_snds hki h1) h2 hout (by rw [List.length_map, List.length_map, hzl]; omega) fun s' I' => fin _ s' ⟨p.toList, pl, rfl, ?_⟩ I'
    rw [List.pairwise_iff_getElem]
    intro i j li lj lij
    have a1 := getD_of (p := p) (i := i) (by simpa using li)
    have a2 := getD_of (p := p) (i := j) (by simpa using lj)
    rw [← Array.getElem?_toList, List.getElem?_eq_getElem li] at a1
    rw [← Array.getElem?_toList, List.getElem?_eq_getElem lj] at a2
    have q := h5 i j lij (by rw [← h3.size]; simpa using lj)
    rw [← Option.some.inj a1, ← Option.some.inj a2] at q
    exact q
theorem len_tree {its : List Value} {zs : List Str} {E : Value → Shared → Prop} {P : PySem.Fin → Shared → Prop} {A : Around} (I : Inv X pins σ H s) (hz : Vals (zs.map V.str) its) (hn : zs.length < 64)
    (hs : ∀ z ∈ zs, z.length ≤ 1000) (fin : ∀ zs' s', LenOut zs zs' → H s.heap.objs.size = none → Inv X pins σ (upd H s.heap.objs.size (.lst (zs'.map V.str))) s' → P (.done (.ret .none)) s') :
    wpAny (model X.prog X.w) A (ksk_tree s.heap.objs.size (.builtin "len") false) P E { s with heap := s.heap.push (lo its 0) } := by
  have hi : its.length = zs.length := by rw [← hz.length, List.length_map]
  have hil : its.toArray.size ≤ sizeLine := by rw [List.size_toArray]; exact line_leM (by omega)
  have hH0 : H s.heap.objs.size = none := I.hok.fresh (Nat.le_refl _)
  generalize hD0 : s.heap.objs.size = D at fin hH0 ⊢
  have hD : (s.heap.push (lo its 0)).get? D = some (lo its 0) := by rw [← hD0]; exact Heap.get?_push_size _ rfl
  obtain ⟨e1, hD1⟩ : ∃ e1, ((s.heap.push (lo its 0)).update D (Obj.mapSeq fun _ => #[])).get? D = some (lo [] e1) := ⟨_, PySem.IsL.update hD fun _ => #[]⟩
  have lt : ∀ b o, s.heap.get? b = some o → b < D := fun b o q => by rw [← hD0]; exact Heap.lt_size q
  have old : ∀ b o, s.heap.get? b = some o → ((s.heap.push (lo its 0)).update D (Obj.mapSeq fun _ => #[])).get? b = some o := fun b o q =>
    (Heap.get?_update_other _ _ (Nat.ne_of_gt (lt b o q))).trans (Heap.get?_push_of_some _ q)
  unfold ksk_tree
  refine wpAny_bind (listItems_at hD rfl ?_)
  refine wpAny_bind (listUpdate_at hD rfl ?_ hil (Nat.zero_le _))
  refine wpAny_bind (seqEpoch_at hD1 rfl ?_)
  refine wpAny_bind (wpAny_newTuple ?_ (by show its.length ≤ _; exact line_leM (by omega)))
  refine wpAny_bind (wpAny_newList ?_ (Nat.zero_le _))
  refine wpAny_holding ?_
  dsimp only
  generalize hG : ((s.heap.push (lo its 0)).update D (Obj.mapSeq fun _ => #[])).push { cls := .type "tuple", data := .seq its.toArray.toList.toArray } = G
  have hGs : G.objs.size = D + 2 := by rw [← hG, Heap.size_push, Heap.size_update, Heap.size_push, hD0]
  have old2 : ∀ b o, s.heap.get? b = some o → (G.push (lo [] 0)).get? b = some o := fun b o q => Heap.get?_push_of_some _ (by rw [← hG]; exact Heap.get?_push_of_some _ (old b o q))
  have I1 : Inv X pins σ H { s with heap := G.push (lo [] 0) } := I.kept (t' := s.toks) old2
  have fD : Far X pins D := I.far (by rw [hD0]; exact Nat.le_refl _)
  have fk : Far X (pins ++ [(D, lo [] e1)]) G.objs.size := (I.far (by rw [hGs, hD0]; exact Nat.le_add_right _ _)).more (by rw [hGs]; exact Nat.ne_of_lt (Nat.lt_add_of_pos_right (by decide)))
  have I2 := I1.hold (ks := []) (e := e1) fD (Heap.get?_push_of_some _ (by rw [← hG]; exact Heap.get?_push_of_some _ hD1)) (I.hok.fresh (by rw [hD0]; exact Nat.le_refl _))
  have I3 := I2.hold (ks := []) (e := 0) fk (Heap.get?_push_size _ rfl) (I.hok.fresh (by rw [hGs, hD0]; exact Nat.le_add_right _ _))
  unfold ksk_rest
  refine wpAny_bind (wpAny_rule ?_)
  first
    | rw [List.forIn_toArray]
    | (rw [← Array.forIn_toList]; simp only [List.toList_toArray])
  refine wpAny_bind (wpAny_mono (forIn_turns (fun i t => ∃ ks e, Inv X (pins ++ [(D, lo [] e1)] ++ [(G.objs.size, lo ks e)]) σ H t ∧ ks.length = i ∧ IntsAre ks ((zs.take i).map lnS)) its 0 _ (fun j y t hy hJ => ?_) ⟨[], 0, I3, rfl, .nil⟩) (fun _ t ht => ?_) fun _ _ z => z)
  · obtain ⟨ks, e, I', hlk, hk⟩ := hJ
    rw [Nat.zero_add] at hlk hk ⊢
    have hj : j < its.length := by
      rcases Nat.lt_or_ge j its.length with z | z
      · exact z
      · rw [List.getElem?_eq_none_iff.mpr z] at hy; cases hy
    have hj' : j < zs.length := by omega
    obtain ⟨u, hu, tt, rfl⟩ := Vals.get (i := j) (x := V.str zs[j]) hz (by rw [List.getElem?_map, List.getElem?_eq_getElem hj']; rfl)
    rw [hy] at hu
    cases hu
    have hs1 := hs _ (List.getElem_mem hj')
    refine wpAny_bind (wpAny_attempt (len_str (by omega) ?_))
    dsimp only
    have I4 := I'.tok (t.toks + 1 + 1)
    have hkl : ks.toArray.size ≤ 1000000 := by rw [List.size_toArray, hlk]; omega
    refine wpAny_bind (listUpdate_at I4.held.1 rfl ?_ (line_leM hkl) (by rw [Array.size_push]; exact Nat.succ_le_succ (line_leM hkl)))
    obtain ⟨e', I5⟩ := I4.rehold (f := (·.push (.int (zs[j].length : Int) (t.toks + 1)))) (ks' := ks ++ [.int (zs[j].length : Int) (t.toks + 1)]) fk (by simp)
    refine wpAny_pure ⟨rfl, _, e', I5, by simp [hlk], ?_⟩
    have e3 : (zs.take (j + 1)).map lnS = (zs.take j).map lnS ++ [lnS zs[j]] := by
      rw [List.take_add_one, List.getElem?_eq_getElem hj', List.map_append]
      rfl
    rw [e3]
    exact ksk_snoc hk
  · rw [Nat.zero_add] at ht
    obtain ⟨ks, e, I', hl, hk⟩ := ht
    rw [hi, List.take_length] at hk
    try dsimp only
    refine wpAny_bind (listItems_at I'.held.1 rfl ?_)
    exact len_end I' fD fk hz hn hk fun zs' s' cm Is => fin zs' s' cm hH0 Is
def rSortN (K : PySem.W.Frag) : List V → Hp → VK → Prop := fun xs H Q => ∃ p zs, xs = [.ref p] ∧ SqL K H p (zs.map V.str) ∧ zs.length < 64 ∧ (∀ z ∈ zs, z.length ≤ 1000) ∧
  ∀ zs' l, LenOut zs zs' → H l = none → Q (.ref l) (upd H l (.lst (zs'.map V.str)))
theorem pe_sortN {K : PySem.W.Frag} {e : Expr} {te : TE} {p p2 kp pos : Pos} (hg : Gl X "sorted") (hm : X.mg "sorted" = none) (hgl : Gl X "len") (hml : X.mg "len" = none) (he : PE X e te)
    (hK : X.K = K := by rfl) (hse : starEach [e] X.env = (false, eval e X.env) :: starEach [] X.env := by rfl)
    (hpl : (backTo pos (starEach [e] X.env)).any (·.1) = false := by rfl) : PE X (.Call (.Name "sorted" p) [e] [⟨some "key", .Name "len" p2, kp⟩] pos) (tCB (rSortN K) (tCons te tNil)) := by
  subst hK
  intro pins s σ H Q I h
  refine wpAny_Call_Name_kw (ld_blt I hg hm bt_sorted ?_)
  refine PyProof.Rows.callWith_kw (thn (pa_cons he pa_nil hse pos pins s σ H (fun vs H1 => rSortN X.K vs H1 Q) I h) fun us s1 ⟨vs, H1, I1, r1, hq⟩ => ?_) (by rw [hse]; rfl) hpl rfl rfl
  refine (show wpAny _ _ (evalAll ((do let v ← eval (.Name "len" p2) X.env; standAt pos; pure v) :: [])) _ _ s1 from wpAny_evalAll_cons (wpAny_bind (ld_blt I1 hgl hml bt_len (wpAny_bind (wpAny_standAt (wpAny_pure (wpAny_evalAll_nil ?_)))))))
  obtain ⟨l, zs, e1, hl, hn, hs, q⟩ := hq
  subst e1
  obtain ⟨u, rfl, ru⟩ := Vals.one r1
  obtain rfl : u = Value.ref l := ru
  obtain ⟨its, r', pl, _⟩ := I1.list hl
  have hi : its.length = zs.length := by rw [← r'.length, List.length_map]
  show wpAny (model X.prog X.w) X.A (call (.builtin "sorted") [.ref l] [(Str.ofString "key", .builtin "len")]) (EP X pins σ Q) X.xe s1
  refine call_function_entry_kw kind_sorted plain_sorted entry_sorted (ksk_s1 _ _) ?_
  unfold Builtin.«sorted»
  refine wpAny_bind (m := checkCount "sorted" 1 1 _) (wpAny_pure ?_)
  refine wpAny_bind (collect_list pl.isList ?_ (line_leM (by omega)))
  refine wpAny_bind (wpAny_newList ?_ (line_leM (by omega)))
  refine wpAny_bind (wpAny_holding (wpAny_call_entry_kw slot_list_sort ⟨_, Heap.get?_push_size _ rfl, rfl⟩ entry_list_sort ?_ (ksk_l1 _ _)))
  rw [ksk_t4]
  have I2 : Inv X pins σ H1 { s1 with heap := _ } := I1.kept (t' := s1.toks) (h' := (s1.heap.push { cls := .type "list", data := .seq #[] }).update s1.heap.objs.size (Obj.mapSeq (· ++ its.toArray))) fun b o e => (Heap.get?_update_other _ _ (Nat.ne_of_gt (Heap.lt_size e))).trans (Heap.get?_push_of_some _ e)
  refine len_tree I2 r' hn hs fun zs' s3 cm hn' I3 => ⟨_, rfl, ?_⟩
  exact wpAny_pure ⟨_, rfl, .ref _, _, I3, rfl, q zs' _ cm hn'⟩
end
end L2
namespace L2
open PySem PySem.Spec PyProof.Rows
section
variable {P : Program} {w : World} {A : Around} {E : Value → Shared → Prop} {s : Shared}
def TextAt (D : List Str) (i : Nat) (v : Value) : Prop := ∃ z t, D[i]? = some z ∧ v = .str z t
theorem loop_texts {R : Result → Shared → Prop} {I : Addr} {fp wr : List Addr} {G : Array GenState → Array GenState → Prop} {D : List Str} {St : Nat → Shared → Prop} (W : WalksS P w A.in1 I fp wr G D.length (TextAt D) St) (S : Addr) (hSf : S ∉ fp)
    (hb : D.length + 1 < 4096) : ∀ (k i : Nat) (s : Shared) (o : Obj), D.length - i = k → i ≤ D.length → St i s → s.heap.get? S = some o → SetTx w o (D.take i) i →
      (∀ s' o', Moved (S :: wr) G s s' → s'.heap.get? S = some o' → SetTx w o' D D.length → R (.ok (.ret .none)) s') →
      codeAny (model P w) A (.builtin "set.update.loop" ⟨[.ref S, .ref I], []⟩) R s := by
  have hSw : S ∉ wr := fun h => hSf (W.sub _ h)
  have hsub : ∀ b ∈ wr, b ∈ S :: wr := fun b hb => List.mem_cons_of_mem _ hb
  intro k
  induction k with
  | zero =>
    intro i s o hk hi hst ho hS hR
    have hin : i = D.length := by omega
    subst hin
    refine codeAny_builtin PyProof.Rows.F.entry_set_update_loop ?_
    rw [Around.under_plainId PyProof.Rows.F.plain_set_update_loop _]
    show wpAny _ A.in1 (pyNext (.ref I) >>= _) _ _ s
    refine wpAny_bind (W.done s _ _ hst fun s' hm => wpAny_pure (hR s' o (hm.mono hsub) (hm.heap S _ hSw ho) ?_))
    rw [List.take_of_length_le (Nat.le_refl _)] at hS
    exact hS
  | succ k ih =>
    intro i s o hk hi hst ho hS hR
    have hlt : i < D.length := by omega
    refine codeAny_builtin PyProof.Rows.F.entry_set_update_loop ?_
    rw [Around.under_plainId PyProof.Rows.F.plain_set_update_loop _]
    show wpAny _ A.in1 (pyNext (.ref I) >>= _) _ _ s
    refine wpAny_bind (W.item i s _ _ hlt hst fun v s' hP hst' hm => ?_)
    obtain ⟨z, u, hz, rfl⟩ := hP
    show wpAny _ A.in1 (holding [Value.str z u] (setAdd S (.str z u)) >>= _) _ _ s'
    unfold setAdd
    refine wpAny_bind (wpAny_holding (wpAny_holding (wpAny_bind ?_)))
    refine (PySem.strKind P w).pyHash (k := z) (by show Value.isStrOf z (.str z u) = true; simp [Value.isStrOf]) ?_
    refine add_text (s := { s' with toks := s'.toks + 1 }) (hm.heap S _ hSw ho) hS (by omega) z u fun _ h' o' hsb e2 hS2 => ?_
    have hS3 : SetTx w o' (D.take (i + 1)) (i + 1) := by
      have e : D.take (i + 1) = D.take i ++ [z] := by rw [List.take_add_one, hz]; rfl
      rw [e]
      exact hS2
    refine wpAny_pure ⟨plainId_quiet PyProof.Rows.F.plain_set_update_loop _, ih (i + 1) _ o' (by omega) hlt (W.frame _ s' _ _ hst' (Nat.le_succ _) fun b hb o e => ?_) e2 hS3 fun s'' o'' hm'' e'' hS'' => ?_⟩
    · exact (hsb.2 b (fun z : b = S => hSf (z ▸ hb))).trans e
    · exact hR s'' o'' (Moved.trans W.gtrans ((hm.mono hsub).then_heap (Nat.le_succ _) fun b o hb e => (hsb.2 b (fun z : b = S => hb (by rw [z]; exact List.mem_cons_self))).trans e) hm'') e'' hS''
theorem sub_list_set : isSubtype (.type "list") (.type "set") = pure false := by rw [isSubtype_type]; kernel_rfl
theorem sub_list_frozenset : isSubtype (.type "list") (.type "frozenset") = pure false := by rw [isSubtype_type]; kernel_rfl
theorem walks_texts {I l : Addr} (hh : A.handled = none) (hne : l ≠ I) {items : Array Value} {D : List Str} (hn : items.size = D.length) (hD : ∀ (i : Nat) v, items[i]? = some v → TextAt D i v) : Walks P w A I [I, l] [I] D.length (TextAt D) (fun i h => h.IsListIter I l i ∧ h.IsList l items) :=
  let W := Walks.list (prog := P) (w := w) (A := A) hh I l hne items
  { sub := W.sub, frame := W.frame, self := W.self, done := fun s Q E st hQ => W.done s Q E (by rw [hn]; exact st) hQ
    item := fun i s Q E hi st hQ => W.item i s Q E (by rw [hn]; exact hi) st fun v h' tk p => hQ v h' tk (hD i v p) }
set_option maxHeartbeats 3200000 in
theorem call_set_texts {Q : Value → Shared → Prop} (hh : A.handled = none) {l : Addr} {items : Array Value} {D : List Str} (hl : s.heap.IsList l items) (hn : items.size = D.length) (hD : ∀ (i : Nat) v, items[i]? = some v → TextAt D i v) (hb : D.length + 1 < 4096)
    (hQ : ∀ h' tk o, (∀ b o, s.heap.get? b = some o → h'.get? b = some o) → h'.get? s.heap.objs.size = some o → SetTx w o D D.length → Q (.ref s.heap.objs.size) { s with heap := h', toks := tk }) :
    wpAny (model P w) A (call (.type "set") [.ref l]) Q E s := by
  obtain ⟨c, tl, hmro⟩ := PySem.F.called_set.mro
  have hmade := PySem.F.called_set.made
  have hsub := PySem.F.called_set.sub
  refine wpAny_call (codeAny_of_tree ?_)
  show wpAny _ _ (callAny (.type "set") _) _ _ _
  refine wpAny_pure ⟨Code.quiet_builtin _ (by decide +kernel), codeAny_builtin PySem.F.entry_type_call ?_⟩
  rw [Around.under_plain (weight_type_call_type "set" [.ref l] []) rfl]
  have h1 := PySem.F.called_set.notType
  have h2 := PySem.F.called_set.canCreate
  have hct := PySem.F.typeCall_set_1 (.ref l)
  repeat (any_goals (first | assumption | wp_step))
  refine codeAny_mono (new_text (.ref l) (E := E) (Q₁ := fun obj s₁ => obj = .ref s.heap.objs.size ∧ s₁ = { s with heap := s.heap.push (newSetObj w) }) ⟨rfl, rfl⟩) fun r s₁ hr => ?_
  cases r with
  | error e => exact hr
  | ok fl =>
    cases fl with
    | ret obj =>
      obtain ⟨rfl, rfl⟩ := hr
      have hS : (s.heap.push (newSetObj w)).get? s.heap.objs.size = some (newSetObj w) := Heap.get?_push_size _ rfl
      have hT : Shared.TypeIs { s with heap := s.heap.push (newSetObj w) } (.ref s.heap.objs.size) "set" := ⟨_, hS, rfl⟩
      have hl1 : (s.heap.push (newSetObj w)).IsList l items := let ⟨o, e, r⟩ := hl; ⟨o, Heap.get?_push_of_some _ e, r⟩
      have ll : l < s.heap.objs.size := let ⟨_, e, _⟩ := hl; Heap.lt_size e
      have hTl : Shared.TypeIs { s with heap := s.heap.push (newSetObj w) } (.ref l) "list" := hl1.typeIs
      have hli := PySem.F.called_set.init.lookup
      have hbi := PySem.F.called_set.init.bind (.ref s.heap.objs.size)
      repeat (any_goals (first | assumption | wp_step))
      refine codeAny_mono (codeAny_call_builtin (R := wants (fun r s₂ => r = .none ∧ ∃ h' tk o, s₂ = { s with heap := h', toks := tk } ∧ (∀ b o, s.heap.get? b = some o → h'.get? b = some o) ∧ h'.get? s.heap.objs.size = some o ∧
        SetTx w o D D.length) E) PySem.F.called_set.init.plain PySem.F.entry_set_init (check_set_init_1 hT ?_)) fun r₂ s₂ hr₂ => ?_
      · have hsls := sub_list_set
        have hslf := sub_list_frozenset
        have hne : (Value.type "list" == Value.type "dict") = false := by decide
        have hS' : (s.heap.push (newSetObj w)).get? s.heap.objs.size = some { cls := .type "set", dict := none, data := .set #[] 0 (.fresh 0 0 (!w.params.followText "set-order")) } := hS
        unfold Builtin.«set.__init__» noKeywords Builtin.Frozenset.updateFrom
        generalize hPI : pyIter = PI
        wp_walk
        subst hPI
        refine wpAny_pyIter_list hl1 (wpAny_bind (wpAny_runValue ?_))
        have sz : (s.heap.push (newSetObj w)).objs.size = s.heap.objs.size + 1 := Heap.size_push _ _
        have hSf : s.heap.objs.size ∉ [(s.heap.push (newSetObj w)).objs.size, l] := by
          rw [sz]
          intro z
          rcases List.mem_cons.mp z with z | z
          · exact absurd z (Nat.ne_of_lt (Nat.lt_succ_self _))
          · exact absurd (List.mem_singleton.mp z) (Nat.ne_of_gt ll)
        refine loop_texts (walks_texts (A := A.in1.in1.in1) (by simp [hh]) (by rw [sz]; exact Nat.ne_of_lt (Nat.lt_succ_of_lt ll)) hn hD).toS s.heap.objs.size hSf hb (D.length - 0) 0 _ (newSetObj w) (by omega) (Nat.zero_le _) ?_ ?_ (newTx w) fun s' o' hm e' hS2 => ?_
        · obtain ⟨o, e, r⟩ := hl1
          exact ⟨⟨_, Heap.get?_push_size _ rfl, rfl, rfl⟩, ⟨o, Heap.get?_push_of_some _ e, r⟩⟩
        · exact Heap.get?_push_of_some _ hS
        obtain ⟨h', g', d', tk', os'⟩ := s'
        have eg : g' = s.gens := hm.gens
        have ed : d' = s.drawn := hm.drawn
        have eo : os' = s.os := hm.os
        subst eg; subst ed; subst eo
        show wpAny _ _ _ _ _ _
        refine wpAny_pure (wpAny_pure ⟨rfl, h', tk', o', rfl, fun b o e => ?_, e', hS2⟩)
        have lt := Heap.lt_size e
        refine hm.heap b o (fun z => ?_) (Heap.get?_push_of_some _ (Heap.get?_push_of_some _ e))
        rcases List.mem_cons.mp z with z | z
        · exact Nat.lt_irrefl _ (z ▸ lt)
        · have z2 := List.mem_singleton.mp z
          rw [Heap.size_push] at z2
          have := z2 ▸ lt
          exact Nat.lt_irrefl _ (Nat.lt_of_succ_lt this)
      · cases r₂ with
        | error e => exact hr₂
        | ok fl₂ =>
          cases fl₂ with
          | ret r =>
            obtain ⟨rfl, h', tk, o, rfl, hk', e', hS'⟩ := hr₂
            repeat (any_goals (first | assumption | wp_step))
            exact hQ h' tk o hk' e' hS'
          | _ => exact hr₂.elim
    | _ => exact hr.elim
end
section
variable {X : Cx}
def rSetT (K : PySem.W.Frag) (w : World) : List V → Hp → VK → Prop := fun xs H Q => ∃ p zs, xs = [.ref p] ∧ SqL K H p (zs.map V.str) ∧ zs.length + 1 < 4096 ∧ ∀ l, H l = none → Q (.ref l) (upd H l (setH w l zs zs.length))
theorem vals_texts {zs : List Str} {its : List Value} (r : Vals (zs.map V.str) its) (i : Nat) (v : Value) (h : its[i]? = some v) : TextAt zs i v := by
  have hi : i < its.length := (List.getElem?_eq_some_iff.mp h).1
  have hl : i < zs.length := by rw [← r.length, List.length_map] at hi; exact hi
  obtain ⟨u, hu, t, rfl⟩ := Vals.get (i := i) (x := V.str zs[i]) r (by rw [List.getElem?_map, List.getElem?_eq_getElem hl]; rfl)
  rw [h] at hu
  exact ⟨zs[i], t, List.getElem?_eq_getElem hl, Option.some.inj hu⟩
theorem call_set_l {K : PySem.W.Frag} (hc : X.calm = true) (hK : X.K = K := by rfl) : CallR X (.type "set") (rSetT K X.w) := by
  subst hK
  intro pins s σ H xs us Q I r h
  obtain ⟨p, zs, rfl, hp, hz, q⟩ := h
  obtain ⟨u, rfl, ru⟩ := vals1 r
  obtain rfl : u = Value.ref p := ru
  obtain ⟨its, rv, pl, _⟩ := I.list hp
  have hl : its.length = zs.length := by rw [← rv.length, List.length_map]
  refine call_set_texts (I.ok.hd hc) pl.isList (by rw [List.size_toArray]; exact hl) (fun i v e => vals_texts rv i v (by simpa using e)) hz fun h' tk o k e sx => ?_
  exact ⟨.ref s.heap.objs.size, _, I.laid k (Nat.le_refl _) (show ObjOk X.prog X.w _ h' _ (setH X.w s.heap.objs.size zs zs.length) from ⟨⟨o, e, sx⟩, ⟨o, e⟩, fun h1 h2 ⟨o1, e1, x1⟩ k1 => ⟨o1, k1 o1 e1, x1⟩⟩), rfl, q _ (I.hok.fresh (Nat.le_refl _))⟩
end
end L2
namespace L2
open PySem PySem.Spec PyProof.Rows
theorem slot_rv_next : Slot "reversed" "__next__" "reversed.__next__" := .of (owner := "reversed") (n := "__next__") (by rw [typeLookup_type, builtinLookup_eq_fast]; kernel_rfl) (by decide +kernel) (by decide +kernel) (by decide +kernel) (by first | exact .inl (by decide +kernel) | exact .inr (by decide +kernel)) (by rw [isSubtype_type]; kernel_rfl)
theorem slot_rv_iter : Slot "reversed" "__iter__" "reversed.__iter__" := .of (owner := "reversed") (n := "__iter__") (by rw [typeLookup_type, builtinLookup_eq_fast]; kernel_rfl) (by decide +kernel) (by decide +kernel) (by decide +kernel) (by first | exact .inl (by decide +kernel) | exact .inr (by decide +kernel)) (by rw [isSubtype_type]; kernel_rfl)
theorem slot_rv_hint : Slot "reversed" "__length_hint__" "reversed.__length_hint__" := .of (owner := "reversed") (n := "__length_hint__") (by rw [typeLookup_type, builtinLookup_eq_fast]; kernel_rfl) (by decide +kernel) (by decide +kernel) (by decide +kernel) (by first | exact .inl (by decide +kernel) | exact .inr (by decide +kernel)) (by rw [isSubtype_type]; kernel_rfl)
theorem entry_rv_next : entryFor table "reversed.__next__" = some Builtin.«reversed.__next__» := entryFor_of_tree (by kernel_rfl)
theorem entry_rv_hint : entryFor table "reversed.__length_hint__" = some Builtin.«reversed.__length_hint__» := entryFor_of_tree (by kernel_rfl)
theorem entry_rv_iter : entryFor table "reversed.__iter__" = some Builtin.«dict_keyiterator.__iter__» := entryFor_alias (id' := "dict_keyiterator.__iter__") (by kernel_rfl) (by first | rfl | decide +kernel | (unfold String.splitOn; simp +decide [String.splitOnAux])) (by decide +kernel) (by kernel_rfl)
theorem args_rv_next (a : Value) : argsOk "reversed.__next__" ⟨[a], []⟩ := by unfold argsOk; kernel_rfl
theorem args_rv_iter (a : Value) : argsOk "reversed.__iter__" ⟨[a], []⟩ := by unfold argsOk; kernel_rfl
theorem args_rv_hint (a : Value) : argsOk "reversed.__length_hint__" ⟨[a], []⟩ := by unfold argsOk; kernel_rfl
theorem rv_no_len : typeLookup (.type "reversed") "__len__" = pure none := by rw [typeLookup_type, builtinLookup_eq_fast]; kernel_rfl
theorem tuple_no_rev : typeLookup (.type "tuple") "__reversed__" = pure none := by rw [typeLookup_type, builtinLookup_eq_fast]; kernel_rfl
theorem sub_tuple_dict : isSubtype (.type "tuple") (.type "dict") = pure false := by rw [isSubtype_type]; kernel_rfl
theorem sub_rv_rv : isSubtype (.type "reversed") (.type "reversed") = pure true := by rw [isSubtype_type]; kernel_rfl
def rvO (t : Addr) (i : Int) : Obj := { cls := .type "reversed", data := .fields #[.ref t, rawInt i] }
def RvAt (h : Heap) (a t : Addr) (i : Int) : Prop := ∃ o, h.get? a = some o ∧ o.cls = .type "reversed" ∧ o.data = .fields #[.ref t, rawInt i]
theorem RvAt.to {h h' : Heap} {a t : Addr} {i : Int} (x : RvAt h a t i) (e : ∀ o, h.get? a = some o → h'.get? a = some o) : RvAt h' a t i := let ⟨o, q, r⟩ := x; ⟨o, e _ q, r⟩
section
variable {P : Program} {w : World} {A : Around} {E : Value → Shared → Prop} {s : Shared} {t r : Addr} {items : Array Value}
theorem RvAt.typeIs {i : Int} (x : RvAt s.heap r t i) : s.TypeIs (.ref r) "reversed" := let ⟨o, q, c, _⟩ := x; ⟨o, q, c⟩
theorem tup_to {h h' : Heap} (x : IsTup h t items) (e : ∀ o, h.get? t = some o → h'.get? t = some o) : IsTup h' t items := let ⟨o, q, r⟩ := x; ⟨o, e _ q, r⟩
theorem called_rv : TypeCalled "reversed" "reversed.__new__" "object.__init__" := ⟨by decide +kernel, by decide +kernel, ⟨_, _, PySem.F.mro_reversed⟩, PySem.F.made_reversed, by decide +kernel, sub_rv_rv,
  .of (owner := "object") (n := "__init__") (by rw [typeLookup_type, builtinLookup_eq_fast]; kernel_rfl) (by decide +kernel) (by decide +kernel) (by decide +kernel) (by first | exact .inl (by decide +kernel) | exact .inr (by decide +kernel)) (by rw [isSubtype_type]; kernel_rfl)⟩
theorem meets_rv (t : Addr) (items : Array Value) (hz : items.size ≤ sizeLine) : MeetsIn P w (Builtin.«reversed.__new__» ⟨[.type "reversed", .ref t], []⟩) (fun _ R s => IsTup s.heap t items ∧
    ∀ tk, R (.ok (.ret (.ref s.heap.objs.size))) { s with heap := s.heap.push (rvO t ((items.size : Int) - 1)), toks := tk }) := .of_wp fun A R s ⟨ht, h⟩ => by
  have hT := ht.typeIs
  have l63 := line63
  unfold Builtin.«reversed.__new__»
  refine wpAny_bind (wpAny_of_eq (newClass_reversed _) ?_)
  try dsimp only
  refine wpAny_bind (wpAny_of_eq (a := ()) (by first | rfl | kernel_rfl) (wpAny_bind (wpAny_of_eq (a := ()) (by first | rfl | kernel_rfl) ?_)))
  try dsimp only
  refine wpAny_bind (wpAny_specialOf hT tuple_no_rev ?_)
  try dsimp only
  refine wpAny_bind ?_
  wp_delta
  refine wpAny_bind (wpAny_isInstance (T := "tuple") (b := false) hT sub_tuple_dict ?_)
  refine wpAny_bind (wpAny_specialOf hT slot_tuple_getitem.lookup ?_)
  try dsimp only
  rw [if_pos (by decide)]
  refine wpAny_pure ?_
  refine wpAny_bind (len_tuple ht (by omega) ?_)
  refine wpAny_bind (wpAny_pure ?_)
  refine wpAny_bind (m := Builtin.SmallTypes.newRecord _ _) ?_
  unfold Builtin.SmallTypes.newRecord
  exact wpAny_newObj_type (wpAny_pure ⟨_, rfl, h _⟩)
theorem call_rv {Q : Value → Shared → Prop} (ht : IsTup s.heap t items) (hz : items.size ≤ sizeLine) (h : ∀ tk, Q (.ref s.heap.objs.size) { s with heap := s.heap.push (rvO t ((items.size : Int) - 1)), toks := tk }) : wpAny (model P w) A (call (.type "reversed") [.ref t]) Q E s :=
  callType_newIn called_rv (by decide) (PySem.F.typeCall_reversed_1 _) (PySem.F.newCall_reversed_1 _) (fun obj => PySem.F.args_object_init_2 obj _) PySem.F.entry_reversed_new (meets_rv t items hz) ⟨ht, fun tk => ⟨⟨_, Heap.get?_push_size _ rfl, rfl⟩, h tk⟩⟩
theorem next_rv {i : Nat} {x : Value} {Q : Option Value → Shared → Prop} (hr : RvAt s.heap r t (i : Int)) (ht : IsTup s.heap t items) (hz : items.size ≤ sizeLine) (hx : items[i]? = some x)
    (h : ∀ h' tk, RvAt h' r t ((i : Int) - 1) → Heap.SameBut r s.heap h' → Q (some x) { s with heap := h', toks := tk }) : wpAny (model P w) A (pyNext (.ref r)) Q E s := by
  obtain ⟨o, g, c, d⟩ := id hr
  have hT := hr.typeIs
  have l63 := line63
  have hi : i < items.size := (Array.getElem?_eq_some_iff.mp hx).1
  unfold pyNext
  refine wpAny_bind (wpAny_attempt (wpAny_callSpecial?_slot (name := Str.ofString "__next__") hT slot_rv_next (wpAny_call_entry slot_rv_next hT entry_rv_next ?_ (args_rv_next _))))
  unfold Builtin.«reversed.__next__»
  refine wpAny_bind (wpAny_of_eq (a := (Value.ref r, [])) rfl ?_)
  try dsimp only
  refine wpAny_bind (wpAny_field g d (x := .ref t) rfl (wpAny_bind (wpAny_field g d (x := rawInt (i : Int)) rfl ?_)))
  show wpAny _ _ (if (i : Int) < 0 then _ else _) _ _ s
  rw [if_neg (by omega)]
  refine wpAny_bind (wpAny_specialOf ht.typeIs slot_tuple_getitem.lookup ?_)
  rw [if_neg (by simp)]
  refine wpAny_bind (wpAny_mkInt (wpAny_bind (wpAny_attempt (getItem_tuple (j := i) (x := x) (tup_to ht fun _ e => e) (by omega) (by omega) ?_ hx ?_))))
  · have e : ¬ ((i : Int) < 0) := by omega
    unfold seqIndex?
    simp only [e, if_false]
    simp [hi]
  try dsimp only
  refine wpAny_bind (wpAny_field g d (x := rawInt (i : Int)) rfl ?_)
  dsimp only [rawInt]
  refine wpAny_bind (wpAny_setField g d (by simp) (wpAny_pure ⟨x, rfl, wpAny_pure (h _ _ ?_ (Heap.SameBut.update ..))⟩))
  exact ⟨_, Heap.get?_update_self _ g (Obj.isFreed_of_fields (Obj.data_mapFields d _)), (Obj.cls_mapFields ..).trans c, by rw [Obj.data_mapFields d]; simp [rawInt]⟩
theorem end_rv {Q : Option Value → Shared → Prop} (hh : A.handled = none) (hr : RvAt s.heap r t (-1)) (h : ∀ h', Heap.ExtBut r s.heap h' → Q none { s with heap := h' }) : wpAny (model P w) A (pyNext (.ref r)) Q E s := by
  obtain ⟨o, g, c, d⟩ := id hr
  have hT := hr.typeIs
  unfold pyNext
  refine wpAny_bind (wpAny_attempt (wpAny_callSpecial?_slot (name := Str.ofString "__next__") hT slot_rv_next (wpAny_call_entry slot_rv_next hT entry_rv_next ?_ (args_rv_next _))))
  unfold Builtin.«reversed.__next__»
  refine wpAny_bind (wpAny_of_eq (a := (Value.ref r, [])) rfl ?_)
  try dsimp only
  refine wpAny_bind (wpAny_field g d (x := .ref t) rfl (wpAny_bind (wpAny_field g d (x := rawInt (-1)) rfl ?_)))
  show wpAny _ _ (if (-1 : Int) < 0 then _ else _) _ _ s
  rw [if_pos (by decide)]
  refine wpAny_bind (wpAny_rule (wpAny_bind ?_))
  wp_delta
  refine wpAny_bind (wpAny_setField g d (by simp) ?_)
  have d1 : ∀ f : Array Value → Array Value, (Obj.mapFields f o).data = .fields (f #[.ref t, rawInt (-1)]) := fun f => Obj.data_mapFields d f
  refine wpAny_setField (Heap.get?_update_self _ g (Obj.isFreed_of_fields (d1 _))) (d1 _) (by simp) ?_
  refine wpAny_bind ?_
  unfold Builtin.SmallTypes.stopIteration
  refine wpAny_bind ?_
  simp only [newExc, newTuple]
  refine wpAny_bind (wpAny_newObj_type (wpAny_bind (m := firstArgMember _ _) (wpAny_of_eq (a := Value.none) (by first | rfl | (simp only [firstArgMember]; rfl)) (wpAny_newObj_type ?_ (by size_fits)))) (by size_fits))
  simp only [raiseNew]
  refine wpAny_bind (wpAny_handled ?_)
  rw [show A.in1.handled = none from hh]
  refine wpAny_bind (wpAny_pure (wpAny_throw ?_))
  refine wpAny_bind (wpAny_isInstance (T := "StopIteration") (b := true) ⟨_, Heap.get?_push_size _ rfl, rfl⟩ isSubtype_stop (wpAny_pure (h _ fun b o' hb e => ?_)))
  exact Heap.get?_push_of_some _ (Heap.get?_push_of_some _ ((Heap.get?_update_other _ _ (Ne.symm hb)).trans ((Heap.get?_update_other _ _ (Ne.symm hb)).trans e)))
theorem iter_rv {i : Int} {Q : Value → Shared → Prop} (hr : RvAt s.heap r t i) (h : Q (.ref r) s) : wpAny (model P w) A (pyIter (.ref r)) Q E s := by
  refine wpAny_pyIter_slot hr.typeIs slot_rv_iter (wpAny_call_entry slot_rv_iter hr.typeIs entry_rv_iter ?_ (args_rv_iter _))
  exact (show wpAny _ _ (ret (.ref r)) _ _ s from wpAny_pure ⟨_, rfl, "reversed", _, hr.typeIs, slot_rv_next.lookup, h⟩)
theorem hint_rv {n : Nat} {Q : Bool → Shared → Prop} (hr : RvAt s.heap r t ((n : Int) - 1)) (ht : IsTup s.heap t items) (hz : items.size ≤ sizeLine) (hn : items.size = n) (h : ∀ b tk, Q b { s with toks := tk }) : wpAny (model P w) A (Builtin.List.listLengthHint (.ref r)) Q E s := by
  obtain ⟨o, g, c, d⟩ := id hr
  have hT := hr.typeIs
  have l63 := line63
  unfold Builtin.List.listLengthHint
  refine wpAny_bind (wpAny_specialOf hT rv_no_len ?_)
  refine (show wpAny _ _ (specialOf (Value.ref r) (Str.ofString "__length_hint__") >>= _) _ _ _ from wpAny_bind (wpAny_specialOf hT slot_rv_hint.lookup ?_))
  generalize hid : ("reversed.__length_hint__" : String) = id0
  wp_delta
  rw [show splitId id0 = some ("reversed", "__length_hint__") from by subst hid; decide +kernel]
  subst hid
  refine wpAny_bind (wpAny_isInstance (T := "reversed") (b := true) hT sub_rv_rv ?_)
  refine wpAny_ite_split (fun hab => absurd hab (by decide)) (fun _ => ?_)
  refine wpAny_ite_split (fun hab => absurd hab (by decide +kernel)) (fun _ => ?_)
  refine wpAny_bind (wpAny_rule ?_)
  refine wpAny_bind (wpAny_of_eq (slot_rv_hint.bind _) ?_)
  try dsimp only
  refine wpAny_bind (wpAny_attempt (wpAny_call_entry slot_rv_hint hT entry_rv_hint ?_ (args_rv_hint _)))
  unfold Builtin.«reversed.__length_hint__»
  refine wpAny_bind (wpAny_of_eq (a := Value.ref r) rfl ?_)
  refine wpAny_bind (wpAny_field g d (x := .ref t) rfl ?_)
  show wpAny _ _ (if (Value.ref t == Value.none) = true then _ else _) _ _ s
  rw [if_neg (fun z => nomatch z)]
  refine wpAny_bind (len_tuple ht (by omega) ?_)
  refine wpAny_bind (wpAny_pure ?_)
  try dsimp only
  refine wpAny_bind (wpAny_field g d (x := rawInt ((n : Int) - 1)) rfl ?_)
  dsimp only [rawInt]
  rw [if_neg (by omega)]
  refine wpAny_bind (wpAny_mkInt (wpAny_pure ⟨_, rfl, ?_⟩))
  have e0 : (n : Int) - 1 + 1 = (n : Int) := by omega
  rw [e0]
  have ea : ∀ (i : Int) (u : Tok), asInt? (Value.int i u) = pure (some i) := fun _ _ => rfl
  simp only [ea, pure_bind]
  have f1 : Builtin.List.listFitsIndex (n : Int) = true := by
    unfold Builtin.List.listFitsIndex
    rw [Bool.and_eq_true]
    exact ⟨decide_eq_true (by omega), decide_eq_true (by omega)⟩
  have f2 : Builtin.List.listTooLong (n : Int).toNat = false := decide_eq_false (by rw [Int.toNat_natCast]; omega)
  rw [f1, if_neg (by decide), if_neg (by omega), f2, if_neg (by decide)]
  exact wpAny_pure (h _ _)
theorem walks_rv (hh : A.handled = none) (r t : Addr) (hne : t ≠ r) (items : Array Value) (hz : items.size ≤ sizeLine) : Walks P w A r [r, t] [r] items.size (fun i v => items[items.size - 1 - i]? = some v) (fun i h => i ≤ items.size ∧ RvAt h r t ((items.size : Int) - 1 - (i : Int)) ∧ IsTup h t items) where
  sub := fun b hb => by rw [List.mem_singleton.mp hb]; exact List.mem_cons_self
  frame := fun _ _ _ x hk => ⟨x.1, x.2.1.to (hk r (by simp)), tup_to x.2.2 (hk t (by simp))⟩
  item := fun i s Q E hi x hQ => by
    have hit := x.2.1
    rw [show (items.size : Int) - 1 - (i : Int) = ((items.size - 1 - i : Nat) : Int) by omega] at hit
    have hx : items[items.size - 1 - i]? = some (items[items.size - 1 - i]'(by omega)) := Array.getElem?_eq_getElem (by omega)
    refine next_rv hit x.2.2 hz hx fun h' tk hit' hs' => ?_
    rw [show ((items.size - 1 - i : Nat) : Int) - 1 = (items.size : Int) - 1 - ((i + 1 : Nat) : Int) by omega] at hit'
    exact hQ _ h' tk hx ⟨hi, hit', tup_to x.2.2 fun o eo => (hs'.2 t hne).trans eo⟩ fun b o hb eo => hs'.extBut b o (fun z => hb (by simp [z])) eo
  done := fun s Q E x hQ => by
    have hit := x.2.1
    rw [show (items.size : Int) - 1 - (items.size : Int) = -1 by omega] at hit
    exact end_rv hh hit fun h' he => hQ h' s.toks fun b o hb eo => he b o (fun z => hb (by simp [z])) eo
  self := fun _ _ _ _ x hQ => iter_rv x.2.1 hQ
theorem ext_rv {R : Result → Shared → Prop} {S : Addr} {res : Value} {c₀ : Nat} (hh : A.handled = none) (hr : RvAt s.heap r t ((items.size : Int) - 1)) (ht : IsTup s.heap t items) (hz : items.size ≤ sizeLine) (hne : t ≠ r) (hSr : S ≠ r) (hSt : S ≠ t)
    (hS : s.heap.get? S = some { cls := .type "list", data := .seq #[] c₀ })
    (hR : ∀ h' tk acc c, (∀ b o, b ≠ S → b ≠ r → s.heap.get? b = some o → h'.get? b = some o) → h'.get? S = some { cls := .type "list", dict := none, data := .seq acc c, slots := #[] } → ItemsOf (fun i v => items[items.size - 1 - i]? = some v) acc items.size → R (.ok (.ret res)) { s with heap := h', toks := tk }) :
    wpAny (model P w) A.in1 (Builtin.List.listExtendWith (.ref S) (.ref r) res) (fun fin s' => match fin with | .done f => R (.ok f) s' | .again c' => c'.quiet = true ∧ codeAny (model P w) A c' R s') (fun e s' => R (.error e) s') s := by
  have W := walks_rv (P := P) (w := w) (A := A.in1) hh r t hne items hz
  have hSf : S ∉ [r, t] := fun z => by
    rcases List.mem_cons.mp z with z | z
    · exact hSr z
    · exact hSt (List.mem_singleton.mp z)
  have hr0 : RvAt s.heap r t ((items.size : Int) - 1 - ((0 : Nat) : Int)) := by simpa using hr
  have key : ∀ (h : Heap) (c₁ tk : Nat), (∀ b o, b ≠ S → s.heap.get? b = some o → h.get? b = some o) → h.get? S = some { cls := .type "list", data := .seq #[] c₁ } → codeAny (model P w) A (.builtin "list.extend.loop" ⟨[.ref S, .ref r, res], []⟩) R { s with heap := h, toks := tk } := by
    intro h c₁ tk hk hS₁
    refine codeAny_extend_loopS W.toS hz S hSf res items.size 0 _ #[] c₁ rfl (Nat.zero_le _) ⟨Nat.zero_le _, (hr0.to fun o e => hk r o hSr.symm e), tup_to ht fun o e => hk t o hSt.symm e⟩ hS₁ (ItemsOf.nil _) fun s' acc' c' hm hS' hacc => ?_
    rw [Moved.eq_with hm]
    refine hR s'.heap s'.toks acc' c' (fun b o hb hb2 e => hm.heap b o (fun z => ?_) (hk b o hb e)) hS' hacc
    rcases List.mem_cons.mp z with z | z
    · exact hb z
    · exact hb2 (List.mem_singleton.mp z)
  unfold Builtin.List.listExtendWith
  refine wpAny_bind (wpAny_typeOf (T := "reversed") hr.typeIs ?_)
  have h1 : Builtin.List.listSameRef (.ref S) (.ref r) = false := by simp [Builtin.List.listSameRef, hSr]
  have h2 : (Value.type "reversed" == Value.type "list") = false := by decide
  have h3 : (Value.type "reversed" == Value.type "tuple") = false := by decide
  simp only [h1, h2, h3, Bool.or_false, Bool.false_eq_true, if_false]
  refine wpAny_bind (iter_rv hr (wpAny_bind (wpAny_holding (hint_rv hr ht hz rfl fun b tk => ?_))))
  refine wpAny_ite_split (fun _ => wpAny_bind (wpAny_rule (wpAny_bind ?_))) (fun _ => wpAny_pure ⟨plainId_quiet PySem.F.plain_extend_loop _, key _ c₀ _ (fun b o _ e => e) hS⟩)
  show wpAny _ _ (updateSeq S (·.push .none) >>= fun _ => updateSeq S (·.pop)) _ _ _
  refine wpAny_bind (wpAny_updateSeq hS rfl ?_)
  have hS₂ := Heap.get?_update_self (Obj.mapSeq (·.push Value.none)) hS rfl
  refine wpAny_updateSeq (hz := by seq_fits) hS₂ rfl (wpAny_pure ⟨plainId_quiet PySem.F.plain_extend_loop _, key _ _ _ (fun b o hb e => ?_) (Heap.get?_update_self (Obj.mapSeq (·.pop)) hS₂ rfl)⟩)
  exact (Heap.get?_update_other _ _ (Ne.symm hb)).trans ((Heap.get?_update_other _ _ (Ne.symm hb)).trans e)
theorem list_rv {Q : Value → Shared → Prop} (hh : A.handled = none) (hr : RvAt s.heap r t ((items.size : Int) - 1)) (ht : IsTup s.heap t items) (hz : items.size ≤ sizeLine) (hne : t ≠ r)
    (hQ : ∀ h' tk acc c, (∀ b o, b ≠ r → s.heap.get? b = some o → h'.get? b = some o) → h'.get? s.heap.objs.size = some { cls := .type "list", dict := none, data := .seq acc c, slots := #[] } → ItemsOf (fun i v => items[items.size - 1 - i]? = some v) acc items.size → Q (.ref s.heap.objs.size) { s with heap := h', toks := tk }) :
    wpAny (model P w) A (call (.type "list") [.ref r]) Q E s := by
  have lr : r < s.heap.objs.size := let ⟨_, e, _⟩ := hr; Heap.lt_size e
  have lt : t < s.heap.objs.size := let ⟨_, e, _⟩ := ht; Heap.lt_size e
  refine callType_codes (Q₁ := fun obj s₁ => obj = .ref s.heap.objs.size ∧ s₁ = { s with heap := s.heap.push { cls := .type "list", data := .seq #[] } }) PySem.F.called_list (PySem.F.typeCall_list_1 _) PySem.F.entry_list_init (code_list_new _ ⟨rfl, rfl⟩) fun obj s₁ h₁ => ?_
  obtain ⟨rfl, rfl⟩ := h₁
  have hS : (s.heap.push { cls := .type "list", data := .seq #[] }).get? s.heap.objs.size = some { cls := .type "list", data := .seq #[] } := Heap.get?_push_size _ rfl
  refine ⟨⟨_, hS, rfl⟩, PySem.F.args_list_init_2 _ _, ?_⟩
  show wpAny _ _ (do let old ← Builtin.List.listItems (.ref s.heap.objs.size); Builtin.List.listUpdate (.ref s.heap.objs.size) (fun _ => #[]); letGo old.toList.reverse; Builtin.List.listExtendWith (.ref s.heap.objs.size) (.ref r) .none) _ _ _
  refine wpAny_bind ?_
  unfold Builtin.List.listItems
  refine wpAny_bind (wpAny_seqItems hS rfl (wpAny_pure ?_))
  show wpAny _ _ (updateSeq s.heap.objs.size (fun _ => #[]) >>= fun _ => letGo (#[] : Array Value).toList.reverse >>= fun _ => Builtin.List.listExtendWith (.ref s.heap.objs.size) (.ref r) .none) _ _ _
  refine wpAny_bind (wpAny_updateSeq hS rfl (wpAny_bind (wpAny_letGo ?_)))
  have hS₂ := Heap.get?_update_self (Obj.mapSeq (fun _ => (#[] : Array Value))) hS rfl
  have oth : ∀ b o, b ≠ s.heap.objs.size → s.heap.get? b = some o → ((s.heap.push { cls := .type "list", data := .seq #[] }).update s.heap.objs.size (Obj.mapSeq (fun _ => (#[] : Array Value)))).get? b = some o :=
    fun b o hb e => (Heap.get?_update_other _ _ (Ne.symm hb)).trans (Heap.get?_push_of_some _ e)
  refine ext_rv (A := A.in1) hh (hr.to fun o e => oth r o (Nat.ne_of_lt lr) e) (tup_to ht fun o e => oth t o (Nat.ne_of_lt lt) e) hz hne (Nat.ne_of_gt lr) (Nat.ne_of_gt lt) hS₂ fun h' tk acc c hk hS' hacc => ?_
  exact ⟨rfl, hQ h' tk acc c (fun b o hb e => hk b o (Nat.ne_of_lt (Heap.lt_size e)) hb (oth b o (Nat.ne_of_lt (Heap.lt_size e)) e)) hS' hacc⟩
end
section
variable {X : Cx}
def tListRv (K : PySem.W.Frag) (te : TE) : TE := fun σ H Q => te σ H fun x H1 => ∃ a xs, x = .ref a ∧ SqT K H1 a xs ∧ ∀ l, H1 l = none → Q (.ref l) (upd H1 l (.lst xs.reverse))
theorem vals_rev : ∀ {xs : List V} {us : List Value}, Vals xs us → Vals xs.reverse us.reverse
  | _, _, .nil => .nil
  | _, _, .cons h r => by
    rw [List.reverse_cons, List.reverse_cons]
    exact (vals_rev r).append (.cons h .nil)
theorem pe_listRv {K : PySem.W.Frag} {e : Expr} {te : TE} {p p2 pos pos2 : Pos} (hc : X.calm = true) (hg : Gl X "list") (hm : X.mg "list" = none) (hg2 : Gl X "reversed") (hm2 : X.mg "reversed" = none) (he : PE X e te) (hK : X.K = K := by rfl)
    (h1 : starEach [.Call (.Name "reversed" p2) [e] [] pos2] X.env = (false, eval (.Call (.Name "reversed" p2) [e] [] pos2) X.env) :: starEach [] X.env := by rfl)
    (h2 : starEach [e] X.env = (false, eval e X.env) :: starEach [] X.env := by rfl) : PE X (.Call (.Name "list" p) [.Call (.Name "reversed" p2) [e] [] pos2] [] pos) (tListRv K te) := by
  subst hK
  intro pins s σ H Q I h
  refine wpAny_Call_Name_kw (ld_blt I hg hm bt_list ?_)
  refine PyProof.Rows.callWith_type1 ?_ h1 rfl
  rw [h1]
  show wpAny _ _ (spliced ((false, eval _ X.env) :: backTo pos (starEach [] X.env))) _ _ s
  refine Calls.spliced_cons (wpAny_Call_Name_kw (ld_blt I hg2 hm2 bt_reversed (PyProof.Rows.callWith_type1 (thn (pa_cons he pa_nil h2 pos2 pins s σ H (fun vs H1 => match vs with | [x] => ∃ a xs, x = .ref a ∧ SqT X.K H1 a xs ∧ ∀ l, H1 l = none → Q (.ref l) (upd H1 l (.lst xs.reverse)) | _ => False) I h) fun us s1 ⟨vs, H1, I1, r1, q1⟩ => ?_) h2 rfl)))
  obtain ⟨x0, e0, a, xs, e1, hx, q⟩ : ∃ x0, vs = [x0] ∧ ∃ a xs, x0 = .ref a ∧ SqT X.K H1 a xs ∧ ∀ l, H1 l = none → Q (.ref l) (upd H1 l (.lst xs.reverse)) := by
    match vs, q1 with
    | [x0], q1 => exact ⟨x0, rfl, q1⟩
  subst e0 e1
  obtain ⟨u, rfl, ru⟩ := Vals.one r1
  obtain rfl : u = Value.ref a := ru
  obtain ⟨its, r, ht, hz⟩ := I1.tuple hx
  have hlen : its.toArray.size = xs.length := by rw [List.size_toArray]; exact r.length.symm
  refine call_rv ht (by rw [hlen]; exact hz) fun tk => Calls.spliced_nil ?_
  have la : a < s1.heap.objs.size := let ⟨_, e, _⟩ := ht; Heap.lt_size e
  refine list_rv (r := s1.heap.objs.size) (I1.ok.hd hc) ⟨_, Heap.get?_push_size _ rfl, rfl, rfl⟩ (tup_to ht fun o e => Heap.get?_push_of_some _ e) (by rw [hlen]; exact hz) (Nat.ne_of_lt la) fun h' tk' acc c kp hD hacc => ?_
  have kp' : ∀ b o, s1.heap.get? b = some o → h'.get? b = some o := fun b o e => kp b o (Nat.ne_of_lt (Heap.lt_size e)) (Heap.get?_push_of_some _ e)
  have hv : acc.toList = its.reverse := by
    refine List.ext_getElem ?_ fun i a1 a2 => ?_
    · rw [Array.length_toList, hacc.1, List.length_reverse, List.size_toArray]
    · have := hacc.2 i acc.toList[i] (by rw [← Array.getElem?_toList]; exact List.getElem?_eq_getElem a1)
      rw [List.size_toArray, List.getElem?_toArray] at this
      rw [List.getElem_reverse]
      have hl : its.length - 1 - i < its.length := by rw [List.length_reverse] at a2; omega
      rw [List.getElem?_eq_getElem hl] at this
      exact (Option.some.inj this).symm
  have le : s1.heap.objs.size ≤ (s1.heap.push (rvO a ((its.toArray.size : Int) - 1))).objs.size := by rw [Heap.size_push]; exact Nat.le_succ _
  refine ⟨.ref (s1.heap.push (rvO a ((its.toArray.size : Int) - 1))).objs.size, _, I1.laid (t' := tk') kp' le (show ObjOk X.prog X.w _ h' _ (.lst xs.reverse) from ⟨by rw [List.length_reverse]; exact hz, acc.toList, c, by rw [hv]; exact vals_rev r, by rw [Array.toArray_toList]; exact hD⟩), rfl, q _ (I1.hok.fresh le)⟩
def rSlW (K : PySem.W.Frag) : V → Option Int → Option Int → Hp → VK → Prop := fun x lo hi H Q => ∃ a xs, x = .ref a ∧ SqT K H a xs ∧ (HT.sIx xs.length 0 lo = 0 ∧ HT.sIx xs.length xs.length hi = xs.length) ∧ Q (.ref a) H
theorem sl_tupW {K : PySem.W.Frag} (hK : X.K = K := by rfl) : SlR X (rSlW K) := by
  subst hK
  intro pins s σ H x v vl vu lo hi sl Q I rx hs pl pu h
  obtain ⟨a, xs, rfl, hx, hw, q⟩ := h
  cases rx
  obtain ⟨its, r, ht, hz⟩ := I.tuple hx
  have hlen : its.toArray.size = xs.length := by rw [List.size_toArray]; exact r.length.symm
  refine ⟨"tuple", _, PyProof.Rows.slot_tuple_getitem.lookup, ht.typeIs, ?_⟩
  obtain ⟨os, hos, hcs, hds⟩ := id hs
  have hTs : s.TypeIs (.ref sl) "slice" := ⟨os, hos, hcs⟩
  unfold getItem
  try with_reducible refine wpAny_holding ?_
  first | refine wpAny_bind (wpAny_pure ?_) | skip
  refine wpAny_bind (wpAny_sequenceKey ht.typeIs (by decide) (wpAny_bind (wpAny_callSpecial?_slot (name := Str.ofString "__getitem__") ht.typeIs PyProof.Rows.slot_tuple_getitem (wpAny_call_entry PyProof.Rows.slot_tuple_getitem ht.typeIs entry_tuple_getitem ?_ (args_tuple_getitem _ _)))))
  refine (show wpAny _ _ (Builtin.Tuple.tupleItemsOf (.ref a) >>= _) _ _ s from wpAny_bind (tupleItemsOf_ ht (wpAny_bind (wpAny_typeOf hTs ?_))))
  rw [if_pos (by decide)]
  refine wpAny_bind (HT.sliceApplied_gen hs pl pu ?_)
  have yes : (((HT.sIx its.toArray.size 0 lo : Nat) : Int) == 0 && (1 : Int) == 1 && (HT.sIx its.toArray.size its.toArray.size hi - HT.sIx its.toArray.size 0 lo) == its.toArray.size) = true := by
    rw [hlen, hw.1, hw.2]
    simp
  show wpAny _ _ (if (((HT.sIx its.toArray.size 0 lo : Nat) : Int) == 0 && (1 : Int) == 1 && (HT.sIx its.toArray.size its.toArray.size hi - HT.sIx its.toArray.size 0 lo) == its.toArray.size) = true then _ else _) _ _ s
  rw [if_pos yes]
  unfold Builtin.Tuple.tupleIsExact
  refine wpAny_bind (wpAny_bind (wpAny_typeOf ht.typeIs (wpAny_pure ?_)))
  rw [if_pos (by decide)]
  exact wpAny_bind (wpAny_rule (wpAny_pure ⟨_, rfl, wpAny_pure ⟨.ref a, H, I, rfl, q⟩⟩))
def rSlG (K : PySem.W.Frag) : V → Option Int → Option Int → Hp → VK → Prop := fun x lo hi H Q => ∃ a xs, x = .ref a ∧ H a = some (.tup xs) ∧ ∀ g H', Same H H' → H' g = some (.tup (cutV xs lo hi)) → Q (.ref g) H'
theorem sl_tupG {K : PySem.W.Frag} (hK : X.K = K := by rfl) : SlR X (rSlG K) := by
  intro pins s σ H x v vl vu lo hi sl Q I rx hs pl pu h
  obtain ⟨a, xs, e, hx, q⟩ := h
  by_cases z : HT.sIx xs.length 0 lo = 0 ∧ HT.sIx xs.length xs.length hi = xs.length
  · refine sl_tupW hK pins s σ H x v vl vu lo hi sl Q I rx hs pl pu ⟨a, xs, e, SqT.of hx, z, q a H (Same.refl _) ?_⟩
    have : cutV xs lo hi = xs := by
      unfold cutV
      rw [z.1, z.2, List.drop_zero, Nat.sub_zero, List.take_length]
    rw [this]
    exact hx
  · exact sl_tupK hK pins s σ H x v vl vu lo hi sl Q I rx hs pl pu ⟨a, xs, e, SqT.of hx, z, fun p hp => q p _ (same_new hp _) upd_same⟩
def DKn (P : Program) (w : World) (K : PySem.W.Frag) (a : Addr) (kvs : List (Key × V)) : Prop := ∃ o vs, K.lookup a = some o ∧ o.IsDictOf (mixKind P w) vs ∧ KV kvs vs
def tDGetC (P : Program) (w : World) (K : PySem.W.Frag) (td ty : TE) : TE := fun σ H Q => td σ H fun x H1 => ty σ H1 fun y H2 => ∃ a kvs k v, x = .ref a ∧ y = kV k ∧ DKn P w K a kvs ∧ valV kvs k = some v ∧ Q v H2
theorem pe_dgetC {K : PySem.W.Frag} {o i : Expr} {td ty : TE} {pos : Pos} (ho : PE X o td) (hi : PE X i ty) (hs : NoSl i) (hK : X.K = K := by rfl) : PE X (.Subscript o i pos) (tDGetC X.prog X.w K td ty) := by
  subst hK
  intro pins s σ H Q I h
  refine subD_of PySem.F.slot_dict_getitem.lookup hs (thn (ho pins s σ H _ I h) fun u s1 ⟨x, H1, I1, rx, q1⟩ => thn (hi pins s1 σ H1 _ I1 q1) fun iv s2 ⟨y, H2, I2, ry, a, kvs, k, v, ex, ey, ⟨ob, vs, hk, hd, rel⟩, l, q2⟩ => ?_)
  subst ex ey
  obtain rfl : u = Value.ref a := rx
  have dd : s2.heap.DictOf (mixKind X.prog X.w) a vs := Heap.dictOf_iff.mpr ⟨ob, I2.kIn a ob hk, hd⟩
  obtain ⟨w', hw, rw'⟩ := RelO.some_of (v := v) (o := valueAt vs k) (by rw [← l]; exact rel.val k)
  exact ⟨dd.typeIs, wpAny_getItem_of (kV_is ry) dd.mapOf hw ⟨v, H2, I2.tok _, rw', q2⟩⟩
end
end L2
namespace L2
open PySem PySem.Spec PyProof.Rows
def Itv (K : PySem.W.Frag) (a : Addr) (n : Nat) : It :=
  ⟨fun i H => i < n ∧ ∃ xs x, SqL K H a xs ∧ xs.length = n ∧ xs[n - 1 - i]? = some x, fun i H x H' => H' = H ∧ ∀ xs, SqL K H a xs → xs[n - 1 - i]? = some x, fun i _ => i = n⟩
theorem turn_rev {P : Program} {w : World} {K : PySem.W.Frag} {tg : Expr} (a it : Addr) (n : Nat) : Turn P w K tg (Itv K a n) [it] it (fun i h => h.IsRevIter it a ((n : Int) - 1 - (i : Int))) where
  mem := by simp
  obj := fun i h st b hb => by
    have e : b = it := by simpa using hb
    subst e
    obtain ⟨o, e, c, d⟩ := st
    exact ⟨o, e, fun v z => by rw [d] at z; cases z⟩
  keep := fun i h h' st k => st.at fun o e => k it (by simp) o e
  item := by
    intro X hP hw hK hc i pins s σ H E I hf st hg
    subst hP hw hK
    obtain ⟨hi, xs, x, hq, hn, hx⟩ := hg
    obtain ⟨its, rv, p, hz⟩ := I.list hq
    obtain ⟨u, hu, ru⟩ := rv.get hx
    obtain ⟨f0, f1, f2, f3, f4, f5⟩ := hf it (by simp)
    rw [show (n : Int) - 1 - (i : Int) = ((n - 1 - i : Nat) : Int) by omega] at st
    refine wpAny_pyNext_rev_item st p.isList (x := u) (by simpa using hu) fun h' st' sb => ?_
    rw [show ((n - 1 - i : Nat) : Int) - 1 = (n : Int) - 1 - ((i + 1 : Nat) : Int) by omega] at st'
    have I1 : Inv X pins σ H { s with heap := h' } := I.turned (t' := s.toks) (fun b o hb e => (sb.2 b hb).trans e) f0 f1 f3 f4 f5
    obtain ⟨o, e, c, d⟩ := id st'
    exact ⟨u, rfl, go_of (s := { s with heap := h' }) e c d (by decide) ⟨x, H, I1, ru, ⟨rfl, fun ys hy => by rw [I.list_inj hy hq]; exact hx⟩, st', fun b hb => (hf b hb).1⟩⟩
  done := by
    intro X hP hw hK hc i pins s σ H E I hf st hg
    subst hP hw hK
    obtain rfl : i = n := hg
    obtain ⟨f0, f1, f2, f3, f4, f5⟩ := hf it (by simp)
    rw [show (i : Int) - 1 - (i : Int) = -1 by omega] at st
    exact wpAny_pyNext_rev_end (I.ok.hd hc) st fun h' eb => ⟨rfl, I.turned (t' := s.toks) (fun b o hb e => eb b o hb e) f0 f1 f3 f4 f5⟩
  self := fun _ _ _ _ _ st h => wpAny_pyIter_revIter st h
section
variable {X : Cx} {tg : Expr}
def iRev (K : PySem.W.Frag) (te : TE) : TI := fun σ H R => te σ H fun x H1 => ∃ a xs, x = .ref a ∧ SqL K H1 a xs ∧ R (Itv K a xs.length) H1
theorem pi_rev {K : PySem.W.Frag} {e : Expr} {te : TE} {p pos : Pos} (hg : Gl X "reversed") (hm : X.mg "reversed" = none) (he : PE X e te) (hK : X.K = K := by rfl)
    (h2 : starEach [e] X.env = (false, eval e X.env) :: starEach [] X.env := by rfl) : PI X tg (.Call (.Name "reversed" p) [e] [] pos) (iRev K te) := by
  subst hK
  intro pins s σ H R I h
  refine wpAny_Call_Name_kw (ld_blt I hg hm bt_reversed (PyProof.Rows.callWith_type1 (thn (pa_cons he pa_nil h2 pos pins s σ H (fun vs H1 => match vs with | [x] => ∃ a xs, x = .ref a ∧ SqL X.K H1 a xs ∧ R (Itv X.K a xs.length) H1 | _ => False) I h) fun us s1 ⟨vs, H1, I1, r1, q1⟩ => ?_) h2 rfl))
  obtain ⟨x0, e0, a, xs, e1, hx, q⟩ : ∃ x0, vs = [x0] ∧ ∃ a xs, x0 = .ref a ∧ SqL X.K H1 a xs ∧ R (Itv X.K a xs.length) H1 := by
    match vs, q1 with
    | [x0], q1 => exact ⟨x0, rfl, q1⟩
  subst e0 e1
  obtain ⟨u, rfl, ru⟩ := Vals.one r1
  obtain rfl : u = Value.ref a := ru
  obtain ⟨its, rv, pl, hz⟩ := I1.list hx
  have hl : its.toArray.size = xs.length := by rw [List.size_toArray]; exact rv.length.symm
  refine call_reversed_list pl.isList ?_
  have st : (s1.heap.push (revObj a ((its.toArray.size : Int) - 1))).IsRevIter s1.heap.objs.size a ((xs.length : Int) - 1 - ((0 : Nat) : Int)) := by
    rw [hl]
    exact ⟨_, Heap.get?_push_size _ rfl, rfl, by simp [revObj]⟩
  refine wpAny_pyIter_revIter (i := (xs.length : Int) - 1 - ((0 : Nat) : Int)) st ⟨s1.heap.objs.size, [s1.heap.objs.size], _, _, H1, rfl, I1.kept (t' := s1.toks) fun b o e => Heap.get?_push_of_some _ e, turn_rev a _ xs.length, st, fun b hb => ?_, q⟩
  have e : b = s1.heap.objs.size := by simpa using hb
  subst e
  exact I1.fpOk (Nat.le_refl _) (I1.hok.fresh (Nat.le_refl _))
end
theorem for_rev {K : PySem.W.Frag} {a : Addr} {xs : List V} {g : TG} {tb : TS} {D : Ends} {σ : St} {H : Hp} (Pv : Nat → St → Hp → Prop) (h0 : Pv 0 σ H) (hl : ∀ i σ H, i ≤ xs.length → Pv i σ H → SqL K H a xs)
    (hs : ∀ i x σ H, i < xs.length → xs[xs.length - 1 - i]? = some x → Pv i σ H → g x σ H fun σ2 H2 => tb { D with nx := Pv (i + 1), ct := Pv (i + 1), bk := D.nx } σ2 H2) (hd : ∀ σ H, Pv xs.length σ H → D.nx σ H) :
    ∃ W : Nat → Nat → St → Hp → Prop, (∃ m, W 0 m σ H) ∧ ∀ i m σ H, W i m σ H →
      ((Itv K a xs.length).stop i H ∧ D.nx σ H) ∨ ((Itv K a xs.length).go i H ∧ ∃ N : St → Hp → Prop, (∀ σ' H', N σ' H' → ∃ m', m' < m ∧ W (i + 1) m' σ' H') ∧ ∀ x H', (Itv K a xs.length).yld i H x H' → g x σ H' fun σ2 H2 => tb { D with nx := N, ct := N, bk := D.nx } σ2 H2) := by
  refine ⟨fun i m σ H => m = xs.length - i ∧ i ≤ xs.length ∧ Pv i σ H, ⟨xs.length, by simp, Nat.zero_le _, h0⟩, ?_⟩
  rintro i m σ H ⟨rfl, hi, p⟩
  have q := hl i σ H hi p
  by_cases hlt : i < xs.length
  · have hx : xs[xs.length - 1 - i]? = some (xs[xs.length - 1 - i]'(by omega)) := List.getElem?_eq_getElem (by omega)
    refine .inr ⟨⟨hlt, xs, _, q, rfl, hx⟩, Pv (i + 1), fun σ' H' p' => ⟨xs.length - (i + 1), by omega, rfl, hlt, p'⟩, fun x H' y => ?_⟩
    obtain ⟨e, y⟩ := y
    subst e
    exact hs i x σ _ hlt (y xs q) p
  · have e : i = xs.length := by omega
    subst e
    exact .inl ⟨rfl, hd σ H p⟩
end L2
namespace L2
open PySem PySem.Spec PyProof.Rows
def FnO (f : Addr) (fd : FuncData) : HO := .ext fun h => h.get? f = some { cls := .type "function", data := .func fd }
def CdO (c : Addr) (q : Str) : HO := .ext fun h => h.CodeRec (.ref c) q
section
variable {P : Program} {w : World} {H : Hp} {h h' : Heap} {f c a : Addr} {fd : FuncData} {q : Str}
theorem fno_ok (e : h.get? f = some { cls := .type "function", data := .func fd }) : ObjOk P w H h f (FnO f fd) := ⟨e, ⟨_, e⟩, fun _ _ a k => k _ a⟩
theorem cdo_ok (e : h.CodeRec (.ref c) q) : ObjOk P w H h c (CdO c q) := by
  have e' := e
  obtain ⟨c2, o, vs, t, e1, e2, e3, e4⟩ := e'
  cases e1
  refine ⟨e, ⟨o, e2⟩, fun h1 h2 a k => ?_⟩
  obtain ⟨c3, o3, vs3, t3, f1, f2, f3, f4⟩ := a
  cases f1
  exact ⟨_, o3, vs3, t3, rfl, k _ f2, f3, f4⟩
theorem FnO.at_ (ok : HOk P w H h) (e : H f = some (FnO f fd)) : h.get? f = some { cls := .type "function", data := .func fd } := (ok f _ e).1
theorem CdO.at_ (ok : HOk P w H h) (e : H c = some (CdO c q)) : h.CodeRec (.ref c) q := (ok c _ e).1
end
theorem among_app {p : Pos} {r : List Value} (l : List Value) (h : TriplesOk l) : codeAmong p (l ++ r) = match codeAmong p l with | some c => some c | none => codeAmong p r := by
  fun_induction TriplesOk l with
  | case1 => rfl
  | case2 a t b u x rest ih =>
    simp only [List.cons_append, codeAmong]
    split
    · rfl
    · exact ih h
  | case3 l h1 h2 => exact h.elim
def SameT (P : Addr) (H H' : Hp) : Prop := ∀ b o, b ≠ P → H b = some o → H' b = some o
theorem SameT.trans {P : Addr} {H H1 H2 : Hp} (a : SameT P H H1) (b : SameT P H1 H2) : SameT P H H2 := fun c o n h => b c o n (a c o n h)
theorem Same.t {P : Addr} {H H1 : Hp} (a : Same H H1) : SameT P H H1 := fun c o _ h => a c o h
def Tb (P : Addr) (L : List (Pos × Str)) (H : Hp) : Prop :=
  ∃ ps, H P = some (.tbl ps) ∧ TriplesOk ps.toList ∧ ∀ x ∈ L, codeAmong x.1 ps.toList = none ∨ ∃ c, codeAmong x.1 ps.toList = some (.ref c) ∧ H c = some (CdO c x.2)
theorem Tb.same {P : Addr} {L : List (Pos × Str)} {H H' : Hp} (t : Tb P L H) (e : Same H H') : Tb P L H' := by
  obtain ⟨ps, h1, h2, h3⟩ := t
  refine ⟨ps, e _ _ h1, h2, fun x hx => ?_⟩
  rcases h3 x hx with h | ⟨c, a, b⟩
  · exact .inl h
  · exact .inr ⟨c, a, e _ _ b⟩
theorem Tb.start {P : Addr} {L : List (Pos × Str)} {H : Hp} (h : H P = some (.tbl #[])) : Tb P L H := ⟨#[], h, True.intro, fun _ _ => .inl rfl⟩
theorem Tb.other {P P' : Addr} {L : List (Pos × Str)} {H H' : Hp} (t : Tb P L H) (e : SameT P' H H') (n : P ≠ P') (hP : Tb P' L' H) : Tb P L H' := by
  obtain ⟨ps, h1, h2, h3⟩ := t
  obtain ⟨ps', g1, _⟩ := hP
  refine ⟨ps, e _ _ n h1, h2, fun x hx => ?_⟩
  rcases h3 x hx with h | ⟨c, a, b⟩
  · exact .inl h
  · refine .inr ⟨c, a, e _ _ (fun z => ?_) b⟩
    rw [z, g1] at b
    cases b
section
variable {fs ex : List Addr} {H : Hp} {h h' : Heap} {P c f : Addr} {o1 o2 : HO} {ps more : Array Value}
def made (H : Hp) (P c f : Addr) (ps : Array Value) (o1 o2 : HO) : Hp := upd (upd (upd H P (.tbl ps)) c o1) f o2
theorem made_ne {b : Addr} (h1 : b ≠ P) (h2 : b ≠ c) (h3 : b ≠ f) : made H P c f ps o1 o2 b = H b := by
  unfold made
  rw [upd_ne h3, upd_ne h2, upd_ne h1]
theorem made_f : made H P c f ps o1 o2 f = some o2 := upd_same
theorem made_c (n : c ≠ f) : made H P c f ps o1 o2 c = some o1 := by
  unfold made
  rw [upd_ne n, upd_same]
theorem made_P (n1 : P ≠ c) (n2 : P ≠ f) : made H P c f ps o1 o2 P = some (.tbl ps) := by
  unfold made
  rw [upd_ne n2, upd_ne n1, upd_same]
theorem Un.made (e : H P = some (.tbl ps)) (k : ∀ b u, b ≠ P → h.get? b = some u → h'.get? b = some u) (hP : ∃ u, h'.get? P = some u) (hc : h.objs.size ≤ c) (hf : h.objs.size ≤ f) (nc : H c = none) (nf : H f = none) :
    Un fs ex H (made H P c f (ps ++ more) o1 o2) h h' := by
  have nP : ∀ b, H b = none → b ≠ P := fun b n z => by rw [z, e] at n; cases n
  have lo : ∀ {b : Addr} {u : Obj}, h.get? b = some u → b ≠ c ∧ b ≠ f := fun {b u} q => ⟨Nat.ne_of_lt (Nat.lt_of_lt_of_le (Heap.lt_size q) hc), Nat.ne_of_lt (Nat.lt_of_lt_of_le (Heap.lt_size q) hf)⟩
  refine ⟨fun b u q n _ _ => k b u (nP b n) q, fun b u q n _ _ => ⟨u.slots, k b u (nP b n) q⟩, fun b u q n _ => by rw [made_ne (nP b n) (lo q).1 (lo q).2]; exact n, fun b u q _ => ?_, fun b xs q => ?_, fun b u xs q => ?_, fun b ps' q => ?_⟩
  · by_cases hb : b = P
    · rw [hb]; exact hP
    · exact ⟨u, k b u hb q⟩
  · rw [made_ne (fun z => by rw [z, e] at q; cases q) (ne_of_none q nc) (ne_of_none q nf)]; exact q
  · rw [made_ne (fun z => by rw [z, e] at q; cases q) (ne_of_none q nc) (ne_of_none q nf)]; exact q
  · by_cases hb : b = P
    · subst hb
      rw [e] at q
      cases q
      exact ⟨more, made_P (ne_of_none e nc) (ne_of_none e nf)⟩
    · exact ⟨#[], by rw [made_ne hb (ne_of_none q nc) (ne_of_none q nf), q]; simp⟩
theorem HOk.made {Pg : Program} {w : World} (ok : HOk Pg w H h) (e : H P = some (.tbl ps)) (k : ∀ b u, b ≠ P → h.get? b = some u → h'.get? b = some u) (hP : h'.get? P = some (PySem.W.tabObj (ps ++ more))) (nc : H c = none) (nf : H f = none) (ncf : c ≠ f)
    (hc : ObjOk Pg w (made H P c f (ps ++ more) o1 o2) h' c o1) (hf : ObjOk Pg w (made H P c f (ps ++ more) o1 o2) h' f o2) : HOk Pg w (made H P c f (ps ++ more) o1 o2) h' := fun b u q => by
  by_cases b1 : b = f
  · subst b1; rw [made_f] at q; cases q; exact hf
  by_cases b2 : b = c
  · subst b2; rw [made_c ncf] at q; cases q; exact hc
  by_cases b3 : b = P
  · subst b3; rw [made_P b2 b1] at q; cases q; exact hP
  rw [made_ne b3 b2 b1] at q
  refine (ok b u q).stay (fun y v hy r => k y v ?_ r) (fun y r => ?_) fun y xs r => ?_
  · rcases hy with z | z
    · rw [z]; exact b3
    · intro z2
      rw [z2, e] at z
      cases z
  · rw [made_ne (fun z => by rw [z, e] at r; cases r) (ne_of_none r nc) (ne_of_none r nf)]; exact r
  · rw [made_ne (fun z => by rw [z, e] at r; cases r) (ne_of_none r nc) (ne_of_none r nf)]; exact r
end
def BltM (mg : Str → Option Value) (h : Heap) : Prop := ∃ bm ob, mg "__builtins__" = some (.ref bm) ∧ bm ≠ builtinsNs ∧ h.get? bm = some ob ∧ ob.cls = .type "module" ∧ ob.dict = some builtinsNs ∧ ob.data = .plain
theorem BltM.keeps {mg : Str → Option Value} {h h' : Heap} (b : BltM mg h) (k : ∀ b o, h.get? b = some o → h'.get? b = some o) : BltM mg h' :=
  let ⟨bm, ob, h1, h2, h3, r⟩ := b; ⟨bm, ob, h1, h2, k _ _ h3, r⟩
theorem BltM.at_ {mg : Str → Option Value} {h : Heap} {P : Addr} {ps : Array Value} (b : BltM mg h) (g : h.Ns mainGlobals mg) (e : h.get? P = some (PySem.W.tabObj ps)) : h.BuiltinsAt mg P := by
  obtain ⟨bm, ob, h1, h2, h3, h4, h5, h6⟩ := b
  refine ⟨bm, ob, h1, h2, fun z => ?_, fun z => ?_, h3, h4, h5, h6⟩
  · obtain ⟨o, es, ep, e2, hd, _⟩ := g
    rw [z, e2] at h3; cases h3; rw [hd] at h6; cases h6
  · rw [z, e] at h3; cases h3; cases h4
theorem ns_ne {mg : Str → Option Value} {h : Heap} {P : Addr} {ps : Array Value} (g : h.Ns mainGlobals mg) (e : h.get? P = some (PySem.W.tabObj ps)) : mainGlobals ≠ P := fun z => by
  obtain ⟨o, es, ep, e2, hd, _⟩ := g
  rw [z, e] at e2; cases e2; cases hd
def tLam (P : Addr) (L : List (Pos × Str)) (fdOf : Addr → Value → FuncData) (q : Str) : TE := fun _ H Q => Tb P L H ∧
  ∀ H' f c ct, SameT P H H' → Tb P L H' → H f = none → H' f = some (FnO f (fdOf c ct)) → H' c = some (CdO c q) → Q (.ref f) H'
section
variable {X : Cx} {params : Arguments} {body : Expr} {scope : Scope} {pos : Pos} {c P : Addr} {L : List (Pos × Str)}
theorem made_ok {pins : List (Addr × Obj)} {σ : St} {H : Hp} {s : Shared} {q : Str} {fdOf : Addr → Value → FuncData} {Q : VK} {ps : Array Value} (I : Inv X pins σ H s) (hP : H P = some (.tbl ps)) (ht : TriplesOk ps.toList)
    (hT : ∀ x ∈ L, codeAmong x.1 ps.toList = none ∨ ∃ c, codeAmong x.1 ps.toList = some (.ref c) ∧ H c = some (CdO c x.2)) (hu : ∀ x ∈ L, x.1.line = pos.line → x.1.col = pos.col → x.2 = q)
    (hq : ∀ H' f c ct, SameT P H H' → Tb P L H' → H f = none → H' f = some (FnO f (fdOf c ct)) → H' c = some (CdO c q) → Q (.ref f) H') (hn : codeAmong pos ps.toList = none)
    {c' : Addr} {ctv : Value} {h' : Heap} {tk : Tok} (hx : Heap.ExtBut P s.heap h') (hge : s.heap.objs.size ≤ c') (hlt : c' < h'.objs.size) (hrec : h'.CodeRec (.ref c') q)
    (htb : h'.get? P = some (PySem.W.tabObj (ps ++ #[rawInt pos.line, rawInt pos.col, .ref c']))) :
    EP X pins σ Q (.ref h'.objs.size) { s with heap := h'.push { cls := .type "function", data := .func (fdOf c' ctv) }, toks := tk } := by
  have hsz : s.heap.objs.size ≤ h'.objs.size := Nat.le_of_lt (Nat.lt_of_le_of_lt hge hlt)
  have nc : H c' = none := I.hok.fresh hge
  have nf : H h'.objs.size = none := I.hok.fresh hsz
  have ncf : c' ≠ h'.objs.size := Nat.ne_of_lt hlt
  have k : ∀ b u, b ≠ P → s.heap.get? b = some u → (h'.push { cls := .type "function", data := .func (fdOf c' ctv) }).get? b = some u := fun b u hb e => Heap.get?_push_of_some _ (hx b u hb e)
  have hPc : P ≠ c' := ne_of_none hP nc
  have hPf : P ≠ h'.objs.size := ne_of_none hP nf
  refine ⟨.ref h'.objs.size, L2.made H P c' h'.objs.size (ps ++ #[rawInt pos.line, rawInt pos.col, .ref c']) (CdO c' q) (FnO h'.objs.size (fdOf c' ctv)),
    I.un (t' := tk) (Un.made hP k ⟨_, Heap.get?_push_of_some _ htb⟩ hge hsz nc nf) (HOk.made I.hok hP k (Heap.get?_push_of_some _ htb) nc nf ncf (cdo_ok (hrec.push _)) (fno_ok (Heap.get?_push_size _ rfl))), rfl, ?_⟩
  refine hq _ _ c' ctv (fun b o hb e => by rw [made_ne hb (ne_of_none e nc) (ne_of_none e nf)]; exact e) ⟨_, made_P hPc hPf, ?_, fun x hx2 => ?_⟩ nf made_f (made_c ncf)
  · rw [Array.toList_append]
    exact TriplesOk_snoc _ _ _ _ ht
  · rw [Array.toList_append, among_app _ ht]
    rcases hT x hx2 with hh | ⟨c2, e1, e2⟩
    · rw [hh]
      show codeAmong x.1 [rawInt pos.line, rawInt pos.col, .ref c'] = none ∨ _
      by_cases hp : x.1.line = pos.line ∧ x.1.col = pos.col
      · refine .inr ⟨c', ?_, ?_⟩
        · simp [codeAmong, rawInt, hp.1, hp.2]
        · rw [hu x hx2 hp.1 hp.2]
          exact made_c ncf
      · left
        have : ¬ ((pos.line = x.1.line) ∧ (pos.col = x.1.col)) := fun z => hp ⟨z.1.symm, z.2.symm⟩
        simp only [codeAmong, rawInt]
        rw [if_neg]
        · rw [Bool.and_eq_true, beq_iff_eq, beq_iff_eq]
          rintro ⟨z1, z2⟩
          exact this ⟨by omega, by omega⟩
    · rw [e1]
      refine .inr ⟨c2, rfl, ?_⟩
      rw [made_ne (fun z => by rw [z, hP] at e2; cases e2) (ne_of_none e2 nc) (ne_of_none e2 nf)]
      exact e2
theorem pe_lam (hcode : X.env.code = .ref c) (C : PySem.W.CodeHd X.base c P) (hB : BltM X.mg X.base) (hL : (pos, X.env.qual ++ "<lambda>") ∈ L) (hu : ∀ x ∈ L, x.1.line = pos.line → x.1.col = pos.col → x.2 = X.env.qual ++ "<lambda>")
    (hdef : defaultsOf params X.env = ([], []) := by rfl) {sc : Scope} (hsc : X.env.scope = sc := by rfl) (hfr : ∀ y ∈ scope.names, y.2 = NameKind.free → sc.names.lookup y.1 = some .cell ∨ sc.names.lookup y.1 = some .free := by decide +kernel) :
    PE X (.Lambda params body scope pos) (tLam P L (fun c ct => PySem.W.kla_fn "<lambda>" (X.env.qual ++ "<lambda>") params body scope (clOf X.env scope.names []) ((X.mg "__name__").getD .none) (.ref c) ct) (X.env.qual ++ "<lambda>")) := by
  intro pins s σ H Q I ⟨⟨ps, hP, ht, hT⟩, hq⟩
  have hPo : s.heap.get? P = some (PySem.W.tabObj ps) := I.hok P _ hP
  have hg := I.mod.glob.keeps I.bk
  have hb := (hB.keeps I.bk).at_ hg hPo
  have hcl : ∀ y ∈ scope.names, y.2 = NameKind.free → ∃ c, X.env.cells.lookup y.1 = some c := fun y hy e => I.ok.has y.1 (by subst hsc; exact hfr y hy e)
  refine PySem.W.kla_eval hdef ?_
  rcases hT _ hL with hn | ⟨c2, hc, hcd⟩
  · refine PySem.W.kla_makeFunction (mg := X.mg) (closure_is hcl) I.ok.glob hg hcode (C.keeps I.bk) hPo ht hn (ns_ne hg hPo) hb fun c' ctv h' tk hx hge hlt hrec htb => ?_
    exact made_ok (fdOf := fun c ct => PySem.W.kla_fn "<lambda>" (X.env.qual ++ "<lambda>") params body scope (clOf X.env scope.names []) ((X.mg "__name__").getD .none) (.ref c) ct) I hP ht hT hu hq hn hx hge hlt hrec htb
  · refine PySem.W.kla_makeFunctionHit (mg := X.mg) (closure_is hcl) I.ok.glob hg hcode (C.keeps I.bk) hPo ht hc hb fun ctv h' tk hk hsz => ?_
    have nf : H h'.objs.size = none := I.hok.fresh hsz
    refine ⟨.ref h'.objs.size, _, I.laid (t' := tk) (fun b u e => Heap.get?_push_of_some _ (hk b u e)) hsz (fno_ok (Heap.get?_push_size _ rfl)), rfl, ?_⟩
    have e0 : Same H (upd H h'.objs.size (FnO h'.objs.size (PySem.W.kla_fn "<lambda>" (X.env.qual ++ "<lambda>") params body scope (clOf X.env scope.names []) ((X.mg "__name__").getD .none) (.ref c2) ctv))) := fun b o e => by rw [upd_ne (ne_of_none e nf)]; exact e
    exact hq _ _ c2 ctv e0.t (Tb.same ⟨ps, hP, ht, hT⟩ e0) nf upd_same (e0 _ _ hcd)
end
def tCallV (i : Nat) (f : Addr) (fd : FuncData) (sp : Sp) (t : TA) : TE := fun σ H Q => σ[i]? = some (some (.ref f)) ∧ H f = some (FnO f fd) ∧ t σ H fun vs H1 => H1 f = some (FnO f fd) ∧ sp vs H1 Q E0
theorem pe_callV {X : Cx} {i k : Nat} {f : Addr} {fd : FuncData} {ps : List Str} {sp : Sp} {x : Str} {p pos : Pos} {e : Expr} {es : List Expr} {t : TA} (F : FnOk X.prog X.w X.K X.mg X.base CX0 k f fd ps sp) (hr : Room k X.A) (hb : Binds X.K fd ps [])
    (ha : PA X (e :: es) t) (hN : X.N[i]? = some x := by rfl) (hv : Vis X.env.scope x := by first | exact Or.inl rfl | exact Or.inr (Or.inl rfl) | exact Or.inr (Or.inr rfl)) (hd : (x == ("__debug__" : Str)) = false := by decide) (hcd : (x == ("__classdict__" : Str)) = false := by decide)
    (he : starEach (e :: es) X.env = (false, eval e X.env) :: starEach es X.env := by rfl) (hpl : (backTo pos (starEach es X.env)).any (·.1) = false := by rfl) : PE X (.Call (.Name x p) (e :: es) [] pos) (tCallV i f fd sp t) := by
  intro pins s σ H Q I ⟨hs, hf, h⟩
  refine wpAny_Call_Name_kw (thn (pe_var hN hv hd hcd pins s σ H (fun v H1 => v = .ref f ∧ H1 = H) I ⟨_, hs, rfl, rfl⟩) fun u s1 ⟨v, H1, I1, r, q⟩ => ?_)
  obtain ⟨rfl, rfl⟩ := q
  obtain rfl : u = Value.ref f := r
  refine PySem.W.callWith_F ⟨_, _, _, _, FnO.at_ I1.hok hf⟩ (thn (ha pos pins s1 σ H1 _ I1 h) fun us s2 ⟨vs, H2, I2, r2, q1, q2⟩ => ⟨⟨_, _, _, _, FnO.at_ I2.hok q1⟩, ?_⟩) he hpl
  exact run_fn F hr hb .nil pass0 I2 r2 (by rw [List.append_nil]; exact q2)
structure LamSc (N ps : List Str) (scope : Scope) : Prop where
  kind : scope.kind = .function
  co : scope.isCoroutine = false
  gen : scope.isGenerator = false
  nd : N.Nodup
  pre : N.take ps.length = ps
  par : ∀ x ∈ ps, scope.names.lookup x = some .local
  nocell : ∀ y ∈ scope.names, y.2 ≠ .cell
structure LamCl (base : Heap) (N ps : List Str) (scope : Scope) (cl : List (Str × Addr)) (fv : List V) : Prop where
  inj : ∀ x y c, cl.lookup x = some c → cl.lookup y = some c → x = y
  has : ∀ x, scope.names.lookup x = some .free → ∃ c, cl.lookup x = some c
  cell : ∀ x c, cl.lookup x = some c → ∃ v, base.IsCell c v
  len : N.length = ps.length + fv.length
  val : ∀ (j : Nat) x v, N[ps.length + j]? = some x → fv[j]? = some v → scope.names.lookup x = some .free ∧ ∃ c u, cl.lookup x = some c ∧ RelV v u ∧ base.IsCell c (some u)
theorem LamCl.none {base : Heap} {N : List Str} {scope : Scope} (h : ∀ x, scope.names.lookup x ≠ some .free) : LamCl base N N scope [] [] :=
  ⟨fun _ _ _ h => by simp at h, fun x hx => absurd hx (h x), fun _ _ h => by simp at h, by simp, fun j x v _ h => by simp at h⟩
def cxLam (P : Program) (w : World) (K : PySem.W.Frag) (mg : Str → Option Value) (base : Heap) (N : List Str) (qual : Str) (scope : Scope) (f : Addr) (cd : Value) (cl : List (Str × Addr)) (A : Around) (outer : List Env) (s : Shared) (H : Hp) : Cx where
  prog := P
  w := w
  K := K
  mg := mg
  base := base
  A := A.deeper (PySem.W.envX qual scope s.heap.objs.size f cd cl)
  N := N
  s₀ := s
  H₀ := H
  env := PySem.W.envX qual scope s.heap.objs.size f cd cl
  outer := outer
  stack := PySem.W.envX qual scope s.heap.objs.size f cd cl :: outer
  ex := []
  calm := true
  fn := fun _ => false
  pn := []
  xe := fun _ _ => False
theorem rev_lookup : ∀ {ps : List Str} {us : List Value} {i : Nat} {y : Str} {u : Value}, ps.Nodup → ps[i]? = some y → us[i]? = some u → ((ps.zip us).reverse).lookup y = some u
  | [], _, _, _, _, _, h, _ => by simp at h
  | _ :: _, [], _, _, _, _, _, h => by simp at h
  | p :: ps, u0 :: us, 0, y, u, nd, h1, h2 => by
    simp at h1 h2
    subst h1; subst h2
    rw [List.zip_cons_cons, List.reverse_cons]
    have hn : ((ps.zip us).reverse).lookup p = none := by
      rw [List.lookup_eq_none_iff]
      rintro ⟨a, b⟩ hm
      have := (List.of_mem_zip (List.mem_reverse.mp hm)).1
      have ne : a ≠ p := fun z => (List.nodup_cons.mp nd).1 (z ▸ this)
      simpa using fun z => ne z.symm
    rw [List.lookup_append, hn]
    simp [List.lookup]
  | p :: ps, u0 :: us, i + 1, y, u, nd, h1, h2 => by
    rw [List.zip_cons_cons, List.reverse_cons, List.lookup_append, rev_lookup (i := i) (List.nodup_cons.mp nd).2 (by simpa using h1) (by simpa using h2)]
    rfl
theorem inv_lam {P : Program} {w : World} {K : PySem.W.Frag} {mg : Str → Option Value} {base : Heap} {N ps : List Str} {qual : Str} {scope : Scope} {f : Addr} {cd : Value} {cl : List (Str × Addr)} {fv : List V} {A : Around} {outer : List Env} {s : Shared} {H : Hp} {us : List Value} {vs : List V} {h1 : Heap} {tk : Tok}
    (S : LamSc N ps scope) (LC : LamCl base N ps scope cl fv) (hd : A.handled = none) (e0 : Env0 P w K mg base A outer s H) (hl : vs.length = ps.length) (r : Vals vs us)
    (hns : h1.Ns s.heap.objs.size (fun x => (ps.zip us).reverse.lookup x)) (hk : ∀ b o, s.heap.get? b = some o → h1.get? b = some o) :
    Inv (cxLam P w K mg base N qual scope f cd cl A outer s H) [] (vs.map some ++ fv.map some) H { s with heap := h1, toks := tk } := by
  have noA : ∀ b : Addr, b ∉ (cxLam P w K mg base N qual scope f cd cl A outer s H).ex := fun b z => absurd (show b ∈ ([] : List Addr) from z) (by simp)
  have bk : ∀ b o, base.get? b = some o → h1.get? b = some o := fun b o e => hk b o (e0.bs b o e).1
  have ndP : ps.Nodup := by rw [← S.pre]; exact S.nd.sublist (List.take_sublist _ _)
  have cellK : ∀ {c : Addr} {v : Option Value}, base.IsCell c v → h1.IsCell c v := fun ⟨o, e, d⟩ => ⟨o, bk _ _ e, d⟩
  refine ⟨⟨e0.mod, S.kind, rfl, rfl, Nat.le_refl _, fun y z c h1 h2 => LC.inj y z c h1 h2, fun y hy => ?_, fun y c z _ => (by cases z), fun _ => hd, Around.frames_deeper e0.frames, .inr ⟨rfl, rfl⟩, fun b z => absurd z (noA b), e0.bs, e0.bsz, fun b _ _ => noA b, fun b z => absurd z (noA b), e0.funs, e0.frf⟩,
    rfl, e0.bare, Un.kept hk, ⟨_, hns, fun i y v h1 h2 h3 => ?_⟩, fun y c h => ?_, e0.hok.fresh (Nat.le_refl _), fun y c h => ?_, fun p hp => absurd (show p ∈ ([] : List (Addr × Obj)) from hp) (by simp), e0.hok.kept hk, ?_⟩
  · have hy : scope.names.lookup y = some .cell ∨ scope.names.lookup y = some .free := hy
    rcases hy with hy | hy
    · exact absurd rfl (S.nocell _ (PySem.mem_of_lookup hy))
    · exact LC.has y hy
  · have h1 : N[i]? = some y := h1
    by_cases hi : i < vs.length
    · have ha : vs[i]? = some v := by
        rw [List.getElem?_append_left (by simpa using hi), List.getElem?_map] at h2
        cases e : vs[i]? with
        | none => rw [e] at h2; cases h2
        | some a => rw [e] at h2; cases h2; rfl
      obtain ⟨u, hu, rv⟩ := r.get ha
      have hp : ps[i]? = some y := by
        rw [← S.pre, List.getElem?_take_of_lt (by omega)]; exact h1
      exact ⟨u, rv, .inl ⟨S.par y (List.mem_of_getElem? hp), rev_lookup ndP hp hu⟩⟩
    · rw [List.getElem?_append_right (by simpa using hi), List.getElem?_map] at h2
      rw [List.length_map] at h2
      have ha : fv[i - vs.length]? = some v := by
        cases e : fv[i - vs.length]? with
        | none => rw [e] at h2; cases h2
        | some a => rw [e] at h2; cases h2; rfl
      have e : ps.length + (i - vs.length) = i := by omega
      obtain ⟨hf, c, u, hc, rv, hcell⟩ := LC.val (i - vs.length) y v (by rw [e]; exact h1) ha
      exact ⟨u, rv, .inr ⟨.inr hf, c, hc, cellK hcell⟩⟩
  · obtain ⟨v, z⟩ := LC.cell y c h
    exact ⟨v, cellK z⟩
  · obtain ⟨v, o, e, _⟩ := LC.cell y c h
    exact (e0.bs c o e).2
  · show _ = N.length
    rw [List.length_append, List.length_map, List.length_map, LC.len, hl]
theorem lam_ok {P : Program} {w : World} {K : PySem.W.Frag} {mg : Str → Option Value} {base : Heap} {k : Nat} {f c : Addr} {name qual : Str} {params : Arguments} {body : Expr} {scope : Scope} {cl : List (Str × Addr)} {pm ct : Value} {N ps : List Str} {fv : List V} {sp : Sp}
    (S : LamSc N ps scope) (LC : LamCl base N ps scope cl fv) (len : ∀ vs H Q E, sp vs H Q E → vs.length = ps.length)
    (hat : ∀ vs H Q E, sp vs H Q E → H f = some (FnO f (PySem.W.kla_fn name qual params body scope cl pm (.ref c) ct)) ∧ H c = some (CdO c qual))
    (hbody : ∀ (A : Around) (outer : List Env) (s : Shared) (H : Hp) (vs : List V) (Q : VK) (E : XK), Room k (A.deeper (PySem.W.envX qual scope s.heap.objs.size f (.ref c) cl)) → sp vs H Q E →
      ∃ t, PE (cxLam P w K mg base N qual scope f (.ref c) cl A outer s H) body t ∧ t (vs.map some ++ fv.map some) H Q) :
    FnOk P w K mg base CX0 (k + 1) f (PySem.W.kla_fn name qual params body scope cl pm (.ref c) ct) ps sp := by
  refine ⟨len, fun A outer s H args us vs Q E hr e0 hb r hsp => ?_⟩
  have hl := len _ _ _ _ hsp
  obtain ⟨hf, hc⟩ := hat _ _ _ _ hsp
  have lim : s.heap.NoLimit := e0.mod.nolimit.keeps fun b o e => (e0.bs b o e).1
  refine PySem.W.kla_callFunE hr.depth (FnO.at_ e0.hok hf) rfl S.co S.gen rfl (CdO.at_ e0.hok hc) (hb _ _ _ _ ?_)
  refine wpAny_newFunctionEnv S.nocell (fun y hy => S.par y.1 (List.of_mem_zip hy).1) (fun h1 hns hsb => ?_) S.kind
  have hk : ∀ b o, s.heap.get? b = some o → h1.get? b = some o := fun b o e => hsb.extBut b o (Nat.ne_of_lt (Heap.lt_size e)) (Heap.get?_push_of_some _ e)
  refine ⟨lim.keeps hk, PySem.W.kla_codeExpr ?_⟩
  obtain ⟨t, ht, hq⟩ := hbody A outer s H vs Q E (hr.deeper _) hsp
  have I : Inv (cxLam P w K mg base N qual scope f (.ref c) cl A outer s H) [] (vs.map some ++ fv.map some) H { s with heap := h1, toks := s.toks + (ps.zip us).length } := inv_lam S LC hr.hd e0 hl r hns hk
  refine wpAny_mono (ht [] _ _ H _ I hq) (fun u s' hs => ?_) fun e s' hs => hs.elim
  obtain ⟨v, H', J, rv, q⟩ := hs
  exact ⟨v, H', J.os, J.bare, J.base, J.hok, rv, q⟩
theorem Fun.okC {P : Program} {w : World} {K : PySem.W.Frag} {mg : Str → Option Value} {base : Heap} {x qual : Str} {st : Stmt} {f : Addr} {fd : FuncData} {N ps : List Str} {k : Nat} {sp : Sp} (F : Fun K x qual st f fd) (S : FnScope N ps (defScope st)) (len : ∀ vs H Q E, sp vs H Q E → vs.length = ps.length)
    (hbody : ∀ (A : Around) (outer : List Env) (s : Shared) (H : Hp) (vs : List V) (Q : VK) (E : XK), Room k (A.deeper (envOfC qual (defScope st) s.heap.objs.size f fd.code)) → sp vs H Q E →
      ∃ t, PSs (cxOf CX0 P w K mg base N qual (defScope st) f fd.code A outer s H E).nox (defBody st) t ∧ t { nx := fun _ H' => Q .non H', rt := Q } (start N vs) H) : FnOk P w K mg base CX0 (k + 1) f fd ps sp := by
  obtain ⟨oc, od, kV, doc, pm, an, cdv, ct, osl, rfl, lk, hcd⟩ := F.ex
  refine fn_of lk hcd S len fun A outer s H vs Q E hr hsp => ?_
  obtain ⟨t, h, q⟩ := hbody A outer s H vs Q E hr hsp
  exact ⟨t, h.nox, q⟩
theorem law_callT {P : Program} {w : World} {K : PySem.W.Frag} {mg mb : Str → Option Value} {CX : CXT} {k : Nat} {fa a : Addr} {fd : FuncData} {x : Str} {sp : Sp} {s₁ : Shared} {vs : List Value} {ns : List Int} {tabs : List (Addr × Addr)}
    (KX : K.In s₁.heap) (hns : s₁.heap.Ns mainGlobals mg) (hb : s₁.heap.Ns builtinsNs mb) (hbb : ∀ x : Str, x ≠ "__name__" → mb x = bootBuiltins x) (hlim : s₁.heap.NoLimit) (hg : s₁.gens = #[])
    (ha : s₁.heap.get? a = some { cls := .type "list", data := .seq vs.toArray }) (hi : IntsAre vs ns) (hl : ns.length ≤ sizeLine) (hr : Room k callerA) (hT : PySem.W.TabsAt tabs s₁.heap) (hK0 : PySem.W.noTabs K = true) (hBM : BltM mg s₁.heap)
    (F : ∀ base : Heap, K.In base → base.Ns mainGlobals mg → BltM mg base → FnOk P w K mg base CX k fa fd [x] sp) (hbind : ∀ (s : Shared) (u : Value), BindsTo s fd ⟨[u], []⟩ [(x, u)])
    (hsp : ∀ H : Hp, (∀ q ∈ tabs, H q.2 = some (.tbl #[])) → SqL K H a (ns.map V.int) → sp [.ref a] H (fun v _ => v = .bl true) fun _ _ _ => False)
    (hCX : ∀ H e s', CX [] H s₁ (fun _ _ _ => False) e s' → False) :
    codeAny (model P w) callerA (.call (.ref fa) ⟨[.ref a], []⟩) (fun r s' => r = .ok (.ret (.bool true)) ∧ OldK s₁.heap s'.heap ∧ s'.os = s₁.os ∧ AllBare s'.gens) s₁ := by
  have rv := vals_ints hi
  have lenV := hi.length
  have core : ∀ H : Hp, (∀ b, H b = none ∨ (∃ o xs, H b = some (.frz o (.lst xs)) ∧ b = a) ∨ (H b = some (.tbl #[]) ∧ ∃ q ∈ tabs, q.2 = b)) → (∀ q ∈ tabs, H q.2 = some (.tbl #[])) → SqL K H a (ns.map V.int) → HOk P w H s₁.heap → (∀ o xs, H a = some (.frz o (.lst xs)) → K.lookup a = none) →
      codeAny (model P w) callerA (.call (.ref fa) ⟨[.ref a], []⟩) (fun r s' => r = .ok (.ret (.bool true)) ∧ OldK s₁.heap s'.heap ∧ s'.os = s₁.os ∧ AllBare s'.gens) s₁ := by
    intro H hO hTb hS hok hK
    have base_of : ∀ {b : Addr} {o : Obj}, s₁.heap.get? b = some o → H b = none → (hidT s₁.heap H).get? b = some o := fun e n => hidT_get e n
    have noA : ∀ {b : Addr} {o : Obj}, s₁.heap.get? b = some o → (∀ xs n, o.data ≠ .seq xs n) → (∀ xs, o.data ≠ .fields xs) → H b = none := fun {b o} e d1 d2 => by
      rcases hO b with z | ⟨ob, xs, z, rfl⟩ | ⟨z, _⟩
      · exact z
      · rw [ha] at e; cases e
        exact absurd rfl (d1 _ _)
      · have := hok b _ z
        rw [show s₁.heap.get? b = some (PySem.W.tabObj #[]) from this] at e
        cases e
        exact absurd rfl (d2 _)
    have nsK : ∀ {b : Addr} {m : Str → Option Value}, s₁.heap.Ns b m → (hidT s₁.heap H).Ns b m := fun {b m} ⟨o, es, ep, e, d, r⟩ => ⟨o, es, ep, base_of e (noA e (fun _ _ z => by rw [d] at z; cases z) fun _ z => by rw [d] at z; cases z), d, r⟩
    have hKb : K.In (hidT s₁.heap H) := fun b o e => base_of (KX b o e) (by
      rcases hO b with z | ⟨ob, xs, z, rfl⟩ | ⟨z, _⟩
      · exact z
      · rw [hK _ _ z] at e; cases e
      · have e2 : s₁.heap.get? b = some (PySem.W.tabObj #[]) := hok b _ z
        have e3 := KX b o e
        rw [e2] at e3
        cases e3
        have h2 := List.all_eq_true.mp hK0 _ (PySem.W.mem_of_lookupK e)
        exact absurd (show false = true from h2) Bool.false_ne_true)
    have hBb : BltM mg (hidT s₁.heap H) := by
      obtain ⟨bm, ob, b1, b2, b3, b4, b5, b6⟩ := hBM
      exact ⟨bm, ob, b1, b2, base_of b3 (noA b3 (fun _ _ z => by rw [b6] at z; cases z) fun _ z => by rw [b6] at z; cases z), b4, b5, b6⟩
    have hM : Mod K mg (hidT s₁.heap H) := ⟨hKb, nsK hns, ⟨mb, nsK hb, hbb⟩, let ⟨mc, h1, h2⟩ := hlim; ⟨mc, nsK h1, h2⟩⟩
    have e0 : Env0 P w K mg (hidT s₁.heap H) callerA [] s₁ H := ⟨rfl, hM, fun b o e => of_hidT e, Nat.le_of_eq (hidT_size _ _), trivial, fun b hb => absurd (show b ∈ ([] : List Addr) from hb) (by simp), hok, .of_eq hg⟩
    refine codeAny_mono ((F _ hKb (nsK hns) hBb).run callerA [] s₁ H ⟨[.ref a], []⟩ [.ref a] [.ref a] _ _ hr e0 (hbind s₁ (.ref a)) (.cons rfl .nil) (hsp H hTb hS)) fun r s' h => ?_
    cases r with
    | error e => exact (hCX H e s' h).elim
    | ok fl =>
      cases fl with
      | next => exact False.elim h
      | brk => exact False.elim h
      | cont => exact False.elim h
      | ret u =>
        obtain ⟨v, H', os, bare, un, hok', r', q⟩ := h
        have q' : v = .bl true := q
        subst q'
        obtain rfl : u = Value.bool true := r'
        refine ⟨rfl, ⟨fun b o e => ?_, fun b o e => un.there b o e (by simp)⟩, os, bare⟩
        rcases hO b with z | ⟨ob, xs, z, _⟩ | ⟨z, q, hq, rfl⟩
        · exact .inl (un.keep b o e z (by intro z; exact absurd (show b ∈ ([] : List Addr) from z) (by simp)) (by simp))
        · have z2 := un.frzs b ob _ z
          obtain ⟨e1, _⟩ := hok b _ z
          obtain ⟨e2, _⟩ := hok' b _ z2
          rw [e] at e1; cases e1
          exact .inl e2
        · obtain ⟨more, z2⟩ := un.tbls _ _ z
          have e1 : s₁.heap.get? q.2 = some (PySem.W.tabObj #[]) := (hT q hq).2
          rw [e] at e1
          cases e1
          exact .inr (.inl ⟨((hT q hq).1.tab (hT q hq).2).isCodeTable, rfl, #[], more, rfl, hok' _ _ z2⟩)
  have hTa : ∀ q ∈ tabs, q.2 ≠ a := fun q hq z => by
    have e := (hT q hq).2
    rw [z, ha] at e
    cases e
  cases hk : K.lookup a with
  | some o =>
    have e := KX a o hk
    rw [ha] at e
    cases e
    refine core (fun b => if b ∈ tabs.map (·.2) then some (.tbl #[]) else none) (fun b => ?_) (fun q hq => if_pos (List.mem_map_of_mem hq)) (.inr ⟨_, vs.toArray, _, hk, rfl, rfl, rfl, by rw [List.size_toArray, lenV]; exact hl, by simpa using rv⟩) (fun b u z => ?_) (fun o xs z => ?_)
    · by_cases hb : b ∈ tabs.map (·.2)
      · obtain ⟨q, hq, e⟩ := List.mem_map.mp hb
        exact .inr (.inr ⟨if_pos hb, q, hq, e⟩)
      · exact .inl (if_neg hb)
    · by_cases hb : b ∈ tabs.map (·.2)
      · have z' := (if_pos hb).symm.trans z
        cases z'
        obtain ⟨q, hq, rfl⟩ := List.mem_map.mp hb
        exact (hT q hq).2
      · have z' := (if_neg hb).symm.trans z
        cases z'
    · by_cases hb : a ∈ tabs.map (·.2)
      · have z' := (if_pos hb).symm.trans z
        cases z'
      · have z' := (if_neg hb).symm.trans z
        cases z'
  | none =>
    refine core (fun b => if b = a then some (.frz { cls := .type "list", data := .seq vs.toArray } (.lst (ns.map V.int))) else if b ∈ tabs.map (·.2) then some (.tbl #[]) else none) (fun b => ?_) (fun q hq => (if_neg (hTa q hq)).trans (if_pos (List.mem_map_of_mem hq))) (.inl (.inr ⟨{ cls := .type "list", data := .seq vs.toArray }, if_pos rfl⟩)) (fun b u z => ?_) (fun _ _ _ => hk)
    · by_cases hb : b = a
      · exact .inr (.inl ⟨_, _, if_pos hb, hb⟩)
      · by_cases hb2 : b ∈ tabs.map (·.2)
        · obtain ⟨q, hq, e⟩ := List.mem_map.mp hb2
          exact .inr (.inr ⟨(if_neg hb).trans (if_pos hb2), q, hq, e⟩)
        · exact .inl ((if_neg hb).trans (if_neg hb2))
    · by_cases hb : b = a
      · have z' := (if_pos hb).symm.trans z
        cases z'
        subst hb
        exact ⟨ha, by rw [List.length_map]; exact hl, vs, _, rv, ha⟩
      · have z := (if_neg hb).symm.trans z
        by_cases hb2 : b ∈ tabs.map (·.2)
        · have z' := (if_pos hb2).symm.trans z
          cases z'
          obtain ⟨q, hq, rfl⟩ := List.mem_map.mp hb2
          exact (hT q hq).2
        · have z' := (if_neg hb2).symm.trans z
          cases z'
def TabTop (q : Program) (K : PySem.W.Frag) (h : Heap) : Prop := ∀ (x : Str) (d : DefRec) (c P : Addr), (recsOf q).find? (fun e => e.name == x) = some d → PySem.W.tabIn K x = some (c, P) → PySem.W.CodeHd h c P ∧ h.get? P = some (PySem.W.tabObj #[])
theorem walk_ofT {l : PySem.W.OpenLaw} {n k : Nat} {q : Program} {loose : List Str} {XP : (Str → Option Value) → Heap → Prop} {YP : World → Heap → Prop} {d : DefRec} {K : Params → PySem.W.Frag} {CX : World → CXT} {sp : World → List (Addr × Addr) → Sp} {x : Str}
    (hn : l.most = some n) (hn2 : n ≤ sizeLine) (hdf : d.params.defaults = []) (hr : Room k callerA)
    (hY : ∀ (w : World) (h : Heap), YP w h → (K w.params).In h)
    (F : ∀ (w : World) (mg : Str → Option Value) (fa : Addr) (h : Heap), (K w.params).In h → h.Ns mainGlobals mg → mg d.name = some (.ref fa) → TabTop q (K w.params) h →
      PySem.W.noTabs (K w.params) = true ∧ ∃ (fd : FuncData) (tabs : List (Addr × Addr)), PySem.W.TabsAt tabs h ∧ (∀ (s : Shared) (u : Value), BindsTo s fd ⟨[u], []⟩ [(x, u)]) ∧
        ∀ base : Heap, (K w.params).In base → base.Ns mainGlobals mg → BltM mg base → FnOk l.prog w (K w.params) mg base (CX w) k fa fd [x] (sp w tabs))
    (hsp : ∀ (w : World) (tabs : List (Addr × Addr)) (H : Hp) (a : Addr) (ns : List Int), ns.length ≤ n → (∀ q ∈ tabs, H q.2 = some (.tbl #[])) → SqL (K w.params) H a (ns.map V.int) → sp w tabs [.ref a] H (fun v _ => v = .bl true) fun _ _ _ => False)
    (hCX : ∀ (w : World) (H : Hp) (s : Shared) (e : Value) (s' : Shared), CX w [] H s (fun _ _ _ => False) e s' → False) :
    PySem.W.WalkO q loose XP YP l.row.toRowW d [] (fun f vs => PySem.call f vs) := by
  refine Att.attach_call hn hdf fun w s₀ s₁ mg mb fa o pm cd doc a vs ns G Y ho hd hcd hmg hobj hints hlen hg => ?_
  have KX := hY w _ Y
  obtain ⟨h0, fd, tabs, hT, hb, hF⟩ := F w mg fa _ KX G.T.g hmg (fun x d c P hr ht => PySem.W.tab_of G.T KX hr ht)
  exact law_callT KX G.T.g G.T.b G.T.builtins G.T.nolimit hg hobj hints (Nat.le_trans hlen hn2) hr hT h0 G.T.bmain hF hb (fun H hO hS => hsp w tabs H a ns hlen hO hS) fun H e s' => hCX w H s₁ e s'
theorem tabIn_of {K : PySem.W.Frag} {x : Str} {f c P : Addr} {oc oc' : Value} {od od' : Option Addr} {sl sl' : Array (Option Value)} {fd : FuncData} {vs : Array Value} (a : PySem.W.nsIn K mainGlobals x = some (some (.ref f))) (l : K.lookup f = some ⟨oc, od, .func fd, sl⟩) (y : fd.code = .ref c)
    (v : K.lookup c = some ⟨oc', od', .fields vs, sl'⟩) (u : vs[11]? = some (.ref P)) : PySem.W.tabIn K x = some (c, P) := by
  unfold PySem.W.tabIn
  rw [a]
  dsimp only
  rw [l]
  dsimp only
  rw [y]
  dsimp only
  rw [v]
  dsimp only
  rw [u]
theorem head_of {K : PySem.W.Frag} {h base : Heap} {c P : Addr} {o : Obj} (C : PySem.W.CodeHd h c P) (X : K.In h) (B : K.In base) (lk : K.lookup c = some o) : PySem.W.CodeHd base c P := by
  obtain ⟨o', vs, file, tf, flags, tg, inF, text, tt, e, r⟩ := C
  have := X c o lk
  rw [this] at e
  cases e
  exact ⟨o, vs, file, tf, flags, tg, inF, text, tt, B c o lk, r⟩
end L2
namespace L2
open PySem PySem.Spec PyProof.Rows
theorem str_no_rev : typeLookup (.type "str") "__reversed__" = pure none := by rw [typeLookup_type, builtinLookup_eq_fast]; kernel_rfl
theorem sub_str_dict : isSubtype (.type "str") (.type "dict") = pure false := by rw [isSubtype_type]; kernel_rfl
def rsO (x : Str) (t : Tok) (i : Int) : Obj := { cls := .type "reversed", data := .fields #[.str x t, rawInt i] }
def RsAt (h : Heap) (a : Addr) (x : Str) (i : Int) : Prop := ∃ o t, h.get? a = some o ∧ o.cls = .type "reversed" ∧ o.data = .fields #[.str x t, rawInt i]
theorem RsAt.to {h h' : Heap} {a : Addr} {x : Str} {i : Int} (y : RsAt h a x i) (e : ∀ o, h.get? a = some o → h'.get? a = some o) : RsAt h' a x i := let ⟨o, t, q, r⟩ := y; ⟨o, t, e _ q, r⟩
section
variable {P : Program} {w : World} {A : Around} {E : Value → Shared → Prop} {s : Shared} {r : Addr} {x : Str}
theorem RsAt.typeIs {i : Int} (y : RsAt s.heap r x i) : s.TypeIs (.ref r) "reversed" := let ⟨o, _, q, c, _⟩ := y; ⟨o, q, c⟩
theorem meets_rs (x : Str) (t : Tok) (hz : x.length ≤ sizeLine) : MeetsIn P w (Builtin.«reversed.__new__» ⟨[.type "reversed", .str x t], []⟩) (fun _ R s =>
    ∀ tk, R (.ok (.ret (.ref s.heap.objs.size))) { s with heap := s.heap.push (rsO x t ((x.length : Int) - 1)), toks := tk }) := .of_wp fun A R s h => by
  have hT : s.TypeIs (.str x t) "str" := typeIs_str s x t
  have l63 := line63
  unfold Builtin.«reversed.__new__»
  refine wpAny_bind (wpAny_of_eq (newClass_reversed _) ?_)
  try dsimp only
  refine wpAny_bind (wpAny_of_eq (a := ()) (by first | rfl | kernel_rfl) (wpAny_bind (wpAny_of_eq (a := ()) (by first | rfl | kernel_rfl) ?_)))
  try dsimp only
  refine wpAny_bind (wpAny_specialOf hT str_no_rev ?_)
  try dsimp only
  refine wpAny_bind ?_
  wp_delta
  refine wpAny_bind (wpAny_isInstance (T := "str") (b := false) hT sub_str_dict ?_)
  refine wpAny_bind (wpAny_specialOf hT PySem.F.slot_str_getitem.lookup ?_)
  try dsimp only
  rw [if_pos (by decide)]
  refine wpAny_pure ?_
  refine wpAny_bind (PySem.P.len_str (by omega) ?_)
  refine wpAny_bind (wpAny_pure ?_)
  refine wpAny_bind (m := Builtin.SmallTypes.newRecord _ _) ?_
  unfold Builtin.SmallTypes.newRecord
  exact wpAny_newObj_type (wpAny_pure ⟨_, rfl, h _⟩)
theorem call_rs {t : Tok} {Q : Value → Shared → Prop} (hz : x.length ≤ sizeLine) (h : ∀ tk, Q (.ref s.heap.objs.size) { s with heap := s.heap.push (rsO x t ((x.length : Int) - 1)), toks := tk }) : wpAny (model P w) A (call (.type "reversed") [.str x t]) Q E s :=
  callType_newIn called_rv (by decide) (PySem.F.typeCall_reversed_1 _) (PySem.F.newCall_reversed_1 _) (fun obj => PySem.F.args_object_init_2 obj _) PySem.F.entry_reversed_new (meets_rs x t hz) (fun tk => ⟨⟨_, Heap.get?_push_size _ rfl, rfl⟩, h tk⟩)
theorem next_rs {i : Nat} {c : Nat} {Q : Option Value → Shared → Prop} (hr : RsAt s.heap r x (i : Int)) (hz : x.length ≤ sizeLine) (hx : x.cps[i]? = some c)
    (h : ∀ h' u tk, RsAt h' r x ((i : Int) - 1) → Heap.SameBut r s.heap h' → Q (some (.str ⟨#[c]⟩ u)) { s with heap := h', toks := tk }) : wpAny (model P w) A (pyNext (.ref r)) Q E s := by
  obtain ⟨o, t, g, cl, d⟩ := id hr
  have hT := hr.typeIs
  have l63 := line63
  have hi : i < x.length := (Array.getElem?_eq_some_iff.mp hx).1
  unfold pyNext
  refine wpAny_bind (wpAny_attempt (wpAny_callSpecial?_slot (name := Str.ofString "__next__") hT slot_rv_next (wpAny_call_entry slot_rv_next hT entry_rv_next ?_ (args_rv_next _))))
  unfold Builtin.«reversed.__next__»
  refine wpAny_bind (wpAny_of_eq (a := (Value.ref r, [])) rfl ?_)
  try dsimp only
  refine wpAny_bind (wpAny_field g d (x := .str x t) rfl (wpAny_bind (wpAny_field g d (x := rawInt (i : Int)) rfl ?_)))
  show wpAny _ _ (if (i : Int) < 0 then _ else _) _ _ s
  rw [if_neg (by omega)]
  refine wpAny_bind (wpAny_specialOf (typeIs_str s x t) PySem.F.slot_str_getitem.lookup ?_)
  rw [if_neg (by simp)]
  refine wpAny_bind (wpAny_mkInt (wpAny_bind (wpAny_attempt (PySem.P.getItem_str (c := c) ?_ ?_ ?_))))
  · have h1 : decide ((i : Int) < -(2 ^ 63 : Int)) = false := decide_eq_false (by omega)
    have h2 : decide ((i : Int) ≥ 2 ^ 63) = false := decide_eq_false (by omega)
    rw [h1, h2]
    rfl
  · have e : ¬ ((i : Int) < 0) := by omega
    unfold seqIndex?
    simp only [e, if_false]
    simp [hi, hx]
  try dsimp only
  refine wpAny_bind (wpAny_field g d (x := rawInt (i : Int)) rfl ?_)
  dsimp only [rawInt]
  refine wpAny_bind (wpAny_setField g d (by simp) (wpAny_pure ⟨_, rfl, wpAny_pure (h _ _ _ ?_ (Heap.SameBut.update ..))⟩))
  exact ⟨_, t, Heap.get?_update_self _ g (Obj.isFreed_of_fields (Obj.data_mapFields d _)), (Obj.cls_mapFields ..).trans cl, by rw [Obj.data_mapFields d]; simp [rawInt]⟩
theorem end_rs {Q : Option Value → Shared → Prop} (hh : A.handled = none) (hr : RsAt s.heap r x (-1)) (h : ∀ h', Heap.ExtBut r s.heap h' → (∃ o, h'.get? r = some o) → Q none { s with heap := h' }) : wpAny (model P w) A (pyNext (.ref r)) Q E s := by
  obtain ⟨o, t, g, c, d⟩ := id hr
  have hT := hr.typeIs
  unfold pyNext
  refine wpAny_bind (wpAny_attempt (wpAny_callSpecial?_slot (name := Str.ofString "__next__") hT slot_rv_next (wpAny_call_entry slot_rv_next hT entry_rv_next ?_ (args_rv_next _))))
  unfold Builtin.«reversed.__next__»
  refine wpAny_bind (wpAny_of_eq (a := (Value.ref r, [])) rfl ?_)
  try dsimp only
  refine wpAny_bind (wpAny_field g d (x := .str x t) rfl (wpAny_bind (wpAny_field g d (x := rawInt (-1)) rfl ?_)))
  show wpAny _ _ (if (-1 : Int) < 0 then _ else _) _ _ s
  rw [if_pos (by decide)]
  refine wpAny_bind (wpAny_rule (wpAny_bind ?_))
  wp_delta
  refine wpAny_bind (wpAny_setField g d (by simp) ?_)
  have d1 : ∀ f : Array Value → Array Value, (Obj.mapFields f o).data = .fields (f #[.str x t, rawInt (-1)]) := fun f => Obj.data_mapFields d f
  have g1 := fun f => Heap.get?_update_self (h := s.heap) (Obj.mapFields f) g (Obj.isFreed_of_fields (d1 f))
  refine wpAny_setField (g1 _) (d1 _) (by simp) ?_
  refine wpAny_bind ?_
  unfold Builtin.SmallTypes.stopIteration
  refine wpAny_bind ?_
  simp only [newExc, newTuple]
  refine wpAny_bind (wpAny_newObj_type (wpAny_bind (m := firstArgMember _ _) (wpAny_of_eq (a := Value.none) (by first | rfl | (simp only [firstArgMember]; rfl)) (wpAny_newObj_type ?_ (by size_fits)))) (by size_fits))
  simp only [raiseNew]
  refine wpAny_bind (wpAny_handled ?_)
  rw [show A.in1.handled = none from hh]
  refine wpAny_bind (wpAny_pure (wpAny_throw ?_))
  refine wpAny_bind (wpAny_isInstance (T := "StopIteration") (b := true) ⟨_, Heap.get?_push_size _ rfl, rfl⟩ isSubtype_stop (wpAny_pure (h _ (fun b o' hb e => ?_) ?_)))
  · exact Heap.get?_push_of_some _ (Heap.get?_push_of_some _ ((Heap.get?_update_other _ _ (Ne.symm hb)).trans ((Heap.get?_update_other _ _ (Ne.symm hb)).trans e)))
  · exact ⟨_, Heap.get?_push_of_some _ (Heap.get?_push_of_some _ (Heap.get?_update_self _ (g1 _) (Obj.isFreed_of_fields (Obj.data_mapFields (d1 _) _))))⟩
theorem iter_rs {i : Int} {Q : Value → Shared → Prop} (hr : RsAt s.heap r x i) (h : Q (.ref r) s) : wpAny (model P w) A (pyIter (.ref r)) Q E s := by
  refine wpAny_pyIter_slot hr.typeIs slot_rv_iter (wpAny_call_entry slot_rv_iter hr.typeIs entry_rv_iter ?_ (args_rv_iter _))
  exact (show wpAny _ _ (ret (.ref r)) _ _ s from wpAny_pure ⟨_, rfl, "reversed", _, hr.typeIs, slot_rv_next.lookup, h⟩)
theorem hint_rs {Q : Bool → Shared → Prop} (hr : RsAt s.heap r x ((x.length : Int) - 1)) (hz : x.length ≤ sizeLine) (h : ∀ b tk, Q b { s with toks := tk }) : wpAny (model P w) A (Builtin.List.listLengthHint (.ref r)) Q E s := by
  obtain ⟨o, t, g, c, d⟩ := id hr
  have hT := hr.typeIs
  have l63 := line63
  unfold Builtin.List.listLengthHint
  refine wpAny_bind (wpAny_specialOf hT rv_no_len ?_)
  refine (show wpAny _ _ (specialOf (Value.ref r) (Str.ofString "__length_hint__") >>= _) _ _ _ from wpAny_bind (wpAny_specialOf hT slot_rv_hint.lookup ?_))
  generalize hid : ("reversed.__length_hint__" : String) = id0
  wp_delta
  rw [show splitId id0 = some ("reversed", "__length_hint__") from by subst hid; decide +kernel]
  subst hid
  refine wpAny_bind (wpAny_isInstance (T := "reversed") (b := true) hT sub_rv_rv ?_)
  refine wpAny_ite_split (fun hab => absurd hab (by decide)) (fun _ => ?_)
  refine wpAny_ite_split (fun hab => absurd hab (by decide +kernel)) (fun _ => ?_)
  refine wpAny_bind (wpAny_rule ?_)
  refine wpAny_bind (wpAny_of_eq (slot_rv_hint.bind _) ?_)
  try dsimp only
  refine wpAny_bind (wpAny_attempt (wpAny_call_entry slot_rv_hint hT entry_rv_hint ?_ (args_rv_hint _)))
  unfold Builtin.«reversed.__length_hint__»
  refine wpAny_bind (wpAny_of_eq (a := Value.ref r) rfl ?_)
  refine wpAny_bind (wpAny_field g d (x := .str x t) rfl ?_)
  show wpAny _ _ (if (Value.str x t == Value.none) = true then _ else _) _ _ s
  rw [if_neg (fun z => nomatch z)]
  refine wpAny_bind (PySem.P.len_str (by omega) ?_)
  refine wpAny_bind (wpAny_pure ?_)
  try dsimp only
  refine wpAny_bind (wpAny_field g d (x := rawInt ((x.length : Int) - 1)) rfl ?_)
  dsimp only [rawInt]
  rw [if_neg (by omega)]
  refine wpAny_bind (wpAny_mkInt (wpAny_pure ⟨_, rfl, ?_⟩))
  have e0 : (x.length : Int) - 1 + 1 = (x.length : Int) := by omega
  rw [e0]
  have ea : ∀ (i : Int) (u : Tok), asInt? (Value.int i u) = pure (some i) := fun _ _ => rfl
  simp only [ea, pure_bind]
  have f1 : Builtin.List.listFitsIndex (x.length : Int) = true := by
    unfold Builtin.List.listFitsIndex
    rw [Bool.and_eq_true]
    exact ⟨decide_eq_true (by omega), decide_eq_true (by omega)⟩
  have f2 : Builtin.List.listTooLong (x.length : Int).toNat = false := decide_eq_false (by rw [Int.toNat_natCast]; omega)
  rw [f1, if_neg (by decide), if_neg (by omega), f2, if_neg (by decide)]
  exact wpAny_pure (h _ _)
def RsSign (x : Str) (i : Nat) (v : Value) : Prop := ∃ c u, x.cps[x.length - 1 - i]? = some c ∧ v = .str ⟨#[c]⟩ u
theorem walks_rs (hh : A.handled = none) (r : Addr) (x : Str) (hz : x.length ≤ sizeLine) : Walks P w A r [r] [r] x.length (RsSign x) (fun i h => i ≤ x.length ∧ RsAt h r x ((x.length : Int) - 1 - (i : Int))) where
  sub := fun b hb => hb
  frame := fun _ _ _ y hk => ⟨y.1, y.2.to (hk r (by simp))⟩
  item := fun i s Q E hi y hQ => by
    have hit := y.2
    rw [show (x.length : Int) - 1 - (i : Int) = ((x.length - 1 - i : Nat) : Int) by omega] at hit
    have hl : x.length = x.cps.size := rfl
    have hx : x.cps[x.length - 1 - i]? = some (x.cps[x.length - 1 - i]'(by omega)) := Array.getElem?_eq_getElem (by omega)
    refine next_rs hit hz hx fun h' u tk hit' hs' => ?_
    rw [show ((x.length - 1 - i : Nat) : Int) - 1 = (x.length : Int) - 1 - ((i + 1 : Nat) : Int) by omega] at hit'
    exact hQ _ h' tk ⟨_, u, hx, rfl⟩ ⟨hi, hit'⟩ fun b o hb eo => hs'.extBut b o (fun z => hb (by simp [z])) eo
  done := fun s Q E y hQ => by
    have hit := y.2
    rw [show (x.length : Int) - 1 - (x.length : Int) = -1 by omega] at hit
    exact end_rs hh hit fun h' he _ => hQ h' s.toks fun b o hb eo => he b o (fun z => hb (by simp [z])) eo
  self := fun _ _ _ _ y hQ => iter_rs y.2 hQ
theorem ext_rs {R : Result → Shared → Prop} {S : Addr} {res : Value} {c₀ : Nat} (hh : A.handled = none) (hr : RsAt s.heap r x ((x.length : Int) - 1)) (hz : x.length ≤ sizeLine) (hSr : S ≠ r)
    (hS : s.heap.get? S = some { cls := .type "list", data := .seq #[] c₀ })
    (hR : ∀ h' tk acc c, (∀ b o, b ≠ S → b ≠ r → s.heap.get? b = some o → h'.get? b = some o) → h'.get? S = some { cls := .type "list", dict := none, data := .seq acc c, slots := #[] } → ItemsOf (RsSign x) acc x.length → R (.ok (.ret res)) { s with heap := h', toks := tk }) :
    wpAny (model P w) A.in1 (Builtin.List.listExtendWith (.ref S) (.ref r) res) (fun fin s' => match fin with | .done f => R (.ok f) s' | .again c' => c'.quiet = true ∧ codeAny (model P w) A c' R s') (fun e s' => R (.error e) s') s := by
  have W := walks_rs (P := P) (w := w) (A := A.in1) hh r x hz
  have hSf : S ∉ [r] := fun z => hSr (List.mem_singleton.mp z)
  have hr0 : RsAt s.heap r x ((x.length : Int) - 1 - ((0 : Nat) : Int)) := by simpa using hr
  have key : ∀ (h : Heap) (c₁ tk : Nat), (∀ b o, b ≠ S → s.heap.get? b = some o → h.get? b = some o) → h.get? S = some { cls := .type "list", data := .seq #[] c₁ } → codeAny (model P w) A (.builtin "list.extend.loop" ⟨[.ref S, .ref r, res], []⟩) R { s with heap := h, toks := tk } := by
    intro h c₁ tk hk hS₁
    refine codeAny_extend_loopS W.toS hz S hSf res x.length 0 _ #[] c₁ rfl (Nat.zero_le _) ⟨Nat.zero_le _, (hr0.to fun o e => hk r o hSr.symm e)⟩ hS₁ (ItemsOf.nil _) fun s' acc' c' hm hS' hacc => ?_
    rw [Moved.eq_with hm]
    refine hR s'.heap s'.toks acc' c' (fun b o hb hb2 e => hm.heap b o (fun z => ?_) (hk b o hb e)) hS' hacc
    rcases List.mem_cons.mp z with z | z
    · exact hb z
    · exact hb2 (List.mem_singleton.mp z)
  unfold Builtin.List.listExtendWith
  refine wpAny_bind (wpAny_typeOf (T := "reversed") hr.typeIs ?_)
  have h1 : Builtin.List.listSameRef (.ref S) (.ref r) = false := by simp [Builtin.List.listSameRef, hSr]
  have h2 : (Value.type "reversed" == Value.type "list") = false := by decide
  have h3 : (Value.type "reversed" == Value.type "tuple") = false := by decide
  simp only [h1, h2, h3, Bool.or_false, Bool.false_eq_true, if_false]
  refine wpAny_bind (iter_rs hr (wpAny_bind (wpAny_holding (hint_rs hr hz fun b tk => ?_))))
  refine wpAny_ite_split (fun _ => wpAny_bind (wpAny_rule (wpAny_bind ?_))) (fun _ => wpAny_pure ⟨plainId_quiet PySem.F.plain_extend_loop _, key _ c₀ _ (fun b o _ e => e) hS⟩)
  show wpAny _ _ (updateSeq S (·.push .none) >>= fun _ => updateSeq S (·.pop)) _ _ _
  refine wpAny_bind (wpAny_updateSeq hS rfl ?_)
  have hS₂ := Heap.get?_update_self (Obj.mapSeq (·.push Value.none)) hS rfl
  refine wpAny_updateSeq (hz := by seq_fits) hS₂ rfl (wpAny_pure ⟨plainId_quiet PySem.F.plain_extend_loop _, key _ _ _ (fun b o hb e => ?_) (Heap.get?_update_self (Obj.mapSeq (·.pop)) hS₂ rfl)⟩)
  exact (Heap.get?_update_other _ _ (Ne.symm hb)).trans ((Heap.get?_update_other _ _ (Ne.symm hb)).trans e)
theorem list_rs {Q : Value → Shared → Prop} (hh : A.handled = none) (hr : RsAt s.heap r x ((x.length : Int) - 1)) (hz : x.length ≤ sizeLine)
    (hQ : ∀ h' tk acc c, (∀ b o, b ≠ r → s.heap.get? b = some o → h'.get? b = some o) → h'.get? s.heap.objs.size = some { cls := .type "list", dict := none, data := .seq acc c, slots := #[] } → ItemsOf (RsSign x) acc x.length → Q (.ref s.heap.objs.size) { s with heap := h', toks := tk }) :
    wpAny (model P w) A (call (.type "list") [.ref r]) Q E s := by
  have lr : r < s.heap.objs.size := let ⟨_, _, e, _⟩ := hr; Heap.lt_size e
  refine callType_codes (Q₁ := fun obj s₁ => obj = .ref s.heap.objs.size ∧ s₁ = { s with heap := s.heap.push { cls := .type "list", data := .seq #[] } }) PySem.F.called_list (PySem.F.typeCall_list_1 _) PySem.F.entry_list_init (code_list_new _ ⟨rfl, rfl⟩) fun obj s₁ h₁ => ?_
  obtain ⟨rfl, rfl⟩ := h₁
  have hS : (s.heap.push { cls := .type "list", data := .seq #[] }).get? s.heap.objs.size = some { cls := .type "list", data := .seq #[] } := Heap.get?_push_size _ rfl
  refine ⟨⟨_, hS, rfl⟩, PySem.F.args_list_init_2 _ _, ?_⟩
  show wpAny _ _ (do let old ← Builtin.List.listItems (.ref s.heap.objs.size); Builtin.List.listUpdate (.ref s.heap.objs.size) (fun _ => #[]); letGo old.toList.reverse; Builtin.List.listExtendWith (.ref s.heap.objs.size) (.ref r) .none) _ _ _
  refine wpAny_bind ?_
  unfold Builtin.List.listItems
  refine wpAny_bind (wpAny_seqItems hS rfl (wpAny_pure ?_))
  show wpAny _ _ (updateSeq s.heap.objs.size (fun _ => #[]) >>= fun _ => letGo (#[] : Array Value).toList.reverse >>= fun _ => Builtin.List.listExtendWith (.ref s.heap.objs.size) (.ref r) .none) _ _ _
  refine wpAny_bind (wpAny_updateSeq hS rfl (wpAny_bind (wpAny_letGo ?_)))
  have hS₂ := Heap.get?_update_self (Obj.mapSeq (fun _ => (#[] : Array Value))) hS rfl
  have oth : ∀ b o, b ≠ s.heap.objs.size → s.heap.get? b = some o → ((s.heap.push { cls := .type "list", data := .seq #[] }).update s.heap.objs.size (Obj.mapSeq (fun _ => (#[] : Array Value)))).get? b = some o :=
    fun b o hb e => (Heap.get?_update_other _ _ (Ne.symm hb)).trans (Heap.get?_push_of_some _ e)
  refine ext_rs (A := A.in1) hh (hr.to fun o e => oth r o (Nat.ne_of_lt lr) e) hz (Nat.ne_of_gt lr) hS₂ fun h' tk acc c hk hS' hacc => ?_
  exact ⟨rfl, hQ h' tk acc c (fun b o hb e => hk b o (Nat.ne_of_lt (Heap.lt_size e)) hb (oth b o (Nat.ne_of_lt (Heap.lt_size e)) e)) hS' hacc⟩
theorem collect_rs {Q : List Value → Shared → Prop} (hh : A.handled = none) (hr : RsAt s.heap r x ((x.length : Int) - 1)) (hz : x.length ≤ sizeLine)
    (hQ : ∀ h' tk acc, (∀ b o, b ≠ r → s.heap.get? b = some o → h'.get? b = some o) → ItemsOf (RsSign x) acc x.length → Q acc.toList { s with heap := h', toks := tk }) : wpAny (model P w) A (collect (.ref r)) Q E s := by
  have lr : r < s.heap.objs.size := let ⟨_, _, e, _⟩ := hr; Heap.lt_size e
  unfold collect
  refine wpAny_bind (wpAny_runValue (codeAny_builtin PySem.F.entry_proto_collect ?_))
  rw [Around.under_plainId PySem.F.plain_proto_collect _]
  show wpAny _ A.in1 (newList [] >>= fun l => again (.builtin "list.__iadd__" ⟨[l, .ref r], []⟩)) _ _ s
  refine wpAny_bind (wpAny_newObj_type ?_)
  refine wpAny_pure ⟨plainId_quiet PySem.F.plain_list_iadd _, codeAny_builtin PySem.F.entry_list_iadd ?_⟩
  rw [Around.under_plainId PySem.F.plain_list_iadd _]
  show wpAny _ A.in1 (Builtin.List.listExtendWith (.ref s.heap.objs.size) (.ref r) (.ref s.heap.objs.size)) _ _ _
  have hS : (s.heap.push { cls := .type "list", data := .seq ([] : List Value).toArray }).get? s.heap.objs.size = some { cls := .type "list", data := .seq #[] } := Heap.get?_push_size _ rfl
  refine ext_rs (s := { s with heap := s.heap.push { cls := .type "list", data := .seq ([] : List Value).toArray } }) (R := fun r s' => match r with
    | .ok (.ret v) => wpAny (model P w) A (match v with | .ref a => (do match (← load a).data with | .seq xs _ => pure xs.toList | _ => unsupported "internal:collect") | _ => unsupported "internal:collect") Q E s'
    | .ok _ => False
    | .error e => E e s') hh (hr.to fun o e => Heap.get?_push_of_some _ e) hz (Nat.ne_of_gt lr) hS fun h' tk acc c hk hS' hacc => ?_
  show wpAny _ A (load s.heap.objs.size >>= _) _ _ _
  refine wpAny_bind (wpAny_load hS' ?_)
  exact wpAny_pure (hQ h' tk acc (fun b o hb e => hk b o (Nat.ne_of_lt (Heap.lt_size e)) hb (Heap.get?_push_of_some _ e)) hacc)
theorem join_rs {z : Str} {t : Tok} {Q : Value → Shared → Prop} (hh : A.handled = none) (hr : RsAt s.heap r x ((x.length : Int) - 1)) (hz : x.length ≤ sizeLine) (hj : x.length + x.length * z.length ≤ 16777216)
    (hQ : ∀ h' tk u (ys : List Str), (∀ b o, b ≠ r → s.heap.get? b = some o → h'.get? b = some o) → ys = x.cps.toList.reverse.map (fun c => ⟨#[c]⟩) → Q (.str (Txt.join z ys) u) { s with heap := h', toks := tk }) :
    wpAny (model P w) A (call (.builtin "str.join") [.str z t, .ref r]) Q E s := by
  refine wpAny_call (codeAny_call_builtin PySem.F.slot_str_join.plain PySem.F.entry_str_join (PySem.F.slot_str_join.check _ _ _ _ _ _ _ _ (typeIs_str _ _ _) (PySem.F.args_str_join_2 _ _) ?_))
  rw [join_tree_other]
  refine wpAny_bind (wpAny_typeOf hr.typeIs ?_)
  show wpAny _ A.in1 ((pyIter (.ref r)).tryCatch _ >>= fun it => collect it >>= fun items => joinTail z items) _ _ s
  refine wpAny_bind (wpAny_tryCatch (iter_rs hr ?_))
  refine wpAny_bind (collect_rs hh hr hz fun h' tk acc hk hacc => ?_)
  obtain ⟨l, hl⟩ := exists_strValues acc.toList fun v hv => by
    obtain ⟨j, hj, rfl⟩ := Array.mem_iff_getElem.mp (Array.mem_toList_iff.mp hv)
    obtain ⟨c, u, _, e⟩ := hacc.2 j _ (Array.getElem?_eq_getElem hj)
    exact ⟨_, u, e⟩
  have hys : l.map (·.1) = x.cps.toList.reverse.map (fun c => (⟨#[c]⟩ : Str)) := by
    have hlen : l.length = x.length := by
      have := congrArg List.length hl
      unfold strValues at this
      rw [List.length_map] at this
      exact this.trans (Array.length_toList.trans hacc.1)
    refine List.ext_getElem? fun i => ?_
    rw [List.getElem?_map, List.getElem?_map]
    by_cases hi : i < l.length
    · have h1 : acc[i]? = some (.str l[i].1 l[i].2) := by
        rw [← Array.getElem?_toList, ← hl]
        unfold strValues
        rw [List.getElem?_map, List.getElem?_eq_getElem hi]
        rfl
      obtain ⟨c, u, e1, e2⟩ := hacc.2 i _ h1
      rw [List.getElem?_eq_getElem hi, List.getElem?_reverse (by rw [Array.length_toList]; show i < x.length; omega), Array.length_toList, Array.getElem?_toList]
      have e1' : x.cps[x.cps.size - 1 - i]? = some c := e1
      rw [e1']
      injection e2 with e3 _
      show some l[i].1 = some _
      rw [e3]
    · rw [List.getElem?_eq_none (by omega), List.getElem?_eq_none (by rw [List.length_reverse, Array.length_toList]; show x.length ≤ i; omega)]
      rfl
  rw [← hl]
  have hok : PySem.Builtin.Str.tooLong ((l.map (·.1)).toArray.foldl (fun a p => a + p.length + z.length) 0) = false := by
    have := StrLaws.joinFits (sep := z) (texts := l.map (·.1)) (B := 1) (fun y hy => by
      rw [hys] at hy
      obtain ⟨c, _, rfl⟩ := List.mem_map.mp hy
      exact Nat.le_refl _) (by
      rw [hys, List.length_map, List.length_reverse, Array.length_toList]
      have : x.cps.size = x.length := rfl
      rw [this]
      omega)
    unfold JoinOk at this
    simpa using this
  have g : Gives (joinTail z (strValues l)) (joinMade z l) := by
    have g0 := gives_joinTail z l hok
    cases l with
    | nil => exact g0
    | cons p r => cases r with
      | nil => exact g0
      | cons q r' => exact g0
  exact g P w A (wants Q E) _ (post_join l ⟨joinFit_length hok, fun t' k => by
    rw [hys]
    exact hQ h' k t' _ hk rfl⟩)
end
theorem signs_rs {x : Str} {acc : Array Value} (h : ItemsOf (RsSign x) acc x.length) : Vals (x.cps.toList.reverse.map oneS) acc.toList := by
  have key : ∀ (l : List Nat) (us : List Value), l.length = us.length → (∀ (i : Nat) (c : Nat), l[i]? = some c → ∃ u, us[i]? = some (Value.str ⟨#[c]⟩ u)) → Vals (l.map oneS) us := by
    intro l
    induction l with
    | nil =>
      intro us hl _
      cases us with
      | nil => exact .nil
      | cons _ _ => simp at hl
    | cons a l ih =>
      intro us hl hv
      cases us with
      | nil => simp at hl
      | cons u us =>
        obtain ⟨t, e⟩ := hv 0 a rfl
        have e' : u = .str ⟨#[a]⟩ t := by simpa using e
        refine .cons ⟨t, e'⟩ (ih us (by simpa using hl) fun i c hc => ?_)
        obtain ⟨t2, e2⟩ := hv (i + 1) c (by simpa using hc)
        exact ⟨t2, by simpa using e2⟩
  refine key _ _ (by rw [List.length_reverse, Array.length_toList, Array.length_toList, h.1]; rfl) fun i c hc => ?_
  have hi : i < x.cps.size := by
    have := (List.getElem?_eq_some_iff.mp hc).1
    rw [List.length_reverse, Array.length_toList] at this
    exact this
  rw [List.getElem?_reverse (by rw [Array.length_toList]; exact hi), Array.length_toList, Array.getElem?_toList] at hc
  have ha : i < acc.size := by rw [h.1]; exact hi
  obtain ⟨c2, u, e1, e2⟩ := h.2 i _ (Array.getElem?_eq_getElem ha)
  have e1' : x.cps[x.cps.size - 1 - i]? = some c2 := e1
  rw [hc] at e1'
  cases e1'
  exact ⟨u, by rw [Array.getElem?_toList, Array.getElem?_eq_getElem ha, e2]⟩
section
variable {X : Cx}
def tListRs (te : TE) : TE := fun σ H Q => te σ H fun x H1 => ∃ z, x = .str z ∧ z.length ≤ sizeLine ∧ ∀ l, H1 l = none → Q (.ref l) (upd H1 l (.lst (z.cps.toList.reverse.map oneS)))
theorem pe_listRs {e : Expr} {te : TE} {p p2 pos pos2 : Pos} (hc : X.calm = true) (hg : Gl X "list") (hm : X.mg "list" = none) (hg2 : Gl X "reversed") (hm2 : X.mg "reversed" = none) (he : PE X e te)
    (h1 : starEach [.Call (.Name "reversed" p2) [e] [] pos2] X.env = (false, eval (.Call (.Name "reversed" p2) [e] [] pos2) X.env) :: starEach [] X.env := by rfl)
    (h2 : starEach [e] X.env = (false, eval e X.env) :: starEach [] X.env := by rfl) : PE X (.Call (.Name "list" p) [.Call (.Name "reversed" p2) [e] [] pos2] [] pos) (tListRs te) := by
  intro pins s σ H Q I h
  refine wpAny_Call_Name_kw (ld_blt I hg hm bt_list ?_)
  refine PyProof.Rows.callWith_type1 ?_ h1 rfl
  rw [h1]
  show wpAny _ _ (spliced ((false, eval _ X.env) :: backTo pos (starEach [] X.env))) _ _ s
  refine Calls.spliced_cons (wpAny_Call_Name_kw (ld_blt I hg2 hm2 bt_reversed (PyProof.Rows.callWith_type1 (thn (pa_cons he pa_nil h2 pos2 pins s σ H (fun vs H1 => match vs with | [x] => ∃ z, x = .str z ∧ z.length ≤ sizeLine ∧ ∀ l, H1 l = none → Q (.ref l) (upd H1 l (.lst (z.cps.toList.reverse.map oneS))) | _ => False) I h) fun us s1 ⟨vs, H1, I1, r1, q1⟩ => ?_) h2 rfl)))
  obtain ⟨x0, e0, z, e1, hz, q⟩ : ∃ x0, vs = [x0] ∧ ∃ z, x0 = .str z ∧ z.length ≤ sizeLine ∧ ∀ l, H1 l = none → Q (.ref l) (upd H1 l (.lst (z.cps.toList.reverse.map oneS))) := by
    match vs, q1 with
    | [x0], q1 => exact ⟨x0, rfl, q1⟩
  subst e0 e1
  obtain ⟨u, rfl, t, rfl⟩ := vals1 r1
  refine call_rs hz fun tk => Calls.spliced_nil ?_
  refine list_rs (r := s1.heap.objs.size) (I1.ok.hd hc) ⟨_, t, Heap.get?_push_size _ rfl, rfl, rfl⟩ hz fun h' tk' acc c kp hD hacc => ?_
  have kp' : ∀ b o, s1.heap.get? b = some o → h'.get? b = some o := fun b o e => kp b o (Nat.ne_of_lt (Heap.lt_size e)) (Heap.get?_push_of_some _ e)
  have le : s1.heap.objs.size ≤ (s1.heap.push (rsO z t ((z.length : Int) - 1))).objs.size := by rw [Heap.size_push]; exact Nat.le_succ _
  exact ⟨.ref (s1.heap.push (rsO z t ((z.length : Int) - 1))).objs.size, _, I1.laid (t' := tk') kp' le (show ObjOk X.prog X.w _ h' _ (.lst (z.cps.toList.reverse.map oneS)) from ⟨by rw [List.length_map, List.length_reverse]; exact hz, acc.toList, c, signs_rs hacc, by rw [Array.toArray_toList]; exact hD⟩), rfl, q _ (I1.hok.fresh le)⟩
def tJoinRs (to te : TE) : TE := fun σ H Q => to σ H fun y H1 => ∃ z, y = .str z ∧ te σ H1 fun x H2 => ∃ t, x = .str t ∧ t.length ≤ sizeLine ∧ t.length + t.length * z.length ≤ 16777216 ∧ Q (.str (Txt.join z (t.cps.toList.reverse.map fun c => ⟨#[c]⟩))) H2
theorem pe_joinRs {o e : Expr} {to te : TE} {p2 pos2 apos cpos : Pos} (hc : X.calm = true) (hg2 : Gl X "reversed") (hm2 : X.mg "reversed" = none) (ho : PE X o to) (he : PE X e te)
    (hbase : attributeBase o "join" X.env (eval o X.env) = eval o X.env := by rfl)
    (h1 : starEach [.Call (.Name "reversed" p2) [e] [] pos2] X.env = (false, eval (.Call (.Name "reversed" p2) [e] [] pos2) X.env) :: starEach [] X.env := by rfl)
    (h2 : starEach [e] X.env = (false, eval e X.env) :: starEach [] X.env := by rfl)
    (hfew : ((backTo cpos (starEach [.Call (.Name "reversed" p2) [e] [] pos2] X.env)).all (fun x => !x.1) && (backToKw cpos (keywordEach [] X.env)).all (fun x => x.1.isSome)
      && decide ([Expr.Call (.Name "reversed" p2) [e] [] pos2].length + ([] : List Keyword).length + (if ([] : List Keyword).isEmpty then 0 else 1) < 30)) = true := by rfl)
    (hline : (apos.endLine == cpos.line) = true := by rfl) :
    PE X (.Call (.Attribute o "join" apos) [.Call (.Name "reversed" p2) [e] [] pos2] [] cpos) (tJoinRs to te) := by
  intro pins s σ H Q I h
  refine wpAny_Call_method_late hbase hfew hline rfl (thn (ho pins s σ H _ I h) fun v s1 ⟨x, H1, I1, r1, z, hx, q1⟩ => ?_)
  subst hx
  obtain ⟨tz, rfl⟩ := r1
  refine ⟨"str", _, PySem.F.plainAttrs_str, PySem.F.slot_str_join, PySem.F.type_str_join, typeIs_str _ _ _, (fun _ e => nomatch e), ?_⟩
  rw [h1]
  refine Calls.callWith_builtin rfl (Calls.evalArgs_plain ?_)
  show wpAny _ _ (spliced ((false, eval _ X.env) :: backTo cpos (starEach [] X.env))) _ _ s1
  refine Calls.spliced_cons (wpAny_Call_Name_kw (ld_blt I1 hg2 hm2 bt_reversed (PyProof.Rows.callWith_type1 (thn (pa_cons he pa_nil h2 pos2 pins s1 σ H1 (fun vs H2 => match vs with | [x] => ∃ t, x = .str t ∧ t.length ≤ sizeLine ∧ t.length + t.length * z.length ≤ 16777216 ∧ Q (.str (Txt.join z (t.cps.toList.reverse.map fun c => ⟨#[c]⟩))) H2 | _ => False) I1 q1) fun us s2 ⟨vs, H2, I2, r2, q2⟩ => ?_) h2 rfl)))
  obtain ⟨x0, e0, t, e1, hz, hj, q⟩ : ∃ x0, vs = [x0] ∧ ∃ t, x0 = .str t ∧ t.length ≤ sizeLine ∧ t.length + t.length * z.length ≤ 16777216 ∧ Q (.str (Txt.join z (t.cps.toList.reverse.map fun c => ⟨#[c]⟩))) H2 := by
    match vs, q2 with
    | [x0], q2 => exact ⟨x0, rfl, q2⟩
  subst e0 e1
  obtain ⟨u, rfl, tt, rfl⟩ := vals1 r2
  refine call_rs hz fun tk => Calls.spliced_nil ?_
  refine join_rs (r := s2.heap.objs.size) (I2.ok.hd hc) ⟨_, tt, Heap.get?_push_size _ rfl, rfl, rfl⟩ hz hj fun h' tk' u' ys kp hys => ?_
  have kp' : ∀ b o, s2.heap.get? b = some o → h'.get? b = some o := fun b o e => kp b o (Nat.ne_of_lt (Heap.lt_size e)) (Heap.get?_push_of_some _ e)
  subst hys
  exact ⟨.str _, H2, I2.kept (t' := tk') kp', ⟨_, rfl⟩, q⟩
end
end L2
namespace L2
open PySem PySem.Spec PyProof.Rows
structure BaseX (X : Cx) (σ : St) (base' : Heap) : Prop where
  sub : ∀ b o, X.base.get? b = some o → base'.get? b = some o
  inj : ∀ x y c, X.env.cells.lookup x = some c → X.env.cells.lookup y = some c → x = y
  has : ∀ x, (X.env.kindOf x = some .cell ∨ X.env.kindOf x = some .free) → ∃ c, X.env.cells.lookup x = some c
  cell : ∀ x c, X.env.cells.lookup x = some c → ∃ v, base'.IsCell c v
  val : ∀ (i : Nat) (x : Str) (v : V), X.N[i]? = some x → σ[i]? = some (some v) → (X.env.kindOf x = some .cell ∨ X.env.kindOf x = some .free) → ∃ u c, RelV v u ∧ X.env.cells.lookup x = some c ∧ base'.IsCell c (some u)
def isCellOf (X : Cx) (b : Addr) : Bool := X.env.cells.any fun p => p.2 == b && X.env.cells.lookup p.1 == some b
theorem isCellOf_iff {X : Cx} {b : Addr} : isCellOf X b = true ↔ ∃ x, X.env.cells.lookup x = some b := by
  unfold isCellOf
  rw [List.any_eq_true]
  constructor
  · rintro ⟨p, _, h⟩
    rw [Bool.and_eq_true] at h
    exact ⟨p.1, by simpa using h.2⟩
  · rintro ⟨x, h⟩
    refine ⟨(x, b), PySem.mem_of_lookup h, ?_⟩
    simp [h]
def hidL (X : Cx) (h : Heap) : List Addr := (List.range h.objs.size).filter fun b => (X.base.get? b).isNone && !isCellOf X b
def baseOf (X : Cx) (h : Heap) : Heap := PySem.W.hideAll h (hidL X h)
section
variable {X : Cx} {pins : List (Addr × Obj)} {σ : St} {H : Hp} {s : Shared}
theorem not_hid {b : Addr} (h : (X.base.get? b).isSome = true ∨ isCellOf X b = true) : b ∉ hidL X s.heap := fun z => by
  have := (List.mem_filter.mp z).2
  rw [Bool.and_eq_true] at this
  rcases h with h | h
  · cases e : X.base.get? b with
    | none => rw [e] at h; cases h
    | some o => rw [e] at this; cases this.1
  · rw [h] at this
    cases this.2
theorem of_base {b : Addr} {o : Obj} (h : (baseOf X s.heap).get? b = some o) : s.heap.get? b = some o ∧ ((X.base.get? b).isSome = true ∨ isCellOf X b = true) := by
  have e := PySem.W.of_hideAll _ h
  refine ⟨e, ?_⟩
  by_cases c : (X.base.get? b).isSome = true ∨ isCellOf X b = true
  · exact c
  · have hm : b ∈ hidL X s.heap := by
      refine List.mem_filter.mpr ⟨List.mem_range.mpr (Heap.lt_size e), ?_⟩
      rw [Bool.and_eq_true]
      refine ⟨?_, ?_⟩
      · cases e2 : X.base.get? b with
        | none => rfl
        | some u => exact absurd (.inl (by rw [e2]; rfl)) c
      · cases e2 : isCellOf X b with
        | false => rfl
        | true => exact absurd (.inr e2) c
    rw [show baseOf X s.heap = PySem.W.hideAll s.heap (hidL X s.heap) from rfl, PySem.W.hideAll_none _ hm] at h
    cases h
theorem Inv.baseX (I : Inv X pins σ H s) : BaseX X σ (baseOf X s.heap) := by
  have cellK : ∀ {x : Str} {c : Addr} {v : Option Value}, X.env.cells.lookup x = some c → s.heap.IsCell c v → (baseOf X s.heap).IsCell c v := fun {x c v} e ⟨o, ho, hd⟩ =>
    ⟨o, PySem.W.hideAll_get _ ho (not_hid (.inr (isCellOf_iff.mpr ⟨x, e⟩))), hd⟩
  refine ⟨fun b o e => PySem.W.hideAll_get _ (I.bk b o e) (not_hid (.inl (by rw [e]; rfl))), I.ok.inj, I.ok.has, fun x c e => ?_, fun i x v h1 h2 h3 => ?_⟩
  · obtain ⟨v, z⟩ := I.cell x c e
    exact ⟨v, cellK e z⟩
  · obtain ⟨m, _, hl⟩ := I.loc
    have hv : Vis X.env.scope x := by
      rcases h3 with h3 | h3
      · exact .inr (.inl h3)
      · exact .inr (.inr h3)
    obtain ⟨u, r, l⟩ := hl i x v h1 h2 hv
    rcases l with ⟨hk, _⟩ | ⟨hk, c, e, z⟩
    · rcases h3 with h3 | h3 <;> rw [h3] at hk <;> cases hk
    · exact ⟨u, c, r, e, cellK e z⟩
theorem Inv.env0X (I : Inv X pins σ H s) (hfn : ∀ x, X.fn x = true) : Env0 X.prog X.w X.K X.mg (baseOf X s.heap) X.A X.stack s H := by
  have B := I.baseX
  have bs : ∀ b o, (baseOf X s.heap).get? b = some o → s.heap.get? b = some o ∧ H b = none := fun b o e => by
    obtain ⟨e1, h⟩ := of_base e
    refine ⟨e1, ?_⟩
    rcases h with h | h
    · obtain ⟨u, hu⟩ := Option.isSome_iff_exists.mp h
      exact (I.bs b u hu).2
    · obtain ⟨x, hx⟩ := isCellOf_iff.mp h
      exact I.freeC x b hx
  refine ⟨I.ok.frames, ?_, bs, Nat.le_of_eq (PySem.W.hideAll_size _ _), ?_, I.stkFree, I.hok, I.bare⟩
  · obtain ⟨k, g, ⟨mb, h1, h2⟩, nl⟩ := I.ok.mod
    exact ⟨k.keeps B.sub, g.keeps B.sub, ⟨mb, h1.keeps B.sub, h2⟩, nl.keeps B.sub⟩
  · have all : ∀ (l : List Env), (∀ b ∈ frs l, b ∈ X.env.locals :: X.fs) → s.heap.FunFrames X.base l → s.heap.FunFrames (baseOf X s.heap) l := by
      intro l
      induction l with
      | nil => intro _ _; trivial
      | cons env r ih =>
        intro hs hl
        obtain ⟨hk, ⟨L, o, hf, hn, ho, hd⟩, hr⟩ := hl
        refine ⟨hk, ⟨L, o, hf, ?_, ho, hd⟩, ih (fun b hb => hs b (by unfold frs; rw [List.filterMap_cons, hf]; exact List.mem_cons_of_mem _ hb)) hr⟩
        cases q : (baseOf X s.heap).get? L with
        | none => rfl
        | some u =>
          obtain ⟨e1, h⟩ := of_base q
          rcases h with h | h
          · rw [hn] at h; cases h
          · obtain ⟨x, hx⟩ := isCellOf_iff.mp h
            rcases List.mem_cons.mp (hs L (by unfold frs; rw [List.filterMap_cons, hf]; exact List.mem_cons_self)) with z | z
            · exact absurd z (I.cne x L hx)
            · obtain ⟨_, o2, ho2, _⟩ := I.ok.funs.mem z
              exact absurd (Nat.lt_of_lt_of_le (Heap.lt_size ho2) (I.ok.cab x L (hfn x) hx)) (Nat.lt_irrefl _)
    exact all _ I.stkSub I.stack
end
def tCallE (X : Cx) (x : Str) (k : Nat) (t : TA) : TE := fun σ H Q => t σ H fun vs H1 => ∀ base' : Heap, BaseX X σ base' →
  ∃ (ps : List Str) (sp : Sp) (_ : Cal X.prog X.w X.K X.mg base' x k ps sp), sp vs H1 Q E0
theorem pe_cE {X : Cx} {x : Str} {k : Nat} {ps : List Str} {sp : Sp} {p pos : Pos} {e : Expr} {es : List Expr} {t : TA} (C : Cal X.prog X.w X.K X.mg X.base x k ps sp) (hr : Room k X.A) (ha : PA X (e :: es) t) (hg : Gl X x := by rfl) (hfn : ∀ x, X.fn x = true := by intro _; rfl)
    (hdb : (x == ("__debug__" : Str)) = false := by decide) (he : starEach (e :: es) X.env = (false, eval e X.env) :: starEach es X.env := by rfl) (hpl : (backTo pos (starEach es X.env)).any (·.1) = false := by rfl) :
    PE X (.Call (.Name x p) (e :: es) [] pos) (tCallE X x k t) := by
  intro pins s σ H Q I h
  refine wpAny_Call_Name_kw (ld_glob I hg C.at_ ?_ hdb)
  refine PySem.W.callWith_K (h₀ := X.base) I.ok.mod.kin C.kp (thn (ha pos pins s σ H _ I h) fun us s1 ⟨vs, H1, I1, r, q⟩ => ⟨I1.kIn, ?_⟩) he hpl
  obtain ⟨ps', sp', C', hsp⟩ := q _ I1.baseX
  have ef : C'.f = C.f := by
    have := C'.at_.symm.trans C.at_
    injection this with this
    injection this
  have hl : us.length = ps'.length := by rw [← r.length]; exact C'.ok.len _ _ _ _ hsp
  have hb := C'.b s1 us I1.kIn (by rw [List.append_nil]; exact hl)
  rw [List.append_nil] at hb
  have run := C'.ok.run X.A X.stack s1 H1 ⟨us, []⟩ us vs Q E0 hr (I1.env0X hfn) hb r hsp
  rw [ef] at run
  show wpAny _ _ (call (.ref C.f) ([] ++ us)) _ _ s1
  refine wpAny_call (codeAny_mono run fun r s' hq => ?_)
  cases r with
  | error e => exact hq.elim
  | ok fl =>
    cases fl with
    | ret u => exact I1.after hq
    | next => exact False.elim hq
    | brk => exact False.elim hq
    | cont => exact False.elim hq
theorem BaseX.cl {X : Cx} {σ : St} {base' : Heap} (B : BaseX X σ base') {N ps : List Str} {scope : Scope} {fv : List V} {sc : Scope} (fr : List Nat) (hsc : X.env.scope = sc) (hfr : ∀ y ∈ scope.names, y.2 = NameKind.free → sc.names.lookup y.1 = some .cell ∨ sc.names.lookup y.1 = some .free)
    (hlen : N.length = ps.length + fr.length) (hfl : fv.length = fr.length) (hN : ∀ (j : Nat) i x, fr[j]? = some i → N[ps.length + j]? = some x → scope.names.lookup x = some .free ∧ X.N[i]? = some x)
    (hv : ∀ (j : Nat) i v, fr[j]? = some i → fv[j]? = some v → σ[i]? = some (some v)) : LamCl base' N ps scope (clOf X.env scope.names []) fv := by
  subst hsc
  have kind : ∀ x, scope.names.lookup x = some .free → (X.env.kindOf x = some .cell ∨ X.env.kindOf x = some .free) := fun x hx => hfr _ (PySem.mem_of_lookup hx) rfl
  have good : ClGood X.env (clOf X.env scope.names []) := clOf_good _ _ fun y c e => by simp at e
  have look : ∀ x c, (clOf X.env scope.names []).lookup x = some c → X.env.cells.lookup x = some c := fun x c e => by
    have h1 := good x c e
    rcases clOf_mem _ _ e with z | z
    · simp at z
    · obtain ⟨c2, e2⟩ := B.has x (hfr _ z rfl)
      rw [e2] at h1
      rw [e2]
      exact congrArg some h1.symm
  have hasC : ∀ x, scope.names.lookup x = some .free → ∃ c, (clOf X.env scope.names []).lookup x = some c := fun x hx => clOf_has _ _ (.inr (PySem.mem_of_lookup hx))
  refine ⟨fun x y c h1 h2 => B.inj x y c (look x c h1) (look y c h2), hasC, fun x c e => B.cell x c (look x c e), by rw [hlen, hfl], fun j x v h1 h2 => ?_⟩
  have hj : j < fr.length := by rw [← hfl]; exact (List.getElem?_eq_some_iff.mp h2).1
  have hfj : fr[j]? = some fr[j] := List.getElem?_eq_getElem hj
  obtain ⟨hf, hX⟩ := hN j _ x hfj h1
  obtain ⟨u, c, r, e, z⟩ := B.val _ x v hX (hv j _ v hfj h2) (kind x hf)
  obtain ⟨c2, e2⟩ := hasC x hf
  have := look x c2 e2
  rw [e] at this
  cases this
  exact ⟨hf, c, u, e2, r, z⟩
section
variable {X : Cx}
def rStarts : V → List V → Hp → VK → Prop := fun x xs H Q => ∃ z y, x = .str z ∧ xs = [.str y] ∧ Q (.bl (Txt.startswith z y)) H
theorem mt_starts : MtR X "str.startswith" rStarts := by
  intro pins s σ H x xs v us Q I rx rs h
  obtain ⟨z, y, rfl, rfl, q⟩ := h
  obtain ⟨t, rfl⟩ := rx
  obtain ⟨u, rfl, t2, rfl⟩ := vals1 rs
  exact SC.startswith ⟨.bl _, H, I, rfl, q⟩
def rEnds : V → List V → Hp → VK → Prop := fun x xs H Q => ∃ z y, x = .str z ∧ xs = [.str y] ∧ Q (.bl (Txt.endswith z y)) H
theorem mt_ends : MtR X "str.endswith" rEnds := by
  intro pins s σ H x xs v us Q I rx rs h
  obtain ⟨z, y, rfl, rfl, q⟩ := h
  obtain ⟨t, rfl⟩ := rx
  obtain ⟨u, rfl, t2, rfl⟩ := vals1 rs
  exact SC.endswith ⟨.bl _, H, I, rfl, q⟩
end
end L2
namespace L2
open PySem PySem.Spec PyProof.Rows
theorem dep_mem {ds : List Dt} {d : Dt} (h : d ∈ ds) : d.dep < (Dt.tup ds).dep := by
  have : ∀ (l : List Dt), d ∈ l → d.dep ≤ (l.map Dt.dep).foldr max 0 := by
    intro l
    induction l with
    | nil => intro h; cases h
    | cons a l ih =>
      intro h
      rw [List.map_cons, List.foldr_cons]
      rcases List.mem_cons.mp h with e | e
      · rw [e]; exact Nat.le_max_left _ _
      · exact Nat.le_trans (ih e) (Nat.le_max_right _ _)
  have h2 := this ds h
  simp only [Dt.dep]
  omega
theorem dep_memL {ds : List Dt} {d : Dt} (h : d ∈ ds) : d.dep < (Dt.lst ds).dep := by
  have := dep_mem h
  simp only [Dt.dep] at this ⊢
  exact this
section
variable {P : Program} {w : World} {H : Hp} {s : Shared}
theorem tup_here (ok : HOk P w H s.heap) {a : Addr} {xs : List V} (h : H a = some (.tup xs)) : ∃ its : List Value, Vals xs its ∧ s.heap.IsTuple a its.toArray := by
  obtain ⟨_, its, r, t⟩ := ok a _ h
  exact ⟨its, r, t⟩
theorem lst_here (ok : HOk P w H s.heap) {a : Addr} {xs : List V} (h : H a = some (.lst xs)) : ∃ its : List Value, Vals xs its ∧ s.heap.IsList a its.toArray := by
  obtain ⟨_, its, n, r, t⟩ := ok a _ h
  exact ⟨its, r, ⟨_, t, rfl, n, rfl⟩⟩
theorem all_yes (n : Nat) : ((List.range n).all fun _ => true) = true := by
  rw [List.all_eq_true]
  intros
  rfl
theorem eqAt_den (ok : HOk P w H s.heap) : ∀ (n : Nat) (d : Dt) (A : Around) (x y : V) (u v : Value), d.dep ≤ n → A.units + n < cLine → Den H x d → Den H y d → RelV x u → RelV y v → SeqAt.EqAt A s u v true := by
  intro n
  induction n with
  | zero =>
    intro d A x y u v hd hu hx hy rx ry
    cases hx with
    | non => cases hy; cases rx; cases ry; exact SeqAt.EqAt.same _
    | bl b => cases hy; cases rx; cases ry; exact SeqAt.EqAt.same _
    | int i =>
      cases hy
      obtain ⟨t, rfl⟩ := rx
      obtain ⟨t', rfl⟩ := ry
      have := SeqAt.EqAt.int_int (A := A) (s := s) i t i t'
      rwa [beq_self_eq_true] at this
    | str z =>
      cases hy
      obtain ⟨t, rfl⟩ := rx
      obtain ⟨t', rfl⟩ := ry
      have := SeqAt.EqAt.str_str (A := A) (s := s) z t z t'
      rwa [beq_self_eq_true] at this
    | lst => simp [Dt.dep] at hd
    | tup => simp [Dt.dep] at hd
  | succ n ih =>
    intro d A x y u v hd hu hx hy rx ry
    cases hx with
    | non => cases hy; cases rx; cases ry; exact SeqAt.EqAt.same _
    | bl b => cases hy; cases rx; cases ry; exact SeqAt.EqAt.same _
    | int i =>
      cases hy
      obtain ⟨t, rfl⟩ := rx
      obtain ⟨t', rfl⟩ := ry
      have := SeqAt.EqAt.int_int (A := A) (s := s) i t i t'
      rwa [beq_self_eq_true] at this
    | str z =>
      cases hy
      obtain ⟨t, rfl⟩ := rx
      obtain ⟨t', rfl⟩ := ry
      have := SeqAt.EqAt.str_str (A := A) (s := s) z t z t'
      rwa [beq_self_eq_true] at this
    | @lst a xs ds ha hz hl hk =>
      cases hy with
      | @lst b ys _ hb hz' hl' hk' =>
        cases rx
        cases ry
        by_cases e : a = b
        · subst e; exact SeqAt.EqAt.same _
        obtain ⟨i1, r1, p1⟩ := lst_here ok ha
        obtain ⟨i2, r2, p2⟩ := lst_here ok hb
        have sz1 : i1.toArray.size = ds.length := by rw [List.size_toArray, ← hl]; exact r1.length.symm
        have sz2 : i2.toArray.size = ds.length := by rw [List.size_toArray, ← hl']; exact r2.length.symm
        have := SeqAt.RcAt.lists (A := A) (e := fun _ => true) p1 p2 (by rw [sz1, sz2]) (by omega) fun j h1 h2 => ?_
        · rw [all_yes] at this
          exact SeqAt.EqAt.of_refs e this
        have hj : j < ds.length := by omega
        have hjd : ds[j]? = some ds[j] := List.getElem?_eq_getElem hj
        have hjx : xs[j]? = some (xs[j]'(by omega)) := List.getElem?_eq_getElem (by omega)
        have hjy : ys[j]? = some (ys[j]'(by omega)) := List.getElem?_eq_getElem (by omega)
        obtain ⟨u1, e1, q1⟩ := r1.get hjx
        obtain ⟨u2, e2, q2⟩ := r2.get hjy
        have g1 : i1.toArray[j] = u1 := by
          have : i1[j]? = some i1.toArray[j] := by simp at h1 ⊢
          rw [e1] at this
          exact (Option.some.inj this).symm
        have g2 : i2.toArray[j] = u2 := by
          have : i2[j]? = some i2.toArray[j] := by simp at h2 ⊢
          rw [e2] at this
          exact (Option.some.inj this).symm
        rw [g1, g2]
        have hdm := dep_memL (List.getElem_mem hj)
        exact ih ds[j] A.in1 _ _ u1 u2 (by omega) (by show A.units + 1 + n < cLine; omega) (hk j _ _ hjx hjd) (hk' j _ _ hjy hjd) q1 q2
    | @tup a xs ds ha hz hl hk =>
      cases hy with
      | @tup b ys _ hb hz' hl' hk' =>
        cases rx
        cases ry
        by_cases e : a = b
        · subst e; exact SeqAt.EqAt.same _
        obtain ⟨i1, r1, p1⟩ := tup_here ok ha
        obtain ⟨i2, r2, p2⟩ := tup_here ok hb
        have sz1 : i1.toArray.size = ds.length := by rw [List.size_toArray, ← hl]; exact r1.length.symm
        have sz2 : i2.toArray.size = ds.length := by rw [List.size_toArray, ← hl']; exact r2.length.symm
        have := SeqAt.RcAt.tuples (A := A) (e := fun _ => true) p1 p2 (by omega) fun j h1 h2 => ?_
        · rw [all_yes, sz1, sz2, beq_self_eq_true, Bool.and_self] at this
          exact SeqAt.EqAt.of_refs e this
        have hj : j < ds.length := by omega
        have hjd : ds[j]? = some ds[j] := List.getElem?_eq_getElem hj
        have hjx : xs[j]? = some (xs[j]'(by omega)) := List.getElem?_eq_getElem (by omega)
        have hjy : ys[j]? = some (ys[j]'(by omega)) := List.getElem?_eq_getElem (by omega)
        obtain ⟨u1, e1, q1⟩ := r1.get hjx
        obtain ⟨u2, e2, q2⟩ := r2.get hjy
        have g1 : i1.toArray[j] = u1 := by
          have : i1[j]? = some i1.toArray[j] := by simp at h1 ⊢
          rw [e1] at this
          exact (Option.some.inj this).symm
        have g2 : i2.toArray[j] = u2 := by
          have : i2[j]? = some i2.toArray[j] := by simp at h2 ⊢
          rw [e2] at this
          exact (Option.some.inj this).symm
        rw [g1, g2]
        have hdm := dep_mem (List.getElem_mem hj)
        exact ih ds[j] A.in1 _ _ u1 u2 (by omega) (by show A.units + 1 + n < cLine; omega) (hk j _ _ hjx hjd) (hk' j _ _ hjy hjd) q1 q2
end
section
variable {X : Cx}
def rEqD (neg : Bool) : R2 := fun x y H Q => ∃ ds, (Dt.tup ds).dep ≤ 150 ∧ Den H x (.tup ds) ∧ Den H y (.tup ds) ∧ Q (.bl (!neg)) H
theorem pairs_den {pins : List (Addr × Obj)} {s : Shared} {σ : St} {H : Hp} {x y : V} {u v : Value} {ds : List Dt} (hu : X.A.units + 160 < cLine) (I : Inv X pins σ H s) (hd : (Dt.tup ds).dep ≤ 150) (hx : Den H x (.tup ds)) (hy : Den H y (.tup ds)) (rx : RelV x u) (ry : RelV y v) :
    ∃ (a b : Addr) (i1 i2 : List Value), u = .ref a ∧ v = .ref b ∧ s.heap.IsTuple a i1.toArray ∧ s.heap.IsTuple b i2.toArray ∧ i1.toArray.size = ds.length ∧ i2.toArray.size = ds.length ∧ ∀ j (h1 : j < i1.toArray.size) (h2 : j < i2.toArray.size), SeqAt.EqAt X.A.in1 s i1.toArray[j] i2.toArray[j] true := by
  cases hx with
  | @tup a xs _ ha hz hl hk =>
    cases hy with
    | @tup b ys _ hb hz' hl' hk' =>
      obtain ⟨i1, r1, p1⟩ := tup_here I.hok ha
      obtain ⟨i2, r2, p2⟩ := tup_here I.hok hb
      have sz1 : i1.toArray.size = ds.length := by rw [List.size_toArray, ← hl]; exact r1.length.symm
      have sz2 : i2.toArray.size = ds.length := by rw [List.size_toArray, ← hl']; exact r2.length.symm
      refine ⟨a, b, i1, i2, rx, ry, p1, p2, sz1, sz2, fun j h1 h2 => ?_⟩
      have hj : j < ds.length := by omega
      have hjd : ds[j]? = some ds[j] := List.getElem?_eq_getElem hj
      have hjx : xs[j]? = some (xs[j]'(by omega)) := List.getElem?_eq_getElem (by omega)
      have hjy : ys[j]? = some (ys[j]'(by omega)) := List.getElem?_eq_getElem (by omega)
      obtain ⟨u1, e1, q1⟩ := r1.get hjx
      obtain ⟨u2, e2, q2⟩ := r2.get hjy
      have g1 : i1.toArray[j] = u1 := by
        have : i1[j]? = some i1.toArray[j] := by simp at h1 ⊢
        rw [e1] at this
        exact (Option.some.inj this).symm
      have g2 : i2.toArray[j] = u2 := by
        have : i2[j]? = some i2.toArray[j] := by simp at h2 ⊢
        rw [e2] at this
        exact (Option.some.inj this).symm
      rw [g1, g2]
      have hdm := dep_mem (List.getElem_mem hj)
      exact eqAt_den I.hok 150 ds[j] X.A.in1 _ _ u1 u2 (by omega) (by show X.A.units + 1 + 150 < cLine; omega) (hk j _ _ hjx hjd) (hk' j _ _ hjy hjd) q1 q2
theorem op_neD (hu : X.A.units + 160 < cLine) : OpR X (compareOp .NotEq) (rEqD true) := by
  intro pins s σ H x y v u Q I rx ry h
  obtain ⟨ds, hd, hx, hy, q⟩ := h
  obtain ⟨a, b, i1, i2, rfl, rfl, p1, p2, s1, s2, he⟩ := pairs_den hu I hd hx hy rx ry
  refine SeqAt.RcNeAt.tuples p1 p2 (by omega) (e := fun _ => true) he _ _ _ _ ⟨.bl false, H, I, ?_, q⟩
  rw [all_yes, s1, s2, beq_self_eq_true]
  rfl
theorem hd_of {A : Around} {k : Nat} (hr : Room k A) : A.units + 160 < cLine := by have := hr.un; omega
def gLst (K : PySem.W.Frag) (n : Nat) (t : TGs) : TG := fun v σ H Q => ∃ a xs, v = .ref a ∧ SqL K H a xs ∧ xs.length = n ∧ t xs σ H Q
theorem pg_lst {K : PySem.W.Frag} {es : List Expr} {k : Nat} {t : TGs} {n : Nat} {pos : Pos} (hc : X.calm = true) (h : PGs X es t) (hK : X.K = K := by rfl)
    (hn : (assignEach es X.env).length = n := by rfl) (hst : (assignEach es X.env).findIdx? (·.1) = none := by rfl) : PG X (.Tuple es k pos) (gLst K n t) := by
  subst hK
  intro pins s σ H v u Q I r hw
  obtain ⟨a, xs, e1, hq, hl, hw⟩ := hw
  subst e1
  cases r
  obtain ⟨its, rv, ht, hz⟩ := I.list hq
  have hsz : its.toArray.size = n := by rw [List.size_toArray, ← hl]; exact rv.length.symm
  rw [assign_Tuple]
  refine wpAny_bind (wpAny_standAt ?_)
  unfold unpack
  rw [hn, hst]
  refine wpAny_bind (wpAny_holding ?_)
  rw [← hsz]
  refine PySem.W.kun_itemsOf (I.ok.hd hc) ht.isList fun h' hx => ?_
  have I1 : Inv X pins σ H { s with heap := h' } := I.kept (t' := s.toks) fun b o e => hx b o (Nat.ne_of_lt (Heap.lt_size e)) e
  exact h pins _ σ H xs _ Q I1 (by simpa using rv) hw
end
end L2
namespace My
open PySem PySem.Spec PyProof.Rows L2
def top (i : Nat) : Stmt := PySem.Challenge.pw_spreadwords_k34_whole_wishes_moved.main.body.getD i (.Pass ⟨0, 0, 0, 0⟩)
abbrev s_left_behind : Stmt := top 1
abbrev s_places : Stmt := top 2
abbrev s_spread_in : Stmt := top 3
abbrev s_inner_wishes : Stmt := top 6
abbrev s_heads_in : Stmt := top 7
abbrev s_wish_from : Stmt := top 8
abbrev s_truth : Stmt := top 9
abbrev s_words_in : Stmt := top 10
abbrev s_holds : Stmt := top 11
abbrev s_without_first : Stmt := top 13
abbrev s_without_last : Stmt := top 14
abbrev s_with_words : Stmt := top 15
abbrev s_wish_behind : Stmt := top 16
abbrev s_wish_ahead : Stmt := top 17
abbrev s_wish_turned : Stmt := top 18
abbrev s_law_flow : Stmt := top 20
abbrev s_law_pick : Stmt := top 21
abbrev s_law_letters : Stmt := top 22
abbrev s_law_word : Stmt := top 23
abbrev s_law_wish : Stmt := top 24
abbrev s_law_any_wish : Stmt := top 25
abbrev s_law_some_letters : Stmt := top 26
abbrev s_law_text : Stmt := top 27
abbrev s_law_about : Stmt := top 28
abbrev s_law_gone_right : Stmt := top 29
abbrev s_law_letter_right : Stmt := top 30
abbrev s_law : Stmt := top 31
theorem sc_left_behind : FnScope ["text", "start", "letter"] ["text", "start", "letter"] (defScope s_left_behind) := ⟨rfl, rfl, rfl, by decide +kernel, rfl, by decide +kernel, by decide +kernel⟩
theorem sc_places : FnScope ["word", "text", "told", "start", "letter"] ["word", "text"] (defScope s_places) := ⟨rfl, rfl, rfl, by decide +kernel, rfl, by decide +kernel, by decide +kernel⟩
theorem sc_spread_in : FnScope ["word", "text"] ["word", "text"] (defScope s_spread_in) := ⟨rfl, rfl, rfl, by decide +kernel, rfl, by decide +kernel, by decide +kernel⟩
theorem sc_inner_wishes : FnScope ["wish"] ["wish"] (defScope s_inner_wishes) := ⟨rfl, rfl, rfl, by decide +kernel, rfl, by decide +kernel, by decide +kernel⟩
theorem sc_heads_in : FnScope ["wish", "told", "waiting", "part", "inner"] ["wish"] (defScope s_heads_in) := ⟨rfl, rfl, rfl, by decide +kernel, rfl, by decide +kernel, by decide +kernel⟩
theorem sc_wish_from : FnScope ["heads", "waiting", "head", "inner", "number"] ["heads"] (defScope s_wish_from) := ⟨rfl, rfl, rfl, by decide +kernel, rfl, by decide +kernel, by decide +kernel⟩
theorem sc_truth : FnScope ["heads", "lying", "waiting", "head", "name", "one", "other"] ["heads", "lying"] (defScope s_truth) := ⟨rfl, rfl, rfl, by decide +kernel, rfl, by decide +kernel, by decide +kernel⟩
theorem sc_words_in : FnScope ["wish", "words"] ["wish"] (defScope s_words_in) := ⟨rfl, rfl, rfl, by decide +kernel, rfl, by decide +kernel, by decide +kernel⟩
theorem sc_holds : FnScope ["wish", "text", "lying", "word"] ["wish", "text"] (defScope s_holds) := ⟨rfl, rfl, rfl, by decide +kernel, rfl, by decide +kernel, by decide +kernel⟩
theorem sc_without_first : FnScope ["word", "letter"] ["word", "letter"] (defScope s_without_first) := ⟨rfl, rfl, rfl, by decide +kernel, rfl, by decide +kernel, by decide +kernel⟩
theorem sc_without_last : FnScope ["word", "letter"] ["word", "letter"] (defScope s_without_last) := ⟨rfl, rfl, rfl, by decide +kernel, rfl, by decide +kernel, by decide +kernel⟩
theorem sc_with_words : FnScope ["wish", "change", "heads", "head"] ["wish", "change"] (defScope s_with_words) := ⟨rfl, rfl, rfl, by decide +kernel, rfl, by decide +kernel, by decide +kernel⟩
theorem sc_wish_behind : FnScope ["wish", "letter"] ["wish", "letter"] (defScope s_wish_behind) := ⟨rfl, rfl, rfl, by decide +kernel, rfl, by decide +kernel, by decide +kernel⟩
theorem sc_wish_ahead : FnScope ["wish", "letter"] ["wish", "letter"] (defScope s_wish_ahead) := ⟨rfl, rfl, rfl, by decide +kernel, rfl, by decide +kernel, by decide +kernel⟩
theorem sc_wish_turned : FnScope ["wish"] ["wish"] (defScope s_wish_turned) := ⟨rfl, rfl, rfl, by decide +kernel, rfl, by decide +kernel, by decide +kernel⟩
theorem sc_law_flow : FnScope ["_law_script"] ["_law_script"] (defScope s_law_flow) := ⟨rfl, rfl, rfl, by decide +kernel, rfl, by decide +kernel, by decide +kernel⟩
theorem sc_law_pick : FnScope ["_law_flow_here", "_law_many", "_law_cell", "_law_digit"] ["_law_flow_here", "_law_many"] (defScope s_law_pick) := ⟨rfl, rfl, rfl, by decide +kernel, rfl, by decide +kernel, by decide +kernel⟩
theorem sc_law_letters : FnScope ["_law_flow_here", "_law_many", "_law_left"] ["_law_flow_here", "_law_many"] (defScope s_law_letters) := ⟨rfl, rfl, rfl, by decide +kernel, rfl, by decide +kernel, by decide +kernel⟩
theorem sc_law_word : FnScope ["_law_flow_here", "_law_letters_here", "_law_most", "_law_again", "_law_many", "_law_piece"] ["_law_flow_here", "_law_letters_here", "_law_most"] (defScope s_law_word) := ⟨rfl, rfl, rfl, by decide +kernel, rfl, by decide +kernel, by decide +kernel⟩
theorem sc_law_wish : FnScope ["_law_flow_here", "_law_letters_here", "_law_room", "_law_deep", "_law_most", "_law_way", "_law_drawn", "_law_first", "_law_one", "_law_other"] ["_law_flow_here", "_law_letters_here", "_law_room", "_law_deep", "_law_most"] (defScope s_law_wish) := ⟨rfl, rfl, rfl, by decide +kernel, rfl, by decide +kernel, by decide +kernel⟩
theorem sc_law_any_wish : FnScope ["_law_flow_here", "_law_letters_here"] ["_law_flow_here", "_law_letters_here"] (defScope s_law_any_wish) := ⟨rfl, rfl, rfl, by decide +kernel, rfl, by decide +kernel, by decide +kernel⟩
theorem sc_law_some_letters : FnScope ["_law_flow_here"] ["_law_flow_here"] (defScope s_law_some_letters) := ⟨rfl, rfl, rfl, by decide +kernel, rfl, by decide +kernel, by decide +kernel⟩
theorem sc_law_text : FnScope ["_law_flow_here", "_law_letters_here", "_law_most"] ["_law_flow_here", "_law_letters_here", "_law_most"] (defScope s_law_text) := ⟨rfl, rfl, rfl, by decide +kernel, rfl, by decide +kernel, by decide +kernel⟩
theorem sc_law_about : FnScope ["_law_text_here"] ["_law_text_here"] (defScope s_law_about) := ⟨rfl, rfl, rfl, by decide +kernel, rfl, by decide +kernel, by decide +kernel⟩
theorem sc_law_gone_right : FnScope ["_law_wish_here", "_law_text_here", "_law_due", "_law_here", "_law_there", "_law_k"] ["_law_wish_here", "_law_text_here"] (defScope s_law_gone_right) := ⟨rfl, rfl, rfl, by decide +kernel, rfl, by decide +kernel, by decide +kernel⟩
theorem sc_law_letter_right : FnScope ["_law_wish_here", "_law_letter", "_law_other", "_law_behind_one", "_law_some", "_law_left"] ["_law_wish_here", "_law_letter", "_law_other"] (defScope s_law_letter_right) := ⟨rfl, rfl, rfl, by decide +kernel, rfl, by decide +kernel, by decide +kernel⟩
theorem sc_law : FnScope ["_law_script", "_law_flow_here", "_law_letters_here", "_law_wish_here", "_law_k", "_law_letter", "_law_other"] ["_law_script"] (defScope s_law) := ⟨rfl, rfl, rfl, by decide +kernel, rfl, by decide +kernel, by decide +kernel⟩
theorem nd_law_letters_0 : (inNm ["_law_k"] ["_law_flow_here", "_law_many", "_law_left"] [0, 2]).Nodup := by decide +kernel
theorem nd_law_word_0 : (inNm ["_law_k"] ["_law_flow_here", "_law_letters_here", "_law_most", "_law_again", "_law_many", "_law_piece"] [0, 1]).Nodup := by decide +kernel
theorem nd_law_word_1 : (inNm ["_law_k"] ["_law_flow_here", "_law_letters_here", "_law_most", "_law_again", "_law_many", "_law_piece"] [0, 1]).Nodup := by decide +kernel
theorem nd_law_wish_0 : (inNm ["_law_k"] ["_law_flow_here", "_law_letters_here", "_law_room", "_law_deep", "_law_most", "_law_way", "_law_drawn", "_law_first", "_law_one", "_law_other"] [0, 1]).Nodup := by decide +kernel
theorem nd_words_in_0 : (inNm ["head"] ["wish", "words"] []).Nodup := by decide +kernel
theorem nd_law_letter_right_0 : (inNm ["_law_word_here"] ["_law_wish_here", "_law_letter", "_law_other", "_law_behind_one", "_law_some", "_law_left"] []).Nodup := by decide +kernel
theorem nd_law_letter_right_1 : (inNm ["_law_word_here"] ["_law_wish_here", "_law_letter", "_law_other", "_law_behind_one", "_law_some", "_law_left"] []).Nodup := by decide +kernel
theorem nd_law_0 : (inNm ["_law_k"] ["_law_script", "_law_flow_here", "_law_letters_here", "_law_wish_here", "_law_k", "_law_letter", "_law_other"] [1, 2]).Nodup := by decide +kernel
structure Blt (mg : Str → Option Value) : Prop where
  int : mg "int" = none
  len : mg "len" = none
  list : mg "list" = none
  max : mg "max" = none
  range : mg "range" = none
  reversed : mg "reversed" = none
  set : mg "set" = none
  sorted : mg "sorted" = none
  tuple : mg "tuple" = none
theorem iteD {p A B : Prop} [Decidable p] (hp : p) (h : A) : if decide p = true then A else B := by
  rw [if_pos (decide_eq_true hp)]
  exact h
section
variable {P : Program} {w : World} {K : PySem.W.Frag} {mg : Str → Option Value} {base : Heap}
theorem rd_ix {K : PySem.W.Frag} {σ : L2.St} {H : Hp} {Q : VK} {p : Addr} {xs : List V} {i : Int} {v : V} {j : Nat} (h0 : σ[j]? = some (some (.ref p))) (hp : H p = some (.lst xs)) (hv : atI xs i = some v) (q : Q v H) : tOp (rIxL K) (tVar j) (tC (.int i)) σ H Q :=
  ⟨_, h0, p, xs, i, v, rfl, rfl, SqL.of hp, hv, q⟩
theorem ok_law_flow {f : Addr} {fd : FuncData} (F : Fun K "_law_flow" "_law_flow" s_law_flow f fd) (Z : Blt mg) : FnOk P w K mg base CX0 1 f fd ["_law_script"] (spFlow K) := by
  refine F.ok sc_law_flow (fun vs H Q E h => ?_) (fun cdv A outer s H vs Q E hr h => ?_)
  · obtain ⟨a, ns, rfl, _⟩ := h
    rfl
  obtain ⟨a, ns, rfl, hS, k⟩ := h
  refine ⟨_, (pss_one (ps_ret (pe_lst (pa_cons (pe_callTy (call_listK (K := K)) (by rfl) Z.list bt_list (pa_cons (pv 0) pa_nil)) (pa_cons pe_int (pa_cons pe_int (pa_cons pe_int (pa_cons pe_int pa_nil)))))))), ?_⟩
  refine ⟨_, rfl, a, _, rfl, .inl hS, fun l hl => ?_⟩
  refine ⟨(by show 5 ≤ sizeLine; decide), fun p hp => ?_⟩
  have e1 : Same H (upd H l (.lst (ns.map V.int))) := same_new hl _
  refine k p l _ (e1.free hp) (e1.trans (same_new hp _)) ⟨⟨_, upd_same, 0, 0, 1, 0, rfl, by decide, by decide, by decide, by decide, by decide⟩, ns, ?_⟩
  rw [upd_ne (ne_of_none upd_same hp)]
  exact upd_same
theorem pick_last (c : Int) (m : Int) (hm : 0 < m) : 0 ≤ c % m ∧ c % m < m := ⟨Int.emod_nonneg _ (by omega), Int.emod_lt_of_pos _ hm⟩
theorem atI_ints {ns : List Int} {a : Int} (h0 : 0 ≤ a) (h1 : a < ((ns.map V.int).length : Int)) : ∃ z, atI (ns.map V.int) a = some (.int z) := by
  have hk : a.toNat < ns.length := by
    rw [List.length_map] at h1
    omega
  have q : atI (ns.map V.int) ((a.toNat : Nat) : Int) = some (.int ns[a.toNat]) := atI_nat (by rw [List.getElem?_map, List.getElem?_eq_getElem hk]; rfl)
  rw [show ((a.toNat : Nat) : Int) = a by omega] at q
  exact ⟨_, q⟩
theorem ok_law_pick {f : Addr} {fd : FuncData} (F : Fun K "_law_pick" "_law_pick" s_law_pick f fd) (Z : Blt mg) : FnOk P w K mg base CX0 1 f fd ["_law_flow_here", "_law_many"] spPick := by
  refine F.ok sc_law_pick (fun vs H Q E h => ?_) (fun cdv A outer s H vs Q E hr h => ?_)
  · obtain ⟨p, sc, m, rfl, _⟩ := h
    rfl
  obtain ⟨p, sc, m, rfl, hm0, hm1, FA, k⟩ := h
  obtain ⟨xs, hp, a, b, c, d, rfl, ha, hb, hc0, hc1, hd⟩ := FA.here
  obtain ⟨ns, hs⟩ := FA.cells
  refine ⟨_, (pss_cut (ps_if (PW.pt (pw_and (pt_cmpR op_eq (pe_ix (ix_listK (K := K)) (pv 0) pe_int (fun _ _ => rfl)) pe_int (nomark _)) (pw_and1 (pt_cmpR op_lt (pe_ix (ix_listK (K := K)) (pv 0) pe_int (fun _ _ => rfl)) (pe_callB (call_lenK (K := K)) (by rfl) Z.len bt_len (pa_cons (pe_ix (ix_listK (K := K)) (pv 0) pe_int (fun _ _ => rfl)) pa_nil)) (nomark _))))) 
        (pss_cons (ps_set (i := 2) sc_law_pick.nd (by rfl) (Or.inl (by rfl)) (pe_ix (ix_listK (K := K)) (pe_ix (ix_listK (K := K)) (pv 0) pe_int (fun _ _ => rfl)) (pe_ix (ix_listK (K := K)) (pv 0) pe_int (fun _ _ => rfl)) (fun _ _ => rfl))) 
        (pss_cons (ps_asg (pe_op op_add (pe_ix (ix_listK (K := K)) (pv 0) pe_int (fun _ _ => rfl)) pe_int) (pg_sub (pv 0) pe_int set_list)) 
        (pss_one (ps_if (pt_cmpR op_ge (pv 2) (pe_op op_pow pe_int pe_int) (nomark _)) 
          (pss_one (ps_asg (pv 2) (pg_sub (pv 0) pe_int set_list))) 
          (pss_one (ps_asg (pe_op op_mod (pe_op op_add (pe_op op_add (pe_op op_mul (pe_ix (ix_listK (K := K)) (pv 0) pe_int (fun _ _ => rfl)) pe_int) (pe_op op_mod (pv 2) pe_int)) pe_int) pe_int) (pg_sub (pv 0) pe_int set_list))))))) pss_nil) 
      (pss_cons (ps_if (pt_cmpR op_gt (pe_ix (ix_listK (K := K)) (pv 0) pe_int (fun _ _ => rfl)) pe_int (nomark _)) 
        (pss_cons (ps_set (i := 3) sc_law_pick.nd (by rfl) (Or.inl (by rfl)) (pe_op op_mod (pe_ix (ix_listK (K := K)) (pv 0) pe_int (fun _ _ => rfl)) (pv 1))) 
        (pss_cons (ps_asg (pe_op op_fdiv (pe_ix (ix_listK (K := K)) (pv 0) pe_int (fun _ _ => rfl)) (pv 1)) (pg_sub (pv 0) pe_int set_list)) 
        (pss_one (ps_ret (pv 3))))) pss_nil) 
      (pss_cons (ps_asg (pe_op op_add (pe_ix (ix_listK (K := K)) (pv 0) pe_int (fun _ _ => rfl)) pe_int) (pg_sub (pv 0) pe_int set_list)) 
      (pss_cons (ps_asg (pe_op op_mod (pe_op op_add (pe_op op_add (pe_op op_mul (pe_ix (ix_listK (K := K)) (pv 0) pe_int (fun _ _ => rfl)) pe_int) pe_int) (pe_ix (ix_listK (K := K)) (pv 0) pe_int (fun _ _ => rfl))) pe_int) (pg_sub (pv 0) pe_int set_list)) 
      (pss_one (ps_ret (pe_op op_mod (pe_op op_fdiv (pe_op op_mod (pe_op op_mul (pe_op op_add (pe_op op_mod (pe_ix (ix_listK (K := K)) (pv 0) pe_int (fun _ _ => rfl)) pe_int) pe_int) (pe_op op_add (pe_op op_fdiv (pe_ix (ix_listK (K := K)) (pv 0) pe_int (fun _ _ => rfl)) pe_int) pe_int)) pe_int) pe_int) (pv 1)))))))), ?_⟩
  refine ⟨fun σ' H' => ∃ cv xs', σ' = [some (V.ref p), some (V.int m), cv, none] ∧ H' p = some (.lst xs') ∧ (∀ o, upd H' p o = upd H p o) ∧ FlowXs sc xs', ?_, ?_⟩
  · have stay : ∃ cv xs', [some (V.ref p), some (V.int m), none, none] = [some (V.ref p), some (V.int m), cv, none] ∧ H p = some (.lst xs') ∧ (∀ o, upd H p o = upd H p o) ∧ FlowXs sc xs' := ⟨_, _, rfl, hp, fun _ => rfl, a, b, c, d, rfl, ha, hb, hc0, hc1, hd⟩
    refine rd_ix rfl hp (atI_nat (j := 2) rfl) ?_
    refine ⟨rfl, _, rfl, ?_⟩
    refine ite2 (fun _ => ?_) (fun _ => stay)
    refine rd_ix rfl hp (atI_nat (j := 1) rfl) ?_
    refine rd_ix rfl hp (atI_nat (j := 0) rfl) ?_
    refine ⟨sc, _, rfl, .inl (SqL.of hs), _, _, rfl, rfl, _, rfl, ?_⟩
    refine ite2 (fun lt => ?_) (fun _ => stay)
    obtain ⟨z, hz⟩ := atI_ints (ns := ns) ha (of_decide_eq_true lt)
    refine rd_ix rfl hp (atI_nat (j := 0) rfl) ?_
    refine rd_ix rfl hp (atI_nat (j := 1) rfl) ?_
    refine ⟨sc, _, _, _, rfl, rfl, SqL.of hs, hz, ?_⟩
    refine rd_ix rfl hp (atI_nat (j := 1) rfl) ?_
    refine ⟨_, _, rfl, rfl, _, rfl, p, _, _, 1, rfl, rfl, hp, rfl, ?_⟩
    have hp1 : upd H p (.lst [.ref sc, .int (a + 1), .int b, .int c, .int d]) p = some (.lst [.ref sc, .int (a + 1), .int b, .int c, .int d]) := upd_same
    refine ⟨_, rfl, _, _, rfl, rfl, ⟨by decide, by decide, by decide⟩, _, _, rfl, rfl, _, rfl, ?_⟩
    refine ite2 (fun big => ?_) (fun _ => ?_)
    · have big' : (10 : Int) ^ 18 ≤ z := of_decide_eq_true big
      refine ⟨_, rfl, _, rfl, p, _, _, 2, rfl, rfl, hp1, rfl, ?_⟩
      exact ⟨_, _, rfl, upd_same, fun o => by rw [upd_upd, upd_upd], a + 1, z, c, d, rfl, by omega, by omega, hc0, hc1, hd⟩
    · refine rd_ix rfl hp1 (atI_nat (j := 3) rfl) ?_
      refine ⟨_, _, rfl, rfl, .inl ⟨by omega, by omega⟩, ?_⟩
      refine ⟨_, rfl, _, _, rfl, rfl, (by show (0 : Int) < 1000003; decide), _, _, rfl, rfl, _, _, rfl, rfl, _, _, rfl, rfl, (by show (0 : Int) < 2147483647; decide), ?_⟩
      refine ⟨_, rfl, p, _, _, 3, rfl, rfl, hp1, rfl, ?_⟩
      have q := pick_last (c * 40013 + z % 1000003 + 1) 2147483647 (by decide)
      exact ⟨_, _, rfl, upd_same, fun o => by rw [upd_upd, upd_upd], a + 1, b, _, d, rfl, by omega, hb, q.1, q.2, hd⟩
  · rintro σ' H' ⟨cv, xs', rfl, hp', hu, a', b', c', d', rfl, ha', hb', hc0', hc1', hd'⟩
    refine rd_ix rfl hp' (atI_nat (j := 2) rfl) ?_
    refine ⟨_, _, rfl, rfl, _, rfl, ?_⟩
    refine ite2 (fun pos => ?_) (fun _ => ?_)
    · have pos' : 0 < b' := of_decide_eq_true pos
      refine rd_ix rfl hp' (atI_nat (j := 2) rfl) ?_
      refine ⟨_, rfl, _, _, rfl, rfl, hm0, ?_⟩
      refine rd_ix rfl hp' (atI_nat (j := 2) rfl) ?_
      refine ⟨_, rfl, _, _, rfl, rfl, ⟨hm0, hm1⟩, _, rfl, p, _, _, 2, rfl, rfl, hp', rfl, ?_⟩
      refine ⟨_, rfl, ?_⟩
      have q := pick_last b' m hm0
      have e := k (b' % m) [.ref sc, .int a', .int (b' / m), .int c', .int d'] q.1 q.2 ⟨a', b' / m, c', d', rfl, ha', Int.ediv_nonneg hb' (by omega), hc0', hc1', hd'⟩
      rw [← hu] at e
      exact e
    · refine rd_ix rfl hp' (atI_nat (j := 4) rfl) ?_
      refine ⟨_, _, rfl, rfl, _, rfl, p, _, _, 4, rfl, rfl, hp', rfl, ?_⟩
      have hp2 : upd H' p (.lst [.ref sc, .int a', .int b', .int c', .int (d' + 1)]) p = some (.lst [.ref sc, .int a', .int b', .int c', .int (d' + 1)]) := upd_same
      refine rd_ix rfl hp2 (atI_nat (j := 3) rfl) ?_
      refine ⟨_, _, rfl, rfl, .inl ⟨by omega, by omega⟩, _, _, rfl, rfl, ?_⟩
      refine rd_ix rfl hp2 (atI_nat (j := 4) rfl) ?_
      refine ⟨_, _, rfl, rfl, _, _, rfl, rfl, (by show (0 : Int) < 2147483647; decide), ?_⟩
      refine ⟨_, rfl, p, _, _, 3, rfl, rfl, hp2, rfl, ?_⟩
      have q := pick_last (c' * 48271 + 12820163 + (d' + 1)) 2147483647 (by decide)
      have hp3 : ∀ H3 : Hp, upd H3 p (.lst [.ref sc, .int a', .int b', .int ((c' * 48271 + 12820163 + (d' + 1)) % 2147483647), .int (d' + 1)]) p = some (.lst [.ref sc, .int a', .int b', .int ((c' * 48271 + 12820163 + (d' + 1)) % 2147483647), .int (d' + 1)]) := fun _ => upd_same
      refine rd_ix rfl (hp3 _) (atI_nat (j := 3) rfl) ?_
      refine ⟨_, _, rfl, rfl, (by show (0 : Int) < 65521; decide), _, _, rfl, rfl, ?_⟩
      refine rd_ix rfl (hp3 _) (atI_nat (j := 3) rfl) ?_
      have q2 := pick_last ((c' * 48271 + 12820163 + (d' + 1)) % 2147483647) 65521 (by decide)
      refine ⟨_, _, rfl, rfl, ⟨by decide, by decide⟩, _, _, rfl, rfl, _, _, rfl, rfl, .inl ⟨by omega, by omega⟩, _, _, rfl, rfl, (by show (0 : Int) < 1000003; decide), _, _, rfl, rfl, ⟨by decide, by decide⟩, _, rfl, _, _, rfl, rfl, hm0, ?_⟩
      have q3 := pick_last (((c' * 48271 + 12820163 + (d' + 1)) % 2147483647 % 65521 + 1) * ((c' * 48271 + 12820163 + (d' + 1)) % 2147483647 / 65521 + 7919) % 1000003 / 7) m hm0
      have e := k _ [.ref sc, .int a', .int b', .int ((c' * 48271 + 12820163 + (d' + 1)) % 2147483647), .int (d' + 1)] q3.1 q3.2 ⟨a', b', _, d' + 1, rfl, ha', hb', q.1, q.2, by omega⟩
      rw [← hu, ← upd_upd (H := H') (o := .lst [.ref sc, .int a', .int b', .int c', .int (d' + 1)])] at e
      exact e
def one (c : Nat) : Str := ⟨#[c]⟩
theorem strs_ones {ys' : List Str} {cs : List Nat} (h : ys'.Perm (cs.map one)) : ∃ cs' : List Nat, cs'.Perm cs ∧ ys' = cs'.map one := by
  have e : ∀ y ∈ ys', y = one (y.cps.toList.headD 0) := fun y hy => by
    obtain ⟨c, _, rfl⟩ := List.mem_map.mp (h.mem_iff.mp hy)
    rfl
  have e2 : ys' = (ys'.map fun y => y.cps.toList.headD 0).map one := by
    rw [List.map_map]
    have : ∀ (l : List Str), (∀ y ∈ l, y = one (y.cps.toList.headD 0)) → l = l.map (one ∘ fun y => y.cps.toList.headD 0) := by
      intro l
      induction l with
      | nil => intro _; rfl
      | cons y r ih =>
        intro hl
        rw [List.map_cons, ← ih fun z hz => hl z (List.mem_cons_of_mem _ hz)]
        exact congrArg (· :: r) (hl y List.mem_cons_self)
    exact this ys' e
  refine ⟨_, ?_, e2⟩
  have p := h.map fun y : Str => y.cps.toList.headD 0
  rw [List.map_map] at p
  have : (fun y : Str => y.cps.toList.headD 0) ∘ one = id := rfl
  rw [this, List.map_id] at p
  exact p
theorem lt_cps_one (a b : Nat) : ltCps (one a).cps.toList (one b).cps.toList = decide (a < b) := by
  rw [ltCps_eq]
  exact lt_one a b
theorem rising_ones : ∀ (p : Nat) (cs : List Nat), risingS (one p) (cs.map one) = true → ∀ c ∈ cs, p ≤ c
  | _, [], _, c, hc => by cases hc
  | p, x :: r, h, c, hc => by
    have h' : (!ltCps (one x).cps.toList (one p).cps.toList && risingS (one x) (r.map one)) = true := h
    rw [Bool.and_eq_true, lt_cps_one] at h'
    have h1 : p ≤ x := by
      have := h'.1
      simp at this
      exact this
    rcases List.mem_cons.mp hc with e | e
    · subst e; exact h1
    · exact Nat.le_trans h1 (rising_ones x r h'.2 c e)
theorem sorted_ones : ∀ (cs : List Nat), sortedS (cs.map one) = true → cs.Pairwise (· ≤ ·)
  | [], _ => .nil
  | p :: r, h => by
    have h' : risingS (one p) (r.map one) = true := h
    refine List.Pairwise.cons (rising_ones p r h') (sorted_ones r ?_)
    cases r with
    | nil => rfl
    | cons x r =>
      have h2 : (!ltCps (one x).cps.toList (one p).cps.toList && risingS (one x) (r.map one)) = true := h'
      rw [Bool.and_eq_true] at h2
      exact h2.2
theorem lt_of_le_nodup : ∀ {cs : List Nat}, cs.Pairwise (· ≤ ·) → cs.Nodup → cs.Pairwise (· < ·)
  | [], _, _ => .nil
  | p :: r, h, n => by
    cases h with
    | cons h1 h2 =>
      rw [List.nodup_cons] at n
      refine List.Pairwise.cons (fun c hc => ?_) (lt_of_le_nodup h2 n.2)
      have := h1 c hc
      have : p ≠ c := fun e => n.1 (e ▸ hc)
      omega
theorem erase_perm {α : Type} : ∀ {l : List α} {n : Nat} {v : α}, l[n]? = some v → (v :: l.eraseIdx n).Perm l
  | [], n, v, h => by simp at h
  | x :: r, 0, v, h => by
    have e : x = v := by simpa using h
    subst e
    exact List.Perm.refl _
  | x :: r, n + 1, v, h => by
    have ih := erase_perm (l := r) (n := n) (v := v) (by simpa using h)
    rw [List.eraseIdx_cons_succ]
    exact (List.Perm.swap x v _).trans (List.Perm.cons x ih)
theorem erase_map {α β : Type} (f : α → β) : ∀ (l : List α) (i : Nat), (l.map f).eraseIdx i = (l.eraseIdx i).map f
  | [], _ => rfl
  | _ :: _, 0 => rfl
  | x :: r, i + 1 => by
    rw [List.map_cons, List.eraseIdx_cons_succ, List.eraseIdx_cons_succ, List.map_cons, erase_map f r i]
theorem flat_ones (cs : List Nat) : ((cs.map one).map fun y => y.cps.toList).flatten = cs := by
  induction cs with
  | nil => rfl
  | cons c r ih => rw [List.map_cons, List.map_cons, List.flatten_cons, ih]; rfl
theorem sum_ones (cs : List Nat) : ((cs.map one).map (·.length)).sum = cs.length := by
  induction cs with
  | nil => rfl
  | cons c r ih => rw [List.map_cons, List.map_cons, List.sum_cons, ih, List.length_cons, Nat.add_comm]; rfl
def abc : List Nat := (List.range 26).map (· + 97)
theorem abc_is : (Str.ofString "abcdefghijklmnopqrstuvwxyz").cps.toList = abc := by decide +kernel
theorem abc_nodup : abc.Nodup := by decide +kernel
theorem abc_mem {c : Nat} (h : c ∈ abc) : 97 ≤ c ∧ c ≤ 122 := by
  unfold abc at h
  obtain ⟨i, hi, rfl⟩ := List.mem_map.mp h
  have := List.mem_range.mp hi
  omega
theorem oneS_map (cs : List Nat) : cs.map oneS = (cs.map one).map V.str := by
  rw [List.map_map]
  rfl
theorem ok_law_letters {f : Addr} {fd : FuncData} (F : Fun K "_law_letters" "_law_letters" s_law_letters f fd) (Z : Blt mg) (C_law_pick : Cal P w K mg base "_law_pick" 1 ["_law_flow_here", "_law_many"] spPick) :
    FnOk P w K mg base CX0 2 f fd ["_law_flow_here", "_law_many"] spLetters := by
  refine F.ok sc_law_letters (fun vs H Q E h => ?_) (fun cdv A outer s H vs Q E hr h => ?_)
  · obtain ⟨p, sc, m, rfl, _⟩ := h
    rfl
  obtain ⟨p, sc, m, rfl, hm0, hm1, FA, k⟩ := h
  refine ⟨_, (pss_cons (ps_set (i := 2) sc_law_letters.nd (by rfl) (Or.inr (by rfl)) (pe_callTy (call_list_text (by rfl)) (by rfl) Z.list bt_list (pa_cons pe_str pa_nil))) 
      (pss_one (ps_ret (pe_bmK (K := K) PySem.F.plainAttrs_str PySem.F.slot_str_join PySem.F.type_str_join (mt_joinK (K := K)) pe_str (pa_cons (pe_callB (call_sortK (K := K)) (by rfl) Z.sorted bt_sorted (pa_cons (pe_comp (sc := defScope s_law_letters) (Nm := ["_law_flow_here", "_law_many", "_law_left"]) (own := ["_law_k"]) (fr := [0, 2]) ⟨rfl, by decide +kernel, by decide +kernel, by decide +kernel, by decide +kernel⟩ (by rfl) (gfr_name (by decide)) (pi_range1 (by rfl) Z.range (pa_cons (pv 1) pa_nil)) (fun d => (pg_name (i := 0) nd_law_letters_0 (by rfl) (Or.inl (by rfl)))) (fun d => pts_nil) (fun d => (pe_bmK (K := K) PySem.F.plainAttrs_list PySem.F.slot_list_pop PySem.F.type_list_pop mt_popAt (pv 2) (pa_cons (pe_c C_law_pick (hr.mono (by decide)) (pa_cons (pv 1) (pa_cons (pe_callB (call_lenK (K := K)) (by rfl) Z.len bt_len (pa_cons (pv 2) pa_nil)) pa_nil))) pa_nil)))) pa_nil)) pa_nil))))), ?_⟩
  refine ⟨_, rfl, (by decide +kernel), fun l hl => ?_⟩
  have e1 : Same H (upd H l (.lst ((Str.ofString "abcdefghijklmnopqrstuvwxyz").cps.toList.map oneS))) := same_new hl _
  have npl : p ≠ l := by
    obtain ⟨xs, hp, _⟩ := FA.here
    exact ne_of_none hp hl
  refine ⟨rfl, _, rfl, _, rfl, by omega, by omega, ?_⟩
  refine comp_range (lo := 0) (k := m.toNat) (fun i acc H2 => ∃ ys rem : List Nat, acc = ys.map oneS ∧ ys.length = i ∧ H2 l = some (.lst (rem.map oneS)) ∧ (ys ++ rem).Perm abc ∧ FlowAt H2 p sc ∧ Drew H H2 p) (Nat.lt_of_le_of_lt (show m.toNat ≤ 26 by omega) (by decide))
    ⟨[], abc, rfl, rfl, by rw [upd_same, abc_is], List.Perm.refl _, FA.same e1, Drew.same e1⟩ (fun i acc H2 ⟨ys, rem, e, hl', _⟩ => by rw [e, List.length_map, hl']; exact Nat.le_refl _) (fun i acc H2 hi hp => ?_) (fun acc H2 hp q hq => ?_)
  · obtain ⟨ys, rem, rfl, hyl, hrem, hperm, FA2, dr⟩ := hp
    have hlen : ys.length + rem.length = 26 := by
      have := hperm.length_eq
      rw [List.length_append] at this
      exact this
    refine cyes ?_
    refine ⟨_, rfl, .inl ⟨rfl, _, SqL.of hrem⟩, _, rfl, _, rfl, l, _, rfl, .inl (SqL.of hrem), p, sc, _, rfl, ?_, ?_, FA2, fun r xs hr0 hr1 hxs => ?_⟩
    · rw [List.length_map]; omega
    · rw [List.length_map]; omega
    · have hr1' : r < (rem.length : Int) := by
        rw [List.length_map] at hr1
        exact hr1
      have hrn : r.toNat < rem.length := by omega
      have hv : rem[r.toNat]? = some rem[r.toNat] := List.getElem?_eq_getElem hrn
      have hl2 : upd H2 p (.lst xs) l = some (.lst (rem.map oneS)) := by rw [upd_ne (Ne.symm npl)]; exact hrem
      refine ⟨l, _, r, r.toNat, oneS rem[r.toNat], rfl, rfl, hl2, by omega, by omega, ?_, ?_, ?_⟩
      · rw [List.length_map]
        exact seqIndex_of hr0 hr1'
      · rw [List.getElem?_map, hv]
        rfl
      · refine ⟨ys ++ [rem[r.toNat]], rem.eraseIdx r.toNat, by rw [List.map_append]; rfl, by rw [List.length_append, hyl]; rfl, ?_, ?_, ?_, ?_⟩
        · rw [upd_same, erase_map]
        · rw [List.append_assoc]
          exact (List.Perm.append_left ys (erase_perm hv)).trans hperm
        · have FA3 := FA2.go hxs
          obtain ⟨xs', h1, h2⟩ := FA3.here
          obtain ⟨ns, h3⟩ := FA3.cells
          refine ⟨⟨xs', by rw [upd_ne npl]; exact h1, h2⟩, ns, ?_⟩
          rw [upd_ne ?_]
          · exact h3
          · obtain ⟨ns0, h0⟩ := FA.cells
            exact ne_of_none h0 hl
        · intro b o hb hne
          rw [upd_ne (ne_of_none hb hl), upd_ne hne]
          exact dr b o hb hne
  · obtain ⟨ys, rem, rfl, hyl, hrem, hperm, FA2, dr⟩ := hp
    have hn : ys.Nodup := (List.nodup_append.mp (hperm.nodup_iff.mpr abc_nodup)).1
    refine ⟨q, ys.map one, rfl, SqL.of (by rw [upd_same, oneS_map]), by rw [List.length_map]; omega, fun ys' l2 hp2 hs2 hl2 => ?_⟩
    obtain ⟨cs, hc, rfl⟩ := strs_ones hp2
    have hclen := hc.length_eq
    refine ⟨_, l2, cs.map one, rfl, rfl, SqL.of upd_same, ?_, ?_⟩
    · rw [sum_ones, List.length_map]
      have : (Str.ofString "").length = 0 := by decide +kernel
      rw [this]
      omega
    · have e3 := join_nil_list (cs.map one)
      rw [flat_ones] at e3
      refine k _ _ ⟨?_, ?_, fun c hcm => ?_⟩ ?_ ?_
      · rw [e3]; omega
      · rw [e3]
        exact lt_of_le_nodup (sorted_ones cs hs2) (hc.nodup_iff.mpr hn)
      · rw [e3] at hcm
        exact abc_mem (hperm.mem_iff.mp (List.mem_append_left _ (hc.mem_iff.mp hcm)))
      · exact dr.trans (Drew.trans (Drew.same (same_new hq _)) (Drew.same (same_new hl2 _)))
      · exact (FA2.same (same_new hq _)).same (same_new hl2 _)
theorem FlowAt.drew {H H' : Hp} {p sc : Addr} (F : FlowAt H p sc) (d : Drew H H' p) (h : ∃ xs, H' p = some (.lst xs) ∧ FlowXs sc xs) : FlowAt H' p sc := by
  obtain ⟨ns, h3⟩ := F.cells
  exact ⟨h, ns, d _ _ h3 F.ne⟩
theorem drew_go {H0 H : Hp} {p : Addr} (d : Drew H0 H p) (o : HO) : Drew H0 (upd H p o) p := d.trans (Drew.upd o)
theorem atI_sign {l : Str} {r : Int} (h0 : 0 ≤ r) (h1 : r < (l.length : Int)) : ∃ c, c ∈ l.cps.toList ∧ atI l.cps.toList r = some c := by
  have hk : r.toNat < l.cps.toList.length := by
    have : l.cps.toList.length = l.length := by simp [Str.length]
    omega
  refine ⟨l.cps.toList[r.toNat], List.getElem_mem hk, ?_⟩
  have q : atI l.cps.toList ((r.toNat : Nat) : Int) = some l.cps.toList[r.toNat] := atI_nat (List.getElem?_eq_getElem hk)
  rw [show ((r.toNat : Nat) : Int) = r by omega] at q
  exact q
def Drawn (H : Hp) (p sc : Addr) (l : Str) (i : Nat) (acc : List V) (H2 : Hp) : Prop := ∃ ys : List Nat, acc = ys.map oneS ∧ ys.length = i ∧ (∀ c ∈ ys, c ∈ l.cps.toList) ∧ FlowAt H2 p sc ∧ Drew H H2 p
theorem drawn_turn {H H2 : Hp} {p sc : Addr} {l : Str} {i : Nat} {acc : List V} {σ : L2.St} {jl jf : Nat} (hl0 : 0 < l.length) (hl1 : l.length ≤ 1000) (hv1 : σ[jl]? = some (some (.str l))) (hv2 : σ[jf]? = some (some (.ref p))) (h : Drawn H p sc l i acc H2) :
    tOp rIxS (tVar jl) (tCall spPick [] E0 (tCons (tVar jf) (tCons (tCB (fun xs H Q => ∃ z, xs = [V.str z] ∧ z.length ≤ sizeLine ∧ Q (.int z.length) H) (tCons (tVar jl) tNil)) tNil))) σ H2 fun v H6 => Drawn H p sc l (i + 1) (acc ++ [v]) H6 := by
  obtain ⟨ys, rfl, hyl, hyc, FA2, dr⟩ := h
  refine ⟨_, hv1, _, hv2, _, hv1, l, rfl, line_le hl1, p, sc, _, rfl, by omega, by omega, FA2, fun r xs h0 h1 hx => ?_⟩
  obtain ⟨c, hc, ha⟩ := atI_sign h0 h1
  exact ⟨l, r, c, rfl, rfl, line_le hl1, ha, ys ++ [c], by rw [List.map_append]; rfl, by rw [List.length_append, hyl]; rfl, fun c' h' => (List.mem_append.mp h').elim (hyc c') fun z => by rw [List.mem_singleton.mp z]; exact hc, FA2.go hx, drew_go dr _⟩
theorem drawn_len {H : Hp} {p sc : Addr} {l : Str} : ∀ i acc H2, Drawn H p sc l i acc H2 → acc.length ≤ i := fun i acc H2 ⟨ys, e, hl', _⟩ => by rw [e, List.length_map, hl']; exact Nat.le_refl _
theorem rep_mem {z : List Nat} {n : Nat} {c : Nat} (h : c ∈ (List.replicate n z).flatten) : c ∈ z := by
  obtain ⟨l, hl, hc⟩ := List.mem_flatten.mp h
  rw [(List.mem_replicate.mp hl).2] at hc
  exact hc
theorem cut_le (z : Str) (n : Int) (h : 0 ≤ n) : ((Txt.slice z none (some n)).cps.toList.length : Int) ≤ n ∧ ∀ c ∈ (Txt.slice z none (some n)).cps.toList, c ∈ z.cps.toList := by
  rw [slice_list]
  constructor
  · rw [List.length_take, List.length_drop]
    have e : HT.sIx z.length z.length (some n) = min n.toNat z.length := by
      have := HT.sIx_nat z.length z.length n.toNat
      rw [show ((n.toNat : Nat) : Int) = n by omega] at this
      exact this
    rw [e]
    omega
  · intro c hc
    exact List.mem_of_mem_drop (List.mem_of_mem_take hc)
theorem join_ones_len (ys : List Nat) (h : ys.length ≤ 1000) : ((ys.map one).map (·.length)).sum + (ys.map one).length * (Str.ofString "").length ≤ 16777216 := by
  have : (Str.ofString "").length = 0 := by decide +kernel
  rw [sum_ones, this]
  omega
theorem join_ones (ys : List Nat) : (Txt.join (Str.ofString "") (ys.map one)).cps.toList = ys := by
  rw [join_nil_list, flat_ones]
theorem ok_law_word {f : Addr} {fd : FuncData} (F : Fun K "_law_word" "_law_word" s_law_word f fd) (Z : Blt mg) (C_law_pick : Cal P w K mg base "_law_pick" 1 ["_law_flow_here", "_law_many"] spPick) :
    FnOk P w K mg base CX0 2 f fd ["_law_flow_here", "_law_letters_here", "_law_most"] spWord := by
  refine F.ok sc_law_word (fun vs H Q E h => ?_) (fun cdv A outer s H vs Q E hr h => ?_)
  · obtain ⟨p, sc, l, m, rfl, _⟩ := h
    rfl
  obtain ⟨p, sc, l, m, rfl, hl0, hl1, hm0, hm1, FA, k⟩ := h
  refine ⟨_, (pss_cons (ps_set (i := 3) sc_law_word.nd (by rfl) (Or.inl (by rfl)) (pe_cmpR op_eq (pe_c C_law_pick (hr.mono (by decide)) (pa_cons (pv 0) (pa_cons pe_int pa_nil))) pe_int (nomark _))) 
      (pss_cons (ps_set (i := 4) sc_law_word.nd (by rfl) (Or.inl (by rfl)) (pe_c C_law_pick (hr.mono (by decide)) (pa_cons (pv 0) (pa_cons (pe_op op_add (pv 2) pe_int) pa_nil)))) 
      (pss_cons (ps_if (pt_truthK (K := K) (pv 3) (fun _ => rfl)) 
        (pss_cons (ps_set (i := 5) sc_law_word.nd (by rfl) (Or.inl (by rfl)) (pe_bmK (K := K) PySem.F.plainAttrs_str PySem.F.slot_str_join PySem.F.type_str_join (mt_joinK (K := K)) pe_str (pa_cons (pe_comp (sc := defScope s_law_word) (Nm := ["_law_flow_here", "_law_letters_here", "_law_most", "_law_again", "_law_many", "_law_piece"]) (own := ["_law_k"]) (fr := [0, 1]) ⟨rfl, by decide +kernel, by decide +kernel, by decide +kernel, by decide +kernel⟩ (by rfl) (gfr_name (by decide)) (pi_range1 (by rfl) Z.range (pa_cons (pe_op op_add pe_int (pe_c C_law_pick (hr.mono (by decide)) (pa_cons (pv 0) (pa_cons pe_int pa_nil)))) pa_nil)) (fun d => (pg_name (i := 0) nd_law_word_0 (by rfl) (Or.inl (by rfl)))) (fun d => pts_nil) (fun d => (pe_ix ix_str (pv 2) (pe_c C_law_pick (hr.mono (by decide)) (pa_cons (pv 1) (pa_cons (pe_callB call_len_str (by rfl) Z.len bt_len (pa_cons (pv 2) pa_nil)) pa_nil))) (fun _ _ => rfl)))) pa_nil))) 
        (pss_one (ps_ret (pe_slice sl_str (pe_op op_mul_str (pv 5) (pv 4)) po_none (po_some (pv 4)))))) pss_nil) 
      (pss_one (ps_ret (pe_bmK (K := K) PySem.F.plainAttrs_str PySem.F.slot_str_join PySem.F.type_str_join (mt_joinK (K := K)) pe_str (pa_cons (pe_comp (sc := defScope s_law_word) (Nm := ["_law_flow_here", "_law_letters_here", "_law_most", "_law_again", "_law_many", "_law_piece"]) (own := ["_law_k"]) (fr := [0, 1]) ⟨rfl, by decide +kernel, by decide +kernel, by decide +kernel, by decide +kernel⟩ (by rfl) (gfr_name (by decide)) (pi_range1 (by rfl) Z.range (pa_cons (pv 4) pa_nil)) (fun d => (pg_name (i := 0) nd_law_word_1 (by rfl) (Or.inl (by rfl)))) (fun d => pts_nil) (fun d => (pe_ix ix_str (pv 2) (pe_c C_law_pick (hr.mono (by decide)) (pa_cons (pv 1) (pa_cons (pe_callB call_len_str (by rfl) Z.len bt_len (pa_cons (pv 2) pa_nil)) pa_nil))) (fun _ _ => rfl)))) pa_nil))))))), ?_⟩
  refine ⟨_, rfl, p, sc, 4, rfl, by decide, by decide, FA, fun r0 xs0 _ _ hx0 => ⟨rfl, ?_⟩⟩
  have FA0 := FA.go hx0
  have d0 : Drew H (upd H p (.lst xs0)) p := Drew.upd _
  refine ⟨_, rfl, _, rfl, _, _, rfl, rfl, p, sc, m + 1, rfl, by omega, by omega, FA0, fun n xs1 hn0 hn1 hx1 => ?_⟩
  have FA1 := FA0.go hx1
  have d1 : Drew H (upd (upd H p (.lst xs0)) p (.lst xs1)) p := drew_go d0 _
  refine ⟨_, rfl, _, rfl, ?_⟩
  refine ite2 (fun _ => ?_) (fun _ => ?_)
  · refine ⟨rfl, _, rfl, p, sc, 3, rfl, by decide, by decide, FA1, fun r2 xs2 hr0 hr1 hx2 => ⟨_, _, rfl, rfl, _, rfl, by omega, by omega, ?_⟩⟩
    refine comp_range (lo := 0) (k := (1 + r2).toNat) (Drawn H p sc l) (Nat.lt_of_le_of_lt (show (1 + r2).toNat ≤ 3 by omega) (by decide)) ⟨[], rfl, rfl, fun c hc => absurd hc (by simp), FA1.go hx2, drew_go d1 _⟩ drawn_len
      (fun i acc H2 hi hp => cyes (drawn_turn hl0 hl1 rfl rfl hp)) (fun acc H2 hp q hq => ?_)
    obtain ⟨ys, rfl, hyl, hyc, FA2, dr⟩ := hp
    have hy3 : ys.length ≤ 3 := by omega
    refine ⟨_, q, ys.map one, rfl, rfl, SqL.of (by rw [upd_same, oneS_map]), join_ones_len ys (by omega), ?_⟩
    have hj := join_ones ys
    have hjl : (Txt.join (Str.ofString "") (ys.map one)).length = ys.length := by
      have : (Txt.join (Str.ofString "") (ys.map one)).cps.toList.length = ys.length := by rw [hj]
      simpa [Str.length] using this
    refine ⟨_, rfl, _, rfl, _, n, rfl, rfl, hn0, by omega, by omega, _, rfl, _, rfl, _, rfl, ?_, ?_⟩
    · show ((List.replicate n.toNat _).flatten.toArray).size ≤ sizeLine
      rw [List.size_toArray, len_rep, Array.length_toList]
      have e : (Txt.join (Str.ofString "") (ys.map one)).cps.size = ys.length := hjl
      rw [e]
      have : n.toNat * ys.length ≤ 100 * 3 := Nat.mul_le_mul (by omega) hy3
      exact line_le (by omega)
    · obtain ⟨c1, c2⟩ := cut_le (repS (Txt.join (Str.ofString "") (ys.map one)) n.toNat) n hn0
      refine k _ _ (by omega) (fun c hc => ?_) (dr.trans (Drew.same (same_new hq _))) (FA2.same (same_new hq _))
      have h1 := c2 c hc
      have h2 : c ∈ (List.replicate n.toNat (Txt.join (Str.ofString "") (ys.map one)).cps.toList).flatten := by simpa [repS] using h1
      have h3 := rep_mem h2
      rw [hj] at h3
      exact hyc c h3
  · refine ⟨rfl, _, rfl, _, rfl, by omega, by omega, ?_⟩
    refine comp_range (lo := 0) (k := n.toNat) (Drawn H p sc l) (Nat.lt_of_le_of_lt (show n.toNat ≤ 100 by omega) (by decide)) ⟨[], rfl, rfl, fun c hc => absurd hc (by simp), FA1, d1⟩ drawn_len
      (fun i acc H2 hi hp => cyes (drawn_turn hl0 hl1 rfl rfl hp)) (fun acc H2 hp q hq => ?_)
    obtain ⟨ys, rfl, hyl, hyc, FA2, dr⟩ := hp
    refine ⟨_, q, ys.map one, rfl, rfl, SqL.of (by rw [upd_same, oneS_map]), join_ones_len ys (by omega), ?_⟩
    refine k _ _ ?_ (fun c hc => ?_) (dr.trans (Drew.same (same_new hq _))) (FA2.same (same_new hq _))
    · rw [join_ones]; omega
    · rw [join_ones] at hc
      exact hyc c hc
def emb : List Nat → List Nat → Nat
  | [], _ => 1
  | _ :: _, [] => 0
  | c :: w, d :: t => emb (c :: w) t + if c = d then emb w t else 0
theorem emb_nil (t : List Nat) : emb [] t = 1 := by cases t <;> rfl
theorem emb_cc (c : Nat) (w : List Nat) (d : Nat) (t : List Nat) : emb (c :: w) (d :: t) = emb (c :: w) t + if c = d then emb w t else 0 := rfl
theorem emb_end {w : List Nat} (h : w ≠ []) : emb w [] = 0 := by
  cases w with
  | nil => exact absurd rfl h
  | cons c r => rfl
theorem emb_more (w : List Nat) (d : Nat) (t : List Nat) : emb w t ≤ emb w (d :: t) := by
  cases w with
  | nil => rw [emb_nil, emb_nil]; exact Nat.le_refl _
  | cons c w => rw [emb_cc]; omega
theorem emb_tail (c : Nat) (w : List Nat) : ∀ t : List Nat, 0 < emb (c :: w) t → 0 < emb w t
  | [], h => absurd h (Nat.lt_irrefl 0)
  | d :: t, h => by
    rw [emb_cc] at h
    have m := emb_more w d t
    by_cases z : 0 < emb (c :: w) t
    · have := emb_tail c w t z
      omega
    · by_cases e : c = d
      · rw [if_pos e] at h; omega
      · rw [if_neg e] at h; omega
def adv (w : List Nat) (k c : Nat) : Nat := if k < w.length ∧ w.getD k 0 = c then k + 1 else k
def spB (w t : List Nat) : Bool := decide (t.foldl (adv w) 0 = w.length)
theorem adv_emb (w : List Nat) : ∀ (t : List Nat) (k : Nat), k ≤ w.length → (t.foldl (adv w) k = w.length ↔ 0 < emb (w.drop k) t)
  | [], k, hk => by
    show k = w.length ↔ _
    by_cases e : k = w.length
    · subst e
      rw [List.drop_length, emb_nil]
      simp
    · rw [emb_end (by
        intro z
        have := congrArg List.length z
        rw [List.length_drop, List.length_nil] at this
        omega)]
      omega
  | d :: t, k, hk => by
    rw [List.foldl_cons]
    by_cases hl : k < w.length
    · have hd : w.drop k = w.getD k 0 :: w.drop (k + 1) := by
        rw [List.drop_eq_getElem_cons hl, List.getD_eq_getElem?_getD, List.getElem?_eq_getElem hl]
        rfl
      by_cases e : w.getD k 0 = d
      · have ea : adv w k d = k + 1 := by unfold adv; rw [if_pos ⟨hl, e⟩]
        rw [ea, adv_emb w t (k + 1) hl, hd, emb_cc, if_pos e]
        constructor
        · intro h; omega
        · intro h
          by_cases z : 0 < emb (w.getD k 0 :: w.drop (k + 1)) t
          · exact emb_tail _ _ t z
          · omega
      · have ea : adv w k d = k := by unfold adv; rw [if_neg fun z => e z.2]
        rw [ea, adv_emb w t k hk, hd, emb_cc, if_neg e]
        simp
    · have e : k = w.length := by omega
      have ea : adv w k d = k := by unfold adv; rw [if_neg fun z => hl z.1]
      rw [ea, adv_emb w t k hk]
      subst e
      rw [List.drop_length, emb_nil, emb_nil]
theorem spB_is (w t : List Nat) : spB w t = decide (0 < emb w t) := by
  unfold spB
  rw [Bool.eq_iff_iff, decide_eq_true_eq, decide_eq_true_eq, adv_emb w t 0 (Nat.zero_le _), List.drop_zero]
def tab (L : Nat) (f : Nat → Nat) : List V := (List.range (L + 1)).map fun n => V.int ((f n : Nat) : Int)
structure NextAt (t : List Nat) (s c k : Nat) : Prop where
  ge : s ≤ k
  lt : k < t.length
  at_ : t.getD k 0 = c
  first : ∀ v, s ≤ v → v < k → t.getD v 0 ≠ c
def nx (t : List Nat) (s c : Nat) : Option Nat := ((List.range' s (t.length - s)).filter fun v => decide (t.getD v 0 = c)).head?
theorem head_filter {p : Nat → Bool} : ∀ (n s k : Nat), ((List.range' s n).filter p).head? = some k ↔ (s ≤ k ∧ k < s + n ∧ p k = true ∧ ∀ v, s ≤ v → v < k → p v = false)
  | 0, s, k => by
    constructor
    · intro h; simp at h
    · intro h; omega
  | n + 1, s, k => by
    rw [List.range'_succ]
    by_cases hp : p s = true
    · rw [List.filter_cons_of_pos hp, List.head?_cons]
      constructor
      · intro h
        have e : s = k := Option.some.inj h
        subst e
        exact ⟨Nat.le_refl _, by omega, hp, fun v h1 h2 => by omega⟩
      · intro ⟨h1, h2, h3, h4⟩
        by_cases e : s = k
        · rw [e]
        · have := h4 s (Nat.le_refl _) (by omega)
          rw [hp] at this
          cases this
    · have hp' : p s = false := by simpa using hp
      rw [List.filter_cons_of_neg hp, head_filter n (s + 1) k]
      constructor
      · intro ⟨h1, h2, h3, h4⟩
        refine ⟨by omega, by omega, h3, fun v g1 g2 => ?_⟩
        by_cases e : v = s
        · subst e; exact hp'
        · exact h4 v (by omega) g2
      · intro ⟨h1, h2, h3, h4⟩
        have : s ≠ k := fun e => by rw [e, h3] at hp'; cases hp'
        exact ⟨by omega, by omega, h3, fun v g1 g2 => h4 v (by omega) g2⟩
theorem head_none {p : Nat → Bool} (n s : Nat) : ((List.range' s n).filter p).head? = none ↔ ∀ v, s ≤ v → v < s + n → p v = false := by
  rw [List.head?_eq_none_iff, List.filter_eq_nil_iff]
  constructor
  · intro h v h1 h2
    have := h v (List.mem_range'_1.mpr ⟨h1, h2⟩)
    simpa using this
  · intro h v hv
    obtain ⟨h1, h2⟩ := List.mem_range'_1.mp hv
    rw [h v h1 h2]
    simp
theorem nx_some {t : List Nat} {s c k : Nat} (hs : s ≤ t.length) : nx t s c = some k ↔ NextAt t s c k := by
  unfold nx
  rw [head_filter]
  constructor
  · intro ⟨h1, h2, h3, h4⟩
    exact ⟨h1, by omega, of_decide_eq_true h3, fun v g1 g2 => of_decide_eq_false (h4 v g1 g2)⟩
  · intro h
    exact ⟨h.ge, by have := h.lt; omega, decide_eq_true h.at_, fun v g1 g2 => decide_eq_false (h.first v g1 g2)⟩
theorem nx_none {t : List Nat} {s c : Nat} (hs : s ≤ t.length) : nx t s c = none ↔ ∀ v, s ≤ v → v < t.length → t.getD v 0 ≠ c := by
  unfold nx
  rw [head_none]
  constructor
  · intro h v h1 h2
    exact of_decide_eq_false (h v h1 (by omega))
  · intro h v h1 h2
    exact decide_eq_false (h v h1 (by omega))
def gp (t : List Nat) : List Nat → Nat → Option (List Nat)
  | [], _ => some []
  | c :: w, s => match nx t s c with
    | none => none
    | some k => (gp t w (k + 1)).map (k :: ·)
theorem drop_cons {t : List Nat} {n : Nat} (h : n < t.length) : t.drop n = t.getD n 0 :: t.drop (n + 1) := by
  rw [List.drop_eq_getElem_cons h, List.getD_eq_getElem?_getD, List.getElem?_eq_getElem h]
  rfl
theorem emb_skip {t w : List Nat} {c : Nat} : ∀ (n s : Nat), s + n ≤ t.length → (∀ v, s ≤ v → v < s + n → t.getD v 0 ≠ c) → emb (c :: w) (t.drop s) = emb (c :: w) (t.drop (s + n))
  | 0, s, _, _ => rfl
  | n + 1, s, h, hne => by
    rw [drop_cons (show s < t.length by omega), emb_cc, if_neg (fun e => hne s (Nat.le_refl _) (by omega) e.symm), Nat.add_zero, emb_skip n (s + 1) (by omega) (fun v h1 h2 => hne v (by omega) (by omega)), show s + 1 + n = s + (n + 1) by omega]
theorem emb_next {t w : List Nat} {s c k : Nat} (h : NextAt t s c k) : emb (c :: w) (t.drop s) = emb (c :: w) (t.drop (k + 1)) + emb w (t.drop (k + 1)) := by
  obtain ⟨h1, h2, h3, h4⟩ := h
  have e := emb_skip (w := w) (k - s) s (by omega) (fun v g1 g2 => h4 v g1 (by omega))
  rw [e, show s + (k - s) = k by omega, drop_cons h2, emb_cc, if_pos h3.symm]
theorem emb_no {t w : List Nat} {s c : Nat} (hs : s ≤ t.length) (h : ∀ v, s ≤ v → v < t.length → t.getD v 0 ≠ c) : emb (c :: w) (t.drop s) = 0 := by
  rw [emb_skip (t.length - s) s (by omega) (fun v h1 h2 => h v h1 (by omega)), show s + (t.length - s) = t.length by omega, List.drop_length]
  rfl
theorem gp_some (t : List Nat) : ∀ (w : List Nat) (s : Nat), s ≤ t.length → ((gp t w s).isSome = true ↔ 0 < emb w (t.drop s))
  | [], s, hs => by rw [emb_nil]; simp [gp]
  | c :: w, s, hs => by
    unfold gp
    cases e : nx t s c with
    | none =>
      rw [emb_no hs ((nx_none hs).mp e)]
      simp
    | some k =>
      have h := (nx_some hs).mp e
      have ih := gp_some t w (k + 1) h.lt
      rw [emb_next h]
      show ((gp t w (k + 1)).map (k :: ·)).isSome = true ↔ _
      rw [Option.isSome_map, ih]
      constructor
      · intro z; omega
      · intro z
        by_cases y : 0 < emb (c :: w) (t.drop (k + 1))
        · exact emb_tail c w _ y
        · omega
def fc (t : List Nat) (s c : Nat) (w : List Nat) : Option Nat := (((List.range' s (t.length - s)).filter fun v => decide (t.getD v 0 = c)).filter fun v => spB w (t.drop (v + 1))).head?
def lf (t : List Nat) : List Nat → Nat → Option (List Nat)
  | [], _ => some []
  | c :: w, s => match fc t s c w with
    | none => none
    | some k => (lf t w (k + 1)).map (k :: ·)
theorem len_list (z : Str) : z.cps.toList.length = z.length := by simp [Str.length]
theorem same_put {H H' : Hp} {c : Addr} (e : Same H H') (h : H c = none) (o : HO) : Same H (upd H' c o) := fun b u q => by
  rw [upd_ne (ne_of_none q h)]
  exact e b u q
def nI (n : Nat) : V := .int (n : Int)
def lbv : Option Nat → Int
  | none => 0
  | some k => (k : Int) + 1
theorem find_nx (t : Str) (s c : Nat) (hs : s ≤ t.length) : Txt.find3 t ⟨#[c]⟩ ((s : Nat) : Int) + 1 = lbv (nx t.cps.toList s c) := by
  have hl := len_list t
  have hs' : s ≤ t.cps.toList.length := by omega
  have hD : ∀ v : Nat, t.cps.getD v 0 = t.cps.toList.getD v 0 := fun v => by
    rw [List.getD_eq_getElem?_getD, Array.getElem?_toList, Array.getD_eq_getD_getElem?]
  have hf : PySem.fromIndex t.length ((s : Nat) : Int) = s := by
    unfold PySem.fromIndex
    rw [if_neg (by omega)]
    omega
  rcases StrLaws.find3_spec t c ((s : Nat) : Int) with ⟨e, hn⟩ | ⟨k, hk, h1, h2, h3, h4⟩
  · rw [hf] at hn
    rw [e, (nx_none hs').mpr fun v g1 g2 => by rw [← hD]; exact hn v g1 (by omega)]
    rfl
  · rw [hf] at h1 h4
    rw [hk, (nx_some hs').mpr ⟨h1, by omega, by rw [← hD]; exact h3, fun v g1 g2 => by rw [← hD]; exact h4 v g1 g2⟩]
    rfl
def spLB : Sp := fun vs H Q _ => ∃ (t : Str) (s c : Nat), vs = [.str t, nI s, .str ⟨#[c]⟩] ∧ s ≤ t.length ∧ Q (.int (lbv (nx t.cps.toList s c))) H
theorem ok_left_behind {f : Addr} {fd : FuncData} (F : Fun K "left_behind" "left_behind" s_left_behind f fd) (Z : Blt mg) : FnOk P w K mg base CX0 1 f fd ["text", "start", "letter"] spLB := by
  refine F.ok sc_left_behind (fun vs H Q E h => ?_) (fun cdv A outer s H vs Q E hr h => ?_)
  · obtain ⟨t, s, c, rfl, _⟩ := h
    rfl
  obtain ⟨t, s', c, rfl, hs, k⟩ := h
  refine ⟨_, (pss_one (ps_ret (pe_op op_add (pe_bmK (K := K) PySem.F.plainAttrs_str PySem.F.slot_str_find PySem.F.type_str_find mt_find3 (pv 0) (pa_cons (pv 2) (pa_cons (pv 1) pa_nil))) pe_int))), ?_⟩
  refine ⟨_, rfl, rfl, _, rfl, _, rfl, t, _, _, rfl, rfl, _, _, rfl, rfl, ?_⟩
  show Q (.int (Txt.find3 t ⟨#[c]⟩ ((s' : Nat) : Int) + 1)) H
  rw [find_nx t s' c hs]
  exact k
def Told (H : Hp) (o : Option (List Nat)) (v : V) (H' : Hp) : Prop := Same H H' ∧ match o with
  | none => v = .non
  | some ks => ∃ l, v = .ref l ∧ H l = none ∧ H' l = some (.lst (ks.map nI)) ∧ ks.length ≤ 100
def spPlaces : Sp := fun vs H Q _ => ∃ z t : Str, vs = [.str z, .str t] ∧ z.length ≤ 100 ∧ t.length ≤ 100 ∧ ∀ v H', Told H (gp t.cps.toList z.cps.toList 0) v H' → Q v H'
def spSpreadIn : Sp := fun vs H Q _ => ∃ z t : Str, vs = [.str z, .str t] ∧ z.length ≤ 100 ∧ t.length ≤ 100 ∧ ∀ H', Same H H' → Q (.bl (gp t.cps.toList z.cps.toList 0).isSome) H'
theorem map_snoc {α β : Type} (f : α → β) (l : List α) (x : α) : l.map f ++ [f x] = (l ++ [x]).map f := by
  rw [List.map_append]
  rfl
theorem gp_cons (t : List Nat) (c : Nat) (w : List Nat) (s : Nat) : gp t (c :: w) s = (match nx t s c with | none => none | some k => (gp t w (k + 1)).map (k :: ·)) := rfl
theorem gp_step {t w : List Nat} {i c s k : Nat} {ks : List Nat} {o : Option (List Nat)} (hc : w[i]? = some c) (h : o = (gp t (w.drop i) s).map (ks ++ ·)) (hk : nx t s c = some k) : o = (gp t (w.drop (i + 1)) (k + 1)).map ((ks ++ [k]) ++ ·) := by
  have hi : i < w.length := (List.getElem?_eq_some_iff.mp hc).1
  have hd : w.drop i = c :: w.drop (i + 1) := by
    rw [List.drop_eq_getElem_cons hi]
    rw [List.getElem?_eq_getElem hi] at hc
    rw [Option.some.inj hc]
  rw [h, hd, gp_cons, hk]
  show ((gp t (w.drop (i + 1)) (k + 1)).map (k :: ·)).map (ks ++ ·) = _
  rw [Option.map_map]
  congr 1
  funext x
  simp
theorem gp_stop {t w : List Nat} {i c s : Nat} {ks : List Nat} {o : Option (List Nat)} (hc : w[i]? = some c) (h : o = (gp t (w.drop i) s).map (ks ++ ·)) (hk : nx t s c = none) : o = none := by
  have hi : i < w.length := (List.getElem?_eq_some_iff.mp hc).1
  have hd : w.drop i = c :: w.drop (i + 1) := by
    rw [List.drop_eq_getElem_cons hi]
    rw [List.getElem?_eq_getElem hi] at hc
    rw [Option.some.inj hc]
  rw [h, hd, gp_cons, hk]
  rfl
theorem ok_places {f : Addr} {fd : FuncData} (F : Fun K "places" "places" s_places f fd) (Z : Blt mg) (C_left_behind : Cal P w K mg base "left_behind" 1 ["text", "start", "letter"] spLB) : FnOk P w K mg base CX0 2 f fd ["word", "text"] spPlaces := by
  refine F.ok sc_places (fun vs H Q E h => ?_) (fun cdv A outer s H vs Q E hr h => ?_)
  · obtain ⟨z, t, rfl, _⟩ := h
    rfl
  obtain ⟨z, t, rfl, hz, ht, k⟩ := h
  refine ⟨_, (pss_cons (ps_set (i := 2) sc_places.nd (by rfl) (Or.inl (by rfl)) (pe_lst pa_nil)) 
      (pss_cons (ps_set (i := 3) sc_places.nd (by rfl) (Or.inl (by rfl)) pe_int) 
      (pss_cons (ps_for PassesOwn.never (by rfl) (pi_str (pv 0)) (pg_name (i := 4) sc_places.nd (by rfl) (Or.inl (by rfl))) 
        (pss_cons (ps_set (i := 3) sc_places.nd (by rfl) (Or.inl (by rfl)) (pe_c C_left_behind (hr.mono (by decide)) (pa_cons (pv 1) (pa_cons (pv 3) (pa_cons (pv 4) pa_nil))))) 
        (pss_cons (ps_if (pt_cmpR op_eq (pv 3) pe_int (nomark _)) 
          (pss_one (ps_ret pe_non)) pss_nil) 
        (pss_one (ps_expr (pe_bmK (K := K) PySem.F.plainAttrs_list PySem.F.slot_list_append PySem.F.type_list_append mt_append (pv 2) (pa_cons (pe_op op_sub (pv 3) pe_int) pa_nil))))))) 
      (pss_one (ps_ret (pv 2)))))), ?_⟩
  have hl := len_list z
  have htl := len_list t
  refine ⟨(by show 0 ≤ sizeLine; decide), fun l hnl => ?_⟩
  refine ⟨_, rfl, z, rfl, ?_⟩
  refine for_str (cs := z.cps.toList) (fun i σ H2 => ∃ (ks : List Nat) (s : Nat) (v : Option V), σ = [some (.str z), some (.str t), some (.ref l), some (nI s), v] ∧ H2 l = some (.lst (ks.map nI)) ∧ Same H H2 ∧ s ≤ t.length ∧ ks.length = i ∧ gp t.cps.toList z.cps.toList 0 = (gp t.cps.toList (z.cps.toList.drop i) s).map (ks ++ ·))
    ⟨[], 0, none, rfl, upd_same, same_new hnl _, Nat.zero_le _, rfl, by rw [List.drop_zero]; simp⟩ ?_ ?_
  · rintro i c σ H2 hc ⟨ks, s, v, rfl, h2l, e2, hs, hkl, hg⟩
    have hiz : i < z.cps.toList.length := (List.getElem?_eq_some_iff.mp hc).1
    refine ⟨_, rfl, _, rfl, _, rfl, t, s, c, rfl, hs, ?_⟩
    cases hx : nx t.cps.toList s c with
    | none =>
      refine ⟨_, rfl, rfl, _, rfl, iteD rfl ?_⟩
      have hg' := gp_stop hc hg hx
      exact k _ H2 ⟨e2, by rw [hg']⟩
    | some q =>
      have hq := (nx_some (by omega)).mp hx
      have hql := hq.lt
      refine ⟨_, rfl, rfl, _, rfl, ?_⟩
      have hne : decide (V.int (lbv (some q)) = V.int 0) = false := decide_eq_false fun h => by
        injection h with h
        have h' : (q : Int) + 1 = 0 := h
        omega
      rw [hne]
      refine iteF ⟨_, rfl, .inl ⟨rfl, _, SqL.of h2l⟩, _, rfl, _, _, rfl, rfl, l, _, _, rfl, rfl, h2l, ?_, ?_⟩
      · rw [List.length_map]
        exact small1000 (by omega)
      · refine ⟨ks ++ [q], q + 1, _, rfl, ?_, same_put e2 hnl _, by omega, by rw [List.length_append, hkl]; rfl, gp_step hc hg hx⟩
        rw [upd_same, ← map_snoc]
        have e5 : V.int (lbv (some q) - 1) = nI q := by
          show V.int ((q : Int) + 1 - 1) = V.int (q : Int)
          rw [show (q : Int) + 1 - 1 = (q : Int) by omega]
        show some (HO.lst (ks.map nI ++ [V.int (lbv (some q) - 1)])) = _
        rw [e5]
  · rintro σ H2 ⟨ks, s, v, rfl, h2l, e2, hs, hkl, hg⟩
    refine ⟨_, rfl, ?_⟩
    rw [List.drop_length] at hg
    refine k _ H2 ⟨e2, ?_⟩
    rw [hg]
    exact ⟨l, rfl, hnl, by simpa [gp] using h2l, by simp; omega⟩
theorem told_some {H H' : Hp} {o : Option (List Nat)} {v : V} (h : Told H o v H') : (!decide (v = V.non)) = o.isSome := by
  obtain ⟨_, h⟩ := h
  cases o with
  | none =>
    have h' : v = .non := h
    rw [h']
    rfl
  | some ks =>
    obtain ⟨l, rfl, _⟩ := h
    rfl
theorem ok_spread_in {f : Addr} {fd : FuncData} (F : Fun K "spread_in" "spread_in" s_spread_in f fd) (Z : Blt mg) (C_places : Cal P w K mg base "places" 2 ["word", "text"] spPlaces) : FnOk P w K mg base CX0 3 f fd ["word", "text"] spSpreadIn := by
  refine F.ok sc_spread_in (fun vs H Q E h => ?_) (fun cdv A outer s H vs Q E hr h => ?_)
  · obtain ⟨z, t, rfl, _⟩ := h
    rfl
  obtain ⟨z, t, rfl, hz, ht, k⟩ := h
  refine ⟨_, (pss_one (ps_ret (pe_cmpR op_notN (pe_c C_places (hr.mono (by decide)) (pa_cons (pv 0) (pa_cons (pv 1) pa_nil))) pe_non (nomark _)))), ?_⟩
  refine ⟨_, rfl, _, rfl, z, t, rfl, hz, ht, fun v H' hT => ⟨rfl, ?_⟩⟩
  rw [told_some hT]
  exact k H' hT.1
def Tk (H H' : Hp) : Prop := ∀ b ys, H b = some (.tup ys) → H' b = some (.tup ys)
theorem Tk.same {H H' : Hp} (e : Same H H') : Tk H H' := fun b ys h => e b _ h
theorem Tk.trans {H H1 H2 : Hp} (a : Tk H H1) (b : Tk H1 H2) : Tk H H2 := fun c ys h => b c ys (a c ys h)
theorem Tk.lst {H : Hp} {l : Addr} {xs : List V} (h : H l = some (.lst xs)) (o : HO) : Tk H (upd H l o) := fun b ys e => by
  rw [upd_ne (ne_of e h fun z => nomatch z)]
  exact e
theorem none_of {H H' : Hp} {p : Addr} (e : Same H H') (h : H' p = none) : H p = none := by
  cases z : H p with
  | none => rfl
  | some o => rw [e _ _ z] at h; cases h
theorem Tk.drew {H H' : Hp} {p sc : Addr} (F : FlowAt H p sc) (d : Drew H H' p) : Tk H H' := fun b ys h => by
  obtain ⟨xs, hp, _⟩ := F.here
  exact d _ _ h (ne_of h hp fun z => nomatch z)
inductive TR {α : Type} (tv : α → List V) (H : Hp) : List V → List α → Prop where
  | nil : TR tv H [] []
  | cons {a : Addr} {r : α} {vs : List V} {rs : List α} (h : H a = some (.tup (tv r))) (t : TR tv H vs rs) : TR tv H (.ref a :: vs) (r :: rs)
section
variable {α : Type} {tv : α → List V}
theorem TR.keep {H H' : Hp} (e : Tk H H') : ∀ {vs : List V} {rs : List α}, TR tv H vs rs → TR tv H' vs rs
  | _, _, .nil => .nil
  | _, _, .cons h t => .cons (e _ _ h) (t.keep e)
theorem TR.app {H : Hp} {ws : List V} {qs : List α} (h : TR tv H ws qs) : ∀ {vs : List V} {rs : List α}, TR tv H vs rs → TR tv H (vs ++ ws) (rs ++ qs)
  | _, _, .nil => h
  | _, _, .cons h' t => .cons h' (TR.app h t)
theorem TR.snoc {H : Hp} {a : Addr} {r : α} {vs : List V} {rs : List α} (h : H a = some (.tup (tv r))) (t : TR tv H vs rs) : TR tv H (vs ++ [.ref a]) (rs ++ [r]) := TR.app (.cons h .nil) t
theorem TR.len {H : Hp} : ∀ {vs : List V} {rs : List α}, TR tv H vs rs → vs.length = rs.length
  | _, _, .nil => rfl
  | _, _, .cons _ t => by rw [List.length_cons, List.length_cons, t.len]
theorem TR.at_ {H : Hp} : ∀ {vs : List V} {rs : List α} {i : Nat} {x : V}, TR tv H vs rs → vs[i]? = some x → ∃ a r, x = .ref a ∧ rs[i]? = some r ∧ H a = some (.tup (tv r))
  | _, _, i, x, .nil, h => by simp at h
  | _, _, 0, x, .cons (a := a) (r := r) h' t, h => by
    cases h
    exact ⟨a, r, rfl, rfl, h'⟩
  | _, _, i + 1, x, .cons h' t, h => t.at_ (i := i) (by simpa using h)
end
inductive Wi where
  | lf (b : Bool)
  | has (z : Str)
  | nt (x : Wi)
  | bi (b : Bool) (x y : Wi)
def Wi.nm : Wi → Str
  | .lf b => if b then "always" else "never"
  | .has _ => "has"
  | .nt _ => "not"
  | .bi b _ _ => if b then "and" else "or"
def Wi.hd : Wi → List V
  | .lf b => [.str (Wi.lf b).nm]
  | .has z => [.str "has", .str z]
  | .nt _ => [.str "not"]
  | .bi b x y => [.str (Wi.bi b x y).nm]
def Wi.kd : Wi → List Wi
  | .lf _ => []
  | .has _ => []
  | .nt x => [x]
  | .bi _ x y => [x, y]
def Wi.sz : Wi → Nat
  | .lf _ => 1
  | .has _ => 1
  | .nt x => x.sz + 1
  | .bi _ x y => x.sz + y.sz + 1
def Wi.dep : Wi → Nat
  | .lf _ => 0
  | .has _ => 0
  | .nt x => x.dep + 1
  | .bi _ x y => max x.dep y.dep + 1
def Wi.ok (p : Str → Prop) : Wi → Prop
  | .lf _ => True
  | .has z => p z
  | .nt x => x.ok p
  | .bi _ x y => x.ok p ∧ y.ok p
def Wi.pre : Wi → List Wi
  | .lf b => [.lf b]
  | .has z => [.has z]
  | .nt x => .nt x :: x.pre
  | .bi b x y => .bi b x y :: (x.pre ++ y.pre)
def Wi.wd : Wi → Option Str
  | .has z => some z
  | _ => none
def Wi.wds (W : Wi) : List Str := W.pre.filterMap Wi.wd
theorem Wi.sz_pos (W : Wi) : 0 < W.sz := by cases W <;> simp [Wi.sz]
theorem Wi.pre_kd (W : Wi) : W.pre = W :: W.kd.flatMap Wi.pre := by
  cases W <;> simp [Wi.pre, Wi.kd]
theorem Wi.pre_len (W : Wi) : W.pre.length = W.sz := by
  induction W with
  | lf b => rfl
  | has z => rfl
  | nt x ih => simp [Wi.pre, Wi.sz, ih]
  | bi b x y ihx ihy => simp [Wi.pre, Wi.sz, ihx, ihy]
theorem Wi.wds_len (W : Wi) : W.wds.length ≤ W.sz := by
  rw [← W.pre_len]
  exact List.length_filterMap_le _ _
theorem Wi.wds_nt (x : Wi) : (Wi.nt x).wds = x.wds := by
  show (Wi.nt x :: x.pre).filterMap Wi.wd = _
  rw [List.filterMap_cons_none rfl]
  rfl
theorem Wi.wds_bi (b : Bool) (x y : Wi) : (Wi.bi b x y).wds = x.wds ++ y.wds := by
  show (Wi.bi b x y :: (x.pre ++ y.pre)).filterMap Wi.wd = _
  rw [List.filterMap_cons_none rfl, List.filterMap_append]
  rfl
theorem Wi.ok_wds {p : Str → Prop} {W : Wi} (h : W.ok p) : ∀ z ∈ W.wds, p z := by
  induction W with
  | lf b => intro z hz; simp [Wi.wds, Wi.pre, Wi.wd] at hz
  | has y => intro z hz; simp [Wi.wds, Wi.pre, Wi.wd] at hz; rw [hz]; exact h
  | nt x ih => intro z hz; rw [Wi.wds_nt] at hz; exact ih h z hz
  | bi b x y ihx ihy =>
    intro z hz
    rw [Wi.wds_bi] at hz
    rcases List.mem_append.mp hz with e | e
    · exact ihx h.1 z e
    · exact ihy h.2 z e
theorem Wi.kd_sum (W : Wi) : (W.kd.map Wi.sz).sum + 1 = W.sz := by
  cases W <;> simp [Wi.kd, Wi.sz] <;> omega
inductive WAt (H : Hp) : V → Wi → Prop where
  | mk {a : Addr} {vs : List V} {W : Wi} (h : H a = some (.tup (W.hd ++ vs))) (hl : vs.length = W.kd.length) (hk : ∀ (i : Nat) v x, vs[i]? = some v → W.kd[i]? = some x → WAt H v x) : WAt H (.ref a) W
theorem WAt.keep {H H' : Hp} (k : Tk H H') {v : V} {W : Wi} (h : WAt H v W) : WAt H' v W := by
  induction h with
  | mk h hl _ ih => exact .mk (k _ _ h) hl ih
def Ws (H : Hp) (vs : List V) (ws : List Wi) : Prop := vs.length = ws.length ∧ ∀ (i : Nat) v x, vs[i]? = some v → ws[i]? = some x → WAt H v x
theorem Ws.keep {H H' : Hp} (k : Tk H H') {vs : List V} {ws : List Wi} (h : Ws H vs ws) : Ws H' vs ws := ⟨h.1, fun i v x a b => (h.2 i v x a b).keep k⟩
theorem Ws.nil {H : Hp} : Ws H [] [] := ⟨rfl, fun i v x a => by simp at a⟩
theorem Ws.app {H : Hp} {vs us : List V} {ws xs : List Wi} (a : Ws H vs ws) (b : Ws H us xs) : Ws H (vs ++ us) (ws ++ xs) := by
  refine ⟨by rw [List.length_append, List.length_append, a.1, b.1], fun i v x h1 h2 => ?_⟩
  by_cases c : i < vs.length
  · rw [List.getElem?_append_left c] at h1
    rw [List.getElem?_append_left (by rw [← a.1]; exact c)] at h2
    exact a.2 i v x h1 h2
  · rw [List.getElem?_append_right (by omega)] at h1
    rw [List.getElem?_append_right (by rw [← a.1]; omega), ← a.1] at h2
    exact b.2 _ v x h1 h2
theorem Ws.one {H : Hp} {v : V} {x : Wi} (h : WAt H v x) : Ws H [v] [x] := by
  refine ⟨rfl, fun i u y a b => ?_⟩
  cases i with
  | zero => cases a; cases b; exact h
  | succ i => simp at a
theorem Ws.take {H : Hp} {vs : List V} {ws : List Wi} (h : Ws H vs ws) (n : Nat) : Ws H (vs.take n) (ws.take n) := by
  refine ⟨by rw [List.length_take, List.length_take, h.1], fun i v x a b => ?_⟩
  rw [List.getElem?_take] at a b
  by_cases c : i < n
  · rw [if_pos c] at a b
    exact h.2 i v x a b
  · rw [if_neg c] at a
    cases a
theorem Ws.rev {H : Hp} {vs : List V} {ws : List Wi} (h : Ws H vs ws) : Ws H vs.reverse ws.reverse := by
  refine ⟨by rw [List.length_reverse, List.length_reverse, h.1], fun i v x a b => ?_⟩
  have hi : i < vs.length := by
    have := (List.getElem?_eq_some_iff.mp a).1
    rwa [List.length_reverse] at this
  rw [List.getElem?_reverse hi] at a
  rw [List.getElem?_reverse (by rw [← h.1]; exact hi), ← h.1] at b
  exact h.2 _ v x a b
theorem WAt.see {H : Hp} {v : V} {W : Wi} (h : WAt H v W) : ∃ a vs, v = .ref a ∧ H a = some (.tup (W.hd ++ vs)) ∧ Ws H vs W.kd := by
  cases h with
  | mk h hl hk => exact ⟨_, _, rfl, h, hl, hk⟩
theorem wat_of {H : Hp} {a : Addr} {us : List V} {W : Wi} (h : H a = some (.tup (W.hd ++ us))) (k : Ws H us W.kd) : WAt H (.ref a) W := .mk h k.1 k.2
theorem with_leaf {B G : Prop} (h : B → G) (b : B) : G := h b
def spWish (n : Nat) : Sp := fun vs H Q _ => ∃ (p sc : Addr) (l : Str) (room deep most : Int), vs = [.ref p, .str l, .int room, .int deep, .int most] ∧ 0 < l.length ∧ l.length ≤ 1000 ∧ 1 ≤ room ∧ room ≤ 100 ∧ 0 ≤ deep ∧ deep < n ∧ 0 ≤ most ∧ most ≤ 100 ∧ FlowAt H p sc ∧
  ∀ v W H', WAt H' v W → (W.sz : Int) ≤ room → (W.dep : Int) ≤ deep → W.ok (fun z => (z.cps.toList.length : Int) ≤ most ∧ ∀ c ∈ z.cps.toList, c ∈ l.cps.toList) → Drew H H' p → FlowAt H' p sc → Q v H'
theorem wish_step {n : Nat} {f : Addr} {fd : FuncData} (F : Fun K "_law_wish" "_law_wish" s_law_wish f fd) (Z : Blt mg) (C_law_pick : Cal P w K mg base "_law_pick" 1 ["_law_flow_here", "_law_many"] spPick) (C_law_wish : Cal P w K mg base "_law_wish" (n + 1) ["_law_flow_here", "_law_letters_here", "_law_room", "_law_deep", "_law_most"] (spWish n)) :
    FnOk P w K mg base CX0 (n + 2) f fd ["_law_flow_here", "_law_letters_here", "_law_room", "_law_deep", "_law_most"] (spWish (n + 1)) := by
  refine F.ok sc_law_wish (fun vs H Q E h => ?_) (fun cdv A outer s H vs Q E hr h => ?_)
  · obtain ⟨p, sc, l, room, deep, most, rfl, _⟩ := h
    rfl
  obtain ⟨p, sc, l, room, deep, most, rfl, hl0, hl1, hm0, hm1, hd0, hd1, ht0, ht1, FA, k⟩ := h
  refine ⟨_, (pss_cons (ps_set (i := 5) sc_law_wish.nd (by rfl) (Or.inl (by rfl)) (pe_c C_law_pick (hr.mono (by omega)) (pa_cons (pv 0) (pa_cons pe_int pa_nil)))) 
      (pss_cons (ps_if (PW.pt (pw_or (pt_cmpR op_lt (pv 2) pe_int (nomark _)) (pw_or (pt_cmpR op_eq (pv 3) pe_int (nomark _)) (pw_or1 (pt_cmpR op_eq (pv 5) pe_int (nomark _)))))) 
        (pss_cons (ps_set (i := 6) sc_law_wish.nd (by rfl) (Or.inl (by rfl)) (pe_c C_law_pick (hr.mono (by omega)) (pa_cons (pv 0) (pa_cons pe_int pa_nil)))) 
        (pss_cons (ps_if (pt_cmpR op_lt (pv 6) pe_int (nomark _)) 
          (pss_one (ps_ret (pe_ix (ix_listK (K := K)) (pe_lst (pa_cons (pe_tup (pa_cons pe_str pa_nil)) (pa_cons (pe_tup (pa_cons pe_str pa_nil)) pa_nil))) (pv 6) (fun _ _ => rfl)))) pss_nil) 
        (pss_one (ps_ret (pe_tup (pa_cons pe_str (pa_cons (pe_bmK (K := K) PySem.F.plainAttrs_str PySem.F.slot_str_join PySem.F.type_str_join (mt_joinK (K := K)) pe_str (pa_cons (pe_comp (sc := defScope s_law_wish) (Nm := ["_law_flow_here", "_law_letters_here", "_law_room", "_law_deep", "_law_most", "_law_way", "_law_drawn", "_law_first", "_law_one", "_law_other"]) (own := ["_law_k"]) (fr := [0, 1]) ⟨rfl, by decide +kernel, by decide +kernel, by decide +kernel, by decide +kernel⟩ (by rfl) (gfr_name (by decide)) (pi_range1 (by rfl) Z.range (pa_cons (pe_c C_law_pick (hr.mono (by omega)) (pa_cons (pv 0) (pa_cons (pe_op op_add (pv 4) pe_int) pa_nil))) pa_nil)) (fun d => (pg_name (i := 0) nd_law_wish_0 (by rfl) (Or.inl (by rfl)))) (fun d => pts_nil) (fun d => (pe_ix ix_str (pv 2) (pe_c C_law_pick (hr.mono (by omega)) (pa_cons (pv 1) (pa_cons (pe_callB call_len_str (by rfl) Z.len bt_len (pa_cons (pv 2) pa_nil)) pa_nil))) (fun _ _ => rfl)))) pa_nil)) pa_nil))))))) pss_nil) 
      (pss_cons (ps_if (PW.pt (pw_or (pt_cmpR op_lt (pv 5) pe_int (nomark _)) (pw_or1 (pt_cmpR op_lt (pv 2) pe_int (nomark _))))) 
        (pss_one (ps_ret (pe_tup (pa_cons pe_str (pa_cons (pe_c C_law_wish hr (pa_cons (pv 0) (pa_cons (pv 1) (pa_cons (pe_op op_sub (pv 2) pe_int) (pa_cons (pe_op op_sub (pv 3) pe_int) (pa_cons (pv 4) pa_nil)))))) pa_nil))))) pss_nil) 
      (pss_cons (ps_set (i := 7) sc_law_wish.nd (by rfl) (Or.inl (by rfl)) (pe_op op_add pe_int (pe_c C_law_pick (hr.mono (by omega)) (pa_cons (pv 0) (pa_cons (pe_op op_sub (pv 2) pe_int) pa_nil))))) 
      (pss_cons (ps_set (i := 8) sc_law_wish.nd (by rfl) (Or.inl (by rfl)) (pe_c C_law_wish hr (pa_cons (pv 0) (pa_cons (pv 1) (pa_cons (pv 7) (pa_cons (pe_op op_sub (pv 3) pe_int) (pa_cons (pv 4) pa_nil))))))) 
      (pss_cons (ps_set (i := 9) sc_law_wish.nd (by rfl) (Or.inl (by rfl)) (pe_c C_law_wish hr (pa_cons (pv 0) (pa_cons (pv 1) (pa_cons (pe_op op_sub (pe_op op_sub (pv 2) pe_int) (pv 7)) (pa_cons (pe_op op_sub (pv 3) pe_int) (pa_cons (pv 4) pa_nil))))))) 
      (pss_one (ps_ret (pe_tup (pa_cons (pe_ix (ix_listK (K := K)) (pe_lst (pa_cons pe_str (pa_cons pe_str pa_nil))) (pe_c C_law_pick (hr.mono (by omega)) (pa_cons (pv 0) (pa_cons pe_int pa_nil))) (fun _ _ => rfl)) (pa_cons (pv 8) (pa_cons (pv 9) pa_nil)))))))))))), ?_⟩
  refine ⟨_, rfl, p, sc, 6, rfl, by decide, by decide, FA, fun r0 xs0 h00 h01 hx0 => ?_⟩
  have FA0 := FA.go hx0
  have d0 : Drew H (upd H p (.lst xs0)) p := Drew.upd _
  generalize upd H p (.lst xs0) = H0 at FA0 d0
  refine with_leaf (fun leaf => ⟨_, rfl, _, _, rfl, rfl, _, rfl, ite2 (fun _ => leaf) (fun c1 => ⟨_, rfl, rfl, _, rfl, ite2 (fun _ => leaf) (fun c2 => ⟨_, rfl, rfl, _, rfl, ite2 (fun _ => leaf) (fun _ => ?_)⟩)⟩)⟩) ?_
  · have hdeep : deep ≠ 0 := fun e => by subst e; simp at c2
    have hroom : ¬ room < 2 := of_decide_eq_false (by simpa using c1)
    refine with_leaf (fun notb => ⟨_, rfl, _, _, rfl, rfl, _, rfl, ite2 (fun _ => notb) (fun _ => ⟨_, rfl, _, _, rfl, rfl, _, rfl, ite2 (fun _ => notb) (fun c5 => ?_)⟩)⟩) ?_
    · have hroom3 : ¬ room < 3 := of_decide_eq_false (by simpa using c5)
      refine ⟨_, rfl, _, rfl, _, _, rfl, rfl, p, sc, room - 2, rfl, by omega, by omega, FA0, fun r1 xs1 h10 h11 hx1 => ⟨_, _, rfl, rfl, ?_⟩⟩
      have FA1 := FA0.go hx1
      have d1 := drew_go d0 (.lst xs1)
      generalize upd H0 p (.lst xs1) = H1 at FA1 d1
      refine ⟨_, rfl, _, rfl, _, rfl, _, rfl, _, _, rfl, rfl, _, rfl, p, sc, l, 1 + r1, deep - 1, most, rfl, hl0, hl1, by omega, by omega, by omega, by omega, ht0, ht1, FA1, fun v1 W1 H2 hW1 sz1 dp1 ok1 dr2 FA2 => ?_⟩
      refine ⟨_, rfl, _, rfl, _, rfl, _, _, rfl, rfl, _, rfl, _, _, rfl, rfl, _, rfl, _, _, rfl, rfl, _, rfl, p, sc, l, room - 1 - (1 + r1), deep - 1, most, rfl, hl0, hl1, by omega, by omega, by omega, by omega, ht0, ht1, FA2, fun v2 W2 H3 hW2 sz2 dp2 ok2 dr3 FA3 => ?_⟩
      have hW1' := hW1.keep (Tk.drew FA2 dr3)
      refine ⟨(by show 2 ≤ sizeLine; decide), fun x hx => ⟨_, rfl, p, sc, 2, rfl, by decide, by decide, FA3.same (same_new hx _), fun r4 xs4 h40 h41 hx4 => ?_⟩⟩
      have nxp : x ≠ p := by
        obtain ⟨ys, h1, _⟩ := FA3.here
        exact (ne_of_none h1 hx).symm
      have s4 := same_new hx (.lst [V.str "and", V.str "or"])
      have h4x := upd_same (H := H3) (a := x) (o := .lst [V.str "and", V.str "or"])
      have FA4 := (FA3.same s4).go hx4
      have d4 := drew_go (((d1.trans dr2).trans dr3).trans (Drew.same s4)) (.lst xs4)
      have hW1'' := (hW1'.keep (Tk.same s4)).keep (Tk.drew (FA3.same s4) (Drew.upd (.lst xs4)))
      have hW2'' := (hW2.keep (Tk.same s4)).keep (Tk.drew (FA3.same s4) (Drew.upd (.lst xs4)))
      have h5x := (upd_ne (H := upd H3 x (.lst [V.str "and", V.str "or"])) (o := .lst xs4) nxp).trans h4x
      obtain ⟨b, hb⟩ : ∃ b : Bool, atI [V.str "and", V.str "or"] r4 = some (.str (Wi.bi b W1 W2).nm) := by
        have : r4 = 0 ∨ r4 = 1 := by omega
        rcases this with z | z
        · subst z; exact ⟨true, atI_nat (j := 0) rfl⟩
        · subst z; exact ⟨false, atI_nat (j := 1) rfl⟩
      refine ⟨x, _, _, _, rfl, rfl, SqL.of h5x, hb, _, rfl, _, rfl, (by show 3 ≤ sizeLine; decide), fun q hq => ?_⟩
      have s6 := same_new hq (.tup [V.str (Wi.bi b W1 W2).nm, v1, v2])
      refine k (.ref q) (.bi b W1 W2) _ (wat_of (us := [v1, v2]) upd_same ((Ws.one (hW1''.keep (Tk.same s6))).app (Ws.one (hW2''.keep (Tk.same s6))))) ?_ ?_ ⟨ok1, ok2⟩ (d4.trans (Drew.same s6)) (FA4.same s6)
      · show ((W1.sz + W2.sz + 1 : Nat) : Int) ≤ room
        omega
      · show ((max W1.dep W2.dep + 1 : Nat) : Int) ≤ deep
        omega
    · refine ⟨_, rfl, _, rfl, _, rfl, _, _, rfl, rfl, _, rfl, _, _, rfl, rfl, _, rfl, p, sc, l, room - 1, deep - 1, most, rfl, hl0, hl1, by omega, by omega, by omega, by omega, ht0, ht1, FA0, fun v1 W1 H2 hW1 sz1 dp1 ok1 dr2 FA2 => ⟨(by show 2 ≤ sizeLine; decide), fun q hq => ?_⟩⟩
      have s6 := same_new hq (.tup [V.str "not", v1])
      refine k (.ref q) (.nt W1) _ (wat_of (us := [v1]) upd_same (Ws.one (hW1.keep (Tk.same s6)))) ?_ ?_ ok1 ((d0.trans dr2).trans (Drew.same s6)) (FA2.same s6)
      · show ((W1.sz + 1 : Nat) : Int) ≤ room
        omega
      · show ((W1.dep + 1 : Nat) : Int) ≤ deep
        omega
  · refine ⟨_, rfl, p, sc, 6, rfl, by decide, by decide, FA0, fun r1 xs1 h10 h11 hx1 => ?_⟩
    have FA1 := FA0.go hx1
    have d1 := drew_go d0 (.lst xs1)
    generalize upd H0 p (.lst xs1) = H1 at FA1 d1
    refine ⟨_, rfl, _, _, rfl, rfl, _, rfl, ite2 (fun c => ?_) (fun _ => ?_)⟩
    · have hr1 : r1 = 0 ∨ r1 = 1 := by
        have := of_decide_eq_true c
        omega
      refine ⟨(by show 1 ≤ sizeLine; decide), fun a1 ha1 => ⟨(by show 1 ≤ sizeLine; decide), fun a2 ha2 => ⟨(by show 2 ≤ sizeLine; decide), fun x hx => ⟨_, rfl, ?_⟩⟩⟩⟩
      generalize hH4 : upd (upd (upd H1 a1 _) a2 _) x _ = H4
      have h4x : H4 x = some (.lst [V.ref a1, V.ref a2]) := by rw [← hH4]; exact upd_same
      have h41 : H4 a1 = some (.tup [V.str "always"]) := by rw [← hH4]; exact same_new hx _ _ _ (same_new ha2 _ _ _ upd_same)
      have h42 : H4 a2 = some (.tup [V.str "never"]) := by rw [← hH4]; exact same_new hx _ _ _ upd_same
      have s4 : Same H1 H4 := by rw [← hH4]; exact ((same_new ha1 _).trans (same_new ha2 _)).trans (same_new hx _)
      clear hH4
      rcases hr1 with e | e
      · subst e
        exact ⟨x, _, _, _, rfl, rfl, SqL.of h4x, atI_nat (j := 0) rfl, k (.ref a1) (.lf true) H4 (wat_of (us := []) h41 Ws.nil) (by show ((1 : Nat) : Int) ≤ room; omega) (by show ((0 : Nat) : Int) ≤ deep; omega) trivial (d1.trans (Drew.same s4)) (FA1.same s4)⟩
      · subst e
        exact ⟨x, _, _, _, rfl, rfl, SqL.of h4x, atI_nat (j := 1) rfl, k (.ref a2) (.lf false) H4 (wat_of (us := []) h42 Ws.nil) (by show ((1 : Nat) : Int) ≤ room; omega) (by show ((0 : Nat) : Int) ≤ deep; omega) trivial (d1.trans (Drew.same s4)) (FA1.same s4)⟩
    · refine ⟨rfl, _, rfl, _, rfl, _, _, rfl, rfl, p, sc, most + 1, rfl, by omega, by omega, FA1, fun n xs2 hn0 hn1 hx2 => ⟨_, rfl, by omega, by omega, ?_⟩⟩
      refine comp_range (lo := 0) (k := n.toNat) (Drawn H p sc l) (Nat.lt_of_le_of_lt (show n.toNat ≤ 100 by omega) (by decide)) ⟨[], rfl, rfl, fun c hc => absurd hc (by simp), FA1.go hx2, drew_go d1 _⟩ drawn_len
        (fun i acc H2 hi hp => cyes (drawn_turn hl0 hl1 rfl rfl hp)) (fun acc H2 hp q hq => ?_)
      obtain ⟨ys, rfl, hyl, hyc, FA2, dr⟩ := hp
      refine ⟨_, q, ys.map one, rfl, rfl, SqL.of (by rw [upd_same, oneS_map]), join_ones_len ys (by omega), (by show 2 ≤ sizeLine; decide), fun g hg => ?_⟩
      have s5 := same_new hq (.lst (ys.map oneS))
      have s6 := same_new hg (.tup [V.str "has", V.str (Txt.join (Str.ofString "") (ys.map one))])
      refine k (.ref g) (.has (Txt.join (Str.ofString "") (ys.map one))) _ (wat_of (us := []) upd_same Ws.nil) (by show ((1 : Nat) : Int) ≤ room; omega) (by show ((0 : Nat) : Int) ≤ deep; omega) ⟨?_, fun c hc => ?_⟩ ((dr.trans (Drew.same s5)).trans (Drew.same s6)) ((FA2.same s5).same s6)
      · rw [join_ones]; omega
      · rw [join_ones] at hc
        exact hyc c hc
theorem wish_none {f : Addr} {fd : FuncData} : FnOk P w K mg base CX0 1 f fd ["_law_flow_here", "_law_letters_here", "_law_room", "_law_deep", "_law_most"] (spWish 0) := by
  have no : ∀ vs H Q E, ¬ spWish 0 vs H Q E := fun vs H Q E h => by
    obtain ⟨p, sc, l, room, deep, most, _, _, _, _, _, hd0, hd1, _⟩ := h
    omega
  exact ⟨fun vs H Q E h => absurd h (no vs H Q E), fun A outer s H args us vs Q E _ _ _ _ h => absurd h (no vs H Q E)⟩
theorem ok_law_wish {f : Addr} {fd : FuncData} (F : Fun K "_law_wish" "_law_wish" s_law_wish f fd) (b : Binds K fd ["_law_flow_here", "_law_letters_here", "_law_room", "_law_deep", "_law_most"] []) (m : mg "_law_wish" = some (.ref f)) (Z : Blt mg) (C_law_pick : Cal P w K mg base "_law_pick" 1 ["_law_flow_here", "_law_many"] spPick) : ∀ n : Nat, FnOk P w K mg base CX0 (n + 1) f fd ["_law_flow_here", "_law_letters_here", "_law_room", "_law_deep", "_law_most"] (spWish n)
  | 0 => wish_none
  | n + 1 => wish_step F Z C_law_pick ⟨f, fd, ok_law_wish F b m Z C_law_pick n, m, F.kp, b⟩
def inKvs : List (Key × V) := [(Sum.inr "always", .int 0), (Sum.inr "never", .int 0), (Sum.inr "has", .int 0), (Sum.inr "not", .int 1), (Sum.inr "and", .int 2), (Sum.inr "or", .int 2)]
theorem in_val (W : Wi) : valV inKvs (Sum.inr W.nm) = some (.int (W.kd.length : Int)) := by
  cases W with
  | lf b => cases b <;> decide +kernel
  | has z => exact (by decide +kernel : valV inKvs (Sum.inr "has") = some (.int 0))
  | nt x => exact (by decide +kernel : valV inKvs (Sum.inr "not") = some (.int 1))
  | bi b x y =>
    cases b
    · exact (by decide +kernel : valV inKvs (Sum.inr "or") = some (.int 2))
    · exact (by decide +kernel : valV inKvs (Sum.inr "and") = some (.int 2))
theorem hd_nm (W : Wi) : W.hd[0]? = some (.str W.nm) := by cases W <;> rfl
theorem nm_has {W : Wi} (h : W.wd = none) : decide (V.str W.nm = V.str "has") = false := by
  cases W with
  | lf b => cases b <;> decide +kernel
  | has z => cases h
  | nt x => exact (by decide +kernel : decide (V.str "not" = V.str "has") = false)
  | bi b x y =>
    cases b
    · exact (by decide +kernel : decide (V.str "or" = V.str "has") = false)
    · exact (by decide +kernel : decide (V.str "and" = V.str "has") = false)
theorem hd_pos (W : Wi) : 0 < W.hd.length := by cases W <;> simp [Wi.hd]
def spInner : Sp := fun vs H Q _ => ∃ (W : Wi) (a : Addr) (us : List V), vs = [.ref a] ∧ H a = some (.tup (W.hd ++ us)) ∧ Ws H us W.kd ∧ ∀ q, H q = none → Q (.ref q) (upd H q (.tup us))
theorem cut_tail {xs us : List V} : cutV (xs ++ us) (some (xs.length : Int)) none = us := by
  unfold cutV
  rw [HT.sIx_nat]
  show ((xs ++ us).drop (min xs.length (xs ++ us).length)).take ((xs ++ us).length - min xs.length (xs ++ us).length) = us
  rw [List.length_append, show min xs.length (xs.length + us.length) = xs.length by omega, List.drop_left' rfl, List.take_of_length_le (by omega)]
theorem cut_head {xs us : List V} : cutV (xs ++ us) none (some (xs.length : Int)) = xs := by
  unfold cutV
  rw [HT.sIx_nat]
  show ((xs ++ us).drop 0).take (min xs.length (xs ++ us).length - 0) = xs
  rw [List.length_append, show min xs.length (xs.length + us.length) = xs.length by omega, List.drop_zero, Nat.sub_zero, List.take_left' rfl]
theorem ok_inner_wishes {f : Addr} {fd : FuncData} (F : Fun K "inner_wishes" "inner_wishes" s_inner_wishes f fd) (Z : Blt mg) {aI : Addr} (c_INNER : mg "INNER" = some (.ref aI)) (dI : DKn P w K aI inKvs) : FnOk P w K mg base CX0 1 f fd ["wish"] spInner := by
  refine F.ok sc_inner_wishes (fun vs H Q E h => ?_) (fun cdv A outer s H vs Q E hr h => ?_)
  · obtain ⟨W, a, us, rfl, _⟩ := h
    rfl
  obtain ⟨W, a, us, rfl, ha, hw, k⟩ := h
  have r_INNER : RelV (.ref aI) (.ref aI) := rfl
  refine ⟨_, (pss_one (ps_ret (pe_slice (sl_tupK (K := K)) (pv 0) (po_some (pe_op op_sub (pe_callB (call_lenK (K := K)) (by rfl) Z.len bt_len (pa_cons (pv 0) pa_nil)) (pe_dgetC (K := K) (pe_glob (by rfl) c_INNER r_INNER) (pe_ix (ix_tupK (K := K)) (pv 0) pe_int (fun _ _ => rfl)) (fun _ _ => rfl)))) po_none))), ?_⟩
  have hl : (W.hd ++ us).length = W.hd.length + us.length := List.length_append
  have hp := hd_pos W
  have h0 : atI (W.hd ++ us) 0 = some (.str W.nm) := atI_nat (j := 0) (by rw [List.getElem?_append_left hp]; exact hd_nm W)
  refine ⟨_, rfl, _, rfl, a, _, rfl, .inr (SqT.of ha), _, rfl, a, _, _, _, rfl, rfl, SqT.of ha, h0, aI, inKvs, Sum.inr W.nm, _, rfl, rfl, dI, in_val W, _, _, rfl, rfl, _, rfl, a, _, rfl, SqT.of ha, ?_, fun q hq => ?_⟩
  · have e : (((W.hd ++ us).length : Int) - (W.kd.length : Int)) = (W.hd.length : Int) := by rw [hl, ← hw.1]; omega
    show ¬ (HT.sIx (W.hd ++ us).length 0 (some (((W.hd ++ us).length : Int) - (W.kd.length : Int))) = 0 ∧ _)
    rw [e, HT.sIx_nat]
    omega
  · have e : (((W.hd ++ us).length : Int) - (W.kd.length : Int)) = (W.hd.length : Int) := by rw [hl, ← hw.1]; omega
    show Q (.ref q) (upd H q (.tup (cutV (W.hd ++ us) (some (((W.hd ++ us).length : Int) - (W.kd.length : Int))) none)))
    rw [e, cut_tail]
    exact k q hq
def flat (ws : List Wi) : List Wi := ws.reverse.flatMap Wi.pre
theorem flat_step (ws : List Wi) (W : Wi) : flat (ws ++ [W]) = W :: flat (ws ++ W.kd.reverse) := by
  unfold flat
  rw [List.reverse_append, List.reverse_append, List.reverse_reverse]
  show ([W] ++ ws.reverse).flatMap Wi.pre = _
  rw [List.flatMap_append, List.flatMap_append, List.flatMap_singleton, Wi.pre_kd W]
  rfl
def tot (ws : List Wi) : Nat := (ws.map Wi.sz).sum
theorem tot_app (a b : List Wi) : tot (a ++ b) = tot a + tot b := by unfold tot; rw [List.map_append, List.sum_append]
theorem tot_rev (a : List Wi) : tot a.reverse = tot a := by
  induction a with
  | nil => rfl
  | cons x a ih => rw [List.reverse_cons, tot_app, ih]; simp [tot]; omega
theorem tot_len (a : List Wi) : a.length ≤ tot a := by
  induction a with
  | nil => exact Nat.le_refl _
  | cons x a ih =>
    have := x.sz_pos
    have e : tot (x :: a) = x.sz + tot a := by simp [tot]
    rw [e, List.length_cons]
    omega
theorem last_of {vs : List V} {H : Hp} {ws : List Wi} {W : Wi} (h : Ws H vs (ws ++ [W])) : ∃ us u, vs = us ++ [u] ∧ Ws H us ws ∧ WAt H u W := by
  have hl := h.1
  rw [List.length_append] at hl
  have hne : vs ≠ [] := fun e => by rw [e] at hl; simp at hl
  have hd := List.dropLast_concat_getLast hne
  refine ⟨vs.dropLast, vs.getLast hne, hd.symm, ⟨by rw [List.length_dropLast, hl]; rfl, fun i v x a b => ?_⟩, ?_⟩
  · have hi : i < vs.dropLast.length := (List.getElem?_eq_some_iff.mp a).1
    have hj : i < ws.length := (List.getElem?_eq_some_iff.mp b).1
    refine h.2 i v x ?_ (by rw [List.getElem?_append_left hj]; exact b)
    rw [← hd, List.getElem?_append_left hi]
    exact a
  · refine h.2 ws.length _ _ ?_ (by rw [List.getElem?_append_right (Nat.le_refl _), Nat.sub_self]; rfl)
    have e : ws.length = vs.dropLast.length := by rw [List.length_dropLast, hl]; rfl
    have e2 : vs = vs.dropLast ++ [vs.getLast hne] := hd.symm
    generalize vs.getLast hne = g at e2
    rw [e]
    generalize vs.dropLast = d at e2
    subst e2
    simp
def spHeads : Sp := fun vs H Q _ => ∃ (v : V) (W : Wi), vs = [v] ∧ WAt H v W ∧ W.sz ≤ 1000 ∧ ∀ q told H', H q = none → Same H H' → H' q = some (.lst told) → TR Wi.hd H' told W.pre → Q (.ref q) H'
theorem ok_heads_in {f : Addr} {fd : FuncData} (F : Fun K "heads_in" "heads_in" s_heads_in f fd) (Z : Blt mg) (C_inner_wishes : Cal P w K mg base "inner_wishes" 1 ["wish"] spInner) : FnOk P w K mg base CX0 2 f fd ["wish"] spHeads := by
  refine F.ok sc_heads_in (fun vs H Q E h => ?_) (fun cdv A outer s H vs Q E hr h => ?_)
  · obtain ⟨v, W, rfl, _⟩ := h
    rfl
  obtain ⟨v, W, rfl, hW, hz, k⟩ := h
  refine ⟨_, (pss_cons (ps_set (i := 1) sc_heads_in.nd (by rfl) (Or.inl (by rfl)) (pe_lst pa_nil)) 
      (pss_cons (ps_set (i := 2) sc_heads_in.nd (by rfl) (Or.inl (by rfl)) (pe_lst (pa_cons (pv 0) pa_nil))) 
      (pss_cons (ps_while PassesOwn.never (pt_truthK (K := K) (pv 2) (fun _ => rfl)) 
        (pss_cons (ps_set (i := 3) sc_heads_in.nd (by rfl) (Or.inl (by rfl)) (pe_bm0K (K := K) PySem.F.plainAttrs_list PySem.F.slot_list_pop PySem.F.type_list_pop mt_pop (pv 2))) 
        (pss_cons (ps_set (i := 4) sc_heads_in.nd (by rfl) (Or.inl (by rfl)) (pe_c C_inner_wishes (hr.mono (by decide)) (pa_cons (pv 3) pa_nil))) 
        (pss_cons (ps_expr (pe_bmK (K := K) PySem.F.plainAttrs_list PySem.F.slot_list_append PySem.F.type_list_append mt_append (pv 1) (pa_cons (pe_slice (sl_tupG (K := K)) (pv 3) po_none (po_some (pe_op op_sub (pe_callB (call_lenK (K := K)) (by rfl) Z.len bt_len (pa_cons (pv 3) pa_nil)) (pe_callB (call_lenK (K := K)) (by rfl) Z.len bt_len (pa_cons (pv 4) pa_nil))))) pa_nil))) 
        (pss_one (ps_expr (pe_bmK (K := K) PySem.F.plainAttrs_list PySem.F.slot_list_extend PySem.F.type_list_extend mt_extend (pv 2) (pa_cons (pe_listRv (K := K) (by rfl) (by rfl) Z.list (by rfl) Z.reversed (pv 4)) pa_nil)))))))) 
      (pss_one (ps_ret (pv 1)))))), ?_⟩
  refine ⟨(by show 0 ≤ sizeLine; decide), fun tp htp => ?_⟩
  have e1 := same_new htp (.lst [])
  have h1 : upd H tp (.lst []) tp = some (.lst []) := upd_same
  generalize upd H tp (.lst []) = H1 at e1 h1
  refine ⟨_, rfl, (by show 1 ≤ sizeLine; decide), fun wp hwp => ?_⟩
  have s2 := same_new hwp (.lst [v])
  have h2w : upd H1 wp (.lst [v]) wp = some (.lst [v]) := upd_same
  have ntw0 : tp ≠ wp := ne_of_none h1 hwp
  generalize upd H1 wp (.lst [v]) = H2 at s2 h2w
  have hwp0 := none_of e1 hwp
  refine ⟨fun m σ H4 => ∃ (told vs : List V) (rs ws : List Wi) (v3 v4 : Option V), m = tot ws ∧ σ = [some v, some (.ref tp), some (.ref wp), v3, v4] ∧ H4 tp = some (.lst told) ∧ TR Wi.hd H4 told rs ∧ H4 wp = some (.lst vs) ∧ Ws H4 vs ws ∧ W.pre = rs ++ flat ws ∧ Same H H4 ∧ rs.length + tot ws ≤ W.sz,
    ⟨_, [], [v], [], [W], none, none, rfl, rfl, s2 _ _ h1, .nil, h2w, Ws.one (hW.keep (Tk.same (e1.trans s2))), by simp [flat], e1.trans s2, by simp [tot]⟩, ?_⟩
  rintro m σ H4 ⟨told, vs, rs, ws, v3, v4, rfl, rfl, h4t, R4, h4w, W4, hpre, e4, hsum⟩
  refine ⟨_, rfl, _, .inl ⟨_, SqL.of h4w, rfl⟩, ?_⟩
  rcases List.eq_nil_or_concat ws with hws | ⟨ws', W0, hws⟩
  · subst hws
    have : vs = [] := List.eq_nil_of_length_eq_zero W4.1
    subst this
    refine iteF ⟨_, rfl, k tp told H4 htp e4 h4t ?_⟩
    rw [hpre]
    simpa [flat] using R4
  rw [List.concat_eq_append] at hws
  subst hws
  obtain ⟨us, u, rfl, W4', hu⟩ := last_of W4
  obtain ⟨a0, us0, rfl, ha0, hw0⟩ := hu.see
  have hne : (!(us ++ [V.ref a0]).isEmpty) = true := by simp
  rw [hne]
  refine iteT ⟨fun σ' H' => ∃ m', m' < tot (ws' ++ [W0]) ∧ _, fun _ _ z => z, ?_⟩
  refine ⟨_, rfl, .inl ⟨rfl, _, SqL.of h4w⟩, wp, _, .ref a0, rfl, rfl, h4w, (by simp), ?_⟩
  rw [List.dropLast_concat]
  have ntw : tp ≠ wp := ntw0
  have K5 := Tk.lst h4w (.lst us)
  have e5 := same_put e4 hwp0 (.lst us)
  have h5w := upd_same (H := H4) (a := wp) (o := .lst us)
  have h5t := (upd_ne (H := H4) (o := .lst us) ntw).trans h4t
  have h5a := K5 _ _ ha0
  have R5 := R4.keep K5
  have W5 := W4'.keep K5
  have w5 := hw0.keep K5
  generalize upd H4 wp (.lst us) = H5 at K5 e5 h5w h5t h5a R5 W5 w5
  refine ⟨_, rfl, W0, a0, us0, rfl, h5a, w5, fun q hq => ?_⟩
  have s6 := same_new hq (.tup us0)
  have h6q := upd_same (H := H5) (a := q) (o := .tup us0)
  have h6w := s6 _ _ h5w
  have h6t := s6 _ _ h5t
  have h6a := s6 _ _ h5a
  have R6 := R5.keep (Tk.same s6)
  have W6 := W5.keep (Tk.same s6)
  have w6 := w5.keep (Tk.same s6)
  have e6 := e5.trans s6
  generalize upd H5 q (.tup us0) = H6 at s6 h6q h6w h6t h6a R6 W6 w6 e6
  have hl : (W0.hd ++ us0).length = W0.hd.length + us0.length := List.length_append
  have ei : (((W0.hd ++ us0).length : Int) - (us0.length : Int)) = (W0.hd.length : Int) := by rw [hl]; omega
  have hrl := R6.len
  have hsz0 : tot (ws' ++ [W0]) = tot ws' + W0.sz := by rw [tot_app]; simp [tot]
  have wsp := W0.sz_pos
  refine ⟨_, rfl, .inl ⟨rfl, _, SqL.of h6t⟩, _, rfl, _, rfl, a0, _, rfl, .inr (SqT.of h6a), _, rfl, q, _, rfl, .inr (SqT.of h6q), _, _, rfl, rfl, _, rfl, a0, _, rfl, h6a, fun g H7 s7 h7g => ?_⟩
  have h7g' : H7 g = some (.tup W0.hd) := by
    have e : cutV (W0.hd ++ us0) none (some (((W0.hd ++ us0).length : Int) - (us0.length : Int))) = W0.hd := by rw [ei]; exact cut_head
    rw [← e]
    exact h7g
  have h7t := s7 _ _ h6t
  have h7w := s7 _ _ h6w
  have h7q := s7 _ _ h6q
  have e7 := e6.trans s7
  have R7 := R6.keep (Tk.same s7)
  have W7 := W6.keep (Tk.same s7)
  have w7 := w6.keep (Tk.same s7)
  refine ⟨tp, _, _, rfl, rfl, h7t, (by rw [hrl, sizeLine_eq]; omega), ?_⟩
  have K8 := Tk.lst h7t (.lst (told ++ [V.ref g]))
  have e8 := same_put e7 htp (.lst (told ++ [V.ref g]))
  have h8t := upd_same (H := H7) (a := tp) (o := .lst (told ++ [V.ref g]))
  have h8w := (upd_ne (H := H7) (o := .lst (told ++ [V.ref g])) ntw.symm).trans h7w
  have h8q := K8 _ _ h7q
  have R8 := (R7.snoc h7g').keep K8
  have W8 := W7.keep K8
  have w8 := w7.keep K8
  generalize upd H7 tp (.lst (told ++ [V.ref g])) = H8 at K8 e8 h8t h8w h8q R8 W8 w8
  refine ⟨_, rfl, .inl ⟨rfl, _, SqL.of h8w⟩, _, rfl, q, us0, rfl, SqT.of h8q, fun l hl9 => ?_⟩
  have s9 := same_new hl9 (.lst us0.reverse)
  have h9l := upd_same (H := H8) (a := l) (o := .lst us0.reverse)
  have h9w := s9 _ _ h8w
  have h9t := s9 _ _ h8t
  have nlw : wp ≠ l := ne_of_none h8w hl9
  have e9 := e8.trans s9
  have R9 := R8.keep (Tk.same s9)
  have W9 := W8.keep (Tk.same s9)
  have w9 := w8.keep (Tk.same s9)
  generalize upd H8 l (.lst us0.reverse) = H9 at s9 h9l h9w h9t e9 R9 W9 w9
  have hul := W9.1
  have tl1 := tot_len ws'
  have tl2 := W0.kd_sum
  have hkl := w9.1
  have tl3 := tot_len W0.kd
  have tl4 : tot W0.kd + 1 = W0.sz := tl2
  refine ⟨wp, l, _, _, rfl, rfl, h9w, h9l, (by rw [List.length_reverse, sizeLine_eq]; omega), ?_⟩
  have K10 := Tk.lst h9w (.lst (us ++ us0.reverse))
  refine ⟨tot (ws' ++ W0.kd.reverse), (by rw [tot_app, tot_rev, hsz0]; omega), told ++ [V.ref g], us ++ us0.reverse, rs ++ [W0], ws' ++ W0.kd.reverse, _, _, rfl, rfl, (upd_ne ntw).trans h9t, R9.keep K10, upd_same, (W9.app w9.rev).keep K10, ?_, same_put e9 hwp0 _, ?_⟩
  · rw [hpre, flat_step, List.append_assoc]
    rfl
  · rw [tot_app, tot_rev, List.length_append]
    rw [hsz0] at hsum
    show rs.length + 1 + (tot ws' + tot W0.kd) ≤ W.sz
    omega
theorem rise_all : ∀ (p : Str) (r : List Str), risingS p r = true → ∀ x ∈ r, ¬ x.cps.toList < p.cps.toList
  | _, [], _, x, hx => by cases hx
  | p, y :: r, h, x, hx => by
    have h' : (!ltCps y.cps.toList p.cps.toList && risingS y r) = true := h
    rw [Bool.and_eq_true, ltCps_eq] at h'
    have h1 : ¬ y.cps.toList < p.cps.toList := fun z => by rw [decide_eq_true z] at h'; exact absurd h'.1 (by decide)
    rcases List.mem_cons.mp hx with e | e
    · rw [e]; exact h1
    · exact List.not_lt.mpr (List.le_trans (List.not_lt.mp h1) (List.not_lt.mp (rise_all y r h'.2 x e)))
theorem sorted_lt : ∀ {ys : List Str}, sortedS ys = true → ys.Nodup → ys.Pairwise fun a b => a.cps.toList < b.cps.toList
  | [], _, _ => .nil
  | p :: r, so, nd => by
    have h : risingS p r = true := so
    rw [List.nodup_cons] at nd
    refine .cons (fun x hx => ?_) (sorted_lt ?_ nd.2)
    · rcases lt_tri p.cps.toList x.cps.toList (fun e => nd.1 (by
        have : p = x := by cases p; cases x; simpa using e
        rw [this]; exact hx)) with z | z
      · exact z
      · exact absurd z (rise_all p r h x hx)
    · cases r with
      | nil => rfl
      | cons y r =>
        have h' : (!ltCps y.cps.toList p.cps.toList && risingS y r) = true := h
        rw [Bool.and_eq_true] at h'
        exact h'.2
theorem len_comes {zs zs' : List Str} (h : zs.Pairwise fun a b => a.cps.toList < b.cps.toList) (o : LenOut zs zs') : zs'.Perm zs ∧ OrdAll zs' := by
  obtain ⟨p, hp, rfl, hs⟩ := o
  have e : (List.range zs.length).map (fun i => zs.getD i ⟨#[]⟩) = zs := by
    refine List.ext_getElem (by simp) fun i a b => ?_
    simp [b]
  refine ⟨by have q := hp.map fun i => zs.getD i ⟨#[]⟩; rwa [e] at q, ?_⟩
  unfold OrdAll
  rw [List.pairwise_map]
  have hin : ∀ i ∈ p, i < zs.length := fun i hi => List.mem_range.mp (hp.mem_iff.mp hi)
  refine List.Pairwise.imp_of_mem (fun {i j} hi hj z => ?_) hs
  unfold ordS ordLt
  rcases z with z | ⟨z1, z2⟩
  · rw [if_neg (by omega), decide_eq_false (by omega)]
  · rw [if_pos (by omega), decide_eq_false]
    have a := hin i hi
    have b := hin j hj
    have q := List.pairwise_iff_getElem.mp h i j a b z2
    rw [List.getD_eq_getElem?_getD, List.getElem?_eq_getElem b, List.getD_eq_getElem?_getD, List.getElem?_eq_getElem a]
    exact fun y => List.lt_irrefl _ (List.lt_trans q y)
def WordsOf (W : Wi) (zs : List Str) : Prop := zs.Nodup ∧ (∀ z, z ∈ zs ↔ z ∈ W.wds) ∧ OrdAll zs
theorem WordsOf.one {W : Wi} {a b : List Str} (ha : WordsOf W a) (hb : WordsOf W b) : a = b := ord_one ((List.perm_ext_iff_of_nodup ha.1 hb.1).mpr fun z => (ha.2.1 z).trans (hb.2.1 z).symm) ha.2.2 hb.2.2
def spWordsIn : Sp := fun vs H Q _ => ∃ (v : V) (W : Wi), vs = [v] ∧ WAt H v W ∧ W.sz ≤ 60 ∧ W.ok (fun z => z.length ≤ 100) ∧ ∀ q zs H', H q = none → Same H H' → H' q = some (.lst (zs.map V.str)) → WordsOf W zs → Q (.ref q) H'
theorem nd_words {ys : List Str} {W : Wi} (nd : ys.Nodup) (h : ∀ z, z ∈ ys ↔ z ∈ W.wds) : ys.length ≤ W.sz := Nat.le_trans (by
  have : ∀ {a b : List Str}, a.Nodup → (∀ c ∈ a, c ∈ b) → a.length ≤ b.length := fun {a} => by
    induction a with
    | nil => intros; exact Nat.zero_le _
    | cons x a ih =>
      intro b nd h
      have hx : x ∈ b := h x List.mem_cons_self
      have q := ih (b := b.erase x) (List.nodup_cons.mp nd).2 fun c hc => (List.mem_erase_of_ne fun e => (List.nodup_cons.mp nd).1 (by rw [← e]; exact hc)).mpr (h c (List.mem_cons_of_mem _ hc))
      rw [List.length_erase_of_mem hx] at q
      have := List.length_pos_of_mem hx
      rw [List.length_cons]
      omega
  exact this nd fun c hc => (h c).mp hc) W.wds_len
theorem ok_words_in {f : Addr} {fd : FuncData} (F : Fun K "words_in" "words_in" s_words_in f fd) (Z : Blt mg) (C_heads_in : Cal P w K mg base "heads_in" 2 ["wish"] spHeads) : FnOk P w K mg base CX0 3 f fd ["wish"] spWordsIn := by
  refine F.ok sc_words_in (fun vs H Q E h => ?_) (fun cdv A outer s H vs Q E hr h => ?_)
  · obtain ⟨v, W, rfl, _⟩ := h
    rfl
  obtain ⟨v, W, rfl, hW, hz, hok, k⟩ := h
  refine ⟨_, (pss_cons (ps_setc (i := 1) sc_words_in.nd (by rfl) (by rfl) (sc := defScope s_words_in) (Nm := ["wish", "words"]) (own := ["head"]) (fr := []) ⟨rfl, by decide +kernel, by decide +kernel, by decide +kernel, by decide +kernel⟩ (by rfl) (gfr_name (by decide)) (pi_listK (K := K) (pe_c C_heads_in (hr.mono (by decide)) (pa_cons (pv 0) pa_nil))) (fun d => (pg_name (i := 0) nd_words_in_0 (by rfl) (Or.inl (by rfl)))) (fun d => (pts_one (pt_cmpR op_eq (pe_ix (ix_tupK (K := K)) (pv 0) pe_int (fun _ _ => rfl)) pe_str (nomark _)))) (fun d => (pe_ix (ix_tupK (K := K)) (pv 0) pe_int (fun _ _ => rfl)))) 
      (pss_one (ps_ret (pe_sortN (K := K) (by rfl) Z.sorted (by rfl) Z.len (pe_callB (call_sortset (by rfl)) (by rfl) Z.sorted bt_sorted (pa_cons (pe_callTy (call_set_l (K := K) (by rfl)) (by rfl) Z.set bt_set (pa_cons (pv 1) pa_nil)) pa_nil)))))), ?_⟩
  refine ⟨_, rfl, v, W, rfl, hW, by omega, fun q told H1 hq e1 h1 R1 => ⟨q, rfl, ⟨_, SqL.of h1⟩, ?_⟩⟩
  have rl := R1.len
  rw [W.pre_len] at rl
  refine comp_list (K := K) (a := q) (xs := told) (fun j acc H2 => acc = ((W.pre.take j).filterMap Wi.wd).map V.str ∧ Same H1 H2) (small1000 (by omega)) ⟨rfl, Same.refl _⟩ (fun j acc H2 p => ?_)
    (fun j acc H2 p => SqL.of (p.2 _ _ h1)) (fun j acc H2 x hx p => ?_) (fun acc H2 p y hy => ?_)
  · rw [p.1, List.length_map]
    exact Nat.le_trans (List.length_filterMap_le _ _) (by rw [List.length_take]; exact Nat.min_le_left _ _)
  · obtain ⟨rfl, e2⟩ := p
    obtain ⟨a, r, rfl, hr', har⟩ := (R1.keep (Tk.same e2)).at_ hx
    have et : (W.pre.take (j + 1)).filterMap Wi.wd = (W.pre.take j).filterMap Wi.wd ++ r.wd.toList := by
      rw [List.take_add_one, hr', List.filterMap_append]
      cases hz2 : r.wd <;> simp [hz2]
    have h0 : atI r.hd 0 = some (.str r.nm) := atI_nat (j := 0) (hd_nm r)
    refine ⟨_, rfl, a, _, _, _, rfl, rfl, SqT.of har, h0, rfl, _, rfl, ?_⟩
    cases hwd : r.wd with
    | some z =>
      obtain rfl : r = .has z := by
        cases r with
        | has y => cases hwd; rfl
        | _ => cases hwd
      refine iteD rfl ⟨_, rfl, a, _, _, _, rfl, rfl, SqT.of har, atI_nat (j := 1) rfl, ?_, e2⟩
      rw [et, hwd, List.map_append]
      rfl
    | none =>
      rw [nm_has hwd]
      refine iteF ⟨?_, e2⟩
      rw [et, hwd]
      simp
  · obtain ⟨rfl, e2⟩ := p
    have el : (W.pre.take told.length).filterMap Wi.wd = W.wds := by
      rw [rl, ← W.pre_len, List.take_length]
      rfl
    rw [el]
    have wl := W.wds_len
    have s3 := same_new hy (.lst (W.wds.map V.str))
    have h3y := upd_same (H := H2) (a := y) (o := .lst (W.wds.map V.str))
    generalize upd H2 y (.lst (W.wds.map V.str)) = H3 at s3 h3y
    refine ⟨_, rfl, y, W.wds, rfl, SqL.of h3y, by omega, fun sp hsp => ⟨sp, _, _, rfl, upd_same, by omega, fun ys l nd mem so hl4 => ?_⟩⟩
    have s4 := same_new hsp (setH w sp W.wds W.wds.length)
    have s5 := same_new hl4 (.lst (ys.map V.str))
    refine ⟨l, ys, rfl, SqL.of upd_same, ?_, fun z hz2 => ?_, fun zs' l2 lo hl6 => ?_⟩
    · have := nd_words nd mem
      omega
    · have := Wi.ok_wds hok z ((mem z).mp hz2)
      omega
    obtain ⟨c1, c2⟩ := len_comes (sorted_lt so nd) lo
    have e6 := ((e1.trans e2).trans s3).trans (s4.trans s5)
    exact k l2 zs' _ (none_of e6 hl6) (e6.trans (same_new hl6 _)) upd_same ⟨c1.nodup_iff.mpr nd, fun z => (c1.mem_iff).trans (mem z), c2⟩
theorem ifN {c : Bool} {A B : Prop} (h : c = false) (b : B) : if c = true then A else B := by rw [h]; exact b
theorem ifY {c : Bool} {A B : Prop} (h : c = true) (a : A) : if c = true then A else B := by rw [if_pos h]; exact a
def fo (W : Wi) : Nat → List Wi
  | 0 => [W]
  | i + 1 => match fo W i with
    | [] => []
    | r :: ws => r.kd ++ ws
theorem fo_succ (W : Wi) (i : Nat) : fo W (i + 1) = match fo W i with | [] => [] | r :: ws => r.kd ++ ws := rfl
theorem fo_pre (W : Wi) : ∀ i, (fo W i).flatMap Wi.pre = W.pre.drop i
  | 0 => by simp [fo]
  | i + 1 => by
    have ih := fo_pre W i
    rw [fo_succ]
    have e : W.pre.drop (i + 1) = (W.pre.drop i).drop 1 := by rw [List.drop_drop]
    rw [e, ← ih]
    cases h : fo W i with
    | nil => rfl
    | cons r ws =>
      rw [List.flatMap_cons, r.pre_kd]
      simp
theorem fo_at {W r : Wi} {i : Nat} (h : W.pre[i]? = some r) : ∃ ws, fo W i = r :: ws ∧ fo W (i + 1) = r.kd ++ ws := by
  have hp := fo_pre W i
  have hi : i < W.pre.length := (List.getElem?_eq_some_iff.mp h).1
  rw [List.drop_eq_getElem_cons hi] at hp
  rw [List.getElem?_eq_getElem hi] at h
  cases hf : fo W i with
  | nil => rw [hf] at hp; cases hp
  | cons r' ws =>
    rw [hf, List.flatMap_cons, r'.pre_kd] at hp
    injection hp with h1 _
    obtain rfl : r' = r := h1.trans (Option.some.inj h)
    exact ⟨ws, rfl, by rw [fo_succ, hf]⟩
theorem fo_few (ws : List Wi) : ws.length ≤ (ws.flatMap Wi.pre).length := by
  induction ws with
  | nil => exact Nat.le_refl _
  | cons x ws ih =>
    rw [List.flatMap_cons, List.length_append, x.pre_len, List.length_cons]
    have := x.sz_pos
    omega
theorem fo_len (W : Wi) (i : Nat) : (fo W i).length ≤ W.sz := by
  have := fo_few (fo W i)
  rw [fo_pre, List.length_drop, W.pre_len] at this
  omega
theorem fo_end (W : Wi) : fo W W.pre.length = [] := by
  have := fo_few (fo W W.pre.length)
  rw [fo_pre, List.drop_length] at this
  exact List.eq_nil_of_length_eq_zero (Nat.le_zero.mp this)
def ev (ly : Str → Bool) : Wi → Bool
  | .lf b => b
  | .has z => ly z
  | .nt x => !(ev ly x)
  | .bi b x y => if b then ev ly x && ev ly y else ev ly x || ev ly y
theorem s_ah : decide (V.str "always" = V.str "has") = false := by decide +kernel
theorem s_aa : decide (V.str "always" = V.str "always") = true := by decide +kernel
theorem s_vh : decide (V.str "never" = V.str "has") = false := by decide +kernel
theorem s_va : decide (V.str "never" = V.str "always") = false := by decide +kernel
theorem s_vv : decide (V.str "never" = V.str "never") = true := by decide +kernel
theorem s_hh : decide (V.str "has" = V.str "has") = true := by decide +kernel
theorem s_nh : decide (V.str "not" = V.str "has") = false := by decide +kernel
theorem s_na : decide (V.str "not" = V.str "always") = false := by decide +kernel
theorem s_nv : decide (V.str "not" = V.str "never") = false := by decide +kernel
theorem s_nn : decide (V.str "not" = V.str "not") = true := by decide +kernel
theorem s_dh : decide (V.str "and" = V.str "has") = false := by decide +kernel
theorem s_da : decide (V.str "and" = V.str "always") = false := by decide +kernel
theorem s_dv : decide (V.str "and" = V.str "never") = false := by decide +kernel
theorem s_dn : decide (V.str "and" = V.str "not") = false := by decide +kernel
theorem s_dd : decide (V.str "and" = V.str "and") = true := by decide +kernel
theorem s_oh : decide (V.str "or" = V.str "has") = false := by decide +kernel
theorem s_oa : decide (V.str "or" = V.str "always") = false := by decide +kernel
theorem s_ov : decide (V.str "or" = V.str "never") = false := by decide +kernel
theorem s_on : decide (V.str "or" = V.str "not") = false := by decide +kernel
theorem s_od : decide (V.str "or" = V.str "and") = false := by decide +kernel
def stk (ly : Str → Bool) (ws : List Wi) : List V := (ws.map fun x => V.bl (ev ly x)).reverse
theorem stk_cons (ly : Str → Bool) (x : Wi) (ws : List Wi) : stk ly (x :: ws) = stk ly ws ++ [V.bl (ev ly x)] := by
  unfold stk
  rw [List.map_cons, List.reverse_cons]
theorem stk_len (ly : Str → Bool) (ws : List Wi) : (stk ly ws).length = ws.length := by unfold stk; rw [List.length_reverse, List.length_map]
def spTruth : Sp := fun vs H Q _ => ∃ (hp lp : Addr) (told : List V) (kvs : List (Key × V)) (W : Wi) (ly : Str → Bool), vs = [.ref hp, .ref lp] ∧ H hp = some (.lst told) ∧ TR Wi.hd H told W.pre ∧ W.sz ≤ 1000 ∧ H lp = some (.dK kvs) ∧ (∀ z ∈ W.wds, valV kvs (Sum.inr z) = some (.bl (ly z))) ∧ ∀ H', Same H H' → Q (.bl (ev ly W)) H'
theorem wd_mem {W : Wi} {z : Str} {i : Nat} (h : W.pre[i]? = some (.has z)) : z ∈ W.wds := List.mem_filterMap.mpr ⟨_, List.mem_of_getElem? h, rfl⟩
theorem ok_truth {f : Addr} {fd : FuncData} (F : Fun K "truth" "truth" s_truth f fd) (Z : Blt mg) : FnOk P w K mg base CX0 1 f fd ["heads", "lying"] spTruth := by
  refine F.ok sc_truth (fun vs H Q E h => ?_) (fun cdv A outer s H vs Q E hr h => ?_)
  · obtain ⟨hp, lp, told, kvs, W, ly, rfl, _⟩ := h
    rfl
  obtain ⟨hp, lp, told, kvs, W, ly, rfl, hh, R, hz, hlp, hly, k⟩ := h
  refine ⟨_, (pss_cons (ps_set (i := 2) sc_truth.nd (by rfl) (Or.inl (by rfl)) (pe_lst pa_nil)) 
      (pss_cons (ps_for PassesOwn.never (by rfl) (pi_rev (K := K) (by rfl) Z.reversed (pv 0)) (pg_name (i := 3) sc_truth.nd (by rfl) (Or.inl (by rfl))) 
        (pss_cons (ps_set (i := 4) sc_truth.nd (by rfl) (Or.inl (by rfl)) (pe_ix (ix_tupK (K := K)) (pv 3) pe_int (fun _ _ => rfl))) 
        (pss_one (ps_if (pt_cmpR op_eq (pv 4) pe_str (nomark _)) 
          (pss_one (ps_expr (pe_bmK (K := K) PySem.F.plainAttrs_list PySem.F.slot_list_append PySem.F.type_list_append mt_append (pv 2) (pa_cons (pe_dget (hu_of hr) (pv 1) (pe_ix (ix_tupK (K := K)) (pv 3) pe_int (fun _ _ => rfl)) (fun _ _ => rfl)) pa_nil)))) 
          (pss_one (ps_if (PW.pt (pw_or (pt_cmpR op_eq (pv 4) pe_str (nomark _)) (pw_or1 (pt_cmpR op_eq (pv 4) pe_str (nomark _))))) 
            (pss_one (ps_expr (pe_bmK (K := K) PySem.F.plainAttrs_list PySem.F.slot_list_append PySem.F.type_list_append mt_append (pv 2) (pa_cons (pe_cmpR op_eq (pv 4) pe_str (nomark _)) pa_nil)))) 
            (pss_one (ps_if (pt_cmpR op_eq (pv 4) pe_str (nomark _)) 
              (pss_one (ps_expr (pe_bmK (K := K) PySem.F.plainAttrs_list PySem.F.slot_list_append PySem.F.type_list_append mt_append (pv 2) (pa_cons (pe_not (pe_bm0K (K := K) PySem.F.plainAttrs_list PySem.F.slot_list_pop PySem.F.type_list_pop mt_pop (pv 2))) pa_nil)))) 
              (pss_cons (ps_set (i := 5) sc_truth.nd (by rfl) (Or.inl (by rfl)) (pe_bm0K (K := K) PySem.F.plainAttrs_list PySem.F.slot_list_pop PySem.F.type_list_pop mt_pop (pv 2))) 
              (pss_cons (ps_set (i := 6) sc_truth.nd (by rfl) (Or.inl (by rfl)) (pe_bm0K (K := K) PySem.F.plainAttrs_list PySem.F.slot_list_pop PySem.F.type_list_pop mt_pop (pv 2))) 
              (pss_one (ps_expr (pe_bmK (K := K) PySem.F.plainAttrs_list PySem.F.slot_list_append PySem.F.type_list_append mt_append (pv 2) (pa_cons (pe_ifExp (pt_cmpR op_eq (pv 4) pe_str (nomark _)) (pe_and (pv 5) (pe_one (pv 6))) (pe_or (pv 5) (pe_one (pv 6)))) pa_nil)))))))))))))) 
      (pss_one (ps_ret (pe_bm0K (K := K) PySem.F.plainAttrs_list PySem.F.slot_list_pop PySem.F.type_list_pop mt_pop (pv 2)))))), ?_⟩
  refine ⟨(by show 0 ≤ sizeLine; decide), fun wp hwp => ?_⟩
  have e1 := same_new hwp (.lst [])
  have h1w := upd_same (H := H) (a := wp) (o := .lst [])
  generalize upd H wp (.lst []) = H1 at e1 h1w
  have rl := R.len
  refine ⟨_, rfl, hp, told, rfl, SqL.of (e1 _ _ hh), ?_⟩
  refine for_rev (K := K) (a := hp) (xs := told) (fun j σ H2 => ∃ v3 v4 v5 v6, σ = [some (.ref hp), some (.ref lp), some (.ref wp), v3, v4, v5, v6] ∧ Same H H2 ∧ H2 wp = some (.lst (stk ly (fo W (W.pre.length - j)))))
    ⟨none, none, none, none, rfl, e1, by rw [Nat.sub_zero, fo_end]; exact h1w⟩ (fun j σ H2 _ h => ?_) ?_ ?_
  · obtain ⟨_, _, _, _, _, e2, _⟩ := h
    exact SqL.of (e2 _ _ hh)
  · rintro j x σ H2 hj hx ⟨v3, v4, v5, v6, rfl, e2, h2w⟩
    obtain ⟨a, r, rfl, hr', har⟩ := (R.keep (Tk.same e2)).at_ hx
    rw [rl] at hj hr'
    obtain ⟨ws, f1, f2⟩ := fo_at hr'
    have i1 : W.pre.length - 1 - j + 1 = W.pre.length - j := by omega
    have i2 : W.pre.length - 1 - j = W.pre.length - (j + 1) := by omega
    rw [i1] at f2
    rw [i2] at f1
    rw [f1]
    rw [f2] at h2w
    have fl := fo_len W (W.pre.length - (j + 1))
    rw [f1, List.length_cons] at fl
    have h0 : atI r.hd 0 = some (.str r.nm) := atI_nat (j := 0) (hd_nm r)
    refine ⟨_, rfl, a, _, _, _, rfl, rfl, SqT.of har, h0, ?_⟩
    have hsl := stk_len ly ws
    have hb : (stk ly ws).length < sizeLine := by rw [hsl, sizeLine_eq]; omega
    have put : ∀ (H3 : Hp) (c : Bool), Same H H3 → c = ev ly r → ∃ v3 v4 v5 v6, [some (V.ref hp), some (.ref lp), some (.ref wp), v3, v4, v5, v6] = [some (V.ref hp), some (.ref lp), some (.ref wp), v3, v4, v5, v6] ∧ Same H (upd H3 wp (.lst (stk ly ws ++ [V.bl c]))) ∧ upd H3 wp (.lst (stk ly ws ++ [V.bl c])) wp = some (.lst (stk ly (r :: ws))) := fun H3 c e3 hc => ⟨none, none, none, none, rfl, same_put e3 hwp _, by rw [upd_same, stk_cons, hc]⟩
    cases r with
    | has z =>
      have h2w' : H2 wp = some (.lst (stk ly ws)) := h2w
      refine ⟨_, rfl, rfl, _, rfl, ifY s_hh ⟨_, rfl, .inl ⟨rfl, _, SqL.of h2w'⟩, _, rfl, _, rfl, a, _, _, _, rfl, rfl, SqT.of har, atI_nat (j := 1) rfl, lp, .bl (ly z), rfl, ?_, wp, _, _, rfl, rfl, h2w', hb, ?_⟩⟩
      · rw [← hly z (wd_mem hr')]
        exact DGet.k (k := Sum.inr z) (e2 _ _ hlp)
      · obtain ⟨_, _, _, _, _, p1, p2⟩ := put H2 (ly z) e2 rfl
        exact ⟨_, _, _, _, rfl, p1, p2⟩
    | lf b =>
      have h2w' : H2 wp = some (.lst (stk ly ws)) := h2w
      cases b with
      | true =>
        refine ⟨_, rfl, rfl, _, rfl, ifN s_ah ⟨_, rfl, rfl, _, rfl, ifY s_aa (iteT ⟨_, rfl, .inl ⟨rfl, _, SqL.of h2w'⟩, _, rfl, rfl, wp, _, _, rfl, rfl, h2w', hb, ?_⟩)⟩⟩
        obtain ⟨_, _, _, _, _, p1, p2⟩ := put H2 _ e2 s_aa
        exact ⟨_, _, _, _, rfl, p1, p2⟩
      | false =>
        refine ⟨_, rfl, rfl, _, rfl, ifN s_vh ⟨_, rfl, rfl, _, rfl, ifN s_va ⟨_, rfl, rfl, _, rfl, ifY s_vv ⟨_, rfl, .inl ⟨rfl, _, SqL.of h2w'⟩, _, rfl, rfl, wp, _, _, rfl, rfl, h2w', hb, ?_⟩⟩⟩⟩
        obtain ⟨_, _, _, _, _, p1, p2⟩ := put H2 _ e2 s_va
        exact ⟨_, _, _, _, rfl, p1, p2⟩
    | nt x =>
      have h2w' : H2 wp = some (.lst (stk ly ws ++ [V.bl (ev ly x)])) := by rw [← stk_cons]; exact h2w
      have h3w : upd H2 wp (.lst (stk ly ws)) wp = some (.lst (stk ly ws)) := upd_same
      refine ⟨_, rfl, rfl, _, rfl, ifN s_nh ⟨_, rfl, rfl, _, rfl, ifN s_na ⟨_, rfl, rfl, _, rfl, ifN s_nv ⟨_, rfl, rfl, _, rfl, ifY s_nn ⟨_, rfl, .inl ⟨rfl, _, SqL.of h2w'⟩, _, rfl, .inl ⟨rfl, _, SqL.of h2w'⟩, wp, _, .bl (ev ly x), rfl, rfl, h2w', (by simp), _, rfl, ?_⟩⟩⟩⟩⟩
      rw [List.dropLast_concat]
      refine ⟨wp, _, _, rfl, rfl, h3w, hb, ?_⟩
      obtain ⟨_, _, _, _, _, p1, p2⟩ := put (upd H2 wp (.lst (stk ly ws))) (!(ev ly x)) (same_put e2 hwp _) rfl
      exact ⟨_, _, _, _, rfl, p1, p2⟩
    | bi b x y =>
      have h2w' : H2 wp = some (.lst ((stk ly ws ++ [V.bl (ev ly y)]) ++ [V.bl (ev ly x)])) := by rw [← stk_cons, ← stk_cons]; exact h2w
      have h3w : upd H2 wp (.lst (stk ly ws ++ [V.bl (ev ly y)])) wp = some (.lst (stk ly ws ++ [V.bl (ev ly y)])) := upd_same
      have e3 := same_put e2 hwp (.lst (stk ly ws ++ [V.bl (ev ly y)]))
      have key : ∀ {A : Prop}, (A) → A := fun h => h
      have e4 := same_put e3 hwp (.lst (stk ly ws))
      have h4w : upd (upd H2 wp (.lst (stk ly ws ++ [V.bl (ev ly y)]))) wp (.lst (stk ly ws)) wp = some (.lst (stk ly ws)) := upd_same
      cases b with
      | true =>
        refine ⟨_, rfl, rfl, _, rfl, ifN s_dh ⟨_, rfl, rfl, _, rfl, ifN s_da ⟨_, rfl, rfl, _, rfl, ifN s_dv ⟨_, rfl, rfl, _, rfl, ifN s_dn ⟨_, rfl, .inl ⟨rfl, _, SqL.of h2w'⟩, wp, _, .bl (ev ly x), rfl, rfl, h2w', (by simp), ?_⟩⟩⟩⟩⟩
        rw [List.dropLast_concat]
        refine ⟨_, rfl, .inl ⟨rfl, _, SqL.of h3w⟩, wp, _, .bl (ev ly y), rfl, rfl, h3w, (by simp), ?_⟩
        rw [List.dropLast_concat]
        refine ⟨_, rfl, .inl ⟨rfl, _, SqL.of h4w⟩, _, rfl, rfl, _, rfl, ifY s_dd ⟨_, rfl, _, rfl, ?_⟩⟩
        cases hx : ev ly x with
        | true =>
          refine iteT ⟨_, rfl, wp, _, _, rfl, rfl, h4w, hb, ?_⟩
          obtain ⟨_, _, _, _, _, p1, p2⟩ := put _ (ev ly y) e4 (by simp [ev, hx])
          exact ⟨_, _, _, _, rfl, p1, p2⟩
        | false =>
          refine iteF ⟨wp, _, _, rfl, rfl, h4w, hb, ?_⟩
          obtain ⟨_, _, _, _, _, p1, p2⟩ := put _ false e4 (by simp [ev, hx])
          exact ⟨_, _, _, _, rfl, p1, p2⟩
      | false =>
        refine ⟨_, rfl, rfl, _, rfl, ifN s_oh ⟨_, rfl, rfl, _, rfl, ifN s_oa ⟨_, rfl, rfl, _, rfl, ifN s_ov ⟨_, rfl, rfl, _, rfl, ifN s_on ⟨_, rfl, .inl ⟨rfl, _, SqL.of h2w'⟩, wp, _, .bl (ev ly x), rfl, rfl, h2w', (by simp), ?_⟩⟩⟩⟩⟩
        rw [List.dropLast_concat]
        refine ⟨_, rfl, .inl ⟨rfl, _, SqL.of h3w⟩, wp, _, .bl (ev ly y), rfl, rfl, h3w, (by simp), ?_⟩
        rw [List.dropLast_concat]
        refine ⟨_, rfl, .inl ⟨rfl, _, SqL.of h4w⟩, _, rfl, rfl, _, rfl, ifN s_od ⟨_, rfl, _, rfl, ?_⟩⟩
        cases hx : ev ly x with
        | true =>
          refine iteT ⟨wp, _, _, rfl, rfl, h4w, hb, ?_⟩
          obtain ⟨_, _, _, _, _, p1, p2⟩ := put _ true e4 (by simp [ev, hx])
          exact ⟨_, _, _, _, rfl, p1, p2⟩
        | false =>
          refine iteF ⟨_, rfl, wp, _, _, rfl, rfl, h4w, hb, ?_⟩
          obtain ⟨_, _, _, _, _, p1, p2⟩ := put _ (ev ly y) e4 (by simp [ev, hx])
          exact ⟨_, _, _, _, rfl, p1, p2⟩
  · rintro σ H2 ⟨v3, v4, v5, v6, rfl, e2, h2w⟩
    rw [rl, Nat.sub_self] at h2w
    refine ⟨_, rfl, .inl ⟨rfl, _, SqL.of h2w⟩, wp, _, .bl (ev ly W), rfl, rfl, h2w, rfl, k _ (same_put e2 hwp _)⟩
theorem DPut.kt {H : Hp} {a : Addr} {kvs : List (Key × V)} {z : Str} {v : V} (e : H a = some (.dK kvs)) (hl : kvs.length < sizeLine) : DPut H a (.str z) v (upd H a (.dK (putK kvs (Sum.inr z) v))) := DPut.k (k := Sum.inr z) e hl
theorem gp_spB (w t : List Nat) : (gp t w 0).isSome = spB w t := by
  have h := gp_some t w 0 (Nat.zero_le _)
  rw [List.drop_zero] at h
  rw [spB_is]
  cases hg : (gp t w 0).isSome with
  | true => exact (decide_eq_true (h.mp hg)).symm
  | false => exact (decide_eq_false fun z => by rw [h.mpr z] at hg; cases hg).symm
def lyT (t : Str) (z : Str) : Bool := spB z.cps.toList t.cps.toList
def spHolds : Sp := fun vs H Q _ => ∃ (v : V) (t : Str) (W : Wi), vs = [v, .str t] ∧ WAt H v W ∧ W.sz ≤ 60 ∧ W.ok (fun z => z.length ≤ 100) ∧ t.length ≤ 100 ∧ ∀ H', Same H H' → Q (.bl (ev (lyT t) W)) H'
theorem ok_holds {f : Addr} {fd : FuncData} (F : Fun K "holds" "holds" s_holds f fd) (Z : Blt mg) (C_heads_in : Cal P w K mg base "heads_in" 2 ["wish"] spHeads) (C_words_in : Cal P w K mg base "words_in" 3 ["wish"] spWordsIn) (C_spread_in : Cal P w K mg base "spread_in" 3 ["word", "text"] spSpreadIn)
    (C_truth : Cal P w K mg base "truth" 1 ["heads", "lying"] spTruth) : FnOk P w K mg base CX0 4 f fd ["wish", "text"] spHolds := by
  refine F.ok sc_holds (fun vs H Q E h => ?_) (fun cdv A outer s H vs Q E hr h => ?_)
  · obtain ⟨v, t, W, rfl, _⟩ := h
    rfl
  obtain ⟨v, t, W, rfl, hW, hz, hok, ht, k⟩ := h
  refine ⟨_, (pss_cons (ps_set (i := 2) sc_holds.nd (by rfl) (Or.inl (by rfl)) pe_dnewK) 
      (pss_cons (ps_for PassesOwn.never (by rfl) (pi_listK (K := K) (pe_c C_words_in (hr.mono (by decide)) (pa_cons (pv 0) pa_nil))) (pg_name (i := 3) sc_holds.nd (by rfl) (Or.inl (by rfl))) 
        (pss_one (ps_dput (hu_of hr) (pv 2) (pv 3) (pe_c C_spread_in (hr.mono (by decide)) (pa_cons (pv 3) (pa_cons (pv 1) pa_nil))) rfl))) 
      (pss_one (ps_ret (pe_c C_truth (hr.mono (by decide)) (pa_cons (pe_c C_heads_in (hr.mono (by decide)) (pa_cons (pv 0) pa_nil)) (pa_cons (pv 2) pa_nil))))))), ?_⟩
  refine fun lp hlp => ?_
  have e1 := same_new hlp (.dK [])
  have h1l := upd_same (H := H) (a := lp) (o := .dK [])
  generalize upd H lp (.dK []) = H1 at e1 h1l
  refine ⟨_, rfl, v, W, rfl, hW.keep (Tk.same e1), hz, hok, fun q zs H2 hq e2 h2 hwo => ⟨q, rfl, ⟨_, SqL.of h2⟩, ?_⟩⟩
  have fw := nd_words hwo.1 hwo.2.1
  have nql : q ≠ lp := (ne_of_none h1l hq).symm
  have hql0 := none_of e1 hq
  refine for_list (K := K) (a := q) (xs := zs.map V.str) (fun i σ H3 => ∃ (kvs : List (Key × V)) (v3 : Option V), σ = [some v, some (.str t), some (.ref lp), v3] ∧ H3 lp = some (.dK kvs) ∧ kvs.length ≤ i ∧ (∀ z ∈ zs.take i, valV kvs (Sum.inr z) = some (.bl (lyT t z))) ∧ Same H H3 ∧ H3 q = some (.lst (zs.map V.str)))
    ⟨[], none, rfl, e2 _ _ h1l, Nat.le_refl _, fun z hz => by simp at hz, e1.trans e2, h2⟩ (fun i σ H3 _ h => ?_) ?_ ?_
  · obtain ⟨kvs, v3, rfl, _, _, _, _, h3⟩ := h
    exact SqL.of h3
  · rintro i x σ H3 hx ⟨kvs, v3, rfl, h3l, hkl, hval, e3, h3q⟩
    rw [List.getElem?_map] at hx
    cases hzi : zs[i]? with
    | none => rw [hzi] at hx; cases hx
    | some z =>
      rw [hzi] at hx
      cases hx
      have hil : i < zs.length := (List.getElem?_eq_some_iff.mp hzi).1
      have hzl := Wi.ok_wds hok z ((hwo.2.1 z).mp (List.mem_of_getElem? hzi))
      refine ⟨_, rfl, _, rfl, z, t, rfl, hzl, ht, fun H4 e4 => ?_⟩
      have h4l := e4 _ _ h3l
      refine ⟨_, rfl, _, rfl, lp, _, rfl, DPut.kt h4l (by rw [sizeLine_eq]; omega), _, _, rfl, upd_same, Nat.le_trans (length_putK _ _ _) (by omega), fun y hy => ?_, same_put (e3.trans e4) hlp _, (upd_ne nql).trans (e4 _ _ h3q)⟩
      rw [valV_put]
      rw [List.take_add_one, hzi, List.mem_append] at hy
      by_cases c : y = z
      · subst c
        rw [if_pos rfl, gp_spB]
        rfl
      · rw [if_neg fun e => c (by injection e)]
        rcases hy with hy | hy
        · exact hval y hy
        · exact absurd (by simpa using hy) c
  · rintro σ H3 ⟨kvs, v3, rfl, h3l, hkl, hval, e3, h3q⟩
    rw [List.length_map, List.take_length] at hval
    refine ⟨_, rfl, v, W, rfl, hW.keep (Tk.same e3), by omega, fun hp told H4 hhp e4 h4 R4 => ⟨_, rfl, hp, lp, told, kvs, W, lyT t, rfl, h4, R4, by omega, e4 _ _ h3l, fun z hz' => hval z ((hwo.2.1 z).mpr hz'), fun H5 e5 => k H5 ((e3.trans e4).trans e5)⟩⟩
theorem Ws.cut {H : Hp} {vs : List V} {ws xs : List Wi} (h : Ws H vs (ws ++ xs)) : ∃ A B, vs = A ++ B ∧ Ws H A ws ∧ Ws H B xs := by
  have hl := h.1
  rw [List.length_append] at hl
  refine ⟨vs.take ws.length, vs.drop ws.length, (List.take_append_drop _ _).symm, ⟨by rw [List.length_take]; omega, fun i v x a b => ?_⟩, ⟨by rw [List.length_drop]; omega, fun i v x a b => ?_⟩⟩
  · have hi : i < ws.length := (List.getElem?_eq_some_iff.mp b).1
    rw [List.getElem?_take, if_pos hi] at a
    exact h.2 i v x a (by rw [List.getElem?_append_left hi]; exact b)
  · rw [List.getElem?_drop] at a
    exact h.2 _ v x a (by rw [List.getElem?_append_right (Nat.le_add_right _ _), Nat.add_sub_cancel_left]; exact b)
def spWishFrom : Sp := fun vs H Q _ => ∃ (hp : Addr) (told : List V) (W : Wi), vs = [.ref hp] ∧ H hp = some (.lst told) ∧ TR Wi.hd H told W.pre ∧ W.sz ≤ 1000 ∧ ∀ v H', Same H H' → WAt H' v W → Q v H'
theorem ok_wish_from {f : Addr} {fd : FuncData} (F : Fun K "wish_from" "wish_from" s_wish_from f fd) (Z : Blt mg) {aI : Addr} (c_INNER : mg "INNER" = some (.ref aI)) (dI : DKn P w K aI inKvs) : FnOk P w K mg base CX0 1 f fd ["heads"] spWishFrom := by
  refine F.ok sc_wish_from (fun vs H Q E h => ?_) (fun cdv A outer s H vs Q E hr h => ?_)
  · obtain ⟨hp, told, W, rfl, _⟩ := h
    rfl
  obtain ⟨hp, told, W, rfl, hh, R, hz, k⟩ := h
  have r_INNER : RelV (.ref aI) (.ref aI) := rfl
  refine ⟨_, (pss_cons (ps_set (i := 1) sc_wish_from.nd (by rfl) (Or.inl (by rfl)) (pe_lst pa_nil)) 
      (pss_cons (ps_for PassesOwn.never (by rfl) (pi_rev (K := K) (by rfl) Z.reversed (pv 0)) (pg_name (i := 2) sc_wish_from.nd (by rfl) (Or.inl (by rfl))) 
        (pss_cons (ps_set (i := 3) sc_wish_from.nd (by rfl) (Or.inl (by rfl)) (pe_lst pa_nil)) 
        (pss_cons (ps_for PassesOwn.never (by rfl) (pi_range1 (by rfl) Z.range (pa_cons (pe_dgetC (K := K) (pe_glob (by rfl) c_INNER r_INNER) (pe_ix (ix_tupK (K := K)) (pv 2) pe_int (fun _ _ => rfl)) (fun _ _ => rfl)) pa_nil)) (pg_name (i := 4) sc_wish_from.nd (by rfl) (Or.inl (by rfl))) 
          (pss_one (ps_expr (pe_bmK (K := K) PySem.F.plainAttrs_list PySem.F.slot_list_append PySem.F.type_list_append mt_append (pv 3) (pa_cons (pe_bm0K (K := K) PySem.F.plainAttrs_list PySem.F.slot_list_pop PySem.F.type_list_pop mt_pop (pv 1)) pa_nil))))) 
        (pss_one (ps_expr (pe_bmK (K := K) PySem.F.plainAttrs_list PySem.F.slot_list_append PySem.F.type_list_append mt_append (pv 1) (pa_cons (pe_op (op_catTK (K := K)) (pv 2) (pe_callTy (call_tupK (K := K)) (by rfl) Z.tuple bt_tuple (pa_cons (pv 3) pa_nil))) pa_nil))))))) 
      (pss_one (ps_ret (pe_bm0K (K := K) PySem.F.plainAttrs_list PySem.F.slot_list_pop PySem.F.type_list_pop mt_pop (pv 1)))))), ?_⟩
  refine ⟨(by show 0 ≤ sizeLine; decide), fun wp hwp => ?_⟩
  have e1 := same_new hwp (.lst [])
  have h1w := upd_same (H := H) (a := wp) (o := .lst [])
  generalize upd H wp (.lst []) = H1 at e1 h1w
  have rl := R.len
  refine ⟨_, rfl, hp, told, rfl, SqL.of (e1 _ _ hh), ?_⟩
  refine for_rev (K := K) (a := hp) (xs := told) (fun j σ H2 => ∃ (v2 v3 v4 : Option V) (vs : List V), σ = [some (.ref hp), some (.ref wp), v2, v3, v4] ∧ Same H H2 ∧ H2 wp = some (.lst vs) ∧ Ws H2 vs (fo W (W.pre.length - j)).reverse)
    ⟨none, none, none, [], rfl, e1, h1w, by rw [Nat.sub_zero, fo_end]; exact Ws.nil⟩ (fun j σ H2 _ h => ?_) ?_ ?_
  · obtain ⟨_, _, _, _, _, e2, _⟩ := h
    exact SqL.of (e2 _ _ hh)
  · rintro j x σ H2 hj hx ⟨v2, v3, v4, vs, rfl, e2, h2w, W2⟩
    obtain ⟨a, r, rfl, hr', har⟩ := (R.keep (Tk.same e2)).at_ hx
    rw [rl] at hj hr'
    obtain ⟨ws, f1, f2⟩ := fo_at hr'
    have i1 : W.pre.length - 1 - j + 1 = W.pre.length - j := by omega
    have i2 : W.pre.length - 1 - j = W.pre.length - (j + 1) := by omega
    rw [i1] at f2
    rw [i2] at f1
    rw [f1]
    rw [f2, List.reverse_append] at W2
    obtain ⟨A1, B1, rfl, WA, WB⟩ := W2.cut
    have WC := WB.rev
    rw [List.reverse_reverse] at WC
    obtain ⟨C, rfl⟩ : ∃ C : List V, B1 = C.reverse := ⟨B1.reverse, by simp⟩
    rw [List.reverse_reverse] at WC
    have fl := fo_len W (W.pre.length - (j + 1))
    rw [f1, List.length_cons] at fl
    have hal := WA.1
    rw [List.length_reverse] at hal
    have hcl := WC.1
    have hk2 : r.kd.length ≤ 2 := by cases r <;> simp [Wi.kd]
    have h0 : atI r.hd 0 = some (.str r.nm) := atI_nat (j := 0) (hd_nm r)
    refine ⟨(by show 0 ≤ sizeLine; decide), fun ip hip => ?_⟩
    have nwi : wp ≠ ip := ne_of_none h2w hip
    have s3 := same_new hip (.lst [])
    have h3i := upd_same (H := H2) (a := ip) (o := .lst [])
    have h3w := s3 _ _ h2w
    have h3a := s3 _ _ har
    have WA3 := WA.keep (Tk.same s3)
    have WC3 := WC.keep (Tk.same s3)
    have e3 := e2.trans s3
    have hip0 := none_of e2 hip
    generalize upd H2 ip (.lst []) = H3 at s3 h3i h3w h3a WA3 WC3 e3
    refine ⟨_, rfl, a, _, _, _, rfl, rfl, SqT.of h3a, h0, aI, inKvs, Sum.inr r.nm, _, rfl, rfl, dI, in_val r, _, rfl, by omega, by omega, ?_⟩
    have hn : ((r.kd.length : Nat) : Int).toNat = C.length := by rw [Int.toNat_natCast, hcl]
    rw [hn]
    refine for_range (lo := 0) (n := C.length) (fun i σ H4 => ∃ v4 : Option V, σ = [some (.ref hp), some (.ref wp), some (.ref a), some (.ref ip), v4] ∧ Same H H4 ∧ H4 wp = some (.lst (A1 ++ (C.drop i).reverse)) ∧ H4 ip = some (.lst (C.take i)) ∧ H4 a = some (.tup r.hd) ∧ Ws H4 A1 ws.reverse ∧ Ws H4 C r.kd)
      ⟨v4, rfl, e3, h3w, h3i, h3a, WA3, WC3⟩ ?_ ?_
    · rintro i σ H4 hi ⟨v4, rfl, e4, h4w, h4i, h4a, WA4, WC4⟩
      have hd : C.drop i = C[i] :: C.drop (i + 1) := List.drop_eq_getElem_cons hi
      have hw4 : H4 wp = some (.lst ((A1 ++ (C.drop (i + 1)).reverse) ++ [C[i]])) := by rw [h4w, hd, List.reverse_cons, List.append_assoc]
      refine ⟨_, rfl, .inl ⟨rfl, _, SqL.of h4i⟩, _, rfl, .inl ⟨rfl, _, SqL.of hw4⟩, wp, _, C[i], rfl, rfl, hw4, (by simp), ?_⟩
      rw [List.dropLast_concat]
      have K5 := Tk.lst hw4 (.lst (A1 ++ (C.drop (i + 1)).reverse))
      have e5 := same_put e4 hwp (.lst (A1 ++ (C.drop (i + 1)).reverse))
      have h5w := upd_same (H := H4) (a := wp) (o := .lst (A1 ++ (C.drop (i + 1)).reverse))
      have h5i := (upd_ne (H := H4) (o := .lst (A1 ++ (C.drop (i + 1)).reverse)) nwi.symm).trans h4i
      have h5a := K5 _ _ h4a
      have WA5 := WA4.keep K5
      have WC5 := WC4.keep K5
      generalize upd H4 wp (.lst (A1 ++ (C.drop (i + 1)).reverse)) = H5 at K5 e5 h5w h5i h5a WA5 WC5
      have K6 := Tk.lst h5i (.lst (C.take i ++ [C[i]]))
      have et : C.take (i + 1) = C.take i ++ [C[i]] := by rw [List.take_add_one, List.getElem?_eq_getElem hi]; rfl
      have htl : (C.take i).length ≤ 2 := by rw [List.length_take]; omega
      refine ⟨ip, _, _, rfl, rfl, h5i, (by rw [sizeLine_eq]; omega), _, rfl, same_put e5 hip0 _, (upd_ne nwi).trans h5w, by rw [upd_same, et], K6 _ _ h5a, WA5.keep K6, WC5.keep K6⟩
    · rintro σ H4 ⟨v4, rfl, e4, h4w, h4i, h4a, WA4, WC4⟩
      rw [List.drop_length, List.reverse_nil, List.append_nil] at h4w
      rw [List.take_length] at h4i
      refine ⟨_, rfl, .inl ⟨rfl, _, SqL.of h4w⟩, _, rfl, _, rfl, ip, C, rfl, .inl ⟨SqL.of h4i, fun tp htp => ?_⟩⟩
      have s5 := same_new htp (.tup C)
      have h5t := upd_same (H := H4) (a := tp) (o := .tup C)
      have h5w := s5 _ _ h4w
      have h5a := s5 _ _ h4a
      have e5 := e4.trans s5
      have WA5 := WA4.keep (Tk.same s5)
      have WC5 := WC4.keep (Tk.same s5)
      generalize upd H4 tp (.tup C) = H5 at s5 h5t h5w h5a e5 WA5 WC5
      have hhd := hd_pos r
      have hrl2 : r.hd.length ≤ 2 := by cases r <;> simp [Wi.hd]
      have hne : r.hd ≠ [] := fun e => by rw [e] at hhd; cases hhd
      have fin : ∀ (g : Addr) (H6 : Hp), Same H5 H6 → H6 g = some (.tup (r.hd ++ C)) → Same H (upd H6 wp (.lst (A1 ++ [V.ref g]))) ∧ upd H6 wp (.lst (A1 ++ [V.ref g])) wp = some (.lst (A1 ++ [V.ref g])) ∧ Ws (upd H6 wp (.lst (A1 ++ [V.ref g]))) (A1 ++ [V.ref g]) (r :: ws).reverse := fun g H6 s6 h6 => by
        have K7 := Tk.lst (s6 _ _ h5w) (.lst (A1 ++ [V.ref g]))
        refine ⟨same_put (e5.trans s6) hwp _, upd_same, ?_⟩
        rw [List.reverse_cons]
        exact ((WA5.keep (Tk.same s6)).app (Ws.one (wat_of h6 (WC5.keep (Tk.same s6))))).keep K7
      refine ⟨a, tp, _, _, rfl, rfl, SqT.of h5a, SqT.of h5t, hne, (by rw [sizeLine_eq]; omega), fun hC => ?_, fun hC g hg => ?_⟩
      · obtain ⟨g1, g2, g3⟩ := fin a H5 (Same.refl _) (by rw [hC, List.append_nil]; exact h5a)
        exact ⟨wp, _, _, rfl, rfl, h5w, (by rw [sizeLine_eq]; omega), _, _, _, _, rfl, g1, g2, g3⟩
      · obtain ⟨g1, g2, g3⟩ := fin g _ (same_new hg _) upd_same
        exact ⟨wp, _, _, rfl, rfl, same_new hg _ _ _ h5w, (by rw [sizeLine_eq]; omega), _, _, _, _, rfl, g1, g2, g3⟩
  · rintro σ H2 ⟨v2, v3, v4, vs, rfl, e2, h2w, W2⟩
    rw [rl, Nat.sub_self] at W2
    obtain ⟨us, u, rfl, W3, hu⟩ := last_of (ws := []) W2
    refine ⟨_, rfl, .inl ⟨rfl, _, SqL.of h2w⟩, wp, _, u, rfl, rfl, h2w, (by simp), k u _ (same_put e2 hwp _) (hu.keep (Tk.lst h2w _))⟩
def revS (z : Str) : Str := Txt.join (Str.ofString "") (z.cps.toList.reverse.map fun c => ⟨#[c]⟩)
theorem revS_list (z : Str) : (revS z).cps.toList = z.cps.toList.reverse := join_ones _
theorem str_ext {x y : Str} (h : x.cps.toList = y.cps.toList) : x = y := by
  cases x with
  | mk a =>
    cases y with
    | mk b => exact congrArg Str.mk (Array.toList_inj.mp h)
theorem revS_revS (z : Str) : revS (revS z) = z := str_ext (by rw [revS_list, revS_list, List.reverse_reverse])
theorem revS_len (z : Str) : (revS z).length = z.length := by
  show (revS z).cps.size = z.cps.size
  rw [← Array.length_toList, revS_list, List.length_reverse, Array.length_toList]
def Wi.map (g : Str → Str) : Wi → Wi
  | .lf b => .lf b
  | .has z => .has (g z)
  | .nt x => .nt (x.map g)
  | .bi b x y => .bi b (x.map g) (y.map g)
theorem Wi.map_pre (g : Str → Str) (W : Wi) : (W.map g).pre = W.pre.map (Wi.map g) := by
  induction W with
  | lf b => rfl
  | has z => rfl
  | nt x ih => simp [Wi.map, Wi.pre, ih]
  | bi b x y ihx ihy => simp [Wi.map, Wi.pre, ihx, ihy]
theorem Wi.map_sz (g : Str → Str) (W : Wi) : (W.map g).sz = W.sz := by
  induction W with
  | lf b => rfl
  | has z => rfl
  | nt x ih => simp [Wi.map, Wi.sz, ih]
  | bi b x y ihx ihy => simp [Wi.map, Wi.sz, ihx, ihy]
theorem Wi.map_dep (g : Str → Str) (W : Wi) : (W.map g).dep = W.dep := by
  induction W with
  | lf b => rfl
  | has z => rfl
  | nt x ih => simp [Wi.map, Wi.dep, ih]
  | bi b x y ihx ihy => simp [Wi.map, Wi.dep, ihx, ihy]
theorem Wi.map_hd {g : Str → Str} {W : Wi} (h : W.wd = none) : (W.map g).hd = W.hd := by
  cases W with
  | has z => cases h
  | lf b => rfl
  | nt x => rfl
  | bi b x y => rfl
theorem Wi.map_ok {p q : Str → Prop} {g : Str → Str} (h : ∀ z, p z → q (g z)) : ∀ {W : Wi}, W.ok p → (W.map g).ok q
  | .lf _, _ => trivial
  | .has z, hz => h z hz
  | .nt x, hx => Wi.map_ok (W := x) h hx
  | .bi _ x y, hxy => ⟨Wi.map_ok (W := x) h hxy.1, Wi.map_ok (W := y) h hxy.2⟩
theorem Wi.map_map {g g' : Str → Str} (W : Wi) : (W.map g).map g' = W.map (fun z => g' (g z)) := by
  induction W with
  | lf b => rfl
  | has z => rfl
  | nt x ih => simp [Wi.map, ih]
  | bi b x y ihx ihy => simp [Wi.map, ihx, ihy]
theorem Wi.map_id (W : Wi) : W.map (fun z => z) = W := by
  induction W with
  | lf b => rfl
  | has z => rfl
  | nt x ih => simp [Wi.map, ih]
  | bi b x y ihx ihy => simp [Wi.map, ihx, ihy]
theorem Wi.ok_pre {p : Str → Prop} {W : Wi} (h : W.ok p) : ∀ {r : Wi}, r ∈ W.pre → r.ok p := by
  induction W with
  | lf b => intro r hr; simp [Wi.pre] at hr; rw [hr]; exact h
  | has z => intro r hr; simp [Wi.pre] at hr; rw [hr]; exact h
  | nt x ih =>
    intro r hr
    rcases List.mem_cons.mp hr with e | e
    · rw [e]; exact h
    · exact ih h e
  | bi b x y ihx ihy =>
    intro r hr
    rcases List.mem_cons.mp hr with e | e
    · rw [e]; exact h
    · rcases List.mem_append.mp e with e | e
      · exact ihx h.1 e
      · exact ihy h.2 e
def Wi.dt : Wi → Dt
  | .lf b => .tup [.str (Wi.lf b).nm]
  | .has z => .tup [.str "has", .str z]
  | .nt x => .tup [.str "not", x.dt]
  | .bi b x y => .tup [.str (Wi.bi b x y).nm, x.dt, y.dt]
theorem Wi.dt_dep (W : Wi) : W.dt.dep = W.dep + 1 := by
  induction W with
  | lf b => simp [Wi.dt, Dt.dep, Wi.dep]
  | has z => simp [Wi.dt, Dt.dep, Wi.dep]
  | nt x ih => simp [Wi.dt, Dt.dep, Wi.dep, ih]
  | bi b x y ihx ihy => simp [Wi.dt, Dt.dep, Wi.dep, ihx, ihy]
theorem den_two {H : Hp} {xs : List V} {ds : List Dt} {x : V} {d : Dt} (h0 : Den H x d) (h : ∀ (i : Nat) x d, xs[i]? = some x → ds[i]? = some d → Den H x d) : ∀ (i : Nat) y e, (x :: xs)[i]? = some y → (d :: ds)[i]? = some e → Den H y e := fun i y e a b => by
  cases i with
  | zero => cases a; cases b; exact h0
  | succ i => exact h i y e (by simpa using a) (by simpa using b)
theorem WAt.den {H : Hp} {v : V} {W : Wi} (h : WAt H v W) : Den H v W.dt := by
  induction h with
  | @mk a vs W h hl _ ih =>
    cases W with
    | lf b =>
      cases vs with
      | nil => exact .tup h (by simp [Wi.hd]) (by simp [Wi.hd]) (den_two (.str _) fun i x d e => by simp at e)
      | cons _ _ => cases hl
    | has z =>
      cases vs with
      | nil => exact .tup h (by simp [Wi.hd]) (by simp [Wi.hd]) (den_two (.str _) (den_two (.str _) fun i x d e => by simp at e))
      | cons _ _ => cases hl
    | nt x =>
      match vs, hl, h, ih with
      | [v1], _, h, ih => exact .tup h (by simp [Wi.hd]) (by simp [Wi.hd]) (den_two (.str _) (den_two (ih 0 v1 x rfl rfl) fun i x d e => by simp at e))
    | bi b x y =>
      match vs, hl, h, ih with
      | [v1, v2], _, h, ih => exact .tup h (by simp [Wi.hd]) (by simp [Wi.hd]) (den_two (.str _) (den_two (ih 0 v1 x rfl rfl) (den_two (ih 1 v2 y rfl rfl) fun i x d e => by simp at e)))
def spCh (f : Addr) (fd : FuncData) (p : Str → Prop) (g : Str → Str) (G : Hp → Prop) : Sp := fun vs H Q _ => ∃ z, vs = [.str z] ∧ p z ∧ H f = some (FnO f fd) ∧ G H ∧ ∀ H', Same H H' → Q (.str (g z)) H'
def spWW (P : Program) (w : World) (K : PySem.W.Frag) (mg : Str → Option Value) (base : Heap) (n : Nat) : Sp := fun vs H Q _ => ∃ (f : Addr) (fd : FuncData) (p : Str → Prop) (g : Str → Str) (G : Hp → Prop) (v : V) (W : Wi),
  FnOk P w K mg base CX0 n f fd ["word"] (spCh f fd p g G) ∧ Binds K fd ["word"] [] ∧ (∀ H1 H2, Same H1 H2 → G H1 → G H2) ∧ vs = [v, .ref f] ∧ WAt H v W ∧ W.sz ≤ 1000 ∧ W.ok p ∧ H f = some (FnO f fd) ∧ G H ∧ ∀ u H', Same H H' → WAt H' u (W.map g) → Q u H'
theorem ok_with_words {n : Nat} {f : Addr} {fd : FuncData} (F : Fun K "with_words" "with_words" s_with_words f fd) (Z : Blt mg) (C_heads_in : Cal P w K mg base "heads_in" 2 ["wish"] spHeads) (C_wish_from : Cal P w K mg base "wish_from" 1 ["heads"] spWishFrom) : FnOk P w K mg base CX0 (n + 3) f fd ["wish", "change"] (spWW P w K mg base n) := by
  refine F.ok sc_with_words (fun vs H Q E h => ?_) (fun cdv A outer s H vs Q E hr h => ?_)
  · obtain ⟨f, fd, p, g, G, v, W, _, _, _, rfl, _⟩ := h
    rfl
  obtain ⟨fv, fdv, pw, g, G, v, W, Fv_change, bv_change, hG, rfl, hW, hz, hok, hf, hGH, k⟩ := h
  refine ⟨_, (pss_cons (ps_set (i := 2) sc_with_words.nd (by rfl) (Or.inl (by rfl)) (pe_lst pa_nil)) 
      (pss_cons (ps_for PassesOwn.never (by rfl) (pi_listK (K := K) (pe_c C_heads_in (hr.mono (by omega)) (pa_cons (pv 0) pa_nil))) (pg_name (i := 3) sc_with_words.nd (by rfl) (Or.inl (by rfl))) 
        (pss_one (ps_if (pt_cmpR op_eq (pe_ix (ix_tupK (K := K)) (pv 3) pe_int (fun _ _ => rfl)) pe_str (nomark _)) 
          (pss_one (ps_expr (pe_bmK (K := K) PySem.F.plainAttrs_list PySem.F.slot_list_append PySem.F.type_list_append mt_append (pv 2) (pa_cons (pe_tup (pa_cons pe_str (pa_cons (pe_callV (i := 1) Fv_change (hr.mono (by omega)) bv_change (pa_cons (pe_ix (ix_tupK (K := K)) (pv 3) pe_int (fun _ _ => rfl)) pa_nil)) pa_nil))) pa_nil)))) 
          (pss_one (ps_expr (pe_bmK (K := K) PySem.F.plainAttrs_list PySem.F.slot_list_append PySem.F.type_list_append mt_append (pv 2) (pa_cons (pv 3) pa_nil))))))) 
      (pss_one (ps_ret (pe_c C_wish_from (hr.mono (by omega)) (pa_cons (pv 2) pa_nil)))))), ?_⟩
  refine ⟨(by show 0 ≤ sizeLine; decide), fun hp hhp => ?_⟩
  have e1 := same_new hhp (.lst [])
  have h1p := upd_same (H := H) (a := hp) (o := .lst [])
  generalize upd H hp (.lst []) = H1 at e1 h1p
  refine ⟨_, rfl, v, W, rfl, hW.keep (Tk.same e1), hz, fun q told H2 hq e2 h2q R2 => ⟨q, rfl, ⟨_, SqL.of h2q⟩, ?_⟩⟩
  have nqp : q ≠ hp := (ne_of_none h1p hq).symm
  have rl := R2.len
  have hpl := W.pre_len
  refine for_list (K := K) (a := q) (xs := told) (fun i σ H3 => ∃ (v3 : Option V) (hs : List V), σ = [some v, some (.ref fv), some (.ref hp), v3] ∧ Same H H3 ∧ H3 q = some (.lst told) ∧ H3 hp = some (.lst hs) ∧ TR Wi.hd H3 hs ((W.map g).pre.take i) ∧ TR Wi.hd H3 told W.pre)
    ⟨none, [], rfl, e1.trans e2, h2q, e2 _ _ h1p, by rw [List.take_zero]; exact .nil, R2⟩ (fun i σ H3 _ h => ?_) ?_ ?_
  · obtain ⟨_, _, _, _, h3, _⟩ := h
    exact SqL.of h3
  · rintro i x σ H3 hx ⟨v3, hs, rfl, e3, h3q, h3p, R3, T3⟩
    obtain ⟨a, r, rfl, hr', har⟩ := T3.at_ hx
    have hi : i < W.pre.length := (List.getElem?_eq_some_iff.mp hr').1
    have hrm : r ∈ W.pre := List.mem_of_getElem? hr'
    have hsl := R3.len
    rw [List.length_take] at hsl
    have hml : (W.map g).pre.length = W.pre.length := by rw [Wi.map_pre, List.length_map]
    have htk : (W.map g).pre.take (i + 1) = (W.map g).pre.take i ++ [r.map g] := by
      rw [List.take_add_one, Wi.map_pre, List.getElem?_map, hr']
      rfl
    have h0 : atI r.hd 0 = some (.str r.nm) := atI_nat (j := 0) (hd_nm r)
    refine ⟨_, rfl, a, _, _, _, rfl, rfl, SqT.of har, h0, rfl, _, rfl, ?_⟩
    cases hw : r.wd with
    | some z =>
      obtain rfl : r = .has z := by
        cases r with
        | has y => exact congrArg Wi.has (Option.some.inj hw)
        | lf b => cases hw
        | nt x => cases hw
        | bi b x y => cases hw
      refine ifY (show decide (V.str "has" = V.str "has") = true by decide +kernel) ⟨_, rfl, .inl ⟨rfl, _, SqL.of h3p⟩, rfl, e3 _ _ hf, _, rfl, a, _, _, _, rfl, rfl, SqT.of har, atI_nat (j := 1) rfl, e3 _ _ hf, z, rfl, Wi.ok_pre hok hrm, e3 _ _ hf, hG _ _ e3 hGH, fun H4 e4 => ⟨(by show 2 ≤ sizeLine; decide), fun tp htp => ?_⟩⟩
      have s5 := same_new htp (.tup [V.str "has", V.str (g z)])
      have h5t := upd_same (H := H4) (a := tp) (o := .tup [V.str "has", V.str (g z)])
      have e5 := e4.trans s5
      have h5p := e5 _ _ h3p
      have h5q := e5 _ _ h3q
      have R5 := R3.keep (Tk.same e5)
      have T5 := T3.keep (Tk.same e5)
      generalize upd H4 tp (.tup [V.str "has", V.str (g z)]) = H5 at s5 h5t e5 h5p h5q R5 T5
      have K6 := Tk.lst h5p (.lst (hs ++ [V.ref tp]))
      refine ⟨hp, _, _, rfl, rfl, h5p, (by rw [sizeLine_eq]; omega), _, _, rfl, same_put (e3.trans e5) hhp _, (upd_ne nqp).trans h5q, upd_same, ?_, T5.keep K6⟩
      rw [htk]
      exact (R5.snoc (r := (Wi.has z).map g) h5t).keep K6
    | none =>
      refine ifN (nm_has hw) ⟨_, rfl, .inl ⟨rfl, _, SqL.of h3p⟩, _, rfl, hp, _, _, rfl, rfl, h3p, (by rw [sizeLine_eq]; omega), ?_⟩
      have K6 := Tk.lst h3p (.lst (hs ++ [V.ref a]))
      refine ⟨_, _, rfl, same_put e3 hhp _, (upd_ne nqp).trans h3q, upd_same, ?_, T3.keep K6⟩
      rw [htk]
      exact (R3.snoc (r := r.map g) (by rw [Wi.map_hd hw]; exact har)).keep K6
  · rintro σ H3 ⟨v3, hs, rfl, e3, h3q, h3p, R3, T3⟩
    have hml : (W.map g).pre.length = told.length := by rw [Wi.map_pre, List.length_map, rl]
    rw [← hml, List.take_length] at R3
    exact ⟨_, rfl, hp, hs, W.map g, rfl, h3p, R3, by rw [Wi.map_sz]; exact hz, fun u H4 e4 hu => k u H4 (e3.trans e4) hu⟩
theorem sub_cc {c d : Nat} {w t : List Nat} : (c :: w).Sublist (d :: t) ↔ (c :: w).Sublist t ∨ (c = d ∧ w.Sublist t) := by
  constructor
  · intro h
    cases h with
    | cons _ h => exact .inl h
    | cons_cons _ h => exact .inr ⟨rfl, h⟩
  · rintro (h | ⟨rfl, h⟩)
    · exact h.cons _
    · exact h.cons_cons _
theorem sp_sub : ∀ (w t : List Nat), 0 < emb w t ↔ w.Sublist t
  | [], t => by rw [emb_nil]; exact ⟨fun _ => List.nil_sublist _, fun _ => Nat.one_pos⟩
  | c :: w, [] => by
    rw [emb_end (by simp)]
    exact ⟨fun h => absurd h (Nat.lt_irrefl _), fun h => by cases h⟩
  | c :: w, d :: t => by
    rw [emb_cc, sub_cc, ← sp_sub (c :: w) t, ← sp_sub w t]
    by_cases e : c = d
    · rw [if_pos e]
      constructor
      · intro h
        by_cases z : 0 < emb (c :: w) t
        · exact .inl z
        · exact .inr ⟨e, by omega⟩
      · rintro (z | ⟨_, z⟩) <;> omega
    · rw [if_neg e]
      constructor
      · intro h
        exact .inl (by omega)
      · rintro (z | ⟨z, _⟩)
        · omega
        · exact absurd z e
theorem spB_sub (w t : List Nat) : spB w t = true ↔ w.Sublist t := by
  rw [spB_is, decide_eq_true_eq]
  exact sp_sub w t
theorem slice_from (z : Str) (n : Nat) : (Txt.slice z (some ((n : Nat) : Int)) none).cps.toList = z.cps.toList.drop n := by
  have hl := len_list z
  rw [slice_list, HT.sIx_none, HT.sIx_nat]
  by_cases h : n ≤ z.length
  · rw [Nat.min_eq_left h, List.take_of_length_le (by rw [List.length_drop]; omega)]
  · rw [Nat.min_eq_right (by omega), List.drop_eq_nil_of_le (by omega), List.drop_eq_nil_of_le (by omega), List.take_nil]
theorem dec_of {a : Prop} [Decidable a] (h : a) : decide a = true := decide_eq_true h
def wf (l z : Str) : Str := if Txt.startswith z l = true then Txt.slice z (some 1) none else z
def wl (l z : Str) : Str := if Txt.endswith z l = true then Txt.slice z none (some (-1)) else z
theorem starts_one (z : Str) (c : Nat) : Txt.startswith z ⟨#[c]⟩ = true ↔ z.cps.toList[0]? = some c := by
  rw [← StrLaws.subAt_one z c 0]
  unfold Txt.startswith
  rw [Bool.and_eq_true, decide_eq_true_iff]
theorem ends_one (z : Str) (c : Nat) : Txt.endswith z ⟨#[c]⟩ = true ↔ z.cps.toList ≠ [] ∧ z.cps.toList[z.length - 1]? = some c := by
  have h1 : (⟨#[c]⟩ : Str).length = 1 := rfl
  have hl := len_list z
  unfold Txt.endswith
  rw [Bool.and_eq_true, decide_eq_true_iff, h1, ← StrLaws.subAt_one z c (z.length - 1), h1]
  constructor
  · rintro ⟨a, b⟩
    exact ⟨fun e => by rw [e] at hl; simp at hl; omega, by omega, b⟩
  · rintro ⟨_, a, b⟩
    exact ⟨by omega, b⟩
def wfL (d : Nat) : List Nat → List Nat
  | [] => []
  | c :: r => if c = d then r else c :: r
theorem sub_wf {d : Nat} {w t : List Nat} : w.Sublist (d :: t) ↔ (wfL d w).Sublist t := by
  cases w with
  | nil => simp [wfL]
  | cons c r =>
    rw [sub_cc]
    show _ ↔ (if c = d then r else c :: r).Sublist t
    by_cases h : c = d
    · rw [if_pos h]
      constructor
      · rintro (a | a)
        · exact (List.sublist_cons_self c r).trans a
        · exact a.2
      · exact fun a => .inr ⟨h, a⟩
    · rw [if_neg h]
      constructor
      · rintro (a | a)
        · exact a
        · exact absurd a.1 h
      · exact fun a => .inl a
def wlL (d : Nat) (w : List Nat) : List Nat := (wfL d w.reverse).reverse
theorem sub_wl {d : Nat} {w t : List Nat} : w.Sublist (t ++ [d]) ↔ (wlL d w).Sublist t := by
  rw [← List.reverse_sublist, List.reverse_append]
  show w.reverse.Sublist (d :: t.reverse) ↔ _
  rw [sub_wf, ← List.reverse_sublist, List.reverse_reverse]
  rfl
theorem wf_list (d : Nat) (z : Str) : (wf ⟨#[d]⟩ z).cps.toList = wfL d z.cps.toList := by
  unfold wf
  have e1 : (Txt.slice z (some 1) none).cps.toList = z.cps.toList.drop 1 := slice_from z 1
  by_cases h : z.cps.toList[0]? = some d
  · rw [if_pos ((starts_one z d).mpr h), e1]
    cases hz : z.cps.toList with
    | nil => rfl
    | cons c r =>
      rw [hz] at h
      cases h
      show r = if d = d then r else _
      rw [if_pos rfl]
  · rw [if_neg (fun e => h ((starts_one z d).mp e))]
    cases hz : z.cps.toList with
    | nil => rfl
    | cons c r =>
      rw [hz] at h
      show _ = if c = d then r else c :: r
      rw [if_neg (fun e => h (by rw [e]; rfl))]
theorem wl_list (d : Nat) (z : Str) : (wl ⟨#[d]⟩ z).cps.toList = wlL d z.cps.toList := by
  unfold wl wlL
  have hl := len_list z
  rcases List.eq_nil_or_concat z.cps.toList with hz | ⟨r, c, hz⟩
  · rw [if_neg (fun e => ((ends_one z d).mp e).1 hz), hz]
    rfl
  · rw [List.concat_eq_append] at hz
    have hlen : z.length = r.length + 1 := by rw [← hl, hz, List.length_append]; rfl
    have hlast : z.cps.toList[z.length - 1]? = some c := by rw [hz, hlen]; simp
    have hne : z.cps.toList ≠ [] := by rw [hz]; simp
    rw [hz, List.reverse_append]
    show _ = (if c = d then r.reverse else c :: r.reverse).reverse
    by_cases h : c = d
    · subst h
      rw [if_pos ((ends_one z c).mpr ⟨hne, hlast⟩), if_pos rfl, List.reverse_reverse, slice_list, HT.sIx_none, hz]
      have := HT.clip_eq (-1) z.length z.length
      rw [if_pos (by decide)] at this
      have e2 : HT.sIx z.length z.length (some (-1)) = r.length := by omega
      rw [e2, List.drop_zero, Nat.sub_zero]
      simp
    · rw [if_neg (fun e => h (by
        have := ((ends_one z d).mp e).2
        rw [hlast] at this
        exact Option.some.inj this)), if_neg h, hz]
      simp
theorem wf_wl (c d : Nat) (z : Str) : wl ⟨#[d]⟩ (wf ⟨#[c]⟩ z) = wf ⟨#[c]⟩ (wl ⟨#[d]⟩ z) := by
  refine str_ext ?_
  rw [wl_list, wf_list, wf_list, wl_list]
  generalize z.cps.toList = w
  unfold wlL
  rcases w with _ | ⟨a, r⟩
  · rfl
  rcases List.eq_nil_or_concat r with rfl | ⟨m, e, he⟩
  · show (wfL d (if a = c then [] else [a]).reverse).reverse = wfL c (if a = d then [] else [a]).reverse
    by_cases h1 : a = c
    · by_cases h2 : a = d
      · rw [if_pos h1, if_pos h2]; rfl
      · rw [if_pos h1, if_neg h2]
        show [] = if a = c then [] else [a]
        rw [if_pos h1]
    · by_cases h2 : a = d
      · rw [if_neg h1, if_pos h2]
        show (if a = d then [] else [a]).reverse = []
        rw [if_pos h2]; rfl
      · rw [if_neg h1, if_neg h2]
        show (if a = d then [] else [a]).reverse = if a = c then [] else [a]
        rw [if_neg h1, if_neg h2]; rfl
  · rw [List.concat_eq_append] at he
    subst he
    have e1 : (a :: (m ++ [e])).reverse = e :: (m.reverse ++ [a]) := by simp
    rw [e1]
    show (wfL d (if a = c then m ++ [e] else a :: (m ++ [e])).reverse).reverse = wfL c (if e = d then m.reverse ++ [a] else e :: (m.reverse ++ [a])).reverse
    by_cases h1 : a = c
    · rw [if_pos h1, List.reverse_append]
      show (if e = d then m.reverse else e :: m.reverse).reverse = _
      by_cases h2 : e = d
      · rw [if_pos h2, if_pos h2]
        have : (m.reverse ++ [a]).reverse = a :: m := by simp
        rw [this]
        show _ = if a = c then m else _
        rw [if_pos h1, List.reverse_reverse]
      · rw [if_neg h2, if_neg h2]
        have : (e :: (m.reverse ++ [a])).reverse = a :: (m ++ [e]) := by simp
        rw [this]
        show _ = if a = c then m ++ [e] else _
        rw [if_pos h1]
        simp
    · rw [if_neg h1, e1]
      show (if e = d then m.reverse ++ [a] else e :: (m.reverse ++ [a])).reverse = _
      by_cases h2 : e = d
      · rw [if_pos h2]
        have : (m.reverse ++ [a]).reverse = a :: m := by simp
        rw [this]
        show _ = if a = c then m else a :: m
        rw [if_neg h1]
      · rw [if_neg h2]
        have : (e :: (m.reverse ++ [a])).reverse = a :: (m ++ [e]) := by simp
        rw [this]
        show _ = if a = c then m ++ [e] else a :: (m ++ [e])
        rw [if_neg h1]
theorem rev_wf (c : Nat) (z : Str) : revS (wf ⟨#[c]⟩ z) = wl ⟨#[c]⟩ (revS z) := str_ext (by
  rw [revS_list, wf_list, wl_list, revS_list]
  unfold wlL
  rw [List.reverse_reverse])
theorem wf_len (c : Nat) (z : Str) : (wf ⟨#[c]⟩ z).length ≤ z.length := by
  rw [← len_list, ← len_list z, wf_list]
  cases z.cps.toList with
  | nil => exact Nat.le_refl _
  | cons a r =>
    show (if a = c then r else a :: r).length ≤ r.length + 1
    by_cases h : a = c
    · rw [if_pos h]; omega
    · rw [if_neg h]; exact Nat.le_refl _
theorem wl_len (c : Nat) (z : Str) : (wl ⟨#[c]⟩ z).length ≤ z.length := by
  have h1 : wl ⟨#[c]⟩ z = revS (wf ⟨#[c]⟩ (revS z)) := by
    rw [rev_wf, revS_revS]
  rw [h1, revS_len]
  exact Nat.le_trans (wf_len _ _) (Nat.le_of_eq (revS_len z))
theorem ev_map {ly : Str → Bool} {g : Str → Str} (W : Wi) : ev ly (W.map g) = ev (fun z => ly (g z)) W := by
  induction W with
  | lf b => rfl
  | has z => rfl
  | nt x ih => simp [Wi.map, ev, ih]
  | bi b x y ihx ihy => simp [Wi.map, ev, ihx, ihy]
def lyL (t : List Nat) (z : Str) : Bool := spB z.cps.toList t
theorem bool_iff {a b : Bool} (h : a = true ↔ b = true) : a = b := by cases a <;> cases b <;> simp_all
theorem ev_wf (c : Nat) (t : List Nat) (W : Wi) : ev (lyL t) (W.map (wf ⟨#[c]⟩)) = ev (lyL (c :: t)) W := by
  rw [ev_map]
  refine congrArg (fun l => ev l W) (funext fun z => bool_iff ?_)
  unfold lyL
  rw [spB_sub, spB_sub, wf_list, sub_wf]
theorem ev_wl (c : Nat) (t : List Nat) (W : Wi) : ev (lyL t) (W.map (wl ⟨#[c]⟩)) = ev (lyL (t ++ [c])) W := by
  rw [ev_map]
  refine congrArg (fun l => ev l W) (funext fun z => bool_iff ?_)
  unfold lyL
  rw [spB_sub, spB_sub, wl_list, sub_wl]
theorem ev_rev (t : List Nat) (W : Wi) : ev (lyL t.reverse) (W.map revS) = ev (lyL t) W := by
  rw [ev_map]
  refine congrArg (fun l => ev l W) (funext fun z => bool_iff ?_)
  unfold lyL
  rw [spB_sub, spB_sub, revS_list, List.reverse_sublist]
theorem Wi.wds_map (g : Str → Str) (W : Wi) : (W.map g).wds = W.wds.map g := by
  induction W with
  | lf b => rfl
  | has z => rfl
  | nt x ih => rw [Wi.map, Wi.wds_nt, Wi.wds_nt, ih]
  | bi b x y ihx ihy => rw [Wi.map, Wi.wds_bi, Wi.wds_bi, ihx, ihy, List.map_append]
theorem few_image {a b : List Str} {g : Str → Str} (nd : a.Nodup) (h : ∀ x ∈ a, ∃ y ∈ b, x = g y) : a.length ≤ b.length := by
  have hs : ∀ x ∈ a, x ∈ b.map g := fun x hx => by
    obtain ⟨y, hy, e⟩ := h x hx
    exact List.mem_map.mpr ⟨y, hy, e.symm⟩
  have key : ∀ {a b : List Str}, a.Nodup → (∀ c ∈ a, c ∈ b) → a.length ≤ b.length := fun {a} => by
    induction a with
    | nil => intros; exact Nat.zero_le _
    | cons x a ih =>
      intro b nd h
      have hx : x ∈ b := h x List.mem_cons_self
      have q := ih (b := b.erase x) (List.nodup_cons.mp nd).2 fun c hc => (List.mem_erase_of_ne fun e => (List.nodup_cons.mp nd).1 (by rw [← e]; exact hc)).mpr (h c (List.mem_cons_of_mem _ hc))
      rw [List.length_erase_of_mem hx] at q
      have := List.length_pos_of_mem hx
      rw [List.length_cons]
      omega
  have := key nd hs
  rwa [List.length_map] at this
def spWf : Sp := fun vs H Q _ => ∃ z l : Str, vs = [.str z, .str l] ∧ z.length ≤ 100 ∧ Q (.str (wf l z)) H
theorem ok_without_first {f : Addr} {fd : FuncData} (F : Fun K "without_first" "without_first" s_without_first f fd) (Z : Blt mg) : FnOk P w K mg base CX0 1 f fd ["word", "letter"] spWf := by
  refine F.ok sc_without_first (fun vs H Q E h => ?_) (fun cdv A outer s H vs Q E hr h => ?_)
  · obtain ⟨z, l, rfl, _⟩ := h
    rfl
  obtain ⟨z, l, rfl, hz, k⟩ := h
  have hzl : z.length ≤ sizeLine := by rw [sizeLine_eq]; omega
  refine ⟨_, (pss_cons (ps_if (pt_truthK (K := K) (pe_bmK (K := K) PySem.F.plainAttrs_str PySem.F.slot_str_startswith PySem.F.type_str_startswith mt_starts (pv 0) (pa_cons (pv 1) pa_nil)) (fun _ => rfl)) 
        (pss_one (ps_ret (pe_slice sl_str (pv 0) (po_some pe_int) po_none))) pss_nil) 
      (pss_one (ps_ret (pv 0)))), ?_⟩
  refine ⟨_, rfl, rfl, _, rfl, z, l, rfl, rfl, _, rfl, ?_⟩
  unfold wf at k
  by_cases h : Txt.startswith z l = true
  · rw [if_pos h] at k
    exact ifY h ⟨_, rfl, _, rfl, z, rfl, hzl, k⟩
  · rw [if_neg h] at k
    exact ifN (by simpa using h) ⟨_, rfl, k⟩
def spWl : Sp := fun vs H Q _ => ∃ z l : Str, vs = [.str z, .str l] ∧ z.length ≤ 100 ∧ Q (.str (wl l z)) H
theorem ok_without_last {f : Addr} {fd : FuncData} (F : Fun K "without_last" "without_last" s_without_last f fd) (Z : Blt mg) : FnOk P w K mg base CX0 1 f fd ["word", "letter"] spWl := by
  refine F.ok sc_without_last (fun vs H Q E h => ?_) (fun cdv A outer s H vs Q E hr h => ?_)
  · obtain ⟨z, l, rfl, _⟩ := h
    rfl
  obtain ⟨z, l, rfl, hz, k⟩ := h
  have hzl : z.length ≤ sizeLine := by rw [sizeLine_eq]; omega
  refine ⟨_, (pss_cons (ps_if (pt_truthK (K := K) (pe_bmK (K := K) PySem.F.plainAttrs_str PySem.F.slot_str_endswith PySem.F.type_str_endswith mt_ends (pv 0) (pa_cons (pv 1) pa_nil)) (fun _ => rfl)) 
        (pss_one (ps_ret (pe_slice sl_str (pv 0) po_none (po_some (pe_un un_neg pe_int))))) pss_nil) 
      (pss_one (ps_ret (pv 0)))), ?_⟩
  refine ⟨_, rfl, rfl, _, rfl, z, l, rfl, rfl, _, rfl, ?_⟩
  unfold wl at k
  by_cases h : Txt.endswith z l = true
  · rw [if_pos h] at k
    exact ifY h ⟨_, rfl, _, rfl, _, rfl, z, rfl, hzl, k⟩
  · rw [if_neg h] at k
    exact ifN (by simpa using h) ⟨_, rfl, k⟩
abbrev tabB : List (Pos × Str) := [(⟨77, 28, 77, 68⟩, "wish_behind" ++ ".<locals>." ++ "<lambda>")]
abbrev tabA : List (Pos × Str) := [(⟨79, 28, 79, 67⟩, "wish_ahead" ++ ".<locals>." ++ "<lambda>")]
def spMoved (Pt : Addr) (L : List (Pos × Str)) (g : Str → Str → Str) : Sp := fun vs H Q _ => ∃ (v : V) (l : Str) (W : Wi), vs = [v, .str l] ∧ WAt H v W ∧ W.sz ≤ 1000 ∧ W.ok (fun z => z.length ≤ 100) ∧ Tb Pt L H ∧ ∀ u H', SameT Pt H H' → Tb Pt L H' → WAt H' u (W.map (g l)) → Q u H'
theorem ok_wish_behind {f : Addr} {fd : FuncData} (F : Fun K "wish_behind" "wish_behind" s_wish_behind f fd) (Z : Blt mg) {cw Pt : Addr} (hcode : fd.code = .ref cw) (CH : PySem.W.CodeHd base cw Pt) (BM : BltM mg base)
    (CW : ∀ base, Cal P w K mg base "with_words" 5 ["wish", "change"] (spWW P w K mg base 2)) (CF : ∀ base, Cal P w K mg base "without_first" 1 ["word", "letter"] spWf) : FnOk P w K mg base CX0 6 f fd ["wish", "letter"] (spMoved Pt tabB wf) := by
  refine F.okC sc_wish_behind (fun vs H Q E h => ?_) (fun A outer s H vs Q E hr h => ?_)
  · obtain ⟨v, l, W, rfl, _⟩ := h
    rfl
  obtain ⟨v, l, W, rfl, hW, hz, hok, hT, k⟩ := h
  have tabU : ∀ x ∈ tabB, x.1.line = (⟨77, 28, 77, 68⟩ : Pos).line → x.1.col = (⟨77, 28, 77, 68⟩ : Pos).col → x.2 = "wish_behind" ++ ".<locals>." ++ "<lambda>" := fun x hx _ _ => by rw [List.mem_singleton.mp hx]
  let tabL := tabB
  have C_with_words := CW base
  refine ⟨_, (pss_one (ps_ret (pe_cE C_with_words (hr.mono (by decide)) (pa_cons (pv 0) (pa_cons (pe_lam (L := tabL) (sc := defScope s_wish_behind) hcode CH BM (by first | exact List.mem_cons_self | exact List.mem_cons_of_mem _ List.mem_cons_self) tabU) pa_nil))))), ?_⟩
  refine ⟨_, rfl, hT, fun H1 fl c ct e1 hT1 hf0 hf hc base' B => ?_⟩
  have tk1 : Tk H H1 := fun b ys h => e1 b _ (fun z => by
    obtain ⟨ps, hp, _⟩ := hT
    rw [z, hp] at h
    cases h) h
  have C_without_first := CF base'
  refine ⟨_, _, CW base', fl, _, (fun z => z.length ≤ 100), wf l, (fun H => H c = some (CdO c ("wish_behind" ++ ".<locals>." ++ "<lambda>"))), v, W, ?_, ?_, fun _ _ e h => e _ _ h, rfl, hW.keep tk1, hz, hok, hf, hc, fun u H2 e2 hu => k u H2 (e1.trans e2.t) (hT1.same e2) hu⟩
  · refine lam_ok (N := ["word", "letter"]) (fv := [.str l]) ⟨rfl, rfl, rfl, by decide, rfl, by decide +kernel, by decide +kernel⟩ (B.cl (sc := defScope s_wish_behind) [1] rfl (by decide +kernel) rfl rfl (fun j i x a b => ?_) (fun j i x a b => ?_)) (fun vs H Q E h => ?_) (fun vs H Q E h => ?_) (fun A outer s H vs Q E hr h => ?_)
    · match j, a, b with
      | 0, a, b => cases a; cases b; exact ⟨rfl, rfl⟩
      | j + 1, a, _ => simp at a
    · match j, a, b with
      | 0, a, b => cases a; cases b; rfl
      | j + 1, a, _ => simp at a
    · obtain ⟨z, rfl, _⟩ := h
      rfl
    · obtain ⟨z, rfl, _, h1, h2, _⟩ := h
      exact ⟨h1, h2⟩
    · obtain ⟨z, rfl, hz, h1, h2, k⟩ := h
      refine ⟨_, (pe_c C_without_first (hr.mono (by decide)) (pa_cons (pv 0) (pa_cons (pv 1) pa_nil))), ?_⟩
      exact ⟨_, rfl, _, rfl, z, l, rfl, hz, k _ (Same.refl _)⟩
  · exact .all fun us hl => match us, hl with | [_], _ => rfl
theorem ok_wish_ahead {f : Addr} {fd : FuncData} (F : Fun K "wish_ahead" "wish_ahead" s_wish_ahead f fd) (Z : Blt mg) {cw Pt : Addr} (hcode : fd.code = .ref cw) (CH : PySem.W.CodeHd base cw Pt) (BM : BltM mg base)
    (CW : ∀ base, Cal P w K mg base "with_words" 5 ["wish", "change"] (spWW P w K mg base 2)) (CF : ∀ base, Cal P w K mg base "without_last" 1 ["word", "letter"] spWl) : FnOk P w K mg base CX0 6 f fd ["wish", "letter"] (spMoved Pt tabA wl) := by
  refine F.okC sc_wish_ahead (fun vs H Q E h => ?_) (fun A outer s H vs Q E hr h => ?_)
  · obtain ⟨v, l, W, rfl, _⟩ := h
    rfl
  obtain ⟨v, l, W, rfl, hW, hz, hok, hT, k⟩ := h
  have tabU : ∀ x ∈ tabA, x.1.line = (⟨79, 28, 79, 67⟩ : Pos).line → x.1.col = (⟨79, 28, 79, 67⟩ : Pos).col → x.2 = "wish_ahead" ++ ".<locals>." ++ "<lambda>" := fun x hx _ _ => by rw [List.mem_singleton.mp hx]
  let tabL := tabA
  have C_with_words := CW base
  refine ⟨_, (pss_one (ps_ret (pe_cE C_with_words (hr.mono (by decide)) (pa_cons (pv 0) (pa_cons (pe_lam (L := tabL) (sc := defScope s_wish_ahead) hcode CH BM (by first | exact List.mem_cons_self | exact List.mem_cons_of_mem _ List.mem_cons_self) tabU) pa_nil))))), ?_⟩
  refine ⟨_, rfl, hT, fun H1 fl c ct e1 hT1 hf0 hf hc base' B => ?_⟩
  have tk1 : Tk H H1 := fun b ys h => e1 b _ (fun z => by
    obtain ⟨ps, hp, _⟩ := hT
    rw [z, hp] at h
    cases h) h
  have C_without_last := CF base'
  refine ⟨_, _, CW base', fl, _, (fun z => z.length ≤ 100), wl l, (fun H => H c = some (CdO c ("wish_ahead" ++ ".<locals>." ++ "<lambda>"))), v, W, ?_, ?_, fun _ _ e h => e _ _ h, rfl, hW.keep tk1, hz, hok, hf, hc, fun u H2 e2 hu => k u H2 (e1.trans e2.t) (hT1.same e2) hu⟩
  · refine lam_ok (N := ["word", "letter"]) (fv := [.str l]) ⟨rfl, rfl, rfl, by decide, rfl, by decide +kernel, by decide +kernel⟩ (B.cl (sc := defScope s_wish_ahead) [1] rfl (by decide +kernel) rfl rfl (fun j i x a b => ?_) (fun j i x a b => ?_)) (fun vs H Q E h => ?_) (fun vs H Q E h => ?_) (fun A outer s H vs Q E hr h => ?_)
    · match j, a, b with
      | 0, a, b => cases a; cases b; exact ⟨rfl, rfl⟩
      | j + 1, a, _ => simp at a
    · match j, a, b with
      | 0, a, b => cases a; cases b; rfl
      | j + 1, a, _ => simp at a
    · obtain ⟨z, rfl, _⟩ := h
      rfl
    · obtain ⟨z, rfl, _, h1, h2, _⟩ := h
      exact ⟨h1, h2⟩
    · obtain ⟨z, rfl, hz, h1, h2, k⟩ := h
      refine ⟨_, (pe_c C_without_last (hr.mono (by decide)) (pa_cons (pv 0) (pa_cons (pv 1) pa_nil))), ?_⟩
      exact ⟨_, rfl, _, rfl, z, l, rfl, hz, k _ (Same.refl _)⟩
  · exact .all fun us hl => match us, hl with | [_], _ => rfl
abbrev tabT : List (Pos × Str) := [(⟨81, 28, 81, 64⟩, "wish_turned" ++ ".<locals>." ++ "<lambda>")]
def spTurned (Pt : Addr) : Sp := fun vs H Q _ => ∃ (v : V) (W : Wi), vs = [v] ∧ WAt H v W ∧ W.sz ≤ 1000 ∧ W.ok (fun z => z.length ≤ 100) ∧ Tb Pt tabT H ∧ ∀ u H', SameT Pt H H' → Tb Pt tabT H' → WAt H' u (W.map revS) → Q u H'
theorem ok_wish_turned {f : Addr} {fd : FuncData} (F : Fun K "wish_turned" "wish_turned" s_wish_turned f fd) (Z : Blt mg) {cw Pt : Addr} (hcode : fd.code = .ref cw) (CH : PySem.W.CodeHd base cw Pt) (BM : BltM mg base)
    (C_with_words : Cal P w K mg base "with_words" 4 ["wish", "change"] (spWW P w K mg base 1)) : FnOk P w K mg base CX0 5 f fd ["wish"] (spTurned Pt) := by
  refine F.okC sc_wish_turned (fun vs H Q E h => ?_) (fun A outer s H vs Q E hr h => ?_)
  · obtain ⟨v, W, rfl, _⟩ := h
    rfl
  obtain ⟨v, W, rfl, hW, hz, hok, hT, k⟩ := h
  have tabU : ∀ x ∈ tabT, x.1.line = (⟨81, 28, 81, 64⟩ : Pos).line → x.1.col = (⟨81, 28, 81, 64⟩ : Pos).col → x.2 = "wish_turned" ++ ".<locals>." ++ "<lambda>" := fun x hx _ _ => by rw [List.mem_singleton.mp hx]
  let tabL := tabT
  refine ⟨_, (pss_one (ps_ret (pe_c C_with_words (hr.mono (by decide)) (pa_cons (pv 0) (pa_cons (pe_lam (L := tabL) (sc := defScope s_wish_turned) hcode CH BM (by first | exact List.mem_cons_self | exact List.mem_cons_of_mem _ List.mem_cons_self) tabU) pa_nil))))), ?_⟩
  refine ⟨_, rfl, hT, fun H1 fl c ct e1 hT1 hf0 hf hc => ?_⟩
  have tk1 : Tk H H1 := fun b ys h => e1 b _ (fun z => by
    obtain ⟨ps, hp, _⟩ := hT
    rw [z, hp] at h
    cases h) h
  refine ⟨fl, _, (fun z => z.length ≤ 100), revS, (fun H => H c = some (CdO c ("wish_turned" ++ ".<locals>." ++ "<lambda>"))), v, W, ?_, ?_, fun _ _ e h => e _ _ h, rfl, hW.keep tk1, hz, hok, hf, hc, fun u H2 e2 hu => k u H2 (e1.trans e2.t) (hT1.same e2) hu⟩
  · refine lam_ok (N := ["word"]) (fv := []) ⟨rfl, rfl, rfl, by decide, rfl, by decide +kernel, by decide +kernel⟩ (LamCl.none (fun x hx => ?_)) (fun vs H Q E h => ?_) (fun vs H Q E h => ?_) (fun A outer s H vs Q E hr h => ?_)
    · have := PySem.mem_of_lookup hx
      revert this
      simp
    · obtain ⟨z, rfl, _⟩ := h
      rfl
    · obtain ⟨z, rfl, _, h1, h2, _⟩ := h
      exact ⟨h1, h2⟩
    · obtain ⟨z, rfl, hz, h1, h2, k⟩ := h
      refine ⟨_, (pe_joinRs (by rfl) (by rfl) Z.reversed pe_str (pv 0)), ?_⟩
      exact ⟨_, rfl, _, rfl, z, rfl, (by rw [sizeLine_eq]; omega), (by show z.length + z.length * 0 ≤ _; omega), k _ (Same.refl _)⟩
  · exact .all fun us hl => match us, hl with | [_], _ => rfl
def spSomeL : Sp := fun vs H Q _ => ∃ (p sc : Addr), vs = [.ref p] ∧ FlowAt H p sc ∧ ∀ z H', 1 ≤ z.length → z.length ≤ 3 → Drew H H' p → FlowAt H' p sc → Q (.str z) H'
theorem ok_law_some_letters {f : Addr} {fd : FuncData} (F : Fun K "_law_some_letters" "_law_some_letters" s_law_some_letters f fd) (Z : Blt mg) (C_law_pick : Cal P w K mg base "_law_pick" 1 ["_law_flow_here", "_law_many"] spPick) (C_law_letters : Cal P w K mg base "_law_letters" 2 ["_law_flow_here", "_law_many"] spLetters) : FnOk P w K mg base CX0 3 f fd ["_law_flow_here"] spSomeL := by
  refine F.ok sc_law_some_letters (fun vs H Q E h => ?_) (fun cdv A outer s H vs Q E hr h => ?_)
  · obtain ⟨p, sc, rfl, _⟩ := h
    rfl
  obtain ⟨p, sc, rfl, FA, k⟩ := h
  refine ⟨_, (pss_one (ps_ret (pe_c C_law_letters (hr.mono (by decide)) (pa_cons (pv 0) (pa_cons (pe_ix (ix_listK (K := K)) (pe_lst (pa_cons pe_int (pa_cons pe_int (pa_cons pe_int (pa_cons pe_int (pa_cons pe_int pa_nil)))))) (pe_c C_law_pick (hr.mono (by decide)) (pa_cons (pv 0) (pa_cons pe_int pa_nil))) (fun _ _ => rfl)) pa_nil))))), ?_⟩
  refine ⟨_, rfl, (by show 5 ≤ sizeLine; decide), fun x hx => ⟨_, rfl, p, sc, 5, rfl, by decide, by decide, FA.same (same_new hx _), fun r xs hr0 hr1 hx1 => ?_⟩⟩
  have nxp : x ≠ p := by
    obtain ⟨ys, h1, _⟩ := FA.here
    exact (ne_of_none h1 hx).symm
  have hxi : upd (upd H x (.lst [.int 1, .int 2, .int 2, .int 3, .int 3])) p (.lst xs) x = some (.lst [.int 1, .int 2, .int 2, .int 3, .int 3]) := (upd_ne nxp).trans upd_same
  have FA1 := (FA.same (same_new hx (.lst [.int 1, .int 2, .int 2, .int 3, .int 3]))).go hx1
  have dr1 : Drew H (upd (upd H x (.lst [.int 1, .int 2, .int 2, .int 3, .int 3])) p (.lst xs)) p := drew_go (Drew.same (same_new hx _)) _
  generalize upd (upd H x (.lst [.int 1, .int 2, .int 2, .int 3, .int 3])) p (.lst xs) = H1 at hxi FA1 dr1
  obtain ⟨mn, hmn, hm⟩ : ∃ y : Int, atI [V.int 1, V.int 2, V.int 2, V.int 3, V.int 3] r = some (.int y) ∧ (y = 1 ∨ y = 2 ∨ y = 3) := by
    have : r = 0 ∨ r = 1 ∨ r = 2 ∨ r = 3 ∨ r = 4 := by omega
    rcases this with z | z | z | z | z
    · subst z; exact ⟨1, atI_nat (j := 0) rfl, by decide⟩
    · subst z; exact ⟨2, atI_nat (j := 1) rfl, by decide⟩
    · subst z; exact ⟨2, atI_nat (j := 2) rfl, by decide⟩
    · subst z; exact ⟨3, atI_nat (j := 3) rfl, by decide⟩
    · subst z; exact ⟨3, atI_nat (j := 4) rfl, by decide⟩
  refine ⟨x, _, _, _, rfl, rfl, SqL.of hxi, hmn, p, sc, mn, rfl, by omega, by omega, FA1, fun l H2 hl dr2 FA2 => ?_⟩
  have hll := len_list l
  have hlen : l.cps.toList.length = mn.toNat := hl.1
  exact k l H2 (by omega) (by omega) (dr1.trans dr2) FA2
def spAnyW : Sp := fun vs H Q _ => ∃ (p sc : Addr) (l : Str), vs = [.ref p, .str l] ∧ 0 < l.length ∧ l.length ≤ 1000 ∧ FlowAt H p sc ∧
  ∀ v W H', WAt H' v W → W.sz ≤ 10 → W.dep ≤ 5 → W.ok (fun z => (z.cps.toList.length : Int) ≤ 3 ∧ ∀ c ∈ z.cps.toList, c ∈ l.cps.toList) → Drew H H' p → FlowAt H' p sc → Q v H'
theorem ok_law_any_wish {f : Addr} {fd : FuncData} (F : Fun K "_law_any_wish" "_law_any_wish" s_law_any_wish f fd) (Z : Blt mg) (C_law_pick : Cal P w K mg base "_law_pick" 1 ["_law_flow_here", "_law_many"] spPick) (C_law_wish : Cal P w K mg base "_law_wish" 7 ["_law_flow_here", "_law_letters_here", "_law_room", "_law_deep", "_law_most"] (spWish 6)) : FnOk P w K mg base CX0 8 f fd ["_law_flow_here", "_law_letters_here"] spAnyW := by
  refine F.ok sc_law_any_wish (fun vs H Q E h => ?_) (fun cdv A outer s H vs Q E hr h => ?_)
  · obtain ⟨p, sc, l, rfl, _⟩ := h
    rfl
  obtain ⟨p, sc, l, rfl, hl0, hl1, FA, k⟩ := h
  refine ⟨_, (pss_one (ps_ret (pe_c C_law_wish (hr.mono (by decide)) (pa_cons (pv 0) (pa_cons (pv 1) (pa_cons (pe_ix (ix_listK (K := K)) (pe_lst (pa_cons pe_int (pa_cons (pe_op op_add pe_int (pe_c C_law_pick (hr.mono (by decide)) (pa_cons (pv 0) (pa_cons pe_int pa_nil)))) pa_nil))) (pe_c C_law_pick (hr.mono (by decide)) (pa_cons (pv 0) (pa_cons pe_int pa_nil))) (fun _ _ => rfl)) (pa_cons pe_int (pa_cons pe_int pa_nil)))))))), ?_⟩
  refine ⟨_, rfl, _, rfl, _, rfl, p, sc, 10, rfl, by decide, by decide, FA, fun r xs hr0 hr1 hx1 => ⟨_, _, rfl, rfl, (by show 2 ≤ sizeLine; decide), fun x hx => ?_⟩⟩
  have FA1 := FA.go hx1
  have d1 : Drew H (upd H p (.lst xs)) p := Drew.upd _
  generalize upd H p (.lst xs) = H1 at FA1 d1 hx
  have s2 := same_new hx (.lst [V.int 10, V.int (1 + r)])
  have h2x := upd_same (H := H1) (a := x) (o := .lst [V.int 10, V.int (1 + r)])
  have FA2 := FA1.same s2
  have nxp : x ≠ p := by
    obtain ⟨ys, h1, _⟩ := FA1.here
    exact (ne_of_none h1 hx).symm
  have d2 := d1.trans (Drew.same s2)
  generalize hH2 : upd H1 x _ = H2 at s2 h2x FA2 d2
  refine ⟨_, rfl, p, sc, 2, rfl, by decide, by decide, FA2, fun r2 xs2 h20 h21 hx2 => ?_⟩
  have FA3 := FA2.go hx2
  have h3x := (upd_ne (H := H2) (o := .lst xs2) nxp).trans h2x
  have d3 := drew_go d2 (.lst xs2)
  generalize upd H2 p (.lst xs2) = H3 at FA3 h3x d3
  obtain ⟨m, hm, hm0, hm1⟩ : ∃ m : Int, atI [V.int 10, V.int (1 + r)] r2 = some (.int m) ∧ 1 ≤ m ∧ m ≤ 10 := by
    have : r2 = 0 ∨ r2 = 1 := by omega
    rcases this with z | z
    · subst z; exact ⟨10, atI_nat (j := 0) rfl, by decide, by decide⟩
    · subst z; exact ⟨1 + r, atI_nat (j := 1) rfl, by omega, by omega⟩
  refine ⟨x, _, _, _, rfl, rfl, SqL.of h3x, hm, p, sc, l, m, 5, 3, rfl, hl0, hl1, by omega, by omega, by decide, by decide, by decide, by decide, FA3, fun v W H' hW hz hd hok dr FA' => ?_⟩
  exact k v W H' hW (by omega) (by omega) hok (d3.trans dr) FA'
def spText : Sp := fun vs H Q _ => ∃ (p sc : Addr) (l : Str), vs = [.ref p, .str l, .int 30] ∧ 0 < l.length ∧ l.length ≤ 26 ∧ FlowAt H p sc ∧ ∀ z H', z.length ≤ 30 → Drew H H' p → FlowAt H' p sc → Q (.str z) H'
theorem ok_law_text {f : Addr} {fd : FuncData} (F : Fun K "_law_text" "_law_text" s_law_text f fd) (Z : Blt mg) (C_law_pick : Cal P w K mg base "_law_pick" 1 ["_law_flow_here", "_law_many"] spPick) (C_law_word : Cal P w K mg base "_law_word" 2 ["_law_flow_here", "_law_letters_here", "_law_most"] spWord) : FnOk P w K mg base CX0 3 f fd ["_law_flow_here", "_law_letters_here", "_law_most"] spText := by
  refine F.ok sc_law_text (fun vs H Q E h => ?_) (fun cdv A outer s H vs Q E hr h => ?_)
  · obtain ⟨p, sc, l, rfl, _⟩ := h
    rfl
  obtain ⟨p, sc, l, rfl, hl0, hl1, FA, k⟩ := h
  refine ⟨_, (pss_one (ps_ret (pe_c C_law_word (hr.mono (by decide)) (pa_cons (pv 0) (pa_cons (pv 1) (pa_cons (pe_ix (ix_listK (K := K)) (pe_lst (pa_cons pe_int (pa_cons (pv 2) pa_nil))) (pe_callTy call_int1 (by rfl) Z.int bt_int (pa_cons (pe_cmpR op_gt (pe_c C_law_pick (hr.mono (by decide)) (pa_cons (pv 0) (pa_cons pe_int pa_nil))) pe_int (nomark _)) pa_nil)) (fun _ _ => rfl)) pa_nil)))))), ?_⟩
  refine ⟨_, rfl, _, rfl, _, rfl, (by show 2 ≤ sizeLine; decide), fun x hx => ?_⟩
  have s2 := same_new hx (.lst [V.int 3, V.int 30])
  have h2x := upd_same (H := H) (a := x) (o := .lst [V.int 3, V.int 30])
  have FA2 := FA.same s2
  have nxp : x ≠ p := by
    obtain ⟨ys, h1, _⟩ := FA.here
    exact (ne_of_none h1 hx).symm
  refine ⟨_, rfl, p, sc, 4, rfl, by decide, by decide, FA2, fun r xs h0 h1 hx1 => ⟨_, _, rfl, rfl, .inr ⟨_, rfl, ?_⟩⟩⟩
  have h3x := (upd_ne (H := upd H x (.lst [V.int 3, V.int 30])) (o := .lst xs) nxp).trans h2x
  have d3 := drew_go (Drew.same (p := p) s2) (.lst xs)
  have FA3 := FA2.go hx1
  obtain ⟨m, hm, hm0, hm1⟩ : ∃ m : Int, atI [V.int 3, V.int 30] (if decide (0 < r) = true then 1 else 0) = some (.int m) ∧ 0 ≤ m ∧ m ≤ 30 := by
    by_cases c : 0 < r
    · rw [if_pos (decide_eq_true c)]; exact ⟨30, rfl, by decide, by decide⟩
    · rw [if_neg (by simpa using c)]; exact ⟨3, rfl, by decide, by decide⟩
  refine ⟨x, _, _, _, rfl, rfl, SqL.of h3x, hm, p, sc, l, m, rfl, hl0, by omega, hm0, by omega, FA3, fun z H4 hz hzc dr4 FA4 => ?_⟩
  have hzl := len_list z
  exact k z H4 (by omega) (d3.trans dr4) FA4
def spLawT (K : PySem.W.Frag) (tabs : List (Addr × Addr)) : Sp := fun vs H Q _ => ∃ (a : Addr) (ns : List Int), vs = [.ref a] ∧ SqL K H a (ns.map V.int) ∧ ns.length ≤ 63 ∧ (∀ q ∈ tabs, H q.2 = some (.tbl #[])) ∧ ∀ H', Q (.bl true) H'
def Good (W : Wi) : Prop := W.sz ≤ 10 ∧ W.dep ≤ 5 ∧ W.ok fun z => z.length ≤ 100
theorem Wi.ok_imp {p q : Str → Prop} (h : ∀ z, p z → q z) : ∀ {W : Wi}, W.ok p → W.ok q
  | .lf _, _ => trivial
  | .has z, hz => h z hz
  | .nt x, hx => Wi.ok_imp (W := x) h hx
  | .bi _ x y, hxy => ⟨Wi.ok_imp (W := x) h hxy.1, Wi.ok_imp (W := y) h hxy.2⟩
def Gd (H : Hp) (x : V) : Prop := ∃ W, WAt H x W ∧ Good W
theorem Gd.keep {H H' : Hp} {x : V} (h : Gd H x) (k : Tk H H') : Gd H' x := let ⟨W, a, b⟩ := h; ⟨W, a.keep k, b⟩
theorem Tk.t {Pt : Addr} {L : List (Pos × Str)} {H H' : Hp} (e : SameT Pt H H') (t : Tb Pt L H) : Tk H H' := fun b ys h => e b _ (fun z => by
  obtain ⟨ps, hp, _⟩ := t
  rw [z, hp] at h
  cases h) h
structure Ts (Pb Pa Pt : Addr) (H : Hp) : Prop where
  b : Tb Pb tabB H
  a : Tb Pa tabA H
  t : Tb Pt tabT H
def SameZ (Pb Pa Pt : Addr) (H H' : Hp) : Prop := ∀ b o, b ≠ Pb → b ≠ Pa → b ≠ Pt → H b = some o → H' b = some o
section
variable {Pb Pa Pt : Addr} {H H' H1 H2 : Hp}
theorem Ts.same (T : Ts Pb Pa Pt H) (e : Same H H') : Ts Pb Pa Pt H' := ⟨T.b.same e, T.a.same e, T.t.same e⟩
theorem SameZ.trans (a : SameZ Pb Pa Pt H H1) (b : SameZ Pb Pa Pt H1 H2) : SameZ Pb Pa Pt H H2 := fun c o n m k h => b c o n m k (a c o n m k h)
theorem SameZ.s (a : Same H H1) : SameZ Pb Pa Pt H H1 := fun c o _ _ _ h => a c o h
theorem SameZ.refl : SameZ Pb Pa Pt H H := fun _ _ _ _ _ h => h
theorem tb_ne {P b : Addr} {L : List (Pos × Str)} {o : HO} (t : Tb P L H) (h : H b = some o) (n : ∀ ps, o ≠ .tbl ps) : b ≠ P := fun z => by
  obtain ⟨ps, hp, _⟩ := t
  rw [z, hp] at h
  exact n ps (Option.some.inj h).symm
theorem SameZ.at_ (e : SameZ Pb Pa Pt H H') (T : Ts Pb Pa Pt H) {b : Addr} {o : HO} (h : H b = some o) (n : ∀ ps, o ≠ .tbl ps) : H' b = some o := e b o (tb_ne T.b h n) (tb_ne T.a h n) (tb_ne T.t h n) h
theorem Tk.z (e : SameZ Pb Pa Pt H H') (T : Ts Pb Pa Pt H) : Tk H H' := fun _ _ h => e.at_ T h (fun _ => nofun)
end
def spMv (Pb Pa Pt : Addr) (g : Str → Str → Str) : Sp := fun vs H Q _ => ∃ (v : V) (l : Str) (W : Wi), vs = [v, .str l] ∧ WAt H v W ∧ W.sz ≤ 1000 ∧ W.ok (fun z => z.length ≤ 100) ∧ Ts Pb Pa Pt H ∧ ∀ u H', SameZ Pb Pa Pt H H' → Ts Pb Pa Pt H' → WAt H' u (W.map (g l)) → Q u H'
def spTn (Pb Pa Pt : Addr) : Sp := fun vs H Q _ => ∃ (v : V) (W : Wi), vs = [v] ∧ WAt H v W ∧ W.sz ≤ 1000 ∧ W.ok (fun z => z.length ≤ 100) ∧ Ts Pb Pa Pt H ∧ ∀ u H', SameZ Pb Pa Pt H H' → Ts Pb Pa Pt H' → WAt H' u (W.map revS) → Q u H'
theorem mv_b {Pb Pa Pt : Addr} (n1 : Pb ≠ Pa) (n2 : Pb ≠ Pt) {vs : List V} {H : Hp} {Q : VK} {E : XK} (h : spMv Pb Pa Pt wf vs H Q E) : spMoved Pb tabB wf vs H Q E := by
  obtain ⟨v, l, W, rfl, hW, hz, hok, T, k⟩ := h
  exact ⟨v, l, W, rfl, hW, hz, hok, T.b, fun u H' e tb hu => k u H' (fun c o n _ _ h => e c o n h) ⟨tb, T.a.other e n1.symm T.b, T.t.other e n2.symm T.b⟩ hu⟩
theorem mv_a {Pb Pa Pt : Addr} (n1 : Pb ≠ Pa) (n3 : Pa ≠ Pt) {vs : List V} {H : Hp} {Q : VK} {E : XK} (h : spMv Pb Pa Pt wl vs H Q E) : spMoved Pa tabA wl vs H Q E := by
  obtain ⟨v, l, W, rfl, hW, hz, hok, T, k⟩ := h
  exact ⟨v, l, W, rfl, hW, hz, hok, T.a, fun u H' e tb hu => k u H' (fun c o _ n _ h => e c o n h) ⟨T.b.other e n1 T.a, tb, T.t.other e n3.symm T.a⟩ hu⟩
theorem mv_t {Pb Pa Pt : Addr} (n2 : Pb ≠ Pt) (n3 : Pa ≠ Pt) {vs : List V} {H : Hp} {Q : VK} {E : XK} (h : spTn Pb Pa Pt vs H Q E) : spTurned Pt vs H Q E := by
  obtain ⟨v, W, rfl, hW, hz, hok, T, k⟩ := h
  exact ⟨v, W, rfl, hW, hz, hok, T.t, fun u H' e tb hu => k u H' (fun c o _ _ n h => e c o n h) ⟨T.b.other e n2 T.t, T.a.other e n3 T.t, tb⟩ hu⟩
theorem Good.map {W : Wi} (h : Good W) {g : Str → Str} (hg : ∀ z, (g z).length ≤ z.length) : Good (W.map g) := ⟨by rw [Wi.map_sz]; exact h.1, by rw [Wi.map_dep]; exact h.2.1, Wi.map_ok (fun z hz => Nat.le_trans (hg z) hz) h.2.2⟩
theorem slice_to (z : Str) (n : Nat) : (Txt.slice z none (some ((n : Nat) : Int))).cps.toList = z.cps.toList.take n := by
  have hl := len_list z
  rw [slice_list, HT.sIx_none, HT.sIx_nat, List.drop_zero, Nat.sub_zero]
  by_cases h : n ≤ z.length
  · rw [Nat.min_eq_left h]
  · rw [Nat.min_eq_right (by omega), List.take_of_length_le (by omega), List.take_of_length_le (by omega)]
def spAbout : Sp := fun vs H Q _ => ∃ t : Str, vs = [.str t] ∧ t.length ≤ 100 ∧ ∀ H', Same H H' → Q (.str (revS t)) H'
theorem ok_law_about {f : Addr} {fd : FuncData} (F : Fun K "_law_about" "_law_about" s_law_about f fd) (Z : Blt mg) : FnOk P w K mg base CX0 1 f fd ["_law_text_here"] spAbout := by
  refine F.ok sc_law_about (fun vs H Q E h => ?_) (fun cdv A outer s H vs Q E hr h => ?_)
  · obtain ⟨t, rfl, _⟩ := h
    rfl
  obtain ⟨t, rfl, ht, k⟩ := h
  have hlen : t.cps.toList.length ≤ 1000 := by have := len_list t; omega
  refine ⟨_, (pss_one (ps_ret (pe_bmK (K := K) PySem.F.plainAttrs_str PySem.F.slot_str_join PySem.F.type_str_join (mt_joinK (K := K)) pe_str (pa_cons (pe_listRs (by rfl) (by rfl) Z.list (by rfl) Z.reversed (pv 0)) pa_nil)))), ?_⟩
  refine ⟨rfl, _, rfl, t, rfl, (by rw [sizeLine_eq]; omega), fun q hq => ?_⟩
  exact ⟨_, q, t.cps.toList.reverse.map one, rfl, rfl, SqL.of (by rw [upd_same, oneS_map]), join_ones_len _ (by rw [List.length_reverse]; exact hlen), k _ (same_new hq _)⟩
def spGone (Pb Pa Pt : Addr) : Sp := fun vs H Q _ => ∃ (v : V) (t : Str) (W : Wi), vs = [v, .str t] ∧ WAt H v W ∧ Good W ∧ t.length ≤ 30 ∧ Ts Pb Pa Pt H ∧ ∀ H', SameZ Pb Pa Pt H H' → Ts Pb Pa Pt H' → Q (.bl true) H'
theorem ok_law_gone_right {f : Addr} {fd : FuncData} {Pb Pa Pt : Addr} (F : Fun K "_law_gone_right" "_law_gone_right" s_law_gone_right f fd) (Z : Blt mg) (C_holds : Cal P w K mg base "holds" 4 ["wish", "text"] spHolds) (C_wish_behind : Cal P w K mg base "wish_behind" 6 ["wish", "letter"] (spMv Pb Pa Pt wf))
    (C_wish_ahead : Cal P w K mg base "wish_ahead" 6 ["wish", "letter"] (spMv Pb Pa Pt wl)) (C_wish_turned : Cal P w K mg base "wish_turned" 6 ["wish"] (spTn Pb Pa Pt)) (C_law_about : Cal P w K mg base "_law_about" 1 ["_law_text_here"] spAbout) : FnOk P w K mg base CX0 7 f fd ["_law_wish_here", "_law_text_here"] (spGone Pb Pa Pt) := by
  refine F.ok sc_law_gone_right (fun vs H Q E h => ?_) (fun cdv A outer s H vs Q E hr h => ?_)
  · obtain ⟨v, t, W, rfl, _⟩ := h
    rfl
  obtain ⟨v, t, W, rfl, hW, hG, ht, T0, k⟩ := h
  have htl := len_list t
  have hzt : t.length ≤ sizeLine := by rw [sizeLine_eq]; omega
  refine ⟨_, (pss_cons (ps_set (i := 2) sc_law_gone_right.nd (by rfl) (Or.inl (by rfl)) (pe_c C_holds (hr.mono (by decide)) (pa_cons (pv 0) (pa_cons (pv 1) pa_nil)))) 
      (pss_cons (ps_par (i := 3) (j := 4) (by rfl) sc_law_gone_right.nd (by rfl) (by rfl) (by decide) (by rfl) (by rfl) (pa_cons (pv 0) (pa_cons (pv 0) pa_nil)) (by rfl)) 
      (pss_cons (ps_for PassesOwn.never (by rfl) (pi_range1 (by rfl) Z.range (pa_cons (pe_callB call_len_str (by rfl) Z.len bt_len (pa_cons (pv 1) pa_nil)) pa_nil)) (pg_name (i := 5) sc_law_gone_right.nd (by rfl) (Or.inl (by rfl))) 
        (pss_cons (ps_set (i := 3) sc_law_gone_right.nd (by rfl) (Or.inl (by rfl)) (pe_c C_wish_behind (hr.mono (by decide)) (pa_cons (pv 3) (pa_cons (pe_ix ix_str (pv 1) (pv 5) (fun _ _ => rfl)) pa_nil)))) 
        (pss_cons (ps_set (i := 4) sc_law_gone_right.nd (by rfl) (Or.inl (by rfl)) (pe_c C_wish_ahead (hr.mono (by decide)) (pa_cons (pv 4) (pa_cons (pe_ix ix_str (pv 1) (pe_op op_sub (pe_op op_sub (pe_callB call_len_str (by rfl) Z.len bt_len (pa_cons (pv 1) pa_nil)) pe_int) (pv 5)) (fun _ _ => rfl)) pa_nil)))) 
        (pss_one (ps_if (PW.pt (pw_or (pt_cmpR op_ne (pe_c C_holds (hr.mono (by decide)) (pa_cons (pv 3) (pa_cons (pe_slice sl_str (pv 1) (po_some (pe_op op_add (pv 5) pe_int)) po_none) pa_nil))) (pv 2) (nomark _)) (pw_or1 (pt_cmpR op_ne (pe_c C_holds (hr.mono (by decide)) (pa_cons (pv 4) (pa_cons (pe_slice sl_str (pv 1) po_none (po_some (pe_op op_sub (pe_op op_sub (pe_callB call_len_str (by rfl) Z.len bt_len (pa_cons (pv 1) pa_nil)) pe_int) (pv 5)))) pa_nil))) (pv 2) (nomark _))))) 
          (pss_one (ps_ret pe_bl)) pss_nil))))) 
      (pss_one (ps_ret (pe_cmpR op_eq (pe_c C_holds (hr.mono (by decide)) (pa_cons (pe_c C_wish_turned (hr.mono (by decide)) (pa_cons (pv 0) pa_nil)) (pa_cons (pe_c C_law_about (hr.mono (by decide)) (pa_cons (pv 1) pa_nil)) pa_nil))) (pv 2) (nomark _))))))), ?_⟩
  refine ⟨_, rfl, _, rfl, v, t, W, rfl, hW, by have := hG.1; omega, hG.2.2, by omega, fun H1 e1 => ?_⟩
  have T1 := T0.same e1
  refine ⟨_, rfl, _, rfl, _, _, rfl, ?_⟩
  refine ⟨_, rfl, t, rfl, hzt, _, rfl, by omega, by omega, ?_⟩
  have hn : ((t.length : Nat) : Int).toNat = t.cps.toList.length := by rw [Int.toNat_natCast]; exact htl.symm
  rw [hn]
  refine for_range (lo := 0) (n := t.cps.toList.length) (fun i σ H2 => ∃ (h3 h4 : V) (v5 : Option V) (Wh Wt : Wi), σ = [some v, some (.str t), some (.bl (ev (lyT t) W)), some h3, some h4, v5] ∧ SameZ Pb Pa Pt H H2 ∧ Ts Pb Pa Pt H2 ∧ WAt H2 h3 Wh ∧ WAt H2 h4 Wt ∧ Good Wh ∧ Good Wt ∧ ev (lyL (t.cps.toList.drop i)) Wh = ev (lyT t) W ∧ ev (lyL (t.cps.toList.take (t.cps.toList.length - i))) Wt = ev (lyT t) W)
    ⟨v, v, none, W, W, rfl, SameZ.s e1, T1, hW.keep (Tk.same e1), hW.keep (Tk.same e1), hG, hG, rfl, by rw [Nat.sub_zero, List.take_length]; rfl⟩ ?_ ?_
  · rintro i σ H2 hi ⟨h3, h4, v5, Wh, Wt, rfl, e2, T2, W3, W4, G3, G4, E3, E4⟩
    have hc : t.cps.toList[i]? = some t.cps.toList[i] := List.getElem?_eq_getElem hi
    refine ⟨_, rfl, _, rfl, _, rfl, t, _, _, rfl, rfl, hzt, (by rw [Int.zero_add]; exact atI_nat hc), h3, ⟨#[t.cps.toList[i]]⟩, Wh, rfl, W3, by have := G3.1; omega, G3.2.2, T2, fun u3 H3 z3 T3 hu3 => ?_⟩
    have W4' := W4.keep (Tk.z z3 T2)
    have hj : t.cps.toList.length - 1 - i < t.cps.toList.length := by omega
    have hcj : t.cps.toList[t.cps.toList.length - 1 - i]? = some t.cps.toList[t.cps.toList.length - 1 - i] := List.getElem?_eq_getElem hj
    have hij : (t.length : Int) - 1 - (0 + (i : Int)) = ((t.cps.toList.length - 1 - i : Nat) : Int) := by omega
    refine ⟨_, rfl, _, rfl, _, rfl, t, rfl, hzt, _, _, rfl, rfl, _, rfl, _, _, rfl, rfl, t, _, _, rfl, rfl, hzt, (by rw [hij]; exact atI_nat hcj), h4, ⟨#[t.cps.toList[t.cps.toList.length - 1 - i]]⟩, Wt, rfl, W4', by have := G4.1; omega, G4.2.2, T3, fun u4 H4 z4 T4 hu4 => ?_⟩
    have hu3' := hu3.keep (Tk.z z4 T3)
    have G3' := G3.map (wf_len t.cps.toList[i])
    have G4' := G4.map (wl_len t.cps.toList[t.cps.toList.length - 1 - i])
    have E3' : ev (lyL (t.cps.toList.drop (i + 1))) (Wh.map (wf ⟨#[t.cps.toList[i]]⟩)) = ev (lyT t) W := by
      rw [ev_wf, ← List.drop_eq_getElem_cons hi]
      exact E3
    have E4' : ev (lyL (t.cps.toList.take (t.cps.toList.length - (i + 1)))) (Wt.map (wl ⟨#[t.cps.toList[t.cps.toList.length - 1 - i]]⟩)) = ev (lyT t) W := by
      rw [ev_wl]
      have e : t.cps.toList.take (t.cps.toList.length - (i + 1)) ++ [t.cps.toList[t.cps.toList.length - 1 - i]] = t.cps.toList.take (t.cps.toList.length - i) := by
        have e1 : t.cps.toList.length - i = (t.cps.toList.length - 1 - i) + 1 := by omega
        have e2 : t.cps.toList.length - (i + 1) = t.cps.toList.length - 1 - i := by omega
        rw [e1, e2, List.take_add_one, hcj]
        rfl
      rw [e]
      exact E4
    have sl1 := slice_from t (i + 1)
    have e5 : (0 + (i : Int) + 1) = (((i + 1 : Nat)) : Int) := by omega
    have hs1 := Txt.slice_le t (some (((i + 1 : Nat)) : Int)) none
    refine ⟨_, rfl, _, rfl, _, rfl, _, _, rfl, rfl, _, rfl, t, rfl, hzt, ?_⟩
    rw [e5]
    refine ⟨u3, _, _, rfl, hu3', by have := G3'.1; omega, G3'.2.2, by omega, fun H5 e5' => ?_⟩
    have x1 : ev (lyT (Txt.slice t (some (((i + 1 : Nat)) : Int)) none)) (Wh.map (wf ⟨#[t.cps.toList[i]]⟩)) = ev (lyT t) W := by
      rw [← E3']
      refine congrArg (fun l => ev l _) (funext fun z => ?_)
      unfold lyT lyL
      rw [sl1]
    rw [x1]
    refine ⟨_, rfl, rfl, _, rfl, ifN (by rw [dec_of rfl]; rfl) ?_⟩
    have hs2 := Txt.slice_le t none (some ((t.cps.toList.length - 1 - i : Nat) : Int))
    refine ⟨_, rfl, _, rfl, _, rfl, t, rfl, hzt, _, _, rfl, rfl, _, rfl, _, _, rfl, rfl, _, rfl, t, rfl, hzt, ?_⟩
    rw [hij]
    refine ⟨u4, _, _, rfl, hu4.keep (Tk.same e5'), by have := G4'.1; omega, G4'.2.2, by omega, fun H6 e6 => ?_⟩
    have x2 : ev (lyT (Txt.slice t none (some ((t.cps.toList.length - 1 - i : Nat) : Int)))) (Wt.map (wl ⟨#[t.cps.toList[t.cps.toList.length - 1 - i]]⟩)) = ev (lyT t) W := by
      rw [← E4']
      refine congrArg (fun l => ev l _) (funext fun z => ?_)
      unfold lyT lyL
      rw [slice_to, show t.cps.toList.length - (i + 1) = t.cps.toList.length - 1 - i from by omega]
    rw [x2]
    have e46 := e5'.trans e6
    refine ⟨_, rfl, rfl, _, rfl, ifN (by rw [dec_of rfl]; rfl) ⟨u3, u4, _, _, _, rfl, ((e2.trans z3).trans z4).trans (SameZ.s e46), T4.same e46, hu3'.keep (Tk.same e46), hu4.keep (Tk.same e46), G3', G4', E3', E4'⟩⟩
  · rintro σ H2 ⟨h3, h4, v5, Wh, Wt, rfl, e2, T2, W3, W4, G3, G4, E3, E4⟩
    have W0 := hW.keep (Tk.z e2 T0)
    refine ⟨_, rfl, v, W, rfl, W0, by have := hG.1; omega, hG.2.2, T2, fun u H3 z3 T3 hu => ?_⟩
    refine ⟨_, rfl, t, rfl, by omega, fun H4 e4 => ?_⟩
    have Gr := hG.map (g := revS) (fun z => Nat.le_of_eq (revS_len z))
    refine ⟨u, revS t, _, rfl, hu.keep (Tk.same e4), by have := Gr.1; omega, Gr.2.2, by rw [revS_len]; omega, fun H5 e5 => ?_⟩
    have x3 : ev (lyT (revS t)) (W.map revS) = ev (lyT t) W := by
      have := ev_rev t.cps.toList W
      rw [← revS_list] at this
      exact this
    rw [x3]
    refine ⟨_, rfl, rfl, ?_⟩
    rw [dec_of rfl]
    exact k H5 ((e2.trans z3).trans (SameZ.s (e4.trans e5))) ((T3.same e4).same e5)
theorem dict_const (P : Program) (w : World) (ep : Nat) (rows : List (Str × Tok × Int × Tok)) (nd : (rows.map (·.1)).Nodup) :
    ∃ vs, Obj.IsDictOf (mixKind P w) { cls := .type "dict", data := .dict (rows.map fun r => (⟨PyData.keyHash w.params r.1, .str r.1 r.2.1, .int r.2.2.1 r.2.2.2⟩ : DictEntry)).toArray ep } vs ∧ KV (rows.map fun r => (Sum.inr r.1, V.int r.2.2.1)) vs := by
  refine ⟨rows.map fun r => (Sum.inr r.1, Value.int r.2.2.1 r.2.2.2), ⟨_, ep, ⟨rfl, rfl, rfl⟩, rfl, fun e he => ?_, ?_, ?_⟩, ?_⟩
  · rw [List.mem_toArray] at he
    obtain ⟨r, _, rfl⟩ := List.mem_map.mp he
    exact ⟨Sum.inr r.1, by show Value.isStrOf r.1 (.str r.1 r.2.1) = true; simp [Value.isStrOf], rfl⟩
  · rw [List.toList_toArray]
    clear nd
    induction rows with
    | nil => exact .nil
    | cons r rows ih => exact .cons (by show Value.isStrOf r.1 (.str r.1 r.2.1) = true; simp [Value.isStrOf]) rfl ih
  · rw [List.map_map]
    rw [List.nodup_iff_pairwise_ne, List.pairwise_map] at nd ⊢
    exact nd.imp fun h e => h (by injection e)
  · clear nd
    induction rows with
    | nil => exact .nil
    | cons r rows ih => exact .cons ⟨rfl, ⟨_, rfl⟩⟩ ih
theorem Wi.dt_tup (W : Wi) : ∃ ds, W.dt = .tup ds := by cases W <;> exact ⟨_, rfl⟩
theorem den_ne {H : Hp} {u v : V} {W : Wi} {Q : VK} (hu : WAt H u W) (hv : WAt H v W) (hd : W.dep ≤ 100) (q : Q (.bl false) H) : rEqD true u v H Q := by
  obtain ⟨ds, e⟩ := W.dt_tup
  have h1 := hu.den
  have h2 := hv.den
  have h3 := W.dt_dep
  rw [e] at h1 h2 h3
  exact ⟨ds, by omega, h1, h2, q⟩
def spLetterR (Pb Pa Pt : Addr) : Sp := fun vs H Q _ => ∃ (v : V) (c d : Nat) (W : Wi), vs = [v, .str ⟨#[c]⟩, .str ⟨#[d]⟩] ∧ WAt H v W ∧ Good W ∧ Ts Pb Pa Pt H ∧ ∀ H', SameZ Pb Pa Pt H H' → Ts Pb Pa Pt H' → Q (.bl true) H'
theorem lens_max {zs : List Str} {M : Int} (h : M ∈ (0 : Int) :: zs.map fun z => (z.length : Int)) : M = 0 ∨ ∃ z ∈ zs, M = (z.length : Int) := by
  rcases List.mem_cons.mp h with e | e
  · exact .inl e
  · obtain ⟨z, hz, e⟩ := List.mem_map.mp e
    exact .inr ⟨z, hz, e.symm⟩
theorem ok_law_letter_right {f : Addr} {fd : FuncData} {Pb Pa Pt : Addr} (F : Fun K "_law_letter_right" "_law_letter_right" s_law_letter_right f fd) (Z : Blt mg) (C_words_in : Cal P w K mg base "words_in" 3 ["wish"] spWordsIn) (C_wish_behind : Cal P w K mg base "wish_behind" 6 ["wish", "letter"] (spMv Pb Pa Pt wf))
    (C_wish_ahead : Cal P w K mg base "wish_ahead" 6 ["wish", "letter"] (spMv Pb Pa Pt wl)) (C_wish_turned : Cal P w K mg base "wish_turned" 6 ["wish"] (spTn Pb Pa Pt)) : FnOk P w K mg base CX0 7 f fd ["_law_wish_here", "_law_letter", "_law_other"] (spLetterR Pb Pa Pt) := by
  refine F.ok sc_law_letter_right (fun vs H Q E h => ?_) (fun cdv A outer s H vs Q E hr h => ?_)
  · obtain ⟨v, c, d, W, rfl, _⟩ := h
    rfl
  obtain ⟨v, c, d, W, rfl, hW, hG, T0, k⟩ := h
  refine ⟨_, (pss_cons (ps_set (i := 3) sc_law_letter_right.nd (by rfl) (Or.inl (by rfl)) (pe_c C_wish_behind (hr.mono (by decide)) (pa_cons (pv 0) (pa_cons (pv 1) pa_nil)))) 
      (pss_cons (ps_if (pt_cmpR (op_neD (hd_of hr)) (pe_c C_wish_ahead (hr.mono (by decide)) (pa_cons (pv 3) (pa_cons (pv 2) pa_nil))) (pe_c C_wish_behind (hr.mono (by decide)) (pa_cons (pe_c C_wish_ahead (hr.mono (by decide)) (pa_cons (pv 0) (pa_cons (pv 2) pa_nil))) (pa_cons (pv 1) pa_nil))) (nomark _)) 
        (pss_one (ps_ret pe_bl)) pss_nil) 
      (pss_cons (ps_if (pt_cmpR (op_neD (hd_of hr)) (pe_c C_wish_turned (hr.mono (by decide)) (pa_cons (pv 3) pa_nil)) (pe_c C_wish_ahead (hr.mono (by decide)) (pa_cons (pe_c C_wish_turned (hr.mono (by decide)) (pa_cons (pv 0) pa_nil)) (pa_cons (pv 1) pa_nil))) (nomark _)) 
        (pss_one (ps_ret pe_bl)) pss_nil) 
      (pss_cons (ps_par (i := 4) (j := 5) (by rfl) sc_law_letter_right.nd (by rfl) (by rfl) (by decide) (by rfl) (by rfl) (pa_cons (pe_c C_words_in (hr.mono (by decide)) (pa_cons (pv 0) pa_nil)) (pa_cons (pe_c C_words_in (hr.mono (by decide)) (pa_cons (pv 3) pa_nil)) pa_nil)) (by rfl)) 
      (pss_cons (ps_if (pt_cmpR op_gt (pe_callB (call_max1 (K := K) (by rfl)) (by rfl) Z.max bt_max (pa_cons (pe_op op_cat (pe_lst (pa_cons pe_int pa_nil)) (pe_comp (sc := defScope s_law_letter_right) (Nm := ["_law_wish_here", "_law_letter", "_law_other", "_law_behind_one", "_law_some", "_law_left"]) (own := ["_law_word_here"]) (fr := []) ⟨rfl, by decide +kernel, by decide +kernel, by decide +kernel, by decide +kernel⟩ (by rfl) (gfr_name (by decide)) (pi_listK (K := K) (pv 5)) (fun d => (pg_name (i := 0) nd_law_letter_right_0 (by rfl) (Or.inl (by rfl)))) (fun d => pts_nil) (fun d => (pe_callB call_len_str (by rfl) Z.len bt_len (pa_cons (pv 0) pa_nil))))) pa_nil)) (pe_callB (call_max1 (K := K) (by rfl)) (by rfl) Z.max bt_max (pa_cons (pe_op op_cat (pe_lst (pa_cons pe_int pa_nil)) (pe_comp (sc := defScope s_law_letter_right) (Nm := ["_law_wish_here", "_law_letter", "_law_other", "_law_behind_one", "_law_some", "_law_left"]) (own := ["_law_word_here"]) (fr := []) ⟨rfl, by decide +kernel, by decide +kernel, by decide +kernel, by decide +kernel⟩ (by rfl) (gfr_name (by decide)) (pi_listK (K := K) (pv 4)) (fun d => (pg_name (i := 0) nd_law_letter_right_1 (by rfl) (Or.inl (by rfl)))) (fun d => pts_nil) (fun d => (pe_callB call_len_str (by rfl) Z.len bt_len (pa_cons (pv 0) pa_nil))))) pa_nil)) (nomark _)) 
        (pss_one (ps_ret pe_bl)) pss_nil) 
      (pss_one (ps_ret (pe_cmpR op_le (pe_callB (call_lenK (K := K)) (by rfl) Z.len bt_len (pa_cons (pv 5) pa_nil)) (pe_callB (call_lenK (K := K)) (by rfl) Z.len bt_len (pa_cons (pv 4) pa_nil)) (nomark _))))))))), ?_⟩
  have Gf := hG.map (wf_len c)
  have Gl := hG.map (wl_len d)
  have Gr := hG.map (g := revS) (fun z => Nat.le_of_eq (revS_len z))
  have g1 := hG.1
  have g2 := hG.2.1
  refine ⟨_, rfl, _, rfl, v, ⟨#[c]⟩, W, rfl, hW, by omega, hG.2.2, T0, fun u1 H1 z1 T1 hu1 => ?_⟩
  have hW1 := hW.keep (Tk.z z1 T0)
  refine ⟨_, rfl, _, rfl, u1, ⟨#[d]⟩, _, rfl, hu1, by rw [Wi.map_sz]; omega, Gf.2.2, T1, fun u2 H2 z2 T2 hu2 => ?_⟩
  have hW2 := hW1.keep (Tk.z z2 T1)
  have hu12 := hu1.keep (Tk.z z2 T1)
  refine ⟨_, rfl, _, rfl, v, ⟨#[d]⟩, W, rfl, hW2, by omega, hG.2.2, T2, fun u3 H3 z3 T3 hu3 => ?_⟩
  have hW3 := hW2.keep (Tk.z z3 T2)
  have hu13 := hu12.keep (Tk.z z3 T2)
  have hu23 := hu2.keep (Tk.z z3 T2)
  refine ⟨_, rfl, u3, ⟨#[c]⟩, _, rfl, hu3, by rw [Wi.map_sz]; omega, Gl.2.2, T3, fun u4 H4 z4 T4 hu4 => ?_⟩
  have hW4 := hW3.keep (Tk.z z4 T3)
  have hu14 := hu13.keep (Tk.z z4 T3)
  have hu24 := hu23.keep (Tk.z z4 T3)
  have ew : (W.map (wl ⟨#[d]⟩)).map (wf ⟨#[c]⟩) = (W.map (wf ⟨#[c]⟩)).map (wl ⟨#[d]⟩) := by
    rw [Wi.map_map, Wi.map_map]
    exact congrArg (fun g => W.map g) (funext fun z => (wf_wl c d z).symm)
  rw [ew] at hu4
  refine den_ne hu24 hu4 (by rw [Wi.map_dep, Wi.map_dep]; omega) ⟨_, rfl, iteF ?_⟩
  refine ⟨_, rfl, u1, _, rfl, hu14, by rw [Wi.map_sz]; omega, Gf.2.2, T4, fun u5 H5 z5 T5 hu5 => ?_⟩
  have hW5 := hW4.keep (Tk.z z5 T4)
  have hu15 := hu14.keep (Tk.z z5 T4)
  refine ⟨_, rfl, v, W, rfl, hW5, by omega, hG.2.2, T5, fun u6 H6 z6 T6 hu6 => ?_⟩
  have hW6 := hW5.keep (Tk.z z6 T5)
  have hu16 := hu15.keep (Tk.z z6 T5)
  have hu56 := hu5.keep (Tk.z z6 T5)
  refine ⟨_, rfl, u6, ⟨#[c]⟩, _, rfl, hu6, by rw [Wi.map_sz]; omega, Gr.2.2, T6, fun u7 H7 z7 T7 hu7 => ?_⟩
  have hW7 := hW6.keep (Tk.z z7 T6)
  have hu17 := hu16.keep (Tk.z z7 T6)
  have hu57 := hu56.keep (Tk.z z7 T6)
  have ew2 : (W.map revS).map (wl ⟨#[c]⟩) = (W.map (wf ⟨#[c]⟩)).map revS := by
    rw [Wi.map_map, Wi.map_map]
    exact congrArg (fun g => W.map g) (funext fun z => (rev_wf c z).symm)
  rw [ew2] at hu7
  refine den_ne hu57 hu7 (by rw [Wi.map_dep, Wi.map_dep]; omega) ⟨_, rfl, iteF ?_⟩
  have z07 := ((((z1.trans z2).trans z3).trans z4).trans z5).trans (z6.trans z7)
  refine ⟨_, rfl, v, W, rfl, hW7, by omega, hG.2.2, fun q1 zs1 H8 hq1 e8 h8 wo1 => ?_⟩
  refine ⟨_, rfl, u1, _, rfl, hu17.keep (Tk.same e8), by rw [Wi.map_sz]; omega, Gf.2.2, fun q2 zs2 H9 hq2 e9 h9 wo2 => ⟨_, _, rfl, ?_⟩⟩
  have h9a := e9 _ _ h8
  have l1 := nd_words wo1.1 wo1.2.1
  have l2 := nd_words wo2.1 wo2.2.1
  rw [Wi.map_sz] at l2
  have img : ∀ x ∈ zs2, ∃ y ∈ zs1, x = wf ⟨#[c]⟩ y := fun x hx => by
    have := (wo2.2.1 x).mp hx
    rw [Wi.wds_map] at this
    obtain ⟨y, hy, e⟩ := List.mem_map.mp this
    exact ⟨y, (wo1.2.1 y).mpr hy, e.symm⟩
  have bound : ∀ {W' : Wi} {zs : List Str}, WordsOf W' zs → (W'.ok fun z => z.length ≤ 100) → ∀ z ∈ zs, z.length ≤ 100 := fun {W' zs} wo ok z hz => Wi.ok_wds ok z ((wo.2.1 z).mp hz)
  have b1 := bound wo1 hG.2.2
  have b2 := bound wo2 Gf.2.2
  refine ⟨(by show 1 ≤ sizeLine; decide), fun a1 ha1 => ?_⟩
  have s10 := same_new ha1 (.lst [V.int 0])
  have h10 := upd_same (H := H9) (a := a1) (o := .lst [V.int 0])
  have h10a := s10 _ _ h9a
  have h10b := s10 _ _ h9
  generalize upd H9 a1 (.lst [V.int 0]) = H10 at s10 h10 h10a h10b
  refine ⟨_, rfl, q2, rfl, ⟨_, SqL.of h10b⟩, ?_⟩
  refine comp_list (K := K) (a := q2) (xs := zs2.map V.str) (fun j acc H11 => acc = (zs2.take j).map (fun z => V.int (z.length : Int)) ∧ Same H10 H11) (small1000 (by rw [List.length_map]; omega)) ⟨rfl, Same.refl _⟩ (fun j acc H11 p => by rw [p.1, List.length_map, List.length_take]; exact Nat.min_le_left _ _) (fun j acc H11 p => SqL.of (p.2 _ _ h10b)) (fun j acc H11 x hx p => ?_) (fun acc H11 p y1 hy1 => ?_)
  · obtain ⟨rfl, e11⟩ := p
    rw [List.getElem?_map] at hx
    cases hz : zs2[j]? with
    | none => rw [hz] at hx; cases hx
    | some z =>
      rw [hz] at hx
      cases hx
      have := b2 z (List.mem_of_getElem? hz)
      refine cyes ⟨_, rfl, z, rfl, (by rw [sizeLine_eq]; omega), ?_, e11⟩
      rw [List.take_add_one, hz, List.map_append]
      rfl
  obtain ⟨rfl, e11⟩ := p
  rw [List.length_map, List.take_length]
  have s12 := same_new hy1 (.lst (zs2.map fun z => V.int (z.length : Int)))
  have h12y := upd_same (H := H11) (a := y1) (o := .lst (zs2.map fun z => V.int (z.length : Int)))
  have e12 := e11.trans s12
  have h12 := e12 _ _ h10
  have h12a := e12 _ _ h10a
  generalize upd H11 y1 (.lst (zs2.map fun z => V.int (z.length : Int))) = H12 at s12 h12y e12 h12 h12a
  refine ⟨a1, y1, _, _, rfl, rfl, h12, h12y, (by rw [sizeLine_eq, List.length_map]; show 1 + zs2.length ≤ _; omega), fun p1 hp1 => ?_⟩
  have s13 := same_new hp1 (.lst ([V.int 0] ++ zs2.map fun z => V.int (z.length : Int)))
  have h13 := upd_same (H := H12) (a := p1) (o := .lst ([V.int 0] ++ zs2.map fun z => V.int (z.length : Int)))
  have h13a := s13 _ _ h12a
  generalize upd H12 p1 (.lst ([V.int 0] ++ zs2.map fun z => V.int (z.length : Int))) = H13 at s13 h13 h13a
  have em2 : [V.int 0] ++ zs2.map (fun z => V.int (z.length : Int)) = ((0 : Int) :: zs2.map fun z => (z.length : Int)).map V.int := by simp
  rw [em2] at h13
  refine ⟨p1, _, rfl, SqL.of h13, (by simp), fun M2 hM2 hm2 => ?_⟩
  refine ⟨(by show 1 ≤ sizeLine; decide), fun a2 ha2 => ?_⟩
  have s14 := same_new ha2 (.lst [V.int 0])
  have h14 := upd_same (H := H13) (a := a2) (o := .lst [V.int 0])
  have h14a := s14 _ _ h13a
  generalize upd H13 a2 (.lst [V.int 0]) = H14 at s14 h14 h14a
  refine ⟨_, rfl, q1, rfl, ⟨_, SqL.of h14a⟩, ?_⟩
  refine comp_list (K := K) (a := q1) (xs := zs1.map V.str) (fun j acc H15 => acc = (zs1.take j).map (fun z => V.int (z.length : Int)) ∧ Same H14 H15) (small1000 (by rw [List.length_map]; omega)) ⟨rfl, Same.refl _⟩ (fun j acc H15 p => by rw [p.1, List.length_map, List.length_take]; exact Nat.min_le_left _ _) (fun j acc H15 p => SqL.of (p.2 _ _ h14a)) (fun j acc H15 x hx p => ?_) (fun acc H15 p y2 hy2 => ?_)
  · obtain ⟨rfl, e15⟩ := p
    rw [List.getElem?_map] at hx
    cases hz : zs1[j]? with
    | none => rw [hz] at hx; cases hx
    | some z =>
      rw [hz] at hx
      cases hx
      have := b1 z (List.mem_of_getElem? hz)
      refine cyes ⟨_, rfl, z, rfl, (by rw [sizeLine_eq]; omega), ?_, e15⟩
      rw [List.take_add_one, hz, List.map_append]
      rfl
  obtain ⟨rfl, e15⟩ := p
  rw [List.length_map, List.take_length]
  have s16 := same_new hy2 (.lst (zs1.map fun z => V.int (z.length : Int)))
  have h16y := upd_same (H := H15) (a := y2) (o := .lst (zs1.map fun z => V.int (z.length : Int)))
  have e16 := e15.trans s16
  have h16 := e16 _ _ h14
  generalize upd H15 y2 (.lst (zs1.map fun z => V.int (z.length : Int))) = H16 at s16 h16y e16 h16
  refine ⟨a2, y2, _, _, rfl, rfl, h16, h16y, (by rw [sizeLine_eq, List.length_map]; show 1 + zs1.length ≤ _; omega), fun p2 hp2 => ?_⟩
  have s17 := same_new hp2 (.lst ([V.int 0] ++ zs1.map fun z => V.int (z.length : Int)))
  have h17 := upd_same (H := H16) (a := p2) (o := .lst ([V.int 0] ++ zs1.map fun z => V.int (z.length : Int)))
  generalize upd H16 p2 (.lst ([V.int 0] ++ zs1.map fun z => V.int (z.length : Int))) = H17 at s17 h17
  have em1 : [V.int 0] ++ zs1.map (fun z => V.int (z.length : Int)) = ((0 : Int) :: zs1.map fun z => (z.length : Int)).map V.int := by simp
  rw [em1] at h17
  have e917 : Same H9 H17 := (((s10.trans e12).trans s13).trans s14).trans (e16.trans s17)
  refine ⟨p2, _, rfl, SqL.of h17, (by simp), fun M1 hM1 hm1 => ⟨_, _, rfl, rfl, _, rfl, ?_⟩⟩
  have hle : M2 ≤ M1 := by
    rcases lens_max hM2 with e | ⟨z, hz, e⟩
    · rw [e]; exact hm1 0 List.mem_cons_self
    · obtain ⟨y, hy, e2⟩ := img z hz
      have := hm1 (y.length : Int) (List.mem_cons_of_mem _ (List.mem_map.mpr ⟨y, hy, rfl⟩))
      have h3 := wf_len c y
      rw [← e2] at h3
      omega
  refine ifN (decide_eq_false (by omega)) ?_
  refine ⟨_, rfl, q2, _, rfl, .inl (SqL.of (e917 _ _ h9)), _, rfl, q1, _, rfl, .inl (SqL.of (e917 _ _ h9a)), _, _, rfl, rfl, ?_⟩
  have hlen := few_image wo2.1 img
  have e717 := (e8.trans e9).trans e917
  have fin := k H17 (z07.trans (SameZ.s e717)) (T7.same e717)
  rw [← decide_eq_true (show (((zs2.map V.str).length : Nat) : Int) ≤ (((zs1.map V.str).length : Nat) : Int) by rw [List.length_map, List.length_map]; omega)] at fin
  exact fin
theorem ok_law {f : Addr} {fd : FuncData} {cb Pb ca Pa ct Pt : Addr} (F : Fun K "law" "law" s_law f fd) (Z : Blt mg) (C_law_flow : Cal P w K mg base "_law_flow" 1 ["_law_script"] (spFlow K)) (C_law_pick : Cal P w K mg base "_law_pick" 1 ["_law_flow_here", "_law_many"] spPick) (C_law_some_letters : Cal P w K mg base "_law_some_letters" 3 ["_law_flow_here"] spSomeL)
    (C_law_any_wish : Cal P w K mg base "_law_any_wish" 8 ["_law_flow_here", "_law_letters_here"] spAnyW) (C_law_text : Cal P w K mg base "_law_text" 3 ["_law_flow_here", "_law_letters_here", "_law_most"] spText) (C_law_gone_right : Cal P w K mg base "_law_gone_right" 7 ["_law_wish_here", "_law_text_here"] (spGone Pb Pa Pt)) (C_law_letter_right : Cal P w K mg base "_law_letter_right" 7 ["_law_wish_here", "_law_letter", "_law_other"] (spLetterR Pb Pa Pt)) :
    FnOk P w K mg base CX0 9 f fd ["_law_script"] (spLawT K [(cb, Pb), (ca, Pa), (ct, Pt)]) := by
  refine F.ok sc_law (fun vs H Q E h => ?_) (fun cdv A outer s H vs Q E hr h => ?_)
  · obtain ⟨a, ns, rfl, _⟩ := h
    rfl
  obtain ⟨a, ns, rfl, hS, h63, hT0, k⟩ := h
  have hB0 : H Pb = some (.tbl #[]) := hT0 (cb, Pb) List.mem_cons_self
  have hA0 : H Pa = some (.tbl #[]) := hT0 (ca, Pa) (List.mem_cons_of_mem _ List.mem_cons_self)
  have hT0 : H Pt = some (.tbl #[]) := hT0 (ct, Pt) (List.mem_cons_of_mem _ (List.mem_cons_of_mem _ List.mem_cons_self))
  refine ⟨_, (pss_cons (ps_set (i := 1) sc_law.nd (by rfl) (Or.inr (by rfl)) (pe_c C_law_flow (hr.mono (by decide)) (pa_cons (pv 0) pa_nil))) 
      (pss_cons (ps_set (i := 2) sc_law.nd (by rfl) (Or.inr (by rfl)) (pe_c C_law_some_letters (hr.mono (by decide)) (pa_cons (pv 1) pa_nil))) 
      (pss_cons (ps_set (i := 3) sc_law.nd (by rfl) (Or.inl (by rfl)) (pe_c C_law_any_wish (hr.mono (by decide)) (pa_cons (pv 1) (pa_cons (pv 2) pa_nil)))) 
      (pss_cons (ps_for PassesOwn.never (by rfl) (pi_range1 (by rfl) Z.range (pa_cons pe_int pa_nil)) (pg_name (i := 4) sc_law.nd (by rfl) (Or.inl (by rfl))) 
        (pss_one (ps_if (pt_not (pt_truthK (K := K) (pe_c C_law_gone_right (hr.mono (by decide)) (pa_cons (pv 3) (pa_cons (pe_c C_law_text (hr.mono (by decide)) (pa_cons (pv 1) (pa_cons (pv 2) (pa_cons pe_int pa_nil)))) pa_nil))) (fun _ => rfl))) 
          (pss_one (ps_ret pe_bl)) pss_nil))) 
      (pss_cons (ps_asg (pe_comp (sc := defScope s_law) (Nm := ["_law_script", "_law_flow_here", "_law_letters_here", "_law_wish_here", "_law_k", "_law_letter", "_law_other"]) (own := ["_law_k"]) (fr := [1, 2]) ⟨rfl, by decide +kernel, by decide +kernel, by decide +kernel, by decide +kernel⟩ (by rfl) (gfr_name (by decide)) (pi_range1 (by rfl) Z.range (pa_cons pe_int pa_nil)) (fun d => (pg_name (i := 0) nd_law_0 (by rfl) (Or.inl (by rfl)))) (fun d => pts_nil) (fun d => (pe_ix ix_str (pv 2) (pe_c C_law_pick (hr.mono (by decide)) (pa_cons (pv 1) (pa_cons (pe_callB call_len_str (by rfl) Z.len bt_len (pa_cons (pv 2) pa_nil)) pa_nil))) (fun _ _ => rfl)))) (pg_lst (K := K) (n := 2) (by rfl) (pgs_cons (pg_name (i := 5) sc_law.nd (by rfl) (Or.inl (by rfl))) (pgs_cons (pg_name (i := 6) sc_law.nd (by rfl) (Or.inl (by rfl))) pgs_nil)))) 
      (pss_one (ps_ret (pe_and (pe_c C_law_letter_right (hr.mono (by decide)) (pa_cons (pv 3) (pa_cons (pv 5) (pa_cons (pv 6) pa_nil)))) (pe_one (pe_c C_law_letter_right (hr.mono (by decide)) (pa_cons (pv 3) (pa_cons (pv 6) (pa_cons (pv 5) pa_nil))))))))))))), ?_⟩
  refine ⟨_, rfl, a, ns, rfl, hS, fun p sc H1 hp e1 FA => ?_⟩
  have TS0 : Ts Pb Pa Pt H := ⟨Tb.start hB0, Tb.start hA0, Tb.start hT0⟩
  have nfl : ∀ {H' : Hp}, FlowAt H' p sc → Ts Pb Pa Pt H' → p ≠ Pb ∧ p ≠ Pa ∧ p ≠ Pt := fun FA T => by
    obtain ⟨ys, hy, _⟩ := FA.here
    exact ⟨tb_ne T.b hy (fun _ => nofun), tb_ne T.a hy (fun _ => nofun), tb_ne T.t hy (fun _ => nofun)⟩
  have flz : ∀ {H' H'' : Hp}, FlowAt H' p sc → Ts Pb Pa Pt H' → SameZ Pb Pa Pt H' H'' → FlowAt H'' p sc := fun FA T e => by
    obtain ⟨ys, hy, hx⟩ := FA.here
    obtain ⟨ns2, hs2⟩ := FA.cells
    exact ⟨⟨ys, e.at_ T hy (fun _ => nofun), hx⟩, ns2, e.at_ T hs2 (fun _ => nofun)⟩
  have tbd : ∀ {H' H'' : Hp} {P : Addr} {L : List (Pos × Str)}, FlowAt H' p sc → Drew H' H'' p → Tb P L H' → Tb P L H'' := fun {H' H'' P L} FA d t => by
    obtain ⟨ys, hy, _⟩ := FA.here
    have n1 : P ≠ p := (tb_ne t hy (fun _ => nofun)).symm
    obtain ⟨ps, h1, h2, h3⟩ := t
    refine ⟨ps, d _ _ h1 n1, h2, fun x hx => ?_⟩
    rcases h3 x hx with h | ⟨c, a, b⟩
    · exact .inl h
    · refine .inr ⟨c, a, d _ _ b (fun z => ?_)⟩
      rw [z, hy] at b
      cases b
  have tsd : ∀ {H' H'' : Hp}, FlowAt H' p sc → Drew H' H'' p → Ts Pb Pa Pt H' → Ts Pb Pa Pt H'' := fun FA d T => ⟨tbd FA d T.b, tbd FA d T.a, tbd FA d T.t⟩
  have TS1 := TS0.same e1
  refine ⟨_, rfl, p, sc, rfl, FA, fun l H2 hl0 hl1 dr2 FA2 => ?_⟩
  have TS2 := tsd FA dr2 TS1
  refine ⟨_, rfl, _, rfl, p, sc, l, rfl, by omega, by omega, FA2, fun v W H3 hW hz hd hok dr3 FA3 => ?_⟩
  have TS3 := tsd FA2 dr3 TS2
  have hG : Good W := ⟨hz, hd, Wi.ok_imp (fun z hz => by have := len_list z; omega) hok⟩
  have hll := len_list l
  refine ⟨3, rfl, by decide, by decide, ?_⟩
  refine for_range (lo := 0) (n := 3) (fun i σ H4 => ∃ v4, σ = [some (.ref a), some (.ref p), some (.str l), some v, v4, none, none] ∧ FlowAt H4 p sc ∧ Ts Pb Pa Pt H4 ∧ WAt H4 v W) ⟨none, rfl, FA3, TS3, hW⟩ ?_ ?_
  · rintro i σ H4 hi ⟨v4, rfl, FA4, TS4, hW4⟩
    refine ⟨_, rfl, _, rfl, _, rfl, p, sc, l, rfl, by omega, by omega, FA4, fun z H5 hzl dr5 FA5 => ?_⟩
    have TS5 := tsd FA4 dr5 TS4
    refine ⟨v, z, W, rfl, hW4.keep (Tk.drew FA4 dr5), hG, hzl, TS5, fun H6 z6 TS6 => ⟨_, rfl, iteF ?_⟩⟩
    exact ⟨_, rfl, flz FA5 TS5 z6, TS6, (hW4.keep (Tk.drew FA4 dr5)).keep (Tk.z z6 TS5)⟩
  · rintro σ H4 ⟨v4, rfl, FA4, TS4, hW4⟩
    refine ⟨2, rfl, by decide, by decide, ?_⟩
    refine comp_range (lo := 0) (k := 2) (fun j acc H5 => ∃ cs : List Nat, acc = cs.map oneS ∧ cs.length = j ∧ FlowAt H5 p sc ∧ Ts Pb Pa Pt H5 ∧ WAt H5 v W) (by decide) ⟨[], rfl, rfl, FA4, TS4, hW4⟩ (fun j acc H5 z => by obtain ⟨cs, rfl, h, _⟩ := z; rw [List.length_map, h]; exact Nat.le_refl _) (fun j acc H5 hj z => ?_) (fun acc H5 z lp hlp => ?_)
    · obtain ⟨cs, rfl, hcs, FA5, TS5, hW5⟩ := z
      refine cyes ⟨_, rfl, _, rfl, _, rfl, l, rfl, (by rw [sizeLine_eq]; omega), p, sc, (l.length : Int), rfl, by omega, by omega, FA5, fun r xs h0 h1 hx => ?_⟩
      have hi : r.toNat < l.cps.toList.length := by omega
      have hr2 : r = ((r.toNat : Nat) : Int) := by omega
      have dr6 : Drew H5 (upd H5 p (.lst xs)) p := Drew.upd _
      refine ⟨l, r, _, rfl, rfl, (by rw [sizeLine_eq]; omega), (by rw [hr2]; exact atI_nat (List.getElem?_eq_getElem hi)), cs ++ [l.cps.toList[r.toNat]], by rw [List.map_append]; rfl, by rw [List.length_append, hcs]; rfl, FA5.go hx, tsd FA5 dr6 TS5, hW5.keep (Tk.drew FA5 dr6)⟩
    obtain ⟨cs, rfl, hcs, FA5, TS5, hW5⟩ := z
    obtain ⟨c, d, rfl⟩ : ∃ c d, cs = [c, d] := by
      match cs, hcs with
      | [c, d], _ => exact ⟨c, d, rfl⟩
    have s6 := same_new hlp (.lst ([c, d].map oneS))
    have h6 := upd_same (H := H5) (a := lp) (o := .lst ([c, d].map oneS))
    have TS6 := TS5.same s6
    have hW6 := hW5.keep (Tk.same s6)
    generalize upd H5 lp (.lst ([c, d].map oneS)) = H6 at s6 h6 TS6 hW6
    refine ⟨lp, _, rfl, SqL.of h6, rfl, _, _, rfl, _, _, rfl, rfl, ?_⟩
    refine ⟨_, rfl, _, rfl, _, rfl, v, c, d, W, rfl, hW6, hG, TS6, fun H7 z7 TS7 => ⟨_, rfl, iteT ?_⟩⟩
    refine ⟨_, rfl, _, rfl, _, rfl, v, d, c, W, rfl, hW6.keep (Tk.z z7 TS6), hG, TS7, fun H8 z8 TS8 => k _⟩
end
theorem all_mk {l : PySem.W.OpenLaw} {w : World} {K : PySem.W.Frag} {h : Heap} {mg : Str → Option Value} {fa : Addr} (X : K.In h) (G : h.Ns mainGlobals mg) (hfa : mg "law" = some (.ref fa)) {qp : Program} (TT : TabTop qp K h)
    {f1 : Addr} {od1 an1 : Option Addr} {sl1 : Array (Option Value)} {oc1 kV1 dc1 pm1 cd1 ct1 : Value}
    (a1 : PySem.W.nsIn K mainGlobals "left_behind" = some (some (.ref f1))) (l1 : K.lookup f1 = some ⟨oc1, od1, .func (PySem.W.fnOf "left_behind" "left_behind" (defArgs s_left_behind) (defBody s_left_behind) (defScope s_left_behind) .none kV1 dc1 pm1 an1 cd1 ct1), sl1⟩) (c1 : PySem.W.codeIn K cd1 "left_behind" = true) (k1 : PySem.W.keepIn K (.ref f1) = true)
    {f2 : Addr} {od2 an2 : Option Addr} {sl2 : Array (Option Value)} {oc2 kV2 dc2 pm2 cd2 ct2 : Value}
    (a2 : PySem.W.nsIn K mainGlobals "places" = some (some (.ref f2))) (l2 : K.lookup f2 = some ⟨oc2, od2, .func (PySem.W.fnOf "places" "places" (defArgs s_places) (defBody s_places) (defScope s_places) .none kV2 dc2 pm2 an2 cd2 ct2), sl2⟩) (c2 : PySem.W.codeIn K cd2 "places" = true) (k2 : PySem.W.keepIn K (.ref f2) = true)
    {f3 : Addr} {od3 an3 : Option Addr} {sl3 : Array (Option Value)} {oc3 kV3 dc3 pm3 cd3 ct3 : Value}
    (a3 : PySem.W.nsIn K mainGlobals "spread_in" = some (some (.ref f3))) (l3 : K.lookup f3 = some ⟨oc3, od3, .func (PySem.W.fnOf "spread_in" "spread_in" (defArgs s_spread_in) (defBody s_spread_in) (defScope s_spread_in) .none kV3 dc3 pm3 an3 cd3 ct3), sl3⟩) (c3 : PySem.W.codeIn K cd3 "spread_in" = true) (k3 : PySem.W.keepIn K (.ref f3) = true)
    {f4 : Addr} {od4 an4 : Option Addr} {sl4 : Array (Option Value)} {oc4 kV4 dc4 pm4 cd4 ct4 : Value}
    (a4 : PySem.W.nsIn K mainGlobals "inner_wishes" = some (some (.ref f4))) (l4 : K.lookup f4 = some ⟨oc4, od4, .func (PySem.W.fnOf "inner_wishes" "inner_wishes" (defArgs s_inner_wishes) (defBody s_inner_wishes) (defScope s_inner_wishes) .none kV4 dc4 pm4 an4 cd4 ct4), sl4⟩) (c4 : PySem.W.codeIn K cd4 "inner_wishes" = true) (k4 : PySem.W.keepIn K (.ref f4) = true)
    {f5 : Addr} {od5 an5 : Option Addr} {sl5 : Array (Option Value)} {oc5 kV5 dc5 pm5 cd5 ct5 : Value}
    (a5 : PySem.W.nsIn K mainGlobals "heads_in" = some (some (.ref f5))) (l5 : K.lookup f5 = some ⟨oc5, od5, .func (PySem.W.fnOf "heads_in" "heads_in" (defArgs s_heads_in) (defBody s_heads_in) (defScope s_heads_in) .none kV5 dc5 pm5 an5 cd5 ct5), sl5⟩) (c5 : PySem.W.codeIn K cd5 "heads_in" = true) (k5 : PySem.W.keepIn K (.ref f5) = true)
    {f6 : Addr} {od6 an6 : Option Addr} {sl6 : Array (Option Value)} {oc6 kV6 dc6 pm6 cd6 ct6 : Value}
    (a6 : PySem.W.nsIn K mainGlobals "wish_from" = some (some (.ref f6))) (l6 : K.lookup f6 = some ⟨oc6, od6, .func (PySem.W.fnOf "wish_from" "wish_from" (defArgs s_wish_from) (defBody s_wish_from) (defScope s_wish_from) .none kV6 dc6 pm6 an6 cd6 ct6), sl6⟩) (c6 : PySem.W.codeIn K cd6 "wish_from" = true) (k6 : PySem.W.keepIn K (.ref f6) = true)
    {f7 : Addr} {od7 an7 : Option Addr} {sl7 : Array (Option Value)} {oc7 kV7 dc7 pm7 cd7 ct7 : Value}
    (a7 : PySem.W.nsIn K mainGlobals "truth" = some (some (.ref f7))) (l7 : K.lookup f7 = some ⟨oc7, od7, .func (PySem.W.fnOf "truth" "truth" (defArgs s_truth) (defBody s_truth) (defScope s_truth) .none kV7 dc7 pm7 an7 cd7 ct7), sl7⟩) (c7 : PySem.W.codeIn K cd7 "truth" = true) (k7 : PySem.W.keepIn K (.ref f7) = true)
    {f8 : Addr} {od8 an8 : Option Addr} {sl8 : Array (Option Value)} {oc8 kV8 dc8 pm8 cd8 ct8 : Value}
    (a8 : PySem.W.nsIn K mainGlobals "words_in" = some (some (.ref f8))) (l8 : K.lookup f8 = some ⟨oc8, od8, .func (PySem.W.fnOf "words_in" "words_in" (defArgs s_words_in) (defBody s_words_in) (defScope s_words_in) .none kV8 dc8 pm8 an8 cd8 ct8), sl8⟩) (c8 : PySem.W.codeIn K cd8 "words_in" = true) (k8 : PySem.W.keepIn K (.ref f8) = true)
    {f9 : Addr} {od9 an9 : Option Addr} {sl9 : Array (Option Value)} {oc9 kV9 dc9 pm9 cd9 ct9 : Value}
    (a9 : PySem.W.nsIn K mainGlobals "holds" = some (some (.ref f9))) (l9 : K.lookup f9 = some ⟨oc9, od9, .func (PySem.W.fnOf "holds" "holds" (defArgs s_holds) (defBody s_holds) (defScope s_holds) .none kV9 dc9 pm9 an9 cd9 ct9), sl9⟩) (c9 : PySem.W.codeIn K cd9 "holds" = true) (k9 : PySem.W.keepIn K (.ref f9) = true)
    {f10 : Addr} {od10 an10 : Option Addr} {sl10 : Array (Option Value)} {oc10 kV10 dc10 pm10 cd10 ct10 : Value}
    (a10 : PySem.W.nsIn K mainGlobals "without_first" = some (some (.ref f10))) (l10 : K.lookup f10 = some ⟨oc10, od10, .func (PySem.W.fnOf "without_first" "without_first" (defArgs s_without_first) (defBody s_without_first) (defScope s_without_first) .none kV10 dc10 pm10 an10 cd10 ct10), sl10⟩) (c10 : PySem.W.codeIn K cd10 "without_first" = true) (k10 : PySem.W.keepIn K (.ref f10) = true)
    {f11 : Addr} {od11 an11 : Option Addr} {sl11 : Array (Option Value)} {oc11 kV11 dc11 pm11 cd11 ct11 : Value}
    (a11 : PySem.W.nsIn K mainGlobals "without_last" = some (some (.ref f11))) (l11 : K.lookup f11 = some ⟨oc11, od11, .func (PySem.W.fnOf "without_last" "without_last" (defArgs s_without_last) (defBody s_without_last) (defScope s_without_last) .none kV11 dc11 pm11 an11 cd11 ct11), sl11⟩) (c11 : PySem.W.codeIn K cd11 "without_last" = true) (k11 : PySem.W.keepIn K (.ref f11) = true)
    {f12 : Addr} {od12 an12 : Option Addr} {sl12 : Array (Option Value)} {oc12 kV12 dc12 pm12 cd12 ct12 : Value}
    (a12 : PySem.W.nsIn K mainGlobals "with_words" = some (some (.ref f12))) (l12 : K.lookup f12 = some ⟨oc12, od12, .func (PySem.W.fnOf "with_words" "with_words" (defArgs s_with_words) (defBody s_with_words) (defScope s_with_words) .none kV12 dc12 pm12 an12 cd12 ct12), sl12⟩) (c12 : PySem.W.codeIn K cd12 "with_words" = true) (k12 : PySem.W.keepIn K (.ref f12) = true)
    {f13 : Addr} {od13 an13 : Option Addr} {sl13 : Array (Option Value)} {oc13 kV13 dc13 pm13 cd13 ct13 : Value}
    (a13 : PySem.W.nsIn K mainGlobals "wish_behind" = some (some (.ref f13))) (l13 : K.lookup f13 = some ⟨oc13, od13, .func (PySem.W.fnOf "wish_behind" "wish_behind" (defArgs s_wish_behind) (defBody s_wish_behind) (defScope s_wish_behind) .none kV13 dc13 pm13 an13 cd13 ct13), sl13⟩) (c13 : PySem.W.codeIn K cd13 "wish_behind" = true) (k13 : PySem.W.keepIn K (.ref f13) = true)
    {f14 : Addr} {od14 an14 : Option Addr} {sl14 : Array (Option Value)} {oc14 kV14 dc14 pm14 cd14 ct14 : Value}
    (a14 : PySem.W.nsIn K mainGlobals "wish_ahead" = some (some (.ref f14))) (l14 : K.lookup f14 = some ⟨oc14, od14, .func (PySem.W.fnOf "wish_ahead" "wish_ahead" (defArgs s_wish_ahead) (defBody s_wish_ahead) (defScope s_wish_ahead) .none kV14 dc14 pm14 an14 cd14 ct14), sl14⟩) (c14 : PySem.W.codeIn K cd14 "wish_ahead" = true) (k14 : PySem.W.keepIn K (.ref f14) = true)
    {f15 : Addr} {od15 an15 : Option Addr} {sl15 : Array (Option Value)} {oc15 kV15 dc15 pm15 cd15 ct15 : Value}
    (a15 : PySem.W.nsIn K mainGlobals "wish_turned" = some (some (.ref f15))) (l15 : K.lookup f15 = some ⟨oc15, od15, .func (PySem.W.fnOf "wish_turned" "wish_turned" (defArgs s_wish_turned) (defBody s_wish_turned) (defScope s_wish_turned) .none kV15 dc15 pm15 an15 cd15 ct15), sl15⟩) (c15 : PySem.W.codeIn K cd15 "wish_turned" = true) (k15 : PySem.W.keepIn K (.ref f15) = true)
    {f16 : Addr} {od16 an16 : Option Addr} {sl16 : Array (Option Value)} {oc16 kV16 dc16 pm16 cd16 ct16 : Value}
    (a16 : PySem.W.nsIn K mainGlobals "_law_flow" = some (some (.ref f16))) (l16 : K.lookup f16 = some ⟨oc16, od16, .func (PySem.W.fnOf "_law_flow" "_law_flow" (defArgs s_law_flow) (defBody s_law_flow) (defScope s_law_flow) .none kV16 dc16 pm16 an16 cd16 ct16), sl16⟩) (c16 : PySem.W.codeIn K cd16 "_law_flow" = true) (k16 : PySem.W.keepIn K (.ref f16) = true)
    {f17 : Addr} {od17 an17 : Option Addr} {sl17 : Array (Option Value)} {oc17 kV17 dc17 pm17 cd17 ct17 : Value}
    (a17 : PySem.W.nsIn K mainGlobals "_law_pick" = some (some (.ref f17))) (l17 : K.lookup f17 = some ⟨oc17, od17, .func (PySem.W.fnOf "_law_pick" "_law_pick" (defArgs s_law_pick) (defBody s_law_pick) (defScope s_law_pick) .none kV17 dc17 pm17 an17 cd17 ct17), sl17⟩) (c17 : PySem.W.codeIn K cd17 "_law_pick" = true) (k17 : PySem.W.keepIn K (.ref f17) = true)
    {f18 : Addr} {od18 an18 : Option Addr} {sl18 : Array (Option Value)} {oc18 kV18 dc18 pm18 cd18 ct18 : Value}
    (a18 : PySem.W.nsIn K mainGlobals "_law_letters" = some (some (.ref f18))) (l18 : K.lookup f18 = some ⟨oc18, od18, .func (PySem.W.fnOf "_law_letters" "_law_letters" (defArgs s_law_letters) (defBody s_law_letters) (defScope s_law_letters) .none kV18 dc18 pm18 an18 cd18 ct18), sl18⟩) (c18 : PySem.W.codeIn K cd18 "_law_letters" = true) (k18 : PySem.W.keepIn K (.ref f18) = true)
    {f19 : Addr} {od19 an19 : Option Addr} {sl19 : Array (Option Value)} {oc19 kV19 dc19 pm19 cd19 ct19 : Value}
    (a19 : PySem.W.nsIn K mainGlobals "_law_word" = some (some (.ref f19))) (l19 : K.lookup f19 = some ⟨oc19, od19, .func (PySem.W.fnOf "_law_word" "_law_word" (defArgs s_law_word) (defBody s_law_word) (defScope s_law_word) .none kV19 dc19 pm19 an19 cd19 ct19), sl19⟩) (c19 : PySem.W.codeIn K cd19 "_law_word" = true) (k19 : PySem.W.keepIn K (.ref f19) = true)
    {f20 : Addr} {od20 an20 : Option Addr} {sl20 : Array (Option Value)} {oc20 kV20 dc20 pm20 cd20 ct20 : Value}
    (a20 : PySem.W.nsIn K mainGlobals "_law_wish" = some (some (.ref f20))) (l20 : K.lookup f20 = some ⟨oc20, od20, .func (PySem.W.fnOf "_law_wish" "_law_wish" (defArgs s_law_wish) (defBody s_law_wish) (defScope s_law_wish) .none kV20 dc20 pm20 an20 cd20 ct20), sl20⟩) (c20 : PySem.W.codeIn K cd20 "_law_wish" = true) (k20 : PySem.W.keepIn K (.ref f20) = true)
    {f21 : Addr} {od21 an21 : Option Addr} {sl21 : Array (Option Value)} {oc21 kV21 dc21 pm21 cd21 ct21 : Value}
    (a21 : PySem.W.nsIn K mainGlobals "_law_any_wish" = some (some (.ref f21))) (l21 : K.lookup f21 = some ⟨oc21, od21, .func (PySem.W.fnOf "_law_any_wish" "_law_any_wish" (defArgs s_law_any_wish) (defBody s_law_any_wish) (defScope s_law_any_wish) .none kV21 dc21 pm21 an21 cd21 ct21), sl21⟩) (c21 : PySem.W.codeIn K cd21 "_law_any_wish" = true) (k21 : PySem.W.keepIn K (.ref f21) = true)
    {f22 : Addr} {od22 an22 : Option Addr} {sl22 : Array (Option Value)} {oc22 kV22 dc22 pm22 cd22 ct22 : Value}
    (a22 : PySem.W.nsIn K mainGlobals "_law_some_letters" = some (some (.ref f22))) (l22 : K.lookup f22 = some ⟨oc22, od22, .func (PySem.W.fnOf "_law_some_letters" "_law_some_letters" (defArgs s_law_some_letters) (defBody s_law_some_letters) (defScope s_law_some_letters) .none kV22 dc22 pm22 an22 cd22 ct22), sl22⟩) (c22 : PySem.W.codeIn K cd22 "_law_some_letters" = true) (k22 : PySem.W.keepIn K (.ref f22) = true)
    {f23 : Addr} {od23 an23 : Option Addr} {sl23 : Array (Option Value)} {oc23 kV23 dc23 pm23 cd23 ct23 : Value}
    (a23 : PySem.W.nsIn K mainGlobals "_law_text" = some (some (.ref f23))) (l23 : K.lookup f23 = some ⟨oc23, od23, .func (PySem.W.fnOf "_law_text" "_law_text" (defArgs s_law_text) (defBody s_law_text) (defScope s_law_text) .none kV23 dc23 pm23 an23 cd23 ct23), sl23⟩) (c23 : PySem.W.codeIn K cd23 "_law_text" = true) (k23 : PySem.W.keepIn K (.ref f23) = true)
    {f24 : Addr} {od24 an24 : Option Addr} {sl24 : Array (Option Value)} {oc24 kV24 dc24 pm24 cd24 ct24 : Value}
    (a24 : PySem.W.nsIn K mainGlobals "_law_about" = some (some (.ref f24))) (l24 : K.lookup f24 = some ⟨oc24, od24, .func (PySem.W.fnOf "_law_about" "_law_about" (defArgs s_law_about) (defBody s_law_about) (defScope s_law_about) .none kV24 dc24 pm24 an24 cd24 ct24), sl24⟩) (c24 : PySem.W.codeIn K cd24 "_law_about" = true) (k24 : PySem.W.keepIn K (.ref f24) = true)
    {f25 : Addr} {od25 an25 : Option Addr} {sl25 : Array (Option Value)} {oc25 kV25 dc25 pm25 cd25 ct25 : Value}
    (a25 : PySem.W.nsIn K mainGlobals "_law_gone_right" = some (some (.ref f25))) (l25 : K.lookup f25 = some ⟨oc25, od25, .func (PySem.W.fnOf "_law_gone_right" "_law_gone_right" (defArgs s_law_gone_right) (defBody s_law_gone_right) (defScope s_law_gone_right) .none kV25 dc25 pm25 an25 cd25 ct25), sl25⟩) (c25 : PySem.W.codeIn K cd25 "_law_gone_right" = true) (k25 : PySem.W.keepIn K (.ref f25) = true)
    {f26 : Addr} {od26 an26 : Option Addr} {sl26 : Array (Option Value)} {oc26 kV26 dc26 pm26 cd26 ct26 : Value}
    (a26 : PySem.W.nsIn K mainGlobals "_law_letter_right" = some (some (.ref f26))) (l26 : K.lookup f26 = some ⟨oc26, od26, .func (PySem.W.fnOf "_law_letter_right" "_law_letter_right" (defArgs s_law_letter_right) (defBody s_law_letter_right) (defScope s_law_letter_right) .none kV26 dc26 pm26 an26 cd26 ct26), sl26⟩) (c26 : PySem.W.codeIn K cd26 "_law_letter_right" = true) (k26 : PySem.W.keepIn K (.ref f26) = true)
    {f27 : Addr} {od27 an27 : Option Addr} {sl27 : Array (Option Value)} {oc27 kV27 dc27 pm27 cd27 ct27 : Value}
    (a27 : PySem.W.nsIn K mainGlobals "law" = some (some (.ref f27))) (l27 : K.lookup f27 = some ⟨oc27, od27, .func (PySem.W.fnOf "law" "law" (defArgs s_law) (defBody s_law) (defScope s_law) .none kV27 dc27 pm27 an27 cd27 ct27), sl27⟩) (c27 : PySem.W.codeIn K cd27 "law" = true) (k27 : PySem.W.keepIn K (.ref f27) = true)
    (z_int : PySem.W.nsIn K mainGlobals "int" = some none)
    (z_len : PySem.W.nsIn K mainGlobals "len" = some none)
    (z_list : PySem.W.nsIn K mainGlobals "list" = some none)
    (z_max : PySem.W.nsIn K mainGlobals "max" = some none)
    (z_range : PySem.W.nsIn K mainGlobals "range" = some none)
    (z_reversed : PySem.W.nsIn K mainGlobals "reversed" = some none)
    (z_set : PySem.W.nsIn K mainGlobals "set" = some none)
    (z_sorted : PySem.W.nsIn K mainGlobals "sorted" = some none)
    (z_tuple : PySem.W.nsIn K mainGlobals "tuple" = some none)
    {aI : Addr} (q_INNER : PySem.W.nsIn K mainGlobals "INNER" = some (some (.ref aI)))
    {oI : Obj} (f_INNER : K.lookup aI = some oI)
    (d_INNER : ∃ vs, oI.IsDictOf (mixKind l.prog w) vs ∧ KV inKvs vs)
    (n0 : PySem.W.noTabs K = true)
    {c_wish_behind P_wish_behind : Addr} {d_wish_behind : DefRec} {oc_wish_behind : Value} {od_wish_behind : Option Addr} {sl_wish_behind : Array (Option Value)} {vs_wish_behind : Array Value} (y_wish_behind : cd13 = .ref c_wish_behind) (v_wish_behind : K.lookup c_wish_behind = some ⟨oc_wish_behind, od_wish_behind, .fields vs_wish_behind, sl_wish_behind⟩) (u_wish_behind : vs_wish_behind[11]? = some (.ref P_wish_behind)) (w_wish_behind : (recsOf qp).find? (fun e => e.name == Str.ofString "wish_behind") = some d_wish_behind)
    {c_wish_ahead P_wish_ahead : Addr} {d_wish_ahead : DefRec} {oc_wish_ahead : Value} {od_wish_ahead : Option Addr} {sl_wish_ahead : Array (Option Value)} {vs_wish_ahead : Array Value} (y_wish_ahead : cd14 = .ref c_wish_ahead) (v_wish_ahead : K.lookup c_wish_ahead = some ⟨oc_wish_ahead, od_wish_ahead, .fields vs_wish_ahead, sl_wish_ahead⟩) (u_wish_ahead : vs_wish_ahead[11]? = some (.ref P_wish_ahead)) (w_wish_ahead : (recsOf qp).find? (fun e => e.name == Str.ofString "wish_ahead") = some d_wish_ahead)
    {c_wish_turned P_wish_turned : Addr} {d_wish_turned : DefRec} {oc_wish_turned : Value} {od_wish_turned : Option Addr} {sl_wish_turned : Array (Option Value)} {vs_wish_turned : Array Value} (y_wish_turned : cd15 = .ref c_wish_turned) (v_wish_turned : K.lookup c_wish_turned = some ⟨oc_wish_turned, od_wish_turned, .fields vs_wish_turned, sl_wish_turned⟩) (u_wish_turned : vs_wish_turned[11]? = some (.ref P_wish_turned)) (w_wish_turned : (recsOf qp).find? (fun e => e.name == Str.ofString "wish_turned") = some d_wish_turned)
    (x_wish_behind_wish_ahead : P_wish_behind ≠ P_wish_ahead)
    (x_wish_behind_wish_turned : P_wish_behind ≠ P_wish_turned)
    (x_wish_ahead_wish_turned : P_wish_ahead ≠ P_wish_turned)
    : PySem.W.noTabs K = true ∧ ∃ (fd : FuncData) (tabs : List (Addr × Addr)), PySem.W.TabsAt tabs h ∧ (∀ (s : Shared) (v : Value), BindsTo s fd ⟨[v], []⟩ [("_law_script", v)]) ∧ ∀ base : Heap, K.In base → base.Ns mainGlobals mg → BltM mg base → FnOk l.prog w K mg base CX0 9 fa fd ["_law_script"] (spLawT K tabs) := by
  have e := hfa.symm.trans (PySem.W.mg_of X G a27)
  cases e
  have F_left_behind := fun_mk (st := s_left_behind) l1 c1 k1
  have b_left_behind := F_left_behind.binds (ps := ["text", "start", "letter"]) fun _ _ _ _ _ _ us hl => match us, hl with | [_, _, _], _ => rfl
  have m_left_behind := PySem.W.mg_of X G a1
  have F_places := fun_mk (st := s_places) l2 c2 k2
  have b_places := F_places.binds (ps := ["word", "text"]) fun _ _ _ _ _ _ us hl => match us, hl with | [_, _], _ => rfl
  have m_places := PySem.W.mg_of X G a2
  have F_spread_in := fun_mk (st := s_spread_in) l3 c3 k3
  have b_spread_in := F_spread_in.binds (ps := ["word", "text"]) fun _ _ _ _ _ _ us hl => match us, hl with | [_, _], _ => rfl
  have m_spread_in := PySem.W.mg_of X G a3
  have F_inner_wishes := fun_mk (st := s_inner_wishes) l4 c4 k4
  have b_inner_wishes := F_inner_wishes.binds (ps := ["wish"]) fun _ _ _ _ _ _ us hl => match us, hl with | [_], _ => rfl
  have m_inner_wishes := PySem.W.mg_of X G a4
  have F_heads_in := fun_mk (st := s_heads_in) l5 c5 k5
  have b_heads_in := F_heads_in.binds (ps := ["wish"]) fun _ _ _ _ _ _ us hl => match us, hl with | [_], _ => rfl
  have m_heads_in := PySem.W.mg_of X G a5
  have F_wish_from := fun_mk (st := s_wish_from) l6 c6 k6
  have b_wish_from := F_wish_from.binds (ps := ["heads"]) fun _ _ _ _ _ _ us hl => match us, hl with | [_], _ => rfl
  have m_wish_from := PySem.W.mg_of X G a6
  have F_truth := fun_mk (st := s_truth) l7 c7 k7
  have b_truth := F_truth.binds (ps := ["heads", "lying"]) fun _ _ _ _ _ _ us hl => match us, hl with | [_, _], _ => rfl
  have m_truth := PySem.W.mg_of X G a7
  have F_words_in := fun_mk (st := s_words_in) l8 c8 k8
  have b_words_in := F_words_in.binds (ps := ["wish"]) fun _ _ _ _ _ _ us hl => match us, hl with | [_], _ => rfl
  have m_words_in := PySem.W.mg_of X G a8
  have F_holds := fun_mk (st := s_holds) l9 c9 k9
  have b_holds := F_holds.binds (ps := ["wish", "text"]) fun _ _ _ _ _ _ us hl => match us, hl with | [_, _], _ => rfl
  have m_holds := PySem.W.mg_of X G a9
  have F_without_first := fun_mk (st := s_without_first) l10 c10 k10
  have b_without_first := F_without_first.binds (ps := ["word", "letter"]) fun _ _ _ _ _ _ us hl => match us, hl with | [_, _], _ => rfl
  have m_without_first := PySem.W.mg_of X G a10
  have F_without_last := fun_mk (st := s_without_last) l11 c11 k11
  have b_without_last := F_without_last.binds (ps := ["word", "letter"]) fun _ _ _ _ _ _ us hl => match us, hl with | [_, _], _ => rfl
  have m_without_last := PySem.W.mg_of X G a11
  have F_with_words := fun_mk (st := s_with_words) l12 c12 k12
  have b_with_words := F_with_words.binds (ps := ["wish", "change"]) fun _ _ _ _ _ _ us hl => match us, hl with | [_, _], _ => rfl
  have m_with_words := PySem.W.mg_of X G a12
  have F_wish_behind := fun_mk (st := s_wish_behind) l13 c13 k13
  have b_wish_behind := F_wish_behind.binds (ps := ["wish", "letter"]) fun _ _ _ _ _ _ us hl => match us, hl with | [_, _], _ => rfl
  have m_wish_behind := PySem.W.mg_of X G a13
  have F_wish_ahead := fun_mk (st := s_wish_ahead) l14 c14 k14
  have b_wish_ahead := F_wish_ahead.binds (ps := ["wish", "letter"]) fun _ _ _ _ _ _ us hl => match us, hl with | [_, _], _ => rfl
  have m_wish_ahead := PySem.W.mg_of X G a14
  have F_wish_turned := fun_mk (st := s_wish_turned) l15 c15 k15
  have b_wish_turned := F_wish_turned.binds (ps := ["wish"]) fun _ _ _ _ _ _ us hl => match us, hl with | [_], _ => rfl
  have m_wish_turned := PySem.W.mg_of X G a15
  have F_law_flow := fun_mk (st := s_law_flow) l16 c16 k16
  have b_law_flow := F_law_flow.binds (ps := ["_law_script"]) fun _ _ _ _ _ _ us hl => match us, hl with | [_], _ => rfl
  have m_law_flow := PySem.W.mg_of X G a16
  have F_law_pick := fun_mk (st := s_law_pick) l17 c17 k17
  have b_law_pick := F_law_pick.binds (ps := ["_law_flow_here", "_law_many"]) fun _ _ _ _ _ _ us hl => match us, hl with | [_, _], _ => rfl
  have m_law_pick := PySem.W.mg_of X G a17
  have F_law_letters := fun_mk (st := s_law_letters) l18 c18 k18
  have b_law_letters := F_law_letters.binds (ps := ["_law_flow_here", "_law_many"]) fun _ _ _ _ _ _ us hl => match us, hl with | [_, _], _ => rfl
  have m_law_letters := PySem.W.mg_of X G a18
  have F_law_word := fun_mk (st := s_law_word) l19 c19 k19
  have b_law_word := F_law_word.binds (ps := ["_law_flow_here", "_law_letters_here", "_law_most"]) fun _ _ _ _ _ _ us hl => match us, hl with | [_, _, _], _ => rfl
  have m_law_word := PySem.W.mg_of X G a19
  have F_law_wish := fun_mk (st := s_law_wish) l20 c20 k20
  have b_law_wish := F_law_wish.binds (ps := ["_law_flow_here", "_law_letters_here", "_law_room", "_law_deep", "_law_most"]) fun _ _ _ _ _ _ us hl => match us, hl with | [_, _, _, _, _], _ => rfl
  have m_law_wish := PySem.W.mg_of X G a20
  have F_law_any_wish := fun_mk (st := s_law_any_wish) l21 c21 k21
  have b_law_any_wish := F_law_any_wish.binds (ps := ["_law_flow_here", "_law_letters_here"]) fun _ _ _ _ _ _ us hl => match us, hl with | [_, _], _ => rfl
  have m_law_any_wish := PySem.W.mg_of X G a21
  have F_law_some_letters := fun_mk (st := s_law_some_letters) l22 c22 k22
  have b_law_some_letters := F_law_some_letters.binds (ps := ["_law_flow_here"]) fun _ _ _ _ _ _ us hl => match us, hl with | [_], _ => rfl
  have m_law_some_letters := PySem.W.mg_of X G a22
  have F_law_text := fun_mk (st := s_law_text) l23 c23 k23
  have b_law_text := F_law_text.binds (ps := ["_law_flow_here", "_law_letters_here", "_law_most"]) fun _ _ _ _ _ _ us hl => match us, hl with | [_, _, _], _ => rfl
  have m_law_text := PySem.W.mg_of X G a23
  have F_law_about := fun_mk (st := s_law_about) l24 c24 k24
  have b_law_about := F_law_about.binds (ps := ["_law_text_here"]) fun _ _ _ _ _ _ us hl => match us, hl with | [_], _ => rfl
  have m_law_about := PySem.W.mg_of X G a24
  have F_law_gone_right := fun_mk (st := s_law_gone_right) l25 c25 k25
  have b_law_gone_right := F_law_gone_right.binds (ps := ["_law_wish_here", "_law_text_here"]) fun _ _ _ _ _ _ us hl => match us, hl with | [_, _], _ => rfl
  have m_law_gone_right := PySem.W.mg_of X G a25
  have F_law_letter_right := fun_mk (st := s_law_letter_right) l26 c26 k26
  have b_law_letter_right := F_law_letter_right.binds (ps := ["_law_wish_here", "_law_letter", "_law_other"]) fun _ _ _ _ _ _ us hl => match us, hl with | [_, _, _], _ => rfl
  have m_law_letter_right := PySem.W.mg_of X G a26
  have F_law := fun_mk (st := s_law) l27 c27 k27
  have b_law := F_law.binds (ps := ["_law_script"]) fun _ _ _ _ _ _ us hl => match us, hl with | [_], _ => rfl
  have m_law := PySem.W.mg_of X G a27
  have Z : Blt mg := ⟨PySem.W.mg_none_of X G z_int, PySem.W.mg_none_of X G z_len, PySem.W.mg_none_of X G z_list, PySem.W.mg_none_of X G z_max, PySem.W.mg_none_of X G z_range, PySem.W.mg_none_of X G z_reversed, PySem.W.mg_none_of X G z_set, PySem.W.mg_none_of X G z_sorted, PySem.W.mg_none_of X G z_tuple⟩
  have t_wish_behind := tabIn_of a13 l13 y_wish_behind v_wish_behind u_wish_behind
  have TA_wish_behind := TT _ _ _ _ w_wish_behind t_wish_behind
  have t_wish_ahead := tabIn_of a14 l14 y_wish_ahead v_wish_ahead u_wish_ahead
  have TA_wish_ahead := TT _ _ _ _ w_wish_ahead t_wish_ahead
  have t_wish_turned := tabIn_of a15 l15 y_wish_turned v_wish_turned u_wish_turned
  have TA_wish_turned := TT _ _ _ _ w_wish_turned t_wish_turned
  refine ⟨n0, PySem.W.fnOf "law" "law" (defArgs s_law) (defBody s_law) (defScope s_law) .none kV27 dc27 pm27 an27 cd27 ct27, [(c_wish_behind, P_wish_behind), (c_wish_ahead, P_wish_ahead), (c_wish_turned, P_wish_turned)], ?_, fun s v => .of_eq rfl, fun base BX BG BM => ?_⟩
  · exact List.forall_mem_cons.mpr ⟨TA_wish_behind, List.forall_mem_cons.mpr ⟨TA_wish_ahead, List.forall_mem_cons.mpr ⟨TA_wish_turned, fun _ h => nomatch h⟩⟩⟩
  have CH_wish_behind := head_of TA_wish_behind.1 X BX v_wish_behind
  have h_wish_behind := PySem.W.law_code X G t_wish_behind m_wish_behind (X _ _ l13) rfl
  have CH_wish_ahead := head_of TA_wish_ahead.1 X BX v_wish_ahead
  have h_wish_ahead := PySem.W.law_code X G t_wish_ahead m_wish_ahead (X _ _ l14) rfl
  have CH_wish_turned := head_of TA_wish_turned.1 X BX v_wish_turned
  have h_wish_turned := PySem.W.law_code X G t_wish_turned m_wish_turned (X _ _ l15) rfl
  have c_INNER := PySem.W.mg_of X G q_INNER
  have dI : DKn l.prog w K aI inKvs := let ⟨vs, a, b⟩ := d_INNER; ⟨oI, vs, f_INNER, a, b⟩
  have C_law_pick : Cal l.prog w K mg base "_law_pick" 1 _ spPick := ⟨_, _, ok_law_pick F_law_pick Z, m_law_pick, F_law_pick.kp, b_law_pick⟩
  have C_law_flow : Cal l.prog w K mg base "_law_flow" 1 _ (spFlow K) := ⟨_, _, ok_law_flow F_law_flow Z, m_law_flow, F_law_flow.kp, b_law_flow⟩
  have C_law_letters : Cal l.prog w K mg base "_law_letters" 2 _ spLetters := ⟨_, _, ok_law_letters F_law_letters Z C_law_pick, m_law_letters, F_law_letters.kp, b_law_letters⟩
  have C_inner_wishes : Cal l.prog w K mg base "inner_wishes" 1 _ spInner := ⟨_, _, ok_inner_wishes F_inner_wishes Z c_INNER dI, m_inner_wishes, F_inner_wishes.kp, b_inner_wishes⟩
  have C_heads_in : Cal l.prog w K mg base "heads_in" 2 _ spHeads := ⟨_, _, ok_heads_in F_heads_in Z C_inner_wishes, m_heads_in, F_heads_in.kp, b_heads_in⟩
  have CW : ∀ base, Cal l.prog w K mg base "with_words" 5 _ (spWW l.prog w K mg base 2) := fun base =>
    have C_inner_wishes : Cal l.prog w K mg base "inner_wishes" 1 _ spInner := ⟨_, _, ok_inner_wishes F_inner_wishes Z c_INNER dI, m_inner_wishes, F_inner_wishes.kp, b_inner_wishes⟩
    have C_heads_in : Cal l.prog w K mg base "heads_in" 2 _ spHeads := ⟨_, _, ok_heads_in F_heads_in Z C_inner_wishes, m_heads_in, F_heads_in.kp, b_heads_in⟩
    have C_wish_from : Cal l.prog w K mg base "wish_from" 1 _ spWishFrom := ⟨_, _, ok_wish_from F_wish_from Z c_INNER dI, m_wish_from, F_wish_from.kp, b_wish_from⟩
    ⟨_, _, ok_with_words F_with_words Z C_heads_in C_wish_from, m_with_words, F_with_words.kp, b_with_words⟩
  have CF : ∀ base, Cal l.prog w K mg base "without_first" 1 _ spWf := fun base => ⟨_, _, ok_without_first F_without_first Z, m_without_first, F_without_first.kp, b_without_first⟩
  have CL : ∀ base, Cal l.prog w K mg base "without_last" 1 _ spWl := fun base => ⟨_, _, ok_without_last F_without_last Z, m_without_last, F_without_last.kp, b_without_last⟩
  have C_wish_behind : Cal l.prog w K mg base "wish_behind" 6 _ (spMv P_wish_behind P_wish_ahead P_wish_turned wf) := ⟨_, _, (ok_wish_behind F_wish_behind Z h_wish_behind CH_wish_behind BM CW CF).imp fun _ _ _ _ h => mv_b x_wish_behind_wish_ahead x_wish_behind_wish_turned h, m_wish_behind, F_wish_behind.kp, b_wish_behind⟩
  have C_wish_ahead : Cal l.prog w K mg base "wish_ahead" 6 _ (spMv P_wish_behind P_wish_ahead P_wish_turned wl) := ⟨_, _, (ok_wish_ahead F_wish_ahead Z h_wish_ahead CH_wish_ahead BM CW CL).imp fun _ _ _ _ h => mv_a x_wish_behind_wish_ahead x_wish_ahead_wish_turned h, m_wish_ahead, F_wish_ahead.kp, b_wish_ahead⟩
  have CW1 : Cal l.prog w K mg base "with_words" 4 _ (spWW l.prog w K mg base 1) := ⟨_, _, ok_with_words F_with_words Z C_heads_in ⟨_, _, ok_wish_from F_wish_from Z c_INNER dI, m_wish_from, F_wish_from.kp, b_wish_from⟩, m_with_words, F_with_words.kp, b_with_words⟩
  have C_wish_turned : Cal l.prog w K mg base "wish_turned" 6 _ (spTn P_wish_behind P_wish_ahead P_wish_turned) := ⟨_, _, ((ok_wish_turned F_wish_turned Z h_wish_turned CH_wish_turned BM CW1).imp fun _ _ _ _ h => mv_t x_wish_behind_wish_turned x_wish_ahead_wish_turned h).mono (by decide), m_wish_turned, F_wish_turned.kp, b_wish_turned⟩
  have C_law_wish : Cal l.prog w K mg base "_law_wish" 7 _ (spWish 6) := ⟨_, _, ok_law_wish F_law_wish b_law_wish m_law_wish Z C_law_pick 6, m_law_wish, F_law_wish.kp, b_law_wish⟩
  have C_law_any_wish : Cal l.prog w K mg base "_law_any_wish" 8 _ spAnyW := ⟨_, _, ok_law_any_wish F_law_any_wish Z C_law_pick C_law_wish, m_law_any_wish, F_law_any_wish.kp, b_law_any_wish⟩
  have C_words_in : Cal l.prog w K mg base "words_in" 3 _ spWordsIn := ⟨_, _, ok_words_in F_words_in Z C_heads_in, m_words_in, F_words_in.kp, b_words_in⟩
  have C_law_some_letters : Cal l.prog w K mg base "_law_some_letters" 3 _ spSomeL := ⟨_, _, ok_law_some_letters F_law_some_letters Z C_law_pick C_law_letters, m_law_some_letters, F_law_some_letters.kp, b_law_some_letters⟩
  have C_law_word : Cal l.prog w K mg base "_law_word" 2 _ spWord := ⟨_, _, ok_law_word F_law_word Z C_law_pick, m_law_word, F_law_word.kp, b_law_word⟩
  have C_left_behind : Cal l.prog w K mg base "left_behind" 1 _ spLB := ⟨_, _, ok_left_behind F_left_behind Z, m_left_behind, F_left_behind.kp, b_left_behind⟩
  have C_places : Cal l.prog w K mg base "places" 2 _ spPlaces := ⟨_, _, ok_places F_places Z C_left_behind, m_places, F_places.kp, b_places⟩
  have C_spread_in : Cal l.prog w K mg base "spread_in" 3 _ spSpreadIn := ⟨_, _, ok_spread_in F_spread_in Z C_places, m_spread_in, F_spread_in.kp, b_spread_in⟩
  have C_truth : Cal l.prog w K mg base "truth" 1 _ spTruth := ⟨_, _, ok_truth F_truth Z, m_truth, F_truth.kp, b_truth⟩
  have C_holds : Cal l.prog w K mg base "holds" 4 _ spHolds := ⟨_, _, ok_holds F_holds Z C_heads_in C_words_in C_spread_in C_truth, m_holds, F_holds.kp, b_holds⟩
  have C_law_text : Cal l.prog w K mg base "_law_text" 3 _ spText := ⟨_, _, ok_law_text F_law_text Z C_law_pick C_law_word, m_law_text, F_law_text.kp, b_law_text⟩
  have C_law_about : Cal l.prog w K mg base "_law_about" 1 _ spAbout := ⟨_, _, ok_law_about F_law_about Z, m_law_about, F_law_about.kp, b_law_about⟩
  have C_law_gone_right : Cal l.prog w K mg base "_law_gone_right" 7 _ (spGone P_wish_behind P_wish_ahead P_wish_turned) := ⟨_, _, ok_law_gone_right F_law_gone_right Z C_holds C_wish_behind C_wish_ahead C_wish_turned C_law_about, m_law_gone_right, F_law_gone_right.kp, b_law_gone_right⟩
  have C_law_letter_right : Cal l.prog w K mg base "_law_letter_right" 7 _ (spLetterR P_wish_behind P_wish_ahead P_wish_turned) := ⟨_, _, ok_law_letter_right F_law_letter_right Z C_words_in C_wish_behind C_wish_ahead C_wish_turned, m_law_letter_right, F_law_letter_right.kp, b_law_letter_right⟩
  exact ok_law F_law Z C_law_flow C_law_pick C_law_some_letters C_law_any_wish C_law_text C_law_gone_right C_law_letter_right
theorem walk {l : PySem.W.OpenLaw} {q : Program} {loose : List Str} {XP : (Str → Option Value) → Heap → Prop} {YP : World → Heap → Prop} {d : DefRec} {K : Params → PySem.W.Frag} (hn : l.most = some 63) (hdf : d.params.defaults = [])
    (hY : ∀ (w : World) (h : Heap), YP w h → (K w.params).In h)
    (F : ∀ (w : World) (mg : Str → Option Value) (fa : Addr) (h : Heap), (K w.params).In h → h.Ns mainGlobals mg → mg d.name = some (.ref fa) → TabTop q (K w.params) h →
      PySem.W.noTabs (K w.params) = true ∧ ∃ (fd : FuncData) (tabs : List (Addr × Addr)), PySem.W.TabsAt tabs h ∧ (∀ (s : Shared) (u : Value), BindsTo s fd ⟨[u], []⟩ [("_law_script", u)]) ∧ ∀ base : Heap, (K w.params).In base → base.Ns mainGlobals mg → BltM mg base → FnOk l.prog w (K w.params) mg base CX0 9 fa fd ["_law_script"] (spLawT (K w.params) tabs)) :
    PySem.W.WalkO q loose XP YP l.row.toRowW d [] (fun f vs => PySem.call f vs) :=
  L2.walk_ofT (n := 63) (k := 9) (x := "_law_script") (CX := fun _ => CX0) (sp := fun w tabs => spLawT (K w.params) tabs) hn (by decide) hdf ⟨rfl, by decide, by decide⟩ hY F (fun _ _ _ a ns hl hT hS => ⟨a, ns, rfl, hS, hl, hT, fun _ => rfl⟩) fun _ _ _ _ _ z => z
end My
open PySem PySem.W PyProof.Rows
set_option maxRecDepth 100000 in
set_option maxHeartbeats 0 in
theorem PySem.Challenge.cw_spreadwords_k34_whole_wishes_moved_holds : PySem.Challenge.rw_spreadwords_k34_whole_wishes_moved.Holds := by
  w_on; o_law; k_head; (case hw => w_witness2)
  k_fill
  refine My.walk (l := PySem.Challenge.rw_spreadwords_k34_whole_wishes_moved) rfl rfl (fun w h Y => PySem.W.km_in_of Y) ?F
  case F =>
    intro w mg fa h KX G hmg TT
    refine' My.all_mk KX G hmg TT ?a1 ?l1 ?c1 ?k1 ?a2 ?l2 ?c2 ?k2 ?a3 ?l3 ?c3 ?k3 ?a4 ?l4 ?c4 ?k4 ?a5 ?l5 ?c5 ?k5 ?a6 ?l6 ?c6 ?k6 ?a7 ?l7 ?c7 ?k7 ?a8 ?l8 ?c8 ?k8 ?a9 ?l9 ?c9 ?k9 ?a10 ?l10 ?c10 ?k10 ?a11 ?l11 ?c11 ?k11 ?a12 ?l12 ?c12 ?k12 ?a13 ?l13 ?c13 ?k13 ?a14 ?l14 ?c14 ?k14 ?a15 ?l15 ?c15 ?k15 ?a16 ?l16 ?c16 ?k16 ?a17 ?l17 ?c17 ?k17 ?a18 ?l18 ?c18 ?k18 ?a19 ?l19 ?c19 ?k19 ?a20 ?l20 ?c20 ?k20 ?a21 ?l21 ?c21 ?k21 ?a22 ?l22 ?c22 ?k22 ?a23 ?l23 ?c23 ?k23 ?a24 ?l24 ?c24 ?k24 ?a25 ?l25 ?c25 ?k25 ?a26 ?l26 ?c26 ?k26 ?a27 ?l27 ?c27 ?k27 ?z_int ?z_len ?z_list ?z_max ?z_range ?z_reversed ?z_set ?z_sorted ?z_tuple ?q_INNER ?f_INNER ?d_INNER ?n0 ?y_wish_behind ?v_wish_behind ?u_wish_behind ?w_wish_behind ?y_wish_ahead ?v_wish_ahead ?u_wish_ahead ?w_wish_ahead ?y_wish_turned ?v_wish_turned ?u_wish_turned ?w_wish_turned ?x_wish_behind_wish_ahead ?x_wish_behind_wish_turned ?x_wish_ahead_wish_turned
    (case a1 => k_is)
    (case l1 => k_is)
    (case c1 => k_is)
    (case k1 => k_is)
    (case a2 => k_is)
    (case l2 => k_is)
    (case c2 => k_is)
    (case k2 => k_is)
    (case a3 => k_is)
    (case l3 => k_is)
    (case c3 => k_is)
    (case k3 => k_is)
    (case a4 => k_is)
    (case l4 => k_is)
    (case c4 => k_is)
    (case k4 => k_is)
    (case a5 => k_is)
    (case l5 => k_is)
    (case c5 => k_is)
    (case k5 => k_is)
    (case a6 => k_is)
    (case l6 => k_is)
    (case c6 => k_is)
    (case k6 => k_is)
    (case a7 => k_is)
    (case l7 => k_is)
    (case c7 => k_is)
    (case k7 => k_is)
    (case a8 => k_is)
    (case l8 => k_is)
    (case c8 => k_is)
    (case k8 => k_is)
    (case a9 => k_is)
    (case l9 => k_is)
    (case c9 => k_is)
    (case k9 => k_is)
    (case a10 => k_is)
    (case l10 => k_is)
    (case c10 => k_is)
    (case k10 => k_is)
    (case a11 => k_is)
    (case l11 => k_is)
    (case c11 => k_is)
    (case k11 => k_is)
    (case a12 => k_is)
    (case l12 => k_is)
    (case c12 => k_is)
    (case k12 => k_is)
    (case a13 => k_is)
    (case l13 => k_is)
    (case c13 => k_is)
    (case k13 => k_is)
    (case a14 => k_is)
    (case l14 => k_is)
    (case c14 => k_is)
    (case k14 => k_is)
    (case a15 => k_is)
    (case l15 => k_is)
    (case c15 => k_is)
    (case k15 => k_is)
    (case a16 => k_is)
    (case l16 => k_is)
    (case c16 => k_is)
    (case k16 => k_is)
    (case a17 => k_is)
    (case l17 => k_is)
    (case c17 => k_is)
    (case k17 => k_is)
    (case a18 => k_is)
    (case l18 => k_is)
    (case c18 => k_is)
    (case k18 => k_is)
    (case a19 => k_is)
    (case l19 => k_is)
    (case c19 => k_is)
    (case k19 => k_is)
    (case a20 => k_is)
    (case l20 => k_is)
    (case c20 => k_is)
    (case k20 => k_is)
    (case a21 => k_is)
    (case l21 => k_is)
    (case c21 => k_is)
    (case k21 => k_is)
    (case a22 => k_is)
    (case l22 => k_is)
    (case c22 => k_is)
    (case k22 => k_is)
    (case a23 => k_is)
    (case l23 => k_is)
    (case c23 => k_is)
    (case k23 => k_is)
    (case a24 => k_is)
    (case l24 => k_is)
    (case c24 => k_is)
    (case k24 => k_is)
    (case a25 => k_is)
    (case l25 => k_is)
    (case c25 => k_is)
    (case k25 => k_is)
    (case a26 => k_is)
    (case l26 => k_is)
    (case c26 => k_is)
    (case k26 => k_is)
    (case a27 => k_is)
    (case l27 => k_is)
    (case c27 => k_is)
    (case k27 => k_is)
    (case z_int => k_is)
    (case z_len => k_is)
    (case z_list => k_is)
    (case z_max => k_is)
    (case z_range => k_is)
    (case z_reversed => k_is)
    (case z_set => k_is)
    (case z_sorted => k_is)
    (case z_tuple => k_is)
    (case q_INNER => k_is)
    (case f_INNER => with_unfolding_all rfl)
    (case d_INNER => exact My.dict_const _ _ _ [("always", _, 0, _), ("never", _, 0, _), ("has", _, 0, _), ("not", _, 1, _), ("and", _, 2, _), ("or", _, 2, _)] (by decide +kernel))
    (case n0 => kernel_rfl)
    (case y_wish_behind => exact rfl)
    (case v_wish_behind => k_is)
    (case u_wish_behind => exact rfl)
    (case w_wish_behind => exact rfl)
    (case y_wish_ahead => exact rfl)
    (case v_wish_ahead => k_is)
    (case u_wish_ahead => exact rfl)
    (case w_wish_ahead => exact rfl)
    (case y_wish_turned => exact rfl)
    (case v_wish_turned => k_is)
    (case u_wish_turned => exact rfl)
    (case w_wish_turned => exact rfl)
    (case x_wish_behind_wish_ahead => decide)
    (case x_wish_behind_wish_turned => decide)
    (case x_wish_ahead_wish_turned => decide)
