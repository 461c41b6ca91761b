import Derived.Test.YtjcdjkfnmobhkaaGreatBc
import Derived.Lib.Strings
import Derived.DeepKeys4
import Derived.StringKeys
import Derived.Maps.RangeWalk
/- A queue at the beginning of a greater block. -/
namespace Go.Proofs.YtjcdjkfnmobhkaaGreat
open Go.RowKit Go.Shelf Go.Lib
/-- The function that tells the order, and what lies behind the queue's own four cells in its block. -/
structure NB where
  n : Nat
  X : Nat → Option Value
  f : Value := .func (.func n) #[] #[]
abbrev NB.z (b : NB) : NB := ⟨b.n, fun _ => none, b.f⟩
def Xt (w : World) (q : Nat) (X : Nat → Option Value) : Prop := (∀ j, 4 ≤ j → w.cell? ⟨q, j, none⟩ = X j) ∧ ∀ j, 4 ≤ j → w.frozen? ⟨q, j, none⟩ = false
theorem Xt.mv {E : Nat → Prop} {w V : World} {q : Nat} {X : Nat → Option Value} (h : Xt w q X) (m : Mv E w V) (hq : ¬ E q) (lq : q < w.heap.size) : Xt V q X := ⟨fun j hj => (World.cell?_of_block (m.block q lq hq)).trans (h.1 j hj), fun j hj => by have := h.2 j hj; unfold World.frozen? at this ⊢; rw [m.block q lq hq]; exact this⟩
theorem Xt.cv {S : Nat → Nat → Prop} {w V : World} {q : Nat} {X : Nat → Option Value} (h : Xt w q X) (m : Cv S w V) (hq : ∀ j, 4 ≤ j → ¬ S q j) (lq : q < w.heap.size) : Xt V q X := ⟨fun j hj => (m.ce q j lq (hq j hj)).trans (h.1 j hj), fun j hj => (m.fr q j lq).trans (h.2 j hj)⟩
theorem cell_new_none {W : World} {cs : Array Value} {t : TypeId} {n j : Nat} (hn : W.heap.size = n) (hj : cs.size ≤ j) : (W.alloc (.cells cs t)).cell? ⟨n, j, none⟩ = none := by
  subst hn
  have := heap_alloc_new W (.cells cs t)
  unfold World.cell?
  rw [this]
  simp [hj]
end Go.Proofs.YtjcdjkfnmobhkaaGreat
/- Events that wait and timers, as they are ordered: a key each. -/
namespace Go.Proofs.YtjcdjkfnmobhkaaGreat
/-- A text of at most n bytes as a number: its order is theirs. -/
def enc : Nat → List UInt8 → Nat
  | 0, _ => 0
  | _ + 1, [] => 0
  | n + 1, b :: l => (b.toNat + 1) * 257 ^ n + enc n l
theorem enc_lt : ∀ (n : Nat) (l : List UInt8), enc n l < 257 ^ n
  | 0, l => by simp [enc]
  | n + 1, [] => by simp only [enc]; exact Nat.pow_pos (by decide)
  | n + 1, b :: l => by
    have h1 := enc_lt n l
    have h2 := b.toNat_lt
    rw [enc, Nat.pow_succ]
    generalize 257 ^ n = P at *
    have h3 : (b.toNat + 1) * P ≤ 256 * P := Nat.mul_le_mul_right _ (by omega)
    omega
theorem enc_less : ∀ (n : Nat) (a b : List UInt8), a.length ≤ n → b.length ≤ n → (enc n a < enc n b ↔ Op.bytesLess a b = true) ∧ (enc n a = enc n b ↔ a = b)
  | 0, a, b, ha, hb => by
    have : a = [] := List.eq_nil_of_length_eq_zero (by omega)
    subst this
    have : b = [] := List.eq_nil_of_length_eq_zero (by omega)
    subst this
    simp [enc, Op.bytesLess]
  | n + 1, [], [], _, _ => by simp [enc, Op.bytesLess]
  | n + 1, [], b :: m, _, _ => by
    have hp : 0 < 257 ^ n := Nat.pow_pos (by decide)
    have : 0 < (b.toNat + 1) * 257 ^ n := Nat.mul_pos (by omega) hp
    simp only [enc, Op.bytesLess]
    refine ⟨⟨fun _ => trivial, fun _ => by omega⟩, ⟨fun h => by omega, fun h => by cases h⟩⟩
  | n + 1, a :: l, [], _, _ => by
    have hp : 0 < 257 ^ n := Nat.pow_pos (by decide)
    have : 0 < (a.toNat + 1) * 257 ^ n := Nat.mul_pos (by omega) hp
    simp only [enc, Op.bytesLess]
    refine ⟨⟨fun h => by omega, fun h => by cases h⟩, ⟨fun h => by omega, fun h => by cases h⟩⟩
  | n + 1, a :: l, b :: m, ha, hb => by
    obtain ⟨i1, i2⟩ := enc_less n l m (by simpa using ha) (by simpa using hb)
    have l1 := enc_lt n l
    have l2 := enc_lt n m
    simp only [enc, Op.bytesLess]
    generalize 257 ^ n = P at *
    rcases Nat.lt_trichotomy a.toNat b.toNat with h | h | h
    · have h3 : (a.toNat + 1 + 1) * P ≤ (b.toNat + 1) * P := Nat.mul_le_mul_right _ (by omega)
      rw [Nat.add_mul (a.toNat + 1) 1 P, Nat.one_mul] at h3
      have hl : a < b := UInt8.lt_iff_toNat_lt.2 h
      refine ⟨⟨fun _ => by simp [hl], fun _ => by omega⟩, ⟨fun e => by omega, fun e => ?_⟩⟩
      injection e with e _
      rw [e] at h; omega
    · have e : a = b := UInt8.toNat_inj.1 h
      subst e
      have hn : ¬ a < a := fun z => by have := UInt8.lt_iff_toNat_lt.1 z; omega
      refine ⟨⟨fun z => ?_, fun z => ?_⟩, ⟨fun z => ?_, fun z => ?_⟩⟩
      · simp [i1.1 (by omega)]
      · have : Op.bytesLess l m = true := by simpa [hn] using z
        have := i1.2 this
        omega
      · rw [i2.1 (by omega)]
      · injection z with _ z
        rw [z]
    · have h3 : (b.toNat + 1 + 1) * P ≤ (a.toNat + 1) * P := Nat.mul_le_mul_right _ (by omega)
      rw [Nat.add_mul (b.toNat + 1) 1 P, Nat.one_mul] at h3
      have hl : ¬ a < b := fun z => by have := UInt8.lt_iff_toNat_lt.1 z; omega
      have hne : a ≠ b := fun e => by rw [e] at h; omega
      refine ⟨⟨fun z => by omega, fun z => by simp [hl, hne] at z⟩, ⟨fun e => by omega, fun e => ?_⟩⟩
      injection e with e _
      exact absurd e hne
/-- A timer that is due: its unit, which one, when (texts of at most 300 bytes). -/
structure Du where
  u : ByteArray
  w : ByteArray
  t : Int
  hu : u.toList.length ≤ 300
  hw : w.toList.length ≤ 300
def cap300 : Nat := 300
def encU (s : ByteArray) : Int := (enc cap300 s.toList : Nat)
def P300 : Int := ((257 ^ cap300 : Nat) : Int)
theorem encU_lo (s : ByteArray) : 0 ≤ encU s := by unfold encU; omega
theorem encU_hi (s : ByteArray) : encU s < P300 := by
  unfold encU P300
  have := enc_lt cap300 s.toList
  generalize 257 ^ cap300 = P at *
  omega
theorem ba_ext {a b : ByteArray} (h : a.toList = b.toList) : a = b := by
  rw [Go.Lib.toList_data, Go.Lib.toList_data] at h
  exact ByteArray.ext (Array.toList_inj.1 h)
theorem encU_less {a b : ByteArray} (ha : a.toList.length ≤ 300) (hb : b.toList.length ≤ 300) : (encU a < encU b ↔ Op.bytesLess a.toList b.toList = true) ∧ (encU a = encU b ↔ a = b) := by
  have h := enc_less cap300 _ _ ha hb
  unfold encU
  refine ⟨⟨fun z => h.1.1 (by omega), fun z => by have := h.1.2 z; omega⟩, ⟨fun z => ba_ext (h.2.1 (by omega)), fun z => by rw [z]⟩⟩
theorem pair_less {P a b x y : Int} (hP : 0 < P) (hx : 0 ≤ x ∧ x < P) (hy : 0 ≤ y ∧ y < P) : (a * P + x < b * P + y ↔ (a < b ∨ a = b ∧ x < y)) := by
  rcases Int.lt_trichotomy a b with h | h | h
  · have h1 : (a + 1) * P ≤ b * P := Int.mul_le_mul_of_nonneg_right (by omega) (by omega)
    rw [Int.add_mul, Int.one_mul] at h1
    exact ⟨fun _ => .inl h, fun _ => by omega⟩
  · subst h
    exact ⟨fun z => .inr ⟨rfl, by omega⟩, fun z => by rcases z with z | z <;> omega⟩
  · have h1 : (b + 1) * P ≤ a * P := Int.mul_le_mul_of_nonneg_right (by omega) (by omega)
    rw [Int.add_mul, Int.one_mul] at h1
    exact ⟨fun z => by omega, fun z => by rcases z with z | z <;> omega⟩
theorem P300_pos : 0 < P300 := by
  unfold P300
  have : 0 < 257 ^ cap300 := Nat.pow_pos (by decide)
  generalize 257 ^ cap300 = P at *
  omega
def keyD (x : Du) : Int := (x.t * P300 + encU x.u) * P300 + encU x.w
theorem keyD_less (a b : Du) : keyD a < keyD b ↔ (a.t < b.t ∨ a.t = b.t ∧ (Op.bytesLess a.u.toList b.u.toList = true ∨ a.u = b.u ∧ Op.bytesLess a.w.toList b.w.toList = true)) := by
  unfold keyD
  rw [pair_less P300_pos ⟨encU_lo _, encU_hi _⟩ ⟨encU_lo _, encU_hi _⟩]
  have h1 := @pair_less P300 a.t b.t (encU a.u) (encU b.u) P300_pos ⟨encU_lo _, encU_hi _⟩ ⟨encU_lo _, encU_hi _⟩
  have h2 := @pair_less P300 b.t a.t (encU b.u) (encU a.u) P300_pos ⟨encU_lo _, encU_hi _⟩ ⟨encU_lo _, encU_hi _⟩
  have eu := encU_less a.hu b.hu
  have ew := encU_less a.hw b.hw
  constructor
  · rintro (h | ⟨h, h'⟩)
    · rcases h1.1 h with z | ⟨z, z'⟩
      · exact .inl z
      · exact .inr ⟨z, .inl (eu.1.1 z')⟩
    · have n1 : ¬ (a.t < b.t ∨ a.t = b.t ∧ encU a.u < encU b.u) := fun z => by have := h1.2 z; omega
      have n2 : ¬ (b.t < a.t ∨ b.t = a.t ∧ encU b.u < encU a.u) := fun z => by have := h2.2 z; omega
      have et : a.t = b.t := by omega
      exact .inr ⟨et, .inr ⟨eu.2.1 (by omega), ew.1.1 h'⟩⟩
  · rintro (h | ⟨h, h' | ⟨h', h''⟩⟩)
    · exact .inl (h1.2 (.inl h))
    · exact .inl (h1.2 (.inr ⟨h, eu.1.2 h'⟩))
    · exact .inr ⟨by rw [h, h'], ew.1.2 h''⟩
def Du.zero : Du := ⟨⟨#[]⟩, ⟨#[]⟩, 0, by rw [Go.Lib.toList_data]; decide, by rw [Go.Lib.toList_data]; decide⟩
/-- An event that waits: kind, pid, status, unit, text; its turn. -/
structure Wt where
  k : Int
  p : Int
  s : Int
  u : ByteArray
  x : ByteArray
  n : Int
  hn : 0 ≤ n ∧ n < 9223372036854775808
def Wt.zero : Wt := ⟨0, 0, 0, ⟨#[]⟩, ⟨#[]⟩, 0, by decide⟩
/-- Of turns that are numbers of 63 bits. -/
def keyW (x : Wt) : Int := x.k * 9223372036854775808 + x.n
theorem keyW_less (a b : Wt) : keyW a < keyW b ↔ (a.k < b.k ∨ a.k = b.k ∧ a.n < b.n) := pair_less (by decide) a.hn b.hn
end Go.Proofs.YtjcdjkfnmobhkaaGreat
/- Timers that are set, plainly: a row by when, unit, which. -/
namespace Go.Proofs.YtjcdjkfnmobhkaaGreat
/-- Whose timer, and which one. -/
abbrev TK := { p : ByteArray × ByteArray // p.1.toList.length ≤ 300 ∧ p.2.toList.length ≤ 300 }
def Du.k (d : Du) : TK := ⟨(d.u, d.w), d.hu, d.hw⟩
def mkD (k : TK) (t : Int) : Du := ⟨k.1.1, k.1.2, t, k.2.1, k.2.2⟩
theorem mkD_k (k : TK) (t : Int) : (mkD k t).k = k := rfl
theorem Du.eta (d : Du) : mkD d.k d.t = d := rfl
theorem Du.same {a b : Du} (h : a.k = b.k) (ht : a.t = b.t) : a = b := by
  rw [← a.eta, ← b.eta, h, ht]
theorem keyD_inj {a b : Du} (h : keyD a = keyD b) : a = b := by
  have h1 := keyD_less a b
  have h2 := keyD_less b a
  have eu := encU_less a.hu b.hu
  have ew := encU_less a.hw b.hw
  unfold keyD at h
  have n1 := encU_lo a.w
  have n2 := encU_hi a.w
  have n3 := encU_lo b.w
  have n4 := encU_hi b.w
  have m1 := encU_lo a.u
  have m2 := encU_hi a.u
  have m3 := encU_lo b.u
  have m4 := encU_hi b.u
  have q1 := @pair_less P300 (a.t * P300 + encU a.u) (b.t * P300 + encU b.u) (encU a.w) (encU b.w) P300_pos ⟨n1, n2⟩ ⟨n3, n4⟩
  have q2 := @pair_less P300 (b.t * P300 + encU b.u) (a.t * P300 + encU a.u) (encU b.w) (encU a.w) P300_pos ⟨n3, n4⟩ ⟨n1, n2⟩
  have r1 := @pair_less P300 a.t b.t (encU a.u) (encU b.u) P300_pos ⟨m1, m2⟩ ⟨m3, m4⟩
  have r2 := @pair_less P300 b.t a.t (encU b.u) (encU a.u) P300_pos ⟨m3, m4⟩ ⟨m1, m2⟩
  have e1 : a.t * P300 + encU a.u = b.t * P300 + encU b.u := by
    have x1 : ¬ (a.t * P300 + encU a.u < b.t * P300 + encU b.u) := fun z => by have := q1.2 (.inl z); omega
    have x2 : ¬ (b.t * P300 + encU b.u < a.t * P300 + encU a.u) := fun z => by have := q2.2 (.inl z); omega
    omega
  have e2 : encU a.w = encU b.w := by
    rw [e1] at h; omega
  have e3 : a.t = b.t := by
    have x1 : ¬ a.t < b.t := fun z => by have := r1.2 (.inl z); omega
    have x2 : ¬ b.t < a.t := fun z => by have := r2.2 (.inl z); omega
    omega
  have e4 : encU a.u = encU b.u := by rw [e3] at e1; omega
  have e5 := eu.2.1 e4
  have e6 := ew.2.1 e2
  refine Du.same (Subtype.ext ?_) e3
  show (a.u, a.w) = (b.u, b.w)
  rw [e5, e6]
theorem insA_mem {α : Type} (key : α → Int) (v y : α) : ∀ L : List α, y ∈ insA key v L ↔ (y = v ∨ y ∈ L)
  | [] => by simp [insA]
  | z :: L => by
    unfold insA
    split
    · simp
    · rw [List.mem_cons, insA_mem key v y L, List.mem_cons]
      constructor
      · rintro (h | h | h)
        · exact .inr (.inl h)
        · exact .inl h
        · exact .inr (.inr h)
      · rintro (h | h | h)
        · exact .inr (.inl h)
        · exact .inl h
        · exact .inr (.inr h)
theorem insA_perm {α : Type} (key : α → Int) (v : α) : ∀ L : List α, (insA key v L).Perm (v :: L)
  | [] => List.Perm.refl _
  | y :: L => by
    unfold insA
    split
    · exact List.Perm.refl _
    · exact ((insA_perm key v L).cons y).trans (List.Perm.swap ..)
/-- Rising strictly. -/
def So {α : Type} (key : α → Int) (L : List α) : Prop := L.Pairwise fun a b => key a < key b
theorem So.ins {α : Type} {key : α → Int} {v : α} : ∀ {L : List α}, So key L → (∀ y ∈ L, key y ≠ key v) → So key (insA key v L)
  | [], _, _ => List.pairwise_singleton _ _
  | y :: L, h, hn => by
    obtain ⟨h1, h2⟩ := List.pairwise_cons.1 h
    unfold insA
    split
    · next e =>
      refine List.pairwise_cons.2 ⟨fun z hz => ?_, h⟩
      rcases List.mem_cons.1 hz with rfl | hz
      · exact e
      · have := h1 z hz; omega
    · next e =>
      refine List.pairwise_cons.2 ⟨fun z hz => ?_, So.ins h2 fun z hz => hn z (List.mem_cons_of_mem _ hz)⟩
      rcases (insA_mem key v z L).1 hz with rfl | hz
      · have := hn y (List.mem_cons_self ..)
        omega
      · exact h1 z hz
theorem So.filter {α : Type} {key : α → Int} {L : List α} (h : So key L) (p : α → Bool) : So key (L.filter p) := List.Pairwise.filter _ h
theorem So.eq {α : Type} {key : α → Int} : ∀ {L M : List α}, So key L → So key M → (∀ x, x ∈ L ↔ x ∈ M) → L = M
  | [], [], _, _, _ => rfl
  | [], y :: M, _, _, h => by have := (h y).2 (List.mem_cons_self ..); cases this
  | x :: L, [], _, _, h => by have := (h x).1 (List.mem_cons_self ..); cases this
  | x :: L, y :: M, hL, hM, h => by
    obtain ⟨l1, l2⟩ := List.pairwise_cons.1 hL
    obtain ⟨m1, m2⟩ := List.pairwise_cons.1 hM
    have e : x = y := by
      rcases List.mem_cons.1 ((h x).1 (List.mem_cons_self ..)) with e | e
      · exact e
      · rcases List.mem_cons.1 ((h y).2 (List.mem_cons_self ..)) with f | f
        · exact f.symm
        · have := m1 x e; have := l1 y f; omega
    subst e
    rw [So.eq l2 m2 fun z => ?_]
    constructor
    · intro hz
      rcases List.mem_cons.1 ((h z).1 (List.mem_cons_of_mem _ hz)) with e | e
      · subst e; have := l1 z hz; omega
      · exact e
    · intro hz
      rcases List.mem_cons.1 ((h z).2 (List.mem_cons_of_mem _ hz)) with e | e
      · subst e; have := m1 z hz; omega
      · exact e
/-- The timers that are set: rising, each of them once. -/
structure Ts (T : List Du) : Prop where
  so : So keyD T
  dk : T.Pairwise fun a b => a.k ≠ b.k
theorem Ts.nil : Ts [] := ⟨List.Pairwise.nil, List.Pairwise.nil⟩
theorem Ts.filter {T : List Du} (h : Ts T) (p : Du → Bool) : Ts (T.filter p) := ⟨h.so.filter p, List.Pairwise.filter _ h.dk⟩
theorem Du.pw : ∀ {T : List Du}, T.Pairwise (fun a b => a.k ≠ b.k) → ∀ {a b : Du}, a ∈ T → b ∈ T → a.k = b.k → a = b
  | x :: T, h, a, b, ha, hb, e => by
    obtain ⟨h1, h2⟩ := List.pairwise_cons.1 h
    rcases List.mem_cons.1 ha with p | ha
    · rcases List.mem_cons.1 hb with q | hb
      · rw [p, q]
      · exact absurd (p ▸ e) (h1 b hb)
    · rcases List.mem_cons.1 hb with q | hb
      · exact absurd (q ▸ e).symm (h1 a ha)
      · exact Du.pw h2 ha hb e
theorem Ts.one {T : List Du} (h : Ts T) {a b : Du} (ha : a ∈ T) (hb : b ∈ T) (e : a.k = b.k) : a = b := Du.pw h.dk ha hb e
def lk (T : List Du) (k : TK) : Option Int := (T.find? fun d => decide (d.k = k)).map (·.t)
theorem lk_none {T : List Du} {k : TK} (h : ∀ d ∈ T, d.k ≠ k) : lk T k = none := by
  unfold lk
  rw [List.find?_eq_none.2 (fun d hd => by simpa using h d hd)]; rfl
theorem lk_some {T : List Du} (h : Ts T) {d : Du} (hd : d ∈ T) : lk T d.k = some d.t := by
  unfold lk
  cases e : T.find? (fun x => decide (x.k = d.k)) with
  | none => have := List.find?_eq_none.1 e d hd; simp at this
  | some x =>
    have h1 := List.mem_of_find?_eq_some e
    have h2 := List.find?_some e
    rw [h.one h1 hd (by simpa using h2)]; rfl
def delT (k : TK) (T : List Du) : List Du := T.filter fun d => !decide (d.k = k)
def setT (k : TK) (t : Int) (T : List Du) : List Du := insA keyD (mkD k t) (delT k T)
theorem delT_mem {k : TK} {T : List Du} {d : Du} : d ∈ delT k T ↔ (d ∈ T ∧ d.k ≠ k) := by unfold delT; simp
theorem Ts.del {T : List Du} (h : Ts T) (k : TK) : Ts (delT k T) := h.filter _
theorem Ts.set {T : List Du} (h : Ts T) (k : TK) (t : Int) : Ts (setT k t T) := by
  have h1 := h.del k
  refine ⟨h1.so.ins fun y hy e => ?_, ?_⟩
  · have := keyD_inj e
    exact (delT_mem.1 hy).2 (by rw [this]; rfl)
  · refine ((insA_perm keyD (mkD k t) (delT k T)).symm.pairwise_iff (fun {a b} (q : a.k ≠ b.k) => q.symm)).1 (List.pairwise_cons.2 ⟨fun y hy e => (delT_mem.1 hy).2 e.symm, h1.dk⟩)
theorem setT_mem {k : TK} {t : Int} {T : List Du} {d : Du} : d ∈ setT k t T ↔ (d = mkD k t ∨ d ∈ T ∧ d.k ≠ k) := by
  unfold setT; rw [insA_mem, delT_mem]
theorem setT_len (k : TK) (t : Int) (T : List Du) : (setT k t T).length ≤ T.length + 1 := by
  unfold setT; rw [insA_len]; unfold delT; have := List.length_filter_le (fun d : Du => !decide (d.k = k)) T; omega
/-- The least. -/
def minT : List Du → Option Int
  | [] => none
  | d :: T => match minT T with
    | none => some d.t
    | some m => some (if d.t < m then d.t else m)
end Go.Proofs.YtjcdjkfnmobhkaaGreat
/- The timers that are set, in memory: a map by whose and which. -/
namespace Go.Proofs.YtjcdjkfnmobhkaaGreat
open Go.RowKit Go.Shelf Go.Lib
def heldElem (v : Value) : Option (DataW Value × List MemPlace) := some (.held v, [])
def kV (k : TK) : Value := .agg #[.string k.1.1, .string k.1.2]
def eT (k : TK) : Lit := .string (keyBytes [.string k.1.1.data.toList, .string k.1.2.data.toList])
theorem laidOutT : laidOutB Tryz.prog = true := by kernel_rfl
theorem rowTm : (82 : TypeId) < Tryz.prog.types.size := of_decide_eq_true (by kernel_rfl)
theorem wideTm : (match Tryz.prog.underlying 82 with | some (.array _ _) | some (.struct _) => true | _ => false) = true := by kernel_rfl
theorem deepTm : Tryz.prog.keyTypeAt 2 82 = true := by kernel_rfl
set_option maxRecDepth 1000000 in
theorem lawT : Maps.Keyed Tryz.prog 82 := .of_law (deep_law_laid laidOutT (m := 2) (by decide) rowTm deepTm wideTm)
theorem ktype : Tryz.prog.keyType 82 = true := by kernel_rfl
theorem cellsTm : Tryz.prog.cellsOf 82 = 2 := by kernel_rfl
theorem cellsStr : Tryz.prog.cellsOf 9 = 1 := by kernel_rfl
theorem litsS (n : Nat) (s : ByteArray) (h : s.size ≤ maxLen) : Tryz.prog.keyLits (n + 1) 9 [.string s] = some [.string s.data.toList] := by
  unfold Program.keyLits
  rw [Tryz.underlying9]
  simp [h]
theorem size_of_len {s : ByteArray} (h : s.toList.length ≤ 300) : s.size ≤ 300 := by
  rw [Go.Lib.toList_data] at h
  rw [← size_list]; exact h
set_option maxRecDepth 1000000 in
theorem keyT (k : TK) : keyOf Tryz.prog 82 (kV k) = some (eT k) := by
  have h1 := size_of_len k.2.1
  have h2 := size_of_len k.2.2
  have hl := litsS
  obtain ⟨n, hn⟩ : ∃ n, Tryz.prog.types.size = n + 1 := ⟨_, (Nat.succ_pred_eq_of_pos (Nat.lt_of_le_of_lt (Nat.zero_le _) rowTm)).symm⟩
  have hf : (kV k).formed Tryz.prog 82 = true := by
    unfold kV Value.formed
    rw [Tryz.underlying82]
    simp [cellsTm]
  unfold keyOf
  have hu := Tryz.underlying82
  rw [hu]
  simp only [ktype, hf, Bool.and_self, if_true]
  have hk : Tryz.prog.keyLits (Tryz.prog.types.size + 1) 82 (kV k).cells.toList = some [.string k.1.1.data.toList, .string k.1.2.data.toList] := by
    rw [hn]
    unfold Program.keyLits
    rw [hu]
    have e1 := litsS n k.1.1 (by unfold maxLen; omega)
    have e2 := litsS n k.1.2 (by unfold maxLen; omega)
    simp [kV, Value.cells, cellsTm, cellsStr, e1, e2]
  rw [hk]; rfl
theorem kV_inj {a b : TK} (h : kV a = kV b) : a = b := by
  unfold kV at h
  injection h with h
  simp at h
  exact Subtype.ext (Prod.ext h.1 h.2)
theorem eT_inj {a b : TK} (h : eT a = eT b) : a = b := kV_inj (lawT.inj (keyT a) (h ▸ keyT b))
theorem klT (k : TK) : WideAt.IsKeyLit (eT k) := trivial
def entT (d : Du) : Lit × DataW Value := (eT d.k, .held (.int .i64 d.t))
theorem ownsMap_mv {H : Type} {P : Program} {k : TypeId} {R : Value → Option (DataW H × List MemPlace)} {w w' : World} {b n : Nat} {D : DataW H} {E : Nat → Prop} (h : w.ownsMap P k R b n D) (m : Mv E w w') (hE : ¬ E b) : w'.ownsMap P k R b n D := by
  obtain ⟨es, c, hb, q⟩ := h
  exact ⟨es, c, (m.block b (Array.getElem?_eq_some_iff.1 hb).1 hE).trans hb, q⟩
theorem ranges_mv {H : Type} {P : Program} {k : TypeId} {R : Value → Option (DataW H × List MemPlace)} {w w' : World} {b r n : Nat} {D : DataW H} {left : Lit → Bool} {cnt : Nat} {E : Nat → Prop} (h : w.ranges P k R b r n D left cnt) (m : Mv E w w') (hE : ¬ E b) (hr : ¬ E r) : w'.ranges P k R b r n D left cnt := by
  obtain ⟨es, clock, since, seen, c0, h1, h2, h3, h4, h5, h6⟩ := h
  exact ⟨es, clock, since, seen, c0, (m.block b (Array.getElem?_eq_some_iff.1 h1).1 hE).trans h1, h2, h3, h4, (m.block r (Array.getElem?_eq_some_iff.1 h5).1 hr).trans h5, h6⟩
theorem ownsMap_norm {H : Type} {P : Program} {k : TypeId} {R : Value → Option (DataW H × List MemPlace)} {w : World} {b n : Nat} {D : DataW H} (h : w.ownsMap P k R b n D) : w.ownsMap P k R b (Maps.size D) D := by
  obtain ⟨es, c, hb, F, hs, hD⟩ := h
  refine ⟨es, c, hb, F, ?_, hD⟩
  have := congrArg Maps.size hD
  rw [Maps.size_eq, length_read] at this
  omega
/-- Block b is the map of the timers T. -/
def TMb (w : World) (b : Nat) (T : List Du) : Prop := ∃ l, w.ownsMap Tryz.prog 82 heldElem b T.length (.map l) ∧ l.Perm (T.map entT)
/-- The same, or nil. -/
def TM (w : World) (v : Value) (T : List Du) : Prop := (v = .map none ∧ T = []) ∨ ∃ b, v = .map (some b) ∧ TMb w b T
def mbk : Value → Option Nat
  | .map (some b) => some b
  | _ => none
theorem TMb.lt {w : World} {b : Nat} {T : List Du} (h : TMb w b T) : b < w.heap.size := by obtain ⟨l, h, _⟩ := h; exact h.lt
theorem TMb.mv {w V : World} {b : Nat} {T : List Du} {E : Nat → Prop} (h : TMb w b T) (m : Mv E w V) (hE : ¬ E b) : TMb V b T := by
  obtain ⟨l, h1, h2⟩ := h
  exact ⟨l, ownsMap_mv h1 m hE, h2⟩
theorem TM.lt {w : World} {v : Value} {T : List Du} (h : TM w v T) {k : Nat} (hk : mbk v = some k) : k < w.heap.size := by
  rcases h with ⟨rfl, _⟩ | ⟨b, rfl, h⟩
  · cases hk
  · cases hk; exact h.lt
theorem TM.mv {w V : World} {v : Value} {T : List Du} {E : Nat → Prop} (h : TM w v T) (m : Mv E w V) (hE : ∀ k, mbk v = some k → ¬ E k) : TM V v T := by
  rcases h with h | ⟨b, rfl, h⟩
  · exact .inl h
  · exact .inr ⟨b, rfl, h.mv m (hE b rfl)⟩
theorem TMb.made (w : World) : TMb (w.alloc (.map #[] 0)) w.heap.size [] := ⟨[], World.ownsMap_made w _ _ _, List.Perm.refl _⟩
section
variable {w : World} {b : Nat} {T : List Du}
theorem mem_ent {l : List (Lit × DataW Value)} (hp : l.Perm (T.map entT)) {p : Lit × DataW Value} (h : p ∈ l) : ∃ d ∈ T, entT d = p := List.mem_map.1 (hp.mem_iff.1 h)
theorem has_lk {l : List (Lit × DataW Value)} (hT : Ts T) (hp : l.Perm (T.map entT)) (k : TK) : Maps.has (.map l) (eT k) = (lk T k).isSome := by
  rw [Maps.has_eq]
  cases e : lk T k with
  | none =>
    rw [Option.isSome_none]
    refine List.any_eq_false.2 fun p hpl hs => ?_
    obtain ⟨d, hd, rfl⟩ := mem_ent hp hpl
    have e2 : d.k = k := eT_inj (WideAt.sameKey_eq hs)
    subst e2
    rw [lk_some hT hd] at e; cases e
  | some t =>
    rw [Option.isSome_some]
    unfold lk at e
    cases f : T.find? (fun d => decide (d.k = k)) with
    | none => rw [f] at e; cases e
    | some d =>
      have h1 := List.mem_of_find?_eq_some f
      have h2 := List.find?_some f
      refine List.any_eq_true.2 ⟨entT d, hp.mem_iff.2 (List.mem_map_of_mem h1), ?_⟩
      have : d.k = k := by simpa using h2
      show (eT d.k).sameKey (eT k) = true
      rw [this]; exact WideAt.sameKey_self (klT k)
theorem at_lk {l : List (Lit × DataW Value)} (hT : Ts T) (hp : l.Perm (T.map entT)) (k : TK) (z : DataW Value) : (DataW.map l).atKey (eT k) z = match lk T k with | some t => .held (.int .i64 t) | none => z := by
  unfold DataW.atKey
  simp only
  cases f : l.find? (fun p => p.1.sameKey (eT k)) with
  | none =>
    have : lk T k = none := by
      refine lk_none fun d hd e => ?_
      have := List.find?_eq_none.1 f (entT d) (hp.mem_iff.2 (List.mem_map_of_mem hd))
      refine this ?_
      show (eT d.k).sameKey (eT k) = true
      rw [e]; exact WideAt.sameKey_self (klT k)
    rw [this]
  | some p =>
    have h1 := List.mem_of_find?_eq_some f
    have h2 := List.find?_some f
    obtain ⟨d, hd, rfl⟩ := mem_ent hp h1
    have e : d.k = k := eT_inj (WideAt.sameKey_eq h2)
    subst e
    rw [lk_some hT hd]; rfl
theorem TMb.look (h : TMb w b T) (hT : Ts T) {t et : TypeId} (ht : Tryz.prog.underlying t = some (.map 82 et)) (hz : (zeroValue et).run Tryz.prog w = .ok (.int .i64 0) w) (k : TK) :
    (Instr.lookup t (.map (some b)) (kV k) true).run Tryz.prog w = .ok (.tuple #[.int .i64 ((lk T k).getD 0), .bool (lk T k).isSome]) w := by
  obtain ⟨l, h1, h2⟩ := h
  obtain ⟨v, ps, hrun, hv⟩ := h1.look_ok lawT ht hz (zd := .held (.int .i64 0)) (zp := []) rfl (keyT k)
  rw [at_lk hT h2] at hv
  rw [hrun, has_lk hT h2]
  cases hl : lk T k <;> rw [hl] at hv <;> simp only [heldElem, Option.some.injEq, Prod.mk.injEq, DataW.held.injEq] at hv <;> rw [hv.1] <;> rfl
theorem TMb.len (h : TMb w b T) {t et : TypeId} (ht : Tryz.prog.underlying t = some (.map 82 et)) (ty : TypeId) :
    (Builtin.len_ #[t] ty #[.map (some b)]).run Tryz.prog w = .ok (.int .i64 T.length) w := by
  obtain ⟨l, h1, h2⟩ := h
  rw [h1.len ht ty, Maps.size_eq, h2.length_eq, List.length_map]
theorem ent_del {l : List (Lit × DataW Value)} (hp : l.Perm (T.map entT)) (k : TK) : (l.filter fun p => !p.1.sameKey (eT k)).Perm ((delT k T).map entT) := by
  have h1 := hp.filter fun p => !p.1.sameKey (eT k)
  have h2 : (T.map entT).filter (fun p => !p.1.sameKey (eT k)) = (delT k T).map entT := by
    unfold delT
    rw [List.filter_map]
    congr 1
    refine List.filter_congr fun d _ => ?_
    show (!(eT d.k).sameKey (eT k)) = !decide (d.k = k)
    by_cases e : d.k = k
    · rw [e, WideAt.sameKey_self (klT k)]; simp
    · rw [Maps.sameKey_ne fun q => e (eT_inj q)]; simp [e]
  rw [← h2]; exact h1
theorem TMb.store (h : TMb w b T) {t et : TypeId} (ht : Tryz.prog.underlying t = some (.map 82 et)) (k : TK) (x : Int) (hm : T.length < maxLen) :
    ∃ w', (Instr.mapUpdate t (.map (some b)) (kV k) (.int .i64 x)).run Tryz.prog w = .ok () w' ∧ TMb w' b (setT k x T) ∧ Mv (fun k => k = b) w w' := by
  obtain ⟨l, h1, h2⟩ := h
  obtain ⟨w', hrun, ho, hg⟩ := h1.update lawT ht hm (keyT k) (val := .int .i64 x) (d := .held (.int .i64 x)) (ps := []) rfl
  have hp : (DataW.insert (eT k, .held (.int .i64 x)) (l.filter fun p => !p.1.sameKey (eT k))).Perm ((setT k x T).map entT) := by
    refine (WideShapes.insert_perm _ _).trans ?_
    unfold setT
    refine ((ent_del h2 k).cons _).trans ?_
    exact ((insA_perm keyD (mkD k x) (delT k T)).symm.map entT)
  refine ⟨w', hrun, ⟨_, ?_, hp⟩, (Mv.refl _ _).grown hg (fun k e => .inl (by cases e; rfl))⟩
  have h3 := ownsMap_norm ho
  have h4 : Maps.size (DataW.put (.map l) (eT k) (.held (.int .i64 x))) = (setT k x T).length := by
    rw [DataW.put_eq, Maps.size_eq]
    have := hp.length_eq
    rw [List.length_map] at this
    exact this
  rw [h4] at h3
  exact h3
theorem TMb.drop (h : TMb w b T) {t et : TypeId} (ht : Tryz.prog.underlying t = some (.map 82 et)) (k : TK) (ty : TypeId) :
    ∃ w', (Builtin.delete_ #[t, 82] ty #[.map (some b), kV k]).run Tryz.prog w = .ok (.tuple #[]) w' ∧ TMb w' b (delT k T) ∧ Mv (fun k => k = b) w w' := by
  obtain ⟨l, h1, h2⟩ := h
  obtain ⟨w', hrun, ho, hg⟩ := h1.drop lawT ht (keyT k) ty
  have hp := ent_del h2 k
  refine ⟨w', hrun, ⟨_, ?_, hp⟩, (Mv.refl _ _).grown hg.grown (fun k e => .inl (by cases e; rfl))⟩
  have h3 := ownsMap_norm ho
  have h4 : Maps.size (DataW.del (.map l) (eT k)) = (delT k T).length := by
    rw [DataW.del_eq, Maps.size_eq]
    have := hp.length_eq
    rw [List.length_map] at this
    exact this
  rw [h4] at h3
  exact h3
end
end Go.Proofs.YtjcdjkfnmobhkaaGreat
