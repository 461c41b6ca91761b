import Derived.Test.YtdcidlgmnnaahaaGreatBaa
import Derived.ArgAppend
import Derived.Deep.MidRow
import Derived.Lib.SliceRun
import Derived.Lib.Strings
/- What turns, cell by cell. -/
namespace Go.Proofs.YtdcidlgmnnaahaaGreat
open Go.RowKit Go.Shelf Go.Lib
/-- What turned: cells of S, and what is new. -/
structure Cv (S : Nat → Nat → Prop) (W V : World) : Prop where
  mv : Mv (fun k => ∃ j, S k j) W V
  ce : ∀ k j, k < W.heap.size → ¬ S k j → V.cell? ⟨k, j, none⟩ = W.cell? ⟨k, j, none⟩
  pr : ∀ k j, k < W.heap.size → (W.cell? ⟨k, j, none⟩).isSome = true → (V.cell? ⟨k, j, none⟩).isSome = true
  fr : ∀ k j, k < W.heap.size → V.frozen? ⟨k, j, none⟩ = W.frozen? ⟨k, j, none⟩
theorem Cv.size {S : Nat → Nat → Prop} {W V : World} (h : Cv S W V) : W.heap.size ≤ V.heap.size := h.mv.size
theorem Cv.below {S : Nat → Nat → Prop} {W V : World} (h : Below W.heap.size W V) : Cv S W V :=
  ⟨Mv.below h, fun k _ hk _ => World.cell?_of_block (h.block k hk), fun k _ hk c => by rw [World.cell?_of_block (h.block k hk)]; exact c, fun k _ hk => by unfold World.frozen?; rw [h.block k hk]⟩
theorem Cv.refl (S : Nat → Nat → Prop) (W : World) : Cv S W W := Cv.below (Below.refl _ _)
theorem Cv.mono {S T : Nat → Nat → Prop} {W V : World} (h : Cv S W V) (g : ∀ k j, k < W.heap.size → S k j → T k j) : Cv T W V :=
  ⟨h.mv.mono fun k hk ⟨j, hj⟩ => ⟨j, g k j hk hj⟩, fun k j hk hn => h.ce k j hk fun s => hn (g k j hk s), h.pr, h.fr⟩
theorem Cv.trans {S T : Nat → Nat → Prop} {A B C : World} (h : Cv S A B) (k : Cv T B C) (g : ∀ k j, T k j → S k j ∨ A.heap.size ≤ k) : Cv S A C :=
  ⟨h.mv.trans (E' := fun k => ∃ j, T k j) (fun b hb => by
      obtain ⟨j, hj⟩ := hb
      exact (g b j hj).imp (fun q => ⟨j, q⟩) id) k.mv,
   fun b j hb hn => (k.ce b j (Nat.lt_of_lt_of_le hb h.size) fun t => (g b j t).elim hn (fun q => by omega)).trans (h.ce b j hb hn),
   fun b j hb c => k.pr b j (Nat.lt_of_lt_of_le hb h.size) (h.pr b j hb c),
   fun b j hb => (k.fr b j (Nat.lt_of_lt_of_le hb h.size)).trans (h.fr b j hb)⟩
theorem Cv.trans' {S : Nat → Nat → Prop} {A B C : World} (h : Cv S A B) (k : Cv S B C) : Cv S A C := h.trans k fun _ _ s => .inl s
theorem Mv.setCells {E : Nat → Prop} {A W : World} {g : Nat} (h : Mv E A W) (hg : E g ∨ A.heap.size ≤ g) : ∀ (vs : List Value) (o : Nat), Mv E A (W.setCells g o vs)
  | [], _ => h
  | v :: r, o => (h.setc (p := ⟨g, o, none⟩) hg v).setCells hg r (o + 1)
theorem Cv.cells (W : World) (g o : Nat) (vs : List Value) : Cv (fun k j => k = g ∧ o ≤ j ∧ j < o + vs.length) W (W.setCells g o vs) := by
  by_cases hv : vs = []
  · subst hv; exact Cv.refl _ _
  · have hp : 0 < vs.length := List.length_pos_iff.2 hv
    refine ⟨(Mv.refl _ W).setCells (.inl ⟨o, rfl, Nat.le_refl _, by omega⟩) _ _, fun k j _ hn => ?_, fun k j _ c => World.isSome_setCells _ _ _ _ _ c, fun k j _ => World.frozen?_setCells ..⟩
    refine World.cell?_setCells_out _ _ _ _ _ fun h1 _ => ?_
    have h1' : k = g := h1
    show j < o ∨ o + vs.length ≤ j
    by_cases h2 : j < o
    · exact .inl h2
    · by_cases h3 : o + vs.length ≤ j
      · exact .inr h3
      · exact absurd ⟨h1', by omega, by omega⟩ hn
theorem Cv.one (W : World) (g o : Nat) (v : Value) : Cv (fun k j => k = g ∧ j = o) W (W.setCell ⟨g, o, none⟩ v) :=
  (Cv.cells W g o [v]).mono fun k j _ h => ⟨h.1, by have := h.2; simp at this; omega⟩
/-- The same, as far as a block is not touched at all. -/
theorem Cv.cell {S : Nat → Nat → Prop} {W V : World} (h : Cv S W V) {k j : Nat} {v : Value} (hn : ¬ S k j) (c : W.cell? ⟨k, j, none⟩ = some v) : V.cell? ⟨k, j, none⟩ = some v := (h.ce k j (cell_lt c) hn).trans c
theorem Cv.next {S : Nat → Nat → Prop} {F : Nat → Prop} {A W V : World} (h : Cv S A W) (m : Mv F W V) (hF : ∀ k, F k → A.heap.size ≤ k) : Cv S A V := by
  have hb : ∀ k, k < A.heap.size → V.heap[k]? = W.heap[k]? := fun k hk => m.block k (Nat.lt_of_lt_of_le hk h.size) fun f => by have := hF k f; omega
  exact ⟨h.mv.trans (E' := F) (fun k f => .inr (hF k f)) m, fun k j hk hn => (World.cell?_of_block (hb k hk)).trans (h.ce k j hk hn), fun k j hk c => by rw [World.cell?_of_block (hb k hk)]; exact h.pr k j hk c, fun k j hk => by have := h.fr k j hk; unfold World.frozen? at this ⊢; rw [hb k hk]; exact this⟩
theorem hidP {p : Prop} (h : p) : Hid p := h
theorem froz_new {W : World} {cs : Array Value} {t : TypeId} {n j : Nat} (hn : W.heap.size = n) : (W.alloc (.cells cs t)).frozen? ⟨n, j, none⟩ = false := by
  subst hn
  have := heap_alloc_new W (.cells cs t)
  unfold World.frozen?
  rw [this]
  simp
theorem cells_of {W : World} {b : Nat} {cs : Array Value} {t : TypeId} (h : W.heap[b]? = some (.cells cs t)) {j : Nat} {v : Value} (hj : cs[j]? = some v) : W.cell? ⟨b, j, none⟩ = some v := by
  unfold World.cell?
  rw [h]
  simpa using hj
theorem froz_of {W : World} {b : Nat} {cs : Array Value} {t : TypeId} (h : W.heap[b]? = some (.cells cs t)) {j : Nat} : W.frozen? ⟨b, j, none⟩ = false := by
  unfold World.frozen?
  rw [h]
  simp
theorem bcell {A V : World} {n : Nat} (h : Below n A V) {k j : Nat} {v : Value} (hk : k < n) (c : A.cell? ⟨k, j, none⟩ = some v) : V.cell? ⟨k, j, none⟩ = some v := (World.cell?_of_block (h.block k hk)).trans c
theorem bfroz {A V : World} {n : Nat} (h : Below n A V) {k j : Nat} (hk : k < n) : V.frozen? ⟨k, j, none⟩ = A.frozen? ⟨k, j, none⟩ := by unfold World.frozen?; rw [h.block k hk]
theorem bmv {F : Nat → Prop} {A W V : World} {n : Nat} (h : Below n A W) (hn : n ≤ A.heap.size) (m : Mv F W V) (hF : ∀ k, F k → n ≤ k) : Below n A V := h.trans (m.toBelow (Nat.le_trans hn h.size) fun k hk f => by have := hF k f; omega)
theorem wpList_append_run {P : Program} {w : World} {ops : Array Oper} {rest : List Oper} {o : Oper} {a : Act} {Q : Exit → Act → World → Prop} (hgd : o.guard = none) (s x : Operand) (t : TypeId)
    (ho : o.op = .call { callee := .builtin .append, args := #[s, x], argTypes := #[t, t] }) (v xv v' : Value) (w' : World) (hs : a.eval s = v) (hx : a.eval x = xv)
    (hr : (Builtin.append_ #[t, t] o.type #[v, xv]).run P w = .ok v' w') (h : wpList P ops Q rest (a.put o.dst v') w') : wpList P ops Q (o :: rest) a w := by
  refine wpList_plain hgd fun K hK => ?_
  unfold Oper.wp execOp
  simp only [ho, resolve, invoke, builtin, Sem.run_bind, Sem.run_pure, Result.andThen_ok, List.map_toArray, List.map_cons, List.map_nil, hs, hx, hr]
  exact hK _ _ h
theorem wpListIn_append_run {F : Fence} {n : Nat} {P : Program} {w : World} {ops : Array Oper} {rest : List Oper} {o : Oper} {a : Act} {Q : Exit → Act → World → Prop} (hg : o.guard = none) (s x : Operand) (t : TypeId)
    (hop : o.op = .call { callee := .builtin .append, args := #[s, x], argTypes := #[t, t] }) (v xv v' : Value) (w' : World) (hs : a.eval s = v) (hx : a.eval x = xv)
    (hrun : (Builtin.append_ #[t, t] o.type #[v, xv]).run P w = .ok v' w') (h : wpListIn F n P ops Q rest (a.put o.dst v') w') : wpListIn F n P ops Q (o :: rest) a w := by
  refine wpListIn_plain hg fun K hK' => ?_
  unfold Oper.wpIn
  refine ⟨?_, ?_⟩
  · simp [Oper.about, hop, resolve, Target.leads, Sem.run_pure]
  · rw [Oper.semAt_plain F _ _ (by rw [hop]; intro c hc'; cases hc')]
    simp [execOp, hop, resolve, invoke, builtin, hs, hx, hrun, Result.andThen]
    exact hK' _ _ h
/-- The first k with their places, from the end on. -/
def bk {α : Type} (l : List α) : Nat → List (Nat × α)
  | 0 => []
  | k + 1 => match l[k]? with
    | some x => (k, x) :: bk l k
    | none => bk l k
theorem bk_succ {α : Type} {l : List α} {k : Nat} {x : α} (h : l[k]? = some x) : bk l (k + 1) = (k, x) :: bk l k := by simp [bk, h]
theorem bk_mem {α : Type} {l : List α} : ∀ {k : Nat} {p : Nat × α}, p ∈ bk l k → l[p.1]? = some p.2
  | 0, _, h => by cases h
  | k + 1, p, h => by
    unfold bk at h
    split at h
    · next x hx =>
      rcases List.mem_cons.1 h with rfl | h
      · exact hx
      · exact bk_mem h
    · exact bk_mem h
theorem bk_cons {α : Type} {l : List α} {k : Nat} (hk : k ≤ l.length) {i : Nat} {x : α} {rest : List (Nat × α)} (h : bk l k = (i, x) :: rest) : k = i + 1 ∧ l[i]? = some x ∧ rest = bk l i := by
  cases k with
  | zero => cases h
  | succ m =>
    obtain ⟨y, hy⟩ : ∃ y, l[m]? = some y := ⟨_, List.getElem?_eq_getElem (by omega)⟩
    rw [bk_succ hy] at h
    injection h with h1 h2
    injection h1 with h3 h4
    subst h3; subst h4
    exact ⟨rfl, hy, h2.symm⟩
theorem bk_nil {α : Type} {l : List α} {k : Nat} (hk : k ≤ l.length) (h : bk l k = []) : k = 0 := by
  cases k with
  | zero => rfl
  | succ m =>
    obtain ⟨y, hy⟩ : ∃ y, l[m]? = some y := ⟨_, List.getElem?_eq_getElem (by omega)⟩
    rw [bk_succ hy] at h
    cases h
end Go.Proofs.YtdcidlgmnnaahaaGreat
/- A queue at the beginning of a greater block. -/
namespace Go.Proofs.YtdcidlgmnnaahaaGreat
open Go.RowKit Go.Shelf Go.Lib
/-- The function that tells the order, and what lies behind the queue's own four cells in its block. -/
structure NB where
  n : Nat
  X : Nat → Option Value
  f : Value := .func (.func n) #[] #[]
abbrev NB.z (b : NB) : NB := ⟨b.n, fun _ => none, b.f⟩
def Xt (w : World) (q : Nat) (X : Nat → Option Value) : Prop := (∀ j, 4 ≤ j → w.cell? ⟨q, j, none⟩ = X j) ∧ ∀ j, 4 ≤ j → w.frozen? ⟨q, j, none⟩ = false
theorem Xt.mv {E : Nat → Prop} {w V : World} {q : Nat} {X : Nat → Option Value} (h : Xt w q X) (m : Mv E w V) (hq : ¬ E q) (lq : q < w.heap.size) : Xt V q X := ⟨fun j hj => (World.cell?_of_block (m.block q lq hq)).trans (h.1 j hj), fun j hj => by have := h.2 j hj; unfold World.frozen? at this ⊢; rw [m.block q lq hq]; exact this⟩
theorem Xt.cv {S : Nat → Nat → Prop} {w V : World} {q : Nat} {X : Nat → Option Value} (h : Xt w q X) (m : Cv S w V) (hq : ∀ j, 4 ≤ j → ¬ S q j) (lq : q < w.heap.size) : Xt V q X := ⟨fun j hj => (m.ce q j lq (hq j hj)).trans (h.1 j hj), fun j hj => (m.fr q j lq).trans (h.2 j hj)⟩
theorem cell_new_none {W : World} {cs : Array Value} {t : TypeId} {n j : Nat} (hn : W.heap.size = n) (hj : cs.size ≤ j) : (W.alloc (.cells cs t)).cell? ⟨n, j, none⟩ = none := by
  subst hn
  have := heap_alloc_new W (.cells cs t)
  unfold World.cell?
  rw [this]
  simp [hj]
end Go.Proofs.YtdcidlgmnnaahaaGreat
/- Events that wait and timers, as they are ordered: a key each. -/
namespace Go.Proofs.YtdcidlgmnnaahaaGreat
/-- A text of at most n bytes as a number: its order is theirs. -/
def enc : Nat → List UInt8 → Nat
  | 0, _ => 0
  | _ + 1, [] => 0
  | n + 1, b :: l => (b.toNat + 1) * 257 ^ n + enc n l
theorem enc_lt : ∀ (n : Nat) (l : List UInt8), enc n l < 257 ^ n
  | 0, l => by simp [enc]
  | n + 1, [] => by simp only [enc]; exact Nat.pow_pos (by decide)
  | n + 1, b :: l => by
    have h1 := enc_lt n l
    have h2 := b.toNat_lt
    rw [enc, Nat.pow_succ]
    generalize 257 ^ n = P at *
    have h3 : (b.toNat + 1) * P ≤ 256 * P := Nat.mul_le_mul_right _ (by omega)
    omega
theorem enc_less : ∀ (n : Nat) (a b : List UInt8), a.length ≤ n → b.length ≤ n → (enc n a < enc n b ↔ Op.bytesLess a b = true) ∧ (enc n a = enc n b ↔ a = b)
  | 0, a, b, ha, hb => by
    have : a = [] := List.eq_nil_of_length_eq_zero (by omega)
    subst this
    have : b = [] := List.eq_nil_of_length_eq_zero (by omega)
    subst this
    simp [enc, Op.bytesLess]
  | n + 1, [], [], _, _ => by simp [enc, Op.bytesLess]
  | n + 1, [], b :: m, _, _ => by
    have hp : 0 < 257 ^ n := Nat.pow_pos (by decide)
    have : 0 < (b.toNat + 1) * 257 ^ n := Nat.mul_pos (by omega) hp
    simp only [enc, Op.bytesLess]
    refine ⟨⟨fun _ => trivial, fun _ => by omega⟩, ⟨fun h => by omega, fun h => by cases h⟩⟩
  | n + 1, a :: l, [], _, _ => by
    have hp : 0 < 257 ^ n := Nat.pow_pos (by decide)
    have : 0 < (a.toNat + 1) * 257 ^ n := Nat.mul_pos (by omega) hp
    simp only [enc, Op.bytesLess]
    refine ⟨⟨fun h => by omega, fun h => by cases h⟩, ⟨fun h => by omega, fun h => by cases h⟩⟩
  | n + 1, a :: l, b :: m, ha, hb => by
    obtain ⟨i1, i2⟩ := enc_less n l m (by simpa using ha) (by simpa using hb)
    have l1 := enc_lt n l
    have l2 := enc_lt n m
    simp only [enc, Op.bytesLess]
    generalize 257 ^ n = P at *
    rcases Nat.lt_trichotomy a.toNat b.toNat with h | h | h
    · have h3 : (a.toNat + 1 + 1) * P ≤ (b.toNat + 1) * P := Nat.mul_le_mul_right _ (by omega)
      rw [Nat.add_mul (a.toNat + 1) 1 P, Nat.one_mul] at h3
      have hl : a < b := UInt8.lt_iff_toNat_lt.2 h
      refine ⟨⟨fun _ => by simp [hl], fun _ => by omega⟩, ⟨fun e => by omega, fun e => ?_⟩⟩
      injection e with e _
      rw [e] at h; omega
    · have e : a = b := UInt8.toNat_inj.1 h
      subst e
      have hn : ¬ a < a := fun z => by have := UInt8.lt_iff_toNat_lt.1 z; omega
      refine ⟨⟨fun z => ?_, fun z => ?_⟩, ⟨fun z => ?_, fun z => ?_⟩⟩
      · simp [i1.1 (by omega)]
      · have : Op.bytesLess l m = true := by simpa [hn] using z
        have := i1.2 this
        omega
      · rw [i2.1 (by omega)]
      · injection z with _ z
        rw [z]
    · have h3 : (b.toNat + 1 + 1) * P ≤ (a.toNat + 1) * P := Nat.mul_le_mul_right _ (by omega)
      rw [Nat.add_mul (b.toNat + 1) 1 P, Nat.one_mul] at h3
      have hl : ¬ a < b := fun z => by have := UInt8.lt_iff_toNat_lt.1 z; omega
      have hne : a ≠ b := fun e => by rw [e] at h; omega
      refine ⟨⟨fun z => by omega, fun z => by simp [hl, hne] at z⟩, ⟨fun e => by omega, fun e => ?_⟩⟩
      injection e with e _
      exact absurd e hne
/-- A timer that is due: its unit, which one, when (texts of at most 300 bytes). -/
structure Du where
  u : ByteArray
  w : ByteArray
  t : Int
  hu : u.toList.length ≤ 300
  hw : w.toList.length ≤ 300
def cap300 : Nat := 300
def encU (s : ByteArray) : Int := (enc cap300 s.toList : Nat)
def P300 : Int := ((257 ^ cap300 : Nat) : Int)
theorem encU_lo (s : ByteArray) : 0 ≤ encU s := by unfold encU; omega
theorem encU_hi (s : ByteArray) : encU s < P300 := by
  unfold encU P300
  have := enc_lt cap300 s.toList
  generalize 257 ^ cap300 = P at *
  omega
theorem ba_ext {a b : ByteArray} (h : a.toList = b.toList) : a = b := by
  rw [Go.Lib.toList_data, Go.Lib.toList_data] at h
  exact ByteArray.ext (Array.toList_inj.1 h)
theorem encU_less {a b : ByteArray} (ha : a.toList.length ≤ 300) (hb : b.toList.length ≤ 300) : (encU a < encU b ↔ Op.bytesLess a.toList b.toList = true) ∧ (encU a = encU b ↔ a = b) := by
  have h := enc_less cap300 _ _ ha hb
  unfold encU
  refine ⟨⟨fun z => h.1.1 (by omega), fun z => by have := h.1.2 z; omega⟩, ⟨fun z => ba_ext (h.2.1 (by omega)), fun z => by rw [z]⟩⟩
theorem pair_less {P a b x y : Int} (hP : 0 < P) (hx : 0 ≤ x ∧ x < P) (hy : 0 ≤ y ∧ y < P) : (a * P + x < b * P + y ↔ (a < b ∨ a = b ∧ x < y)) := by
  rcases Int.lt_trichotomy a b with h | h | h
  · have h1 : (a + 1) * P ≤ b * P := Int.mul_le_mul_of_nonneg_right (by omega) (by omega)
    rw [Int.add_mul, Int.one_mul] at h1
    exact ⟨fun _ => .inl h, fun _ => by omega⟩
  · subst h
    exact ⟨fun z => .inr ⟨rfl, by omega⟩, fun z => by rcases z with z | z <;> omega⟩
  · have h1 : (b + 1) * P ≤ a * P := Int.mul_le_mul_of_nonneg_right (by omega) (by omega)
    rw [Int.add_mul, Int.one_mul] at h1
    exact ⟨fun z => by omega, fun z => by rcases z with z | z <;> omega⟩
theorem P300_pos : 0 < P300 := by
  unfold P300
  have : 0 < 257 ^ cap300 := Nat.pow_pos (by decide)
  generalize 257 ^ cap300 = P at *
  omega
def keyD (x : Du) : Int := (x.t * P300 + encU x.u) * P300 + encU x.w
theorem keyD_less (a b : Du) : keyD a < keyD b ↔ (a.t < b.t ∨ a.t = b.t ∧ (Op.bytesLess a.u.toList b.u.toList = true ∨ a.u = b.u ∧ Op.bytesLess a.w.toList b.w.toList = true)) := by
  unfold keyD
  rw [pair_less P300_pos ⟨encU_lo _, encU_hi _⟩ ⟨encU_lo _, encU_hi _⟩]
  have h1 := @pair_less P300 a.t b.t (encU a.u) (encU b.u) P300_pos ⟨encU_lo _, encU_hi _⟩ ⟨encU_lo _, encU_hi _⟩
  have h2 := @pair_less P300 b.t a.t (encU b.u) (encU a.u) P300_pos ⟨encU_lo _, encU_hi _⟩ ⟨encU_lo _, encU_hi _⟩
  have eu := encU_less a.hu b.hu
  have ew := encU_less a.hw b.hw
  constructor
  · rintro (h | ⟨h, h'⟩)
    · rcases h1.1 h with z | ⟨z, z'⟩
      · exact .inl z
      · exact .inr ⟨z, .inl (eu.1.1 z')⟩
    · have n1 : ¬ (a.t < b.t ∨ a.t = b.t ∧ encU a.u < encU b.u) := fun z => by have := h1.2 z; omega
      have n2 : ¬ (b.t < a.t ∨ b.t = a.t ∧ encU b.u < encU a.u) := fun z => by have := h2.2 z; omega
      have et : a.t = b.t := by omega
      exact .inr ⟨et, .inr ⟨eu.2.1 (by omega), ew.1.1 h'⟩⟩
  · rintro (h | ⟨h, h' | ⟨h', h''⟩⟩)
    · exact .inl (h1.2 (.inl h))
    · exact .inl (h1.2 (.inr ⟨h, eu.1.2 h'⟩))
    · exact .inr ⟨by rw [h, h'], ew.1.2 h''⟩
def Du.zero : Du := ⟨⟨#[]⟩, ⟨#[]⟩, 0, by rw [Go.Lib.toList_data]; decide, by rw [Go.Lib.toList_data]; decide⟩
/-- An event that waits: kind, pid, status, unit, text; its turn. -/
structure Wt where
  k : Int
  p : Int
  s : Int
  u : ByteArray
  x : ByteArray
  n : Int
  hn : 0 ≤ n ∧ n < 9223372036854775808
def Wt.zero : Wt := ⟨0, 0, 0, ⟨#[]⟩, ⟨#[]⟩, 0, by decide⟩
/-- Of turns that are numbers of 63 bits. -/
def keyW (x : Wt) : Int := x.k * 9223372036854775808 + x.n
theorem keyW_less (a b : Wt) : keyW a < keyW b ↔ (a.k < b.k ∨ a.k = b.k ∧ a.n < b.n) := pair_less (by decide) a.hn b.hn
end Go.Proofs.YtdcidlgmnnaahaaGreat
