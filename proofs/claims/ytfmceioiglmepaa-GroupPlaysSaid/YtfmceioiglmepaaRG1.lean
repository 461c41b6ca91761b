/- The reference's groups in memory; at. -/
import Derived.Test.YtfmceioiglmepaaGL
namespace Go.Proofs.Ytfmceioiglmepaa
open Go.RowKit Go.Shelf Go.Lib
/-- One of the reference's groups: its name, its members, the slice that they lie behind. -/
structure RG where
  nm : ByteArray
  ps : List Int
  v : Value
def cs2 (l : List RG) : List Value := l.flatMap fun x => [.string x.nm, x.v]
theorem cs2_len (l : List RG) : (cs2 l).length = l.length * 2 := by
  induction l with
  | nil => rfl
  | cons x r ih => unfold cs2 at ih ⊢; rw [List.flatMap_cons, List.length_append, ih]; simp; omega
theorem cs2_at : ∀ {l : List RG} {i : Nat} {x : RG}, l[i]? = some x → (cs2 l)[i * 2]? = some (.string x.nm) ∧ (cs2 l)[i * 2 + 1]? = some x.v
  | [], i, x, h => by simp at h
  | y :: r, 0, x, h => by simp at h; subst h; exact ⟨rfl, rfl⟩
  | y :: r, i + 1, x, h => by
    have := cs2_at (l := r) (i := i) (x := x) (by simpa using h)
    show (.string y.nm :: y.v :: cs2 r)[(i + 1) * 2]? = _ ∧ (.string y.nm :: y.v :: cs2 r)[(i + 1) * 2 + 1]? = _
    rw [show (i + 1) * 2 = i * 2 + 1 + 1 by omega, show i * 2 + 1 + 1 + 1 = (i * 2 + 1) + 1 + 1 by omega]
    simpa using this
structure Rt where
  b : Nat
  lv : Value
  nv : Value
  l : List RG
  ns : List ByteArray
/-- The blocks that it writes. -/
def hasR (R : Rt) (k : Nat) : Prop := k = R.b ∨ R.lv.ownBlock = some k ∨ nb R.nv = some k
structure Rs (W : World) (R : Rt) : Prop where
  c0 : W.cell? ⟨R.b, 0, none⟩ = some R.lv
  c1 : W.cell? ⟨R.b, 1, none⟩ = some R.nv
  f0 : W.frozen? ⟨R.b, 0, none⟩ = false
  f1 : W.frozen? ⟨R.b, 1, none⟩ = false
  row : W.ownsRow 0 49 2 R.lv R.l.length (cs2 R.l)
  ps : ∀ x ∈ R.l, IR W x.v x.ps ∧ ∀ k, nb x.v = some k → k < W.heap.size ∧ ¬ hasR R k
  nts : NS W R.nv R.ns
  n1 : ∀ k, R.lv.ownBlock = some k → k ≠ R.b
  n2 : ∀ k, nb R.nv = some k → k ≠ R.b ∧ R.lv.ownBlock ≠ some k
theorem Rs.lt {W : World} {R : Rt} (h : Rs W R) {k : Nat} (hk : hasR R k) : k < W.heap.size := by
  rcases hk with rfl | hk | hk
  · exact cell_lt h.c0
  · exact (h.row.lt k hk).2
  · exact h.nts.lt hk
theorem Rs.mv {W W' : World} {R : Rt} {E : Nat → Prop} (h : Rs W R) (m : Mv E W W') (hE : ∀ k, hasR R k → ¬ E k) (hP : ∀ x ∈ R.l, ∀ k, nb x.v = some k → ¬ E k) : Rs W' R := by
  have hb := hE _ (.inl rfl)
  refine ⟨m.cell hb h.c0, m.cell hb h.c1, (m.froz (a := ⟨R.b, 0, none⟩) hb (cell_lt h.c0)).trans h.f0, (m.froz (a := ⟨R.b, 1, none⟩) hb (cell_lt h.c1)).trans h.f1, own_mv h.row m (fun g hg => hE g (.inr (.inl hg))), fun x hx => ?_, h.nts.mv m (fun k hk => hE k (.inr (.inr hk))), h.n1, h.n2⟩
  exact ⟨(h.ps x hx).1.mv m (hP x hx), fun k hk => ⟨Nat.lt_of_lt_of_le ((h.ps x hx).2 k hk).1 m.size, ((h.ps x hx).2 k hk).2⟩⟩
theorem Rs.below {W W' : World} {R : Rt} (h : Rs W R) (b : Below W.heap.size W W') : Rs W' R := h.mv (E := fun _ => False) (Mv.below b) (fun _ _ h => h) (fun _ _ _ _ h => h)
/-- What stands at a place. -/
theorem Rs.at {W : World} {R : Rt} (h : Rs W R) {i : Nat} {x : RG} (hx : R.l[i]? = some x) : ∃ g cap, R.lv = .slice (some ⟨g, 0, none⟩) R.l.length cap ∧ W.cell? ⟨g, i * 2, none⟩ = some (.string x.nm) ∧ W.cell? ⟨g, i * 2 + 1, none⟩ = some x.v := by
  obtain ⟨a, b⟩ := cs2_at hx
  rcases h.row.2 with ⟨_, e⟩ | ⟨g, cap, cur, e, _⟩
  · have := (List.getElem?_eq_some_iff.1 hx).1
    omega
  · have h1 := h.row.cells (g := g) (by rw [e]; rfl) (i * 2) _ a
    have h2 := h.row.cells (g := g) (by rw [e]; rfl) (i * 2 + 1) _ b
    rw [Addr.add_lit, Nat.zero_add] at h1 h2
    exact ⟨g, cap, e, h1, h2⟩
theorem Rs.shape {W : World} {R : Rt} (h : Rs W R) : ∃ p cap, R.lv = .slice p R.l.length cap := by
  rcases h.row.2 with ⟨e, e2⟩ | ⟨g, cap, cur, e, _⟩
  · exact ⟨none, 0, by rw [e2]; exact e⟩
  · exact ⟨_, _, e⟩
/-- Where a name stands, or would. -/
def atP : List RG → ByteArray → Nat
  | [], _ => 0
  | x :: r, s => if sLt x.nm s then atP r s + 1 else 0
def thereR (l : List RG) (s : ByteArray) : Bool := match l[atP l s]? with | some x => decide (x.nm = s) | none => false
theorem atP_le : ∀ (l : List RG) (s : ByteArray), atP l s ≤ l.length
  | [], _ => Nat.le_refl _
  | x :: r, s => by
    unfold atP
    have := atP_le r s
    split <;> simp <;> omega
theorem atP_eq : ∀ {l : List RG} {s : ByteArray} {i : Nat}, i ≤ l.length → (∀ j x, j < i → l[j]? = some x → sLt x.nm s = true) → (∀ x, l[i]? = some x → sLt x.nm s = false) → atP l s = i
  | [], s, i, hi, _, _ => by simp at hi; rw [hi]; rfl
  | y :: r, s, 0, hi, h1, h2 => by unfold atP; rw [h2 y rfl]; rfl
  | y :: r, s, i + 1, hi, h1, h2 => by
    unfold atP
    rw [h1 0 y (by omega) rfl, if_pos rfl, atP_eq (l := r) (s := s) (i := i) (by simp at hi; omega) (fun j x hj hx => h1 (j + 1) x (by omega) (by simpa using hx)) (fun x hx => h2 x (by simpa using hx))]
set_option maxRecDepth 100000 in
set_option maxHeartbeats 400000 in
theorem rat_any (R : Rt) (s : ByteArray) (w : World) (h : Rs w R) (hl : R.l.length ≤ 1000) :
    Calls Try.prog 25 #[.pointer (some ⟨R.b, 0, none⟩), .string s] w fun e w' => e = .returned (.tuple #[.int .i64 (atP R.l s : Nat), .bool (thereR R.l s)]) ∧ Below w.heap.size w w' := by
  obtain ⟨p, cap, hlv⟩ := h.shape
  have c0 := h.c0
  rw [hlv] at c0
  obtain ⟨n, hn⟩ : ∃ n, R.l.length = n := ⟨_, rfl⟩
  rw [hn] at c0 hl
  have hN := hidP hn
  have hH := hidP h
  have hlvH := hidP hlv
  clear h hn hlv
  go_enter Try.func25, Try.ntmps25
  go_wp2_with fail
  go_loop [6] (fun a => ∃ i : Nat, i ≤ n ∧ a = .int .i64 i ∧ Hid (∀ j x, j < i → R.l[j]? = some x → sLt x.nm s = true)) (fun a => (n - (intOf a).toNat))
  case atStart => exact ⟨0, by omega, rfl, fun j x hj => by omega⟩
  case round =>
    obtain ⟨i, hi, rfl, hno⟩ := hrel
    by_cases hlt : i < n
    · have hltI : (i : Int) < (n : Int) := by omega
      obtain ⟨x, hx⟩ : ∃ x, R.l[i]? = some x := ⟨_, List.getElem?_eq_getElem (by have := hN.out; omega)⟩
      obtain ⟨g, cap2, e1, e2, e3⟩ := hH.out.at hx
      rw [hlvH.out] at e1
      injection e1 with e1 _ _
      subst e1
      have hno2 := hno
      cases hc : sLt x.nm s with
      | true =>
        have hnx : Hid (∀ j y, j < i + 1 → R.l[j]? = some y → sLt y.nm s = true) := fun j y hj hy => by
          rcases Nat.lt_or_ge j i with q | q
          · exact hno2.out j y q hy
          · obtain rfl : j = i := by omega
            rw [hx] at hy
            cases hy
            exact hc
        unfold sLt at hc
        obtain ⟨xn, hxn⟩ : ∃ xn, x.nm = xn := ⟨_, rfl⟩
        rw [hxn] at hc e2
        clear hx e3 hno hno2 hxn
        go_wp2_with fail
        exact ⟨⟨i + 1, by omega, by go_num, hnx⟩, by simp [intOf]; omega⟩
      | false =>
        have hat : Hid (atP R.l s = i ∧ thereR R.l s = decide (x.nm = s)) := by
          have h1 : atP R.l s = i := atP_eq (by have := hN.out; omega) hno2.out (fun y hy => by rw [hx] at hy; cases hy; exact hc)
          refine ⟨h1, ?_⟩
          unfold thereR
          rw [h1, hx]
        unfold sLt at hc
        obtain ⟨xn, hxn⟩ : ∃ xn, x.nm = xn := ⟨_, rfl⟩
        rw [hxn] at hc e2 hat
        have heq : (xn.toList == s.toList) = decide (xn = s) := by
          rw [Bool.eq_iff_iff, bytes_beq_iff]; simp
        clear hx e3 hno hno2 hxn
        go_wp2_with fail
        go_quiet (fail)
        go_wp2_with fail
        go_ret2
        exact ⟨by rw [hat.out.1, hat.out.2]; rfl, below_drewN (Below.refl _ _) _⟩
    · have hge : ¬ (i : Int) < (n : Int) := by omega
      have hat : Hid (atP R.l s = i ∧ thereR R.l s = false) := by
        have hnone : R.l[i]? = none := List.getElem?_eq_none (by have := hN.out; omega)
        have h1 : atP R.l s = i := atP_eq (by have := hN.out; omega) hno.out (fun y hy => by rw [hnone] at hy; cases hy)
        refine ⟨h1, ?_⟩
        unfold thereR
        rw [h1, hnone]
      clear hno
      go_wp2_with fail
      go_quiet (fail)
      go_wp2_with fail
      go_ret2
      exact ⟨by rw [hat.out.1, hat.out.2]; rfl, below_drewN (Below.refl _ _) _⟩
end Go.Proofs.Ytfmceioiglmepaa
