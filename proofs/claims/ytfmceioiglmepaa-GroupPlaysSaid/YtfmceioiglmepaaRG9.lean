/- The reference's Make: the walk. -/
import Derived.Test.YtfmceioiglmepaaRG8
namespace Go.Proofs.Ytfmceioiglmepaa
open Go.RowKit Go.Shelf Go.Lib
/-- The row of the groups turns. -/
theorem Rs.turnL {w w' : World} {R : Rt} (h : Rs w R) {lv : Value} {l : List RG} (mv : Mv (fun k => k = R.b ∨ R.lv.ownBlock = some k) w w') (c0 : w'.cell? ⟨R.b, 0, none⟩ = some lv) (c1 : w'.cell? ⟨R.b, 1, none⟩ = some R.nv) (f0 : w'.frozen? ⟨R.b, 0, none⟩ = false) (f1 : w'.frozen? ⟨R.b, 1, none⟩ = false)
    (row : w'.ownsRow 0 49 2 lv l.length (cs2 l)) (hl : ∀ x ∈ l, x ∈ R.l ∨ (nb x.v = none ∧ IR w' x.v x.ps)) (hb : ∀ k, lv.ownBlock = some k → R.lv.ownBlock = some k ∨ w.heap.size ≤ k) : RGoes R w { R with lv := lv, l := l } w' := by
  have hbl : R.b < w.heap.size := h.lt (.inl rfl)
  have off : ∀ x ∈ R.l, ∀ k, nb x.v = some k → ¬ (k = R.b ∨ R.lv.ownBlock = some k) := fun x hx k hk e => ((h.ps x hx).2 k hk).2 (by rcases e with e | e; exact .inl e; exact .inr (.inl e))
  refine ⟨⟨c0, c1, f0, f1, row, fun x hx => ?_, h.nts.mv mv (fun k hk e => by rcases e with e | e; exact (h.n2 k hk).1 e; exact (h.n2 k hk).2 e), fun k hk e => ?_, fun k hk => ⟨(h.n2 k hk).1, fun e => ?_⟩⟩, rfl, mv.mono (fun k _ e => by rcases e with e | e; exact .inl e; exact .inr (.inl e)), fun k hk => ?_, fun x hx k hk => by
    rcases hl x hx with q | q
    · exact .inl ⟨x, q, hk⟩
    · rw [q.1] at hk; cases hk⟩
  · rcases hl x hx with q | q
    · refine ⟨(h.ps x q).1.mv mv (off x q), fun k hk => ⟨Nat.lt_of_lt_of_le ((h.ps x q).2 k hk).1 mv.size, fun t => ?_⟩⟩
      have hx2 := (h.ps x q).2 k hk
      rcases t with t | t | t
      · exact hx2.2 (.inl t)
      · rcases hb k t with r | r
        · exact hx2.2 (.inr (.inl r))
        · omega
      · exact hx2.2 (.inr (.inr t))
    · exact ⟨q.2, fun k hk => by rw [q.1] at hk; cases hk⟩
  · rcases hb k hk with q | q
    · exact h.n1 k q e
    · have e' : k = R.b := e
      omega
  · rcases hb k e with q | q
    · exact (h.n2 k hk).2 q
    · have := h.nts.lt hk; omega
  · rcases hk with q | q | q
    · exact .inl (.inl q)
    · rcases hb k q with r | r
      · exact .inl (.inr (.inl r))
      · exact .inr r
    · exact .inl (.inr (.inr q))
def rmakeE (l : List RG) (s : ByteArray) : Int := if s = noName then 90 else if thereR l s then 91 else 0
set_option maxRecDepth 100000 in
set_option maxHeartbeats 400000 in
theorem rmake_bad (R : Rt) (s : ByteArray) (w : World) (h : Rs w R) (hl : R.l.length ≤ 1000) (hb : rmakeE R.l s ≠ 0) :
    Calls Try.prog 9 #[.pointer (some ⟨R.b, 0, none⟩), .string s] w fun e w' => e = .returned (.int .i64 (rmakeE R.l s)) ∧ Below w.heap.size w w' := by
  have hat := hidP (rat_any R s w h hl)
  unfold rmakeE at hb ⊢
  by_cases hs : s = noName
  · rw [if_pos hs] at hb ⊢
    subst hs
    simp only [noName] at hat ⊢
    clear h
    go_enter Try.func9, Try.ntmps9
    go_wp2_with fail
    refine hat.out.mono ?_
    rintro e w1 ⟨rfl, hb1⟩
    clear hat
    go_wp2_with fail
    go_ret
    exact ⟨rfl, hb1⟩
  · rw [if_neg hs] at hb ⊢
    have hd := not_empty hs
    cases ht : thereR R.l s with
    | false => rw [ht] at hb; exact absurd rfl hb
    | true =>
      rw [ht] at hat
      simp only [if_true]
      clear h hb ht hs
      go_enter Try.func9, Try.ntmps9
      go_wp2_with fail
      refine hat.out.mono ?_
      rintro e w1 ⟨rfl, hb1⟩
      clear hat
      go_wp2_with fail
      go_ret
      exact ⟨rfl, hb1⟩
end Go.Proofs.Ytfmceioiglmepaa
