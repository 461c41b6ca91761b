/- Loops that a law has made; known. -/
import Derived.Test.YtdcidlgmnnaahaaGreatBan
import Derived.Test.YtdcidlgmnnaahaaGreatBao
import Derived.Test.YtdcidlgmnnaahaaGreatBaw
import Derived.Test.YtdcidlgmnnaahaaGreatBax
namespace Go.Proofs.YtdcidlgmnnaahaaGreat
open Go.RowKit Go.Shelf Go.Lib
attribute [local go_sem] Oper.semAt_some
/-- A loop that a law has made. -/
def Lk (w : World) (lb : Nat) (L : List Wt) (n : Nat) (T : List Du) (W : World) : Prop := ∃ E, Lo W lb E L n T ∧ (∀ k, E k → w.heap.size ≤ k) ∧ Below w.heap.size w W
theorem Lk.step {w : World} {lb : Nat} {L L' : List Wt} {n n' : Nat} {T T' : List Du} {W : World} (h : Lk w lb L n T W) {f : Nat} {args : Array Value} {R : Ending → Prop} (hC : ∀ E, Lo W lb E L n T → Calls Tryz.prog f args W fun e V => R e ∧ Lg W lb E L' n' T' V) : Calls Tryz.prog f args W fun e V => R e ∧ Lk w lb L' n' T' V := by
  obtain ⟨E, h1, h2, h3⟩ := h
  refine (hC E h1).mono ?_
  rintro e V ⟨hr, E', g1, g2, g3⟩
  exact ⟨hr, E', g1, fun k hk => (g3 k hk).elim (h2 k) (fun s => Nat.le_trans h3.size s), h3.trans (g2.toBelow h3.size fun k hk e => by have := h2 k e; omega)⟩
theorem Lk.below {w : World} {lb : Nat} {L : List Wt} {n : Nat} {T : List Du} {W V : World} (h : Lk w lb L n T W) (b : Below W.heap.size W V) : Lk w lb L n T V := by
  obtain ⟨E, h1, h2, h3⟩ := h
  exact ⟨E, h1.below b, h2, h3.trans (b.mono h3.size)⟩
theorem Lk.w {w : World} {lb : Nat} {L : List Wt} {n : Nat} {T : List Du} {W : World} (h : Lk w lb L n T W) : Below w.heap.size w W := by
  obtain ⟨E, h1, h2, h3⟩ := h
  exact h3
theorem Lk.ts {w : World} {lb : Nat} {L : List Wt} {n : Nat} {T : List Du} {W : World} (h : Lk w lb L n T W) : Ts T := by
  obtain ⟨E, h1, h2, h3⟩ := h
  exact h1.ts
theorem newk {w W : World} (b : Below w.heap.size w W) : Calls Tryz.prog 5 #[] W fun e V => e = .returned (lp W.heap.size) ∧ Lk w W.heap.size [] 0 [] V := by
  refine (newl_any W).mono ?_
  rintro e V ⟨rfl, l, b'⟩
  exact ⟨rfl, _, l, fun k hk => by rw [hk]; exact b.size, b.trans (b'.mono b.size)⟩
theorem pushk {w W : World} {lb : Nat} {L : List Wt} {n : Nat} {T : List Du} (h : Lk w lb L n T W) (hn : n < 100000) (k p s : Int) (u x : ByteArray) (hk1 : 1 ≤ k) (hk2 : k ≤ 6) :
    Calls Tryz.prog 6 #[lp lb, .agg #[.int .i64 k, .int .i64 p, .int .i64 s, .string u, .string x]] W fun e V => e = .returned (.int .i64 0) ∧ Lk w lb (insA keyW (mkW k p s u x n hn) L) (n + 1) T V := h.step fun _ h => pushl_any h hn k p s u x hk1 hk2
theorem pushk_bad {w W : World} {lb : Nat} {L : List Wt} {n : Nat} {T : List Du} (h : Lk w lb L n T W) (k p s : Int) (u x : ByteArray) (hk : k < 1 ∨ 6 < k) :
    Calls Tryz.prog 6 #[lp lb, .agg #[.int .i64 k, .int .i64 p, .int .i64 s, .string u, .string x]] W fun e V => e = .returned (.int .i64 140) ∧ Lk w lb L n T V := h.step fun _ h => pushl_bad h k p s u x hk
theorem nextk_some {w W : World} {lb : Nat} {y : Wt} {L : List Wt} {n : Nat} {T : List Du} (h : Lk w lb (y :: L) n T W) :
    Calls Tryz.prog 8 #[lp lb] W fun e V => e = .returned (.tuple #[.agg #[.int .i64 y.k, .int .i64 y.p, .int .i64 y.s, .string y.u, .string y.x], .bool true]) ∧ Lk w lb L n T V := h.step fun _ h => nextl_some h
theorem nextk_none {w W : World} {lb : Nat} {n : Nat} {T : List Du} (h : Lk w lb [] n T W) :
    Calls Tryz.prog 8 #[lp lb] W fun e V => e = .returned (.tuple #[.agg #[.int .i64 0, .int .i64 0, .int .i64 0, .string ⟨#[]⟩, .string ⟨#[]⟩], .bool false]) ∧ Lk w lb [] n T V := h.step fun _ h => (nextl_none h).mono fun _ _ q => ⟨q.1, h.same q.2⟩
theorem lenk {w W : World} {lb : Nat} {L : List Wt} {n : Nat} {T : List Du} (h : Lk w lb L n T W) : Calls Tryz.prog 17 #[lp lb] W fun e V => e = .returned (.int .i64 L.length) ∧ Lk w lb L n T V := h.step fun _ h => (lenl_any h).mono fun _ _ q => ⟨q.1, h.same (by rw [q.2]; exact Below.refl _ _)⟩
theorem setk {w W : World} {lb : Nat} {L : List Wt} {n : Nat} {T : List Du} (h : Lk w lb L n T W) (k : TK) (at_ : Int) (hat : at_ ≠ 9223372036854775807) (hl : T.length < 100000) :
    Calls Tryz.prog 10 #[lp lb, .string k.1.1, .string k.1.2, .int .i64 at_] W fun e V => e = .returned (.tuple #[]) ∧ Lk w lb L n (setT k at_ T) V := h.step fun _ h => setl_any h k at_ hat hl
theorem soonk {w W : World} {lb : Nat} {L : List Wt} {n : Nat} {T : List Du} (h : Lk w lb L n T W) : Calls Tryz.prog 18 #[lp lb] W fun e V => e = .returned (.int .i64 ((soon T).getD 9223372036854775807)) ∧ Lk w lb L n T V := h.step fun _ h => (soonest_any h).mono fun _ _ q => ⟨q.1, h.same q.2⟩
theorem elapk {w W : World} {lb : Nat} {L : List Wt} {n : Nat} {T : List Du} (h : Lk w lb L n T W) (now : Int) :
    Calls Tryz.prog 13 #[lp lb, .int .i64 now] W fun e V => ∃ p c, e = .returned (.slice p (T.filter fun d => decide (d.t ≤ now)).length c) ∧ Md.SV V (.slice p (T.filter fun d => decide (d.t ≤ now)).length c) (T.filter fun d => decide (d.t ≤ now)) ∧ Lk w lb L n (T.filter fun d => !decide (d.t ≤ now)) V := by
  obtain ⟨E, h1, h2, h3⟩ := h
  refine (elapse_any h1 now).mono ?_
  rintro e V ⟨v, rfl, sv, l, m, hv⟩
  obtain ⟨p, c, rfl⟩ := sv.shape
  exact ⟨p, c, rfl, sv, E, l, h2, h3.trans (m.toBelow h3.size fun k hk e => by have := h2 k e; omega)⟩
/-- The same, with a block beside. -/
theorem Lk.stepB {w : World} {lb b : Nat} {L L' : List Wt} {n n' : Nat} {T T' : List Du} {W : World} (h : Lk w lb L n T W) {A : World} (bA : Below W.heap.size W A) (hb1 : W.heap.size ≤ b) (hb2 : b < A.heap.size) {f : Nat} {args : Array Value} {R : Ending → Prop} (hC : ∀ E, Lo A lb E L n T → Calls Tryz.prog f args A fun e V => R e ∧ Lg A lb E L' n' T' V) : Calls Tryz.prog f args A fun e V => R e ∧ Lk w lb L' n' T' V ∧ (∀ j v, A.cell? ⟨b, j, none⟩ = some v → V.cell? ⟨b, j, none⟩ = some v) ∧ ∀ j, V.frozen? ⟨b, j, none⟩ = A.frozen? ⟨b, j, none⟩ := by
  obtain ⟨E, h1, h2, h3⟩ := h
  have lE := h1.lt.1
  have nb : ¬ E b := fun e => by have := lE b e; omega
  have hA3 := h3.trans (bA.mono h3.size)
  refine (hC E (h1.below bA)).mono ?_
  rintro e V ⟨hr, E', g1, g2, g3⟩
  exact ⟨hr, ⟨E', g1, fun k hk => (g3 k hk).elim (h2 k) (fun s => Nat.le_trans hA3.size s), hA3.trans (g2.toBelow hA3.size fun k hk e => by have := h2 k e; omega)⟩, fun j v c => g2.cell (a := ⟨b, j, none⟩) nb c, fun j => g2.froz (a := ⟨b, j, none⟩) nb hb2⟩
def tA : ByteArray := ⟨#[97]⟩
def tB : ByteArray := ⟨#[98]⟩
def tX : ByteArray := ⟨#[120]⟩
def kA : TK := ⟨(⟨#[97]⟩, ⟨#[120]⟩), by constructor <;> rw [Go.Lib.toList_data] <;> decide⟩
set_option maxRecDepth 100000 in
set_option maxHeartbeats 4000000 in
theorem known_any (w : World) : Calls Tryz.prog 4 #[] w fun e W => e = .returned (.bool true) ∧ Below w.heap.size w W := by
  obtain ⟨lb, hlb⟩ : ∃ lb, w.heap.size = lb := ⟨_, rfl⟩
  have hN := newk (Below.refl w.heap.size w)
  rw [hlb] at hN
  unfold lp at hN
  go_enter Tryz.func4, Tryz.ntmps4
  go_wp2_with fail
  refine hN.mono ?_
  rintro e W1 ⟨rfl, h1⟩
  have hP1 := hidP (pushk h1 (by omega) 5 0 0 ⟨#[97]⟩ ⟨#[]⟩ (by decide) (by decide))
  unfold lp at hP1
  clear hN h1
  go_wp2_with fail
  refine hP1.out.mono ?_
  rintro e W2 ⟨rfl, h2⟩
  have hP2 := hidP (pushk h2 (by omega) 1 0 0 ⟨#[98]⟩ ⟨#[]⟩ (by decide) (by decide))
  unfold lp at hP2
  clear hP1 h2
  go_wp2_with fail
  refine hP2.out.mono ?_
  rintro e W3 ⟨rfl, h3⟩
  have e3 : insA keyW (mkW 1 0 0 ⟨#[98]⟩ ⟨#[]⟩ 1 (by omega)) (insA keyW (mkW 5 0 0 ⟨#[97]⟩ ⟨#[]⟩ 0 (by omega)) []) = [mkW 1 0 0 ⟨#[98]⟩ ⟨#[]⟩ 1 (by omega), mkW 5 0 0 ⟨#[97]⟩ ⟨#[]⟩ 0 (by omega)] := by
    show (if _ then _ else _) = _
    exact if_pos ((keyW_less _ _).2 (.inl (by show (1 : Int) < 5; decide)))
  have h3' : Lk w lb [mkW 1 0 0 ⟨#[98]⟩ ⟨#[]⟩ 1 (by omega), mkW 5 0 0 ⟨#[97]⟩ ⟨#[]⟩ 0 (by omega)] 2 [] W3 := by rw [← e3]; exact h3
  have hX : Hid (Calls Tryz.prog 8 #[.pointer (some ⟨lb, 0, none⟩)] W3 fun e V => e = .returned (.tuple #[.agg #[.int .i64 1, .int .i64 0, .int .i64 0, .string ⟨#[98]⟩, .string ⟨#[]⟩], .bool true]) ∧ Lk w lb [mkW 5 0 0 ⟨#[97]⟩ ⟨#[]⟩ 0 (by omega)] 2 [] V) := nextk_some h3'
  clear hP2 h3 e3 h3'
  go_wp2_with fail
  refine hX.out.mono ?_
  rintro e W4 ⟨rfl, h4⟩
  obtain ⟨A0, hA0⟩ : ∃ A0, W4.alloc (.cells #[.int .i64 1, .int .i64 0, .int .i64 0, .string ⟨#[98]⟩, .string ⟨#[]⟩] 32) = A0 := ⟨_, rfl⟩
  obtain ⟨ba, hba⟩ : ∃ ba, W4.heap.size = ba := ⟨_, rfl⟩
  obtain ⟨A, hA⟩ : ∃ A, A0.setCell ⟨ba, 4, none⟩ (.string ⟨#[]⟩) = A := ⟨_, rfl⟩
  have bA0 : Below W4.heap.size W4 A0 := by rw [← hA0]; exact (Below.refl _ _).alloc (Nat.le_refl _) _
  have cA0 : A0.cell? ⟨ba, 3, none⟩ = some (.string ⟨#[98]⟩) := by rw [← hA0]; exact cell_at hba rfl
  have cA4 : A0.cell? ⟨ba, 4, none⟩ = some (.string ⟨#[]⟩) := by rw [← hA0]; exact cell_at hba rfl
  have fA4 : A0.frozen? ⟨ba, 4, none⟩ = false := by rw [← hA0]; exact froz_new hba
  have bA : Below W4.heap.size W4 A := by
    refine bA0.trans ?_
    rw [← hA]
    exact (Cv.one A0 ba 4 _).mv.toBelow (n := W4.heap.size) bA0.size (fun k hk e => by obtain ⟨j, e, _⟩ := e; omega)
  have cA : A.cell? ⟨ba, 3, none⟩ = some (.string ⟨#[98]⟩) := by rw [← hA]; exact (World.cell?_setCell_other _ _ _ _ (by simp)).trans cA0
  have hS := hidP (h4.stepB (b := ba) (R := fun e => e = .returned (.tuple #[])) bA (by omega) (by rw [← hA, ← hA0]; simp [hba]) (fun E h => setl_any h kA 5 (by decide) (by decide)))
  have hS' : Hid (Calls Tryz.prog 10 #[.pointer (some ⟨lb, 0, none⟩), .string ⟨#[97]⟩, .string ⟨#[120]⟩, .int .i64 5] A fun e V => e = .returned (.tuple #[]) ∧ Lk w lb [mkW 5 0 0 ⟨#[97]⟩ ⟨#[]⟩ 0 (by omega)] 2 [mkD kA 5] V ∧ V.cell? ⟨ba, 3, none⟩ = some (.string ⟨#[98]⟩)) := by
    refine hS.out.mono ?_
    rintro e V ⟨rfl, h, hc, _⟩
    exact ⟨rfl, h, hc 3 _ cA⟩
  clear hX h4 hS bA cA bA0 cA0
  go_wp2_with (first | rw [hA0] | rw [hA])
  refine hS'.out.mono ?_
  rintro e W5 ⟨rfl, h5, c5⟩
  have hE4 := hidP (elapk h5 4)
  have hE4' : Hid (Calls Tryz.prog 13 #[.pointer (some ⟨lb, 0, none⟩), .int .i64 4] W5 fun e V => ∃ p c, e = .returned (.slice p 0 c) ∧ Lk w lb [mkW 5 0 0 ⟨#[97]⟩ ⟨#[]⟩ 0 (by omega)] 2 [mkD kA 5] V) := by
    refine hE4.out.mono ?_
    rintro e V ⟨p, c, rfl, _, h⟩
    exact ⟨p, c, rfl, h⟩
  clear hS' h5 hE4 hA hba hA0 cA4 fA4
  go_wp2_with fail
  refine hE4'.out.mono ?_
  rintro e W6 ⟨p, c, rfl, h6⟩
  have hE5 := hidP (elapk h6 5)
  have hE5' : Hid (Calls Tryz.prog 13 #[.pointer (some ⟨lb, 0, none⟩), .int .i64 5] W6 fun e V => ∃ p c, e = .returned (.slice p 1 c) ∧ Lk w lb [mkW 5 0 0 ⟨#[97]⟩ ⟨#[]⟩ 0 (by omega)] 2 [] V) := by
    refine hE5.out.mono ?_
    rintro e V ⟨p, c, rfl, _, h⟩
    exact ⟨p, c, rfl, h⟩
  clear hE4' h6 hE5 c5
  go_wp2_with fail
  refine hE5'.out.mono ?_
  rintro e W7 ⟨p', c', rfl, h7⟩
  have hO := hidP (soonk h7)
  unfold lp at hO
  have hO' : Hid (Calls Tryz.prog 18 #[.pointer (some ⟨lb, 0, none⟩)] W7 fun e V => e = .returned (.int .i64 9223372036854775807) ∧ Lk w lb [mkW 5 0 0 ⟨#[97]⟩ ⟨#[]⟩ 0 (by omega)] 2 [] V) := hO.out
  clear hE5' h7 hO
  go_wp2_with fail
  refine hO'.out.mono ?_
  rintro e W8 ⟨rfl, h8⟩
  have hB := hidP (pushk_bad h8 0 0 0 ⟨#[]⟩ ⟨#[]⟩ (.inl (by decide)))
  unfold lp at hB
  clear hO' h8
  go_wp2_with fail
  refine hB.out.mono ?_
  rintro e W9 ⟨rfl, h9⟩
  have fin := hidP h9.w
  clear hB h9
  go_wp2_with fail
  go_ret
  exact ⟨rfl, fin.out⟩
end Go.Proofs.YtdcidlgmnnaahaaGreat
