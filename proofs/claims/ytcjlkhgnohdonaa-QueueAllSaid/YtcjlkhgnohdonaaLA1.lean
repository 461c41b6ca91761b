/- QueueAll: its takers. -/
import Derived.Test.YtcjlkhgnohdonaaQiY
import Derived.Test.YtcjlkhgnohdonaaQK
import Derived.Test.YtcjlkhgnohdonaaRW
namespace Go.Proofs.Ytcjlkhgnohdonaa
open Go.RowKit Go.Shelf Go.Lib
attribute [local go_sem] Oper.semAt_some
theorem infoZ : ∃ i, Try.prog.info? 3 = some i ∧ i.zero = some (.int .i64 0) ∧ i.size = 1 ∧ i.bytes = 8 := by
  have h : (Try.prog.info? 3).map (fun i => (i.zero, i.size, i.bytes)) = some (some (.int .i64 0), 1, 8) := by kernel_rfl
  cases e : Try.prog.info? 3 with
  | none => rw [e] at h; cases h
  | some i => rw [e] at h; simp at h; exact ⟨i, rfl, h⟩
def ints (l : List Int) : List Value := l.map fun x => .int .i64 x
theorem own_ltZ {W : World} {v : Value} {n : Nat} {xs : List Value} {e : TypeId} {s : Nat} (h : W.ownsRow 0 e s v n xs) {k : Nat} (hk : v.ownBlock = some k) : k < W.heap.size := by
  rcases h.2 with ⟨rfl, _⟩ | ⟨g, cap, cur, rfl, _, hg, _⟩
  · cases hk
  · have : g = k := by simpa [Value.ownBlock] using hk
    subst this
    exact lt_of_heap hg
/-- The row of what is told so far grows by one. -/
theorem app_int1 {W : World} {v : Value} {l : List Int} {x : Int} {g : Nat} {c : Nat} (h : W.ownsRow 0 3 1 v l.length (ints l)) (hc : W.cell? ⟨g, 0, none⟩ = some (.int .i64 x)) (hl : l.length ≤ 100000) :
    ∃ v' W', (Builtin.append_ #[44, 44] 44 #[v, .slice (some ⟨g, 0, none⟩) 1 c]).run Try.prog W = .ok v' W' ∧ W'.ownsRow 0 3 1 v' (l ++ [x]).length (ints (l ++ [x])) ∧ W.grownBy W' v.ownBlock ∧ (v'.ownBlock = v.ownBlock ∨ v'.ownBlock = some W.heap.size) ∧ ∃ p' c', v' = .slice p' (l ++ [x]).length c' := by
  obtain ⟨i0, hi, hz0, hz1, hz2⟩ := infoZ
  obtain ⟨v', W', hrun, hown, hgr, _, hat⟩ := run_append_own_at (P := Try.prog) W 0 44 44 3 i0 (.int .i64 0) 1 8 Try.underlying44 hi hz0 hz1 hz2 rfl (by decide) v _ _ h ⟨g, 0, none⟩ 1 c [.int .i64 x] rfl (fun j u hj => by
    match j, hj with
    | 0, hj => simp at hj; subst hj; exact hc) (fun u hu => by obtain rfl := List.mem_singleton.1 hu; rfl) (by unfold maxLen; omega) (by omega) (Nat.zero_le _)
  have e : ints l ++ [.int .i64 x] = ints (l ++ [x]) := by simp [ints]
  rw [e] at hown
  have e2 : (l ++ [x]).length = l.length + 1 := by simp
  rw [e2]
  refine ⟨v', W', hrun, hown, hgr, hat, ?_⟩
  rcases hown.2 with ⟨_, z⟩ | ⟨g, cp, cur, z, _⟩
  · omega
  · exact ⟨_, _, z⟩
/-- The first taker's: what it was told lies in a row of its own. -/
def J2 (L : List Int) (fb lb : Nat) (p0 : Option Addr) (n c0 : Nat) (rest : List Int) (D : Nat → Prop) (W : World) : Prop :=
  ∃ v done, done ++ rest = L ∧ (∀ k, D k ↔ (k = fb ∨ v.ownBlock = some k)) ∧ Cl fb v W ∧ W.ownsRow 0 3 1 v done.length (ints done) ∧ v.ownBlock ≠ some fb ∧ v.ownBlock ≠ some lb ∧ W.cell? ⟨lb, 0, none⟩ = some (.slice p0 n c0)
theorem J2.ter {L : List Int} {fb lb : Nat} {p0 : Option Addr} {n c0 B : Nat} (hlb : lb < B) : Ter B (J2 L fb lb p0 n c0) :=
  ⟨fun s E W V h m => by
    obtain ⟨v, done, h1, h2, h3, h4, h5, h6, h7⟩ := h
    exact ⟨v, done, h1, h2, h3.mv m (fun f => f.1 ((h2 fb).2 (.inl rfl))), own_mv h4 m (fun k hk f => f.1 ((h2 k).2 (.inr hk))), h5, h6, m.cell (a := ⟨lb, 0, none⟩) (fun f => by have : B ≤ lb := f.2; omega) h7⟩, fun s E W h k hk => by
    obtain ⟨v, done, h1, h2, h3, h4, h5⟩ := h
    rcases (h2 k).1 hk with rfl | hk
    · exact h3.lt
    · exact own_ltZ h4 hk⟩
def JN (_ : Nat → Prop) (_ : World) : Prop := False
set_option maxRecDepth 100000 in
set_option maxHeartbeats 4000000 in
theorem tak2 {L : List Int} {fb lb : Nat} {p0 : Option Addr} {n c0 : Nat} (hn : L.length = n) (hL : n ≤ 1000) (hfl : fb ≠ lb) : Qi.Tak 20 #[.pointer (some ⟨fb, 0, none⟩), .pointer (some ⟨lb, 0, none⟩)] (J2 L fb lb p0 n c0) JN := by
  rintro x rest D W ⟨v, done, h1, h2, h3, h4, h5, h6, h7⟩
  have hdl : done.length + rest.length + 1 = n := by rw [← hn, ← h1]; simp; omega
  obtain ⟨pv, cv, hv⟩ : ∃ p c, v = .slice p done.length c := by
    rcases h4.2 with ⟨e, z⟩ | ⟨g, cp, cur, e, _⟩
    · exact ⟨none, 0, by rw [e, z]⟩
    · exact ⟨_, _, e⟩
  obtain ⟨A, hA⟩ : ∃ A, W.alloc (.cells #[.int .i64 x] 3) = A := ⟨_, rfl⟩
  have mA : ∀ F, Mv F W A := fun F => by rw [← hA]; exact Mv.alloc _ _ _
  have oA := own_mv h4 (mA fun _ => False) (fun _ _ h => h)
  have cA : A.cell? ⟨W.heap.size, 0, none⟩ = some (.int .i64 x) := by rw [← hA]; exact cell_at rfl rfl
  obtain ⟨v', A2, hrun, own2, gr2, at2, p', c', hv'⟩ := app_int1 (c := 1) oA cA (by omega)
  have m2 : Mv (fun k => v.ownBlock = some k) A A2 := (Mv.refl _ _).grown gr2 (fun k e => .inl e)
  obtain ⟨A3, hA3⟩ : ∃ A3, A2.setCell ⟨fb, 0, none⟩ v' = A3 := ⟨_, rfl⟩
  have c2 := (h3.mv (mA fun _ => False) (fun h => h)).mv m2 h5
  have cl3 : Cl fb v' A3 := by rw [← hA3]; exact c2.set v'
  have m3 : Mv (fun k => k = fb) A2 A3 := by rw [← hA3]; exact Mv.set1 (E := fun k => k = fb) rfl _
  have l2 := (mA fun _ => False).cell (a := ⟨lb, 0, none⟩) (fun h => h) h7
  have l3 := m2.cell (a := ⟨lb, 0, none⟩) h6 l2
  have l4 := m3.cell (a := ⟨lb, 0, none⟩) (fun e => hfl (show fb = lb from (show lb = fb from e).symm)) l3
  have sA : A.heap.size = W.heap.size + 1 := by rw [← hA]; simp
  have lfb := h3.lt
  have llb : lb < W.heap.size := cell_lt h7
  have n5 : v'.ownBlock ≠ some fb := fun e => by
    rcases at2 with s | s
    · exact h5 (s ▸ e)
    · rw [s] at e; injection e with e; omega
  have n6 : v'.ownBlock ≠ some lb := fun e => by
    rcases at2 with s | s
    · exact h6 (s ▸ e)
    · rw [s] at e; injection e with e; omega
  have fin : Hid (Mv D W A3 ∧ ∃ D', Gr D W D' ∧ J2 L fb lb p0 n c0 rest D' A3) := by
    refine ⟨((mA D).trans' (m2.mono fun k _ e => (h2 k).2 (.inr e))).trans' (m3.mono fun k _ e => (h2 k).2 (.inl e)), fun k => k = fb ∨ v'.ownBlock = some k, fun k hk => ?_, v', done ++ [x], by rw [List.append_assoc]; exact h1, fun _ => Iff.rfl, cl3, own_mv own2 m3 (fun g hg e => n5 (e ▸ hg)), n5, n6, l4⟩
    rcases hk with e | e
    · exact .inl ((h2 k).2 (.inl e))
    · rcases at2 with s | s
      · exact .inl ((h2 k).2 (.inr (s ▸ e)))
      · rw [s] at e; injection e with e; exact .inr (by omega)
  have ec := h3.c
  have ec2 := c2.c
  have ef2 := c2.f
  have ec3 := cl3.c
  rw [hv] at hrun ec ec2
  obtain ⟨nd, hnd⟩ : ∃ nd, (done ++ [x]).length = nd := ⟨_, rfl⟩
  obtain ⟨no, hno⟩ : ∃ no, done.length = no := ⟨_, rfl⟩
  rw [hv', hnd, hno] at hrun
  rw [hno] at ec ec2
  rw [hv', hnd] at hA3 ec3
  have hndn : (nd : Int) ≤ (n : Int) := by
    have : nd = done.length + 1 := by rw [← hnd]; simp
    omega
  have hnI : (n : Int) ≤ 1000 := by omega
  clear h1 h2 h3 h4 h5 h6 h7 hv mA oA own2 gr2 at2 hv' m2 c2 cl3 m3 l2 sA lfb llb n5 n6 hnd hno hdl hL hn
  show Calls _ _ (#[.int .i64 x, .pointer (some ⟨fb, 0, none⟩), .pointer (some ⟨lb, 0, none⟩)]) _ _
  go_enter Try.func20, Try.ntmps20
  go_wp2_with (first | rw [hA] | rw [hA3] | (at_builtin; refine wpList_append_run rfl _ _ 44 rfl _ _ _ _ rfl rfl hrun ?_))
  go_ret
  exact ⟨fin.out.1, .inl ⟨by simp, fin.out.2⟩⟩
end Go.Proofs.Ytcjlkhgnohdonaa
