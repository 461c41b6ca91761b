/- The walk of FileReads. -/
import Derived.Test.YtmoafagemdnifaaDoorF6
import Derived.Test.YtmoafagemdnifaaDoorF8
namespace Go.Proofs.YtmoafagemdnifaaDoor
open Go.RowKit Go.Shelf Lin
theorem filL_len (R : Res) (hR : ∀ l, R = .ok l → l.length ≤ 5000) (a : List St) (h : filL R = .ok a) : a.length ≤ 5000 := by
  cases R with
  | error e => cases h
  | ok l =>
    have hp : ∀ (l : List Ln) (s : ByteArray) (acc a : List St), pf s acc l = .ok a → a.length ≤ acc.length + l.length := by
      intro l
      induction l with
      | nil => intro s acc a h; simp [pf] at h; subst h; simp
      | cons x r ih =>
        intro s acc a h
        unfold pf at h
        split at h
        · have := ih _ _ _ h; simp only [List.length_cons]; omega
        · split at h
          · cases h
          · have := ih _ _ _ h; simp only [List.length_append, List.length_cons, List.length_nil] at this ⊢; omega
    unfold filL at h
    simp only at h
    cases hq : pf ⟨#[]⟩ [] l with
    | error n => rw [hq] at h; cases h
    | ok b =>
      rw [hq] at h; cases h
      have := hp l _ _ _ hq
      have := hR l rfl
      simp only [List.length_nil] at *; omega
theorem fil_len (s : L) (a : List St) (h : fil s = .ok a) : a.length ≤ 5000 := filL_len _ (lns_len s) a h
theorem rparse_any (s : ByteArray) (w : World) : Calls Tryd.prog 9 #[.string s] w (ParseP (fil s.data.toList) w) :=
  rparse_lines s w (lns s.data.toList) (fun w => rlines_any s w) (lns_len _) (lns_err _)
/-- The number, the error and the settings that are told. -/
def tri : FRes → Int × Int × List St
  | .ok l => (0, 0, l)
  | .error (n, k) => (n, k, [])
theorem parseP_one {R : FRes} {n k : Int} {l : List St} (hR : tri R = (n, k, l)) {w : World} {e : Ending} {w' : World} (h : ParseP R w e w') : ∃ v, e = .returned (.tuple #[.agg #[v], .int .i64 n, .int .i64 k]) ∧ w'.ownsRow w.heap.size 44 4 v l.length (stsC l) ∧ Below w.heap.size w w' := by
  cases R with
  | error e =>
    obtain ⟨n', k'⟩ := e
    simp only [tri, Prod.mk.injEq] at hR
    obtain ⟨rfl, rfl, rfl⟩ := hR
    exact ⟨_, h.1, World.ownsRow_nil _ _ _ _, h.2⟩
  | ok l' =>
    simp only [tri, Prod.mk.injEq] at hR
    obtain ⟨rfl, rfl, rfl⟩ := hR
    exact h
set_option maxRecDepth 100000 in
set_option maxHeartbeats 4000000 in
theorem reads_walk (s : ByteArray) (w : World) (hg : Mx w) : Calls Tryd.prog 3 #[.string s] w fun e w' => e = .returned (.bool true) ∧ Below w.heap.size w w' := by
  obtain ⟨R, hR⟩ : ∃ R, fil s.data.toList = R := ⟨_, rfl⟩
  obtain ⟨⟨n, k, l⟩, hT⟩ : ∃ T, tri R = T := ⟨_, rfl⟩
  have hll : l.length ≤ 5000 := by
    cases R with
    | error e => obtain ⟨n', k'⟩ := e; simp only [tri, Prod.mk.injEq] at hT; rw [← hT.2.2]; simp
    | ok a => simp only [tri, Prod.mk.injEq] at hT; rw [← hT.2.2]; exact fil_len _ a hR
  have hp1 : ∀ w, Mx w → Calls Tryd.prog 8 #[.string s] w fun e w' => ∃ v, e = .returned (.tuple #[.agg #[v], .int .i64 n, .int .i64 k]) ∧ w'.ownsRow w.heap.size 44 4 v l.length (stsC l) ∧ Below w.heap.size w w' := fun w hg => (fparse_any s w hg).mono (fun e w' h => parseP_one hT (hR ▸ h))
  have hp2 : ∀ w, Calls Tryd.prog 9 #[.string s] w fun e w' => ∃ v, e = .returned (.tuple #[.agg #[v], .int .i64 n, .int .i64 k]) ∧ w'.ownsRow w.heap.size 44 4 v l.length (stsC l) ∧ Below w.heap.size w w' := fun w => (rparse_any s w).mono (fun e w' h => parseP_one hT (hR ▸ h))
  clear hR hT
  go_enter Tryd.func3, Tryd.ntmps3
  go_wp2_with fail
  refine (known_any w hg).mono ?_
  rintro e w1 ⟨rfl, hb1⟩
  by_cases hz : 5000 < s.size
  · have hzI : (5000 : Int) < (s.size : Int) := by omega
    go_wp2_with fail
    go_ret
    exact ⟨rfl, hb1⟩
  · have hzI : decide ((5000 : Int) < (s.size : Int)) = false := by simp; omega
    have hzJ : ¬ (5000 : Int) < (s.size : Int) := by omega
    go_wp2_with fail
    refine (hp1 w1 (hg.below hb1)).mono ?_
    rintro e w2 ⟨v1, rfl, ho1, hb2⟩
    dsimp only
    obtain ⟨a1, m1, c1, rfl⟩ := own_slice ho1
    obtain ⟨W2, hW2⟩ : ∃ W2, w2.alloc (.cells #[.slice a1 m1 c1] 25) = W2 := ⟨_, rfl⟩
    have mW2 : Mv (fun _ => False) w2 W2 := by rw [← hW2]; exact Mv.alloc _ _ _
    have q1 : W2.cell? ⟨w2.heap.size, 0, none⟩ = some (.slice a1 m1 c1) := by rw [← hW2]; exact cell_at rfl rfl
    have hbW2 : Below w.heap.size w W2 := (hb1.trans (hb2.mono hb1.size)).trans (mW2.toBelow (by have := hb1.size; have := hb2.size; omega) (fun _ _ h => h))
    have hs1 : SlIs (fun _ => False) W2 (.slice a1 m1 c1) l := (own_sl _ (fun _ _ h => h) ho1).mv mW2 (Gr.refl _ _)
    have hs1H : Hid (SlIs (fun _ => False) W2 (.slice a1 m1 c1) l) := hs1
    clear ho1 hp1 hs1
    go_wp2_with (rw [hW2])
    refine (hp2 W2).mono ?_
    rintro e w3 ⟨v2, rfl, ho2, hb3⟩
    dsimp only
    obtain ⟨a2, m2, c2, rfl⟩ := own_slice ho2
    obtain ⟨W3, hW3⟩ : ∃ W3, w3.alloc (.cells #[.slice a2 m2 c2] 25) = W3 := ⟨_, rfl⟩
    have m3 : Mv (fun _ => False) W2 w3 := Mv.below hb3
    have mW3 : Mv (fun _ => False) w3 W3 := by rw [← hW3]; exact Mv.alloc _ _ _
    have q2 : W3.cell? ⟨w3.heap.size, 0, none⟩ = some (.slice a2 m2 c2) := by rw [← hW3]; exact cell_at rfl rfl
    have q1' := mW3.cell (fun h => h) (m3.cell (fun h => h) q1)
    have hbW3 : Below w.heap.size w W3 := (hbW2.trans (hb3.mono hbW2.size)).trans (mW3.toBelow (by have := hbW2.size; have := hb3.size; omega) (fun _ _ h => h))
    have hsame := same_any (.slice a1 m1 c1) (.slice a2 m2 c2) l W3 ((hs1H.out.mv m3 (Gr.refl _ _)).mv mW3 (Gr.refl _ _)) ((own_sl _ (fun _ _ h => h) ho2).mv mW3 (Gr.refl _ _)) (by omega)
    clear ho2 hp2
    go_wp2_with (rw [hW3])
    refine hsame.mono ?_
    rintro e w4 ⟨rfl, hb4⟩
    dsimp only
    go_wp2_with fail
    go_ret
    exact ⟨rfl, hbW3.trans (hb4.mono hbW3.size)⟩
end Go.Proofs.YtmoafagemdnifaaDoor
