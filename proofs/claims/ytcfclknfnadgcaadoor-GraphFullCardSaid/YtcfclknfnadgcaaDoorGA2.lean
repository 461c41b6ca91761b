/- Contracts of graph.New and Has. -/
import Derived.Test.YtcfclknfnadgcaaDoorGA1
namespace Go.Proofs.YtcfclknfnadgcaaDoor
open Go.RowKit Go.Shelf Go.Lib
theorem En.fresh {w : World} {b : Nat} (h : MS w b 0 fun _ => none) : En w b (fun _ => none) (fun _ _ => 0) 0 :=
  ⟨⟨0, Nat.le_refl _, h⟩, (fun _ _ h => by cases h), fun _ _ _ => rfl, (fun _ _ _ h => by cases h), (fun _ _ h => by cases h), fun _ _ => ⟨by omega, by omega⟩, fun _ _ h => absurd rfl h⟩
theorem fw_zero : fw (kL []) = fun _ _ => 0 := by
  funext x e
  unfold fw kL
  simp [cn]
theorem bw_zero : bw (kL []) = fun _ _ => 0 := by
  funext x e
  unfold bw kL
  simp [cn]
set_option maxRecDepth 100000 in
set_option maxHeartbeats 1000000 in
theorem new_any (w : World) : Calls Tryd.prog 8 #[] w fun e w' => ∃ S, e = .returned (.pointer (some ⟨S.gb, 0, none⟩)) ∧ Gs w' S [] ∧ (∀ k, hasG S k → w.heap.size ≤ k) ∧ S.c = 0 ∧ Below w.heap.size w w' := by
  obtain ⟨n, hn⟩ : ∃ n, w.heap.size = n := ⟨_, rfl⟩
  have hmm := @run_makeMap Tryd.prog
  obtain ⟨W, hW⟩ : ∃ W, (((w.alloc (.map #[] 0)).alloc (.map #[] 0)).alloc (.map #[] 0)).alloc (.cells #[.map (some n), .map (some (n + 1)), .map (some (n + 2))] 53) = W := ⟨_, rfl⟩
  have fin : Hid (∃ S, Ending.returned (.pointer (some ⟨n + 3, 0, none⟩)) = .returned (.pointer (some ⟨S.gb, 0, none⟩)) ∧ Gs W S [] ∧ (∀ k, hasG S k → w.heap.size ≤ k) ∧ S.c = 0 ∧ Below w.heap.size w W) := by
    have b : Below w.heap.size w W := by rw [← hW]; exact ((((Below.refl _ _).alloc (Nat.le_refl _) _).alloc (by simp) _).alloc (by simp; omega) _).alloc (by simp; omega) _
    have c : ∀ j v, #[Value.map (some n), .map (some (n + 1)), .map (some (n + 2))][j]? = some v → W.cell? ⟨n + 3, j, none⟩ = some v := fun j v hj => by rw [← hW]; exact cell_at (by simp; omega) hj
    have m0 : MS W n 0 fun _ => none := by
      have : MS (w.alloc (.map #[] 0)) n 0 fun _ => none := by rw [← hn]; exact MapIs.made _
      rw [← hW]
      exact ((this.mv (Mv.alloc (fun _ => False) _ _) (fun q => q)).mv (Mv.alloc (fun _ => False) _ _) (fun q => q)).mv (Mv.alloc (fun _ => False) _ _) (fun q => q)
    have m1 : MS W (n + 1) 0 fun _ => none := by
      have : MS ((w.alloc (.map #[] 0)).alloc (.map #[] 0)) (n + 1) 0 fun _ => none := by
        have q := MapIs.made (k := 9) (e := eS) (w.alloc (.map #[] 0))
        rw [show (w.alloc (.map #[] 0)).heap.size = n + 1 by simp [hn]] at q
        exact q
      rw [← hW]
      exact (this.mv (Mv.alloc (fun _ => False) _ _) (fun q => q)).mv (Mv.alloc (fun _ => False) _ _) (fun q => q)
    have m2 : MS W (n + 2) 0 fun _ => none := by
      have : MS (((w.alloc (.map #[] 0)).alloc (.map #[] 0)).alloc (.map #[] 0)) (n + 2) 0 fun _ => none := by
        have q := MapIs.made (k := 9) (e := eS) ((w.alloc (.map #[] 0)).alloc (.map #[] 0))
        rw [show ((w.alloc (.map #[] 0)).alloc (.map #[] 0)).heap.size = n + 2 by simp [hn]] at q
        exact q
      rw [← hW]
      exact this.mv (Mv.alloc (fun _ => False) _ _) (fun q => q)
    have hE : ∀ k, hasEd ⟨n + 3, n, n + 1, n + 2, fun _ => none, fun _ => none, 0⟩ k → k = n + 1 ∨ k = n + 2 := fun k hk => by
      rcases hk with (rfl | ⟨x, hx⟩) | (rfl | ⟨x, hx⟩)
      · exact .inl rfl
      · cases hx
      · exact .inr rfl
      · cases hx
    refine ⟨⟨n + 3, n, n + 1, n + 2, fun _ => none, fun _ => none, 0⟩, rfl, ⟨c 0 _ rfl, m0.cong (fun _ => rfl), (fun p hp => by cases hp), List.Pairwise.nil, ⟨c 1 _ rfl, c 2 _ rfl, by rw [fw_zero]; exact En.fresh m1, by rw [bw_zero]; exact En.fresh m2, fun k hk q => ?_, fun q => ?_⟩, fun q => ?_, by show n ≠ n + 3; omega⟩, fun k hk => ?_, rfl, b⟩
    · rcases hk with rfl | ⟨x, hx⟩
      · rcases q with q | ⟨x, hx⟩
        · exact absurd q (by show ¬ n + 1 = n + 2; omega)
        · cases hx
      · cases hx
    · have := hE _ q; change n + 3 = n + 1 ∨ n + 3 = n + 2 at this; omega
    · have := hE _ q; change n = n + 1 ∨ n = n + 2 at this; omega
    · rcases hk with e | e | hk
      · change k = n + 3 at e; omega
      · change k = n at e; omega
      · have := hE k hk; omega
  go_enter Tryd.func8, Tryd.ntmps8
  go_wp2_with (rw [hW])
  go_ret
  exact fin.out
theorem look_nil (key : Value) (e : EK) (hk : key = edV e.1) (w : World) : (Instr.lookup 62 (.map none) key false).run Tryd.prog w = .ok (.int .i64 0) w := by
  subst hk
  have h2 := klawE.check w true (keyE e)
  rcases klawE.find w (keyE e) [] (fun _ h => by cases h) with ⟨h3, _⟩ | ⟨j, e0, _, h3, _⟩
  · simp [Instr.lookup, run_underlying undMe, h2, h3, Result.andThen]
  · simp at h3
set_option maxRecDepth 100000 in
set_option maxHeartbeats 1000000 in
theorem has_any (S : GS) (L : UL) (w : World) (h : Gs w S L) (k : Int) (a b : ByteArray) (hk : okE (k, a, b)) :
    Calls Tryd.prog 11 #[.pointer (some ⟨S.gb, 0, none⟩), .int .i64 k, .string a, .string b] w fun e w' => e = .returned (.bool (decide (0 < kL L (k, a, b)))) ∧ w' = w := by
  obtain ⟨m, hm, hA⟩ := h.ed.e1.all
  have c1 := h.ed.c1
  have hlk := hA.look1 lawS undEn (zeroMe w) (a := a) (keyS hk.2.1)
  obtain ⟨q, hq⟩ : ∃ q, kL L (k, a, b) = q := ⟨_, rfl⟩
  have hfw : fw (kL L) a (k, a, b) = q := by rw [← hq]; exact fw_at _ (k, a, b)
  cases hf : S.f1 a with
  | none =>
    rw [hf] at hlk
    simp only [Option.map_none, Option.getD_none] at hlk
    have hl2 := look_nil (.agg #[.int .i64 k, .string a, .string b]) ⟨(k, a, b), hk⟩ rfl w
    have h0 := h.ed.e1.non a hf (k, a, b)
    have hq0 : q = 0 := by rw [← hfw]; exact h0
    clear h hA hf hfw h0
    subst hq0
    rw [hq]
    go_enter Tryd.func11, Tryd.ntmps11
    go_wp2_with fail
    go_ret
    exact ⟨rfl, rfl⟩
  | some bl =>
    rw [hf] at hlk
    simp only [Option.map_some, Option.getD_some] at hlk
    obtain ⟨n, _, _, hM⟩ := h.ed.e1.sub a bl hf
    have hl2 := hM.look1 lawE undMe (zeroI w) (a := ⟨(k, a, b), hk⟩) (keyE ⟨(k, a, b), hk⟩)
    rw [cfS_get, hfw] at hl2
    unfold edV at hl2
    clear h hA hf hfw hM
    rw [hq]
    go_enter Tryd.func11, Tryd.ntmps11
    go_wp2_with fail
    go_ret
    exact ⟨rfl, rfl⟩
end Go.Proofs.YtcfclknfnadgcaaDoor
