/- The contract of package kern's New. -/
import Derived.Test.YtgienkdfodjoiaaGreatK1
import Derived.Test.YtgienkdfodjoiaaGreatRZ
namespace Go.Proofs.YtgienkdfodjoiaaGreat
open Go.RowKit Go.Shelf
theorem Zs.more {P : Program} {ops : Array Oper} {Q : Exit → Act → World → Prop} {md : Region.Mode} {S T : World → Prop} {z : Nat} (hST : ∀ w, T w → S w) : ∀ (n : Nat) (L : Array Bool) (a : Act) (w : World), Zs P md ops Q T z n L a w → Zs P md ops Q S z n L a w
  | 0, _, _, _, h => h
  | n + 1, _, _, _, h => ⟨h.1, fun i hi => wpOp_mono (fun _ _ k => ⟨fun q => hST _ (k.1 q), Zs.more hST n _ _ _ k.2⟩) (h.2 i hi)⟩
attribute [local go_sem] Oper.semAt_some
set_option maxRecDepth 100000 in
set_option maxHeartbeats 1000000 in
theorem pnew_any (w : World) : Calls Tryz.prog 53 #[] w fun e w' => e = .returned (.pointer (some ⟨w.heap.size + 1, 0, none⟩)) ∧ w' = (w.alloc (.map #[] 0)).alloc (.cells #[.map (some w.heap.size), .slice none 0 0, .int .i64 0] 114) := by
  have hmm := @run_makeMap Tryz.prog
  go_enter Tryz.func53, Tryz.ntmps53
  go_wp2_with fail
  go_ret
  exact ⟨rfl, rfl⟩
set_option maxRecDepth 100000 in
set_option maxHeartbeats 2000000 in
theorem tnew_any (w : World) : Calls Tryz.prog 54 #[] w fun e w' => ∃ b b1 b2, e = .returned (.pointer (some ⟨b, 0, none⟩)) ∧ w'.cell? ⟨b, 0, none⟩ = some (.map (some b1)) ∧ w'.cell? ⟨b, 1, none⟩ = some (.map (some b2)) ∧ Below w.heap.size w w' := by
  obtain ⟨W3, hr, ho, mv⟩ := (Cg.MapIs.made (κ := ByteArray) (k := 9) (e := Cg.eS) w).store Cg.lawS (fun _ _ => Cg.eS_inj) Cg.klS Tryz.underlying115 (Cg.keyS (s := ⟨#[47]⟩) (by decide)) (.agg #[.bool true, .int .i64 0, .bool false, .string ⟨#[]⟩, .int .i64 0]) (by unfold maxLen; omega)
  have hmm := @run_makeMap Tryz.prog
  obtain ⟨W, hW⟩ : ∃ W, w.alloc (.map #[] 0) = W := ⟨_, rfl⟩
  rw [hW] at hr mv
  have bl : Below w.heap.size w W := by rw [← hW]; exact (Below.refl _ _).alloc (Nat.le_refl _) _
  have b3 : Below w.heap.size w W3 := bl.trans (mv.toBelow bl.size (fun k hk e => by omega))
  obtain ⟨W4, hW4⟩ : ∃ W4, W3.alloc (.map #[] 0) = W4 := ⟨_, rfl⟩
  have b4 : Below w.heap.size w W4 := by rw [← hW4]; exact b3.alloc b3.size _
  obtain ⟨W5, hW5⟩ : ∃ W5, W4.alloc (.cells #[.map (some w.heap.size), .map (some W3.heap.size)] 118) = W5 := ⟨_, rfl⟩
  have b5 : Below w.heap.size w W5 := by rw [← hW5]; exact b4.alloc b4.size _
  have fin : Hid (∃ b b1 b2, Ending.returned (.pointer (some ⟨W4.heap.size, 0, none⟩)) = .returned (.pointer (some ⟨b, 0, none⟩)) ∧ W5.cell? ⟨b, 0, none⟩ = some (.map (some b1)) ∧ W5.cell? ⟨b, 1, none⟩ = some (.map (some b2)) ∧ Below w.heap.size w W5) :=
    ⟨_, _, _, rfl, by rw [← hW5]; exact cell_at rfl rfl, by rw [← hW5]; exact cell_at rfl rfl, b5⟩
  clear ho mv bl b3 b4 b5
  go_enter Tryz.func54, Tryz.ntmps54
  go_wp2_with (first | rw [hW] | rw [hW4] | rw [hW5])
  go_ret
  exact fin.out
/-- A kernel, new. -/
def k0 (n b : Nat) (r t : Int) : Kst := ⟨n, Pc.roomOf r, 1, [], ⟨b, n + 2, n + 3, n + 4, .slice none 0 0, 0, [], [], fun _ => none⟩, 0, t⟩
theorem made_at {H : Type} {w : World} {b : Nat} (h : w.heap[b]? = some (.map #[] 0)) (P : Program) (k : TypeId) (R : Value → Option (DataW H × List MemPlace)) : w.ownsMap P k R b 0 (.map []) := by
  obtain ⟨es, c, hb, F, hs, hD⟩ := World.ownsMap_made w P k R
  rw [World.alloc_heap_new] at hb
  injection hb with hb
  injection hb with h1 h2
  subst h1 h2
  exact ⟨_, _, h, F, hs, hD⟩
theorem made_is {κ : Type} {k : TypeId} {e : κ → Lit} {w : World} {b : Nat} (h : w.heap[b]? = some (.map #[] 0)) : Cg.MapIs k e w b 0 fun _ => none :=
  ⟨_, made_at h _ _ _, rfl, ⟨fun _ => rfl, fun _ _ => rfl⟩⟩
theorem ks0 {W W' : World} {n : Nat} {r t : Int} {v8 v9 v10 v11 v7 : Value} {ty : TypeId} (hn : n + 5 ≤ W.heap.size) (h0 : W.heap[n]? = some (.map #[] 0)) (h2 : W.heap[n + 2]? = some (.map #[] 0)) (h3 : W.heap[n + 3]? = some (.map #[] 0)) (h4 : W.heap[n + 4]? = some (.map #[] 0))
    (hW : W.alloc (.cells #[.int .i64 (Pc.roomOf r), .int .i64 1, .map (some n), .map (some (n + 2)), .map (some (n + 3)), .slice none 0 0, .map (some (n + 4)), v7, v8, v9, v10, v11, .int .i64 0, .int .i64 t] ty) = W') : Ks W' (k0 n W.heap.size r t) := by
  have c : ∀ j v, #[Value.int .i64 (Pc.roomOf r), .int .i64 1, .map (some n), .map (some (n + 2)), .map (some (n + 3)), .slice none 0 0, .map (some (n + 4)), v7, v8, v9, v10, v11, .int .i64 0, .int .i64 t][j]? = some v → W'.cell? ⟨W.heap.size, j, none⟩ = some v := fun j v h => by rw [← hW]; exact cell_at rfl h
  have f : ∀ j, W'.frozen? ⟨W.heap.size, j, none⟩ = false := fun j => by rw [← hW]; exact froz_new rfl
  have old : ∀ k, k < W.heap.size → W'.heap[k]? = W.heap[k]? := fun k hk => by rw [← hW]; exact Below.heap_alloc _ _ _ hk
  have o0 := (old n (by omega)).trans h0
  have o2 := (old (n + 2) (by omega)).trans h2
  have o3 := (old (n + 3) (by omega)).trans h3
  have o4 := (old (n + 4) (by omega)).trans h4
  refine ⟨⟨c 0 _ rfl, c 1 _ rfl, c 2 _ rfl, f, fun _ _ => rfl, 0, by omega, made_at o0 _ _ _⟩, ⟨c 3 _ rfl, c 4 _ rfl, c 5 _ rfl, c 6 _ rfl, f, ⟨0, Nat.le_refl _, made_is o2⟩, ⟨0, Nat.le_refl _, made_is o3⟩, ⟨0, Nat.le_refl _, made_is o4⟩, fun g hg => (by cases hg), .inl ⟨rfl, rfl⟩, ?_, fun k hk => (by cases hk), ⟨List.Pairwise.nil, fun g hg => (by cases hg), fun g hg => (by cases hg), fun g hg => (by cases hg), fun g hg => (by cases hg), List.Pairwise.nil⟩, fun g hg => (by cases hg), Nat.le_refl _, fun _ _ => rfl⟩, ?_, c 12 _ rfl, c 13 _ rfl⟩
  · show (W.heap.size :: (n + 2) :: (n + 3) :: (n + 4) :: []).Pairwise (· ≠ ·)
    simp
    omega
  · rintro (h | h)
    · have : n ∈ (W.heap.size :: (n + 2) :: (n + 3) :: (n + 4) :: []) := h
      simp at this
      omega
    · cases h
set_option maxRecDepth 100000 in
set_option maxHeartbeats 4000000 in
theorem knew_any (r t : Int) (w : World) : Calls Tryz.prog 8 #[.int .i64 r, .int .i64 t] w fun e w' => ∃ b, e = .returned (kp (k0 w.heap.size b r t)) ∧ Ks w' (k0 w.heap.size b r t) ∧ w.heap.size ≤ b ∧ Below w.heap.size w w' := by
  have N1 := Pc.new_any r w.drew
  obtain ⟨n, hn⟩ : ∃ n, w.heap.size = n := ⟨_, rfl⟩
  have hnd : w.drew.heap.size = n := hn
  obtain ⟨W1, hW1⟩ : ∃ W1, (w.drew.alloc (.map #[] 0)).alloc (.cells #[.int .i64 (Pc.roomOf r), .int .i64 1, .map (some n)] 101) = W1 := ⟨_, rfl⟩
  rw [hnd, hW1] at N1
  have s1 : W1.heap.size = n + 2 := by rw [← hW1]; simp [hn]
  have N2 := Cg.new_any W1
  obtain ⟨W2, hW2⟩ : ∃ W2, ((((W1.alloc (.map #[] 0)).alloc (.map #[] 0)).alloc (.map #[] 0)).alloc (.cells #[.map (some (n + 2)), .map (some (n + 3)), .slice none 0 0, .map (some (n + 4))] 109)) = W2 := ⟨_, rfl⟩
  rw [s1] at N2
  simp only [Nat.add_assoc, Nat.reduceAdd] at N2
  rw [hW2] at N2
  have s2 : W2.heap.size = n + 6 := by rw [← hW2]; simp [s1]
  have N3 := pnew_any W2
  obtain ⟨W3, hW3⟩ : ∃ W3, (W2.alloc (.map #[] 0)).alloc (.cells #[.map (some (n + 6)), .slice none 0 0, .int .i64 0] 114) = W3 := ⟨_, rfl⟩
  rw [s2] at N3
  simp only [Nat.add_assoc, Nat.reduceAdd] at N3
  rw [hW3] at N3
  have s3 : W3.heap.size = n + 8 := by rw [← hW3]; simp [s2]
  have N4 := tnew_any W3
  have g1 : ∀ k, k < n + 2 → W2.heap[k]? = W1.heap[k]? := fun k hk => by
    rw [← hW2, Below.heap_alloc _ _ _ (by simp; omega), Below.heap_alloc _ _ _ (by simp; omega), Below.heap_alloc _ _ _ (by simp; omega), Below.heap_alloc _ _ _ (by omega)]
  have g2 : ∀ k, k < n + 6 → W3.heap[k]? = W2.heap[k]? := fun k hk => by
    rw [← hW3, Below.heap_alloc _ _ _ (by simp; omega), Below.heap_alloc _ _ _ (by omega)]
  have cellOf : ∀ {A B : World} {k j : Nat} {v : Value}, B.heap[k]? = A.heap[k]? → A.cell? ⟨k, j, none⟩ = some v → B.cell? ⟨k, j, none⟩ = some v := fun {A B k j v} h1 h2 => by
    rw [← h2]; exact World.cell?_of_block (a := ⟨k, j, none⟩) h1
  have s1' : (w.drew.alloc (.map #[] 0)).heap.size = n + 1 := by simp [hn]
  have s2' : (((W1.alloc (.map #[] 0)).alloc (.map #[] 0)).alloc (.map #[] 0)).heap.size = n + 5 := by simp [s1]
  have s3' : (W2.alloc (.map #[] 0)).heap.size = n + 7 := by simp [s2]
  have t0 : W1.cell? ⟨n + 1, 0, none⟩ = some (.int .i64 (Pc.roomOf r)) := by rw [← hW1]; exact cell_at s1' rfl
  have t1 : W1.cell? ⟨n + 1, 1, none⟩ = some (.int .i64 1) := by rw [← hW1]; exact cell_at s1' rfl
  have t2 : W1.cell? ⟨n + 1, 2, none⟩ = some (.map (some n)) := by rw [← hW1]; exact cell_at s1' rfl
  have u0 : W2.cell? ⟨n + 5, 0, none⟩ = some (.map (some (n + 2))) := by rw [← hW2]; exact cell_at s2' rfl
  have u1 : W2.cell? ⟨n + 5, 1, none⟩ = some (.map (some (n + 3))) := by rw [← hW2]; exact cell_at s2' rfl
  have u2 : W2.cell? ⟨n + 5, 2, none⟩ = some (.slice none 0 0) := by rw [← hW2]; exact cell_at s2' rfl
  have u3 : W2.cell? ⟨n + 5, 3, none⟩ = some (.map (some (n + 4))) := by rw [← hW2]; exact cell_at s2' rfl
  have p0 : W3.cell? ⟨n + 7, 0, none⟩ = some (.map (some (n + 6))) := by rw [← hW3]; exact cell_at s3' rfl
  have p1 : W3.cell? ⟨n + 7, 1, none⟩ = some (.slice none 0 0) := by rw [← hW3]; exact cell_at s3' rfl
  have p2 : W3.cell? ⟨n + 7, 2, none⟩ = some (.int .i64 0) := by rw [← hW3]; exact cell_at s3' rfl
  have m0 : W1.heap[n]? = some (.map #[] 0) := by
    rw [← hW1, Below.heap_alloc _ _ _ (by simp; omega), ← hnd]; exact World.alloc_heap_new _ _
  have m2 : W2.heap[n + 2]? = some (.map #[] 0) := by
    rw [← hW2, Below.heap_alloc _ _ _ (by simp; omega), Below.heap_alloc _ _ _ (by simp; omega), Below.heap_alloc _ _ _ (by simp; omega), ← s1]; exact World.alloc_heap_new _ _
  have m3 : W2.heap[n + 3]? = some (.map #[] 0) := by
    rw [← hW2, Below.heap_alloc _ _ _ (by simp; omega), Below.heap_alloc _ _ _ (by simp; omega), show n + 3 = (W1.alloc (.map #[] 0)).heap.size by simp [s1]]; exact World.alloc_heap_new _ _
  have m4 : W2.heap[n + 4]? = some (.map #[] 0) := by
    rw [← hW2, Below.heap_alloc _ _ _ (by simp; omega), show n + 4 = ((W1.alloc (.map #[] 0)).alloc (.map #[] 0)).heap.size by simp [s1]]; exact World.alloc_heap_new _ _
  have b3 : Below n w W3 := by
    have b1 : Below n w W1 := by rw [← hW1]; exact (((Below.refl n w).drew).alloc (by omega) _).alloc (by simp; omega) _
    have b2 : Below n w W2 := by rw [← hW2]; exact (((b1.alloc (by omega) _).alloc (by simp; omega) _).alloc (by simp; omega) _).alloc (by simp; omega) _
    rw [← hW3]; exact (b2.alloc (by omega) _).alloc (by simp; omega) _
  have S2a : Hid (W2.cell? ⟨n + 1, 0, none⟩ = some (.int .i64 (Pc.roomOf r)) ∧ W2.cell? ⟨n + 1, 1, none⟩ = some (.int .i64 1) ∧ W2.cell? ⟨n + 1, 2, none⟩ = some (.map (some n))) := ⟨cellOf (g1 _ (by omega)) t0, cellOf (g1 _ (by omega)) t1, cellOf (g1 _ (by omega)) t2⟩
  have S3a : Hid ((W3.cell? ⟨n + 1, 0, none⟩ = some (.int .i64 (Pc.roomOf r)) ∧ W3.cell? ⟨n + 1, 1, none⟩ = some (.int .i64 1) ∧ W3.cell? ⟨n + 1, 2, none⟩ = some (.map (some n))) ∧ (W3.cell? ⟨n + 5, 0, none⟩ = some (.map (some (n + 2))) ∧ W3.cell? ⟨n + 5, 1, none⟩ = some (.map (some (n + 3))) ∧ W3.cell? ⟨n + 5, 2, none⟩ = some (.slice none 0 0) ∧ W3.cell? ⟨n + 5, 3, none⟩ = some (.map (some (n + 4)))) ∧ (W3.cell? ⟨n + 7, 0, none⟩ = some (.map (some (n + 6))) ∧ W3.cell? ⟨n + 7, 1, none⟩ = some (.slice none 0 0) ∧ W3.cell? ⟨n + 7, 2, none⟩ = some (.int .i64 0))) :=
    ⟨⟨cellOf (g2 _ (by omega)) S2a.out.1, cellOf (g2 _ (by omega)) S2a.out.2.1, cellOf (g2 _ (by omega)) S2a.out.2.2⟩, ⟨cellOf (g2 _ (by omega)) u0, cellOf (g2 _ (by omega)) u1, cellOf (g2 _ (by omega)) u2, cellOf (g2 _ (by omega)) u3⟩, p0, p1, p2⟩
  have S1a : Hid (W1.cell? ⟨n + 1, 0, none⟩ = some (.int .i64 (Pc.roomOf r)) ∧ W1.cell? ⟨n + 1, 1, none⟩ = some (.int .i64 1) ∧ W1.cell? ⟨n + 1, 2, none⟩ = some (.map (some n))) := ⟨t0, t1, t2⟩
  have S2b : Hid (W2.cell? ⟨n + 5, 0, none⟩ = some (.map (some (n + 2))) ∧ W2.cell? ⟨n + 5, 1, none⟩ = some (.map (some (n + 3))) ∧ W2.cell? ⟨n + 5, 2, none⟩ = some (.slice none 0 0) ∧ W2.cell? ⟨n + 5, 3, none⟩ = some (.map (some (n + 4)))) := ⟨u0, u1, u2, u3⟩
  have fin : Hid (∀ W4, Below W3.heap.size W3 W4 → ∀ v10 v11 W5, W4.alloc (.cells #[.int .i64 (Pc.roomOf r), .int .i64 1, .map (some n), .map (some (n + 2)), .map (some (n + 3)), .slice none 0 0, .map (some (n + 4)), .map (some (n + 6)), .slice none 0 0, .int .i64 0, v10, v11, .int .i64 0, .int .i64 t] 122) = W5 → Ks W5 (k0 n W4.heap.size r t) ∧ n ≤ W4.heap.size ∧ Below n w W5) := by
    intro W4 b4 v10 v11 W5 h5
    have hs := b4.size
    have o : ∀ k, k < n + 8 → W4.heap[k]? = W3.heap[k]? := fun k hk => b4.block k (by omega)
    refine ⟨ks0 (by omega) ?_ ?_ ?_ ?_ h5, by omega, ?_⟩
    · rw [o _ (by omega), g2 _ (by omega), g1 _ (by omega)]; exact m0
    · rw [o _ (by omega), g2 _ (by omega)]; exact m2
    · rw [o _ (by omega), g2 _ (by omega)]; exact m3
    · rw [o _ (by omega), g2 _ (by omega)]; exact m4
    · rw [← h5]; exact (b3.trans (b4.mono (by omega))).alloc (by omega) _
  have N2H := hidK N2
  have N3H := hidK N3
  have N4H := hidK N4
  have s3H := hidK s3
  have keep4 : Hid (∀ W4, Below W3.heap.size W3 W4 → (W4.cell? ⟨n + 1, 0, none⟩ = some (.int .i64 (Pc.roomOf r)) ∧ W4.cell? ⟨n + 1, 1, none⟩ = some (.int .i64 1) ∧ W4.cell? ⟨n + 1, 2, none⟩ = some (.map (some n))) ∧ (W4.cell? ⟨n + 5, 0, none⟩ = some (.map (some (n + 2))) ∧ W4.cell? ⟨n + 5, 1, none⟩ = some (.map (some (n + 3))) ∧ W4.cell? ⟨n + 5, 2, none⟩ = some (.slice none 0 0) ∧ W4.cell? ⟨n + 5, 3, none⟩ = some (.map (some (n + 4)))) ∧ (W4.cell? ⟨n + 7, 0, none⟩ = some (.map (some (n + 6))) ∧ W4.cell? ⟨n + 7, 1, none⟩ = some (.slice none 0 0) ∧ W4.cell? ⟨n + 7, 2, none⟩ = some (.int .i64 0))) := by
    intro W4 b4
    have f : ∀ {k j : Nat} {v : Value}, W3.cell? ⟨k, j, none⟩ = some v → W4.cell? ⟨k, j, none⟩ = some v := fun {k j v} q => cellOf (b4.block k (cell_lt q)) q
    obtain ⟨⟨a0, a1, a2⟩, ⟨b0, b1, b2, b3⟩, c0, c1, c2⟩ := S3a.out
    exact ⟨⟨f a0, f a1, f a2⟩, ⟨f b0, f b1, f b2, f b3⟩, f c0, f c1, f c2⟩
  clear N2 N3 N4 s1 s2 s3 g1 g2 cellOf s1' s2' s3' t0 t1 t2 u0 u1 u2 u3 p0 p1 p2 m0 m2 m3 m4 b3 hW1 hW2 hW3 hnd
  go_enter Tryz.func8, Tryz.ntmps8
  go_wp2_with fail
  refine Zs.region (S := fun _ => True) 14 (by kernel_rfl) ?_
  refine Zs.pure (i := 0) (oi := ⟨some 5, _, _, _, _, _⟩) (v := ?v0) rfl (by kernel_rfl) (by kernel_rfl) (by kernel_rfl) (by decide) (fun _ _ _ h => h) (Or.inl ⟨by rfl, ?hy0⟩) trivial ?_
  case hy0 => (intro w hSw; (try dsimp only at hSw); go_simp; try with_reducible rfl)
  simp only [Act.put, List.setIfInBounds_toArray, List.set_cons_zero, List.set_cons_succ]
  refine Zs.pure (i := 13) (oi := ⟨some 18, _, _, _, _, _⟩) (v := ?v13) rfl (by kernel_rfl) (by kernel_rfl) (by kernel_rfl) (by decide) (fun _ _ _ h => h) (Or.inl ⟨by rfl, ?hy13⟩) trivial ?_
  case hy13 => (intro w hSw; (try dsimp only at hSw); go_simp; try with_reducible rfl)
  simp only [Act.put, List.setIfInBounds_toArray, List.set_cons_zero, List.set_cons_succ]
  refine Zs.one (i := 1) (oi := ⟨some 6, _, _, _, _, _⟩) (by kernel_rfl) rfl (fun K hK => ?_)
  go_simp
  refine N1.mono ?_
  rintro e w1 ⟨rfl, rfl⟩
  go_wp2_with fail
  refine hK.out _ _ (fun _ => trivial) ?_
  clear hK K
  try simp only [Act.put, List.setIfInBounds_toArray, List.set_cons_zero, List.set_cons_succ]
  refine Zs.more (T := fun y => (y.cell? ⟨n + 1, 0, none⟩ = some (.int .i64 (Pc.roomOf r)) ∧ y.cell? ⟨n + 1, 1, none⟩ = some (.int .i64 1) ∧ y.cell? ⟨n + 1, 2, none⟩ = some (.map (some n)))) (fun _ h => trivial) _ _ _ _ ?_
  have hS1 := S1a.out
  refine Zs.pure (i := 2) (oi := ⟨some 7, _, _, _, _, _⟩) (v := ?v2) rfl (by kernel_rfl) (by kernel_rfl) (by kernel_rfl) (by decide) (fun _ _ _ h => h) (Or.inl ⟨by rfl, ?hy2⟩) hS1 ?_
  case hy2 => (intro w hSw; (try dsimp only at hSw); go_simp; try with_reducible rfl)
  simp only [Act.put, List.setIfInBounds_toArray, List.set_cons_zero, List.set_cons_succ]
  refine Zs.take (i := 3) (oi := ⟨some 8, _, _, _, _, _⟩) (v := ?v3) rfl (by kernel_rfl) (by kernel_rfl) (by kernel_rfl) (by decide) (by kernel_rfl) (by kernel_rfl) (fun _ _ _ h => h) (Or.inl ⟨by rfl, ?hy3⟩) hS1 ?_
  case hy3 => (intro w hSw; (try dsimp only at hSw); go_simp; try with_reducible rfl)
  simp only [Act.put, List.setIfInBounds_toArray, List.set_cons_zero, List.set_cons_succ]
  clear hS1
  refine Zs.one (i := 4) (oi := ⟨some 9, _, _, _, _, _⟩) (by kernel_rfl) rfl (fun K hK => ?_)
  go_simp
  refine N2H.out.mono ?_
  rintro e w4 ⟨rfl, rfl⟩
  go_wp2_with fail
  refine hK.out _ _ (fun _ => S2a.out) ?_
  clear hK K
  try simp only [Act.put, List.setIfInBounds_toArray, List.set_cons_zero, List.set_cons_succ]
  refine Zs.more (T := fun y => (y.cell? ⟨n + 1, 0, none⟩ = some (.int .i64 (Pc.roomOf r)) ∧ y.cell? ⟨n + 1, 1, none⟩ = some (.int .i64 1) ∧ y.cell? ⟨n + 1, 2, none⟩ = some (.map (some n))) ∧ (y.cell? ⟨n + 5, 0, none⟩ = some (.map (some (n + 2))) ∧ y.cell? ⟨n + 5, 1, none⟩ = some (.map (some (n + 3))) ∧ y.cell? ⟨n + 5, 2, none⟩ = some (.slice none 0 0) ∧ y.cell? ⟨n + 5, 3, none⟩ = some (.map (some (n + 4))))) (fun _ h => h.1) _ _ _ _ ?_
  have hS2 := And.intro S2a.out S2b.out
  refine Zs.pure (i := 5) (oi := ⟨some 10, _, _, _, _, _⟩) (v := ?v5) rfl (by kernel_rfl) (by kernel_rfl) (by kernel_rfl) (by decide) (fun _ _ _ h => h) (Or.inl ⟨by rfl, ?hy5⟩) hS2 ?_
  case hy5 => (intro w hSw; (try dsimp only at hSw); go_simp; try with_reducible rfl)
  simp only [Act.put, List.setIfInBounds_toArray, List.set_cons_zero, List.set_cons_succ]
  refine Zs.take (i := 6) (oi := ⟨some 11, _, _, _, _, _⟩) (v := ?v6) rfl (by kernel_rfl) (by kernel_rfl) (by kernel_rfl) (by decide) (by kernel_rfl) (by kernel_rfl) (fun _ _ _ h => h) (Or.inl ⟨by rfl, ?hy6⟩) hS2 ?_
  case hy6 => (intro w hSw; (try dsimp only at hSw); go_simp; try with_reducible rfl)
  simp only [Act.put, List.setIfInBounds_toArray, List.set_cons_zero, List.set_cons_succ]
  clear hS2
  refine Zs.one (i := 7) (oi := ⟨some 12, _, _, _, _, _⟩) (by kernel_rfl) rfl (fun K hK => ?_)
  go_simp
  refine N3H.out.mono ?_
  rintro e w7 ⟨rfl, rfl⟩
  go_wp2_with fail
  refine hK.out _ _ (fun _ => ⟨S3a.out.1, S3a.out.2.1⟩) ?_
  clear hK K
  try simp only [Act.put, List.setIfInBounds_toArray, List.set_cons_zero, List.set_cons_succ]
  refine Zs.more (T := fun y => ((y.cell? ⟨n + 1, 0, none⟩ = some (.int .i64 (Pc.roomOf r)) ∧ y.cell? ⟨n + 1, 1, none⟩ = some (.int .i64 1) ∧ y.cell? ⟨n + 1, 2, none⟩ = some (.map (some n))) ∧ (y.cell? ⟨n + 5, 0, none⟩ = some (.map (some (n + 2))) ∧ y.cell? ⟨n + 5, 1, none⟩ = some (.map (some (n + 3))) ∧ y.cell? ⟨n + 5, 2, none⟩ = some (.slice none 0 0) ∧ y.cell? ⟨n + 5, 3, none⟩ = some (.map (some (n + 4))))) ∧ (y.cell? ⟨n + 7, 0, none⟩ = some (.map (some (n + 6))) ∧ y.cell? ⟨n + 7, 1, none⟩ = some (.slice none 0 0) ∧ y.cell? ⟨n + 7, 2, none⟩ = some (.int .i64 0))) (fun _ h => h.1) _ _ _ _ ?_
  have hS3 := And.intro (And.intro S3a.out.1 S3a.out.2.1) S3a.out.2.2
  refine Zs.pure (i := 8) (oi := ⟨some 13, _, _, _, _, _⟩) (v := ?v8) rfl (by kernel_rfl) (by kernel_rfl) (by kernel_rfl) (by decide) (fun _ _ _ h => h) (Or.inl ⟨by rfl, ?hy8⟩) hS3 ?_
  case hy8 => (intro w hSw; (try dsimp only at hSw); go_simp; try with_reducible rfl)
  simp only [Act.put, List.setIfInBounds_toArray, List.set_cons_zero, List.set_cons_succ]
  refine Zs.take (i := 9) (oi := ⟨some 14, _, _, _, _, _⟩) (v := ?v9) rfl (by kernel_rfl) (by kernel_rfl) (by kernel_rfl) (by decide) (by kernel_rfl) (by kernel_rfl) (fun _ _ _ h => h) (Or.inl ⟨by rfl, ?hy9⟩) hS3 ?_
  case hy9 => (intro w hSw; (try dsimp only at hSw); go_simp; try with_reducible rfl)
  simp only [Act.put, List.setIfInBounds_toArray, List.set_cons_zero, List.set_cons_succ]
  clear hS3
  refine Zs.one (i := 10) (oi := ⟨some 15, _, _, _, _, _⟩) (by kernel_rfl) rfl (fun K hK => ?_)
  go_simp
  refine N4H.out.mono ?_
  rintro e w10 ⟨bx, b1, b2, rfl, x1, x2, bW⟩
  go_wp2_with fail
  refine hK.out _ _ (fun _ => ⟨⟨(keep4.out w10 bW).1, (keep4.out w10 bW).2.1⟩, (keep4.out w10 bW).2.2⟩) ?_
  clear hK K
  try simp only [Act.put, List.setIfInBounds_toArray, List.set_cons_zero, List.set_cons_succ]
  refine Zs.more (T := fun y => (((y.cell? ⟨n + 1, 0, none⟩ = some (.int .i64 (Pc.roomOf r)) ∧ y.cell? ⟨n + 1, 1, none⟩ = some (.int .i64 1) ∧ y.cell? ⟨n + 1, 2, none⟩ = some (.map (some n))) ∧ (y.cell? ⟨n + 5, 0, none⟩ = some (.map (some (n + 2))) ∧ y.cell? ⟨n + 5, 1, none⟩ = some (.map (some (n + 3))) ∧ y.cell? ⟨n + 5, 2, none⟩ = some (.slice none 0 0) ∧ y.cell? ⟨n + 5, 3, none⟩ = some (.map (some (n + 4))))) ∧ (y.cell? ⟨n + 7, 0, none⟩ = some (.map (some (n + 6))) ∧ y.cell? ⟨n + 7, 1, none⟩ = some (.slice none 0 0) ∧ y.cell? ⟨n + 7, 2, none⟩ = some (.int .i64 0))) ∧ (y.cell? ⟨bx, 0, none⟩ = some (.map (some b1)) ∧ y.cell? ⟨bx, 1, none⟩ = some (.map (some b2)))) (fun _ h => h.1) _ _ _ _ ?_
  have hS4 := And.intro (And.intro (And.intro (keep4.out w10 bW).1 (keep4.out w10 bW).2.1) (keep4.out w10 bW).2.2) (And.intro x1 x2)
  refine Zs.pure (i := 11) (oi := ⟨some 16, _, _, _, _, _⟩) (v := ?v11) rfl (by kernel_rfl) (by kernel_rfl) (by kernel_rfl) (by decide) (fun _ _ _ h => h) (Or.inl ⟨by rfl, ?hy11⟩) hS4 ?_
  case hy11 => (intro w hSw; (try dsimp only at hSw); go_simp; try with_reducible rfl)
  simp only [Act.put, List.setIfInBounds_toArray, List.set_cons_zero, List.set_cons_succ]
  refine Zs.take (i := 12) (oi := ⟨some 17, _, _, _, _, _⟩) (v := ?v12) rfl (by kernel_rfl) (by kernel_rfl) (by kernel_rfl) (by decide) (by kernel_rfl) (by kernel_rfl) (fun _ _ _ h => h) (Or.inl ⟨by rfl, ?hy12⟩) hS4 ?_
  case hy12 => (intro w hSw; (try dsimp only at hSw); go_simp; try with_reducible rfl)
  simp only [Act.put, List.setIfInBounds_toArray, List.set_cons_zero, List.set_cons_succ]
  clear hS4
  have hfin := hidK (fin.out w10 bW (.map (some b1)) (.map (some b2)) _ rfl)
  clear x1 x2 bW fin keep4 S1a S2a S2b S3a N1 N2H N3H N4H s3H
  refine Zs.one (i := 14) (oi := ⟨some 19, _, _, _, _, _⟩) (by kernel_rfl) rfl (fun K hK => ?_)
  go_simp
  refine hK.out _ _ (fun q => absurd q (by decide)) ?_
  clear hK K
  try simp only [Act.put, List.setIfInBounds_toArray, List.set_cons_zero, List.set_cons_succ]
  refine Zs.one (i := 15) (oi := ⟨some 20, _, _, _, _, _⟩) (by kernel_rfl) rfl (fun K hK => ?_)
  go_simp
  refine hK.out _ _ (fun q => absurd q (by decide)) ?_
  clear hK K
  try simp only [Act.put, List.setIfInBounds_toArray, List.set_cons_zero, List.set_cons_succ]
  refine Zs.one (i := 16) (oi := ⟨some 4, _, _, _, _, _⟩) (by kernel_rfl) rfl (fun K hK => ?_)
  go_simp
  refine hK.out _ _ (fun q => absurd q (by decide)) ?_
  clear hK K
  try simp only [Act.put, List.setIfInBounds_toArray, List.set_cons_zero, List.set_cons_succ]
  refine Zs.done (by kernel_rfl) ?_ _
  go_wp2_with fail
  go_ret
  subst hn
  exact ⟨w10.heap.size, rfl, hfin.out⟩
end Go.Proofs.YtgienkdfodjoiaaGreat
