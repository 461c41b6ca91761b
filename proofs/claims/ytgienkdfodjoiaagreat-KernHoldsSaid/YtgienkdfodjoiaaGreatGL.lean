/- Members of a group, rising; rows of numbers held against each other. -/
import Derived.Test.YtgienkdfodjoiaaGreatGI
import Derived.Test.YtgienkdfodjoiaaGreatShelfK
namespace Go.Proofs.YtgienkdfodjoiaaGreat.Cg
open Go.RowKit Go.Shelf Go.Lib
theorem keys_set {w : World} {b m : Nat} {D : DataW Value} {ps : List Int} (h : w.ownsMap Tryz.prog 3 heldElem b m D) (v : Vw eZ D (setZ ps)) (hs : ps.Pairwise (· < ·)) : ps.Perm (intKeys D) := by
  obtain ⟨es, hD, hpw, _⟩ := h.entries lawZ
  obtain ⟨es', hD', hko⟩ := h.keysOf
  obtain rfl : es = es' := by rw [hD] at hD'; simpa using hD'
  subst hD
  refine perm_intKeys hpw (fun p hp => by obtain ⟨v, hv⟩ := hko p hp; obtain ⟨x, _, hx, _⟩ := Maps.keyOf_i64 Tryz.underlying3 hv; exact ⟨x, hx⟩) (hs.imp (fun h => by omega)) (fun x => ?_)
  have := v.has x
  unfold eZ at this
  rw [this]
  unfold setZ
  split <;> simp_all
theorem sort_set {ps ss : List Int} (hs : ps.Pairwise (· < ·)) (hp : ss.Perm ps) : ss.mergeSort (fun x y => decide (x ≤ y)) = ps := by
  rw [mergeSort_of_perm_i hp]
  refine List.mergeSort_of_pairwise ?_
  exact hs.imp (fun h => by simp only [leI, decide_eq_true_eq]; omega)
/-- A row of numbers behind a slice. -/
def IR (W : World) (v : Value) (xs : List Int) : Prop := ∃ p c, v = .slice p xs.length c ∧ (xs = [] ∨ ∃ g o, p = some ⟨g, o, none⟩ ∧ ∀ j x, xs[j]? = some x → W.cell? ⟨g, o + j, none⟩ = some (.int .i64 x))
theorem IR.own {W : World} {v : Value} {base : Nat} {e : TypeId} {xs : List Int} (h : W.ownsRow base e 1 v xs.length (xs.map encZ)) : IR W v xs := by
  rcases h.2 with ⟨rfl, h0⟩ | ⟨g, cap, cur, rfl, _, hg, h1, h2, h3, h4⟩
  · have := List.eq_nil_of_length_eq_zero h0
    subst this
    exact ⟨none, 0, rfl, .inl rfl⟩
  · refine ⟨_, _, rfl, .inr ⟨g, 0, rfl, fun j x hx => ?_⟩⟩
    have := h.cells (g := g) rfl j (encZ x) (by rw [List.getElem?_map, hx]; rfl)
    rw [Addr.add_lit] at this
    exact this
theorem IR.mv {W W' : World} {v : Value} {xs : List Int} {E : Nat → Prop} (h : IR W v xs) (m : Mv E W W') (hE : ∀ k, nb v = some k → ¬ E k) : IR W' v xs := by
  obtain ⟨p, c, rfl, h⟩ := h
  refine ⟨p, c, rfl, ?_⟩
  rcases h with h | ⟨g, o, rfl, h⟩
  · exact .inl h
  · exact .inr ⟨g, o, rfl, fun j x hx => m.cell (a := ⟨g, o + j, none⟩) (hE g rfl) (h j x hx)⟩
theorem IR.below {W W' : World} {v : Value} {xs : List Int} (h : IR W v xs) (b : Below W.heap.size W W') : IR W' v xs := h.mv (E := fun _ => False) (Mv.below b) (fun _ _ h => h)
set_option maxRecDepth 100000 in
set_option maxHeartbeats 2000000 in
theorem rising_any (b : Nat) (ps : List Int) (w : World) (h : MZ w b ps.length (setZ ps)) (hs : ps.Pairwise (· < ·)) (hl : ps.length ≤ 1000000) :
    Calls Tryz.prog 85 #[.map (some b)] w fun e w' => ∃ v, e = .returned v ∧ IR w' v ps ∧ (∀ k, nb v = some k → w.heap.size ≤ k) ∧ Below w.heap.size w w' := by
  obtain ⟨D, h1, h2, h3⟩ := h
  have hp := keys_set h1 h3 hs
  have hso := Tryz.slices_Sorted b _ D heldElem w h1 (by rw [h2]; unfold maxLen; omega) (by rw [h2]; omega)
  have hsoH := hidP hso
  have hpH := hidP hp
  have hsH := hidP hs
  clear hso hp hs h1 h2 h3
  go_enter Tryz.func85, Tryz.ntmps85
  go_wp2_with fail
  refine (Tryz.maps_Keys _ _).mono ?_
  rintro e w2 ⟨rfl, rfl⟩
  go_wp2_with fail
  refine hsoH.out.mono ?_
  rintro e w3 ⟨v, ss, rfl, hps, hrow, _, hb3⟩
  have hperm := hps.trans hpH.out.symm
  rw [sort_set hsH.out hperm, hperm.length_eq] at hrow
  have hb : Below w.heap.size w (w.alloc (.cells #[.map (some b)] 129)) := (Below.refl _ _).alloc (Nat.le_refl _) _
  have fin : Hid (IR w3 v ps ∧ (∀ k, nb v = some k → w.heap.size ≤ k) ∧ Below w.heap.size w w3) := by
    refine ⟨IR.own hrow, fun k hk => ?_, hb.trans (hb3.mono hb.size)⟩
    have hsz := hb.size
    rcases hrow.2 with ⟨rfl, _⟩ | ⟨g, cap, cur, rfl, hg, _⟩
    · cases hk
    · cases hk; exact Nat.le_trans hsz hg
  clear hps hrow hb3 hb hperm hsoH hpH hsH
  go_wp2_with fail
  go_ret
  exact ⟨v, rfl, fin.out⟩
set_option maxRecDepth 100000 in
set_option maxHeartbeats 2000000 in
theorem members_some (S : St) (s : ByteArray) (g : G) (w : World) (h : Gs w S) (hs : s.size ≤ 1000) (hf : fnd S.l s = some g) (hc : S.c ≤ 1000000) :
    Calls Tryz.prog 44 #[.pointer (some ⟨S.bt, 3, none⟩), .string s] w fun e w' => ∃ v, e = .returned v ∧ IR w' v g.pids ∧ (∀ k, nb v = some k → w.heap.size ≤ k) ∧ Below w.heap.size w w' := by
  obtain ⟨m, hm, ho⟩ := h.held
  have hlk := ho.look1 lawS (t := 103) Tryz.underlying103 (zeroG w) (keyS hs)
  rw [hf] at hlk
  simp only [Option.map_some, Option.getD_some, gV] at hlk
  have hgl := fnd_mem hf
  have hr := rising_any g.blk g.pids w (h.mem g hgl) (h.wf.nd g hgl) (Nat.le_trans (h.pl g hgl) hc)
  have c0 := h.c0
  have hfd : ∀ W : World, (Instr.field 131 (.agg #[.string g.name, .map (some g.blk)]) 1).run Tryz.prog W = .ok (.map (some g.blk)) W := fun W => by kernel_rfl
  clear h hm ho hf hgl
  go_enter Tryz.func44, Tryz.ntmps44
  go_wp2_with fail
  refine hr.mono ?_
  rintro e w1 ⟨v, rfl, h1, h2, h3⟩
  have fin := hidP (And.intro h1 (And.intro h2 h3))
  clear h1 h2 h3 hr
  go_wp2_with fail
  go_ret
  exact ⟨v, rfl, fin.out⟩
set_option maxRecDepth 100000 in
set_option maxHeartbeats 2000000 in
theorem ints_same (v u : Value) (xs : List Int) (w : World) (hv : IR w v xs) (hu : IR w u xs) (hl : xs.length ≤ 1000000) :
    Calls Tryz.prog 43 #[v, u] w fun e w' => e = .returned (.bool true) ∧ Below w.heap.size w w' := by
  obtain ⟨p, c, rfl, h1⟩ := hv
  obtain ⟨q, d, rfl, h2⟩ := hu
  obtain ⟨n, hn⟩ : ∃ n, xs.length = n := ⟨_, rfl⟩
  rw [hn]
  rw [hn] at hl
  have hnH := hidP hn
  have h1H := hidP h1
  have h2H := hidP h2
  clear hn h1 h2
  go_enter Tryz.func43, Tryz.ntmps43
  go_wp2_with fail
  go_loopw [5] (fun i wr => ∃ j : Nat, j ≤ n ∧ i = .int .i64 j ∧ Hid (Below w.heap.size w wr)) (fun i _ => n - (intOf i).toNat)
  case atStart => exact ⟨0, by omega, rfl, Below.refl _ _⟩
  case round =>
    obtain ⟨j, hj, rfl, hb⟩ := hrel
    by_cases hlt : j < n
    · have hltI : (j : Int) < (n : Int) := by omega
      obtain ⟨x, hx⟩ : ∃ x, xs[j]? = some x := ⟨xs[j]'(by have := hnH.out; omega), List.getElem?_eq_getElem _⟩
      have hne : xs ≠ [] := fun e => by rw [e] at hx; simp at hx
      rcases h1H.out with h | ⟨g1, o1, e1, k1⟩
      · exact absurd h hne
      · rcases h2H.out with h | ⟨g2, o2, e2, k2⟩
        · exact absurd h hne
        · subst e1
          subst e2
          have d1 := (Mv.below (E := fun _ => False) hb.out).cell (fun h => h) (k1 j x hx)
          have d2 := (Mv.below (E := fun _ => False) hb.out).cell (fun h => h) (k2 j x hx)
          clear k1 k2 hx hne h1H h2H
          go_wp2_with fail
          go_quiet (fail)
          go_wp2_with fail
          exact ⟨⟨j + 1, by omega, by go_num, below_drewN hb.out _⟩, by simp [intOf]; omega⟩
    · have hge : ¬ (j : Int) < (n : Int) := by omega
      go_wp2_with fail
      go_ret
      exact ⟨rfl, hb.out⟩
end Go.Proofs.YtgienkdfodjoiaaGreat.Cg
