/- Contract of port's Waiting. -/
import Derived.Test.YtppbdamlhcmlcaaPV
namespace Go.Proofs.Ytppbdamlhcmlcaa
open Go.RowKit Go.Shelf Go.Lib
attribute [local go_sem] Oper.semAt_some
set_option maxRecDepth 100000 in
set_option maxHeartbeats 2000000 in
theorem waiting_none (S : St) (s : ByteArray) (w : World) (h : Ps w S) (hs : s.size ≤ 1000) (hq : S.sock s = none) : Calls Try.prog 23 #[.pointer (some ⟨S.bt, 0, none⟩), .string s] w fun e w' => e = .returned (.slice none 0 0) ∧ w' = w := by
  have hl := h.look_none hs hq
  have c0 := h.c0
  clear h hq
  go_enter Try.func23, Try.ntmps23
  go_wp2_with fail
  go_ret
  exact ⟨rfl, rfl⟩
set_option maxRecDepth 100000 in
set_option maxHeartbeats 2000000 in
theorem all_any (b o : Nat) (p : Option Addr) (n c : Nat) (w : World) (hc : w.cell? ⟨b, o, none⟩ = some (.slice p n c)) : Calls Try.prog 34 #[.pointer (some ⟨b, o, none⟩)] w fun e w' => e = .returned (.func (.func 44) #[] #[.pointer (some ⟨w.heap.size, 0, none⟩)]) ∧ w' = w.alloc (.cells #[.slice p n c] 54) := by
  have hv : Hid (Calls Try.prog 40 #[.slice p n c] w fun e w' => e = .returned (.func (.func 44) #[] #[.pointer (some ⟨w.heap.size, 0, none⟩)]) ∧ w' = w.alloc (.cells #[.slice p n c] 54)) := by
    go_enter Try.func40, Try.ntmps40
    go_wp2_with fail
    go_ret
    exact ⟨rfl, rfl⟩
  go_enter Try.func34, Try.ntmps34
  go_wp2_with fail
  refine hv.out.mono ?_
  rintro e w2 ⟨rfl, rfl⟩
  go_wp2_with fail
  go_ret
  exact ⟨rfl, rfl⟩
def WT (B : Nat) (v : Value) (k : Nat) : Prop := k = B ∨ v.ownBlock = some k
structure WI (B : Nat) (ys : List Pr) (v : Value) (W : World) : Prop where
  c : Cl B v W
  ow : W.ownsRow (B + 1) 41 2 v ys.length (flat ys)
theorem WI.mv {B : Nat} {ys : List Pr} {v : Value} {E : Nat → Prop} {W V : World} (h : WI B ys v W) (m : Mv E W V) (hE : ∀ k, WT B v k → ¬ E k) : WI B ys v V := ⟨h.c.mv m (hE _ (.inl rfl)), own_mv h.ow m (fun g hg => hE g (.inr hg))⟩
def WJ (B : Nat) (xs : List Pr) (rest : List Pr) (E : Nat → Prop) (W : World) : Prop := ∃ ys v, ((∀ k, E k ↔ WT B v k) ∧ Hid (ys ++ rest = xs)) ∧ WI B ys v W
theorem WJ.ter (B B0 : Nat) (xs : List Pr) : Ter B0 (WJ B xs) := by
  refine ⟨?_, ?_⟩
  · rintro s E W V ⟨ys, v, ⟨hE, h⟩, hm⟩ m
    exact ⟨ys, v, ⟨hE, h⟩, hm.mv m (fun k hk h => h.1 ((hE k).2 hk))⟩
  · rintro s E W ⟨ys, v, ⟨hE, h⟩, hm⟩ k hk
    rcases (hE k).1 hk with rfl | hk
    · exact hm.c.lt
    · exact (hm.ow.lt k hk).2
def MX (_ : Code) (_ : Nat → Prop) (_ : World) : Prop := False
theorem MX.ter (B : Nat) : Ter B MX := ⟨fun _ _ _ _ h _ => h.elim, fun _ _ _ h => h.elim⟩
theorem two_new (w : World) (a b : Value) (t : TypeId) : ∀ j u, [a, b][j]? = some u → (w.alloc (.cells #[a, b] t)).cell? ((⟨w.heap.size, 0, none⟩ : Addr).add j) = some u := by
  intro j u hj
  match j, hj with
  | 0, hj => simp at hj; subst hj; simp [Addr.add]
  | 1, hj => simp at hj; subst hj; simp [Addr.add]
theorem WI.more {B : Nat} {ys : List Pr} {x : Pr} {v v' : Value} {W U4 w4 : World} (h : WI B ys v W) (m : Mv (fun _ => False) W U4) (hgrow : U4.grownBy w4 v.ownBlock) (hown' : w4.ownsRow (B + 1) 41 2 v' (ys.length + 1) (flat ys ++ [.int .i64 x.1, .string x.2]))
    (hat : v'.ownBlock = v.ownBlock ∨ v'.ownBlock = some U4.heap.size) : Cl B v w4 ∧ WI B (ys ++ [x]) v' (w4.setCell ⟨B, 0, none⟩ v') ∧ Mv (WT B v) W (w4.setCell ⟨B, 0, none⟩ v') ∧ ∀ k, WT B v' k → WT B v k ∨ W.heap.size ≤ k := by
  have hv : ∀ k, v.ownBlock = some k → B + 1 ≤ k := fun k e => (h.ow.lt k e).1
  have hv' : ∀ k, v'.ownBlock = some k → B + 1 ≤ k := fun k e => (hown'.lt k e).1
  have mg : Mv (fun k => v.ownBlock = some k) W w4 := (m.mono (fun _ _ h => h.elim)).grown hgrow (fun k e => .inl e)
  have c3 := h.c.mv mg (fun e => by have := hv _ e; omega)
  have ms : Mv (fun k => k = B) w4 (w4.setCell ⟨B, 0, none⟩ v') := Mv.set1 (E := fun k => k = B) rfl _
  refine ⟨c3, ⟨c3.set v', ?_⟩, ?_, ?_⟩
  · have := own_mv hown' ms (fun g hg e => by have := hv' g hg; omega)
    rw [flat_app, List.length_append]
    exact this
  · exact (mg.mono (fun k _ e => .inr e)).trans' (ms.mono (fun k _ e => .inl e))
  · intro k hk
    rcases hk with hk | hk
    · exact .inl (.inl hk)
    · rcases hat with e | e
      · exact .inl (.inr (e ▸ hk))
      · rw [hk] at e
        have := m.size
        cases e; exact .inr this
set_option maxRecDepth 100000 in
set_option maxHeartbeats 4000000 in
theorem waiting_some (S : St) (s : ByteArray) (q : Sk) (w : World) (h : Ps w S) (hs : s.size ≤ 1000) (hq : S.sock s = some q) : Calls Try.prog 23 #[.pointer (some ⟨S.bt, 0, none⟩), .string s] w fun e w' => ∃ v, e = .returned v ∧ QS w' v q.xs ∧ (∀ k, nb v = some k → w.heap.size ≤ k) ∧ Below w.heap.size w w' := by
  have hl := h.look_some hs hq
  have c0 := h.c0
  obtain ⟨i0, hinf, hz0, hz1, hz2⟩ := tyC.i
  obtain ⟨W0, hW0⟩ : ∃ W0, w.alloc (.cells #[.slice none 0 0] 54) = W0 := ⟨_, rfl⟩
  have m0 : ∀ F : Nat → Prop, Mv F w W0 := fun F => by rw [← hW0]; exact Mv.alloc _ _ _
  have k0 : Cl w.heap.size (.slice none 0 0) W0 := by rw [← hW0]; exact ⟨cell_at rfl rfl, froz_new rfl⟩
  have hs0 : W0.heap.size = w.heap.size + 1 := by rw [← hW0]; simp
  have hsk := (h.sk s q hq)
  have hlq := hsk.2.2
  have hq0 := hsk.2.1.mv (m0 (fun _ => False)) (fun _ _ h => h)
  have cq := (hsk.1.mv (m0 (fun _ => False)) (fun h => h)).c
  have hnb : ∀ k, nb q.sv = some k → k < w.heap.size := fun k hk => hsk.2.1.lt hk
  obtain ⟨p, c, hv⟩ := hq0.shape
  rw [hv] at cq hq0 hnb
  have hA := hidP (all_any q.blk 0 p q.xs.length c W0 cq)
  obtain ⟨n, hn⟩ : ∃ n, q.xs.length = n := ⟨_, rfl⟩
  have hs0H := hidP hs0
  have hmH := hidP m0
  have hkH := hidP k0
  have hqH := hidP (And.intro hq0 hnb)
  clear h hq hsk cq hv hs0 m0 k0 hq0 hnb
  refine (callsIn_wide (n := 5)).1 ?_
  refine callsIn_of_wp_marks Try.func23 rfl trivial ?_ rfl
  simp only [Try.ntmps23, List.size_toArray, List.length_cons, List.length_nil, Nat.reduceAdd, Nat.reduceSub, Array.replicate_succ, Array.replicate_zero, List.push_toArray, List.append_toArray, List.nil_append, List.cons_append]
  gi_wp2_with (rw [hW0])
  refine ⟨trivial, (callsIn_wide.2 hA.out).mono ?_⟩
  rintro e W1 ⟨rfl, hW1⟩
  have m1 : ∀ F : Nat → Prop, Mv F W0 W1 := fun F => by rw [hW1]; exact Mv.alloc _ _ _
  have hs0 := hs0H.out
  have hs1 : W1.heap.size = w.heap.size + 2 := by rw [hW1]; simp [hs0]
  have cs1 : W1.cell? ⟨W0.heap.size, 0, none⟩ = some (.slice p q.xs.length c) := by rw [hW1]; exact cell_at rfl rfl
  clear hW1 hA hW0 hl c0
  obtain ⟨B, hB⟩ : ∃ B, w.heap.size = B := ⟨_, rfl⟩
  obtain ⟨E, hE⟩ : ∃ E : Nat → Prop, ∀ k, E k ↔ WT B (.slice none 0 0) k := ⟨_, fun _ => Iff.rfl⟩
  have nE : ∀ k, k ≠ B → ¬ E k := fun k hk h => by
    rcases (hE k).1 h with t | t
    · exact hk t
    · simp [Value.ownBlock] at t
  have hrow := values_row q.xs W0.heap.size (.slice p q.xs.length c) E W1 cs1 (nE _ (by omega)) (hqH.out.1.mv (m1 (fun _ => False)) (fun _ _ h => h)) (fun k hk => nE k (by have := hqH.out.2 k hk; omega)) (by omega)
  have tI : Ter W1.heap.size (WJ B q.xs) := WJ.ter _ _ _
  have h0I : WJ B q.xs q.xs E W1 := ⟨[], _, ⟨hE, rfl⟩, ⟨(by rw [← hB]; exact hkH.out.mv (m1 (fun _ => False)) (fun h => h)), World.ownsRow_nil _ _ _ _⟩⟩
  rw [hs0, hB] at hrow
  rw [hB]
  gi_wp2_with fail
  refine loop_out (gf := 44) (lb := #[.pointer (some ⟨B + 1, 0, none⟩)]) rfl (enters_of Try.func44 (by kernel_rfl) rfl) hrow (fun _ => rfl) (WJ B q.xs) MX tI (MX.ter _) h0I ?round ?done ?stop
  case stop => rintro D c' E2 U _ _ _ _ _ h; exact h.elim
  case round =>
    rintro l1 hl1 x rest E2 U hi hm hgr hEl ⟨r1, hrec⟩
    have hlr : l1 < U.heap.size := lt_of_heap hrec
    simp only [encP]
    gi_wp2
    refine ⟨⟨Mv.alloc _ _ _, Below.heap_alloc _ _ _ hlr⟩, fun U2 tw => ?_⟩
    obtain ⟨hi2, hm2⟩ := tw.go tI hi (Mv.alloc _ _ _) hm (Nat.le_refl _) (by omega) hEl
    have x0 : U2.cell? ⟨U.heap.size, 0, none⟩ = some (.int .i64 x.1) := tw.mv.cell (show ¬ U.heap.size = l1 by omega) (cell_at rfl rfl)
    have x1 : U2.cell? ⟨U.heap.size, 1, none⟩ = some (.string x.2) := tw.mv.cell (show ¬ U.heap.size = l1 by omega) (cell_at rfl rfl)
    obtain ⟨ys, v, ⟨hE2, hfold⟩, hI⟩ := hi2
    have hyl : ys.length + 1 ≤ 16 := by have := hfold.out; have := congrArg List.length this; simp at this; omega
    have c3 := hI.c.c
    have hr1 : (U2.alloc (.cells #[.int .i64 x.1, .string x.2] 41)).ownsRow (B + 1) 41 2 v ys.length (flat ys) := hI.ow.alloc _
    have h4s := hI.c.lt
    have hfold2 : Hid ((ys ++ [x]) ++ rest = q.xs) := by have := hfold.out; show _ = _; rw [List.append_assoc]; exact this
    clear tw hi hm hrec hfold
    gi_wp2_with (first | (gi_at_builtin; refine wpListIn_append_own_at _ rfl _ _ 54 rfl (B + 1) 41 i0 (.agg #[.int .i64 0, .string ⟨#[]⟩]) 2 24 Try.underlying54 hinf hz0 hz1 hz2 rfl (by decide) _ _ _ rfl hr1 ⟨U2.heap.size, 0, none⟩ 1 1 [.int .i64 x.1, .string x.2] rfl rfl (two_new U2 _ _ _) (fun x hx => by simp at hx; rcases hx with rfl | rfl <;> rfl) (by unfold maxLen; omega) (by omega) (by simp; omega) ?_))
    intro v' w4 hown' hgrow _ hat
    obtain ⟨f3, hfin, hmf, hterr⟩ := hI.more (x := x) (Mv.alloc _ _ _) hgrow hown' (by simpa using hat)
    obtain ⟨gg, cap', rfl⟩ := ownsRow_succ hown'
    have g3 := f3.c
    have g4 := f3.f
    gi_wp2_with fail
    exact ⟨hmf.mono (fun k _ e => (hE2 k).2 e), _, fun k hk => (hterr k hk).imp (fun h => (hE2 k).2 h) id, ys ++ [x], _, ⟨fun _ => Iff.rfl, hfold2⟩, hfin⟩
  case done =>
    rintro D E2 U hD hK hnD hm hgr ⟨ys, v, ⟨hE2, hfold⟩, hI⟩
    obtain rfl : ys = q.xs := by have := hfold.out; simpa using this
    have c3 := hI.c.c
    have hbU : Below w.heap.size w U := (((hmH.out (fun _ => False)).trans' (m1 _)).toBelow (Nat.le_refl _) (fun _ _ h => h)).trans (hm.toBelow (by omega) (fun k hk h => nE k (by omega) h))
    have hsl : ∃ ao n' cap, v = .slice ao n' cap := by
      rcases hI.ow.2 with ⟨hv, _⟩ | ⟨g, cap, cur, hv, _⟩
      · exact ⟨_, _, _, hv⟩
      · exact ⟨_, _, _, hv⟩
    have hv4 : ∀ k, v.ownBlock = some k → B + 1 ≤ k := fun k e => (hI.ow.lt k e).1
    have hnvD : ¬ v.ownBlock = some D := fun e => hnD ((hE2 D).2 (.inr e))
    obtain ⟨ao, n', cap, rfl⟩ := hsl
    gi_wp2_with fail
    refine ⟨by simp, .inl ⟨_, _, rfl, run_takeDeferred hK, ?_⟩⟩
    have mP : Mv (fun k => k = D) U (U.putObj D (.deferred none)) := Mv.put (E := fun k => k = D) rfl _
    have h4 := own_mv hI.ow mP (fun g hg e => hnvD (e ▸ hg))
    refine ⟨.slice ao n' cap, by simp [results, Try.results23, go_sem], _, rfl, QS.own h4, fun k hk => ?_, ?_⟩
    · have : (Value.slice ao n' cap).ownBlock = some k := by
        rcases hI.ow.2 with ⟨e, _⟩ | ⟨g, cp, cur, e, _⟩
        · rw [e] at hk; cases hk
        · rw [e] at hk ⊢; cases hk; rfl
      have := hv4 k this
      omega
    · exact hbU.trans (mP.toBelow hbU.size (fun k hk e => by omega))
end Go.Proofs.Ytppbdamlhcmlcaa
