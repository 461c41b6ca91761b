/- TreePlays. -/
import Derived.Test.YtnniahlacfflmaaDoorRU5
import Derived.Deep.LoopGhost
import Derived.Deep.RegionHeld3
import Derived.OpenShut
import Derived.Deep.DeepCutAuto
namespace Go.Proofs.YtnniahlacfflmaaDoor
open Go.RowKit Go.Shelf
attribute [local go_sem] Oper.semAt_some
/-- Between two rounds: both, and their boxes. -/
def Ph (w : World) (tb rx bt rb j : Nat) (W : World) : Prop := Tp w (fun k => k = tb ∨ k = rx) bt rb j W ∧ W.cell? ⟨tb, 0, none⟩ = some (pT bt) ∧ W.cell? ⟨rx, 0, none⟩ = some (pT rb)
/-- Within a round: the step's copy too. -/
def Pd (w : World) (tb rx D bt rb j : Nat) (x : Stp) (W : World) : Prop := Tp w (fun k => k = tb ∨ k = rx ∨ k = D) bt rb j W ∧ (W.cell? ⟨tb, 0, none⟩ = some (pT bt) ∧ W.cell? ⟨rx, 0, none⟩ = some (pT rb)) ∧ W.cell? ⟨D, 0, none⟩ = some (.int .i64 x.wh) ∧ W.cell? ⟨D, 1, none⟩ = some (.string x.p) ∧ W.cell? ⟨D, 2, none⟩ = some (.string x.t) ∧ W.cell? ⟨D, 3, none⟩ = some (.bool x.f)
theorem Tp.keep {w W V : World} {Pf Pf' F : Nat → Prop} {bt rb j : Nat} (h : Tp w Pf bt rb j W) (m : Mv F W V) (hF : ∀ k, F k → (Pf k ∧ w.heap.size ≤ k) ∨ W.heap.size ≤ k) (hP : ∀ k, Pf' k → Pf k ∨ (W.heap.size ≤ k ∧ k < V.heap.size)) : Tp w Pf' bt rb j V := by
  obtain ⟨S, R, E, h1, h2, h3, h4, h5, h6, h7, h8, h9⟩ := h
  have lt := fun k (hk : hasB S k) => h2.g.lt hk
  have nS : ∀ k, hasB S k → ¬ F k := fun k hk f => by
    rcases hF k f with z | z
    · exact (h9 k z.1).1 hk
    · have := lt k hk; omega
  have nE : ∀ k, E k → ¬ F k := fun k hk f => by
    rcases hF k f with z | z
    · exact (h8 k hk).2.2 z.1
    · have := h3.lt hk; omega
  refine ⟨S, R, E, h1, ⟨h2.g.mv m nS, h2.b.trans (m.toBelow h2.b.size fun k hk f => by have := h2.b.size; rcases hF k f with z | z <;> omega), h2.nt, h2.nh, h2.ns⟩, h3.mv m nE, h4, h5, h6, h7, fun k hk => ⟨(h8 k hk).1, (h8 k hk).2.1, fun p => ?_⟩, fun k p => ?_⟩
  · rcases hP k p with z | z
    · exact (h8 k hk).2.2 z
    · have := h3.lt hk; omega
  · rcases hP k p with z | z
    · exact ⟨(h9 k z).1, Nat.lt_of_lt_of_le (h9 k z).2 m.size⟩
    · exact ⟨fun hk => by have := lt k hk; omega, z.2⟩
/-- A call of each, within a round. -/
def Dl (w W : World) (tb rx D bt rb j : Nat) (x : Stp) (f g : Nat) (af ag : Array Value) : Prop :=
  ∃ ev : Int, ∀ V, Below W.heap.size W V → Calls Tryd.prog f af V fun e V1 => e = .returned (.int .i64 ev) ∧ (V1.cell? ⟨tb, 0, none⟩ = some (pT bt) ∧ V1.cell? ⟨rx, 0, none⟩ = some (pT rb) ∧ V1.cell? ⟨D, 1, none⟩ = some (.string x.p) ∧ V1.cell? ⟨D, 2, none⟩ = some (.string x.t) ∧ V1.cell? ⟨D, 3, none⟩ = some (.bool x.f)) ∧ Calls Tryd.prog g ag V1 fun e V2 => e = .returned (.int .i64 ev) ∧ (V2.cell? ⟨tb, 0, none⟩ = some (pT bt) ∧ V2.cell? ⟨rx, 0, none⟩ = some (pT rb) ∧ V2.cell? ⟨D, 1, none⟩ = some (.string x.p) ∧ V2.cell? ⟨D, 2, none⟩ = some (.string x.t) ∧ V2.cell? ⟨D, 3, none⟩ = some (.bool x.f)) ∧ Hid (Pd w tb rx D bt rb (j + 1) x V2)
theorem dl_of {w W : World} {tb rx D bt rb j : Nat} {x : Stp} {f g : Nat} {af ag : Array Value} (h : Pd w tb rx D bt rb j x W) (t : Two w W (fun k => k = tb ∨ k = rx ∨ k = D) bt rb j f g af ag) : Dl w W tb rx D bt rb j x f g af ag := by
  obtain ⟨_, ⟨c1, c2⟩, d0, d1, d2, d3⟩ := h
  obtain ⟨ev, t⟩ := t
  refine ⟨ev, fun V b => (t V b).mono ?_⟩
  rintro e V1 ⟨rfl, m1, t2⟩
  have k : ∀ {a : Addr} {v : Value}, (a.block = tb ∨ a.block = rx ∨ a.block = D) → W.cell? a = some v → V1.cell? a = some v := fun {a v} ha hc => m1.cell (fun f => f ha) ((Mv.below (E := fun _ => False) b).cell (fun f => f) hc)
  refine ⟨rfl, ⟨k (a := ⟨tb, 0, none⟩) (.inl rfl) c1, k (a := ⟨rx, 0, none⟩) (.inr (.inl rfl)) c2, k (a := ⟨D, 1, none⟩) (.inr (.inr rfl)) d1, k (a := ⟨D, 2, none⟩) (.inr (.inr rfl)) d2, k (a := ⟨D, 3, none⟩) (.inr (.inr rfl)) d3⟩, t2.mono ?_⟩
  rintro e V2 ⟨rfl, m2, tp⟩
  have k2 : ∀ {a : Addr} {v : Value}, (a.block = tb ∨ a.block = rx ∨ a.block = D) → W.cell? a = some v → V2.cell? a = some v := fun {a v} ha hc => m2.cell (fun f => f ha) (k ha hc)
  have q1 := k2 (a := ⟨tb, 0, none⟩) (.inl rfl) c1
  have q2 := k2 (a := ⟨rx, 0, none⟩) (.inr (.inl rfl)) c2
  have q3 := k2 (a := ⟨D, 1, none⟩) (.inr (.inr rfl)) d1
  have q4 := k2 (a := ⟨D, 2, none⟩) (.inr (.inr rfl)) d2
  have q5 := k2 (a := ⟨D, 3, none⟩) (.inr (.inr rfl)) d3
  exact ⟨rfl, ⟨q1, q2, q3, q4, q5⟩, tp, ⟨q1, q2⟩, k2 (a := ⟨D, 0, none⟩) (.inr (.inr rfl)) d0, q3, q4, q5⟩
set_option maxRecDepth 100000 in
set_option maxHeartbeats 8000000 in
theorem plays_walk (p0 : Option Addr) (n c0 : Nat) (ss : List Stp) (w : World) (hg : Mx w) (hss : ss.length = n ∧ StepsAt w p0 ss ∧ n ≤ 140737488355328) :
    Calls Tryd.prog 3 #[.slice p0 n c0] w fun e V => e = .returned (.bool true) ∧ Below w.heap.size w V := by
  obtain ⟨hn, hs, hll⟩ := hss
  have hK := hidP (known_any w hg)
  have hgH := hidP hg
  have hnH := hidP hn
  have hsH := hidP hs
  clear hn hs hg
  by_cases h100 : n ≤ 100
  · have e1 : ¬ (100 : Int) < (n : Int) := by omega
    have hnI : (n : Int) ≤ 100 := by omega
    go_enter Tryd.func3, Tryd.ntmps3
    go_wp2_with fail
    refine hK.out.mono ?_
    rintro e w1 ⟨rfl, bw1⟩
    have bw1H := hidP bw1
    have hN := hidP (new_any w1 (hgH.out.mv (E := fun _ => False) (Mv.below bw1) (fun f => f)))
    clear bw1 hK
    go_wp2_with fail
    refine hN.out.mono ?_
    rintro e w2 ⟨S, rfl, hT, hp, hc, hb, n1, n2, n3⟩
    have hST := hidP (And.intro hT (And.intro hp (And.intro hc (And.intro hb (And.intro n1 (And.intro n2 n3))))))
    obtain ⟨bt, hbt⟩ : ∃ bt, S.bt = bt := ⟨_, rfl⟩
    rw [hbt]
    have hR := hidP (rnewt_any w2)
    clear hN hT hp hc hb n1 n2 n3
    go_wp2_with fail
    refine hR.out.mono ?_
    rintro e w3 ⟨rfl, hr3, b3⟩
    obtain ⟨rb, hrb⟩ : ∃ rb, w2.heap.size + 1 = rb := ⟨_, rfl⟩
    rw [hrb] at hr3 ⊢
    have hr3H := hidP hr3
    have b3H := hidP b3
    clear hr3 b3 hR hrb
    go_wp2_with fail
    obtain ⟨tb, htb⟩ : ∃ tb, w3.heap.size = tb := ⟨_, rfl⟩
    obtain ⟨X1, hX1⟩ : ∃ X1, w3.alloc (.cells #[.pointer (some ⟨bt, 0, none⟩)] 24) = X1 := ⟨_, rfl⟩
    obtain ⟨X2, hX2⟩ : ∃ X2, X1.alloc (.cells #[.pointer (some ⟨rb, 0, none⟩)] 26) = X2 := ⟨_, rfl⟩
    rw [htb, hX1, hX2]
    have hr3 := hr3H.out
    have b3 := b3H.out
    have hP0 : Hid (Ph w1 tb (tb + 1) bt rb 0 X2) := by
      obtain ⟨hT, hp, hc, hb, n1, n2, n3⟩ := hST.out
      obtain ⟨E, r3, hE⟩ := hr3
      have bX1 : Below w3.heap.size w3 X1 := by rw [← hX1]; exact (Below.refl _ _).alloc (Nat.le_refl _) _
      have bX2 : Below X1.heap.size X1 X2 := by rw [← hX2]; exact (Below.refl _ _).alloc (Nat.le_refl _) _
      have sX1 : X1.heap.size = tb + 1 := by rw [← hX1]; simp [htb]
      have bX : Below w3.heap.size w3 X2 := bX1.trans (bX2.mono bX1.size)
      have sz := hb.size
      have s3 := b3.size
      have sX := bX.size
      have sX2 : X2.heap.size = tb + 2 := by rw [← hX2]; simp [sX1]
      have lS : ∀ k, hasB S k → k < w2.heap.size := fun k hk => hT.lt hk
      have hsz0 : ∀ x ∈ S.p.ks, x.size ≤ 500 := by
        intro x hx
        rw [hp] at hx
        have hx2 : x = rootS := by simpa [pl0] using hx
        rw [hx2]
        decide
      refine ⟨⟨S, ⟨[(rootS, true)], [], []⟩, E, hbt, ⟨(hT.below b3).below bX, hb.trans ((b3.trans (bX.mono b3.size)).mono sz), n1, n2, n3⟩, r3.below bX, by rw [hp]; exact ag0, by rw [hp]; exact wf0, ⟨by (rw [hp]; decide), by simp, (fun e he => by cases he), by simp, hsz0⟩, by omega, fun k hk => ⟨fun q => by have := lS k q; have := hE k hk; omega, by have := hE k hk; omega, fun f => by have := r3.lt hk; omega⟩, fun k f => ⟨fun q => by have := lS k q; omega, by omega⟩⟩, ?_, ?_⟩
      · exact (Mv.below (E := fun _ => False) bX2).cell (a := ⟨tb, 0, none⟩) (fun f => f) (by rw [← hX1]; exact cell_at htb rfl)
      · rw [← hX2]; exact cell_at sX1 rfl
    have hfr : Hid (w1.heap.size ≤ tb) := by
      have := hST.out.2.2.2.1.size
      have := b3.size
      show _ ≤ _
      omega
    clear hr3 b3 hr3H b3H hST hbt hX1 hX2 htb
    go_loopw [5] (fun i wr => ∃ (j : Nat), j ≤ n ∧ i = .int .i64 j ∧ Hid (Ph w1 tb (tb + 1) bt rb j wr)) (fun i _ => n - (intOf i).toNat)
    case atStart => exact ⟨0, by omega, rfl, hP0⟩
    case round =>
      obtain ⟨j, hj, rfl, hst⟩ := hrel
      clear hP0
      have bw : Below w.heap.size w wr := bw1H.out.trans (hst.out.1.w.mono bw1H.out.size)
      by_cases hlt : j < n
      · have hjI : (j : Int) < (n : Int) := by omega
        obtain ⟨x, hx⟩ : ∃ x, ss[j]? = some x := ⟨_, List.getElem?_eq_getElem (by rw [hnH.out]; exact hlt)⟩
        obtain ⟨xok, b, o, rfl, k0, k1, k2, k3⟩ := hsH.out j x hx
        obtain ⟨wh, p, t, f⟩ := x
        obtain ⟨xo0, ok1, ok2⟩ := xok
        clear xo0
        dsimp only at ok1 ok2 k0 k1 k2 k3
        have k0 := bcell bw (cell_lt k0) k0
        have k1 := bcell bw (cell_lt k1) k1
        have k2 := bcell bw (cell_lt k2) k2
        have k3 := bcell bw (cell_lt k3) k3
        obtain ⟨A, hA⟩ : ∃ A, wr.alloc (.cells #[.int .i64 wh, .string p, .string t, .bool f] 29) = A := ⟨_, rfl⟩
        obtain ⟨D, hD⟩ : ∃ D, wr.heap.size = D := ⟨_, rfl⟩
        have bA : Below wr.heap.size wr A := by rw [← hA]; exact (Below.refl _ _).alloc (Nat.le_refl _) _
        have sA : A.heap.size = D + 1 := by rw [← hA]; simp [hD]
        have hqH : Hid (Pd w1 tb (tb + 1) D bt rb j ⟨wh, p, t, f⟩ A) := by
          obtain ⟨t1, t2, t3⟩ := hst.out
          exact ⟨t1.keep (F := fun _ => False) (Mv.below bA) (fun _ f => f.elim) (fun k hk => by
            rcases hk with e | e | e
            · exact .inl (.inl e)
            · exact .inl (.inr e)
            · exact .inr ⟨by omega, by omega⟩), ⟨bcell bA (cell_lt t2) t2, bcell bA (cell_lt t3) t3⟩, by rw [← hA]; exact ⟨cell_at hD rfl, cell_at hD rfl, cell_at hD rfl, cell_at hD rfl⟩⟩
        have finA : Hid (Below w.heap.size w A) := bw.trans (bA.mono bw.size)
        obtain ⟨tpq, ⟨ct, cr⟩, d0, d1, d2, d3⟩ := (id hqH.out : Pd w1 tb (tb + 1) D bt rb j ⟨wh, p, t, f⟩ A)
        clear tpq
        dsimp only at d0 d1 d2 d3
        have g1 : (p.size : Int) ≤ 140737488355328 := by omega
        have g2 : (t.size : Int) ≤ 140737488355328 := by omega
        have hDn : Hid (tb < D ∧ tb + 1 < D) := by
          obtain ⟨_, t2, t3⟩ := hst.out
          have a1 := cell_lt t2
          have a2 := cell_lt t3
          simp only at a1 a2
          exact ⟨by omega, by omega⟩
        clear hst bw hx bA ok1 ok2 sA
        by_cases hle : p.size ≤ 500
        · by_cases hle2 : t.size ≤ 100
          · have hI1 : ¬ (500 : Int) < (p.size : Int) := by omega
            have hI2 : ¬ (100 : Int) < (t.size : Int) := by omega
            have hD1 : decide ((500 : Int) < (p.size : Int)) = false := decide_eq_false hI1
            have hD2 : decide ((100 : Int) < (t.size : Int)) = false := decide_eq_false hI2
            have hbH := hidP hle
            have hj9H : Hid (j ≤ 99) := (by omega : j ≤ 99)
            go_upto_region 12 with (rw [hA])
            go_cut [7, 8] (fun a b wx => a = .int .i64 0 ∧ b = .int .i64 0 ∧ wx = A)
            case first =>
              go_wp2_with fail
              go_meet
              exact ⟨rfl, rfl, rfl⟩
            case rest =>
              obtain ⟨rfl, rfl, rfl⟩ := hcut
              clear hA hle hle2 hI1 hI2 hD1 hD2 g1 g2 k0 k1 k2 k3
              rename_i K1 aK1
              refine aK1 _ _ ?_
              clear aK1 K1
              go_step
              go_cut [7, 8] (fun a7 a8 wx => ∃ ev : Int, a7 = .int .i64 ev ∧ a8 = .int .i64 ev ∧ Hid (Pd w1 tb (tb + 1) D bt rb (j + 1) ⟨wh, p, t, f⟩ wx))
              case first =>
                by_cases h0 : wh = 0
                · subst h0
                  as_aux_lemma =>
                    have hE' := dl_of hqH.out (make_two hqH.out.1 (by have := hj9H.out; omega) p f hbH.out)
                    obtain ⟨ev, hE'⟩ := hE'
                    have hE := hidP hE'
                    clear hE'
                    unfold pT at hE
                    dsimp only at hE
                    have hS1 := And.intro ct (And.intro cr (And.intro d1 (And.intro d2 d3)))
                    unfold pT at hS1
                    clear hqH
                    go_upto_region 18 with fail
                    refine Zs.region (S := fun W' => W'.cell? ⟨tb, 0, none⟩ = some (.pointer (some ⟨bt, 0, none⟩)) ∧ W'.cell? ⟨tb + 1, 0, none⟩ = some (.pointer (some ⟨rb, 0, none⟩)) ∧ W'.cell? ⟨D, 1, none⟩ = some (.string p) ∧ W'.cell? ⟨D, 2, none⟩ = some (.string t) ∧ W'.cell? ⟨D, 3, none⟩ = some (.bool f)) 13 (by kernel_rfl) ?_
                    refine Zs.take (i := 0) (oi := ⟨some 56, _, _, _, _, _⟩) (v := .pointer (some ⟨bt, 0, none⟩)) rfl (by kernel_rfl) (by kernel_rfl) (by kernel_rfl) (by decide) (by kernel_rfl) (by kernel_rfl) (fun _ _ _ h => h) (Or.inl ⟨by rfl, ?hy0⟩) hS1 ?_
                    case hy0 => (intro w hSw; (try dsimp only at hSw); go_simp; try with_reducible rfl)
                    simp only [Act.put, List.setIfInBounds_toArray, List.set_cons_zero, List.set_cons_succ]
                    refine Zs.pure (i := 1) (oi := ⟨some 57, _, _, _, _, _⟩) (v := .pointer (some ⟨D, 1, none⟩)) rfl (by kernel_rfl) (by kernel_rfl) (by kernel_rfl) (by decide) (fun _ _ _ h => h) (Or.inl ⟨by rfl, ?hy1⟩) hS1 ?_
                    case hy1 => (intro w hSw; (try dsimp only at hSw); go_simp; try with_reducible rfl)
                    simp only [Act.put, List.setIfInBounds_toArray, List.set_cons_zero, List.set_cons_succ]
                    refine Zs.take (i := 2) (oi := ⟨some 58, _, _, _, _, _⟩) (v := .string p) rfl (by kernel_rfl) (by kernel_rfl) (by kernel_rfl) (by decide) (by kernel_rfl) (by kernel_rfl) (fun _ _ _ h => h) (Or.inl ⟨by rfl, ?hy2⟩) hS1 ?_
                    case hy2 => (intro w hSw; (try dsimp only at hSw); go_simp; try with_reducible rfl)
                    simp only [Act.put, List.setIfInBounds_toArray, List.set_cons_zero, List.set_cons_succ]
                    refine Zs.pure (i := 3) (oi := ⟨some 59, _, _, _, _, _⟩) (v := .pointer (some ⟨D, 3, none⟩)) rfl (by kernel_rfl) (by kernel_rfl) (by kernel_rfl) (by decide) (fun _ _ _ h => h) (Or.inl ⟨by rfl, ?hy3⟩) hS1 ?_
                    case hy3 => (intro w hSw; (try dsimp only at hSw); go_simp; try with_reducible rfl)
                    simp only [Act.put, List.setIfInBounds_toArray, List.set_cons_zero, List.set_cons_succ]
                    refine Zs.take (i := 4) (oi := ⟨some 60, _, _, _, _, _⟩) (v := .bool f) rfl (by kernel_rfl) (by kernel_rfl) (by kernel_rfl) (by decide) (by kernel_rfl) (by kernel_rfl) (fun _ _ _ h => h) (Or.inl ⟨by rfl, ?hy4⟩) hS1 ?_
                    case hy4 => (intro w hSw; (try dsimp only at hSw); go_simp; try with_reducible rfl)
                    simp only [Act.put, List.setIfInBounds_toArray, List.set_cons_zero, List.set_cons_succ]
                    refine Zs.take (i := 6) (oi := ⟨some 62, _, _, _, _, _⟩) (v := .pointer (some ⟨rb, 0, none⟩)) rfl (by kernel_rfl) (by kernel_rfl) (by kernel_rfl) (by decide) (by kernel_rfl) (by kernel_rfl) (fun _ _ _ h => h) (Or.inl ⟨by rfl, ?hy6⟩) hS1 ?_
                    case hy6 => (intro w hSw; (try dsimp only at hSw); go_simp; try with_reducible rfl)
                    simp only [Act.put, List.setIfInBounds_toArray, List.set_cons_zero, List.set_cons_succ]
                    refine Zs.pure (i := 7) (oi := ⟨some 63, _, _, _, _, _⟩) (v := .pointer (some ⟨D, 1, none⟩)) rfl (by kernel_rfl) (by kernel_rfl) (by kernel_rfl) (by decide) (fun _ _ _ h => h) (Or.inl ⟨by rfl, ?hy7⟩) hS1 ?_
                    case hy7 => (intro w hSw; (try dsimp only at hSw); go_simp; try with_reducible rfl)
                    simp only [Act.put, List.setIfInBounds_toArray, List.set_cons_zero, List.set_cons_succ]
                    refine Zs.take (i := 8) (oi := ⟨some 64, _, _, _, _, _⟩) (v := .string p) rfl (by kernel_rfl) (by kernel_rfl) (by kernel_rfl) (by decide) (by kernel_rfl) (by kernel_rfl) (fun _ _ _ h => h) (Or.inl ⟨by rfl, ?hy8⟩) hS1 ?_
                    case hy8 => (intro w hSw; (try dsimp only at hSw); go_simp; try with_reducible rfl)
                    simp only [Act.put, List.setIfInBounds_toArray, List.set_cons_zero, List.set_cons_succ]
                    refine Zs.pure (i := 9) (oi := ⟨some 65, _, _, _, _, _⟩) (v := .pointer (some ⟨D, 3, none⟩)) rfl (by kernel_rfl) (by kernel_rfl) (by kernel_rfl) (by decide) (fun _ _ _ h => h) (Or.inl ⟨by rfl, ?hy9⟩) hS1 ?_
                    case hy9 => (intro w hSw; (try dsimp only at hSw); go_simp; try with_reducible rfl)
                    simp only [Act.put, List.setIfInBounds_toArray, List.set_cons_zero, List.set_cons_succ]
                    refine Zs.take (i := 10) (oi := ⟨some 66, _, _, _, _, _⟩) (v := .bool f) rfl (by kernel_rfl) (by kernel_rfl) (by kernel_rfl) (by decide) (by kernel_rfl) (by kernel_rfl) (fun _ _ _ h => h) (Or.inl ⟨by rfl, ?hy10⟩) hS1 ?_
                    case hy10 => (intro w hSw; (try dsimp only at hSw); go_simp; try with_reducible rfl)
                    simp only [Act.put, List.setIfInBounds_toArray, List.set_cons_zero, List.set_cons_succ]
                    refine Zs.one (i := 5) (oi := ⟨some 61, _, _, _, _, _⟩) (by kernel_rfl) rfl (fun K hK => ?_)
                    go_simp
                    refine (hE.out _ ((Below.refl _ _).drew)).mono ?_
                    rintro e V1 ⟨rfl, hS2, h2⟩
                    have h2H := hidP h2
                    clear h2
                    go_wp2_with fail
                    refine hK.out _ _ (fun _ => hS2) ?_
                    clear hK K
                    try simp only [Act.put, List.setIfInBounds_toArray, List.set_cons_zero, List.set_cons_succ]
                    refine Zs.one (i := 11) (oi := ⟨some 67, _, _, _, _, _⟩) (by kernel_rfl) rfl (fun K hK => ?_)
                    go_simp
                    refine h2H.out.mono ?_
                    rintro e V2 ⟨rfl, hS3, hfin⟩
                    go_wp2_with fail
                    refine hK.out _ _ (fun _ => hS3) ?_
                    clear hK K
                    try simp only [Act.put, List.setIfInBounds_toArray, List.set_cons_zero, List.set_cons_succ]
                    refine Zs.pure (i := 12) (oi := ⟨some 7, _, _, _, _, _⟩) (v := .int .i64 ev) rfl (by kernel_rfl) (by kernel_rfl) (by kernel_rfl) (by decide) (fun _ _ _ h => h) (Or.inl ⟨by rfl, ?hy12⟩) hS3 ?_
                    case hy12 => (intro w hSw; (try dsimp only at hSw); go_simp; try with_reducible rfl)
                    simp only [Act.put, List.setIfInBounds_toArray, List.set_cons_zero, List.set_cons_succ]
                    refine Zs.one (i := 13) (oi := ⟨some 8, _, _, _, _, _⟩) (by kernel_rfl) rfl (fun K hK => ?_)
                    go_simp
                    refine hK.out _ _ (fun q => absurd q (by decide)) ?_
                    clear hK K
                    try simp only [Act.put, List.setIfInBounds_toArray, List.set_cons_zero, List.set_cons_succ]
                    refine Zs.done (by kernel_rfl) ?_ _
                    clear hE h2H hS1 hS2 hS3
                    go_wp2_with fail
                    go_meet
                    exact ⟨ev, rfl, rfl, hfin⟩
                · have h0' : (wh == 0) = false := by simp [h0]
                  by_cases h1 : wh = 1
                  · subst h1
                    as_aux_lemma =>
                      have hE' := dl_of hqH.out (make_two hqH.out.1 (by have := hj9H.out; omega) p f hbH.out)
                      obtain ⟨ev, hE'⟩ := hE'
                      have hE := hidP hE'
                      clear hE'
                      unfold pT at hE
                      dsimp only at hE
                      have hS1 := And.intro ct (And.intro cr (And.intro d1 (And.intro d2 d3)))
                      unfold pT at hS1
                      clear hqH
                      go_upto_region 18 with fail
                      refine Zs.region (S := fun W' => W'.cell? ⟨tb, 0, none⟩ = some (.pointer (some ⟨bt, 0, none⟩)) ∧ W'.cell? ⟨tb + 1, 0, none⟩ = some (.pointer (some ⟨rb, 0, none⟩)) ∧ W'.cell? ⟨D, 1, none⟩ = some (.string p) ∧ W'.cell? ⟨D, 2, none⟩ = some (.string t) ∧ W'.cell? ⟨D, 3, none⟩ = some (.bool f)) 13 (by kernel_rfl) ?_
                      refine Zs.take (i := 0) (oi := ⟨some 56, _, _, _, _, _⟩) (v := .pointer (some ⟨bt, 0, none⟩)) rfl (by kernel_rfl) (by kernel_rfl) (by kernel_rfl) (by decide) (by kernel_rfl) (by kernel_rfl) (fun _ _ _ h => h) (Or.inl ⟨by rfl, ?hy0⟩) hS1 ?_
                      case hy0 => (intro w hSw; (try dsimp only at hSw); go_simp; try with_reducible rfl)
                      simp only [Act.put, List.setIfInBounds_toArray, List.set_cons_zero, List.set_cons_succ]
                      refine Zs.pure (i := 1) (oi := ⟨some 57, _, _, _, _, _⟩) (v := .pointer (some ⟨D, 1, none⟩)) rfl (by kernel_rfl) (by kernel_rfl) (by kernel_rfl) (by decide) (fun _ _ _ h => h) (Or.inl ⟨by rfl, ?hy1⟩) hS1 ?_
                      case hy1 => (intro w hSw; (try dsimp only at hSw); go_simp; try with_reducible rfl)
                      simp only [Act.put, List.setIfInBounds_toArray, List.set_cons_zero, List.set_cons_succ]
                      refine Zs.take (i := 2) (oi := ⟨some 58, _, _, _, _, _⟩) (v := .string p) rfl (by kernel_rfl) (by kernel_rfl) (by kernel_rfl) (by decide) (by kernel_rfl) (by kernel_rfl) (fun _ _ _ h => h) (Or.inl ⟨by rfl, ?hy2⟩) hS1 ?_
                      case hy2 => (intro w hSw; (try dsimp only at hSw); go_simp; try with_reducible rfl)
                      simp only [Act.put, List.setIfInBounds_toArray, List.set_cons_zero, List.set_cons_succ]
                      refine Zs.pure (i := 3) (oi := ⟨some 59, _, _, _, _, _⟩) (v := .pointer (some ⟨D, 3, none⟩)) rfl (by kernel_rfl) (by kernel_rfl) (by kernel_rfl) (by decide) (fun _ _ _ h => h) (Or.inl ⟨by rfl, ?hy3⟩) hS1 ?_
                      case hy3 => (intro w hSw; (try dsimp only at hSw); go_simp; try with_reducible rfl)
                      simp only [Act.put, List.setIfInBounds_toArray, List.set_cons_zero, List.set_cons_succ]
                      refine Zs.take (i := 4) (oi := ⟨some 60, _, _, _, _, _⟩) (v := .bool f) rfl (by kernel_rfl) (by kernel_rfl) (by kernel_rfl) (by decide) (by kernel_rfl) (by kernel_rfl) (fun _ _ _ h => h) (Or.inl ⟨by rfl, ?hy4⟩) hS1 ?_
                      case hy4 => (intro w hSw; (try dsimp only at hSw); go_simp; try with_reducible rfl)
                      simp only [Act.put, List.setIfInBounds_toArray, List.set_cons_zero, List.set_cons_succ]
                      refine Zs.take (i := 6) (oi := ⟨some 62, _, _, _, _, _⟩) (v := .pointer (some ⟨rb, 0, none⟩)) rfl (by kernel_rfl) (by kernel_rfl) (by kernel_rfl) (by decide) (by kernel_rfl) (by kernel_rfl) (fun _ _ _ h => h) (Or.inl ⟨by rfl, ?hy6⟩) hS1 ?_
                      case hy6 => (intro w hSw; (try dsimp only at hSw); go_simp; try with_reducible rfl)
                      simp only [Act.put, List.setIfInBounds_toArray, List.set_cons_zero, List.set_cons_succ]
                      refine Zs.pure (i := 7) (oi := ⟨some 63, _, _, _, _, _⟩) (v := .pointer (some ⟨D, 1, none⟩)) rfl (by kernel_rfl) (by kernel_rfl) (by kernel_rfl) (by decide) (fun _ _ _ h => h) (Or.inl ⟨by rfl, ?hy7⟩) hS1 ?_
                      case hy7 => (intro w hSw; (try dsimp only at hSw); go_simp; try with_reducible rfl)
                      simp only [Act.put, List.setIfInBounds_toArray, List.set_cons_zero, List.set_cons_succ]
                      refine Zs.take (i := 8) (oi := ⟨some 64, _, _, _, _, _⟩) (v := .string p) rfl (by kernel_rfl) (by kernel_rfl) (by kernel_rfl) (by decide) (by kernel_rfl) (by kernel_rfl) (fun _ _ _ h => h) (Or.inl ⟨by rfl, ?hy8⟩) hS1 ?_
                      case hy8 => (intro w hSw; (try dsimp only at hSw); go_simp; try with_reducible rfl)
                      simp only [Act.put, List.setIfInBounds_toArray, List.set_cons_zero, List.set_cons_succ]
                      refine Zs.pure (i := 9) (oi := ⟨some 65, _, _, _, _, _⟩) (v := .pointer (some ⟨D, 3, none⟩)) rfl (by kernel_rfl) (by kernel_rfl) (by kernel_rfl) (by decide) (fun _ _ _ h => h) (Or.inl ⟨by rfl, ?hy9⟩) hS1 ?_
                      case hy9 => (intro w hSw; (try dsimp only at hSw); go_simp; try with_reducible rfl)
                      simp only [Act.put, List.setIfInBounds_toArray, List.set_cons_zero, List.set_cons_succ]
                      refine Zs.take (i := 10) (oi := ⟨some 66, _, _, _, _, _⟩) (v := .bool f) rfl (by kernel_rfl) (by kernel_rfl) (by kernel_rfl) (by decide) (by kernel_rfl) (by kernel_rfl) (fun _ _ _ h => h) (Or.inl ⟨by rfl, ?hy10⟩) hS1 ?_
                      case hy10 => (intro w hSw; (try dsimp only at hSw); go_simp; try with_reducible rfl)
                      simp only [Act.put, List.setIfInBounds_toArray, List.set_cons_zero, List.set_cons_succ]
                      refine Zs.one (i := 5) (oi := ⟨some 61, _, _, _, _, _⟩) (by kernel_rfl) rfl (fun K hK => ?_)
                      go_simp
                      refine (hE.out _ ((Below.refl _ _).drew)).mono ?_
                      rintro e V1 ⟨rfl, hS2, h2⟩
                      have h2H := hidP h2
                      clear h2
                      go_wp2_with fail
                      refine hK.out _ _ (fun _ => hS2) ?_
                      clear hK K
                      try simp only [Act.put, List.setIfInBounds_toArray, List.set_cons_zero, List.set_cons_succ]
                      refine Zs.one (i := 11) (oi := ⟨some 67, _, _, _, _, _⟩) (by kernel_rfl) rfl (fun K hK => ?_)
                      go_simp
                      refine h2H.out.mono ?_
                      rintro e V2 ⟨rfl, hS3, hfin⟩
                      go_wp2_with fail
                      refine hK.out _ _ (fun _ => hS3) ?_
                      clear hK K
                      try simp only [Act.put, List.setIfInBounds_toArray, List.set_cons_zero, List.set_cons_succ]
                      refine Zs.pure (i := 12) (oi := ⟨some 7, _, _, _, _, _⟩) (v := .int .i64 ev) rfl (by kernel_rfl) (by kernel_rfl) (by kernel_rfl) (by decide) (fun _ _ _ h => h) (Or.inl ⟨by rfl, ?hy12⟩) hS3 ?_
                      case hy12 => (intro w hSw; (try dsimp only at hSw); go_simp; try with_reducible rfl)
                      simp only [Act.put, List.setIfInBounds_toArray, List.set_cons_zero, List.set_cons_succ]
                      refine Zs.one (i := 13) (oi := ⟨some 8, _, _, _, _, _⟩) (by kernel_rfl) rfl (fun K hK => ?_)
                      go_simp
                      refine hK.out _ _ (fun q => absurd q (by decide)) ?_
                      clear hK K
                      try simp only [Act.put, List.setIfInBounds_toArray, List.set_cons_zero, List.set_cons_succ]
                      refine Zs.done (by kernel_rfl) ?_ _
                      clear hE h2H hS1 hS2 hS3
                      go_wp2_with fail
                      go_meet
                      exact ⟨ev, rfl, rfl, hfin⟩
                  · have h1' : (wh == 1) = false := by simp [h1]
                    by_cases h2 : wh = 2
                    · subst h2
                      as_aux_lemma =>
                        have hE' := dl_of hqH.out (make_two hqH.out.1 (by have := hj9H.out; omega) p f hbH.out)
                        obtain ⟨ev, hE'⟩ := hE'
                        have hE := hidP hE'
                        clear hE'
                        unfold pT at hE
                        dsimp only at hE
                        have hS1 := And.intro ct (And.intro cr (And.intro d1 (And.intro d2 d3)))
                        unfold pT at hS1
                        clear hqH
                        go_upto_region 18 with fail
                        refine Zs.region (S := fun W' => W'.cell? ⟨tb, 0, none⟩ = some (.pointer (some ⟨bt, 0, none⟩)) ∧ W'.cell? ⟨tb + 1, 0, none⟩ = some (.pointer (some ⟨rb, 0, none⟩)) ∧ W'.cell? ⟨D, 1, none⟩ = some (.string p) ∧ W'.cell? ⟨D, 2, none⟩ = some (.string t) ∧ W'.cell? ⟨D, 3, none⟩ = some (.bool f)) 13 (by kernel_rfl) ?_
                        refine Zs.take (i := 0) (oi := ⟨some 56, _, _, _, _, _⟩) (v := .pointer (some ⟨bt, 0, none⟩)) rfl (by kernel_rfl) (by kernel_rfl) (by kernel_rfl) (by decide) (by kernel_rfl) (by kernel_rfl) (fun _ _ _ h => h) (Or.inl ⟨by rfl, ?hy0⟩) hS1 ?_
                        case hy0 => (intro w hSw; (try dsimp only at hSw); go_simp; try with_reducible rfl)
                        simp only [Act.put, List.setIfInBounds_toArray, List.set_cons_zero, List.set_cons_succ]
                        refine Zs.pure (i := 1) (oi := ⟨some 57, _, _, _, _, _⟩) (v := .pointer (some ⟨D, 1, none⟩)) rfl (by kernel_rfl) (by kernel_rfl) (by kernel_rfl) (by decide) (fun _ _ _ h => h) (Or.inl ⟨by rfl, ?hy1⟩) hS1 ?_
                        case hy1 => (intro w hSw; (try dsimp only at hSw); go_simp; try with_reducible rfl)
                        simp only [Act.put, List.setIfInBounds_toArray, List.set_cons_zero, List.set_cons_succ]
                        refine Zs.take (i := 2) (oi := ⟨some 58, _, _, _, _, _⟩) (v := .string p) rfl (by kernel_rfl) (by kernel_rfl) (by kernel_rfl) (by decide) (by kernel_rfl) (by kernel_rfl) (fun _ _ _ h => h) (Or.inl ⟨by rfl, ?hy2⟩) hS1 ?_
                        case hy2 => (intro w hSw; (try dsimp only at hSw); go_simp; try with_reducible rfl)
                        simp only [Act.put, List.setIfInBounds_toArray, List.set_cons_zero, List.set_cons_succ]
                        refine Zs.pure (i := 3) (oi := ⟨some 59, _, _, _, _, _⟩) (v := .pointer (some ⟨D, 3, none⟩)) rfl (by kernel_rfl) (by kernel_rfl) (by kernel_rfl) (by decide) (fun _ _ _ h => h) (Or.inl ⟨by rfl, ?hy3⟩) hS1 ?_
                        case hy3 => (intro w hSw; (try dsimp only at hSw); go_simp; try with_reducible rfl)
                        simp only [Act.put, List.setIfInBounds_toArray, List.set_cons_zero, List.set_cons_succ]
                        refine Zs.take (i := 4) (oi := ⟨some 60, _, _, _, _, _⟩) (v := .bool f) rfl (by kernel_rfl) (by kernel_rfl) (by kernel_rfl) (by decide) (by kernel_rfl) (by kernel_rfl) (fun _ _ _ h => h) (Or.inl ⟨by rfl, ?hy4⟩) hS1 ?_
                        case hy4 => (intro w hSw; (try dsimp only at hSw); go_simp; try with_reducible rfl)
                        simp only [Act.put, List.setIfInBounds_toArray, List.set_cons_zero, List.set_cons_succ]
                        refine Zs.take (i := 6) (oi := ⟨some 62, _, _, _, _, _⟩) (v := .pointer (some ⟨rb, 0, none⟩)) rfl (by kernel_rfl) (by kernel_rfl) (by kernel_rfl) (by decide) (by kernel_rfl) (by kernel_rfl) (fun _ _ _ h => h) (Or.inl ⟨by rfl, ?hy6⟩) hS1 ?_
                        case hy6 => (intro w hSw; (try dsimp only at hSw); go_simp; try with_reducible rfl)
                        simp only [Act.put, List.setIfInBounds_toArray, List.set_cons_zero, List.set_cons_succ]
                        refine Zs.pure (i := 7) (oi := ⟨some 63, _, _, _, _, _⟩) (v := .pointer (some ⟨D, 1, none⟩)) rfl (by kernel_rfl) (by kernel_rfl) (by kernel_rfl) (by decide) (fun _ _ _ h => h) (Or.inl ⟨by rfl, ?hy7⟩) hS1 ?_
                        case hy7 => (intro w hSw; (try dsimp only at hSw); go_simp; try with_reducible rfl)
                        simp only [Act.put, List.setIfInBounds_toArray, List.set_cons_zero, List.set_cons_succ]
                        refine Zs.take (i := 8) (oi := ⟨some 64, _, _, _, _, _⟩) (v := .string p) rfl (by kernel_rfl) (by kernel_rfl) (by kernel_rfl) (by decide) (by kernel_rfl) (by kernel_rfl) (fun _ _ _ h => h) (Or.inl ⟨by rfl, ?hy8⟩) hS1 ?_
                        case hy8 => (intro w hSw; (try dsimp only at hSw); go_simp; try with_reducible rfl)
                        simp only [Act.put, List.setIfInBounds_toArray, List.set_cons_zero, List.set_cons_succ]
                        refine Zs.pure (i := 9) (oi := ⟨some 65, _, _, _, _, _⟩) (v := .pointer (some ⟨D, 3, none⟩)) rfl (by kernel_rfl) (by kernel_rfl) (by kernel_rfl) (by decide) (fun _ _ _ h => h) (Or.inl ⟨by rfl, ?hy9⟩) hS1 ?_
                        case hy9 => (intro w hSw; (try dsimp only at hSw); go_simp; try with_reducible rfl)
                        simp only [Act.put, List.setIfInBounds_toArray, List.set_cons_zero, List.set_cons_succ]
                        refine Zs.take (i := 10) (oi := ⟨some 66, _, _, _, _, _⟩) (v := .bool f) rfl (by kernel_rfl) (by kernel_rfl) (by kernel_rfl) (by decide) (by kernel_rfl) (by kernel_rfl) (fun _ _ _ h => h) (Or.inl ⟨by rfl, ?hy10⟩) hS1 ?_
                        case hy10 => (intro w hSw; (try dsimp only at hSw); go_simp; try with_reducible rfl)
                        simp only [Act.put, List.setIfInBounds_toArray, List.set_cons_zero, List.set_cons_succ]
                        refine Zs.one (i := 5) (oi := ⟨some 61, _, _, _, _, _⟩) (by kernel_rfl) rfl (fun K hK => ?_)
                        go_simp
                        refine (hE.out _ ((Below.refl _ _).drew)).mono ?_
                        rintro e V1 ⟨rfl, hS2, h2⟩
                        have h2H := hidP h2
                        clear h2
                        go_wp2_with fail
                        refine hK.out _ _ (fun _ => hS2) ?_
                        clear hK K
                        try simp only [Act.put, List.setIfInBounds_toArray, List.set_cons_zero, List.set_cons_succ]
                        refine Zs.one (i := 11) (oi := ⟨some 67, _, _, _, _, _⟩) (by kernel_rfl) rfl (fun K hK => ?_)
                        go_simp
                        refine h2H.out.mono ?_
                        rintro e V2 ⟨rfl, hS3, hfin⟩
                        go_wp2_with fail
                        refine hK.out _ _ (fun _ => hS3) ?_
                        clear hK K
                        try simp only [Act.put, List.setIfInBounds_toArray, List.set_cons_zero, List.set_cons_succ]
                        refine Zs.pure (i := 12) (oi := ⟨some 7, _, _, _, _, _⟩) (v := .int .i64 ev) rfl (by kernel_rfl) (by kernel_rfl) (by kernel_rfl) (by decide) (fun _ _ _ h => h) (Or.inl ⟨by rfl, ?hy12⟩) hS3 ?_
                        case hy12 => (intro w hSw; (try dsimp only at hSw); go_simp; try with_reducible rfl)
                        simp only [Act.put, List.setIfInBounds_toArray, List.set_cons_zero, List.set_cons_succ]
                        refine Zs.one (i := 13) (oi := ⟨some 8, _, _, _, _, _⟩) (by kernel_rfl) rfl (fun K hK => ?_)
                        go_simp
                        refine hK.out _ _ (fun q => absurd q (by decide)) ?_
                        clear hK K
                        try simp only [Act.put, List.setIfInBounds_toArray, List.set_cons_zero, List.set_cons_succ]
                        refine Zs.done (by kernel_rfl) ?_ _
                        clear hE h2H hS1 hS2 hS3
                        go_wp2_with fail
                        go_meet
                        exact ⟨ev, rfl, rfl, hfin⟩
                    · have h2' : (wh == 2) = false := by simp [h2]
                      by_cases h3 : wh = 3
                      · subst h3
                        as_aux_lemma =>
                          have hE' := dl_of hqH.out (touch_two hqH.out.1 (by have := hj9H.out; omega) p hbH.out)
                          obtain ⟨ev, hE'⟩ := hE'
                          have hE := hidP hE'
                          clear hE'
                          unfold pT at hE
                          dsimp only at hE
                          have hS1 := And.intro ct (And.intro cr (And.intro d1 (And.intro d2 d3)))
                          unfold pT at hS1
                          clear hqH
                          go_upto_region 20 with fail
                          refine Zs.region (S := fun W' => W'.cell? ⟨tb, 0, none⟩ = some (.pointer (some ⟨bt, 0, none⟩)) ∧ W'.cell? ⟨tb + 1, 0, none⟩ = some (.pointer (some ⟨rb, 0, none⟩)) ∧ W'.cell? ⟨D, 1, none⟩ = some (.string p) ∧ W'.cell? ⟨D, 2, none⟩ = some (.string t) ∧ W'.cell? ⟨D, 3, none⟩ = some (.bool f)) 9 (by kernel_rfl) ?_
                          refine Zs.take (i := 0) (oi := ⟨some 70, _, _, _, _, _⟩) (v := .pointer (some ⟨bt, 0, none⟩)) rfl (by kernel_rfl) (by kernel_rfl) (by kernel_rfl) (by decide) (by kernel_rfl) (by kernel_rfl) (fun _ _ _ h => h) (Or.inl ⟨by rfl, ?hy0⟩) hS1 ?_
                          case hy0 => (intro w hSw; (try dsimp only at hSw); go_simp; try with_reducible rfl)
                          simp only [Act.put, List.setIfInBounds_toArray, List.set_cons_zero, List.set_cons_succ]
                          refine Zs.pure (i := 1) (oi := ⟨some 71, _, _, _, _, _⟩) (v := .pointer (some ⟨D, 1, none⟩)) rfl (by kernel_rfl) (by kernel_rfl) (by kernel_rfl) (by decide) (fun _ _ _ h => h) (Or.inl ⟨by rfl, ?hy1⟩) hS1 ?_
                          case hy1 => (intro w hSw; (try dsimp only at hSw); go_simp; try with_reducible rfl)
                          simp only [Act.put, List.setIfInBounds_toArray, List.set_cons_zero, List.set_cons_succ]
                          refine Zs.take (i := 2) (oi := ⟨some 72, _, _, _, _, _⟩) (v := .string p) rfl (by kernel_rfl) (by kernel_rfl) (by kernel_rfl) (by decide) (by kernel_rfl) (by kernel_rfl) (fun _ _ _ h => h) (Or.inl ⟨by rfl, ?hy2⟩) hS1 ?_
                          case hy2 => (intro w hSw; (try dsimp only at hSw); go_simp; try with_reducible rfl)
                          simp only [Act.put, List.setIfInBounds_toArray, List.set_cons_zero, List.set_cons_succ]
                          refine Zs.take (i := 4) (oi := ⟨some 74, _, _, _, _, _⟩) (v := .pointer (some ⟨rb, 0, none⟩)) rfl (by kernel_rfl) (by kernel_rfl) (by kernel_rfl) (by decide) (by kernel_rfl) (by kernel_rfl) (fun _ _ _ h => h) (Or.inl ⟨by rfl, ?hy4⟩) hS1 ?_
                          case hy4 => (intro w hSw; (try dsimp only at hSw); go_simp; try with_reducible rfl)
                          simp only [Act.put, List.setIfInBounds_toArray, List.set_cons_zero, List.set_cons_succ]
                          refine Zs.pure (i := 5) (oi := ⟨some 75, _, _, _, _, _⟩) (v := .pointer (some ⟨D, 1, none⟩)) rfl (by kernel_rfl) (by kernel_rfl) (by kernel_rfl) (by decide) (fun _ _ _ h => h) (Or.inl ⟨by rfl, ?hy5⟩) hS1 ?_
                          case hy5 => (intro w hSw; (try dsimp only at hSw); go_simp; try with_reducible rfl)
                          simp only [Act.put, List.setIfInBounds_toArray, List.set_cons_zero, List.set_cons_succ]
                          refine Zs.take (i := 6) (oi := ⟨some 76, _, _, _, _, _⟩) (v := .string p) rfl (by kernel_rfl) (by kernel_rfl) (by kernel_rfl) (by decide) (by kernel_rfl) (by kernel_rfl) (fun _ _ _ h => h) (Or.inl ⟨by rfl, ?hy6⟩) hS1 ?_
                          case hy6 => (intro w hSw; (try dsimp only at hSw); go_simp; try with_reducible rfl)
                          simp only [Act.put, List.setIfInBounds_toArray, List.set_cons_zero, List.set_cons_succ]
                          refine Zs.one (i := 3) (oi := ⟨some 73, _, _, _, _, _⟩) (by kernel_rfl) rfl (fun K hK => ?_)
                          go_simp
                          refine (hE.out _ ((Below.refl _ _).drew)).mono ?_
                          rintro e V1 ⟨rfl, hS2, h2⟩
                          have h2H := hidP h2
                          clear h2
                          go_wp2_with fail
                          refine hK.out _ _ (fun _ => hS2) ?_
                          clear hK K
                          try simp only [Act.put, List.setIfInBounds_toArray, List.set_cons_zero, List.set_cons_succ]
                          refine Zs.one (i := 7) (oi := ⟨some 77, _, _, _, _, _⟩) (by kernel_rfl) rfl (fun K hK => ?_)
                          go_simp
                          refine h2H.out.mono ?_
                          rintro e V2 ⟨rfl, hS3, hfin⟩
                          go_wp2_with fail
                          refine hK.out _ _ (fun _ => hS3) ?_
                          clear hK K
                          try simp only [Act.put, List.setIfInBounds_toArray, List.set_cons_zero, List.set_cons_succ]
                          refine Zs.pure (i := 8) (oi := ⟨some 7, _, _, _, _, _⟩) (v := .int .i64 ev) rfl (by kernel_rfl) (by kernel_rfl) (by kernel_rfl) (by decide) (fun _ _ _ h => h) (Or.inl ⟨by rfl, ?hy8⟩) hS3 ?_
                          case hy8 => (intro w hSw; (try dsimp only at hSw); go_simp; try with_reducible rfl)
                          simp only [Act.put, List.setIfInBounds_toArray, List.set_cons_zero, List.set_cons_succ]
                          refine Zs.one (i := 9) (oi := ⟨some 8, _, _, _, _, _⟩) (by kernel_rfl) rfl (fun K hK => ?_)
                          go_simp
                          refine hK.out _ _ (fun q => absurd q (by decide)) ?_
                          clear hK K
                          try simp only [Act.put, List.setIfInBounds_toArray, List.set_cons_zero, List.set_cons_succ]
                          refine Zs.done (by kernel_rfl) ?_ _
                          clear hE h2H hS1 hS2 hS3
                          go_wp2_with fail
                          go_meet
                          exact ⟨ev, rfl, rfl, hfin⟩
                      · have h3' : (wh == 3) = false := by simp [h3]
                        by_cases h4 : wh = 4
                        · subst h4
                          as_aux_lemma =>
                            have hE' := dl_of hqH.out (remove_two hqH.out.1 (by have := hj9H.out; omega) p hbH.out)
                            obtain ⟨ev, hE'⟩ := hE'
                            have hE := hidP hE'
                            clear hE'
                            unfold pT at hE
                            dsimp only at hE
                            have hS1 := And.intro ct (And.intro cr (And.intro d1 (And.intro d2 d3)))
                            unfold pT at hS1
                            clear hqH
                            go_upto_region 23 with fail
                            refine Zs.region (S := fun W' => W'.cell? ⟨tb, 0, none⟩ = some (.pointer (some ⟨bt, 0, none⟩)) ∧ W'.cell? ⟨tb + 1, 0, none⟩ = some (.pointer (some ⟨rb, 0, none⟩)) ∧ W'.cell? ⟨D, 1, none⟩ = some (.string p) ∧ W'.cell? ⟨D, 2, none⟩ = some (.string t) ∧ W'.cell? ⟨D, 3, none⟩ = some (.bool f)) 9 (by kernel_rfl) ?_
                            refine Zs.take (i := 0) (oi := ⟨some 81, _, _, _, _, _⟩) (v := .pointer (some ⟨bt, 0, none⟩)) rfl (by kernel_rfl) (by kernel_rfl) (by kernel_rfl) (by decide) (by kernel_rfl) (by kernel_rfl) (fun _ _ _ h => h) (Or.inl ⟨by rfl, ?hy0⟩) hS1 ?_
                            case hy0 => (intro w hSw; (try dsimp only at hSw); go_simp; try with_reducible rfl)
                            simp only [Act.put, List.setIfInBounds_toArray, List.set_cons_zero, List.set_cons_succ]
                            refine Zs.pure (i := 1) (oi := ⟨some 82, _, _, _, _, _⟩) (v := .pointer (some ⟨D, 1, none⟩)) rfl (by kernel_rfl) (by kernel_rfl) (by kernel_rfl) (by decide) (fun _ _ _ h => h) (Or.inl ⟨by rfl, ?hy1⟩) hS1 ?_
                            case hy1 => (intro w hSw; (try dsimp only at hSw); go_simp; try with_reducible rfl)
                            simp only [Act.put, List.setIfInBounds_toArray, List.set_cons_zero, List.set_cons_succ]
                            refine Zs.take (i := 2) (oi := ⟨some 83, _, _, _, _, _⟩) (v := .string p) rfl (by kernel_rfl) (by kernel_rfl) (by kernel_rfl) (by decide) (by kernel_rfl) (by kernel_rfl) (fun _ _ _ h => h) (Or.inl ⟨by rfl, ?hy2⟩) hS1 ?_
                            case hy2 => (intro w hSw; (try dsimp only at hSw); go_simp; try with_reducible rfl)
                            simp only [Act.put, List.setIfInBounds_toArray, List.set_cons_zero, List.set_cons_succ]
                            refine Zs.take (i := 4) (oi := ⟨some 85, _, _, _, _, _⟩) (v := .pointer (some ⟨rb, 0, none⟩)) rfl (by kernel_rfl) (by kernel_rfl) (by kernel_rfl) (by decide) (by kernel_rfl) (by kernel_rfl) (fun _ _ _ h => h) (Or.inl ⟨by rfl, ?hy4⟩) hS1 ?_
                            case hy4 => (intro w hSw; (try dsimp only at hSw); go_simp; try with_reducible rfl)
                            simp only [Act.put, List.setIfInBounds_toArray, List.set_cons_zero, List.set_cons_succ]
                            refine Zs.pure (i := 5) (oi := ⟨some 86, _, _, _, _, _⟩) (v := .pointer (some ⟨D, 1, none⟩)) rfl (by kernel_rfl) (by kernel_rfl) (by kernel_rfl) (by decide) (fun _ _ _ h => h) (Or.inl ⟨by rfl, ?hy5⟩) hS1 ?_
                            case hy5 => (intro w hSw; (try dsimp only at hSw); go_simp; try with_reducible rfl)
                            simp only [Act.put, List.setIfInBounds_toArray, List.set_cons_zero, List.set_cons_succ]
                            refine Zs.take (i := 6) (oi := ⟨some 87, _, _, _, _, _⟩) (v := .string p) rfl (by kernel_rfl) (by kernel_rfl) (by kernel_rfl) (by decide) (by kernel_rfl) (by kernel_rfl) (fun _ _ _ h => h) (Or.inl ⟨by rfl, ?hy6⟩) hS1 ?_
                            case hy6 => (intro w hSw; (try dsimp only at hSw); go_simp; try with_reducible rfl)
                            simp only [Act.put, List.setIfInBounds_toArray, List.set_cons_zero, List.set_cons_succ]
                            refine Zs.one (i := 3) (oi := ⟨some 84, _, _, _, _, _⟩) (by kernel_rfl) rfl (fun K hK => ?_)
                            go_simp
                            refine (hE.out _ ((Below.refl _ _).drew)).mono ?_
                            rintro e V1 ⟨rfl, hS2, h2⟩
                            have h2H := hidP h2
                            clear h2
                            go_wp2_with fail
                            refine hK.out _ _ (fun _ => hS2) ?_
                            clear hK K
                            try simp only [Act.put, List.setIfInBounds_toArray, List.set_cons_zero, List.set_cons_succ]
                            refine Zs.one (i := 7) (oi := ⟨some 88, _, _, _, _, _⟩) (by kernel_rfl) rfl (fun K hK => ?_)
                            go_simp
                            refine h2H.out.mono ?_
                            rintro e V2 ⟨rfl, hS3, hfin⟩
                            go_wp2_with fail
                            refine hK.out _ _ (fun _ => hS3) ?_
                            clear hK K
                            try simp only [Act.put, List.setIfInBounds_toArray, List.set_cons_zero, List.set_cons_succ]
                            refine Zs.pure (i := 8) (oi := ⟨some 7, _, _, _, _, _⟩) (v := .int .i64 ev) rfl (by kernel_rfl) (by kernel_rfl) (by kernel_rfl) (by decide) (fun _ _ _ h => h) (Or.inl ⟨by rfl, ?hy8⟩) hS3 ?_
                            case hy8 => (intro w hSw; (try dsimp only at hSw); go_simp; try with_reducible rfl)
                            simp only [Act.put, List.setIfInBounds_toArray, List.set_cons_zero, List.set_cons_succ]
                            refine Zs.one (i := 9) (oi := ⟨some 8, _, _, _, _, _⟩) (by kernel_rfl) rfl (fun K hK => ?_)
                            go_simp
                            refine hK.out _ _ (fun q => absurd q (by decide)) ?_
                            clear hK K
                            try simp only [Act.put, List.setIfInBounds_toArray, List.set_cons_zero, List.set_cons_succ]
                            refine Zs.done (by kernel_rfl) ?_ _
                            clear hE h2H hS1 hS2 hS3
                            go_wp2_with fail
                            go_meet
                            exact ⟨ev, rfl, rfl, hfin⟩
                        · have h4' : (wh == 4) = false := by simp [h4]
                          by_cases h5 : wh = 5
                          · subst h5
                            as_aux_lemma =>
                              have hE' := dl_of hqH.out (remove_two hqH.out.1 (by have := hj9H.out; omega) p hbH.out)
                              obtain ⟨ev, hE'⟩ := hE'
                              have hE := hidP hE'
                              clear hE'
                              unfold pT at hE
                              dsimp only at hE
                              have hS1 := And.intro ct (And.intro cr (And.intro d1 (And.intro d2 d3)))
                              unfold pT at hS1
                              clear hqH
                              go_upto_region 23 with fail
                              refine Zs.region (S := fun W' => W'.cell? ⟨tb, 0, none⟩ = some (.pointer (some ⟨bt, 0, none⟩)) ∧ W'.cell? ⟨tb + 1, 0, none⟩ = some (.pointer (some ⟨rb, 0, none⟩)) ∧ W'.cell? ⟨D, 1, none⟩ = some (.string p) ∧ W'.cell? ⟨D, 2, none⟩ = some (.string t) ∧ W'.cell? ⟨D, 3, none⟩ = some (.bool f)) 9 (by kernel_rfl) ?_
                              refine Zs.take (i := 0) (oi := ⟨some 81, _, _, _, _, _⟩) (v := .pointer (some ⟨bt, 0, none⟩)) rfl (by kernel_rfl) (by kernel_rfl) (by kernel_rfl) (by decide) (by kernel_rfl) (by kernel_rfl) (fun _ _ _ h => h) (Or.inl ⟨by rfl, ?hy0⟩) hS1 ?_
                              case hy0 => (intro w hSw; (try dsimp only at hSw); go_simp; try with_reducible rfl)
                              simp only [Act.put, List.setIfInBounds_toArray, List.set_cons_zero, List.set_cons_succ]
                              refine Zs.pure (i := 1) (oi := ⟨some 82, _, _, _, _, _⟩) (v := .pointer (some ⟨D, 1, none⟩)) rfl (by kernel_rfl) (by kernel_rfl) (by kernel_rfl) (by decide) (fun _ _ _ h => h) (Or.inl ⟨by rfl, ?hy1⟩) hS1 ?_
                              case hy1 => (intro w hSw; (try dsimp only at hSw); go_simp; try with_reducible rfl)
                              simp only [Act.put, List.setIfInBounds_toArray, List.set_cons_zero, List.set_cons_succ]
                              refine Zs.take (i := 2) (oi := ⟨some 83, _, _, _, _, _⟩) (v := .string p) rfl (by kernel_rfl) (by kernel_rfl) (by kernel_rfl) (by decide) (by kernel_rfl) (by kernel_rfl) (fun _ _ _ h => h) (Or.inl ⟨by rfl, ?hy2⟩) hS1 ?_
                              case hy2 => (intro w hSw; (try dsimp only at hSw); go_simp; try with_reducible rfl)
                              simp only [Act.put, List.setIfInBounds_toArray, List.set_cons_zero, List.set_cons_succ]
                              refine Zs.take (i := 4) (oi := ⟨some 85, _, _, _, _, _⟩) (v := .pointer (some ⟨rb, 0, none⟩)) rfl (by kernel_rfl) (by kernel_rfl) (by kernel_rfl) (by decide) (by kernel_rfl) (by kernel_rfl) (fun _ _ _ h => h) (Or.inl ⟨by rfl, ?hy4⟩) hS1 ?_
                              case hy4 => (intro w hSw; (try dsimp only at hSw); go_simp; try with_reducible rfl)
                              simp only [Act.put, List.setIfInBounds_toArray, List.set_cons_zero, List.set_cons_succ]
                              refine Zs.pure (i := 5) (oi := ⟨some 86, _, _, _, _, _⟩) (v := .pointer (some ⟨D, 1, none⟩)) rfl (by kernel_rfl) (by kernel_rfl) (by kernel_rfl) (by decide) (fun _ _ _ h => h) (Or.inl ⟨by rfl, ?hy5⟩) hS1 ?_
                              case hy5 => (intro w hSw; (try dsimp only at hSw); go_simp; try with_reducible rfl)
                              simp only [Act.put, List.setIfInBounds_toArray, List.set_cons_zero, List.set_cons_succ]
                              refine Zs.take (i := 6) (oi := ⟨some 87, _, _, _, _, _⟩) (v := .string p) rfl (by kernel_rfl) (by kernel_rfl) (by kernel_rfl) (by decide) (by kernel_rfl) (by kernel_rfl) (fun _ _ _ h => h) (Or.inl ⟨by rfl, ?hy6⟩) hS1 ?_
                              case hy6 => (intro w hSw; (try dsimp only at hSw); go_simp; try with_reducible rfl)
                              simp only [Act.put, List.setIfInBounds_toArray, List.set_cons_zero, List.set_cons_succ]
                              refine Zs.one (i := 3) (oi := ⟨some 84, _, _, _, _, _⟩) (by kernel_rfl) rfl (fun K hK => ?_)
                              go_simp
                              refine (hE.out _ ((Below.refl _ _).drew)).mono ?_
                              rintro e V1 ⟨rfl, hS2, h2⟩
                              have h2H := hidP h2
                              clear h2
                              go_wp2_with fail
                              refine hK.out _ _ (fun _ => hS2) ?_
                              clear hK K
                              try simp only [Act.put, List.setIfInBounds_toArray, List.set_cons_zero, List.set_cons_succ]
                              refine Zs.one (i := 7) (oi := ⟨some 88, _, _, _, _, _⟩) (by kernel_rfl) rfl (fun K hK => ?_)
                              go_simp
                              refine h2H.out.mono ?_
                              rintro e V2 ⟨rfl, hS3, hfin⟩
                              go_wp2_with fail
                              refine hK.out _ _ (fun _ => hS3) ?_
                              clear hK K
                              try simp only [Act.put, List.setIfInBounds_toArray, List.set_cons_zero, List.set_cons_succ]
                              refine Zs.pure (i := 8) (oi := ⟨some 7, _, _, _, _, _⟩) (v := .int .i64 ev) rfl (by kernel_rfl) (by kernel_rfl) (by kernel_rfl) (by decide) (fun _ _ _ h => h) (Or.inl ⟨by rfl, ?hy8⟩) hS3 ?_
                              case hy8 => (intro w hSw; (try dsimp only at hSw); go_simp; try with_reducible rfl)
                              simp only [Act.put, List.setIfInBounds_toArray, List.set_cons_zero, List.set_cons_succ]
                              refine Zs.one (i := 9) (oi := ⟨some 8, _, _, _, _, _⟩) (by kernel_rfl) rfl (fun K hK => ?_)
                              go_simp
                              refine hK.out _ _ (fun q => absurd q (by decide)) ?_
                              clear hK K
                              try simp only [Act.put, List.setIfInBounds_toArray, List.set_cons_zero, List.set_cons_succ]
                              refine Zs.done (by kernel_rfl) ?_ _
                              clear hE h2H hS1 hS2 hS3
                              go_wp2_with fail
                              go_meet
                              exact ⟨ev, rfl, rfl, hfin⟩
                          · have h5' : (wh == 5) = false := by simp [h5]
                            by_cases h6 : wh = 6
                            · subst h6
                              as_aux_lemma =>
                                have hE' := dl_of hqH.out (mount_two hqH.out.1 (by have := hj9H.out; omega) t p hbH.out)
                                obtain ⟨ev, hE'⟩ := hE'
                                have hE := hidP hE'
                                clear hE'
                                unfold pT at hE
                                dsimp only at hE
                                have hS1 := And.intro ct (And.intro cr (And.intro d1 (And.intro d2 d3)))
                                unfold pT at hS1
                                clear hqH
                                go_upto_region 25 with fail
                                refine Zs.region (S := fun W' => W'.cell? ⟨tb, 0, none⟩ = some (.pointer (some ⟨bt, 0, none⟩)) ∧ W'.cell? ⟨tb + 1, 0, none⟩ = some (.pointer (some ⟨rb, 0, none⟩)) ∧ W'.cell? ⟨D, 1, none⟩ = some (.string p) ∧ W'.cell? ⟨D, 2, none⟩ = some (.string t) ∧ W'.cell? ⟨D, 3, none⟩ = some (.bool f)) 13 (by kernel_rfl) ?_
                                refine Zs.take (i := 0) (oi := ⟨some 91, _, _, _, _, _⟩) (v := .pointer (some ⟨bt, 0, none⟩)) rfl (by kernel_rfl) (by kernel_rfl) (by kernel_rfl) (by decide) (by kernel_rfl) (by kernel_rfl) (fun _ _ _ h => h) (Or.inl ⟨by rfl, ?hy0⟩) hS1 ?_
                                case hy0 => (intro w hSw; (try dsimp only at hSw); go_simp; try with_reducible rfl)
                                simp only [Act.put, List.setIfInBounds_toArray, List.set_cons_zero, List.set_cons_succ]
                                refine Zs.pure (i := 1) (oi := ⟨some 92, _, _, _, _, _⟩) (v := .pointer (some ⟨D, 2, none⟩)) rfl (by kernel_rfl) (by kernel_rfl) (by kernel_rfl) (by decide) (fun _ _ _ h => h) (Or.inl ⟨by rfl, ?hy1⟩) hS1 ?_
                                case hy1 => (intro w hSw; (try dsimp only at hSw); go_simp; try with_reducible rfl)
                                simp only [Act.put, List.setIfInBounds_toArray, List.set_cons_zero, List.set_cons_succ]
                                refine Zs.take (i := 2) (oi := ⟨some 93, _, _, _, _, _⟩) (v := .string t) rfl (by kernel_rfl) (by kernel_rfl) (by kernel_rfl) (by decide) (by kernel_rfl) (by kernel_rfl) (fun _ _ _ h => h) (Or.inl ⟨by rfl, ?hy2⟩) hS1 ?_
                                case hy2 => (intro w hSw; (try dsimp only at hSw); go_simp; try with_reducible rfl)
                                simp only [Act.put, List.setIfInBounds_toArray, List.set_cons_zero, List.set_cons_succ]
                                refine Zs.pure (i := 3) (oi := ⟨some 94, _, _, _, _, _⟩) (v := .pointer (some ⟨D, 1, none⟩)) rfl (by kernel_rfl) (by kernel_rfl) (by kernel_rfl) (by decide) (fun _ _ _ h => h) (Or.inl ⟨by rfl, ?hy3⟩) hS1 ?_
                                case hy3 => (intro w hSw; (try dsimp only at hSw); go_simp; try with_reducible rfl)
                                simp only [Act.put, List.setIfInBounds_toArray, List.set_cons_zero, List.set_cons_succ]
                                refine Zs.take (i := 4) (oi := ⟨some 95, _, _, _, _, _⟩) (v := .string p) rfl (by kernel_rfl) (by kernel_rfl) (by kernel_rfl) (by decide) (by kernel_rfl) (by kernel_rfl) (fun _ _ _ h => h) (Or.inl ⟨by rfl, ?hy4⟩) hS1 ?_
                                case hy4 => (intro w hSw; (try dsimp only at hSw); go_simp; try with_reducible rfl)
                                simp only [Act.put, List.setIfInBounds_toArray, List.set_cons_zero, List.set_cons_succ]
                                refine Zs.take (i := 6) (oi := ⟨some 97, _, _, _, _, _⟩) (v := .pointer (some ⟨rb, 0, none⟩)) rfl (by kernel_rfl) (by kernel_rfl) (by kernel_rfl) (by decide) (by kernel_rfl) (by kernel_rfl) (fun _ _ _ h => h) (Or.inl ⟨by rfl, ?hy6⟩) hS1 ?_
                                case hy6 => (intro w hSw; (try dsimp only at hSw); go_simp; try with_reducible rfl)
                                simp only [Act.put, List.setIfInBounds_toArray, List.set_cons_zero, List.set_cons_succ]
                                refine Zs.pure (i := 7) (oi := ⟨some 98, _, _, _, _, _⟩) (v := .pointer (some ⟨D, 2, none⟩)) rfl (by kernel_rfl) (by kernel_rfl) (by kernel_rfl) (by decide) (fun _ _ _ h => h) (Or.inl ⟨by rfl, ?hy7⟩) hS1 ?_
                                case hy7 => (intro w hSw; (try dsimp only at hSw); go_simp; try with_reducible rfl)
                                simp only [Act.put, List.setIfInBounds_toArray, List.set_cons_zero, List.set_cons_succ]
                                refine Zs.take (i := 8) (oi := ⟨some 99, _, _, _, _, _⟩) (v := .string t) rfl (by kernel_rfl) (by kernel_rfl) (by kernel_rfl) (by decide) (by kernel_rfl) (by kernel_rfl) (fun _ _ _ h => h) (Or.inl ⟨by rfl, ?hy8⟩) hS1 ?_
                                case hy8 => (intro w hSw; (try dsimp only at hSw); go_simp; try with_reducible rfl)
                                simp only [Act.put, List.setIfInBounds_toArray, List.set_cons_zero, List.set_cons_succ]
                                refine Zs.pure (i := 9) (oi := ⟨some 100, _, _, _, _, _⟩) (v := .pointer (some ⟨D, 1, none⟩)) rfl (by kernel_rfl) (by kernel_rfl) (by kernel_rfl) (by decide) (fun _ _ _ h => h) (Or.inl ⟨by rfl, ?hy9⟩) hS1 ?_
                                case hy9 => (intro w hSw; (try dsimp only at hSw); go_simp; try with_reducible rfl)
                                simp only [Act.put, List.setIfInBounds_toArray, List.set_cons_zero, List.set_cons_succ]
                                refine Zs.take (i := 10) (oi := ⟨some 101, _, _, _, _, _⟩) (v := .string p) rfl (by kernel_rfl) (by kernel_rfl) (by kernel_rfl) (by decide) (by kernel_rfl) (by kernel_rfl) (fun _ _ _ h => h) (Or.inl ⟨by rfl, ?hy10⟩) hS1 ?_
                                case hy10 => (intro w hSw; (try dsimp only at hSw); go_simp; try with_reducible rfl)
                                simp only [Act.put, List.setIfInBounds_toArray, List.set_cons_zero, List.set_cons_succ]
                                refine Zs.one (i := 5) (oi := ⟨some 96, _, _, _, _, _⟩) (by kernel_rfl) rfl (fun K hK => ?_)
                                go_simp
                                refine (hE.out _ ((Below.refl _ _).drew)).mono ?_
                                rintro e V1 ⟨rfl, hS2, h2⟩
                                have h2H := hidP h2
                                clear h2
                                go_wp2_with fail
                                refine hK.out _ _ (fun _ => hS2) ?_
                                clear hK K
                                try simp only [Act.put, List.setIfInBounds_toArray, List.set_cons_zero, List.set_cons_succ]
                                refine Zs.one (i := 11) (oi := ⟨some 102, _, _, _, _, _⟩) (by kernel_rfl) rfl (fun K hK => ?_)
                                go_simp
                                refine h2H.out.mono ?_
                                rintro e V2 ⟨rfl, hS3, hfin⟩
                                go_wp2_with fail
                                refine hK.out _ _ (fun _ => hS3) ?_
                                clear hK K
                                try simp only [Act.put, List.setIfInBounds_toArray, List.set_cons_zero, List.set_cons_succ]
                                refine Zs.pure (i := 12) (oi := ⟨some 7, _, _, _, _, _⟩) (v := .int .i64 ev) rfl (by kernel_rfl) (by kernel_rfl) (by kernel_rfl) (by decide) (fun _ _ _ h => h) (Or.inl ⟨by rfl, ?hy12⟩) hS3 ?_
                                case hy12 => (intro w hSw; (try dsimp only at hSw); go_simp; try with_reducible rfl)
                                simp only [Act.put, List.setIfInBounds_toArray, List.set_cons_zero, List.set_cons_succ]
                                refine Zs.one (i := 13) (oi := ⟨some 8, _, _, _, _, _⟩) (by kernel_rfl) rfl (fun K hK => ?_)
                                go_simp
                                refine hK.out _ _ (fun q => absurd q (by decide)) ?_
                                clear hK K
                                try simp only [Act.put, List.setIfInBounds_toArray, List.set_cons_zero, List.set_cons_succ]
                                refine Zs.done (by kernel_rfl) ?_ _
                                clear hE h2H hS1 hS2 hS3
                                go_wp2_with fail
                                go_meet
                                exact ⟨ev, rfl, rfl, hfin⟩
                            · have h6' : (wh == 6) = false := by simp [h6]
                              as_aux_lemma =>
                                have hE' := dl_of hqH.out (unmount_two hqH.out.1 (by have := hj9H.out; omega) p hbH.out)
                                obtain ⟨ev, hE'⟩ := hE'
                                have hE := hidP hE'
                                clear hE'
                                unfold pT at hE
                                dsimp only at hE
                                have hS1 := And.intro ct (And.intro cr (And.intro d1 (And.intro d2 d3)))
                                unfold pT at hS1
                                clear hqH
                                go_upto_region 14 with fail
                                refine Zs.region (S := fun W' => W'.cell? ⟨tb, 0, none⟩ = some (.pointer (some ⟨bt, 0, none⟩)) ∧ W'.cell? ⟨tb + 1, 0, none⟩ = some (.pointer (some ⟨rb, 0, none⟩)) ∧ W'.cell? ⟨D, 1, none⟩ = some (.string p) ∧ W'.cell? ⟨D, 2, none⟩ = some (.string t) ∧ W'.cell? ⟨D, 3, none⟩ = some (.bool f)) 9 (by kernel_rfl) ?_
                                refine Zs.take (i := 0) (oi := ⟨some 44, _, _, _, _, _⟩) (v := .pointer (some ⟨bt, 0, none⟩)) rfl (by kernel_rfl) (by kernel_rfl) (by kernel_rfl) (by decide) (by kernel_rfl) (by kernel_rfl) (fun _ _ _ h => h) (Or.inl ⟨by rfl, ?hy0⟩) hS1 ?_
                                case hy0 => (intro w hSw; (try dsimp only at hSw); go_simp; try with_reducible rfl)
                                simp only [Act.put, List.setIfInBounds_toArray, List.set_cons_zero, List.set_cons_succ]
                                refine Zs.pure (i := 1) (oi := ⟨some 45, _, _, _, _, _⟩) (v := .pointer (some ⟨D, 1, none⟩)) rfl (by kernel_rfl) (by kernel_rfl) (by kernel_rfl) (by decide) (fun _ _ _ h => h) (Or.inl ⟨by rfl, ?hy1⟩) hS1 ?_
                                case hy1 => (intro w hSw; (try dsimp only at hSw); go_simp; try with_reducible rfl)
                                simp only [Act.put, List.setIfInBounds_toArray, List.set_cons_zero, List.set_cons_succ]
                                refine Zs.take (i := 2) (oi := ⟨some 46, _, _, _, _, _⟩) (v := .string p) rfl (by kernel_rfl) (by kernel_rfl) (by kernel_rfl) (by decide) (by kernel_rfl) (by kernel_rfl) (fun _ _ _ h => h) (Or.inl ⟨by rfl, ?hy2⟩) hS1 ?_
                                case hy2 => (intro w hSw; (try dsimp only at hSw); go_simp; try with_reducible rfl)
                                simp only [Act.put, List.setIfInBounds_toArray, List.set_cons_zero, List.set_cons_succ]
                                refine Zs.take (i := 4) (oi := ⟨some 48, _, _, _, _, _⟩) (v := .pointer (some ⟨rb, 0, none⟩)) rfl (by kernel_rfl) (by kernel_rfl) (by kernel_rfl) (by decide) (by kernel_rfl) (by kernel_rfl) (fun _ _ _ h => h) (Or.inl ⟨by rfl, ?hy4⟩) hS1 ?_
                                case hy4 => (intro w hSw; (try dsimp only at hSw); go_simp; try with_reducible rfl)
                                simp only [Act.put, List.setIfInBounds_toArray, List.set_cons_zero, List.set_cons_succ]
                                refine Zs.pure (i := 5) (oi := ⟨some 49, _, _, _, _, _⟩) (v := .pointer (some ⟨D, 1, none⟩)) rfl (by kernel_rfl) (by kernel_rfl) (by kernel_rfl) (by decide) (fun _ _ _ h => h) (Or.inl ⟨by rfl, ?hy5⟩) hS1 ?_
                                case hy5 => (intro w hSw; (try dsimp only at hSw); go_simp; try with_reducible rfl)
                                simp only [Act.put, List.setIfInBounds_toArray, List.set_cons_zero, List.set_cons_succ]
                                refine Zs.take (i := 6) (oi := ⟨some 50, _, _, _, _, _⟩) (v := .string p) rfl (by kernel_rfl) (by kernel_rfl) (by kernel_rfl) (by decide) (by kernel_rfl) (by kernel_rfl) (fun _ _ _ h => h) (Or.inl ⟨by rfl, ?hy6⟩) hS1 ?_
                                case hy6 => (intro w hSw; (try dsimp only at hSw); go_simp; try with_reducible rfl)
                                simp only [Act.put, List.setIfInBounds_toArray, List.set_cons_zero, List.set_cons_succ]
                                refine Zs.one (i := 3) (oi := ⟨some 47, _, _, _, _, _⟩) (by kernel_rfl) rfl (fun K hK => ?_)
                                go_simp
                                refine (hE.out _ ((Below.refl _ _).drew)).mono ?_
                                rintro e V1 ⟨rfl, hS2, h2⟩
                                have h2H := hidP h2
                                clear h2
                                go_wp2_with fail
                                refine hK.out _ _ (fun _ => hS2) ?_
                                clear hK K
                                try simp only [Act.put, List.setIfInBounds_toArray, List.set_cons_zero, List.set_cons_succ]
                                refine Zs.one (i := 7) (oi := ⟨some 51, _, _, _, _, _⟩) (by kernel_rfl) rfl (fun K hK => ?_)
                                go_simp
                                refine h2H.out.mono ?_
                                rintro e V2 ⟨rfl, hS3, hfin⟩
                                go_wp2_with fail
                                refine hK.out _ _ (fun _ => hS3) ?_
                                clear hK K
                                try simp only [Act.put, List.setIfInBounds_toArray, List.set_cons_zero, List.set_cons_succ]
                                refine Zs.pure (i := 8) (oi := ⟨some 7, _, _, _, _, _⟩) (v := .int .i64 ev) rfl (by kernel_rfl) (by kernel_rfl) (by kernel_rfl) (by decide) (fun _ _ _ h => h) (Or.inl ⟨by rfl, ?hy8⟩) hS3 ?_
                                case hy8 => (intro w hSw; (try dsimp only at hSw); go_simp; try with_reducible rfl)
                                simp only [Act.put, List.setIfInBounds_toArray, List.set_cons_zero, List.set_cons_succ]
                                refine Zs.one (i := 9) (oi := ⟨some 8, _, _, _, _, _⟩) (by kernel_rfl) rfl (fun K hK => ?_)
                                go_simp
                                refine hK.out _ _ (fun q => absurd q (by decide)) ?_
                                clear hK K
                                try simp only [Act.put, List.setIfInBounds_toArray, List.set_cons_zero, List.set_cons_succ]
                                refine Zs.done (by kernel_rfl) ?_ _
                                clear hE h2H hS1 hS2 hS3
                                go_wp2_with fail
                                go_meet
                                exact ⟨ev, rfl, rfl, hfin⟩
              case rest =>
                obtain ⟨ev, rfl, rfl, hT⟩ := hcut
                clear hqH d0 d1 d2 d3 ct cr
                as_aux_lemma =>
                  obtain ⟨tp, ⟨ct, cr⟩, d0, d1, d2, d3⟩ := (id hT.out : Pd w1 tb (tb + 1) D bt rb (j + 1) ⟨wh, p, t, f⟩ wc)
                  dsimp only at d0 d1 d2 d3
                  obtain ⟨mw, mb, eb, sv, hRd⟩ := reads_of tp (by have := hj9H.out; omega) p hbH.out
                  have hRH := hidP hRd
                  obtain ⟨W0, hW0⟩ : ∃ W0, wc = W0 := ⟨_, rfl⟩
                  have hTH : Hid (Pd w1 tb (tb + 1) D bt rb (j + 1) ⟨wh, p, t, f⟩ W0) := hW0 ▸ hT.out
                  rw [hW0] at hRH ct cr d0 d1 d2 d3 ⊢
                  have hSB : Hid (∀ V, Below W0.heap.size W0 V → V.cell? ⟨tb, 0, none⟩ = some (.pointer (some ⟨bt, 0, none⟩)) ∧ V.cell? ⟨tb + 1, 0, none⟩ = some (.pointer (some ⟨rb, 0, none⟩)) ∧ V.cell? ⟨D, 1, none⟩ = some (.string p)) := fun V b => ⟨bcell b (cell_lt ct) ct, bcell b (cell_lt cr) cr, bcell b (cell_lt d1) d1⟩
                  have hMc := hidP (hRH.out.mc W0 (Below.refl _ _))
                  unfold pT at hMc ct cr
                  clear hT tp hRd hW0 d0 d2 d3
                  rename_i K1 aK1
                  refine aK1 _ _ ?_
                  clear aK1 K1
                  go_wp2_with fail
                  refine hMc.out.mono ?_
                  rintro e V1 ⟨rfl, b1⟩
                  have hb1 := hidP b1
                  obtain ⟨e1', e2', e3'⟩ := hSB.out V1 b1
                  have hMr := hidP (hRH.out.mr V1 b1)
                  unfold pT at hMr
                  clear hMc b1 ct cr d1
                  go_wp2_with fail
                  refine hMr.out.mono ?_
                  rintro e V2 ⟨rfl, b2⟩
                  have hb2 := hidP (hb1.out.trans (b2.mono hb1.out.size))
                  have hb20 : Hid (Below W0.heap.size W0 V2.drew) := hb2.out.trans ⟨rfl, rfl, rfl, Nat.le_refl _, fun _ _ => rfl⟩
                  have hS0 := hSB.out V2.drew hb20.out
                  clear hMr b2 e1' e2' e3'
                  go_upto_region 28 with fail
                  refine wp_region_held_drew (S := fun W' => W'.cell? ⟨tb, 0, none⟩ = some (.pointer (some ⟨bt, 0, none⟩)) ∧ W'.cell? ⟨tb + 1, 0, none⟩ = some (.pointer (some ⟨rb, 0, none⟩)) ∧ W'.cell? ⟨D, 1, none⟩ = some (.string p)) (by kernel_rfl) hS0 (fun hHeld => ?_)
                  clear hHeld
                  have hbk0 := hb20
                  refine wpAnyH_take (i := 0) (oi := ⟨some 117, _, _, _, _, _⟩) (v := .int .i64 ev) rfl (by kernel_rfl) (by kernel_rfl) (by kernel_rfl) (fun _ _ _ h => h) (Or.inl ⟨by rfl, ?hy0⟩) hS0 ?_
                  case hy0 => (intro w hSw; (try dsimp only at hSw); go_simp; try with_reducible rfl)
                  simp only [Act.put, List.setIfInBounds_toArray, List.set_cons_zero, List.set_cons_succ]
                  refine wpAnyH_take (i := 1) (oi := ⟨some 118, _, _, _, _, _⟩) (v := .int .i64 ev) rfl (by kernel_rfl) (by kernel_rfl) (by kernel_rfl) (fun _ _ _ h => h) (Or.inl ⟨by rfl, ?hy1⟩) hS0 ?_
                  case hy1 => (intro w hSw; (try dsimp only at hSw); go_simp; try with_reducible rfl)
                  simp only [Act.put, List.setIfInBounds_toArray, List.set_cons_zero, List.set_cons_succ]
                  refine wpAnyH_take (i := 2) (oi := ⟨some 119, _, _, _, _, _⟩) (v := .bool false) rfl (by kernel_rfl) (by kernel_rfl) (by kernel_rfl) (fun _ _ _ h => h) (Or.inl ⟨by rfl, ?hy2⟩) hS0 ?_
                  case hy2 => (intro w hSw; (try dsimp only at hSw); go_simp; try with_reducible rfl)
                  simp only [Act.put, List.setIfInBounds_toArray, List.set_cons_zero, List.set_cons_succ]
                  refine wpAnyH_take (i := 3) (oi := ⟨some 120, _, _, _, _, _⟩) (v := .bool false) rfl (by kernel_rfl) (by kernel_rfl) (by kernel_rfl) (fun _ _ _ h => h) (Or.inl ⟨by rfl, ?hy3⟩) hS0 ?_
                  case hy3 => (intro w hSw; (try dsimp only at hSw); go_simp; try with_reducible rfl)
                  simp only [Act.put, List.setIfInBounds_toArray, List.set_cons_zero, List.set_cons_succ]
                  refine wpAnyH_take (i := 4) (oi := ⟨some 121, _, _, _, _, _⟩) (v := .string mw) rfl (by kernel_rfl) (by kernel_rfl) (by kernel_rfl) (fun _ _ _ h => h) (Or.inl ⟨by rfl, ?hy4⟩) hS0 ?_
                  case hy4 => (intro w hSw; (try dsimp only at hSw); go_simp; try with_reducible rfl)
                  simp only [Act.put, List.setIfInBounds_toArray, List.set_cons_zero, List.set_cons_succ]
                  refine wpAnyH_take (i := 5) (oi := ⟨some 122, _, _, _, _, _⟩) (v := .string mw) rfl (by kernel_rfl) (by kernel_rfl) (by kernel_rfl) (fun _ _ _ h => h) (Or.inl ⟨by rfl, ?hy5⟩) hS0 ?_
                  case hy5 => (intro w hSw; (try dsimp only at hSw); go_simp; try with_reducible rfl)
                  simp only [Act.put, List.setIfInBounds_toArray, List.set_cons_zero, List.set_cons_succ]
                  refine wpAnyH_take (i := 6) (oi := ⟨some 123, _, _, _, _, _⟩) (v := .bool false) rfl (by kernel_rfl) (by kernel_rfl) (by kernel_rfl) (fun _ _ _ h => h) (Or.inl ⟨by rfl, ?hy6⟩) hS0 ?_
                  case hy6 => (intro w hSw; (try dsimp only at hSw); go_simp; try with_reducible rfl)
                  simp only [Act.put, List.setIfInBounds_toArray, List.set_cons_zero, List.set_cons_succ]
                  refine wpAnyH_take (i := 7) (oi := ⟨some 124, _, _, _, _, _⟩) (v := .bool false) rfl (by kernel_rfl) (by kernel_rfl) (by kernel_rfl) (fun _ _ _ h => h) (Or.inl ⟨by rfl, ?hy7⟩) hS0 ?_
                  case hy7 => (intro w hSw; (try dsimp only at hSw); go_simp; try with_reducible rfl)
                  simp only [Act.put, List.setIfInBounds_toArray, List.set_cons_zero, List.set_cons_succ]
                  refine wpAnyH_take (i := 8) (oi := ⟨some 125, _, _, _, _, _⟩) (v := .bool false) rfl (by kernel_rfl) (by kernel_rfl) (by kernel_rfl) (fun _ _ _ h => h) (Or.inl ⟨by rfl, ?hy8⟩) hS0 ?_
                  case hy8 => (intro w hSw; (try dsimp only at hSw); go_simp; try with_reducible rfl)
                  simp only [Act.put, List.setIfInBounds_toArray, List.set_cons_zero, List.set_cons_succ]
                  refine wpAnyH_take (i := 9) (oi := ⟨some 126, _, _, _, _, _⟩) (v := .bool mb) rfl (by kernel_rfl) (by kernel_rfl) (by kernel_rfl) (fun _ _ _ h => h) (Or.inl ⟨by rfl, ?hy9⟩) hS0 ?_
                  case hy9 => (intro w hSw; (try dsimp only at hSw); go_simp; try with_reducible rfl)
                  simp only [Act.put, List.setIfInBounds_toArray, List.set_cons_zero, List.set_cons_succ]
                  refine wpAnyH_take (i := 10) (oi := ⟨some 127, _, _, _, _, _⟩) (v := .bool mb) rfl (by kernel_rfl) (by kernel_rfl) (by kernel_rfl) (fun _ _ _ h => h) (Or.inl ⟨by rfl, ?hy10⟩) hS0 ?_
                  case hy10 => (intro w hSw; (try dsimp only at hSw); go_simp; try with_reducible rfl)
                  simp only [Act.put, List.setIfInBounds_toArray, List.set_cons_zero, List.set_cons_succ]
                  refine wpAnyH_take (i := 11) (oi := ⟨some 128, _, _, _, _, _⟩) (v := .bool false) rfl (by kernel_rfl) (by kernel_rfl) (by kernel_rfl) (fun _ _ _ h => h) (Or.inl ⟨by rfl, ?hy11⟩) hS0 ?_
                  case hy11 => (intro w hSw; (try dsimp only at hSw); go_simp; try with_reducible rfl)
                  simp only [Act.put, List.setIfInBounds_toArray, List.set_cons_zero, List.set_cons_succ]
                  refine wpAnyH_take (i := 12) (oi := ⟨some 129, _, _, _, _, _⟩) (v := .bool false) rfl (by kernel_rfl) (by kernel_rfl) (by kernel_rfl) (fun _ _ _ h => h) (Or.inl ⟨by rfl, ?hy12⟩) hS0 ?_
                  case hy12 => (intro w hSw; (try dsimp only at hSw); go_simp; try with_reducible rfl)
                  simp only [Act.put, List.setIfInBounds_toArray, List.set_cons_zero, List.set_cons_succ]
                  refine wpAnyH_take (i := 13) (oi := ⟨some 130, _, _, _, _, _⟩) (v := .bool false) rfl (by kernel_rfl) (by kernel_rfl) (by kernel_rfl) (fun _ _ _ h => h) (Or.inl ⟨by rfl, ?hy13⟩) hS0 ?_
                  case hy13 => (intro w hSw; (try dsimp only at hSw); go_simp; try with_reducible rfl)
                  simp only [Act.put, List.setIfInBounds_toArray, List.set_cons_zero, List.set_cons_succ]
                  refine wpAnyH_take (i := 14) (oi := ⟨some 131, _, _, _, _, _⟩) (v := .pointer (some ⟨bt, 0, none⟩)) rfl (by kernel_rfl) (by kernel_rfl) (by kernel_rfl) (fun _ _ _ h => h) (Or.inl ⟨by rfl, ?hy14⟩) hS0 ?_
                  case hy14 => (intro w hSw; (try dsimp only at hSw); go_simp; try with_reducible rfl)
                  simp only [Act.put, List.setIfInBounds_toArray, List.set_cons_zero, List.set_cons_succ]
                  refine wpAnyH_take (i := 15) (oi := ⟨some 132, _, _, _, _, _⟩) (v := .pointer (some ⟨D, 1, none⟩)) rfl (by kernel_rfl) (by kernel_rfl) (by kernel_rfl) (fun _ _ _ h => h) (Or.inl ⟨by rfl, ?hy15⟩) hS0 ?_
                  case hy15 => (intro w hSw; (try dsimp only at hSw); go_simp; try with_reducible rfl)
                  simp only [Act.put, List.setIfInBounds_toArray, List.set_cons_zero, List.set_cons_succ]
                  refine wpAnyH_take (i := 16) (oi := ⟨some 133, _, _, _, _, _⟩) (v := .string p) rfl (by kernel_rfl) (by kernel_rfl) (by kernel_rfl) (fun _ _ _ h => h) (Or.inl ⟨by rfl, ?hy16⟩) hS0 ?_
                  case hy16 => (intro w hSw; (try dsimp only at hSw); go_simp; try with_reducible rfl)
                  simp only [Act.put, List.setIfInBounds_toArray, List.set_cons_zero, List.set_cons_succ]
                  refine wpAnyH_take (i := 18) (oi := ⟨some 135, _, _, _, _, _⟩) (v := .pointer (some ⟨rb, 0, none⟩)) rfl (by kernel_rfl) (by kernel_rfl) (by kernel_rfl) (fun _ _ _ h => h) (Or.inl ⟨by rfl, ?hy18⟩) hS0 ?_
                  case hy18 => (intro w hSw; (try dsimp only at hSw); go_simp; try with_reducible rfl)
                  simp only [Act.put, List.setIfInBounds_toArray, List.set_cons_zero, List.set_cons_succ]
                  refine wpAnyH_take (i := 19) (oi := ⟨some 136, _, _, _, _, _⟩) (v := .pointer (some ⟨D, 1, none⟩)) rfl (by kernel_rfl) (by kernel_rfl) (by kernel_rfl) (fun _ _ _ h => h) (Or.inl ⟨by rfl, ?hy19⟩) hS0 ?_
                  case hy19 => (intro w hSw; (try dsimp only at hSw); go_simp; try with_reducible rfl)
                  simp only [Act.put, List.setIfInBounds_toArray, List.set_cons_zero, List.set_cons_succ]
                  refine wpAnyH_take (i := 20) (oi := ⟨some 137, _, _, _, _, _⟩) (v := .string p) rfl (by kernel_rfl) (by kernel_rfl) (by kernel_rfl) (fun _ _ _ h => h) (Or.inl ⟨by rfl, ?hy20⟩) hS0 ?_
                  case hy20 => (intro w hSw; (try dsimp only at hSw); go_simp; try with_reducible rfl)
                  simp only [Act.put, List.setIfInBounds_toArray, List.set_cons_zero, List.set_cons_succ]
                  refine wpAnyH_ready (rs := [17]) (by kernel_rfl) (by simp) ?_
                  refine AllReadyH.cons (o := ⟨some 134, _, _, _, _, _⟩) rfl (fun K hK => ?_) AllReadyH.nil
                  go_simp
                  refine (hRH.out.ec _ hbk0.out).mono ?_
                  rintro e Y1 ⟨rfl, b1⟩
                  have hbk1 := hidP (hbk0.out.trans (b1.mono hbk0.out.size))
                  have hS1 := hSB.out Y1 hbk1.out
                  clear b1 hS0
                  go_wp2_with fail
                  refine hK.out _ _ hS1 (fun _ => ?_)
                  clear hK K
                  try simp only [Act.put, List.setIfInBounds_toArray, List.set_cons_zero, List.set_cons_succ]
                  refine wpAnyH_ready (rs := [21]) (by kernel_rfl) (by simp) ?_
                  refine AllReadyH.cons (o := ⟨some 138, _, _, _, _, _⟩) rfl (fun K hK => ?_) AllReadyH.nil
                  go_simp
                  refine (hRH.out.er _ hbk1.out).mono ?_
                  rintro e Y2 ⟨rfl, b2⟩
                  have hbk2 := hidP (hbk1.out.trans (b2.mono hbk1.out.size))
                  have hS2 := hSB.out Y2 hbk2.out
                  clear b2 hS1
                  go_wp2_with fail
                  refine hK.out _ _ hS2 (fun _ => ?_)
                  clear hK K
                  try simp only [Act.put, List.setIfInBounds_toArray, List.set_cons_zero, List.set_cons_succ]
                  refine wpAnyH_take (i := 22) (oi := ⟨some 139, _, _, _, _, _⟩) (v := .bool false) rfl (by kernel_rfl) (by kernel_rfl) (by kernel_rfl) (fun _ _ _ h => h) (Or.inl ⟨by rfl, ?hy22⟩) hS2 ?_
                  case hy22 => (intro w hSw; (try dsimp only at hSw); go_simp; try with_reducible rfl)
                  simp only [Act.put, List.setIfInBounds_toArray, List.set_cons_zero, List.set_cons_succ]
                  refine wpAnyH_take (i := 23) (oi := ⟨some 140, _, _, _, _, _⟩) (v := .bool false) rfl (by kernel_rfl) (by kernel_rfl) (by kernel_rfl) (fun _ _ _ h => h) (Or.inl ⟨by rfl, ?hy23⟩) hS2 ?_
                  case hy23 => (intro w hSw; (try dsimp only at hSw); go_simp; try with_reducible rfl)
                  simp only [Act.put, List.setIfInBounds_toArray, List.set_cons_zero, List.set_cons_succ]
                  refine wpAnyH_take (i := 24) (oi := ⟨some 141, _, _, _, _, _⟩) (v := .bool false) rfl (by kernel_rfl) (by kernel_rfl) (by kernel_rfl) (fun _ _ _ h => h) (Or.inl ⟨by rfl, ?hy24⟩) hS2 ?_
                  case hy24 => (intro w hSw; (try dsimp only at hSw); go_simp; try with_reducible rfl)
                  simp only [Act.put, List.setIfInBounds_toArray, List.set_cons_zero, List.set_cons_succ]
                  refine wpAnyH_take (i := 25) (oi := ⟨some 142, _, _, _, _, _⟩) (v := .pointer (some ⟨bt, 0, none⟩)) rfl (by kernel_rfl) (by kernel_rfl) (by kernel_rfl) (fun _ _ _ h => h) (Or.inl ⟨by rfl, ?hy25⟩) hS2 ?_
                  case hy25 => (intro w hSw; (try dsimp only at hSw); go_simp; try with_reducible rfl)
                  simp only [Act.put, List.setIfInBounds_toArray, List.set_cons_zero, List.set_cons_succ]
                  refine wpAnyH_take (i := 26) (oi := ⟨some 143, _, _, _, _, _⟩) (v := .pointer (some ⟨D, 1, none⟩)) rfl (by kernel_rfl) (by kernel_rfl) (by kernel_rfl) (fun _ _ _ h => h) (Or.inl ⟨by rfl, ?hy26⟩) hS2 ?_
                  case hy26 => (intro w hSw; (try dsimp only at hSw); go_simp; try with_reducible rfl)
                  simp only [Act.put, List.setIfInBounds_toArray, List.set_cons_zero, List.set_cons_succ]
                  refine wpAnyH_take (i := 27) (oi := ⟨some 144, _, _, _, _, _⟩) (v := .string p) rfl (by kernel_rfl) (by kernel_rfl) (by kernel_rfl) (fun _ _ _ h => h) (Or.inl ⟨by rfl, ?hy27⟩) hS2 ?_
                  case hy27 => (intro w hSw; (try dsimp only at hSw); go_simp; try with_reducible rfl)
                  simp only [Act.put, List.setIfInBounds_toArray, List.set_cons_zero, List.set_cons_succ]
                  refine wpAnyH_take (i := 29) (oi := ⟨some 146, _, _, _, _, _⟩) (v := .pointer (some ⟨rb, 0, none⟩)) rfl (by kernel_rfl) (by kernel_rfl) (by kernel_rfl) (fun _ _ _ h => h) (Or.inl ⟨by rfl, ?hy29⟩) hS2 ?_
                  case hy29 => (intro w hSw; (try dsimp only at hSw); go_simp; try with_reducible rfl)
                  simp only [Act.put, List.setIfInBounds_toArray, List.set_cons_zero, List.set_cons_succ]
                  refine wpAnyH_take (i := 30) (oi := ⟨some 147, _, _, _, _, _⟩) (v := .pointer (some ⟨D, 1, none⟩)) rfl (by kernel_rfl) (by kernel_rfl) (by kernel_rfl) (fun _ _ _ h => h) (Or.inl ⟨by rfl, ?hy30⟩) hS2 ?_
                  case hy30 => (intro w hSw; (try dsimp only at hSw); go_simp; try with_reducible rfl)
                  simp only [Act.put, List.setIfInBounds_toArray, List.set_cons_zero, List.set_cons_succ]
                  refine wpAnyH_take (i := 31) (oi := ⟨some 148, _, _, _, _, _⟩) (v := .string p) rfl (by kernel_rfl) (by kernel_rfl) (by kernel_rfl) (fun _ _ _ h => h) (Or.inl ⟨by rfl, ?hy31⟩) hS2 ?_
                  case hy31 => (intro w hSw; (try dsimp only at hSw); go_simp; try with_reducible rfl)
                  simp only [Act.put, List.setIfInBounds_toArray, List.set_cons_zero, List.set_cons_succ]
                  refine wpAnyH_ready (rs := [28]) (by kernel_rfl) (by simp) ?_
                  refine AllReadyH.cons (o := ⟨some 145, _, _, _, _, _⟩) rfl (fun K hK => ?_) AllReadyH.nil
                  go_simp
                  refine (hRH.out.sc _ hbk2.out).mono ?_
                  rintro e Y3 ⟨rfl, b3⟩
                  have hbk3 := hidP (hbk2.out.trans (b3.mono hbk2.out.size))
                  have hS3 := hSB.out Y3 hbk3.out
                  clear b3 hS2
                  go_wp2_with fail
                  refine hK.out _ _ hS3 (fun _ => ?_)
                  clear hK K
                  try simp only [Act.put, List.setIfInBounds_toArray, List.set_cons_zero, List.set_cons_succ]
                  refine wpAnyH_ready (rs := [32]) (by kernel_rfl) (by simp) ?_
                  refine AllReadyH.cons (o := ⟨some 149, _, _, _, _, _⟩) rfl (fun K hK => ?_) AllReadyH.nil
                  go_simp
                  refine (hRH.out.sr _ hbk3.out).mono ?_
                  rintro e Y4 ⟨rfl, b4⟩
                  have hbk4 := hidP (hbk3.out.trans (b4.mono hbk3.out.size))
                  have hS4 := hSB.out Y4 hbk4.out
                  clear b4 hS3
                  go_wp2_with fail
                  refine hK.out _ _ hS4 (fun _ => ?_)
                  clear hK K
                  try simp only [Act.put, List.setIfInBounds_toArray, List.set_cons_zero, List.set_cons_succ]
                  refine wpAnyH_take (i := 33) (oi := ⟨some 150, _, _, _, _, _⟩) (v := .bool false) rfl (by kernel_rfl) (by kernel_rfl) (by kernel_rfl) (fun _ _ _ h => h) (Or.inl ⟨by rfl, ?hy33⟩) hS4 ?_
                  case hy33 => (intro w hSw; (try dsimp only at hSw); go_simp; try with_reducible rfl)
                  simp only [Act.put, List.setIfInBounds_toArray, List.set_cons_zero, List.set_cons_succ]
                  refine wpAnyH_take (i := 34) (oi := ⟨some 151, _, _, _, _, _⟩) (v := .bool false) rfl (by kernel_rfl) (by kernel_rfl) (by kernel_rfl) (fun _ _ _ h => h) (Or.inl ⟨by rfl, ?hy34⟩) hS4 ?_
                  case hy34 => (intro w hSw; (try dsimp only at hSw); go_simp; try with_reducible rfl)
                  simp only [Act.put, List.setIfInBounds_toArray, List.set_cons_zero, List.set_cons_succ]
                  refine wpAnyH_done (by kernel_rfl) ?_ _
                  clear hS4
                  have hbY := hbk4
                  clear hbk0 hbk1 hbk2 hbk3 hb20 hb1 hb2 hRH
                  obtain ⟨Y, hY⟩ : ∃ Y, Y4 = Y := ⟨_, rfl⟩
                  rw [hY] at hbY ⊢
                  go_upto_region 32 with fail
                  obtain ⟨z1, z2, _⟩ := hSB.out Y hbY.out
                  obtain ⟨ab, hab⟩ : ∃ ab, Y.heap.size = ab := ⟨_, rfl⟩
                  obtain ⟨Z1, hZ1⟩ : ∃ Z1, Y.alloc (.cells #[.int .i64 0] 3) = Z1 := ⟨_, rfl⟩
                  obtain ⟨Z2, hZ2⟩ : ∃ Z2, Z1.alloc (.cells #[.bool true] 4) = Z2 := ⟨_, rfl⟩
                  obtain ⟨Z3, hZ3⟩ : ∃ Z3, Z2.alloc (.cells #[.pointer (some ⟨bt, 0, none⟩)] 24) = Z3 := ⟨_, rfl⟩
                  have sZ1 : Z1.heap.size = ab + 1 := by rw [← hZ1]; simp [hab]
                  have sZ2 : Z2.heap.size = ab + 2 := by rw [← hZ2]; simp [sZ1]
                  have sZ3 : Z3.heap.size = ab + 3 := by rw [← hZ3]; simp [sZ2]
                  have b01 : Below Y.heap.size Y Z1 := by rw [← hZ1]; exact (Below.refl _ _).alloc (Nat.le_refl _) _
                  have b12 : Below Z1.heap.size Z1 Z2 := by rw [← hZ2]; exact (Below.refl _ _).alloc (Nat.le_refl _) _
                  have b23 : Below Z2.heap.size Z2 Z3 := by rw [← hZ3]; exact (Below.refl _ _).alloc (Nat.le_refl _) _
                  have b02 := b01.trans (b12.mono b01.size)
                  have b03 := b02.trans (b23.mono b02.size)
                  have b13 := b12.trans (b23.mono b12.size)
                  have c2 : Z2.cell? ⟨tb, 0, none⟩ = some (.pointer (some ⟨bt, 0, none⟩)) := bcell b02 (cell_lt z1) z1
                  have q1 : Z3.cell? ⟨tb, 0, none⟩ = some (pT bt) := bcell b03 (cell_lt z1) z1
                  have q2 : Z3.cell? ⟨tb + 1, 0, none⟩ = some (pT rb) := bcell b03 (cell_lt z2) z2
                  have qA1 : Z1.cell? ⟨ab, 0, none⟩ = some (.int .i64 0) := by rw [← hZ1]; exact cell_at hab rfl
                  have qO2 : Z2.cell? ⟨ab + 1, 0, none⟩ = some (.bool true) := by rw [← hZ2]; exact cell_at sZ1 rfl
                  have qA : Z3.cell? ⟨ab, 0, none⟩ = some (.int .i64 0) := bcell b13 (cell_lt qA1) qA1
                  have qO : Z3.cell? ⟨ab + 1, 0, none⟩ = some (.bool true) := bcell b23 (cell_lt qO2) qO2
                  have qP : Z3.cell? ⟨ab + 2, 0, none⟩ = some (pT bt) := by rw [← hZ3]; exact cell_at sZ2 rfl
                  have ltb := cell_lt z2
                  simp only at ltb
                  have lW0 := hbY.out.size
                  have hfr2 := hfr.out
                  have t0 := hTH.out.1
                  have tz : Tp w1 (fun k => k = tb ∨ k = tb + 1 ∨ k = ab ∨ k = ab + 1) bt rb (j + 1) Z3 := t0.keep (F := fun _ => False) (Mv.below (hbY.out.trans (b03.mono lW0))) (fun _ f => f.elim) (fun k hk => by
                    rcases hk with e | e | e | e
                    · exact .inl (.inl e)
                    · exact .inl (.inr (.inl e))
                    · exact .inr ⟨by omega, by omega⟩
                    · exact .inr ⟨by omega, by omega⟩)
                  have fA : Z3.frozen? ⟨ab, 0, none⟩ = false := (bfroz b13 (cell_lt qA1)).trans (by rw [← hZ1]; exact froz_new hab)
                  have fO : Z3.frozen? ⟨ab + 1, 0, none⟩ = false := (bfroz b23 (cell_lt qO2)).trans (by rw [← hZ2]; exact froz_new sZ1)
                  obtain ⟨pr, m, cp, e1', rO, rA, hAl⟩ := all_two (O := ab + 1) (A := ab) (C := tb + 1) (D := tb) (pt := ab + 2) tz (by have := hj9H.out; omega) (fun k hk => by
                    rcases hk with e | e
                    · exact .inr (.inr (.inr e))
                    · exact .inr (.inr (.inl e))) qP qO fO qA fA q2 q1 (by omega) ⟨by omega, by omega⟩ ⟨by omega, by omega⟩ ⟨by omega, by omega⟩
                  have hAlH := hidP hAl
                  have hQ := hidP (allq_any bt Z2)
                  have hEH : Hid (∀ V, Mv (fun k => k = ab + 1 ∨ k = ab) Z3 V → V.cell? ⟨tb + 1, 0, none⟩ = some (.pointer (some ⟨rb, 0, none⟩)) ∧ V.cell? ⟨rb, 0, none⟩ = some (.slice pr m cp) ∧ ∀ nq, Hid (Ph w1 tb (tb + 1) bt rb (j + 1) (V.drewN nq))) := fun V mv => by
                    have nn : ¬ (tb + 1 = ab + 1 ∨ tb + 1 = ab) := by omega
                    have nn0 : ¬ (tb = ab + 1 ∨ tb = ab) := by omega
                    have x1 := mv.cell (a := ⟨tb + 1, 0, none⟩) nn q2
                    have x0 := mv.cell (a := ⟨tb, 0, none⟩) nn0 q1
                    have tk : Tp w1 (fun k => k = tb ∨ k = tb + 1) bt rb (j + 1) V := by
                      refine tz.keep mv (fun k f => .inl ?_) (fun k hk => .inl ?_)
                      · rcases f with e | e
                        · exact ⟨.inr (.inr (.inr e)), by omega⟩
                        · exact ⟨.inr (.inr (.inl e)), by omega⟩
                      · rcases hk with e | e
                        · exact .inl e
                        · exact .inr (.inl e)
                    exact ⟨x1, mv.cell (a := ⟨rb, 0, none⟩) (fun h => h.elim rO rA) e1', fun nq => ⟨tk.keep (F := fun _ => False) (Mv.below (below_drewN (Below.refl _ _) nq)) (fun _ f => f.elim) (fun k hk => .inl hk), x0, x1⟩⟩
                  rw [hab, hZ1, hZ2]
                  unfold pT at hAlH
                  clear hAl hZ1 hZ2 b01 b12 b23 b02 b03 b13 q1 q2 qA1 qO2 qA qO qP ltb lW0 hfr2 t0 tz fA fO e1' rO rA z1 z2 sZ1 sZ3 hTH hbY hSB
                  go_wp2_with fail
                  refine hQ.out.mono ?_
                  rintro e V3 ⟨rfl, hV3⟩
                  rw [hZ3] at hV3
                  subst hV3
                  clear hQ hZ3
                  try rw [sZ2]
                  go_wp2_with fail
                  refine hAlH.out.mono ?_
                  rintro e V4 ⟨rfl, mv, k1, k2⟩
                  obtain ⟨x1, x2, fin⟩ := hEH.out V4 mv
                  clear hAlH hEH mv
                  go_upto_region 33 with fail
                  go_quiet (fail)
                  go_wp2_with fail
                  exact ⟨⟨j + 1, by omega, by go_num, fin _⟩, by simp [intOf]; omega⟩
          · have hI1 : ¬ (500 : Int) < (p.size : Int) := by omega
            have hD1 : decide ((500 : Int) < (p.size : Int)) = false := decide_eq_false hI1
            have hI2 : (100 : Int) < (t.size : Int) := by omega
            clear hqH
            go_wp2_with (rw [hA])
            go_ret
            exact ⟨rfl, finA.out⟩
        · have hI1 : (500 : Int) < (p.size : Int) := by omega
          clear hqH
          go_wp2_with (rw [hA])
          go_ret
          exact ⟨rfl, finA.out⟩
      · obtain rfl : j = n := by omega
        have hjI : ¬ (j : Int) < (j : Int) := by omega
        have fin := hidP bw
        clear hst bw
        go_wp2_with fail
        go_ret
        exact ⟨rfl, fin.out⟩
  · have e1 : (100 : Int) < (n : Int) := by omega
    go_enter Tryd.func3, Tryd.ntmps3
    go_wp2_with fail
    refine hK.out.mono ?_
    rintro e w1 ⟨rfl, bw1⟩
    have fin := hidP bw1
    clear bw1 hK
    go_wp2_with fail
    go_ret
    exact ⟨rfl, fin.out⟩
theorem plays_own (p0 : Option Addr) (n c0 : Nat) (w : World) (hg : Mx w) (h : ∃ l : List Stp, l.length = n ∧ StepsAt w p0 l ∧ n ≤ 140737488355328) :
    Calls Tryd.prog 3 #[.slice p0 n c0] w fun e V => e = .returned (.bool true) ∧ Below w.heap.size w V := by
  obtain ⟨l, hl⟩ := h
  exact plays_walk p0 n c0 l w hg hl
end Go.Proofs.YtnniahlacfflmaaDoor
