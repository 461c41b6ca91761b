/- The law ProcTree. -/
import Derived.Test.YtlbgneacpbbjeaaL3a
import Derived.Deep.CutRange
import Derived.Deep.CutBlock
namespace Go.Proofs.Ytlbgneacpbbjeaa
open Go.RowKit Go.Shelf
set_option maxRecDepth 100000 in
set_option maxHeartbeats 4000000 in
theorem tree_walk (a : Option Addr) (b o n cap : Nat) (us : List Nat) (w : World) (ha : 0 < n → a = some ⟨b, o, none⟩) (hl : us.length = n) (hel : ∀ (j u : Nat), us[j]? = some u → w.cell? ⟨b, o + j, none⟩ = some (.int .u8 (u : Nat))) (hub : ∀ u ∈ us, u ≤ 255) (hml : n ≤ maxLen) :
    Calls Try.prog 4 #[.slice a n cap] w fun e w' => e = .returned (.bool true) ∧ Below w.heap.size w w' := by
  have hK := hidP (known_any w)
  have haH := hidP ha
  have hlH := hidP hl
  have helH := hidP hel
  have hubH := hidP hub
  have hnm : (n : Int) ≤ 9223372036854775807 := by unfold maxLen at hml; omega
  clear ha hl hel hub hml
  by_cases h150 : 150 < n
  · have h150I : (150 : Int) < (n : Int) := by omega
    go_enter Try.func4, Try.ntmps4
    go_wp2_with fail
    refine hK.out.mono ?_
    rintro e V ⟨rfl, hbV⟩
    go_wp2_with fail
    go_ret
    exact ⟨rfl, hbV⟩
  · have h150I : decide ((150 : Int) < (n : Int)) = false := by simp; omega
    have h150J : (n : Int) ≤ 150 := by omega
    go_enter Try.func4, Try.ntmps4
    go_wp2_with fail
    refine hK.out.mono ?_
    rintro e V ⟨rfl, hbV⟩
    have hN := hidP (new_n 40 V)
    go_wp2_with fail
    refine hN.out.mono ?_
    rintro e W1 ⟨bt, bm, rfl, T1'⟩
    have T1 := T1'.from hbV
    have wf1 := Wf.new 40
    rw [show roomOf 40 = 40 from rfl] at T1 wf1
    have T1H := hidP T1
    have wf1H := hidP wf1
    clear T1' T1 wf1 hbV hN hK
    go_wp2_with fail
    go_loopw [4, 5] (fun la i wr => ∃ (j : Nat) (last : Int) (l : Ps), j ≤ n ∧ i = .int .i64 j ∧ la = .int .i64 last ∧ last ≤ 1 + j ∧ 1 ≤ last ∧ Hid (Tn w bt bm 40 last l wr ∧ Wf 40 last l ∧ Tree l)) (fun _ i _ => n - (intOf i).toNat)
    case atStart => exact ⟨0, 1, [], by omega, rfl, rfl, by omega, by omega, T1H.out, wf1H.out, fun p hp => by simp at hp⟩
    case round =>
      obtain ⟨j, last, l, hj, rfl, rfl, hla, hl1, hI⟩ := hrel
      clear T1H wf1H
      by_cases hlt : j < n
      · obtain rfl := haH.out (by omega)
        obtain ⟨u, hu⟩ : ∃ u, us[j]? = some u := ⟨_, List.getElem?_eq_getElem (by rw [hlH.out]; exact hlt)⟩
        have hcell := (hI.out.1.be.cell (p := ⟨b, o + j, none⟩) (cell_lt (helH.out j u hu))).trans (helH.out j u hu)
        have hu8 := hubH.out u (List.mem_of_getElem? hu)
        have hjI : (j : Int) < (n : Int) := by omega
        obtain ⟨q, hq⟩ : ∃ q : Int, (u : Int) / 4 % (last + 1) = q := ⟨_, rfl⟩
        have hq0 : 0 ≤ q := by rw [← hq]; exact Int.emod_nonneg _ (by omega)
        have hq1 : q < last + 1 := by rw [← hq]; exact Int.emod_lt_of_pos _ (by omega)
        have hqt : Int.tmod ((u : Int) / 4) (last + 1) = q := by rw [Int.tmod_eq_emod_of_nonneg (by omega)]; exact hq
        have hrm : (u : Int) % 4 = 0 ∨ (u : Int) % 4 = 1 ∨ (u : Int) % 4 = 2 ∨ (u : Int) % 4 = 3 := by omega
        go_upto_region 11 with fail
        rename_i K1 aK1 K0 aK0
        have hrest : ∀ (x2 x6 x7 x8 x9 x10 x11 x12 x13 x14 x15 x16 x17 x18 x25 x26 x27 x28 x29 x30 x31 x32 x33 x34 x35 x36 x37 x38 x39 x40 x41 x42 x43 x44 x45 x46 x47 x48 x49 x50 x51 x52 x53 x54 x55 x56 x57 x58 x59 x60 x61 x62 x63 x64 x65 x66 x67 x68 x69 x70 x71 x72 x73 x74 x75 x76 x77 x78 x79 x80 x81 x82 x83 x84 x85 x86 x87 x88 x89 x90 x91 x92 x93 x94 x95 x96 x97 x98 x99 x100 x101 x102 x103 x104 x105 x106 x107 x108 x109 x110 x111 x112 x113 x114 x115 x116 x117 x118 x119 x120 x121 x122 x123 x124 x125 x126 x127 x128 x129 x130 x131 x132 x133 x134 x135 x136 x137 x138 x139 x140 x141 x142 x143 x144 x145 x146 x147 x148 x149 x150 x151 x152 x153 x154 x155 x156 x157 x158 x159 x160 x161 x162 x163 x164 x165 x166 x167 x168 x169 x170 x171 x172 x173 x174 x175 x176 x177 x178 x179 x180 x181 x182 x183 x184 x185 x186 x187 x188 x189 x190 x191 : Value) (wx : World) (LA : Int) (L : Ps), LA ≤ 1 + ((j : Int) + 1) → 1 ≤ LA → Tn w bt bm 40 LA L wx → Wf 40 LA L → Tree L → K1 { tmps := #[Value.slice (some ⟨b, o, none⟩) n cap, undef, x2, ptr bt, .int .i64 LA, .int .i64 j, x6, x7, x8, x9, x10, x11, x12, x13, x14, x15, x16, x17, x18, .bool true, .bool false, .slice (some ⟨b, o, none⟩) n cap, .int .i64 n, .bool false, ptr bt, x25, x26, x27, x28, x29, x30, x31, x32, x33, x34, x35, x36, x37, x38, x39, x40, x41, x42, x43, x44, x45, x46, x47, x48, x49, x50, x51, x52, x53, x54, x55, x56, x57, x58, x59, x60, x61, x62, x63, x64, x65, x66, x67, x68, x69, x70, x71, x72, x73, x74, x75, x76, x77, x78, x79, x80, x81, x82, x83, x84, x85, x86, x87, x88, x89, x90, x91, x92, x93, x94, x95, x96, x97, x98, x99, x100, x101, x102, x103, x104, x105, x106, x107, x108, x109, x110, x111, x112, x113, x114, x115, x116, x117, x118, x119, x120, x121, x122, x123, x124, x125, x126, x127, x128, x129, x130, x131, x132, x133, x134, x135, x136, x137, x138, x139, x140, x141, x142, x143, x144, x145, x146, x147, x148, x149, x150, x151, x152, x153, x154, x155, x156, x157, x158, x159, x160, x161, x162, x163, x164, x165, x166, x167, x168, x169, x170, x171, x172, x173, x174, x175, x176, x177, x178, x179, x180, x181, x182, x183, x184, x185, x186, x187, x188, x189, x190, x191], defers := [] } wx := by
          intro x2 x6 x7 x8 x9 x10 x11 x12 x13 x14 x15 x16 x17 x18 x25 x26 x27 x28 x29 x30 x31 x32 x33 x34 x35 x36 x37 x38 x39 x40 x41 x42 x43 x44 x45 x46 x47 x48 x49 x50 x51 x52 x53 x54 x55 x56 x57 x58 x59 x60 x61 x62 x63 x64 x65 x66 x67 x68 x69 x70 x71 x72 x73 x74 x75 x76 x77 x78 x79 x80 x81 x82 x83 x84 x85 x86 x87 x88 x89 x90 x91 x92 x93 x94 x95 x96 x97 x98 x99 x100 x101 x102 x103 x104 x105 x106 x107 x108 x109 x110 x111 x112 x113 x114 x115 x116 x117 x118 x119 x120 x121 x122 x123 x124 x125 x126 x127 x128 x129 x130 x131 x132 x133 x134 x135 x136 x137 x138 x139 x140 x141 x142 x143 x144 x145 x146 x147 x148 x149 x150 x151 x152 x153 x154 x155 x156 x157 x158 x159 x160 x161 x162 x163 x164 x165 x166 x167 x168 x169 x170 x171 x172 x173 x174 x175 x176 x177 x178 x179 x180 x181 x182 x183 x184 x185 x186 x187 x188 x189 x190 x191 wx LA L hb1 hb2 TH0 wfG0 trG0
          have TH := hidP TH0
          have wfG := hidP wfG0
          have trG := hidP trG0
          clear TH0 wfG0 trG0 hI aK0 hrm
          refine aK1 _ _ ?_
          clear aK1
          have hA := hidP (all_0 bt bm 40 LA L _ TH.out.tb wfG.out.srt (by have := wfG.out.len'; omega) (fun p hp => by have := wfG.out.rng p hp; omega))
          go_wp2_with fail
          refine hA.out.mono ?_
          rintro e W5 ⟨v, rfl, hrow, hb5⟩
          clear hA
          have T5 := TH.out.below hb5
          have hgl := hrow.lt
          obtain ⟨N, hN⟩ : ∃ N, (L).length = N := ⟨_, rfl⟩
          rw [hN] at hrow
          obtain ⟨g, cp, rfl⟩ := ownsRow_succ hrow
          have hg := hgl g rfl
          have hgn : ¬ (g = bt ∨ g = bm) := by have := TH.out.tb.lt; have := TH.out.tb.ltm; omega
          have hcs : Hid (∀ (k : Nat) (x : Pr), (one :: L)[k]? = some x → ∀ q, q < 6 → ∀ z, (prC x)[q]? = some z → W5.cell? ⟨g, k * 6 + q, none⟩ = some z) := fun k x hx q hq z hz => by
            have h1 := prs_at hx q hq
            have h2 := hrow.cells (g := g) rfl (k * 6 + q) z (by rw [h1]; exact hz)
            by_cases h0 : k * 6 + q = 0
            · rw [h0] at h2 ⊢; simpa [Addr.add] using h2
            · unfold Addr.add at h2; rw [if_neg h0] at h2; simpa using h2
          have hN64 : N ≤ 64 := by rw [← hN]; exact wfG.out.len'
          have hNH := hidP hN
          have hNI : ((L.length : Nat) : Int) = (N : Int) := by rw [hN]
          have hL := hidP (len_n T5 (n := (N : Int)) hNI)
          have o0 := hcs.out 0 one rfl 0 (by omega) _ rfl
          have o1 := hcs.out 0 one rfl 1 (by omega) _ rfl
          have o2 := hcs.out 0 one rfl 2 (by omega) _ rfl
          have o3 := hcs.out 0 one rfl 3 (by omega) _ rfl
          have o4 := hcs.out 0 one rfl 4 (by omega) _ rfl
          have o5 := hcs.out 0 one rfl 5 (by omega) _ rfl
          simp only [one, Nat.zero_mul, Nat.zero_add] at o0 o1 o2 o3 o4 o5
          clear hrow hb5 hgl hg T5 hN hNI
          go_wp2_with fail
          refine hL.out.mono ?_
          rintro e W6 ⟨rfl, T6, m6⟩
          have T6H := hidP T6
          have hc6 : Hid (∀ (k : Nat) (x : Pr), (one :: L)[k]? = some x → ∀ q, q < 6 → ∀ z, (prC x)[q]? = some z → W6.cell? ⟨g, k * 6 + q, none⟩ = some z) := fun k x hx q hq z hz => m6.cell hgn (hcs.out k x hx q hq z hz)
          clear hL T6 m6 hcs o0 o1 o2 o3 o4 o5
          go_wp2_with fail
          go_loopw [16] (fun kv wr => ∃ kk : Nat, 1 ≤ kk ∧ kk ≤ N + 1 ∧ kv = .int .i64 kk ∧ Hid (Tn w bt bm 40 LA (L) wr ∧ ∀ (k : Nat) (x : Pr), (one :: L)[k]? = some x → ∀ q, q < 6 → ∀ z, (prC x)[q]? = some z → wr.cell? ⟨g, k * 6 + q, none⟩ = some z)) (fun kv _ => N + 1 - (intOf kv).toNat)
          case atStart => exact ⟨1, by omega, by omega, rfl, T6H.out, hc6.out⟩
          case round =>
            obtain ⟨kk, k1, k2, rfl, hJ⟩ := hrel
            clear T6H hc6
            by_cases hkl : kk < N + 1
            · obtain ⟨x, y, hx, hy, hxy, hxp, hth, hzo, hpb⟩ := tree_at wfG.out trG.out (by rw [hNH.out]; exact hkl) k1
              have hG := hidP (get_n hJ.out.1 x.par (by omega) (by omega) (p := getP (L) x.par) (b := true) rfl hth)
              have cx1 := hJ.out.2 kk x hx 1 (by omega) _ rfl
              have cx0 := hidP (hJ.out.2 kk x hx 0 (by omega) _ rfl)
              have cx1H := hidP cx1
              have cy0 := hidP (hJ.out.2 (kk - 1) y hy 0 (by omega) _ rfl)
              obtain ⟨z, hz⟩ : ∃ z, getP (L) x.par = z := ⟨_, rfl⟩
              rw [hz] at hG hzo
              obtain ⟨z0, z1, z2, z3, z4, z5, z6, z7⟩ := z
              simp only at hzo
              subst hzo
              obtain ⟨xp, hxpE⟩ : ∃ xp, x.pid = xp := ⟨_, rfl⟩
              obtain ⟨xq, hxqE⟩ : ∃ xq, x.par = xq := ⟨_, rfl⟩
              obtain ⟨yp, hypE⟩ : ∃ yp, y.pid = yp := ⟨_, rfl⟩
              rw [hxpE] at cx0 hxy hxp
              rw [hxqE] at cx1 cx1H hG hxp
              rw [hypE] at cy0 hxy
              simp only [prV] at hG
              have hJ2 := hidP hJ.out.2
              have hT2 := hidP hJ.out.1
              clear hx hy hth hz hpb hJ hxpE hxqE hypE
              have hkI : (kk : Int) < (N : Int) + 1 := by omega
              go_wp2_with fail
              refine hG.out.mono ?_
              rintro e W7 ⟨rfl, T7, m7⟩
              obtain ⟨W8, hW8⟩ : ∃ W8, W7.alloc (.cells #[.int .i64 z0, .int .i64 z1, .string z2, .bool false, .int .i64 z4, .string z5] 40) = W8 := ⟨_, rfl⟩
              have m8 : Mv (fun k => k = bt ∨ k = bm) wr W8 := by rw [← hW8]; exact m7.trans' (Mv.alloc _ _ _)
              have T8 : Hid (Tn w bt bm 40 LA (L) W8) := by rw [← hW8]; exact T7.below ((Below.refl _ _).alloc (Nat.le_refl _) _)
              have z38 : W8.cell? ⟨W7.heap.size, 3, none⟩ = some (.bool false) := by rw [← hW8]; exact cell_at rfl rfl
              have a0 := m8.cell hgn cx0.out
              have a1 := m8.cell hgn cx1H.out
              have b0 := m8.cell hgn cy0.out
              simp only [Nat.add_zero] at a0 b0
              have hnext : Hid (∀ nq, Tn w bt bm 40 LA (L) (W8.drewN nq) ∧ ∀ (k : Nat) (x : Pr), (one :: L)[k]? = some x → ∀ q, q < 6 → ∀ z, (prC x)[q]? = some z → (W8.drewN nq).cell? ⟨g, k * 6 + q, none⟩ = some z) :=
                fun nq => ⟨T8.out.below (below_drewN (Below.refl _ _) nq), fun k x hx q hq z hz => (m8.trans' (Mv.below (below_drewN (Below.refl _ W8) nq))).cell hgn (hJ2.out k x hx q hq z hz)⟩
              have d1 : decide (xp ≤ yp) = false := by simp; omega
              have d2 : decide (xp ≤ xq) = false := by simp; omega
              have e1 : (kk : Int) - 1 = ((kk - 1 : Nat) : Int) := by omega
              have hk0 : (0 : Int) ≤ ((kk - 1 : Nat) : Int) := by omega
              have hk1 : ((kk - 1 : Nat) : Int) < (N : Int) + 1 := by omega
              have hn2 : ¬ xp ≤ yp := by omega
              have hn3 : ¬ xp ≤ xq := by omega
              clear T7 m7 m8 hG cx0 cx1 cx1H cy0 hJ2 hT2
              go_wp2_with (rw [hW8])
              go_quiet (fail)
              go_wp2_with fail
              exact ⟨⟨_, _, _, _, _, _, _, _, _, _, _, _, _, _, _, _, _, _, _, _, _, _, _, _, _, _, _, _, _, _, _, _, _, _, _, _, _, _, _, _, _, _, _, _, _, _, _, _, _, _, _, _, _, ⟨kk + 1, by omega, by omega, by go_num, hnext.out _⟩, rfl⟩, by simp [intOf]; omega⟩
            · obtain rfl : kk = N + 1 := by omega
              have hTT := hidP hJ.out.1
              clear hJ
              have hkI : decide (((N + 1 : Nat) : Int) < (N : Int) + 1) = false := by simp
              go_wp2_with fail
              exact ⟨⟨j + 1, LA, L, by omega, by go_num, by go_num, by omega, by omega, hTT.out, wfG.out, trG.out⟩, by simp [intOf]; omega⟩
        have hrestH := hidP hrest
        clear hrest aK1
        rcases hrm with hrm | hrm | hrm | hrm
        · by_cases hfl : (l.length : Int) < 40
          · have hS := hidP (spawn_n hI.out.1 hI.out.2.1 (by omega) 1 gB cB (by omega) (by omega) (sp_ok gB cB hfl))
            have wf := hI.out.2.1.spawn 1 gB cB
            have tr := hI.out.2.2.spawn hI.out.2.1 1 gB cB
            rw [sp_ok gB cB hfl] at wf tr
            have wfH := hidP wf
            have trH := hidP tr
            simp only [gB, cB] at hS
            have hmx : max last (last + 1) = last + 1 := by omega
            clear hI wf tr
            go_wp2_with fail
            refine hS.out.mono ?_
            rintro e W4 ⟨rfl, T4, _⟩
            have TH := hidP T4
            clear T4 hS
            go_wp2_with fail
            exact hrestH.out _ _ _ _ _ _ _ _ _ _ _ _ _ _ _ _ _ _ _ _ _ _ _ _ _ _ _ _ _ _ _ _ _ _ _ _ _ _ _ _ _ _ _ _ _ _ _ _ _ _ _ _ _ _ _ _ _ _ _ _ _ _ _ _ _ _ _ _ _ _ _ _ _ _ _ _ _ _ _ _ _ _ _ _ _ _ _ _ _ _ _ _ _ _ _ _ _ _ _ _ _ _ _ _ _ _ _ _ _ _ _ _ _ _ _ _ _ _ _ _ _ _ _ _ _ _ _ _ _ _ _ _ _ _ _ _ _ _ _ _ _ _ _ _ _ _ _ _ _ _ _ _ _ _ _ _ _ _ _ _ _ _ _ _ _ _ _ _ _ _ _ _ _ _ _ _ _ _ _ _ _ _ _ _ (by omega) (by omega) TH.out wfH.out trH.out
          · have hS := hidP (spawn_n hI.out.1 hI.out.2.1 (by omega) 1 gB cB (by omega) (by omega) (sp_full gB cB (by omega)))
            simp only [gB, cB] at hS
            have hmx : max last 0 = last := by omega
            go_wp2_with fail
            refine hS.out.mono ?_
            rintro e W4 ⟨rfl, T4, _⟩
            have TH := hidP T4
            clear T4 hS
            go_wp2_with fail
            exact hrestH.out _ _ _ _ _ _ _ _ _ _ _ _ _ _ _ _ _ _ _ _ _ _ _ _ _ _ _ _ _ _ _ _ _ _ _ _ _ _ _ _ _ _ _ _ _ _ _ _ _ _ _ _ _ _ _ _ _ _ _ _ _ _ _ _ _ _ _ _ _ _ _ _ _ _ _ _ _ _ _ _ _ _ _ _ _ _ _ _ _ _ _ _ _ _ _ _ _ _ _ _ _ _ _ _ _ _ _ _ _ _ _ _ _ _ _ _ _ _ _ _ _ _ _ _ _ _ _ _ _ _ _ _ _ _ _ _ _ _ _ _ _ _ _ _ _ _ _ _ _ _ _ _ _ _ _ _ _ _ _ _ _ _ _ _ _ _ _ _ _ _ _ _ _ _ _ _ _ _ _ _ _ _ _ _ (by omega) (by omega) TH.out hI.out.2.1 hI.out.2.2
        · obtain ⟨s, hs⟩ : ∃ s, fkP 40 last l (q + 1) = s := ⟨_, rfl⟩
          have hfk := fk_two 40 last l (q + 1)
          have wf := hI.out.2.1.fork (q + 1)
          have tr := hI.out.2.2.fork hI.out.2.1 (q + 1)
          rw [hs] at hfk wf tr
          have hS := hidP (fork_n hI.out.1 hI.out.2.1 (by omega) (q + 1) (by omega) (by omega) hs)
          have wfH := hidP wf
          have trH := hidP tr
          obtain ⟨sn, se, sla, sl⟩ := s
          simp only at hfk wfH trH hS
          clear hI wf tr hs
          rcases hfk with ⟨rfl, rfl, rfl⟩ | ⟨hse, rfl, rfl⟩
          · have hmx : max last (last + 1) = last + 1 := by omega
            go_wp2_with fail
            refine hS.out.mono ?_
            rintro e W4 ⟨rfl, T4, _⟩
            have TH := hidP T4
            clear T4 hS
            go_wp2_with fail
            exact hrestH.out _ _ _ _ _ _ _ _ _ _ _ _ _ _ _ _ _ _ _ _ _ _ _ _ _ _ _ _ _ _ _ _ _ _ _ _ _ _ _ _ _ _ _ _ _ _ _ _ _ _ _ _ _ _ _ _ _ _ _ _ _ _ _ _ _ _ _ _ _ _ _ _ _ _ _ _ _ _ _ _ _ _ _ _ _ _ _ _ _ _ _ _ _ _ _ _ _ _ _ _ _ _ _ _ _ _ _ _ _ _ _ _ _ _ _ _ _ _ _ _ _ _ _ _ _ _ _ _ _ _ _ _ _ _ _ _ _ _ _ _ _ _ _ _ _ _ _ _ _ _ _ _ _ _ _ _ _ _ _ _ _ _ _ _ _ _ _ _ _ _ _ _ _ _ _ _ _ _ _ _ _ _ _ _ (by omega) (by omega) TH.out wfH.out trH.out
          · have hmx : max sla 0 = sla := by omega
            have hse2 : (se == 0) = false := by simpa using hse
            go_wp2_with fail
            refine hS.out.mono ?_
            rintro e W4 ⟨rfl, T4, _⟩
            have TH := hidP T4
            clear T4 hS
            go_wp2_with fail
            exact hrestH.out _ _ _ _ _ _ _ _ _ _ _ _ _ _ _ _ _ _ _ _ _ _ _ _ _ _ _ _ _ _ _ _ _ _ _ _ _ _ _ _ _ _ _ _ _ _ _ _ _ _ _ _ _ _ _ _ _ _ _ _ _ _ _ _ _ _ _ _ _ _ _ _ _ _ _ _ _ _ _ _ _ _ _ _ _ _ _ _ _ _ _ _ _ _ _ _ _ _ _ _ _ _ _ _ _ _ _ _ _ _ _ _ _ _ _ _ _ _ _ _ _ _ _ _ _ _ _ _ _ _ _ _ _ _ _ _ _ _ _ _ _ _ _ _ _ _ _ _ _ _ _ _ _ _ _ _ _ _ _ _ _ _ _ _ _ _ _ _ _ _ _ _ _ _ _ _ _ _ _ _ _ _ _ _ (by omega) (by omega) TH.out wfH.out trH.out
        · have hS := hidP (exit_n hI.out.1 hI.out.2.1 (by omega) (q + 1) 3 (by omega) (by omega) rfl rfl)
          have wfH := hidP (hI.out.2.1.exit (q + 1) 3)
          have trH := hidP (hI.out.2.2.exit hI.out.2.1 (q + 1) 3)
          clear hI
          go_wp2_with fail
          refine hS.out.mono ?_
          rintro e W4 ⟨rfl, T4, _⟩
          have TH := hidP T4
          clear T4 hS
          go_wp2_with fail
          exact hrestH.out _ _ _ _ _ _ _ _ _ _ _ _ _ _ _ _ _ _ _ _ _ _ _ _ _ _ _ _ _ _ _ _ _ _ _ _ _ _ _ _ _ _ _ _ _ _ _ _ _ _ _ _ _ _ _ _ _ _ _ _ _ _ _ _ _ _ _ _ _ _ _ _ _ _ _ _ _ _ _ _ _ _ _ _ _ _ _ _ _ _ _ _ _ _ _ _ _ _ _ _ _ _ _ _ _ _ _ _ _ _ _ _ _ _ _ _ _ _ _ _ _ _ _ _ _ _ _ _ _ _ _ _ _ _ _ _ _ _ _ _ _ _ _ _ _ _ _ _ _ _ _ _ _ _ _ _ _ _ _ _ _ _ _ _ _ _ _ _ _ _ _ _ _ _ _ _ _ _ _ _ _ _ _ _ (by omega) (by omega) TH.out wfH.out trH.out
        · have wfH := hidP (hI.out.2.1.reap 1)
          have trH := hidP (hI.out.2.2.reap hI.out.2.1 1)
          cases hrp : rpP l 1 with
          | none =>
            have hS := hidP (reap_n hI.out.1 hI.out.2.1 (by omega) 1 (p := zPr) (e1 := 80) (by rw [hrp]; rfl) (by unfold rpE; rw [hrp]) rfl)
            simp only [prV, zPr] at hS
            clear hI
            go_wp2_with fail
            refine hS.out.mono ?_
            rintro e W4 ⟨rfl, T4, _⟩
            have hG := hidP (get_n (T4.below ((Below.refl _ _).alloc (Nat.le_refl _) (.cells #[.int .i64 0, .int .i64 0, .string ⟨#[]⟩, .bool false, .int .i64 0, .string ⟨#[]⟩] 40))) 0 (by omega) (by omega) rfl rfl)
            obtain ⟨y, hy⟩ : ∃ y, getP (rpL l 1) 0 = y := ⟨_, rfl⟩
            rw [hy] at hG
            obtain ⟨y0, y1, y2, y3, y4, y5, y6, y7⟩ := y
            simp only [prV] at hG
            clear T4 hS
            go_wp2_with fail
            refine hG.out.mono ?_
            rintro e W5 ⟨rfl, T5, _⟩
            have TH := hidP (T5.below ((Below.refl _ _).alloc (Nat.le_refl _) (.cells #[.int .i64 y0, .int .i64 y1, .string y2, .bool y3, .int .i64 y4, .string y5] 40)))
            clear T5 hG
            go_wp2_with fail
            exact hrestH.out _ _ _ _ _ _ _ _ _ _ _ _ _ _ _ _ _ _ _ _ _ _ _ _ _ _ _ _ _ _ _ _ _ _ _ _ _ _ _ _ _ _ _ _ _ _ _ _ _ _ _ _ _ _ _ _ _ _ _ _ _ _ _ _ _ _ _ _ _ _ _ _ _ _ _ _ _ _ _ _ _ _ _ _ _ _ _ _ _ _ _ _ _ _ _ _ _ _ _ _ _ _ _ _ _ _ _ _ _ _ _ _ _ _ _ _ _ _ _ _ _ _ _ _ _ _ _ _ _ _ _ _ _ _ _ _ _ _ _ _ _ _ _ _ _ _ _ _ _ _ _ _ _ _ _ _ _ _ _ _ _ _ _ _ _ _ _ _ _ _ _ _ _ _ _ _ _ _ _ _ _ _ _ _ (by omega) (by omega) TH.out wfH.out trH.out
          | some x =>
            have hrz := rp_one hrp
            have hxl := hI.out.2.1.rng x (List.mem_of_find?_eq_some hrp)
            have hth := rp_gone hI.out.2.1 hrp
            have hS := hidP (reap_n hI.out.1 hI.out.2.1 (by omega) 1 (p := x) (e1 := 0) (by rw [hrp]; rfl) (by unfold rpE; rw [hrp]) rfl)
            obtain ⟨x0, x1, x2, x3, x4, x5, x6, x7⟩ := x
            simp only at hrz hxl hth
            obtain ⟨rfl, rfl⟩ := hrz
            simp only [prV] at hS
            clear hI hrp
            go_wp2_with fail
            refine hS.out.mono ?_
            rintro e W4 ⟨rfl, T4, _⟩
            have hG := hidP (get_n (T4.below ((Below.refl _ _).alloc (Nat.le_refl _) (.cells #[.int .i64 x0, .int .i64 1, .string x2, .bool true, .int .i64 x4, .string x5] 40))) x0 (by omega) (by omega) rfl hth)
            have n4 : ¬ (W4.heap.size = bt ∨ W4.heap.size = bm) := by have := T4.tb.lt; have := T4.tb.ltm; omega
            have r1 : Hid ((W4.alloc (.cells #[.int .i64 x0, .int .i64 1, .string x2, .bool true, .int .i64 x4, .string x5] 40)).cell? ⟨W4.heap.size, 1, none⟩ = some (.int .i64 1)) := cell_at rfl rfl
            have r3 : Hid ((W4.alloc (.cells #[.int .i64 x0, .int .i64 1, .string x2, .bool true, .int .i64 x4, .string x5] 40)).cell? ⟨W4.heap.size, 3, none⟩ = some (.bool true)) := cell_at rfl rfl
            obtain ⟨y, hy⟩ : ∃ y, getP (rpL l 1) x0 = y := ⟨_, rfl⟩
            rw [hy] at hG
            obtain ⟨y0, y1, y2, y3, y4, y5, y6, y7⟩ := y
            simp only [prV] at hG
            clear T4 hS
            go_wp2_with fail
            refine hG.out.mono ?_
            rintro e W5 ⟨rfl, T5, m5⟩
            have TH := hidP (T5.below ((Below.refl _ _).alloc (Nat.le_refl _) (.cells #[.int .i64 y0, .int .i64 y1, .string y2, .bool y3, .int .i64 y4, .string y5] 40)))
            have k1 := (Mv.alloc (fun _ => False) W5 (.cells #[.int .i64 y0, .int .i64 y1, .string y2, .bool y3, .int .i64 y4, .string y5] 40)).cell (fun h => h) (m5.cell n4 r1.out)
            have k3 := (Mv.alloc (fun _ => False) W5 (.cells #[.int .i64 y0, .int .i64 y1, .string y2, .bool y3, .int .i64 y4, .string y5] 40)).cell (fun h => h) (m5.cell n4 r3.out)
            clear T5 hG m5
            go_wp2_with fail
            exact hrestH.out _ _ _ _ _ _ _ _ _ _ _ _ _ _ _ _ _ _ _ _ _ _ _ _ _ _ _ _ _ _ _ _ _ _ _ _ _ _ _ _ _ _ _ _ _ _ _ _ _ _ _ _ _ _ _ _ _ _ _ _ _ _ _ _ _ _ _ _ _ _ _ _ _ _ _ _ _ _ _ _ _ _ _ _ _ _ _ _ _ _ _ _ _ _ _ _ _ _ _ _ _ _ _ _ _ _ _ _ _ _ _ _ _ _ _ _ _ _ _ _ _ _ _ _ _ _ _ _ _ _ _ _ _ _ _ _ _ _ _ _ _ _ _ _ _ _ _ _ _ _ _ _ _ _ _ _ _ _ _ _ _ _ _ _ _ _ _ _ _ _ _ _ _ _ _ _ _ _ _ _ _ _ _ _ (by omega) (by omega) TH.out wfH.out trH.out
      · obtain rfl : j = n := by omega
        have hb := hidP hI.out.1.be
        clear hI
        go_wp2_with fail
        go_ret
        exact ⟨rfl, hb.out⟩
end Go.Proofs.Ytlbgneacpbbjeaa
