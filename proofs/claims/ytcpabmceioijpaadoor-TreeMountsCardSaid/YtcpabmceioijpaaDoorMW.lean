/- The walk of the law TreeMounts. -/
import Derived.Test.YtcpabmceioijpaaDoorMP
import Derived.Deep.CutRange
namespace Go.Proofs.YtcpabmceioijpaaDoor
open Go.RowKit Go.Shelf
attribute [local go_sem] Oper.semAt_some
structure Lm (w : World) (N O : Nat) (on : Nat → Bool) (S : St) (W : World) : Prop where
  f : Fr w S W
  n : ∀ k, k < 5 → W.cell? ⟨N, k, none⟩ = some (.string (nm k))
  o : ∀ k, k < 5 → W.cell? ⟨O, k, none⟩ = some (.bool (on k)) ∧ W.frozen? ⟨O, k, none⟩ = false
  ot : O ≠ S.bt
  om : O ≠ 0
  no : O ≠ N
  wO : w.heap.size ≤ O
theorem notOwn {W : World} {S : St} (h : Ts W S) {N k : Nat} {v : Value} (hc : W.cell? ⟨N, k, none⟩ = some v) : ¬ own S N := by
  obtain ⟨m, _, q⟩ := h.hm
  obtain ⟨m2, f2, _, q2, _⟩ := h.sm
  rintro (e | e)
  · exact q.notCell hc e
  · exact q2.notCell hc e
theorem Lm.step {w W W' : World} {N O : Nat} {on : Nat → Bool} {S : St} {P : Pl} {d : Nat} (h : Lm w N O on S W) (g : Goes S W P d W') : Lm w N O on { S with p := P, c := S.c + d } W' :=
  ⟨h.f.step g, fun k hk => g.m.cell (a := ⟨N, k, none⟩) (notOwn h.f.g (h.n k hk)) (h.n k hk), fun k hk => ⟨g.m.cell (a := ⟨O, k, none⟩) (notOwn h.f.g (h.o k hk).1) (h.o k hk).1, (g.m.froz (a := ⟨O, k, none⟩) (notOwn h.f.g (h.o k hk).1) (cell_lt (h.o k hk).1)).trans (h.o k hk).2⟩, h.ot, h.om, h.no, h.wO⟩
theorem Lm.below {w W W' : World} {N O : Nat} {on : Nat → Bool} {S : St} (h : Lm w N O on S W) (b : Below W.heap.size W W') : Lm w N O on S W' :=
  have m : Mv (fun _ => False) W W' := Mv.below b
  ⟨h.f.below b, fun k hk => m.cell (a := ⟨N, k, none⟩) (fun h => h) (h.n k hk), fun k hk => ⟨m.cell (a := ⟨O, k, none⟩) (fun h => h) (h.o k hk).1, (m.froz (a := ⟨O, k, none⟩) (fun h => h) (cell_lt (h.o k hk).1)).trans (h.o k hk).2⟩, h.ot, h.om, h.no, h.wO⟩
theorem Lm.set {w W : World} {N O : Nat} {on : Nat → Bool} {S : St} (h : Lm w N O on S W) {k : Nat} (hk : k < 5) (b : Bool) : Lm w N O (upB on k b) S (W.setCell ⟨O, k, none⟩ (.bool b)) := by
  have m : Mv (fun x => x = O) W (W.setCell ⟨O, k, none⟩ (.bool b)) := (Mv.refl (fun x => x = O) W).setc (p := ⟨O, k, none⟩) (.inl rfl) _
  have hO := notOwn h.f.g (h.o k hk).1
  refine ⟨⟨h.f.g.mv m (fun x hx e => ?_), h.f.b.trans (m.toBelow h.f.b.size (fun x hx e => by have := h.wO; omega)), h.f.nt, h.f.nh, h.f.ns⟩, fun j hj => m.cell (a := ⟨N, j, none⟩) (fun e => h.no e.symm) (h.n j hj), fun j hj => ?_, h.ot, h.om, h.no, h.wO⟩
  · subst e
    rcases hx with q | q | q | q
    · exact h.ot q
    · exact hO (.inl q)
    · exact hO (.inr q)
    · exact h.om q
  · refine ⟨?_, by rw [World.frozen?_setCell]; exact (h.o j hj).2⟩
    unfold upB
    by_cases e : j = k
    · subst e
      rw [if_pos rfl]
      exact World.cell?_setCell_same' _ _ _ (by rw [(h.o j hj).1]; rfl)
    · rw [if_neg e, World.cell?_setCell_other _ _ _ _ (by simp; try exact e)]
      exact (h.o j hj).1
/-- A round's state. -/
def LmI (w : World) (N O : Nat) (S : St) (n : Nat) (on : Nat → Bool) (W : World) : Prop := ∃ P d, Lm w N O on { S with p := P, c := S.c + d } W ∧ MI on P ∧ d ≤ n
set_option maxRecDepth 100000 in
set_option maxHeartbeats 8000000 in
theorem mounts_walk (a : Option Addr) (b o n cap : Nat) (us : List Nat) (w : World) (hg : Mx w) (ha : 0 < n → a = some ⟨b, o, none⟩) (hl : us.length = n) (hel : ∀ (j u : Nat), us[j]? = some u → w.cell? ⟨b, o + j, none⟩ = some (.int .u8 (u : Nat))) (hub : ∀ u ∈ us, u ≤ 255) (hml : n ≤ maxLen) :
    Calls Tryd.prog 5 #[.slice a n cap] w fun e w' => e = .returned (.bool true) ∧ Below w.heap.size w w' := by
  have hK := hidP (known_any w hg)
  have haH := hidP ha
  have hlH := hidP hl
  have helH := hidP hel
  have hubH := hidP hub
  have hnm : (n : Int) ≤ 9223372036854775807 := by unfold maxLen at hml; omega
  have hgH := hidP hg
  clear ha hl hel hub hml hg
  by_cases h8 : 50 < n
  · have h8I : (50 : Int) < (n : Int) := by omega
    go_enter Tryd.func5, Tryd.ntmps5
    go_wp2_with fail
    refine hK.out.mono ?_
    rintro e V ⟨rfl, hbV⟩
    go_wp2_with fail
    go_ret
    exact ⟨rfl, hbV⟩
  · have h8I : ¬ (50 : Int) < (n : Int) := by omega
    have h8J : (n : Int) ≤ 50 := by omega
    go_enter Tryd.func5, Tryd.ntmps5
    go_wp2_with fail
    refine hK.out.mono ?_
    rintro e V ⟨rfl, hbV⟩
    obtain ⟨V1, hV1⟩ : ∃ V1, V.alloc (.cells #[.string ⟨#[47, 97]⟩, .string ⟨#[47, 97, 47, 98]⟩, .string ⟨#[47, 97, 47, 98, 47, 99]⟩, .string ⟨#[47, 100]⟩, .string ⟨#[47, 97, 98]⟩] 57) = V1 := ⟨_, rfl⟩
    have b1 : Below w.heap.size w V1 := by rw [← hV1]; exact hbV.alloc hbV.size _
    have g1 : Mx V1 := hgH.out.mv (E := fun _ => False) (Mv.below b1) (fun h => h)
    have hN := hidP (new_any V1 g1)
    have n1 : ∀ k, k < 5 → V1.cell? ⟨V.heap.size, k, none⟩ = some (.string (nm k)) := fun k hk => by
      rw [← hV1]
      exact cell_at rfl (by match k, hk with | 0, _ => rfl | 1, _ => rfl | 2, _ => rfl | 3, _ => rfl | 4, _ => rfl)
    have hs1 : V1.heap.size = V.heap.size + 1 := by rw [← hV1]; simp
    have hH := hidP (And.intro b1 (And.intro n1 hs1))
    clear hK hbV b1 g1 n1 hs1
    go_wp2_with (rw [hV1])
    refine hN.out.mono ?_
    rintro e W1 ⟨S, rfl, hT, hp, hc, hb, m1, m2, m3⟩
    obtain ⟨b1, n1, hs1⟩ := hH.out
    obtain ⟨N, hNe⟩ : ∃ N, V.heap.size = N := ⟨_, rfl⟩
    have hsz := b1.size
    have F1 : Hid (Fr w S W1 ∧ S.p = pm 0 ∧ S.c = 1 ∧ ∀ k, k < 5 → W1.cell? ⟨N, k, none⟩ = some (.string (nm k))) := ⟨⟨hT, b1.trans (hb.mono b1.size), by omega, by omega, by omega⟩, hp, hc, fun k hk => by rw [← hNe]; exact (hb.cell (p := ⟨V.heap.size, k, none⟩) (by show V.heap.size < _; omega)).trans (n1 k hk)⟩
    rw [hNe]
    clear hN hT hp hc hb m1 m2 m3 b1 n1 hs1 hNe hsz hV1 hH
    go_wp2_with fail
    go_loopw [5] (fun i wr => ∃ (j : Nat), j ≤ 5 ∧ i = .int .i64 j ∧ Hid (Fr w { S with p := pm j, c := S.c + 4 * j } wr ∧ S.c = 1 ∧ ∀ k, k < 5 → wr.cell? ⟨N, k, none⟩ = some (.string (nm k)))) (fun i _ => 5 - (intOf i).toNat)
    case atStart =>
      obtain ⟨f1, f2, f3, f4⟩ := F1.out
      exact ⟨0, by omega, rfl, by rw [← f2]; exact f1, f3, f4⟩
    case round =>
      clear F1
      obtain ⟨j, hj, rfl, hI⟩ := hrel
      by_cases hlt : j < 5
      · have hltI : (j : Int) < 5 := by omega
        obtain ⟨f1, f2, f3⟩ := hI.out
        have cA := f3 j hlt
        have hM : Calls Tryd.prog 10 #[.pointer (some ⟨S.bt, 0, none⟩), .string (nm j), .bool true] wr fun e w' => e = .returned (.int .i64 (makeP (pm j) (nm j) true).1) ∧ Goes { S with p := pm j, c := S.c + 4 * j } wr (pm (j + 1)) 4 w' := make_any _ (nm j) true wr f1.g (by have := nm_size j; omega) (by show S.c + 4 * j ≤ 900000; omega)
        rw [pm_ok ⟨j, hlt⟩] at hM
        have hMH := hidP hM
        clear hM f1 f2 f3
        go_wp2_with fail
        refine hMH.out.mono ?_
        rintro e W3 ⟨rfl, G3⟩
        have L3 : Hid (Fr w { S with p := pm (j + 1), c := S.c + 4 * (j + 1) } W3 ∧ S.c = 1 ∧ ∀ k, k < 5 → W3.cell? ⟨N, k, none⟩ = some (.string (nm k))) := by
          obtain ⟨f1, f2, f3⟩ := hI.out
          refine ⟨?_, f2, fun k hk => G3.m.cell (a := ⟨N, k, none⟩) (notOwn f1.g (f3 k hk)) (f3 k hk)⟩
          have := f1.step G3
          rw [show ({ S with p := pm j, c := S.c + 4 * j } : St).c + 4 = S.c + 4 * (j + 1) from by show S.c + 4 * j + 4 = _; omega] at this
          exact this
        clear hMH G3 hI cA
        go_wp2_with fail
        go_roundw
        case rel => exact ⟨j + 1, by omega, by push_cast; rfl, L3.out⟩
        case measure => simp [intOf]; omega
      · have hge : ¬ (j : Int) < 5 := by omega
        obtain ⟨W2, hW2⟩ : ∃ W2, wr.alloc (.cells #[.bool false, .bool false, .bool false, .bool false, .bool false] 58) = W2 := ⟨_, rfl⟩
        obtain ⟨O, hO⟩ : ∃ O, wr.heap.size = O := ⟨_, rfl⟩
        have L2 : Hid (LmI w N O S (4 * 5) (fun _ => false) W2 ∧ S.c = 1) := by
          obtain ⟨f1, f2, f3⟩ := hI.out
          have hj5 : j = 5 := by omega
          subst hj5
          have hb2 : Below wr.heap.size wr W2 := by rw [← hW2]; exact (Below.refl _ _).alloc (Nat.le_refl _) _
          refine ⟨⟨pm 5, 4 * 5, ⟨f1.below hb2, fun k hk => (hb2.cell (p := ⟨N, k, none⟩) (cell_lt (f3 k hk))).trans (f3 k hk), ?_, ?_, ?_, ?_, ?_⟩, MI.zero, Nat.le_refl _⟩, f2⟩
          · rw [← hW2]
            exact fun k hk => ⟨cell_at hO (by match k, hk with | 0, _ => rfl | 1, _ => rfl | 2, _ => rfl | 3, _ => rfl | 4, _ => rfl), froz_new hO⟩
          · have := f1.g.lt (k := S.bt) (.inl rfl)
            show O ≠ S.bt
            omega
          · have := mxne f1.g.mx
            omega
          · have := cell_lt (f3 0 (by omega))
            simp only at this
            omega
          · have := f1.b.size; omega
        clear hI hlt hj
        go_wp2_with (rw [hW2])
        clear hW2 hO
        go_loopw [7] (fun i wr => ∃ (j : Nat) (on : Nat → Bool), j ≤ n ∧ i = .int .i64 j ∧ Hid (LmI w N O S (20 + 1100 * j) on wr ∧ S.c = 1)) (fun i _ => n - (intOf i).toNat)
        case atStart => exact ⟨0, _, by omega, rfl, L2.out⟩
        case round =>
          clear L2
          obtain ⟨j2, on, hj5, rfl, hI5⟩ := hrel
          by_cases hlt5 : j2 < n
          · have hltI5 : (j2 : Int) < (n : Int) := by omega
            obtain rfl := haH.out (by omega)
            obtain ⟨u, hu⟩ : ∃ u, us[j2]? = some u := ⟨us[j2]'(by have := hlH.out; omega), List.getElem?_eq_getElem _⟩
            have hbw : Hid (Below w.heap.size w wr) := by obtain ⟨P, d, h1, _⟩ := hI5.out.1; exact h1.f.b
            have cu := (Mv.below (E := fun _ => False) hbw.out).cell (fun h => h) (helH.out j2 u hu)
            have hu255 := hubH.out u (List.mem_of_getElem? hu)
            obtain ⟨kk, hkk⟩ : ∃ kk, u % 5 = kk := ⟨_, rfl⟩
            have hmod : ((u : Nat) : Int).tmod 5 = (kk : Int) := by rw [Int.tmod_eq_emod_of_nonneg (by omega)]; omega
            obtain ⟨x5, hx5⟩ : ∃ x5, u / 5 = x5 := ⟨_, rfl⟩
            have hw5 : IntKind.u8.wrap ((u : Int) / 5) = (x5 : Int) := by rw [IntKind.wrap_u8]; omega
            obtain ⟨cc, hcc⟩ : ∃ cc, x5 % 2 = cc := ⟨_, rfl⟩
            have ht5 : (x5 : Int).tmod 2 = (cc : Int) := by rw [Int.tmod_eq_emod_of_nonneg (by omega)]; omega
            have hk5 : kk < 5 := by omega
            have hkI : (kk : Int) < 5 := by omega
            have hoAll : Hid (∀ k, k < 5 → wr.cell? ⟨O, k, none⟩ = some (.bool (on k))) := by obtain ⟨P, d, h1, _⟩ := hI5.out.1; exact fun k hk => (h1.o k hk).1
            clear hu hkk hx5 hcc hbw
            go_upto_region 17 with fail
            go_cut [9] from 32 to 179 (fun c wx => c = .bool (bel kk on) ∧ wx = wr)
            case first =>
              have o1 := hoAll.out 1 (by omega)
              have o2 := hoAll.out 2 (by omega)
              obtain ⟨v1, hv1⟩ : ∃ v1, on 1 = v1 := ⟨_, rfl⟩
              obtain ⟨v2, hv2⟩ : ∃ v2, on 2 = v2 := ⟨_, rfl⟩
              rw [hv1] at o1
              rw [hv2] at o2
              clear hI5 hoAll cu
              by_cases h0 : kk = 0
              · subst h0
                have hbe : Hid (bel 0 on = (v1 || v2)) := by unfold bel; rw [hv1, hv2]; rfl
                clear hv1 hv2
                cases v1 with
                | true =>
                  go_wp2_with fail
                  go_meet
                  exact ⟨by rw [hbe.out]; rfl, rfl⟩
                | false =>
                  cases v2 with
                  | true =>
                    go_wp2_with fail
                    go_meet
                    exact ⟨by rw [hbe.out]; rfl, rfl⟩
                  | false =>
                    go_wp2_with fail
                    go_meet
                    exact ⟨by rw [hbe.out]; rfl, rfl⟩
              · by_cases h1 : kk = 1
                · subst h1
                  have hbe : Hid (bel 1 on = v2) := by unfold bel; rw [hv2]; rfl
                  clear hv1 hv2 h0
                  cases v2 with
                  | true =>
                    go_wp2_with fail
                    go_meet
                    exact ⟨by rw [hbe.out], rfl⟩
                  | false =>
                    go_wp2_with fail
                    go_meet
                    exact ⟨by rw [hbe.out], rfl⟩
                · have hbe : Hid (bel kk on = false) := by unfold bel; rw [if_neg h0, if_neg h1]; rfl
                  have b0 : ((kk : Int) == 0) = false := by simp; omega
                  have b1 : ((kk : Int) == 1) = false := by simp; omega
                  clear hv1 hv2
                  go_wp2_with fail
                  go_meet
                  exact ⟨by rw [hbe.out], rfl⟩
            case rest =>
              obtain ⟨rfl, rfl⟩ := hcut
              obtain ⟨be, hbe⟩ : ∃ be, bel kk on = be := ⟨_, rfl⟩
              rw [hbe]
              have hbeH := hidP hbe
              clear hbe
              have hj2 : Hid (j2 < 51 ∧ n ≤ 50) := ⟨by omega, by omega⟩
              go_upto_if 68 with fail
              go_cut [10, 11] from 32 to 179 (fun _ _ wx => ∃ on', Hid (LmI w N O S (20 + 1100 * j2 + 1001) on' wx ∧ S.c = 1))
              case first =>
                obtain ⟨P, d, hL, hM, hd⟩ := hI5.out.1
                have hc1 := hI5.out.2
                have cN := hL.n kk hk5
                obtain ⟨cO, fO⟩ := hL.o kk hk5
                have hsz : (nm kk).size ≤ 1000 := by have := nm_size kk; omega
                have hcb : S.c + d ≤ 900000 := by have := hj2.out; omega
                have hstep : Hid (∀ P' W', Goes { S with p := P, c := S.c + d } wc P' 1001 W' → Lm w N O on { S with p := P', c := S.c + (d + 1001) } W') := fun P' W' g => by
                  have := hL.step g
                  rw [show ({ S with p := P, c := S.c + d } : St).c + 1001 = S.c + (d + 1001) from Nat.add_assoc _ _ _] at this
                  exact this
                by_cases hc0 : cc = 0
                · subst hc0
                  have hMt : Calls Tryd.prog 16 #[.pointer (some ⟨S.bt, 0, none⟩), .string disk, .string (nm kk)] wc fun e w' => e = .returned (.int .i64 (mountP P disk (nm kk)).1) ∧ Goes { S with p := P, c := S.c + d } wc (mountP P disk (nm kk)).2 1001 w' := mount_any _ disk (nm kk) wc hL.f.g hM.wf hsz hcb
                  cases hon : on kk with
                  | true =>
                    rw [hM.mount_no hk5 hon] at hMt
                    rw [hon] at cO
                    have hMH := hidP hMt
                    have hfin : Hid (∀ W', Goes { S with p := P, c := S.c + d } wc P 1001 W' → (∀ k, k < 5 → W'.cell? ⟨O, k, none⟩ = some (.bool (on k)) ∧ W'.frozen? ⟨O, k, none⟩ = false) ∧ ∃ on', Hid (LmI w N O S (20 + 1100 * j2 + 1001) on' (W'.setCell ⟨O, kk, none⟩ (.bool true)) ∧ S.c = 1)) := fun W' g => by
                      have L := hstep.out _ _ g
                      refine ⟨L.o, on, ⟨P, d + 1001, ?_, hM, by omega⟩, hc1⟩
                      have := L.set hk5 true
                      rw [show upB on kk true = on from funext fun x => by unfold upB; split; (rename_i e; rw [e, hon]); rfl] at this
                      exact this
                    unfold disk at hMH
                    clear hMt hL hM hd hI5 hoAll hstep hcb hsz fO
                    go_wp2_with fail
                    refine hMH.out.mono ?_
                    rintro e W7 ⟨rfl, g7⟩
                    obtain ⟨o7, fin⟩ := hfin.out _ g7
                    obtain ⟨c7, f7⟩ := o7 kk hk5
                    rw [hon] at c7
                    have finH := hidP fin
                    clear fin o7 hfin g7 hMH cO cN
                    go_wp2_with fail
                    go_meet
                    exact finH.out
                  | false =>
                    obtain ⟨hz, hMI⟩ := hM.mount_ok hk5 hon
                    rw [hz] at hMt
                    rw [hon] at cO
                    obtain ⟨P', hP'⟩ : ∃ P', (mountP P disk (nm kk)).2 = P' := ⟨_, rfl⟩
                    rw [hP'] at hMt hMI
                    have hMH := hidP hMt
                    have hfin : Hid (∀ W', Goes { S with p := P, c := S.c + d } wc P' 1001 W' → (∀ k, k < 5 → W'.cell? ⟨O, k, none⟩ = some (.bool (on k)) ∧ W'.frozen? ⟨O, k, none⟩ = false) ∧ ∃ on', Hid (LmI w N O S (20 + 1100 * j2 + 1001) on' (W'.setCell ⟨O, kk, none⟩ (.bool true)) ∧ S.c = 1)) := fun W' g => by
                      have L := hstep.out _ _ g
                      exact ⟨L.o, _, ⟨P', d + 1001, L.set hk5 true, hMI, by omega⟩, hc1⟩
                    unfold disk at hMH
                    clear hMt hL hM hd hI5 hoAll hstep hcb hsz fO hMI hP' hz
                    go_wp2_with fail
                    refine hMH.out.mono ?_
                    rintro e W7 ⟨rfl, g7⟩
                    obtain ⟨o7, fin⟩ := hfin.out _ g7
                    obtain ⟨c7, f7⟩ := o7 kk hk5
                    rw [hon] at c7
                    have finH := hidP fin
                    clear fin o7 hfin g7 hMH cO cN
                    go_wp2_with fail
                    go_meet
                    exact finH.out
                · have hcb0 : ((cc : Int) == 0) = false := by simp; omega
                  have hMt : Calls Tryd.prog 18 #[.pointer (some ⟨S.bt, 0, none⟩), .string (nm kk)] wc fun e w' => e = .returned (.int .i64 (unmountP P (nm kk)).1) ∧ Goes { S with p := P, c := S.c + d } wc (unmountP P (nm kk)).2 1001 w' := unmount_any _ (nm kk) wc hL.f.g hM.wf hsz hcb
                  cases hon : on kk with
                  | false =>
                    rw [hM.unmount_none hk5 hon] at hMt
                    rw [hon] at cO
                    have hMH := hidP hMt
                    have hfin : Hid (∀ W', Goes { S with p := P, c := S.c + d } wc P 1001 W' → (∀ k, k < 5 → W'.cell? ⟨O, k, none⟩ = some (.bool (on k)) ∧ W'.frozen? ⟨O, k, none⟩ = false) ∧ ∃ on', Hid (LmI w N O S (20 + 1100 * j2 + 1001) on' (W'.setCell ⟨O, kk, none⟩ (.bool false)) ∧ S.c = 1)) := fun W' g => by
                      have L := hstep.out _ _ g
                      refine ⟨L.o, on, ⟨P, d + 1001, ?_, hM, by omega⟩, hc1⟩
                      have := L.set hk5 false
                      rw [show upB on kk false = on from funext fun x => by unfold upB; split; (rename_i e; rw [e, hon]); rfl] at this
                      exact this
                    clear hMt hL hM hd hI5 hoAll hstep hcb hsz fO
                    go_wp2_with fail
                    refine hMH.out.mono ?_
                    rintro e W7 ⟨rfl, g7⟩
                    obtain ⟨o7, fin⟩ := hfin.out _ g7
                    obtain ⟨c7, f7⟩ := o7 kk hk5
                    rw [hon] at c7
                    have finH := hidP fin
                    clear fin o7 hfin g7 hMH cO cN
                    go_wp2_with fail
                    go_meet
                    exact finH.out
                  | true =>
                    rw [hon] at cO
                    cases be with
                    | true =>
                      rw [hM.unmount_busy hk5 hon hbeH.out] at hMt
                      have hMH := hidP hMt
                      have hfin : Hid (∀ W', Goes { S with p := P, c := S.c + d } wc P 1001 W' → (∀ k, k < 5 → W'.cell? ⟨O, k, none⟩ = some (.bool (on k)) ∧ W'.frozen? ⟨O, k, none⟩ = false) ∧ ∃ on', Hid (LmI w N O S (20 + 1100 * j2 + 1001) on' (W'.setCell ⟨O, kk, none⟩ (.bool true)) ∧ S.c = 1)) := fun W' g => by
                        have L := hstep.out _ _ g
                        refine ⟨L.o, on, ⟨P, d + 1001, ?_, hM, by omega⟩, hc1⟩
                        have := L.set hk5 true
                        rw [show upB on kk true = on from funext fun x => by unfold upB; split; (rename_i e; rw [e, hon]); rfl] at this
                        exact this
                      clear hMt hL hM hd hI5 hoAll hstep hcb hsz fO
                      go_wp2_with fail
                      refine hMH.out.mono ?_
                      rintro e W7 ⟨rfl, g7⟩
                      obtain ⟨o7, fin⟩ := hfin.out _ g7
                      obtain ⟨c7, f7⟩ := o7 kk hk5
                      rw [hon] at c7
                      have finH := hidP fin
                      clear fin o7 hfin g7 hMH cO cN
                      go_wp2_with fail
                      go_meet
                      exact finH.out
                    | false =>
                      obtain ⟨hz, hMI⟩ := hM.unmount_ok hk5 hon hbeH.out
                      rw [hz] at hMt
                      obtain ⟨P', hP'⟩ : ∃ P', (unmountP P (nm kk)).2 = P' := ⟨_, rfl⟩
                      rw [hP'] at hMt hMI
                      have hMH := hidP hMt
                      have hfin : Hid (∀ W', Goes { S with p := P, c := S.c + d } wc P' 1001 W' → (∀ k, k < 5 → W'.cell? ⟨O, k, none⟩ = some (.bool (on k)) ∧ W'.frozen? ⟨O, k, none⟩ = false) ∧ ∃ on', Hid (LmI w N O S (20 + 1100 * j2 + 1001) on' (W'.setCell ⟨O, kk, none⟩ (.bool false)) ∧ S.c = 1)) := fun W' g => by
                        have L := hstep.out _ _ g
                        exact ⟨L.o, _, ⟨P', d + 1001, L.set hk5 false, hMI, by omega⟩, hc1⟩
                      clear hMt hL hM hd hI5 hoAll hstep hcb hsz fO hMI hP' hz
                      go_wp2_with fail
                      refine hMH.out.mono ?_
                      rintro e W7 ⟨rfl, g7⟩
                      obtain ⟨o7, fin⟩ := hfin.out _ g7
                      obtain ⟨c7, f7⟩ := o7 kk hk5
                      rw [hon] at c7
                      have finH := hidP fin
                      clear fin o7 hfin g7 hMH cO cN
                      go_wp2_with fail
                      go_meet
                      exact finH.out
              case rest =>
                obtain ⟨on', hI6⟩ := hcut
                clear hI5 hoAll hbeH cu hmod hw5 ht5
                go_wp2_with fail
                go_loopw [12] (fun q wr => ∃ j3 : Nat, j3 ≤ 5 ∧ q = .int .i64 j3 ∧ Hid (LmI w N O S (20 + 1100 * j2 + 1001 + 4 * j3) on' wr ∧ S.c = 1)) (fun q _ => 5 - (intOf q).toNat)
                case atStart => exact ⟨0, by omega, rfl, hI6.out⟩
                case round =>
                  clear hI6
                  obtain ⟨j3, hj3, rfl, hI7⟩ := hrel
                  by_cases hlt7 : j3 < 5
                  · have hltI7 : (j3 : Int) < 5 := by omega
                    obtain ⟨P, d, hL, hM, hd⟩ := hI7.out.1
                    have hc1 := hI7.out.2
                    have hsz : (nm j3).size ≤ 1000 := by have := nm_size j3; omega
                    have hcb : S.c + d ≤ 900000 := by have := hj2.out; omega
                    have hMt : Calls Tryd.prog 20 #[.pointer (some ⟨S.bt, 0, none⟩), .string (nm j3)] wr fun e w' => e = .returned (.tuple #[.string (P.nd (nm j3)).wh, .bool (P.nd (nm j3)).m]) ∧ Below wr.heap.size wr w' := mounted_any _ (nm j3) wr hL.f.g hsz
                    rw [hM.wh j3 hlt7, hM.m j3 hlt7] at hMt
                    have cN := hL.n j3 hlt7
                    have hLH := hidP hL
                    have hMH := hidP hM
                    cases hon : on' j3 with
                    | true =>
                      rw [hon, if_pos rfl] at hMt
                      have hMtH := hidP hMt
                      have hnx : Hid (∀ W', Below wr.heap.size wr W' → (W'.cell? ⟨O, j3, none⟩ = some (.bool true) ∧ W'.cell? ⟨N, j3, none⟩ = some (.string (nm j3))) ∧ Calls Tryd.prog 14 #[.pointer (some ⟨S.bt, 0, none⟩), .string (nm j3)] W' fun e u => e = .returned (.int .i64 112) ∧ Hid (LmI w N O S (20 + 1100 * j2 + 1001 + 4 * (j3 + 1)) on' u ∧ S.c = 1)) := fun W' hb => by
                        have L := hLH.out.below hb
                        refine ⟨⟨by rw [← hon]; exact (L.o j3 hlt7).1, L.n j3 hlt7⟩, ?_⟩
                        have hR := remove_any _ (nm j3) W' L.f.g hMH.out.wf hsz hcb
                        have e : removeP P (nm j3) = (112, P) := hMH.out.rem hlt7 hon
                        refine hR.mono ?_
                        rintro e2 u ⟨rfl, g⟩
                        have g : Goes { S with p := P, c := S.c + d } W' (removeP P (nm j3)).2 4 u := g
                        rw [e] at g
                        refine ⟨by show Ending.returned (.int .i64 (removeP P (nm j3)).1) = _; rw [e], ⟨P, d + 4, ?_, hMH.out, by omega⟩, hc1⟩
                        have := L.step g
                        rw [show ({ S with p := P, c := S.c + d } : St).c + 4 = S.c + (d + 4) from Nat.add_assoc _ _ _] at this
                        exact this
                      unfold disk at hMtH
                      clear hMt hL hM hd hI7 hLH hMH hsz hcb hc1
                      go_wp2_with fail
                      refine hMtH.out.mono ?_
                      rintro e W7 ⟨rfl, hb7⟩
                      obtain ⟨⟨c7, n7⟩, hR7⟩ := hnx.out _ hb7
                      have hRH := hidP hR7
                      clear hnx hb7 hMtH hR7 cN
                      go_wp2_with fail
                      refine hRH.out.mono ?_
                      rintro e W8 ⟨rfl, h8⟩
                      have h8H := h8
                      clear hRH c7 n7 h8
                      go_wp2_with fail
                      go_roundw
                      case rel => exact ⟨j3 + 1, by omega, by push_cast; rfl, h8H.out⟩
                      case measure => simp [intOf]; omega
                    | false =>
                      rw [hon] at hMt
                      have hMtH : Hid (Calls Tryd.prog 20 #[.pointer (some ⟨S.bt, 0, none⟩), .string (nm j3)] wr fun e w' => e = .returned (.tuple #[.string ⟨#[]⟩, .bool false]) ∧ Below wr.heap.size wr w') := hMt
                      have hnx : Hid (∀ W', Below wr.heap.size wr W' → W'.cell? ⟨O, j3, none⟩ = some (.bool false) ∧ Hid (LmI w N O S (20 + 1100 * j2 + 1001 + 4 * (j3 + 1)) on' W' ∧ S.c = 1)) := fun W' hb => by
                        have L := hLH.out.below hb
                        exact ⟨by rw [← hon]; exact (L.o j3 hlt7).1, ⟨P, d, L, hMH.out, by omega⟩, hc1⟩
                      clear hMt hL hM hd hI7 hLH hMH hsz hcb hc1
                      go_wp2_with fail
                      refine hMtH.out.mono ?_
                      rintro e W7 ⟨rfl, hb7⟩
                      obtain ⟨c7, h8H⟩ := hnx.out _ hb7
                      clear hnx hb7 hMtH cN
                      go_wp2_with fail
                      go_roundw
                      case rel => exact ⟨j3 + 1, by omega, by push_cast; rfl, h8H.out⟩
                      case measure => simp [intOf]; omega
                  · have hge7 : ¬ (j3 : Int) < 5 := by omega
                    have h8H : Hid (LmI w N O S (20 + 1100 * (j2 + 1)) on' wr ∧ S.c = 1) := by
                      obtain ⟨⟨P, d, hL, hM, hd⟩, hc⟩ := hI7.out
                      exact ⟨⟨P, d, hL, hM, by omega⟩, hc⟩
                    clear hI7
                    go_wp2_with fail
                    go_roundw
                    case rel => exact ⟨j2 + 1, on', by omega, by push_cast; rfl, h8H.out⟩
                    case measure => simp [intOf]; omega
          · have hge5 : ¬ (j2 : Int) < (n : Int) := by omega
            have fin : Hid (Below w.heap.size w wr) := by obtain ⟨P, d, h1, _⟩ := hI5.out.1; exact h1.f.b
            clear hI5
            go_wp2_with fail
            go_ret
            exact ⟨rfl, fin.out⟩
end Go.Proofs.YtcpabmceioijpaaDoor
