/- PortPlays: the walk. -/
import Derived.Test.YtppbdamlhcmlcaaLP1
import Derived.Test.YtppbdamlhcmlcaaOpT
import Derived.Deep.DeepCutAuto
import Derived.Deep.RegionHeld3
namespace Go.Proofs.Ytppbdamlhcmlcaa
open Go.RowKit Go.Shelf Go.Lib Go.Sort
def rt0 (b : Nat) : Rt := ⟨b, .slice none 0 0, [], 0, .slice none 0 0, []⟩
theorem rs0 {w : World} : Rs (w.alloc (.cells #[.slice none 0 0, .int .i64 0, .slice none 0 0] 30)) (rt0 w.heap.size) :=
  ⟨cell_at rfl rfl, cell_at rfl rfl, cell_at rfl rfl, fun j => froz_new rfl, World.ownsRow_nil _ _ _ _, fun x hx => (by cases hx), ⟨.inl ⟨rfl, rfl⟩, fun k hk => (by cases hk)⟩, fun k hk => (by cases hk)⟩
/-- A step's four cells. -/
structure D4 (D : Nat) (what pid : Int) (nm tx : ByteArray) (W : World) : Prop where
  c0 : W.cell? ⟨D, 0, none⟩ = some (.int .i64 what)
  c1 : W.cell? ⟨D, 1, none⟩ = some (.int .i64 pid)
  c2 : W.cell? ⟨D, 2, none⟩ = some (.string nm)
  c3 : W.cell? ⟨D, 3, none⟩ = some (.string tx)
theorem D4.mv {D : Nat} {what pid : Int} {nm tx : ByteArray} {W V : World} {E : Nat → Prop} (h : D4 D what pid nm tx W) (m : Mv E W V) (hE : ¬ E D) : D4 D what pid nm tx V := ⟨m.cell (a := ⟨D, 0, none⟩) hE h.c0, m.cell (a := ⟨D, 1, none⟩) hE h.c1, m.cell (a := ⟨D, 2, none⟩) hE h.c2, m.cell (a := ⟨D, 3, none⟩) hE h.c3⟩
theorem D4.below {D : Nat} {what pid : Int} {nm tx : ByteArray} {W V : World} (h : D4 D what pid nm tx W) (b : Below W.heap.size W V) : D4 D what pid nm tx V := h.mv (E := fun _ => False) (Mv.below b) (fun h => h)
/-- Between two rounds. -/
def Pw (w : World) (bt rb j : Nat) (W : World) : Prop := ∃ P S R, Lp w bt rb P S R W ∧ R.l.length ≤ j ∧ S.c ≤ 3 * j
theorem Lp.one {w W W' : World} {bt rb A : Nat} {P : Pl} {S : St} {R : Rt} (h : Lp w bt rb P S R W) (m : Mv (fun k => k = A) W W') (hA : w.heap.size ≤ A) (h1 : ¬ hasB S A) (h2 : ¬ allR R A) : Lp w bt rb P S R W' :=
  ⟨⟨h.f.g.mv m (fun k hk e => h1 (e ▸ hk)), h.f.b.trans (m.toBelow h.f.b.size (fun k hk e => by omega)), h.f.n⟩, h.bt, h.rb, h.r.mv m (fun k hk e => h2 (e ▸ .inl hk)) (fun x hx k hk e => h2 (e ▸ .inr (.inl ⟨x, hx, hk⟩))) (fun k hk e => h2 (e ▸ .inr (.inr hk))), h.a, h.p, h.d⟩
def Zp (w : World) (bt rb : Nat) (P : Pl) (S : St) (R : Rt) (D : Nat) (nm : ByteArray) (W : World) : Prop := Lp w bt rb P S R W ∧ W.cell? ⟨D, 2, none⟩ = some (.string nm)
theorem Zp.below {w W W' : World} {bt rb : Nat} {P : Pl} {S : St} {R : Rt} {D : Nat} {nm : ByteArray} (h : Zp w bt rb P S R D nm W) (b : Below W.heap.size W W') : Zp w bt rb P S R D nm W' := ⟨h.1.below b, (Mv.below (E := fun _ => False) b).cell (a := ⟨D, 2, none⟩) (fun h => h) h.2⟩
set_option maxRecDepth 100000 in
set_option maxHeartbeats 16000000 in
theorem plays_walk (a : Option Addr) (len cap : Nat) (w : World) (hss : ∃ (p : Option Addr) (c : Nat) (l : List Stp), Value.slice a len cap = .slice p l.length c ∧ StepsAt w p l ∧ l.length ≤ 140737488355328) :
    Calls Try.prog 3 #[.slice a len cap] w fun e w' => e = .returned (.bool true) ∧ Below w.heap.size w w' := by
  obtain ⟨p, c, l, e, hat, hll⟩ := hss
  injection e with e1 e2 e3
  subst e1 e3
  obtain ⟨n, hn⟩ : ∃ n, l.length = n := ⟨_, rfl⟩
  rw [hn] at e2 hll
  subst e2
  have hK := hidP (known_any w)
  have hatH := hidP (And.intro hat hn)
  clear hat hn
  by_cases h8 : 120 < len
  · have h8I : (120 : Int) < (len : Int) := by omega
    go_enter Try.func3, Try.ntmps3
    go_wp2_with fail
    refine hK.out.mono ?_
    rintro e V ⟨rfl, hbV⟩
    go_wp2_with fail
    go_ret
    exact ⟨rfl, hbV⟩
  · have h8I : decide ((120 : Int) < (len : Int)) = false := by simp; omega
    have h8J : (len : Int) ≤ 120 := by omega
    go_enter Try.func3, Try.ntmps3
    go_wp2_with fail
    refine hK.out.mono ?_
    rintro e V ⟨rfl, hbV⟩
    have hN := hidP (new_any V)
    have hbH := hidP hbV
    clear hbV hK
    go_wp2_with fail
    refine hN.out.mono ?_
    rintro e W1 ⟨rfl, hg1, hb1⟩
    obtain ⟨W2, hW2⟩ : ∃ W2, W1.alloc (.cells #[.slice none 0 0, .int .i64 0, .slice none 0 0] 30) = W2 := ⟨_, rfl⟩
    have b2 : Below W1.heap.size W1 W2 := by rw [← hW2]; exact (Below.refl _ _).alloc (Nat.le_refl _) _
    obtain ⟨bt, hbt⟩ : ∃ bt, V.heap.size + 1 = bt := ⟨_, rfl⟩
    obtain ⟨rb, hrb⟩ : ∃ rb, W1.heap.size = rb := ⟨_, rfl⟩
    have L1 : Hid (Pw w bt rb 0 W2) := by
      have F1 := (Fr.new hbH.out hg1 hb1)
      refine ⟨_, _, rt0 rb, ⟨F1.below b2, hbt, rfl, by rw [← hrb, ← hW2]; exact rs0, ⟨List.Pairwise.nil, fun s => rfl, rfl, rfl⟩, rfl, fun k hk => ?_⟩, by simp [rt0], by show 0 ≤ _; omega⟩
      rcases hk with q | ⟨x, hx, q⟩ | q
      · rcases q with q | q
        · have q' : k = rb := q
          rw [q', ← hrb]
          exact ⟨F1.b.size, fun e => by have := F1.g.ltB e; omega⟩
        · cases q
      · cases hx
      · cases q
    rw [hbt]
    clear hN hg1 hb1 hbH hbt b2
    go_wp2_with (rw [hW2])
    clear hW2 hrb
    go_loopg [5] len (fun k i wr => ∃ j : Nat, j + k = len ∧ i = .int .i64 (j : Nat) ∧ Hid (Pw w bt rb j wr))
    case atStart => exact ⟨0, by omega, rfl, L1.out⟩
    case round =>
      clear L1
      obtain ⟨j, hj, rfl, hI⟩ := hrel
      by_cases hlt : j < len
      · have hltI : (j : Int) < (len : Int) := by omega
        obtain ⟨⟨what, pid, nm, tx⟩, hx⟩ : ∃ x, l[j]? = some x := ⟨l[j]'(by have := hatH.out.2; omega), List.getElem?_eq_getElem _⟩
        obtain ⟨hok, sb, so, rfl, s0, s1, s2, s3⟩ := hatH.out.1 j _ hx
        dsimp only at s0 s1 s2 s3
        have hbw : Below w.heap.size w wr := by obtain ⟨P, S, R, hL, _⟩ := hI.out; exact hL.f.b
        have m0 : Mv (fun _ => False) w wr := Mv.below hbw
        have k0 := m0.cell (a := ⟨sb, so + j * 4, none⟩) (fun h => h) s0
        have k1 := m0.cell (a := ⟨sb, so + j * 4 + 1, none⟩) (fun h => h) s1
        have k2 := m0.cell (a := ⟨sb, so + j * 4 + 2, none⟩) (fun h => h) s2
        have k3 := m0.cell (a := ⟨sb, so + j * 4 + 3, none⟩) (fun h => h) s3
        obtain ⟨W3, hW3⟩ : ∃ W3, wr.alloc (.cells #[.int .i64 what, .int .i64 pid, .string nm, .string tx] 32) = W3 := ⟨_, rfl⟩
        have b3 : Below wr.heap.size wr W3 := by rw [← hW3]; exact (Below.refl _ _).alloc (Nat.le_refl _) _
        have t0 : W3.cell? ⟨wr.heap.size, 0, none⟩ = some (.int .i64 what) := by rw [← hW3]; exact cell_at rfl rfl
        have t1 : W3.cell? ⟨wr.heap.size, 1, none⟩ = some (.int .i64 pid) := by rw [← hW3]; exact cell_at rfl rfl
        have t2 : W3.cell? ⟨wr.heap.size, 2, none⟩ = some (.string nm) := by rw [← hW3]; exact cell_at rfl rfl
        have t3 : W3.cell? ⟨wr.heap.size, 3, none⟩ = some (.string tx) := by rw [← hW3]; exact cell_at rfl rfl
        have fin3 : Hid (Below w.heap.size w W3) := hbw.trans (b3.mono hbw.size)
        clear hx hok s0 s1 s2 s3 m0 hbw
        by_cases hbig : 100 < nm.size ∨ 400 < tx.size
        · by_cases hn : 100 < nm.size
          · have hnI : (100 : Int) < (nm.size : Int) := by omega
            clear hI b3
            go_wp2_with (rw [hW3])
            go_ret
            exact ⟨rfl, fin3.out⟩
          · have hnI : ¬ (100 : Int) < (nm.size : Int) := by omega
            have htI : (400 : Int) < (tx.size : Int) := by omega
            clear hI b3
            go_wp2_with (rw [hW3])
            go_ret
            exact ⟨rfl, fin3.out⟩
        · have hnI : ¬ (100 : Int) < (nm.size : Int) := by omega
          have htI : ¬ (400 : Int) < (tx.size : Int) := by omega
          have hsz : Hid (nm.size ≤ 100 ∧ tx.size ≤ 400 ∧ j < 120) := ⟨by omega, by omega, by omega⟩
          obtain ⟨D, hD⟩ : ∃ D, wr.heap.size = D := ⟨_, rfl⟩
          have I3 : Hid (∃ P S R, Lp w bt rb P S R W3 ∧ R.l.length ≤ j ∧ S.c ≤ 3 * j ∧ ¬ hasB S D ∧ ¬ allR R D) := by
            obtain ⟨P, S, R, hL, h1, h2⟩ := hI.out
            exact ⟨P, S, R, hL.below b3, h1, h2, fun e => by have := hL.f.g.ltB e; omega, fun e => by have := hL.r.ltA e; omega⟩
          rw [hD] at t0 t1 t2 t3
          clear hI b3 fin3
          go_upto_region 12 with (rw [hW3])
          go_cut [7, 8] (fun a b wx => a = .int .i64 0 ∧ b = .int .i64 0 ∧ wx = W3)
          case first =>
            go_wp2_with fail
            go_meet
            exact ⟨rfl, rfl, rfl⟩
          case rest =>
            obtain ⟨rfl, rfl, rfl⟩ := hcut
            clear hW3
            rename_i K1 aK1
            refine aK1 _ _ ?_
            clear aK1 K1
            go_step
            go_cut [7, 8] (fun a b wx => ∃ e : Int, a = .int .i64 e ∧ b = .int .i64 e ∧ (wx.cell? ⟨D, 2, none⟩ = some (.string nm)) ∧ Hid (∃ P S R, Lp w bt rb P S R wx ∧ R.l.length ≤ j + 1 ∧ S.c ≤ 3 * (j + 1)))
            case first =>
              obtain ⟨P, S, R, hL, h1, h2, hD1, hD2⟩ := I3.out
              have d4 : D4 D what pid nm tx wc := ⟨t0, t1, t2, t3⟩
              have z := hsz.out
              have hpl : Hid (0 ≤ P.last ∧ P.last ≤ 1000000) := by
                have e : P.last = S.last := by rw [← hL.p]; rfl
                have := hL.f.g.l0
                have := hL.f.g.l1
                exact ⟨by omega, by omega⟩
              by_cases hw0 : what = 0
              · as_aux_lemma =>
                subst hw0
                have hC : Hid (∀ W, Below wc.heap.size wc W → Calls Try.prog 9 #[.pointer (some ⟨bt, 0, none⟩), .string nm] W fun e W' => e = .returned (.int .i64 (listenP P nm).1) ∧ ∃ S', Lh w bt rb P (listenP P nm).2 S' R W' ∧ D4 D 0 pid nm tx W' ∧ S'.c ≤ S.c + 1) := fun W hb => by
                  have hLW := hL.below hb
                  have := listen_any S nm W hLW.f.g (by omega) (by omega)
                  rw [hLW.bt, hLW.p] at this
                  exact this.mono (fun e W' ⟨he, S', g, ep⟩ => ⟨he, S', hLW.code g ep, (d4.below hb).mv g.mv hD1, g.c⟩)
                have hR : Hid (∀ W S', Lh w bt rb P (listenP P nm).2 S' R W → D4 D 0 pid nm tx W → Calls Try.prog 10 #[.pointer (some ⟨rb, 0, none⟩), .string nm] W fun e W' => e = .returned (.int .i64 (listenP P nm).1) ∧ ∃ R', Lp w bt rb (listenP P nm).2 S' R' W' ∧ R'.l.length ≤ R.l.length + 1 ∧ D4 D 0 pid nm tx W') := fun W S' hh hd => by
                  have := rlisten_any P R nm W hh.r hh.a (by omega)
                  rw [hh.rb] at this
                  exact this.mono (fun e W' ⟨he, hs⟩ => by
                    obtain ⟨R', hl, hl2⟩ := hh.ref hs
                    obtain ⟨R2, g, _, _⟩ := hs
                    exact ⟨he, R', hl, hl2, hd.mv g.mv (fun e => hD2 (.inl e))⟩)
                have hlen := hidP (And.intro h1 h2)
                clear hL h1 h2 hD1 hD2 d4 I3
                go_wp2_with fail
                go_region_held3 (fun w' => w'.cell? ⟨D, 2, none⟩ = some (.string nm))
                  (first
                    | assumption
                    | exact t2
                    | (simp only [World.cell?_drew]; first | assumption | exact t2)
                    | exact D7.c2
                    | exact D8.c2)
                  (first
                    | (go_at_call 9; refine (hC.out _ (Below.refl _ _).drew).mono ?_; rintro e W7 ⟨rfl, S7, L7, D7, C7⟩)
                    | (go_at_call 10; refine (hR.out _ _ L7 D7).mono ?_; rintro e W8 ⟨rfl, R8, L8, C8, D8⟩))
                have fin : Hid (∃ P S R, Lp w bt rb P S R W8 ∧ R.l.length ≤ j + 1 ∧ S.c ≤ 3 * (j + 1)) := ⟨_, S7, R8, L8, by have := hlen.out.1; omega, by have := hlen.out.2; omega⟩
                have dn := D8.c2
                clear hC hR L7 D7 L8 D8
                go_wp2_with fail
                go_meet
                exact ⟨_, rfl, rfl, dn, fin⟩
              by_cases hw1 : what = 1
              · as_aux_lemma =>
                subst hw1
                clear hw0
                have hC : Hid (∀ W, Below wc.heap.size wc W → Calls Try.prog 11 #[.pointer (some ⟨bt, 0, none⟩), .string nm] W fun e W' => e = .returned (.int .i64 (closeP P nm).1) ∧ ∃ S', Lh w bt rb P (closeP P nm).2 S' R W' ∧ D4 D 1 pid nm tx W' ∧ S'.c ≤ S.c + 1) := fun W hb => by
                  have hLW := hL.below hb
                  have := close_any S nm W hLW.f.g (by omega)
                  rw [hLW.bt, hLW.p] at this
                  exact this.mono (fun e W' ⟨he, S', g, ep⟩ => ⟨he, S', hLW.code g ep, (d4.below hb).mv g.mv hD1, g.c⟩)
                have hR : Hid (∀ W S', Lh w bt rb P (closeP P nm).2 S' R W → D4 D 1 pid nm tx W → Calls Try.prog 12 #[.pointer (some ⟨rb, 0, none⟩), .string nm] W fun e W' => e = .returned (.int .i64 (closeP P nm).1) ∧ ∃ R', Lp w bt rb (closeP P nm).2 S' R' W' ∧ R'.l.length ≤ R.l.length + 1 ∧ D4 D 1 pid nm tx W') := fun W S' hh hd => by
                  have := rclose_any P R nm W hh.r hh.a (by omega)
                  rw [hh.rb] at this
                  exact this.mono (fun e W' ⟨he, hs⟩ => by
                    obtain ⟨R', hl, hl2⟩ := hh.ref hs
                    obtain ⟨R2, g, _, _⟩ := hs
                    exact ⟨he, R', hl, hl2, hd.mv g.mv (fun e => hD2 (.inl e))⟩)
                have hlen := hidP (And.intro h1 h2)
                clear hL h1 h2 hD1 hD2 d4 I3
                go_wp2_with fail
                go_region_held3 (fun w' => w'.cell? ⟨D, 2, none⟩ = some (.string nm))
                  (first
                    | assumption
                    | exact t2
                    | (simp only [World.cell?_drew]; first | assumption | exact t2)
                    | exact D7.c2
                    | exact D8.c2)
                  (first
                    | (go_at_call 11; refine (hC.out _ (Below.refl _ _).drew).mono ?_; rintro e W7 ⟨rfl, S7, L7, D7, C7⟩)
                    | (go_at_call 12; refine (hR.out _ _ L7 D7).mono ?_; rintro e W8 ⟨rfl, R8, L8, C8, D8⟩))
                have fin : Hid (∃ P S R, Lp w bt rb P S R W8 ∧ R.l.length ≤ j + 1 ∧ S.c ≤ 3 * (j + 1)) := ⟨_, S7, R8, L8, by have := hlen.out.1; omega, by have := hlen.out.2; omega⟩
                have dn := D8.c2
                clear hC hR L7 D7 L8 D8
                go_wp2_with fail
                go_meet
                exact ⟨_, rfl, rfl, dn, fin⟩
              by_cases hw2 : what = 2
              · as_aux_lemma =>
                subst hw2
                clear hw0 hw1
                obtain ⟨pv, hpv⟩ : ∃ pv, connectP P nm tx = pv := ⟨_, rfl⟩
                have hC : Hid (Calls Try.prog 13 #[.pointer (some ⟨bt, 0, none⟩), .string nm, .string tx] wc fun e W' => e = .returned (.tuple #[.int .i64 pv.1, .int .i64 pv.2.1]) ∧ ∃ S', Lh w bt rb P pv.2.2 S' R W' ∧ D4 D 2 pid nm tx W' ∧ S'.c ≤ S.c + 1 ∧ ¬ hasB S' D) := by
                  have := connect_any S nm tx wc hL.f.g (by omega) (by omega)
                  rw [hL.bt, hL.p, hpv] at this
                  exact this.mono (fun e W' ⟨he, S', g, ep⟩ => ⟨he, S', hL.code g ep, d4.mv g.mv hD1, g.c, (g.beside (cell_lt d4.c0) hD1).2⟩)
                have hR : Hid (∀ W S', Lh w bt rb P pv.2.2 S' R W → D4 D 2 pid nm tx W → Calls Try.prog 14 #[.pointer (some ⟨rb, 0, none⟩), .string nm, .string tx] W fun e W' => e = .returned (.tuple #[.int .i64 pv.1, .int .i64 pv.2.1]) ∧ ∃ R', Lp w bt rb pv.2.2 S' R' W' ∧ R'.l.length ≤ R.l.length + 1 ∧ D4 D 2 pid nm tx W' ∧ Mv (fun k => allR R k) W W') := fun W S' hh hd => by
                  have := rconnect_any P R nm tx W hh.r hh.a (by omega) hpl.out.1 hpl.out.2
                  rw [hh.rb, hpv] at this
                  exact this.mono (fun e W' ⟨he, hs⟩ => by
                    obtain ⟨R', hl, hl2⟩ := hh.ref hs
                    obtain ⟨R2, g, _, _⟩ := hs
                    exact ⟨he, R', hl, hl2, hd.mv g.mv (fun e => hD2 (.inl e)), g.mv.mono (fun k _ e => .inl e)⟩)
                have hlen := hidP (And.intro h1 (And.intro h2 hL.r))
                clear hL h1 h2 hD1 d4 I3 hpv
                go_wp2_with fail
                refine hC.out.mono ?_
                rintro e W7 ⟨rfl, S7, L7, D7, C7, B7⟩
                have q2 := D7.c2
                have q3 := D7.c3
                have L7H := hidP (And.intro L7 (And.intro D7 (And.intro C7 B7)))
                clear hC L7 D7 C7 B7
                go_wp2_with fail
                refine (hR.out _ _ L7H.out.1 L7H.out.2.1).mono ?_
                rintro e W8 ⟨rfl, R8, L8, C8, D8, m8⟩
                have fin : Hid (∃ P S R, Lp w bt rb P S R W8 ∧ R.l.length ≤ j + 1 ∧ S.c ≤ 3 * (j + 1)) := ⟨_, S7, R8, L8, by have := hlen.out.1; omega, by have := hlen.out.2.1; have := L7H.out.2.2.1; omega⟩
                have dn := D8.c2
                clear hR L7H L8 D8 q2 q3
                go_wp2_with fail
                go_meet
                exact ⟨_, rfl, rfl, dn, fin⟩
              by_cases hw3 : what = 3
              · as_aux_lemma =>
                subst hw3
                clear hw0 hw1 hw2
                obtain ⟨pv, hpv⟩ : ∃ pv, connectP P nm tx = pv := ⟨_, rfl⟩
                have hC : Hid (Calls Try.prog 13 #[.pointer (some ⟨bt, 0, none⟩), .string nm, .string tx] wc fun e W' => e = .returned (.tuple #[.int .i64 pv.1, .int .i64 pv.2.1]) ∧ ∃ S', Lh w bt rb P pv.2.2 S' R W' ∧ D4 D 3 pid nm tx W' ∧ S'.c ≤ S.c + 1 ∧ ¬ hasB S' D) := by
                  have := connect_any S nm tx wc hL.f.g (by omega) (by omega)
                  rw [hL.bt, hL.p, hpv] at this
                  exact this.mono (fun e W' ⟨he, S', g, ep⟩ => ⟨he, S', hL.code g ep, d4.mv g.mv hD1, g.c, (g.beside (cell_lt d4.c0) hD1).2⟩)
                have hR : Hid (∀ W S', Lh w bt rb P pv.2.2 S' R W → D4 D 3 pid nm tx W → Calls Try.prog 14 #[.pointer (some ⟨rb, 0, none⟩), .string nm, .string tx] W fun e W' => e = .returned (.tuple #[.int .i64 pv.1, .int .i64 pv.2.1]) ∧ ∃ R', Lp w bt rb pv.2.2 S' R' W' ∧ R'.l.length ≤ R.l.length + 1 ∧ D4 D 3 pid nm tx W' ∧ Mv (fun k => allR R k) W W') := fun W S' hh hd => by
                  have := rconnect_any P R nm tx W hh.r hh.a (by omega) hpl.out.1 hpl.out.2
                  rw [hh.rb, hpv] at this
                  exact this.mono (fun e W' ⟨he, hs⟩ => by
                    obtain ⟨R', hl, hl2⟩ := hh.ref hs
                    obtain ⟨R2, g, _, _⟩ := hs
                    exact ⟨he, R', hl, hl2, hd.mv g.mv (fun e => hD2 (.inl e)), g.mv.mono (fun k _ e => .inl e)⟩)
                have hlen := hidP (And.intro h1 (And.intro h2 hL.r))
                clear hL h1 h2 hD1 d4 I3 hpv
                go_wp2_with fail
                refine hC.out.mono ?_
                rintro e W7 ⟨rfl, S7, L7, D7, C7, B7⟩
                have q2 := D7.c2
                have q3 := D7.c3
                have L7H := hidP (And.intro L7 (And.intro D7 (And.intro C7 B7)))
                clear hC L7 D7 C7 B7
                go_wp2_with fail
                refine (hR.out _ _ L7H.out.1 L7H.out.2.1).mono ?_
                rintro e W8 ⟨rfl, R8, L8, C8, D8, m8⟩
                have fin : Hid (∃ P S R, Lp w bt rb P S R W8 ∧ R.l.length ≤ j + 1 ∧ S.c ≤ 3 * (j + 1)) := ⟨_, S7, R8, L8, by have := hlen.out.1; omega, by have := hlen.out.2.1; have := L7H.out.2.2.1; omega⟩
                have dn := D8.c2
                clear hR L7H L8 D8 q2 q3
                go_wp2_with fail
                go_meet
                exact ⟨_, rfl, rfl, dn, fin⟩
              by_cases hw4 : what = 4
              · as_aux_lemma =>
                subst hw4
                clear hw0 hw1 hw2 hw3
                obtain ⟨pv, hpv⟩ : ∃ pv, connectP P nm tx = pv := ⟨_, rfl⟩
                have hC : Hid (Calls Try.prog 13 #[.pointer (some ⟨bt, 0, none⟩), .string nm, .string tx] wc fun e W' => e = .returned (.tuple #[.int .i64 pv.1, .int .i64 pv.2.1]) ∧ ∃ S', Lh w bt rb P pv.2.2 S' R W' ∧ D4 D 4 pid nm tx W' ∧ S'.c ≤ S.c + 1 ∧ ¬ hasB S' D) := by
                  have := connect_any S nm tx wc hL.f.g (by omega) (by omega)
                  rw [hL.bt, hL.p, hpv] at this
                  exact this.mono (fun e W' ⟨he, S', g, ep⟩ => ⟨he, S', hL.code g ep, d4.mv g.mv hD1, g.c, (g.beside (cell_lt d4.c0) hD1).2⟩)
                have hR : Hid (∀ W S', Lh w bt rb P pv.2.2 S' R W → D4 D 4 pid nm tx W → Calls Try.prog 14 #[.pointer (some ⟨rb, 0, none⟩), .string nm, .string tx] W fun e W' => e = .returned (.tuple #[.int .i64 pv.1, .int .i64 pv.2.1]) ∧ ∃ R', Lp w bt rb pv.2.2 S' R' W' ∧ R'.l.length ≤ R.l.length + 1 ∧ D4 D 4 pid nm tx W' ∧ Mv (fun k => allR R k) W W') := fun W S' hh hd => by
                  have := rconnect_any P R nm tx W hh.r hh.a (by omega) hpl.out.1 hpl.out.2
                  rw [hh.rb, hpv] at this
                  exact this.mono (fun e W' ⟨he, hs⟩ => by
                    obtain ⟨R', hl, hl2⟩ := hh.ref hs
                    obtain ⟨R2, g, _, _⟩ := hs
                    exact ⟨he, R', hl, hl2, hd.mv g.mv (fun e => hD2 (.inl e)), g.mv.mono (fun k _ e => .inl e)⟩)
                have hlen := hidP (And.intro h1 (And.intro h2 hL.r))
                clear hL h1 h2 hD1 d4 I3 hpv
                go_wp2_with fail
                refine hC.out.mono ?_
                rintro e W7 ⟨rfl, S7, L7, D7, C7, B7⟩
                have q2 := D7.c2
                have q3 := D7.c3
                have L7H := hidP (And.intro L7 (And.intro D7 (And.intro C7 B7)))
                clear hC L7 D7 C7 B7
                go_wp2_with fail
                refine (hR.out _ _ L7H.out.1 L7H.out.2.1).mono ?_
                rintro e W8 ⟨rfl, R8, L8, C8, D8, m8⟩
                have fin : Hid (∃ P S R, Lp w bt rb P S R W8 ∧ R.l.length ≤ j + 1 ∧ S.c ≤ 3 * (j + 1)) := ⟨_, S7, R8, L8, by have := hlen.out.1; omega, by have := hlen.out.2.1; have := L7H.out.2.2.1; omega⟩
                have dn := D8.c2
                clear hR L7H L8 D8 q2 q3
                go_wp2_with fail
                go_meet
                exact ⟨_, rfl, rfl, dn, fin⟩
              by_cases hw5 : what = 5
              · as_aux_lemma =>
                subst hw5
                clear hw0 hw1 hw2 hw3 hw4
                obtain ⟨pv, hpv⟩ : ∃ pv, acceptP P nm = pv := ⟨_, rfl⟩
                have hC : Hid (Calls Try.prog 15 #[.pointer (some ⟨bt, 0, none⟩), .string nm] wc fun e W' => e = .returned (.tuple #[.agg #[.int .i64 pv.1.1, .string pv.1.2], .int .i64 pv.2.1]) ∧ ∃ S', Lh w bt rb P pv.2.2 S' R W' ∧ D4 D 5 pid nm tx W' ∧ S'.c ≤ S.c + 1 ∧ ¬ hasB S' D) := by
                  have := accept_any S nm wc hL.f.g (by omega)
                  rw [hL.bt, hL.p, hpv] at this
                  exact this.mono (fun e W' ⟨he, S', g, ep⟩ => ⟨he, S', hL.code g ep, d4.mv g.mv hD1, g.c, (g.beside (cell_lt d4.c0) hD1).2⟩)
                have hR : Hid (∀ W S', Lh w bt rb P pv.2.2 S' R W → D4 D 5 pid nm tx W → Calls Try.prog 16 #[.pointer (some ⟨rb, 0, none⟩), .string nm] W fun e W' => e = .returned (.tuple #[.agg #[.int .i64 pv.1.1, .string pv.1.2], .int .i64 pv.2.1]) ∧ ∃ R', Lp w bt rb pv.2.2 S' R' W' ∧ R'.l.length ≤ R.l.length + 1 ∧ D4 D 5 pid nm tx W' ∧ Mv (fun k => allR R k) W W') := fun W S' hh hd => by
                  have := raccept_any P R nm W hh.r hh.a (by omega)
                  rw [hh.rb, hpv] at this
                  exact this.mono (fun e W' ⟨he, hs⟩ => by
                    obtain ⟨R', hl, hl2⟩ := hh.ref hs
                    obtain ⟨R2, g, _, _⟩ := hs
                    exact ⟨he, R', hl, hl2, hd.mv g.mv (fun e => hD2 (.inl e)), g.mv.mono (fun k _ e => .inl e)⟩)
                have hlen := hidP (And.intro h1 (And.intro h2 hL.r))
                clear hL h1 h2 hD1 d4 I3 hpv
                go_wp2_with fail
                refine hC.out.mono ?_
                rintro e W7 ⟨rfl, S7, L7, D7, C7, B7⟩
                obtain ⟨V7, hV7⟩ : ∃ V7, W7.alloc (.cells #[.int .i64 pv.1.1, .string pv.1.2] 41) = V7 := ⟨_, rfl⟩
                have b7 : Below W7.heap.size W7 V7 := by rw [← hV7]; exact (Below.refl _ _).alloc (Nat.le_refl _) _
                have D7' := D7.below b7
                have q2 := D7'.c2
                have v0 : V7.cell? ⟨W7.heap.size, 0, none⟩ = some (.int .i64 pv.1.1) := by rw [← hV7]; exact cell_at rfl rfl
                have v1 : V7.cell? ⟨W7.heap.size, 1, none⟩ = some (.string pv.1.2) := by rw [← hV7]; exact cell_at rfl rfl
                have nA : ¬ allR R W7.heap.size := fun e => by have := L7.r.ltA e; omega
                have L7H := hidP (And.intro (L7.below b7) (And.intro D7' (And.intro C7 nA)))
                clear hC L7 D7 D7' C7 B7 b7 nA
                go_wp2_with (rw [hV7])
                refine (hR.out _ _ L7H.out.1 L7H.out.2.1).mono ?_
                rintro e W8 ⟨rfl, R8, L8, C8, D8, m8⟩
                have u0 := m8.cell (a := ⟨W7.heap.size, 0, none⟩) L7H.out.2.2.2 v0
                have u1 := m8.cell (a := ⟨W7.heap.size, 1, none⟩) L7H.out.2.2.2 v1
                obtain ⟨V8, hV8⟩ : ∃ V8, W8.alloc (.cells #[.int .i64 pv.1.1, .string pv.1.2] 41) = V8 := ⟨_, rfl⟩
                have b8 : Below W8.heap.size W8 V8 := by rw [← hV8]; exact (Below.refl _ _).alloc (Nat.le_refl _) _
                have m8' : Mv (fun _ => False) W8 V8 := Mv.below b8
                have x0 := m8'.cell (a := ⟨W7.heap.size, 0, none⟩) (fun h => h) u0
                have x1 := m8'.cell (a := ⟨W7.heap.size, 1, none⟩) (fun h => h) u1
                have x2 : V8.cell? ⟨W8.heap.size, 0, none⟩ = some (.int .i64 pv.1.1) := by rw [← hV8]; exact cell_at rfl rfl
                have x3 : V8.cell? ⟨W8.heap.size, 1, none⟩ = some (.string pv.1.2) := by rw [← hV8]; exact cell_at rfl rfl
                have qN : ∀ w, (binOp .neq 41 (.agg #[.int .i64 pv.1.1, .string pv.1.2]) (.agg #[.int .i64 pv.1.1, .string pv.1.2])).run Try.prog w = .ok (.bool false) w := fun w => by rw [neqC]; simp
                have fin : Hid (∃ P S R, Lp w bt rb P S R V8 ∧ R.l.length ≤ j + 1 ∧ S.c ≤ 3 * (j + 1)) := ⟨_, S7, R8, L8.below b8, by have := hlen.out.1; omega, by have := hlen.out.2.1; have := L7H.out.2.2.1; omega⟩
                have dn := (D8.below b8).c2
                clear hR L7H L8 D8 q2 u0 u1 v0 v1 m8 m8' b8 hV7
                go_wp2_with (rw [hV8])
                go_meet
                exact ⟨_, rfl, rfl, dn, fin⟩
              by_cases hw6 : what = 6
              · as_aux_lemma =>
                subst hw6
                clear hw0 hw1 hw2 hw3 hw4 hw5
                have hC : Hid (∀ W, Below wc.heap.size wc W → Calls Try.prog 17 #[.pointer (some ⟨bt, 0, none⟩), .int .i64 pid, .string tx] W fun e W' => e = .returned (.int .i64 (sendP P pid tx).1) ∧ ∃ S', Lh w bt rb P (sendP P pid tx).2 S' R W' ∧ D4 D 6 pid nm tx W' ∧ S'.c ≤ S.c + 1) := fun W hb => by
                  have hLW := hL.below hb
                  have := send_any S pid tx W hLW.f.g
                  rw [hLW.bt, hLW.p] at this
                  exact this.mono (fun e W' ⟨he, S', g, ep⟩ => ⟨he, S', hLW.code g ep, (d4.below hb).mv g.mv hD1, g.c⟩)
                have hR : Hid (∀ W S', Lh w bt rb P (sendP P pid tx).2 S' R W → D4 D 6 pid nm tx W → Calls Try.prog 18 #[.pointer (some ⟨rb, 0, none⟩), .int .i64 pid, .string tx] W fun e W' => e = .returned (.int .i64 (sendP P pid tx).1) ∧ ∃ R', Lp w bt rb (sendP P pid tx).2 S' R' W' ∧ R'.l.length ≤ R.l.length + 1 ∧ D4 D 6 pid nm tx W') := fun W S' hh hd => by
                  have := rsend_any P R pid tx W hh.r hh.a
                  rw [hh.rb] at this
                  exact this.mono (fun e W' ⟨he, hs⟩ => by
                    obtain ⟨R', hl, hl2⟩ := hh.ref hs
                    obtain ⟨R2, g, _, _⟩ := hs
                    exact ⟨he, R', hl, hl2, hd.mv g.mv (fun e => hD2 (.inl e))⟩)
                have hlen := hidP (And.intro h1 h2)
                clear hL h1 h2 hD1 hD2 d4 I3
                go_wp2_with fail
                go_region_held3 (fun w' => w'.cell? ⟨D, 1, none⟩ = some (.int .i64 pid) ∧ w'.cell? ⟨D, 3, none⟩ = some (.string tx))
                  (first
                    | assumption
                    | exact ⟨t1, t3⟩
                    | (simp only [World.cell?_drew]; first | assumption | exact ⟨t1, t3⟩)
                    | exact ⟨D7.c1, D7.c3⟩
                    | exact ⟨D8.c1, D8.c3⟩)
                  (first
                    | (go_at_call 17; refine (hC.out _ (Below.refl _ _).drew).mono ?_; rintro e W7 ⟨rfl, S7, L7, D7, C7⟩)
                    | (go_at_call 18; refine (hR.out _ _ L7 D7).mono ?_; rintro e W8 ⟨rfl, R8, L8, C8, D8⟩))
                have fin : Hid (∃ P S R, Lp w bt rb P S R W8 ∧ R.l.length ≤ j + 1 ∧ S.c ≤ 3 * (j + 1)) := ⟨_, S7, R8, L8, by have := hlen.out.1; omega, by have := hlen.out.2; omega⟩
                have dn := D8.c2
                clear hC hR L7 D7 L8 D8
                go_wp2_with fail
                go_meet
                exact ⟨_, rfl, rfl, dn, fin⟩
              by_cases hw7 : what = 7
              · as_aux_lemma =>
                subst hw7
                clear hw0 hw1 hw2 hw3 hw4 hw5 hw6
                have hC : Hid (∀ W, Below wc.heap.size wc W → Calls Try.prog 17 #[.pointer (some ⟨bt, 0, none⟩), .int .i64 pid, .string tx] W fun e W' => e = .returned (.int .i64 (sendP P pid tx).1) ∧ ∃ S', Lh w bt rb P (sendP P pid tx).2 S' R W' ∧ D4 D 7 pid nm tx W' ∧ S'.c ≤ S.c + 1) := fun W hb => by
                  have hLW := hL.below hb
                  have := send_any S pid tx W hLW.f.g
                  rw [hLW.bt, hLW.p] at this
                  exact this.mono (fun e W' ⟨he, S', g, ep⟩ => ⟨he, S', hLW.code g ep, (d4.below hb).mv g.mv hD1, g.c⟩)
                have hR : Hid (∀ W S', Lh w bt rb P (sendP P pid tx).2 S' R W → D4 D 7 pid nm tx W → Calls Try.prog 18 #[.pointer (some ⟨rb, 0, none⟩), .int .i64 pid, .string tx] W fun e W' => e = .returned (.int .i64 (sendP P pid tx).1) ∧ ∃ R', Lp w bt rb (sendP P pid tx).2 S' R' W' ∧ R'.l.length ≤ R.l.length + 1 ∧ D4 D 7 pid nm tx W') := fun W S' hh hd => by
                  have := rsend_any P R pid tx W hh.r hh.a
                  rw [hh.rb] at this
                  exact this.mono (fun e W' ⟨he, hs⟩ => by
                    obtain ⟨R', hl, hl2⟩ := hh.ref hs
                    obtain ⟨R2, g, _, _⟩ := hs
                    exact ⟨he, R', hl, hl2, hd.mv g.mv (fun e => hD2 (.inl e))⟩)
                have hlen := hidP (And.intro h1 h2)
                clear hL h1 h2 hD1 hD2 d4 I3
                go_wp2_with fail
                go_region_held3 (fun w' => w'.cell? ⟨D, 1, none⟩ = some (.int .i64 pid) ∧ w'.cell? ⟨D, 3, none⟩ = some (.string tx))
                  (first
                    | assumption
                    | exact ⟨t1, t3⟩
                    | (simp only [World.cell?_drew]; first | assumption | exact ⟨t1, t3⟩)
                    | exact ⟨D7.c1, D7.c3⟩
                    | exact ⟨D8.c1, D8.c3⟩)
                  (first
                    | (go_at_call 17; refine (hC.out _ (Below.refl _ _).drew).mono ?_; rintro e W7 ⟨rfl, S7, L7, D7, C7⟩)
                    | (go_at_call 18; refine (hR.out _ _ L7 D7).mono ?_; rintro e W8 ⟨rfl, R8, L8, C8, D8⟩))
                have fin : Hid (∃ P S R, Lp w bt rb P S R W8 ∧ R.l.length ≤ j + 1 ∧ S.c ≤ 3 * (j + 1)) := ⟨_, S7, R8, L8, by have := hlen.out.1; omega, by have := hlen.out.2; omega⟩
                have dn := D8.c2
                clear hC hR L7 D7 L8 D8
                go_wp2_with fail
                go_meet
                exact ⟨_, rfl, rfl, dn, fin⟩
              as_aux_lemma =>
                obtain ⟨pv, hpv⟩ : ∃ pv, recvP P = pv := ⟨_, rfl⟩
                have hC : Hid (Calls Try.prog 19 #[.pointer (some ⟨bt, 0, none⟩)] wc fun e W' => e = .returned (.tuple #[.agg #[.int .i64 pv.1.1, .string pv.1.2], .bool pv.2.1]) ∧ ∃ S', Lh w bt rb P pv.2.2 S' R W' ∧ D4 D what pid nm tx W' ∧ S'.c ≤ S.c + 1 ∧ ¬ hasB S' D) := by
                  have := receive_any S wc hL.f.g
                  rw [hL.bt, hL.p, hpv] at this
                  exact this.mono (fun e W' ⟨he, S', g, ep⟩ => ⟨he, S', hL.code g ep, d4.mv g.mv hD1, g.c, (g.beside (cell_lt d4.c0) hD1).2⟩)
                have hR : Hid (∀ W S', Lh w bt rb P pv.2.2 S' R W → D4 D what pid nm tx W → Calls Try.prog 20 #[.pointer (some ⟨rb, 0, none⟩)] W fun e W' => e = .returned (.tuple #[.agg #[.int .i64 pv.1.1, .string pv.1.2], .bool pv.2.1]) ∧ ∃ R', Lp w bt rb pv.2.2 S' R' W' ∧ R'.l.length ≤ R.l.length + 1 ∧ D4 D what pid nm tx W' ∧ Mv (fun k => allR R k) W W') := fun W S' hh hd => by
                  have := rreceive_any P R W hh.r hh.a
                  rw [hh.rb, hpv] at this
                  exact this.mono (fun e W' ⟨he, hs⟩ => by
                    obtain ⟨R', hl, hl2⟩ := hh.ref hs
                    obtain ⟨R2, g, _, _⟩ := hs
                    exact ⟨he, R', hl, hl2, hd.mv g.mv (fun e => hD2 (.inl e)), g.mv.mono (fun k _ e => .inl e)⟩)
                have hlen := hidP (And.intro h1 (And.intro h2 hL.r))
                clear hL h1 h2 hD1 d4 I3 hpv
                go_wp2_with fail
                refine hC.out.mono ?_
                rintro e W7 ⟨rfl, S7, L7, D7, C7, B7⟩
                obtain ⟨V7, hV7⟩ : ∃ V7, W7.alloc (.cells #[.int .i64 pv.1.1, .string pv.1.2] 49) = V7 := ⟨_, rfl⟩
                have b7 : Below W7.heap.size W7 V7 := by rw [← hV7]; exact (Below.refl _ _).alloc (Nat.le_refl _) _
                have D7' := D7.below b7
                have q2 := D7'.c2
                have v0 : V7.cell? ⟨W7.heap.size, 0, none⟩ = some (.int .i64 pv.1.1) := by rw [← hV7]; exact cell_at rfl rfl
                have v1 : V7.cell? ⟨W7.heap.size, 1, none⟩ = some (.string pv.1.2) := by rw [← hV7]; exact cell_at rfl rfl
                have nA : ¬ allR R W7.heap.size := fun e => by have := L7.r.ltA e; omega
                have L7H := hidP (And.intro (L7.below b7) (And.intro D7' (And.intro C7 nA)))
                clear hC L7 D7 D7' C7 B7 b7 nA
                go_wp2_with (rw [hV7])
                refine (hR.out _ _ L7H.out.1 L7H.out.2.1).mono ?_
                rintro e W8 ⟨rfl, R8, L8, C8, D8, m8⟩
                have u0 := m8.cell (a := ⟨W7.heap.size, 0, none⟩) L7H.out.2.2.2 v0
                have u1 := m8.cell (a := ⟨W7.heap.size, 1, none⟩) L7H.out.2.2.2 v1
                obtain ⟨V8, hV8⟩ : ∃ V8, W8.alloc (.cells #[.int .i64 pv.1.1, .string pv.1.2] 49) = V8 := ⟨_, rfl⟩
                have b8 : Below W8.heap.size W8 V8 := by rw [← hV8]; exact (Below.refl _ _).alloc (Nat.le_refl _) _
                have m8' : Mv (fun _ => False) W8 V8 := Mv.below b8
                have x0 := m8'.cell (a := ⟨W7.heap.size, 0, none⟩) (fun h => h) u0
                have x1 := m8'.cell (a := ⟨W7.heap.size, 1, none⟩) (fun h => h) u1
                have x2 : V8.cell? ⟨W8.heap.size, 0, none⟩ = some (.int .i64 pv.1.1) := by rw [← hV8]; exact cell_at rfl rfl
                have x3 : V8.cell? ⟨W8.heap.size, 1, none⟩ = some (.string pv.1.2) := by rw [← hV8]; exact cell_at rfl rfl
                have qN : ∀ w, (binOp .neq 49 (.agg #[.int .i64 pv.1.1, .string pv.1.2]) (.agg #[.int .i64 pv.1.1, .string pv.1.2])).run Try.prog w = .ok (.bool false) w := fun w => by rw [neqD]; simp
                have fin : Hid (∃ P S R, Lp w bt rb P S R V8 ∧ R.l.length ≤ j + 1 ∧ S.c ≤ 3 * (j + 1)) := ⟨_, S7, R8, L8.below b8, by have := hlen.out.1; omega, by have := hlen.out.2.1; have := L7H.out.2.2.1; omega⟩
                have dn := (D8.below b8).c2
                clear hR L7H L8 D8 q2 u0 u1 v0 v1 m8 m8' b8 hV7
                go_wp2_with (rw [hV8])
                go_meet
                exact ⟨_, rfl, rfl, dn, fin⟩
            case rest =>
              obtain ⟨e, rfl, rfl, t4, I4⟩ := hcut
              clear t0 t1 t2 t3 I3
              obtain ⟨P, S, R, hL, h1, h2⟩ := I4.out
              obtain ⟨g0, hg0'⟩ : ∃ g0, gk = g0 + 1 := ⟨gk - 1, by omega⟩
              have hg0 := hidP (And.intro hg0' hj)
              clear hg0'
              have z := hsz.out
              obtain ⟨xs, hxs⟩ : ∃ xs, (P.q nm).getD [] = xs := ⟨_, rfl⟩
              have hxl : xs.length ≤ 1000000 := by
                rw [← hxs, ← hL.p, pl_q]
                cases e : S.sock nm with
                | none => simp
                | some q => have := (hL.f.g.sk nm q e).2.2; simp; omega
              obtain ⟨dp, dc, hdv⟩ := hL.r.dd.1.shape
              obtain ⟨m, hm⟩ : ∃ m, R.ds.length = m := ⟨_, rfl⟩
              rw [hm] at hdv
              have hz : Hid (∀ W, Zp w bt rb P S R D nm W → W.cell? ⟨rb, 2, none⟩ = some (.slice dp m dc) ∧ W.cell? ⟨D, 2, none⟩ = some (.string nm)) := fun W h => ⟨by have := h.1.r.c2; rw [h.1.rb, hdv] at this; exact this, h.2⟩
              have Z4 : Zp w bt rb P S R D nm wc := ⟨hL, t4⟩
              have hDg : Hid (∀ W, Zp w bt rb P S R D nm W → Calls Try.prog 21 #[.pointer (some ⟨bt, 0, none⟩)] W fun e W' => e = .returned (.int .i64 m) ∧ W' = W) := fun W h => by
                have := datagrams_any S W h.1.f.g
                rw [h.1.bt, show S.ms.length = m by rw [← hm, ← hL.a.m, ← hL.p]; rfl] at this
                exact this
              have hW1 : Hid (∀ W, Zp w bt rb P S R D nm W → Calls Try.prog 23 #[.pointer (some ⟨bt, 0, none⟩), .string nm] W fun e W' => ∃ v, e = .returned v ∧ QS W' v xs ∧ Zp w bt rb P S R D nm W') := fun W h => by
                have := waiting_any S nm W h.1.f.g (by omega)
                rw [h.1.bt, h.1.p, hxs] at this
                exact this.mono (fun e W' ⟨v, he, hq, _, hb⟩ => ⟨v, he, hq, h.below hb⟩)
              have hW2 : Hid (∀ W v, Zp w bt rb P S R D nm W → QS W v xs → Calls Try.prog 24 #[.pointer (some ⟨rb, 0, none⟩), .string nm] W fun e W' => ∃ u, e = .returned u ∧ QS W' u xs ∧ QS W' v xs ∧ Zp w bt rb P S R D nm W') := fun W v h hv => by
                have := rwait_any P R nm W h.1.r h.1.a (by omega)
                rw [h.1.rb, hxs] at this
                exact this.mono (fun e W' ⟨u, he, hq, hb⟩ => ⟨u, he, hq, hv.below hb, h.below hb⟩)
              have hCn : Hid (∀ W v u, Zp w bt rb P S R D nm W → QS W v xs → QS W u xs → Calls Try.prog 22 #[v, u] W fun e W' => e = .returned (.bool true) ∧ Zp w bt rb P S R D nm W') := fun W v u h hv hu =>
                (conns_same v u xs W hv hu hxl).mono (fun e W' ⟨he, hb⟩ => ⟨he, h.below hb⟩)
              have hcells := hz.out wc Z4
              have Z4H := hidP Z4
              have hkp := hidP (And.intro h1 h2)
              clear hL I4 hxl hdv hm hxs Z4 h1 h2 t4
              rename_i K1 aK1
              refine aK1 _ _ ?_
              clear aK1 K1
              go_upto_region 39 with fail
              go_region_held3 (fun w' => w'.cell? ⟨rb, 2, none⟩ = some (.slice dp m dc) ∧ w'.cell? ⟨D, 2, none⟩ = some (.string nm))
                (first
                  | assumption
                  | (simp only [World.cell?_drew]; assumption)
                  | exact hz.out _ Z5
                  | exact hz.out _ Z6
                  | exact hz.out _ Z7
                  | exact hz.out _ Z8)
                (first
                  | (go_at_call 21; refine (hDg.out _ (Z4H.out.below (Below.refl _ _).drew)).mono ?_; rintro e W5 ⟨rfl, rfl⟩; have Z5 := Z4H.out.below (Below.refl _ wc).drew)
                  | (go_at_call 23; refine (hW1.out _ Z5).mono ?_; rintro e W6 ⟨v6, rfl, Q6, Z6⟩)
                  | (go_at_call 24; refine (hW2.out _ _ Z6 Q6).mono ?_; rintro e W7 ⟨v7, rfl, Q7, Q6', Z7⟩)
                  | (go_at_call 22; refine (hCn.out _ _ _ Z7 Q6' Q7).mono ?_; rintro e W8 ⟨rfl, Z8⟩))
              have fin8 : Hid (Zp w bt rb P S R D nm W8) := Z8
              clear hDg hW1 hW2 hCn Z4H Z5 Q6 Z6 Q7 Q6' Z7 Z8 hz hcells
              as_aux_lemma =>
                obtain ⟨V9, hV9⟩ : ∃ V9, W8.alloc (.cells #[.slice none 0 0] 56) = V9 := ⟨_, rfl⟩
                have b9 : Below W8.heap.size W8 V9 := by rw [← hV9]; exact (Below.refl _ _).alloc (Nat.le_refl _) _
                obtain ⟨A, hA⟩ : ∃ A, W8.heap.size = A := ⟨_, rfl⟩
                have cA : Cl A (.slice none 0 0) V9 := by rw [← hV9, ← hA]; exact ⟨cell_at rfl rfl, froz_new rfl⟩
                have hs9 : V9.heap.size = A + 1 := by rw [← hV9, ← hA]; simp
                have hli := hidP (listening_any bt V9)
                have hid9 := hidP (And.intro b9 (And.intro cA hs9))
                clear b9 cA hs9
                go_wp2_with (rw [hV9])
                refine hli.out.mono ?_
                rintro e2 V10 ⟨rfl, hV10⟩
                obtain ⟨b9, cA, hs9⟩ := hid9.out
                have b10 : Below V9.heap.size V9 V10 := by rw [hV10]; exact (Below.refl _ _).alloc (Nat.le_refl _) _
                have Z10 := (fin8.out.below b9).below b10
                have cB : V10.cell? ⟨V9.heap.size, 0, none⟩ = some (.pointer (some ⟨S.bt, 0, none⟩)) := by rw [hV10, Z10.1.bt]; exact cell_at rfl rfl
                have cA10 := cA.mv (E := fun _ => False) (Mv.below b10) (fun h => h)
                have nAS : ¬ hasB S A := fun e => by have := fin8.out.1.f.g.ltB e; omega
                have nAR : ¬ allR R A := fun e => by have := fin8.out.1.r.ltA e; omega
                have hL1 := hidP (listening1_any S (R.l.map RG.nm) A V9.heap.size V10 Z10.1.f.g (by have := Z10.1.a; rw [← Z10.1.p] at this; exact this.nms) (by rw [List.length_map]; have := hkp.out.1; omega) cB cA10 nAS (by have := hkp.out.2; omega))
                have hid10 := hidP (And.intro Z10 (And.intro nAS nAR))
                have hAw : Hid (w.heap.size ≤ A) := by rw [← hA]; exact fin8.out.1.f.b.size
                clear b9 b10 Z10 cB cA cA10 nAS nAR hid9 hli hV9 hV10 fin8 hs9
                go_wp2_with fail
                refine hL1.out.mono ?_
                rintro e3 W11 ⟨⟨r11, rfl⟩, ⟨va, a1, a2, a3, a4⟩, m11⟩
                have L11 : Lp w bt rb P S R W11 := hid10.out.1.1.one m11 hAw.out hid10.out.2.1 hid10.out.2.2
                obtain ⟨n2, hn2⟩ : ∃ n2, R.l.length = n2 := ⟨_, rfl⟩
                have hX : Hid (Lp w bt rb P S R W11 ∧ Cl A va W11 ∧ NS W11 va (R.l.map RG.nm) ∧ R.l.length = n2) := ⟨L11, a1, a2, hn2⟩
                have hn2b : n2 ≤ 121 := by have := hkp.out.1; omega
                have hc0 := L11.r.c0
                obtain ⟨lp, lc, hlv⟩ := L11.r.shape
                rw [L11.rb, hlv, hn2] at hc0
                have hlvH := hidP hlv
                clear hL1 hid10 a1 a2 a3 a4 m11 L11 hn2 hlv
                go_wp2_with fail
                go_loopg [22, 23] n2 (fun q v i wr => ∃ k : Nat, k + q = n2 ∧ i = .int .i64 (k : Nat) ∧ Hid (Below W11.heap.size W11 wr ∧ NS wr v ((R.l.map RG.nm).take k) ∧ ∀ x, nb v = some x → W11.heap.size ≤ x))
                case atStart => exact ⟨0, by omega, rfl, Below.refl _ _, .inl ⟨rfl, rfl⟩, fun x hx => by cases hx⟩
                case round =>
                  obtain ⟨k, hk, rfl, hJ⟩ := hrel
                  have LJ := hX.out.1.below hJ.out.1
                  have d0 := (Mv.below (E := fun _ => False) hJ.out.1).cell (a := ⟨rb, 0, none⟩) (fun h => h) hc0
                  obtain ⟨pv, cv, hsv⟩ := hJ.out.2.1.shape
                  obtain ⟨mv, hmv⟩ : ∃ mv, ((R.l.map RG.nm).take k).length = mv := ⟨_, rfl⟩
                  rw [hmv] at hsv
                  subst hsv
                  by_cases hlk : k < n2
                  · as_aux_lemma =>
                    have hlkI : (k : Int) < (n2 : Int) := by omega
                    have hk0 : (0 : Int) ≤ (k : Int) := by omega
                    obtain ⟨y, hy⟩ : ∃ y, R.l[k]? = some y := ⟨R.l[k]'(by have := hX.out.2.2.2; omega), List.getElem?_eq_getElem _⟩
                    obtain ⟨g, cap2, e1, e2, _⟩ := LJ.r.at hy
                    rw [hlvH.out] at e1
                    injection e1 with e1 _ _
                    subst e1
                    obtain ⟨yn, hyn⟩ : ∃ yn, y.nm = yn := ⟨_, rfl⟩
                    rw [hyn] at e2
                    obtain ⟨V, hV⟩ : ∃ V, wr.alloc (.cells #[.string yn] 9) = V := ⟨_, rfl⟩
                    have mV : Mv (fun _ => False) wr V := by rw [← hV]; exact Mv.alloc _ _ _
                    obtain ⟨v', w4, hrun, hns, mv4, hat⟩ := (hJ.out.2.1.mv mV (fun _ _ h => h)).append (a := ⟨wr.heap.size, 0, none⟩) (s := yn) (c := 1) (by rw [← hV]; exact cell_at rfl rfl) (by rw [hmv]; have := hmv; rw [List.length_take] at this; omega) 56
                    have J4 : Hid (Below W11.heap.size W11 w4 ∧ NS w4 v' ((R.l.map RG.nm).take (k + 1)) ∧ ∀ x, nb v' = some x → W11.heap.size ≤ x) := by
                      have e5 : (R.l.map RG.nm).take (k + 1) = (R.l.map RG.nm).take k ++ [yn] := by rw [List.take_add_one, List.getElem?_map, hy]; simp [hyn]
                      have hb4 : Below W11.heap.size wr w4 := ((mV.mono (fun _ _ h => h.elim)).trans' mv4).toBelow hJ.out.1.size (fun x hx e => by have := hJ.out.2.2 x e; omega)
                      refine ⟨hJ.out.1.trans hb4, by rw [e5]; exact hns, fun x hx => ?_⟩
                      rcases hat with q | ⟨k2, q, hk2⟩
                      · exact hJ.out.2.2 x (q ▸ hx)
                      · rw [hx] at q; injection q with q; subst q
                        exact Nat.le_trans hJ.out.1.size (Nat.le_trans mV.size hk2)
                    obtain ⟨p4, c4, hv4⟩ := hns.shape
                    obtain ⟨m4, hm4⟩ : ∃ m4, ((R.l.map RG.nm).take k ++ [yn]).length = m4 := ⟨_, rfl⟩
                    rw [hm4] at hv4
                    subst hv4
                    obtain ⟨q0, hq0⟩ : ∃ q0, gk = q0 + 1 := ⟨gk - 1, by omega⟩
                    clear hJ LJ hy hyn mV hns mv4 hat hm4 hmv
                    go_wp2_with (first | rw [hV] | (at_builtin; refine wpList_append_run rfl _ _ 56 rfl _ _ _ _ rfl rfl hrun ?_))
                    go_roundg q0
                    case measure => omega
                    case rel => exact ⟨k + 1, by omega, by go_num, J4⟩
                  · as_aux_lemma =>
                    have hlkI : ¬ (k : Int) < (n2 : Int) := by omega
                    have hta : (R.l.map RG.nm).take k = R.l.map RG.nm := List.take_of_length_le (by rw [List.length_map]; have := hX.out.2.2.2; omega)
                    have nsv := hJ.out.2.1
                    rw [hta] at nsv
                    have clA := hX.out.2.1.mv (E := fun _ => False) (Mv.below hJ.out.1) (fun h => h)
                    have dA := clA.c
                    have hT := hidP (texts_same va _ (R.l.map RG.nm) wr (hX.out.2.2.1.mv (E := fun _ => False) (Mv.below hJ.out.1) (fun _ _ h => h)) nsv (by rw [List.length_map]; have := hX.out.2.2.2; omega))
                    obtain ⟨pa, ca, hva⟩ := hX.out.2.2.1.shape
                    rw [List.length_map, hX.out.2.2.2] at hva
                    rw [hva] at dA hT
                    have LH := hidP LJ
                    clear hJ LJ clA nsv hta hva hmv
                    go_wp2_with fail
                    refine hT.out.mono ?_
                    rintro e4 W12 ⟨rfl, hb12⟩
                    have fin : Hid (Pw w bt rb (j + 1) W12) := ⟨P, S, R, LH.out.below hb12, hkp.out.1, hkp.out.2⟩
                    clear hT hb12 LH dA d0
                    go_wp2_with fail
                    go_roundg g0
                    case measure => have := hg0.out.1; have := hg0.out.2; omega
                    case rel => exact ⟨j + 1, by have := hg0.out.1; have := hg0.out.2; omega, by go_num, fin⟩
      · obtain rfl : j = len := by omega
        have fin := hidP (show Below w.heap.size w wr by obtain ⟨P, S, R, hL, _⟩ := hI.out; exact hL.f.b)
        clear hI
        go_wp2_with fail
        go_ret
        exact ⟨rfl, fin.out⟩
end Go.Proofs.Ytppbdamlhcmlcaa
