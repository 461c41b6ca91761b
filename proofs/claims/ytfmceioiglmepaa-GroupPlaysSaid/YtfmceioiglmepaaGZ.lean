/- GroupPlays: the walk. -/
import Derived.Test.YtfmceioiglmepaaGY
import Derived.Test.YtfmceioiglmepaaOpT
import Derived.Deep.DeepCutAuto
import Derived.Deep.RegionHeld3
import Derived.OpenShut
namespace Go.Proofs.Ytfmceioiglmepaa
open Go.RowKit Go.Shelf Go.Lib Go.Sort Go.ChangeShapes Go.WideShapes
def rt0 (b : Nat) : Rt := ⟨b, .slice none 0 0, .slice none 0 0, [], []⟩
theorem rs0 {w : World} : Rs (w.alloc (.cells #[.slice none 0 0, .slice none 0 0] 30)) (rt0 w.heap.size) :=
  ⟨cell_at rfl rfl, cell_at rfl rfl, froz_new rfl, froz_new rfl, World.ownsRow_nil _ _ _ _, fun x hx => (by cases hx), .inl ⟨rfl, rfl⟩, fun k hk => (by cases hk), fun k hk => (by cases hk)⟩
/-- Between two rounds. -/
def Pw (w : World) (bt rb C j : Nat) (W : World) : Prop := ∃ S R, Lg w bt rb C S.l S.ns (2 * j) S R W ∧ S.c ≤ 2 * j
def Px (w : World) (bt rb C D : Nat) (what pid : Int) (nm : ByteArray) (n : Nat) (W : World) : Prop := ∃ S R, Lx w bt rb C D what pid nm S.l S.ns n n S R W
theorem members_any (S : St) (s : ByteArray) (w : World) (h : Gs w S) (hs : s.size ≤ 1000) (hc : S.c ≤ 1000000) :
    Calls Try.prog 21 #[.pointer (some ⟨S.bt, 0, none⟩), .string s] w fun e w' => ∃ v, e = .returned v ∧ IR w' v (mOf S.l s) ∧ Below w.heap.size w w' := by
  cases ef : fnd S.l s with
  | none =>
    refine (members_none S s w h hs ef).mono ?_
    rintro e w' ⟨rfl, hb⟩
    refine ⟨_, rfl, ?_, hb⟩
    unfold mOf
    rw [ef]
    exact ⟨none, 0, rfl, .inl rfl⟩
  | some g =>
    refine (members_some S s g w h hs ef hc).mono ?_
    rintro e w' ⟨v, rfl, hv, _, hb⟩
    refine ⟨v, rfl, ?_, hb⟩
    unfold mOf
    rw [ef]
    exact hv
theorem Lx.cells {w W : World} {bt rb C D n m : Nat} {what pid : Int} {nm : ByteArray} {l : Gl} {ns : List ByteArray} {S : St} {R : Rt} (h : Lx w bt rb C D what pid nm l ns n m S R W) : W.cell? ⟨D, 1, none⟩ = some (.int .i64 pid) ∧ W.cell? ⟨D, 2, none⟩ = some (.string nm) ∧ W.cell? ⟨C, 0, none⟩ = some (.pointer (some ⟨rb, 0, none⟩)) := ⟨h.d.c1, h.d.c2, by rw [h.l.c, h.l.rb]⟩
set_option maxRecDepth 100000 in
set_option maxHeartbeats 16000000 in
theorem plays_walk (a : Option Addr) (len cap : Nat) (w : World) (hss : ∃ (p : Option Addr) (c : Nat) (l : List Stp), Value.slice a len cap = .slice p l.length c ∧ StepsAt w p l ∧ l.length ≤ 140737488355328) :
    Calls Try.prog 3 #[.slice a len cap] w fun e w' => e = .returned (.bool true) ∧ Below w.heap.size w w' := by
  obtain ⟨p, c, l, e, hat, hll⟩ := hss
  injection e with e1 e2 e3
  subst e1 e3
  obtain ⟨n, hn⟩ : ∃ n, l.length = n := ⟨_, rfl⟩
  rw [hn] at e2 hll
  subst e2
  have hK := hidP (known_any w)
  have hatH := hidP (And.intro hat hn)
  clear hat hn
  by_cases h8 : 120 < len
  · have h8I : (120 : Int) < (len : Int) := by omega
    go_enter Try.func3, Try.ntmps3
    go_wp2_with fail
    refine hK.out.mono ?_
    rintro e V ⟨rfl, hbV⟩
    go_wp2_with fail
    go_ret
    exact ⟨rfl, hbV⟩
  · have h8I : decide ((120 : Int) < (len : Int)) = false := by simp; omega
    have h8J : (len : Int) ≤ 120 := by omega
    go_enter Try.func3, Try.ntmps3
    go_wp2_with fail
    refine hK.out.mono ?_
    rintro e V ⟨rfl, hbV⟩
    have hN := hidP (new_any V)
    have hbH := hidP hbV
    clear hbV hK
    go_wp2_with fail
    refine hN.out.mono ?_
    rintro e W1 ⟨rfl, hg1, hb1⟩
    obtain ⟨W2, hW2⟩ : ∃ W2, W1.alloc (.cells #[.slice none 0 0, .slice none 0 0] 30) = W2 := ⟨_, rfl⟩
    have b2 : Below W1.heap.size W1 W2 := by rw [← hW2]; exact (Below.refl _ _).alloc (Nat.le_refl _) _
    have s2 : W2.heap.size = W1.heap.size + 1 := by rw [← hW2]; simp
    obtain ⟨bt, hbt⟩ : ∃ bt, V.heap.size + 3 = bt := ⟨_, rfl⟩
    obtain ⟨rb, hrb⟩ : ∃ rb, W1.heap.size = rb := ⟨_, rfl⟩
    obtain ⟨W3, hW3⟩ : ∃ W3, W2.alloc (.cells #[.pointer (some ⟨rb, 0, none⟩)] 26) = W3 := ⟨_, rfl⟩
    have b3 : Below W2.heap.size W2 W3 := by rw [← hW3]; exact (Below.refl _ _).alloc (Nat.le_refl _) _
    have L1 : Hid (Pw w bt rb (rb + 1) 0 W3) := by
      have F1 := (Fr.new hbH.out hg1 hb1)
      have hR : Rs W2 (rt0 rb) := by rw [← hrb, ← hW2]; exact rs0
      refine ⟨_, rt0 rb, ⟨(F1.below b2).below b3, hbt, rfl, hR.below b3, ⟨rfl, List.Pairwise.nil, rfl, fun x hx => (by cases hx), fun s hs => (by cases hs), hg1.wf⟩, fun k hk => ?_, ⟨by simp [rt0], fun x hx => (by cases hx), by simp [rt0]⟩, ?_, ?_, fun e => ?_, fun e => ?_⟩, by show 0 ≤ _; omega⟩
      · rcases hk with q | ⟨x, hx, q⟩
        · rcases q with q | q | q
          · have q' : k = rb := q
            rw [q', ← hrb]
            exact ⟨F1.b.size, fun e => by have := F1.g.lt e; omega⟩
          · cases q
          · cases q
        · cases hx
      · rw [← hW3]
        exact cell_at (by omega) rfl
      · have := F1.b.size; omega
      · have := F1.g.lt e; omega
      · rcases e with q | ⟨x, hx, q⟩
        · rcases q with q | q | q
          · have q' : rb + 1 = rb := q
            omega
          · cases q
          · cases q
        · cases hx
    rw [hbt]
    clear hN hg1 hb1 hbH hbt b2 b3
    obtain ⟨C, hC⟩ : ∃ C, rb + 1 = C := ⟨_, rfl⟩
    rw [hC] at L1
    have s2' : W2.heap.size = C := by omega
    go_wp2_with (first | rw [hW2] | rw [hrb] | rw [hW3])
    clear hW2 hrb hW3 s2 s2' hC
    go_loopg [5] len (fun k i wr => ∃ j : Nat, j + k = len ∧ i = .int .i64 (j : Nat) ∧ Hid (Pw w bt rb C j wr))
    case atStart => exact ⟨0, by omega, rfl, L1.out⟩
    case round =>
      clear L1
      obtain ⟨j, hj, rfl, hI⟩ := hrel
      by_cases hlt : j < len
      · have hltI : (j : Int) < (len : Int) := by omega
        obtain ⟨⟨what, pid, nm⟩, hx⟩ : ∃ x, l[j]? = some x := ⟨l[j]'(by have := hatH.out.2; omega), List.getElem?_eq_getElem _⟩
        obtain ⟨hok, sb, so, rfl, s0, s1, s2⟩ := hatH.out.1 j _ hx
        dsimp only at s0 s1 s2
        have hpid : Hid (-9223372036854775808 ≤ pid ∧ pid ≤ 9223372036854775807) := bounds_i64 hok.2.1
        have hbw : Below w.heap.size w wr := by obtain ⟨S, R, hL, _⟩ := hI.out; exact hL.f.b
        have m0 : Mv (fun _ => False) w wr := Mv.below hbw
        have k0 := m0.cell (a := ⟨sb, so + j * 3, none⟩) (fun h => h) s0
        have k1 := m0.cell (a := ⟨sb, so + j * 3 + 1, none⟩) (fun h => h) s1
        have k2 := m0.cell (a := ⟨sb, so + j * 3 + 2, none⟩) (fun h => h) s2
        obtain ⟨W3, hW3⟩ : ∃ W3, wr.alloc (.cells #[.int .i64 what, .int .i64 pid, .string nm] 32) = W3 := ⟨_, rfl⟩
        have b3 : Below wr.heap.size wr W3 := by rw [← hW3]; exact (Below.refl _ _).alloc (Nat.le_refl _) _
        have t0 : W3.cell? ⟨wr.heap.size, 0, none⟩ = some (.int .i64 what) := by rw [← hW3]; exact cell_at rfl rfl
        have t1 : W3.cell? ⟨wr.heap.size, 1, none⟩ = some (.int .i64 pid) := by rw [← hW3]; exact cell_at rfl rfl
        have t2 : W3.cell? ⟨wr.heap.size, 2, none⟩ = some (.string nm) := by rw [← hW3]; exact cell_at rfl rfl
        have fin3 : Hid (Below w.heap.size w W3) := hbw.trans (b3.mono hbw.size)
        clear hx hok s0 s1 s2 m0 hbw
        by_cases hn : 100 < nm.size
        · have hnI : (100 : Int) < (nm.size : Int) := by omega
          clear hI b3
          go_wp2_with (rw [hW3])
          go_ret
          exact ⟨rfl, fin3.out⟩
        · have hnI : ¬ (100 : Int) < (nm.size : Int) := by omega
          have hsz : Hid (nm.size ≤ 100 ∧ j < 120) := ⟨by omega, by omega⟩
          obtain ⟨D, hD⟩ : ∃ D, wr.heap.size = D := ⟨_, rfl⟩
          have I3 : Hid (∃ S R, Lx w bt rb C D what pid nm S.l S.ns (2 * j) (2 * j) S R W3) := by
            obtain ⟨S, R, hL, h1⟩ := hI.out
            exact ⟨S, R, ⟨hL.below b3, h1, ⟨by rw [← hD]; exact t0, by rw [← hD]; exact t1, by rw [← hD]; exact t2⟩, fun e => by have := hL.f.g.lt e; omega, fun e => by have := hL.r.ltA e; omega⟩⟩
          rw [hD] at t0 t1 t2
          clear hI b3 fin3
          go_upto_region 12 with (rw [hW3])
          go_cut [7, 8] (fun a b wx => a = .int .i64 0 ∧ b = .int .i64 0 ∧ wx = W3)
          case first =>
            go_wp2_with fail
            go_meet
            exact ⟨rfl, rfl, rfl⟩
          case rest =>
            obtain ⟨rfl, rfl, rfl⟩ := hcut
            clear hW3
            rename_i K1 aK1
            refine aK1 _ _ ?_
            clear aK1 K1
            go_step
            go_cut [7, 8] (fun a b wx => ∃ e : Int, a = .int .i64 e ∧ b = .int .i64 e ∧ Hid (Px w bt rb C D what pid nm (2 * (j + 1)) wx))
            case first =>
              obtain ⟨S, R, hX⟩ := I3.out
              have z := hsz.out
              have hp := hpid.out
              have tC : wc.cell? ⟨C, 0, none⟩ = some (.pointer (some ⟨rb, 0, none⟩)) := hX.cells.2.2
              clear I3
              by_cases hw0 : what = 0
              · as_aux_lemma =>
                subst hw0
                have hCc : Hid (∀ W, Below wc.heap.size wc W → Calls Try.prog 8 #[.pointer (some ⟨bt, 0, none⟩), .string nm] W fun e W' => e = .returned (.int .i64 (makeE S.l nm)) ∧ ∃ S', Lx w bt rb C D 0 pid nm S.l S.ns (2 * j) (2 * j + 2) S' R W' ∧ (∃ b, S'.l = (if makeE S.l nm = 0 then insG ⟨nm, b, []⟩ S.l else S.l) ∧ S'.ns = S.ns) ∧ (W'.cell? ⟨D, 2, none⟩ = some (.string nm) ∧ W'.cell? ⟨C, 0, none⟩ = some (.pointer (some ⟨rb, 0, none⟩)))) := fun W hb => by
                  have hXW := hX.below hb
                  have := make_any S nm W hXW.l.f.g (by omega) (by have := hXW.c; omega)
                  rw [hXW.l.bt] at this
                  refine this.mono ?_
                  rintro e W' ⟨he, S', b, g, hl, hns⟩; exact ⟨he, S', by have := hXW.code g; exact ⟨this.l, by have := this.c; omega, this.d, this.x⟩, ⟨b, hl, hns⟩, (hXW.code g).cells.2⟩
                have hRr : Hid (∀ W S', Lx w bt rb C D 0 pid nm S.l S.ns (2 * j) (2 * j + 2) S' R W → (∃ b, S'.l = (if makeE S.l nm = 0 then insG ⟨nm, b, []⟩ S.l else S.l) ∧ S'.ns = S.ns) → Calls Try.prog 9 #[.pointer (some ⟨rb, 0, none⟩), .string nm] W fun e W' => e = .returned (.int .i64 (makeE S.l nm)) ∧ Px w bt rb C D 0 pid nm (2 * (j + 1)) W' ∧ (W'.cell? ⟨D, 2, none⟩ = some (.string nm) ∧ W'.cell? ⟨C, 0, none⟩ = some (.pointer (some ⟨rb, 0, none⟩)))) := fun W S' hh hrel => by
                  have := rmake_ag S.l S.ns R nm (2 * j) W hh.l.r hh.l.a hh.l.b (by omega)
                  rw [hh.l.rb] at this
                  refine this.mono ?_
                  rintro e W' ⟨he, R', g, hb, hag⟩; obtain ⟨b, hl, hns⟩ := hrel; have hwf := hh.l.f.g.wf; rw [hl, hns] at hwf; have hx8 := hh.ref g hb (hag b hwf); refine ⟨he, ⟨S', R', ?_⟩, hx8.cells.2⟩; rw [← hl, ← hns] at hx8; exact ⟨⟨hx8.l.f, hx8.l.bt, hx8.l.rb, hx8.l.r, hx8.l.a, hx8.l.d, ⟨by have := hx8.l.b.l; omega, fun x hx => by have := hx8.l.b.p x hx; omega, by have := hx8.l.b.ns; omega⟩, hx8.l.c, hx8.l.cx⟩, by have := hx8.c; omega, hx8.d, hx8.x⟩
                clear hX
                go_wp2_with fail
                go_region_held3 (fun w' => w'.cell? ⟨D, 2, none⟩ = some (.string nm) ∧ w'.cell? ⟨C, 0, none⟩ = some (.pointer (some ⟨rb, 0, none⟩)))
                  (first
                    | assumption
                    | exact ⟨t2, tC⟩
                    | (simp only [World.cell?_drew]; first | assumption | exact ⟨t2, tC⟩))
                  (first
                    | (go_at_call 8; refine (hCc.out _ (Below.refl _ _).drew).mono ?_; rintro e W7 ⟨rfl, S7, X7, q7, K7⟩)
                    | (go_at_call 9; refine (hRr.out _ _ X7 q7).mono ?_; rintro e W8 ⟨rfl, X8, K8⟩))
                have fin : Hid (Px w bt rb C D 0 pid nm (2 * (j + 1)) W8) := X8
                clear hCc hRr X7 X8 K7 K8 q7
                go_wp2_with fail
                go_meet
                exact ⟨_, rfl, rfl, fin⟩
              by_cases hw1 : what = 1
              · as_aux_lemma =>
                subst hw1
                clear hw0
                have hCc : Hid (∀ W, Below wc.heap.size wc W → Calls Try.prog 8 #[.pointer (some ⟨bt, 0, none⟩), .string nm] W fun e W' => e = .returned (.int .i64 (makeE S.l nm)) ∧ ∃ S', Lx w bt rb C D 1 pid nm S.l S.ns (2 * j) (2 * j + 2) S' R W' ∧ (∃ b, S'.l = (if makeE S.l nm = 0 then insG ⟨nm, b, []⟩ S.l else S.l) ∧ S'.ns = S.ns) ∧ (W'.cell? ⟨D, 2, none⟩ = some (.string nm) ∧ W'.cell? ⟨C, 0, none⟩ = some (.pointer (some ⟨rb, 0, none⟩)))) := fun W hb => by
                  have hXW := hX.below hb
                  have := make_any S nm W hXW.l.f.g (by omega) (by have := hXW.c; omega)
                  rw [hXW.l.bt] at this
                  refine this.mono ?_
                  rintro e W' ⟨he, S', b, g, hl, hns⟩; exact ⟨he, S', by have := hXW.code g; exact ⟨this.l, by have := this.c; omega, this.d, this.x⟩, ⟨b, hl, hns⟩, (hXW.code g).cells.2⟩
                have hRr : Hid (∀ W S', Lx w bt rb C D 1 pid nm S.l S.ns (2 * j) (2 * j + 2) S' R W → (∃ b, S'.l = (if makeE S.l nm = 0 then insG ⟨nm, b, []⟩ S.l else S.l) ∧ S'.ns = S.ns) → Calls Try.prog 9 #[.pointer (some ⟨rb, 0, none⟩), .string nm] W fun e W' => e = .returned (.int .i64 (makeE S.l nm)) ∧ Px w bt rb C D 1 pid nm (2 * (j + 1)) W' ∧ (W'.cell? ⟨D, 2, none⟩ = some (.string nm) ∧ W'.cell? ⟨C, 0, none⟩ = some (.pointer (some ⟨rb, 0, none⟩)))) := fun W S' hh hrel => by
                  have := rmake_ag S.l S.ns R nm (2 * j) W hh.l.r hh.l.a hh.l.b (by omega)
                  rw [hh.l.rb] at this
                  refine this.mono ?_
                  rintro e W' ⟨he, R', g, hb, hag⟩; obtain ⟨b, hl, hns⟩ := hrel; have hwf := hh.l.f.g.wf; rw [hl, hns] at hwf; have hx8 := hh.ref g hb (hag b hwf); refine ⟨he, ⟨S', R', ?_⟩, hx8.cells.2⟩; rw [← hl, ← hns] at hx8; exact ⟨⟨hx8.l.f, hx8.l.bt, hx8.l.rb, hx8.l.r, hx8.l.a, hx8.l.d, ⟨by have := hx8.l.b.l; omega, fun x hx => by have := hx8.l.b.p x hx; omega, by have := hx8.l.b.ns; omega⟩, hx8.l.c, hx8.l.cx⟩, by have := hx8.c; omega, hx8.d, hx8.x⟩
                clear hX
                go_wp2_with fail
                go_region_held3 (fun w' => w'.cell? ⟨D, 2, none⟩ = some (.string nm) ∧ w'.cell? ⟨C, 0, none⟩ = some (.pointer (some ⟨rb, 0, none⟩)))
                  (first
                    | assumption
                    | exact ⟨t2, tC⟩
                    | (simp only [World.cell?_drew]; first | assumption | exact ⟨t2, tC⟩))
                  (first
                    | (go_at_call 8; refine (hCc.out _ (Below.refl _ _).drew).mono ?_; rintro e W7 ⟨rfl, S7, X7, q7, K7⟩)
                    | (go_at_call 9; refine (hRr.out _ _ X7 q7).mono ?_; rintro e W8 ⟨rfl, X8, K8⟩))
                have fin : Hid (Px w bt rb C D 1 pid nm (2 * (j + 1)) W8) := X8
                clear hCc hRr X7 X8 K7 K8 q7
                go_wp2_with fail
                go_meet
                exact ⟨_, rfl, rfl, fin⟩
              by_cases hw2 : what = 2
              · as_aux_lemma =>
                subst hw2
                clear hw0 hw1
                have hCc : Hid (∀ W, Below wc.heap.size wc W → Calls Try.prog 10 #[.pointer (some ⟨bt, 0, none⟩), .string nm] W fun e W' => e = .returned (.int .i64 (remE S.l nm)) ∧ ∃ S', Lx w bt rb C D 2 pid nm S.l S.ns (2 * j) (2 * j + 2) S' R W' ∧ (S'.l = remL S.l nm ∧ S'.ns = remM S.l S.ns nm) ∧ (W'.cell? ⟨D, 2, none⟩ = some (.string nm) ∧ W'.cell? ⟨C, 0, none⟩ = some (.pointer (some ⟨rb, 0, none⟩)))) := fun W hb => by
                  have hXW := hX.below hb
                  have := remove_any S nm W hXW.l.f.g (by omega) (by have := hXW.c; omega)
                  rw [hXW.l.bt] at this
                  refine this.mono ?_
                  rintro e W' ⟨he, S', g, hl, hns⟩; exact ⟨he, S', by have := hXW.code g; exact ⟨this.l, by have := this.c; omega, this.d, this.x⟩, ⟨hl, hns⟩, (hXW.code g).cells.2⟩
                have hRr : Hid (∀ W S', Lx w bt rb C D 2 pid nm S.l S.ns (2 * j) (2 * j + 2) S' R W → (S'.l = remL S.l nm ∧ S'.ns = remM S.l S.ns nm) → Calls Try.prog 11 #[.pointer (some ⟨rb, 0, none⟩), .string nm] W fun e W' => e = .returned (.int .i64 (remE S.l nm)) ∧ Px w bt rb C D 2 pid nm (2 * (j + 1)) W' ∧ (W'.cell? ⟨D, 2, none⟩ = some (.string nm) ∧ W'.cell? ⟨C, 0, none⟩ = some (.pointer (some ⟨rb, 0, none⟩)))) := fun W S' hh hrel => by
                  have := rremove_ag S.l S.ns R nm (2 * j) W hh.l.r hh.l.a hh.l.b (by omega)
                  rw [hh.l.rb] at this
                  refine this.mono ?_
                  rintro e W' ⟨he, R', g, hb, hag⟩; obtain ⟨hl, hns⟩ := hrel; have hwf := hh.l.f.g.wf; rw [hl, hns] at hwf; have hx8 := hh.ref g hb (hag hwf); refine ⟨he, ⟨S', R', ?_⟩, hx8.cells.2⟩; rw [← hl, ← hns] at hx8; exact ⟨⟨hx8.l.f, hx8.l.bt, hx8.l.rb, hx8.l.r, hx8.l.a, hx8.l.d, ⟨by have := hx8.l.b.l; omega, fun x hx => by have := hx8.l.b.p x hx; omega, by have := hx8.l.b.ns; omega⟩, hx8.l.c, hx8.l.cx⟩, by have := hx8.c; omega, hx8.d, hx8.x⟩
                clear hX
                go_wp2_with fail
                go_region_held3 (fun w' => w'.cell? ⟨D, 2, none⟩ = some (.string nm) ∧ w'.cell? ⟨C, 0, none⟩ = some (.pointer (some ⟨rb, 0, none⟩)))
                  (first
                    | assumption
                    | exact ⟨t2, tC⟩
                    | (simp only [World.cell?_drew]; first | assumption | exact ⟨t2, tC⟩))
                  (first
                    | (go_at_call 10; refine (hCc.out _ (Below.refl _ _).drew).mono ?_; rintro e W7 ⟨rfl, S7, X7, q7, K7⟩)
                    | (go_at_call 11; refine (hRr.out _ _ X7 q7).mono ?_; rintro e W8 ⟨rfl, X8, K8⟩))
                have fin : Hid (Px w bt rb C D 2 pid nm (2 * (j + 1)) W8) := X8
                clear hCc hRr X7 X8 K7 K8 q7
                go_wp2_with fail
                go_meet
                exact ⟨_, rfl, rfl, fin⟩
              by_cases hw3 : what = 3
              · as_aux_lemma =>
                subst hw3
                clear hw0 hw1 hw2
                have hCc : Hid (∀ W, Below wc.heap.size wc W → Calls Try.prog 12 #[.pointer (some ⟨bt, 0, none⟩), .int .i64 pid, .string nm] W fun e W' => e = .returned (.int .i64 (putE S.l pid nm)) ∧ ∃ S', Lx w bt rb C D 3 pid nm S.l S.ns (2 * j) (2 * j + 2) S' R W' ∧ (S'.l = putL S.l pid nm ∧ S'.ns = putN S.l S.ns pid nm) ∧ (W'.cell? ⟨D, 1, none⟩ = some (.int .i64 pid) ∧ W'.cell? ⟨D, 2, none⟩ = some (.string nm) ∧ W'.cell? ⟨C, 0, none⟩ = some (.pointer (some ⟨rb, 0, none⟩)))) := fun W hb => by
                  have hXW := hX.below hb
                  have := put_any S pid nm W hXW.l.f.g (by omega) hp.2 (by have := hXW.c; omega)
                  rw [hXW.l.bt] at this
                  refine this.mono ?_
                  rintro e W' ⟨he, S', g, hl, hns⟩; exact ⟨he, S', by have := hXW.code g; exact ⟨this.l, by have := this.c; omega, this.d, this.x⟩, ⟨hl, hns⟩, (hXW.code g).cells⟩
                have hRr : Hid (∀ W S', Lx w bt rb C D 3 pid nm S.l S.ns (2 * j) (2 * j + 2) S' R W → (S'.l = putL S.l pid nm ∧ S'.ns = putN S.l S.ns pid nm) → Calls Try.prog 13 #[.pointer (some ⟨rb, 0, none⟩), .int .i64 pid, .string nm] W fun e W' => e = .returned (.int .i64 (putE S.l pid nm)) ∧ Px w bt rb C D 3 pid nm (2 * (j + 1)) W' ∧ (W'.cell? ⟨D, 1, none⟩ = some (.int .i64 pid) ∧ W'.cell? ⟨D, 2, none⟩ = some (.string nm) ∧ W'.cell? ⟨C, 0, none⟩ = some (.pointer (some ⟨rb, 0, none⟩)))) := fun W S' hh hrel => by
                  have := rput_ag S.l S.ns R pid nm (2 * j) W hh.l.r hh.l.a hh.l.b (by omega)
                  rw [hh.l.rb] at this
                  refine this.mono ?_
                  rintro e W' ⟨he, R', g, hb, hag⟩; obtain ⟨hl, hns⟩ := hrel; have hwf := hh.l.f.g.wf; rw [hl, hns] at hwf; have hx8 := hh.ref g hb (hag (wf_note hh.l.a.wf pid) hwf); refine ⟨he, ⟨S', R', ?_⟩, hx8.cells⟩; rw [← hl, ← hns] at hx8; exact ⟨⟨hx8.l.f, hx8.l.bt, hx8.l.rb, hx8.l.r, hx8.l.a, hx8.l.d, ⟨by have := hx8.l.b.l; omega, fun x hx => by have := hx8.l.b.p x hx; omega, by have := hx8.l.b.ns; omega⟩, hx8.l.c, hx8.l.cx⟩, by have := hx8.c; omega, hx8.d, hx8.x⟩
                clear hX
                go_wp2_with fail
                go_region_held3 (fun w' => w'.cell? ⟨D, 1, none⟩ = some (.int .i64 pid) ∧ w'.cell? ⟨D, 2, none⟩ = some (.string nm) ∧ w'.cell? ⟨C, 0, none⟩ = some (.pointer (some ⟨rb, 0, none⟩)))
                  (first
                    | assumption
                    | exact ⟨t1, t2, tC⟩
                    | (simp only [World.cell?_drew]; first | assumption | exact ⟨t1, t2, tC⟩))
                  (first
                    | (go_at_call 12; refine (hCc.out _ (Below.refl _ _).drew).mono ?_; rintro e W7 ⟨rfl, S7, X7, q7, K7⟩)
                    | (go_at_call 13; refine (hRr.out _ _ X7 q7).mono ?_; rintro e W8 ⟨rfl, X8, K8⟩))
                have fin : Hid (Px w bt rb C D 3 pid nm (2 * (j + 1)) W8) := X8
                clear hCc hRr X7 X8 K7 K8 q7
                go_wp2_with fail
                go_meet
                exact ⟨_, rfl, rfl, fin⟩
              by_cases hw4 : what = 4
              · as_aux_lemma =>
                subst hw4
                clear hw0 hw1 hw2 hw3
                have hCc : Hid (∀ W, Below wc.heap.size wc W → Calls Try.prog 12 #[.pointer (some ⟨bt, 0, none⟩), .int .i64 pid, .string nm] W fun e W' => e = .returned (.int .i64 (putE S.l pid nm)) ∧ ∃ S', Lx w bt rb C D 4 pid nm S.l S.ns (2 * j) (2 * j + 2) S' R W' ∧ (S'.l = putL S.l pid nm ∧ S'.ns = putN S.l S.ns pid nm) ∧ (W'.cell? ⟨D, 1, none⟩ = some (.int .i64 pid) ∧ W'.cell? ⟨D, 2, none⟩ = some (.string nm) ∧ W'.cell? ⟨C, 0, none⟩ = some (.pointer (some ⟨rb, 0, none⟩)))) := fun W hb => by
                  have hXW := hX.below hb
                  have := put_any S pid nm W hXW.l.f.g (by omega) hp.2 (by have := hXW.c; omega)
                  rw [hXW.l.bt] at this
                  refine this.mono ?_
                  rintro e W' ⟨he, S', g, hl, hns⟩; exact ⟨he, S', by have := hXW.code g; exact ⟨this.l, by have := this.c; omega, this.d, this.x⟩, ⟨hl, hns⟩, (hXW.code g).cells⟩
                have hRr : Hid (∀ W S', Lx w bt rb C D 4 pid nm S.l S.ns (2 * j) (2 * j + 2) S' R W → (S'.l = putL S.l pid nm ∧ S'.ns = putN S.l S.ns pid nm) → Calls Try.prog 13 #[.pointer (some ⟨rb, 0, none⟩), .int .i64 pid, .string nm] W fun e W' => e = .returned (.int .i64 (putE S.l pid nm)) ∧ Px w bt rb C D 4 pid nm (2 * (j + 1)) W' ∧ (W'.cell? ⟨D, 1, none⟩ = some (.int .i64 pid) ∧ W'.cell? ⟨D, 2, none⟩ = some (.string nm) ∧ W'.cell? ⟨C, 0, none⟩ = some (.pointer (some ⟨rb, 0, none⟩)))) := fun W S' hh hrel => by
                  have := rput_ag S.l S.ns R pid nm (2 * j) W hh.l.r hh.l.a hh.l.b (by omega)
                  rw [hh.l.rb] at this
                  refine this.mono ?_
                  rintro e W' ⟨he, R', g, hb, hag⟩; obtain ⟨hl, hns⟩ := hrel; have hwf := hh.l.f.g.wf; rw [hl, hns] at hwf; have hx8 := hh.ref g hb (hag (wf_note hh.l.a.wf pid) hwf); refine ⟨he, ⟨S', R', ?_⟩, hx8.cells⟩; rw [← hl, ← hns] at hx8; exact ⟨⟨hx8.l.f, hx8.l.bt, hx8.l.rb, hx8.l.r, hx8.l.a, hx8.l.d, ⟨by have := hx8.l.b.l; omega, fun x hx => by have := hx8.l.b.p x hx; omega, by have := hx8.l.b.ns; omega⟩, hx8.l.c, hx8.l.cx⟩, by have := hx8.c; omega, hx8.d, hx8.x⟩
                clear hX
                go_wp2_with fail
                go_region_held3 (fun w' => w'.cell? ⟨D, 1, none⟩ = some (.int .i64 pid) ∧ w'.cell? ⟨D, 2, none⟩ = some (.string nm) ∧ w'.cell? ⟨C, 0, none⟩ = some (.pointer (some ⟨rb, 0, none⟩)))
                  (first
                    | assumption
                    | exact ⟨t1, t2, tC⟩
                    | (simp only [World.cell?_drew]; first | assumption | exact ⟨t1, t2, tC⟩))
                  (first
                    | (go_at_call 12; refine (hCc.out _ (Below.refl _ _).drew).mono ?_; rintro e W7 ⟨rfl, S7, X7, q7, K7⟩)
                    | (go_at_call 13; refine (hRr.out _ _ X7 q7).mono ?_; rintro e W8 ⟨rfl, X8, K8⟩))
                have fin : Hid (Px w bt rb C D 4 pid nm (2 * (j + 1)) W8) := X8
                clear hCc hRr X7 X8 K7 K8 q7
                go_wp2_with fail
                go_meet
                exact ⟨_, rfl, rfl, fin⟩
              by_cases hw5 : what = 5
              · as_aux_lemma =>
                subst hw5
                clear hw0 hw1 hw2 hw3 hw4
                have hCc : Hid (∀ W, Below wc.heap.size wc W → Calls Try.prog 12 #[.pointer (some ⟨bt, 0, none⟩), .int .i64 pid, .string nm] W fun e W' => e = .returned (.int .i64 (putE S.l pid nm)) ∧ ∃ S', Lx w bt rb C D 5 pid nm S.l S.ns (2 * j) (2 * j + 2) S' R W' ∧ (S'.l = putL S.l pid nm ∧ S'.ns = putN S.l S.ns pid nm) ∧ (W'.cell? ⟨D, 1, none⟩ = some (.int .i64 pid) ∧ W'.cell? ⟨D, 2, none⟩ = some (.string nm) ∧ W'.cell? ⟨C, 0, none⟩ = some (.pointer (some ⟨rb, 0, none⟩)))) := fun W hb => by
                  have hXW := hX.below hb
                  have := put_any S pid nm W hXW.l.f.g (by omega) hp.2 (by have := hXW.c; omega)
                  rw [hXW.l.bt] at this
                  refine this.mono ?_
                  rintro e W' ⟨he, S', g, hl, hns⟩; exact ⟨he, S', by have := hXW.code g; exact ⟨this.l, by have := this.c; omega, this.d, this.x⟩, ⟨hl, hns⟩, (hXW.code g).cells⟩
                have hRr : Hid (∀ W S', Lx w bt rb C D 5 pid nm S.l S.ns (2 * j) (2 * j + 2) S' R W → (S'.l = putL S.l pid nm ∧ S'.ns = putN S.l S.ns pid nm) → Calls Try.prog 13 #[.pointer (some ⟨rb, 0, none⟩), .int .i64 pid, .string nm] W fun e W' => e = .returned (.int .i64 (putE S.l pid nm)) ∧ Px w bt rb C D 5 pid nm (2 * (j + 1)) W' ∧ (W'.cell? ⟨D, 1, none⟩ = some (.int .i64 pid) ∧ W'.cell? ⟨D, 2, none⟩ = some (.string nm) ∧ W'.cell? ⟨C, 0, none⟩ = some (.pointer (some ⟨rb, 0, none⟩)))) := fun W S' hh hrel => by
                  have := rput_ag S.l S.ns R pid nm (2 * j) W hh.l.r hh.l.a hh.l.b (by omega)
                  rw [hh.l.rb] at this
                  refine this.mono ?_
                  rintro e W' ⟨he, R', g, hb, hag⟩; obtain ⟨hl, hns⟩ := hrel; have hwf := hh.l.f.g.wf; rw [hl, hns] at hwf; have hx8 := hh.ref g hb (hag (wf_note hh.l.a.wf pid) hwf); refine ⟨he, ⟨S', R', ?_⟩, hx8.cells⟩; rw [← hl, ← hns] at hx8; exact ⟨⟨hx8.l.f, hx8.l.bt, hx8.l.rb, hx8.l.r, hx8.l.a, hx8.l.d, ⟨by have := hx8.l.b.l; omega, fun x hx => by have := hx8.l.b.p x hx; omega, by have := hx8.l.b.ns; omega⟩, hx8.l.c, hx8.l.cx⟩, by have := hx8.c; omega, hx8.d, hx8.x⟩
                clear hX
                go_wp2_with fail
                go_region_held3 (fun w' => w'.cell? ⟨D, 1, none⟩ = some (.int .i64 pid) ∧ w'.cell? ⟨D, 2, none⟩ = some (.string nm) ∧ w'.cell? ⟨C, 0, none⟩ = some (.pointer (some ⟨rb, 0, none⟩)))
                  (first
                    | assumption
                    | exact ⟨t1, t2, tC⟩
                    | (simp only [World.cell?_drew]; first | assumption | exact ⟨t1, t2, tC⟩))
                  (first
                    | (go_at_call 12; refine (hCc.out _ (Below.refl _ _).drew).mono ?_; rintro e W7 ⟨rfl, S7, X7, q7, K7⟩)
                    | (go_at_call 13; refine (hRr.out _ _ X7 q7).mono ?_; rintro e W8 ⟨rfl, X8, K8⟩))
                have fin : Hid (Px w bt rb C D 5 pid nm (2 * (j + 1)) W8) := X8
                clear hCc hRr X7 X8 K7 K8 q7
                go_wp2_with fail
                go_meet
                exact ⟨_, rfl, rfl, fin⟩
              by_cases hw6 : what = 6
              · as_aux_lemma =>
                subst hw6
                clear hw0 hw1 hw2 hw3 hw4 hw5
                obtain ⟨gb, hgb⟩ : ∃ gb, (hm S.l pid).isSome = gb := ⟨_, rfl⟩
                have hCc : Hid (∀ W, Below wc.heap.size wc W → Calls Try.prog 14 #[.pointer (some ⟨bt, 0, none⟩), .int .i64 pid] W fun e W' => e = .returned (.bool gb) ∧ ∃ S', Lx w bt rb C D 6 pid nm S.l S.ns (2 * j) (2 * j + 2) S' R W' ∧ (S'.l = gonL S.l pid ∧ S'.ns = gonN S.l S.ns pid) ∧ (W'.cell? ⟨D, 1, none⟩ = some (.int .i64 pid) ∧ W'.cell? ⟨C, 0, none⟩ = some (.pointer (some ⟨rb, 0, none⟩)))) := fun W hb => by
                  have hXW := hX.below hb
                  have := gone_any S pid W hXW.l.f.g hp.1 hp.2 (by have := hXW.c; omega)
                  rw [hXW.l.bt] at this
                  refine this.mono ?_
                  rintro e W' ⟨he, S', g, hl, hns⟩; exact ⟨by rw [he, hgb], S', by have := hXW.code g; exact ⟨this.l, by have := this.c; omega, this.d, this.x⟩, ⟨hl, hns⟩, (hXW.code g).cells.1, (hXW.code g).cells.2.2⟩
                have hRr : Hid (∀ W S', Lx w bt rb C D 6 pid nm S.l S.ns (2 * j) (2 * j + 2) S' R W → (S'.l = gonL S.l pid ∧ S'.ns = gonN S.l S.ns pid) → Calls Try.prog 15 #[.pointer (some ⟨rb, 0, none⟩), .int .i64 pid] W fun e W' => e = .returned (.bool gb) ∧ Px w bt rb C D 6 pid nm (2 * (j + 1)) W' ∧ (W'.cell? ⟨D, 1, none⟩ = some (.int .i64 pid) ∧ W'.cell? ⟨C, 0, none⟩ = some (.pointer (some ⟨rb, 0, none⟩)))) := fun W S' hh hrel => by
                  have := rgone_ag S.l S.ns R pid (2 * j) W hh.l.r hh.l.a hh.l.b (by omega)
                  rw [hh.l.rb] at this
                  refine this.mono ?_
                  rintro e W' ⟨he, R', g, hb, hag⟩; obtain ⟨hl, hns⟩ := hrel; have hx8 := hh.ref g hb (hag (wf_note hh.l.a.wf pid)); refine ⟨by rw [he, hgb], ⟨S', R', ?_⟩, hx8.cells.1, hx8.cells.2.2⟩; rw [← hl, ← hns] at hx8; exact ⟨⟨hx8.l.f, hx8.l.bt, hx8.l.rb, hx8.l.r, hx8.l.a, hx8.l.d, ⟨by have := hx8.l.b.l; omega, fun x hx => by have := hx8.l.b.p x hx; omega, by have := hx8.l.b.ns; omega⟩, hx8.l.c, hx8.l.cx⟩, by have := hx8.c; omega, hx8.d, hx8.x⟩
                clear hX hgb
                go_wp2_with fail
                go_region_held3 (fun w' => w'.cell? ⟨D, 1, none⟩ = some (.int .i64 pid) ∧ w'.cell? ⟨C, 0, none⟩ = some (.pointer (some ⟨rb, 0, none⟩)))
                  (first
                    | assumption
                    | exact ⟨t1, tC⟩
                    | (simp only [World.cell?_drew]; first | assumption | exact ⟨t1, tC⟩))
                  (first
                    | (go_at_call 14; refine (hCc.out _ (Below.refl _ _).drew).mono ?_; rintro e W7 ⟨rfl, S7, X7, q7, K7⟩)
                    | (go_at_call 15; refine (hRr.out _ _ X7 q7).mono ?_; rintro e W8 ⟨rfl, X8, K8⟩))
                have fin : Hid (Px w bt rb C D 6 pid nm (2 * (j + 1)) W8) := X8
                clear hCc hRr X7 X8 K7 K8 q7
                go_wp2_with fail
                go_meet
                exact ⟨_, rfl, rfl, fin⟩
              as_aux_lemma =>
                obtain ⟨ev, hev⟩ : ∃ ev, empR S.l S.ns = ev := ⟨_, rfl⟩
                obtain ⟨es, hes⟩ : ∃ es, ifS ev.1 = es := ⟨_, rfl⟩
                obtain ⟨eb, heb⟩ : ∃ eb, ev.1.isSome = eb := ⟨_, rfl⟩
                have hzn : ∀ x ∈ S.ns, x.size ≤ 1000 := fun x hx => by
                  obtain ⟨g, hg, hn⟩ := (fnd_some_iff x).1 (hX.l.a.sub x hx)
                  rw [← hn]
                  exact hX.l.a.wf.sz g hg
                have hCc : Hid (Calls Try.prog 16 #[.pointer (some ⟨bt, 0, none⟩)] wc fun e W' => e = .returned (.tuple #[.string es, .bool eb]) ∧ ∃ S', Lx w bt rb C D what pid nm S.l S.ns (2 * j) (2 * j + 2) S' R W' ∧ (S'.l = S.l ∧ S'.ns = ev.2) ∧ W'.cell? ⟨C, 0, none⟩ = some (.pointer (some ⟨rb, 0, none⟩))) := by
                  have := emptied_any S wc hX.l.f.g hzn
                  rw [hX.l.bt, hev, hes, heb] at this
                  refine this.mono ?_
                  rintro e W' ⟨he, S', g, hl, hns⟩
                  exact ⟨he, S', by have := hX.code g; exact ⟨this.l, by have := this.c; omega, this.d, this.x⟩, ⟨hl, hns⟩, (hX.code g).cells.2.2⟩
                have hRr : Hid (∀ W S', Lx w bt rb C D what pid nm S.l S.ns (2 * j) (2 * j + 2) S' R W → (S'.l = S.l ∧ S'.ns = ev.2) → Calls Try.prog 17 #[.pointer (some ⟨rb, 0, none⟩)] W fun e W' => e = .returned (.tuple #[.string es, .bool eb]) ∧ Px w bt rb C D what pid nm (2 * (j + 1)) W') := fun W S' hh hrel => by
                  have := remptied_ag S.l S.ns R (2 * j) W hh.l.r hh.l.a hh.l.b (by omega)
                  rw [hh.l.rb, hev, hes, heb] at this
                  refine this.mono ?_
                  rintro e W' ⟨he, R', g, hb, hag⟩
                  obtain ⟨hl, hns⟩ := hrel
                  have hwf := hh.l.f.g.wf
                  rw [hl, hns] at hwf
                  have hx8 := hh.ref g hb (hag hwf)
                  refine ⟨he, ⟨S', R', ?_⟩⟩
                  rw [← hl, ← hns] at hx8
                  exact ⟨⟨hx8.l.f, hx8.l.bt, hx8.l.rb, hx8.l.r, hx8.l.a, hx8.l.d, ⟨by have := hx8.l.b.l; omega, fun x hx => by have := hx8.l.b.p x hx; omega, by have := hx8.l.b.ns; omega⟩, hx8.l.c, hx8.l.cx⟩, by have := hx8.c; omega, hx8.d, hx8.x⟩
                clear hX hev hes heb hzn
                go_wp2_with fail
                refine hCc.out.mono ?_
                rintro e W7 ⟨rfl, S7, X7, q7, K7⟩
                have hR7 := hidP (hRr.out W7 S7 X7 q7)
                clear hCc hRr X7 q7
                go_wp2_with fail
                refine hR7.out.mono ?_
                rintro e W8 ⟨rfl, X8⟩
                have fin : Hid (Px w bt rb C D what pid nm (2 * (j + 1)) W8) := X8
                clear hR7 X8 K7
                go_wp2_with fail
                go_meet
                exact ⟨_, rfl, rfl, fin⟩
            case rest =>
              obtain ⟨e0, rfl, rfl, I4⟩ := hcut
              clear t0 t1 t2 k0 k1 k2 I3
              obtain ⟨S, R, hX⟩ := I4.out
              obtain ⟨g0, hg0'⟩ : ∃ g0, gk = g0 + 1 := ⟨gk - 1, by omega⟩
              have hg0 := hidP (And.intro hg0' hj)
              clear hg0'
              have z := hsz.out
              have hp := hpid.out
              obtain ⟨so2, hso⟩ : ∃ x, ofN S.l pid = x := ⟨_, rfl⟩
              obtain ⟨sb2, hsb⟩ : ∃ x, (hm S.l pid).isSome = x := ⟨_, rfl⟩
              obtain ⟨xs, hxs⟩ : ∃ xs, mOf S.l nm = xs := ⟨_, rfl⟩
              have hxl : xs.length ≤ 1000000 := by
                rw [← hxs]
                unfold mOf
                cases ef : fnd S.l nm with
                | none => simp
                | some g => have := hX.l.f.g.pl g (fnd_mem ef); have := hX.c; simp; omega
              have hZ : ∀ W, Below wc.heap.size wc W → Lx w bt rb C D what pid nm S.l S.ns (2 * (j + 1)) (2 * (j + 1)) S R W := fun W hb => hX.below hb
              have hO1 : Hid (Calls Try.prog 18 #[.pointer (some ⟨bt, 0, none⟩), .int .i64 pid] wc fun e W' => e = .returned (.tuple #[.string so2, .bool sb2]) ∧ Below wc.heap.size wc W') := by
                have := of_any S pid wc hX.l.f.g hp.1 hp.2
                rw [hX.l.bt, hso, hsb] at this
                exact this
              have hO2 : Hid (∀ W, Below wc.heap.size wc W → Calls Try.prog 19 #[.pointer (some ⟨rb, 0, none⟩), .int .i64 pid] W fun e W' => e = .returned (.tuple #[.string so2, .bool sb2]) ∧ W' = W) := fun W hb => by
                have hx := hZ W hb
                have := rof_any R pid W hx.l.r (by have := hx.l.b.l; omega) (fun x hxx => by have := hx.l.b.p x hxx; omega)
                obtain ⟨h1, h2, _⟩ := hx.l.a.rel.home pid
                rw [hx.l.rb, ← h2, ← h1, hsb, show ((hm S.l pid).map G.name).getD noName = so2 from hso] at this
                exact this
              have hM1 : Hid (∀ W, Below wc.heap.size wc W → Calls Try.prog 21 #[.pointer (some ⟨bt, 0, none⟩), .string nm] W fun e W' => ∃ v, e = .returned v ∧ IR W' v xs ∧ Below wc.heap.size wc W' ∧ (W'.cell? ⟨D, 2, none⟩ = some (.string nm) ∧ W'.cell? ⟨C, 0, none⟩ = some (.pointer (some ⟨rb, 0, none⟩)))) := fun W hb => by
                have hx := hZ W hb
                have := members_any S nm W hx.l.f.g (by omega) (by have := hx.c; omega)
                rw [hx.l.bt, hxs] at this
                refine this.mono ?_
                rintro e W' ⟨v, he, hv, hb2⟩
                have hb3 : Below wc.heap.size wc W' := hb.trans (hb2.mono hb.size)
                exact ⟨v, he, hv, hb3, (hZ W' hb3).cells.2⟩
              have hM2 : Hid (∀ W v, Below wc.heap.size wc W → IR W v xs → Calls Try.prog 22 #[.pointer (some ⟨rb, 0, none⟩), .string nm] W fun e W' => ∃ u, e = .returned u ∧ IR W' u xs ∧ IR W' v xs ∧ Below wc.heap.size wc W' ∧ (W'.cell? ⟨D, 2, none⟩ = some (.string nm) ∧ W'.cell? ⟨C, 0, none⟩ = some (.pointer (some ⟨rb, 0, none⟩)))) := fun W v hb hv => by
                have hx := hZ W hb
                have := rmembers_any R nm W hx.l.r (by have := hx.l.b.l; omega) (fun x hxx => by have := hx.l.b.p x hxx; omega)
                rw [hx.l.rb, (hx.l.a.rel.there hx.l.a.srt nm).2, hxs] at this
                refine this.mono ?_
                rintro e W' ⟨u, he, hu, hb2⟩
                have hb3 : Below wc.heap.size wc W' := hb.trans (hb2.mono hb.size)
                exact ⟨u, he, hu, hv.below hb2, hb3, (hZ W' hb3).cells.2⟩
              have hIn : Hid (∀ W v u, Below wc.heap.size wc W → IR W v xs → IR W u xs → Calls Try.prog 20 #[v, u] W fun e W' => e = .returned (.bool true) ∧ Below wc.heap.size wc W' ∧ (W'.cell? ⟨D, 2, none⟩ = some (.string nm) ∧ W'.cell? ⟨C, 0, none⟩ = some (.pointer (some ⟨rb, 0, none⟩)))) := fun W v u hb hv hu =>
                (ints_same v u xs W hv hu hxl).mono (fun e W' ⟨he, hb2⟩ => ⟨he, hb.trans (hb2.mono hb.size), (hZ W' (hb.trans (hb2.mono hb.size))).cells.2⟩)
              have hZH := hidP hZ
              have t1 := hX.cells.1
              have t2 := hX.cells.2.1
              have tC := hX.cells.2.2
              have hCl : Hid (∀ W, Below wc.heap.size wc W → W.cell? ⟨D, 1, none⟩ = some (.int .i64 pid) ∧ W.cell? ⟨D, 2, none⟩ = some (.string nm) ∧ W.cell? ⟨C, 0, none⟩ = some (.pointer (some ⟨rb, 0, none⟩))) := fun W hb => (hZ W hb).cells
              clear hX I4 hxl hxs hso hsb hZ
              rename_i K1 aK1
              refine aK1 _ _ ?_
              clear aK1 K1
              go_wp2_with fail
              refine hO1.out.mono ?_
              rintro e W5 ⟨rfl, hb5⟩
              obtain ⟨c1, c2, cC⟩ := hCl.out W5 hb5
              have hO5 := hidP (hO2.out W5 hb5)
              have hb5H := hidP hb5
              clear hO1 hO2 hb5 t1 t2 tC
              go_wp2_with fail
              refine hO5.out.mono ?_
              rintro e W5' ⟨rfl, rfl⟩
              clear hO5
              go_upto_region 32 with fail
              have hcell : W5'.cell? ⟨D, 2, none⟩ = some (.string nm) ∧ W5'.cell? ⟨C, 0, none⟩ = some (.pointer (some ⟨rb, 0, none⟩)) := ⟨c2, cC⟩
              go_region_held3 (fun w' => w'.cell? ⟨D, 2, none⟩ = some (.string nm) ∧ w'.cell? ⟨C, 0, none⟩ = some (.pointer (some ⟨rb, 0, none⟩)))
                (first
                  | assumption
                  | (simp only [World.cell?_drew]; assumption))
                (first
                  | (go_at_call 21; refine (hM1.out _ hb5H.out.drew).mono ?_; rintro e W6 ⟨v6, rfl, Q6, B6, K6⟩)
                  | (go_at_call 22; refine (hM2.out _ _ B6 Q6).mono ?_; rintro e W7 ⟨v7, rfl, Q7, Q6', B7, K7⟩)
                  | (go_at_call 20; refine (hIn.out _ _ _ B7 Q6' Q7).mono ?_; rintro e W8 ⟨rfl, B8, K8⟩))
              have X8 := hidP (hZH.out W8 B8)
              have cC8 := K8.2
              clear hM1 hM2 hIn Q6 Q7 Q6' B6 B7 B8 K6 K7 K8 hcell c1 c2 cC hb5H hCl hZH
              as_aux_lemma =>
                obtain ⟨V9, hV9⟩ : ∃ V9, (W8.alloc (.cells #[.int .i64 0] 3)).alloc (.cells #[.bool true] 4) = V9 := ⟨_, rfl⟩
                have b9 : Below W8.heap.size W8 V9 := by rw [← hV9]; exact ((Below.refl _ _).alloc (Nat.le_refl _) _).alloc (by simp) _
                obtain ⟨A, hA⟩ : ∃ A, W8.heap.size = A := ⟨_, rfl⟩
                have cA : Cl A (.int .i64 0) V9 := by
                  rw [← hV9, ← hA]
                  exact ⟨(World.cell?_alloc_lt _ _ _ (by simp)).trans (cell_at rfl rfl), by rw [World.frozen?_of_block (Below.heap_alloc _ _ _ (by simp))]; exact froz_new rfl⟩
                have cB : Cl (A + 1) (.bool true) V9 := by rw [← hV9, ← hA]; exact ⟨cell_at (by simp) rfl, froz_new (by simp)⟩
                have hs9 : V9.heap.size = A + 2 := by rw [← hV9, ← hA]; simp
                have hli := hidP (all_any bt V9)
                have hid9 := hidP (And.intro b9 (And.intro cA (And.intro cB (And.intro hs9 hA))))
                clear b9 cA cB hs9 cC8
                go_wp2_with (rw [hV9])
                refine hli.out.mono ?_
                rintro e2 V10 ⟨rfl, hV10⟩
                obtain ⟨b9, cA, cB, hs9, hA'⟩ := hid9.out
                have b10 : Below V9.heap.size V9 V10 := by rw [hV10]; exact (Below.refl _ _).alloc (Nat.le_refl _) _
                have X10 := (X8.out.below b9).below b10
                have ct : V10.cell? ⟨V9.heap.size, 0, none⟩ = some (.pointer (some ⟨S.bt, 0, none⟩)) := by rw [hV10, X10.l.bt]; exact cell_at rfl rfl
                have m10 : Mv (fun _ => False) V9 V10 := Mv.below b10
                have dS : ∀ k, hasB S k → k ≠ A ∧ k ≠ A + 1 := fun k hk => by have := X8.out.l.f.g.lt hk; omega
                have dR : ∀ k, allR R k → k ≠ A ∧ k ≠ A + 1 := fun k hk => by have := X8.out.l.r.ltA hk; omega
                have dC : C ≠ A ∧ C ≠ A + 1 := by have := cell_lt X8.out.l.c; simp only at this; omega
                have hall := all1_any S R A (A + 1) C V9.heap.size V10 X10.l.f.g X10.l.r X10.l.a.rel X10.l.a.srt (by have := X10.c; have := hsz.out; omega) (by have := X10.l.b.l; have := hsz.out; omega) ct (cA.mv m10 (fun h => h)) (cB.mv m10 (fun h => h)) X10.l.c (by omega) dS (fun k hk => dR k (.inl hk)) (fun x hx k hk => dR k (.inr ⟨x, hx, hk⟩)) dC
                have hallH := hidP hall
                have hid10 := hidP (And.intro X10 (And.intro dS (And.intro dR dC)))
                have hAw : Hid (w.heap.size ≤ A) := by rw [← hA']; exact X8.out.l.f.b.size
                clear b9 b10 X10 ct cA cB m10 dS dR dC hid9 hli hV9 hV10 X8 hall hs9 hA'
                go_wp2_with fail
                refine hallH.out.mono ?_
                rintro e3 W11 ⟨⟨r11, rfl⟩, a1, a2, m11⟩
                have L11 : Lg w bt rb C S.l S.ns (2 * (j + 1)) S R W11 := hid10.out.1.l.two m11 ⟨hAw.out, by have := hAw.out; omega⟩ hid10.out.2.1 hid10.out.2.2.1 hid10.out.2.2.2
                obtain ⟨n2, hn2⟩ : ∃ n2, R.l.length = n2 := ⟨_, rfl⟩
                have x1 := a1.c
                have x2 := a2.c
                rw [hn2] at x1
                have x3 : W11.cell? ⟨C, 0, none⟩ = some (.pointer (some ⟨rb, 0, none⟩)) := by rw [L11.c, L11.rb]
                obtain ⟨lp, lc, hlv⟩ := L11.r.shape
                have x4 : W11.cell? ⟨rb, 0, none⟩ = some (.slice lp n2 lc) := by have := L11.r.c0; rw [L11.rb, hlv, hn2] at this; exact this
                have LH : Hid (∀ W, Below W11.heap.size W11 W → Pw w bt rb C (j + 1) W) := fun W hb => ⟨S, R, L11.below hb, hid10.out.1.c⟩
                clear hallH hid10 a1 a2 m11 L11 hn2 hlv
                go_wp2_with fail
                go_quiet (fail)
                obtain ⟨W12, hW12⟩ : ∃ W12, W11.drewN nq = W12 := ⟨_, rfl⟩
                rw [hW12]
                have fin : Hid (Pw w bt rb C (j + 1) W12) := LH.out W12 (by rw [← hW12]; exact below_drewN (Below.refl _ _) _)
                clear LH hW12 x1 x2 x3 x4
                go_wp2_with fail
                go_roundg g0
                case measure => have := hg0.out.1; have := hg0.out.2; omega
                case rel => exact ⟨j + 1, by have := hg0.out.1; have := hg0.out.2; omega, by go_num, fin⟩
      · have hge : ¬ (j : Int) < (len : Int) := by omega
        have fin : Hid (Below w.heap.size w wr) := by obtain ⟨S, R, hL, _⟩ := hI.out; exact hL.f.b
        clear hI
        go_wp2_with fail
        go_ret
        exact ⟨rfl, fin.out⟩
end Go.Proofs.Ytfmceioiglmepaa
