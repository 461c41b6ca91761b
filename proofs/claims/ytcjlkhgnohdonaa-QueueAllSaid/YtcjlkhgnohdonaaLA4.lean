/- QueueAll. -/
import Derived.Test.YtcjlkhgnohdonaaLA2
import Derived.Deep.LoopGhost
import Derived.OpenShut
namespace Go.Proofs.Ytcjlkhgnohdonaa
open Go.RowKit Go.Shelf Go.Lib
attribute [local go_sem] Oper.semAt_some
theorem i64wA (n : Int) (h0 : -9223372036854775808 ≤ n) (h1 : n < 9223372036854775808) : IntKind.i64.wrap n = n := by rw [IntKind.wrap_i64]; omega
/-- While it is filled. -/
def S1 (w W : World) (lb : Nat) (p0 : Option Addr) (n c0 q : Nat) (j : Nat) : Prop := ∃ L : List Int, L.length = j ∧ Qk w (fun k => k = lb) W q L j ∧ W.cell? ⟨lb, 0, none⟩ = some (.slice p0 n c0)
/-- What is kept behind the first going through. -/
def Pk (lb fb okb : Nat) (pf : Option Addr) (k : Nat) : Prop := k = lb ∨ k = fb ∨ k = okb ∨ pf = some ⟨k, 0, none⟩
structure S2 (w W : World) (lb fb okb : Nat) (p0 pf : Option Addr) (n c0 cf q : Nat) (L : List Int) : Prop where
  len : L.length = n
  q : Qk w (Pk lb fb okb pf) W q L n
  cl : W.cell? ⟨lb, 0, none⟩ = some (.slice p0 n c0)
  cf : W.cell? ⟨fb, 0, none⟩ = some (.slice pf n cf)
  row : ∀ i x, L[i]? = some x → ∃ g, pf = some ⟨g, 0, none⟩ ∧ W.cell? ⟨g, i, none⟩ = some (.int .i64 x) ∧ g ≠ okb
  ok : Cl okb (.bool true) W
  d1 : lb ≠ okb
  d2 : fb ≠ okb
  lo : w.heap.size ≤ okb
theorem S2.keep {w W V : World} {lb fb okb : Nat} {p0 pf : Option Addr} {n c0 cf q : Nat} {L : List Int} {F : Nat → Prop} (h : S2 w W lb fb okb p0 pf n c0 cf q L) (m : Mv F W V) (hF : ∀ k, F k → k = okb ∨ W.heap.size ≤ k) (ok' : Cl okb (.bool true) V) : S2 w V lb fb okb p0 pf n c0 cf q L := by
  have nF : ∀ k, k ≠ okb → k < W.heap.size → ¬ F k := fun k h1 h2 f => (hF k f).elim h1 (fun s => by omega)
  refine ⟨h.len, h.q.more m (fun k f => ?_) (fun k hk => .inl hk), m.cell (a := ⟨lb, 0, none⟩) (nF _ h.d1 (cell_lt h.cl)) h.cl, m.cell (a := ⟨fb, 0, none⟩) (nF _ h.d2 (cell_lt h.cf)) h.cf, fun i x hx => ?_, ok', h.d1, h.d2, h.lo⟩
  · rcases hF k f with e | e
    · exact .inl ⟨.inr (.inr (.inl e)), by rw [e]; exact h.lo⟩
    · exact .inr e
  · obtain ⟨g, e, c, n1⟩ := h.row i x hx
    exact ⟨g, e, m.cell (a := ⟨g, i, none⟩) (nF _ n1 (cell_lt c)) c, n1⟩
/-- While what is in it is popped. -/
structure S3 (w W : World) (lb fb okb : Nat) (pf : Option Addr) (n cf q : Nat) (L : List Int) (i : Nat) : Prop where
  q : Qk w (Pk lb fb okb pf) W q (L.drop i) n
  cf : W.cell? ⟨fb, 0, none⟩ = some (.slice pf n cf)
  row : ∀ i x, L[i]? = some x → ∃ g, pf = some ⟨g, 0, none⟩ ∧ W.cell? ⟨g, i, none⟩ = some (.int .i64 x) ∧ g ≠ okb
  ok : Cl okb (.bool true) W
theorem S3.keep {w W V : World} {lb fb okb : Nat} {pf : Option Addr} {n cf q : Nat} {L : List Int} {i i' : Nat} (h : S3 w W lb fb okb pf n cf q L i) (m : Mv (fun k => ¬ Pk lb fb okb pf k) W V) (hq : Qk w (Pk lb fb okb pf) V q (L.drop i') n) : S3 w V lb fb okb pf n cf q L i' :=
  ⟨hq, m.cell (a := ⟨fb, 0, none⟩) (fun f => f (.inr (.inl rfl))) h.cf, fun i x hx => by
    obtain ⟨g, e, c, n1⟩ := h.row i x hx
    exact ⟨g, e, m.cell (a := ⟨g, i, none⟩) (fun f => f (.inr (.inr (.inr e)))) c, n1⟩, h.ok.mv m (fun f => f (.inr (.inr (.inl rfl))))⟩
theorem S3.ok2 {w W V : World} {lb fb okb : Nat} {pf : Option Addr} {n cf q : Nat} {L : List Int} {i : Nat} (h : S3 w W lb fb okb pf n cf q L i) (lo : w.heap.size ≤ okb) (d2 : fb ≠ okb) (hV : W.setCell ⟨okb, 0, none⟩ (.bool true) = V) : S3 w V lb fb okb pf n cf q L i := by
  have m : Mv (fun k => k = okb) W V := by rw [← hV]; exact Mv.set1 (E := fun k => k = okb) rfl _
  exact ⟨h.q.more m (fun k f => .inl ⟨.inr (.inr (.inl f)), by have f' : k = okb := f; omega⟩) (fun k hk => .inl hk), m.cell (a := ⟨fb, 0, none⟩) d2 h.cf, fun i x hx => by
    obtain ⟨g, e, c, n1⟩ := h.row i x hx
    exact ⟨g, e, m.cell (a := ⟨g, i, none⟩) n1 c, n1⟩, by rw [← hV]; exact h.ok.set _⟩
set_option maxRecDepth 100000 in
set_option maxHeartbeats 8000000 in
theorem alls_walk (p0 : Option Addr) (c0 : Nat) (l : List Int) (p1 : Option Addr) (c1 : Nat) (st : List Int) (w : World) (hl : RowI .i16 w p0 l) (hb : ∀ z ∈ l, -32768 ≤ z ∧ z ≤ 32767) (hll : l.length ≤ 140737488355328) (hs : RowI .u8 w p1 st) (hsb : ∀ z ∈ st, 0 ≤ z ∧ z ≤ 255) (hsl : st.length ≤ 140737488355328) :
    Calls Try.prog 5 #[.slice p0 l.length c0, .slice p1 st.length c1] w fun e V => e = .returned (.bool true) ∧ Below w.heap.size w V := by
  obtain ⟨n, hn⟩ : ∃ n, l.length = n := ⟨_, rfl⟩
  obtain ⟨m, hm⟩ : ∃ m, st.length = m := ⟨_, rfl⟩
  rw [hn] at hll ⊢
  rw [hm] at hsl ⊢
  obtain ⟨W0, hW0⟩ : ∃ W0, w.alloc (.cells #[.slice p0 n c0] 33) = W0 := ⟨_, rfl⟩
  have b0 : Below w.heap.size w W0 := by rw [← hW0]; exact (Below.refl _ _).alloc (Nat.le_refl _) _
  obtain ⟨lb, hlb⟩ : ∃ lb, w.heap.size = lb := ⟨_, rfl⟩
  have k0 : W0.cell? ⟨lb, 0, none⟩ = some (.slice p0 n c0) := by rw [← hW0]; exact cell_at hlb rfl
  have s0 : W0.heap.size = lb + 1 := by rw [← hW0]; simp [hlb]
  have hK := hidP (known_any W0)
  have hNH := hidP hn
  have hMH := hidP hm
  have hlH := hidP hl
  have hbH := hidP hb
  have hsH := hidP hs
  have hsbH := hidP hsb
  have b0H := hidP b0
  have s0H := hidP s0
  have hlbH := hidP hlb
  clear hn hm hl hb hs hsb b0 s0
  by_cases h80 : n ≤ 80 ∧ m ≤ 20
  · obtain ⟨h80, h20⟩ := h80
    have e1 : ¬ (80 : Int) < (n : Int) := by omega
    have e2 : decide ((80 : Int) < (n : Int)) = false := decide_eq_false e1
    have e3 : ¬ (20 : Int) < (m : Int) := by omega
    have e4 : decide ((20 : Int) < (m : Int)) = false := decide_eq_false e3
    have hnI : (n : Int) ≤ 80 := by omega
    have hmI : (m : Int) ≤ 20 := by omega
    go_enter Try.func5, Try.ntmps5
    go_wp2_with (rw [hW0])
    refine hK.out.mono ?_
    rintro e w1 ⟨rfl, bw1⟩
    have k1 : w1.cell? ⟨lb, 0, none⟩ = some (.slice p0 n c0) := bcell bw1 (by have := s0H.out; omega) k0
    have bw1H := hidP (b0H.out.trans (bw1.mono b0H.out.size))
    have s1H : Hid (lb + 1 ≤ w1.heap.size) := by show _ ≤ _; have := bw1.size; have := s0H.out; omega
    have hA := hidP (Qi.new_any (nb := 18) (key := fun x => x) w1)
    unfold Qi.fnV at hA
    clear bw1 hK k0
    go_wp2_with fail
    refine hA.out.mono ?_
    rintro e w2 ⟨rfl, ua, ba⟩
    obtain ⟨q, hq⟩ : ∃ q, w1.heap.size = q := ⟨_, rfl⟩
    have hS1 : Hid (S1 w w2 lb p0 n c0 q 0) := by
      have z1 := s1H.out
      have z2 := hlbH.out
      rw [hq] at ua
      refine ⟨[], rfl, ⟨_, _, ua, fun k hk => ?_, fun k hk => ?_, bw1H.out.trans (ba.mono bw1H.out.size)⟩, bcell ba (by omega) k1⟩
      · rcases hk with e | e
        · have e' : k = q := e
          exact ⟨by omega, by omega⟩
        · exact False.elim e
      · have := ba.size; omega
    unfold Qi.qp at *
    rw [hq]
    clear ua ba hA bw1H k1
    go_wp2_with fail
    go_loopw [6] (fun i wr => ∃ (j : Nat), j ≤ n ∧ i = .int .i64 j ∧ Hid (S1 w wr lb p0 n c0 q j)) (fun i _ => n - (intOf i).toNat)
    case atStart => exact ⟨0, by omega, rfl, hS1⟩
    case round =>
      obtain ⟨j, hj, rfl, hst⟩ := hrel
      obtain ⟨L, hL, hQ, cl⟩ := hst.out
      by_cases hlt : j < n
      · obtain ⟨x, hx⟩ : ∃ x, l[j]? = some x := ⟨_, List.getElem?_eq_getElem (by rw [hNH.out]; exact hlt)⟩
        obtain ⟨_, _, _, _, _, bw⟩ := id hQ
        obtain ⟨g, o, rfl, cx⟩ := (hlH.out.below bw) j x hx
        have hxb := hbH.out x (List.mem_of_getElem? hx)
        have wx : IntKind.i64.wrap x = x := i64wA x (by omega) (by omega)
        have hP := hidP (Qk.go (f := 15) (args := #[Qi.qp q, Qi.ev x]) (R := fun e => e = .returned (.tuple #[])) hQ (fun E B h => Qi.push_any bf_all h (by omega) x))
        have hjI : (j : Int) < (n : Int) := by omega
        have clH := hidP cl
        have hLH := hidP hL
        unfold Qi.qp Qi.ev at hP
        clear hQ hst hx bw hL
        go_wp2_with fail
        refine hP.out.mono ?_
        rintro e W2 ⟨rfl, hQ2, m2⟩
        have nxt : Hid (S1 w W2 lb (some ⟨g, o, none⟩) n c0 q (j + 1)) := ⟨_, by rw [insA_len, hLH.out], hQ2, m2.cell (a := ⟨lb, 0, none⟩) (fun f => f rfl) clH.out⟩
        clear hQ2 m2 hP cx cl
        go_wp2_with fail
        exact ⟨⟨j + 1, by omega, by go_num, nxt⟩, by simp [intOf]; omega⟩
      · obtain rfl : j = n := by omega
        have hjI : ¬ (j : Int) < (j : Int) := by omega
        obtain ⟨A, hA⟩ : ∃ A, wr.alloc (.cells #[.slice none 0 0] 44) = A := ⟨_, rfl⟩
        obtain ⟨fb, hfb⟩ : ∃ fb, wr.heap.size = fb := ⟨_, rfl⟩
        have bA : Below wr.heap.size wr A := by rw [← hA]; exact (Below.refl _ _).alloc (Nat.le_refl _) _
        have hF := hidP (Qi.allf_any q A)
        obtain ⟨A2, hA2⟩ : ∃ A2, A.alloc (.cells #[Qi.qp q] 35) = A2 := ⟨_, rfl⟩
        rw [hA2] at hF
        obtain ⟨bl, hbl⟩ : ∃ bl, A.heap.size = bl := ⟨_, rfl⟩
        have bA2 : Below A.heap.size A A2 := by rw [← hA2]; exact (Below.refl _ _).alloc (Nat.le_refl _) _
        have sA : A.heap.size = fb + 1 := by rw [← hA]; simp [hfb]
        have sA2 : A2.heap.size = fb + 2 := by rw [← hA2]; simp [sA]
        have llb : lb < fb := by rw [← hfb]; exact cell_lt cl
        have clA : A2.cell? ⟨lb, 0, none⟩ = some (.slice p0 j c0) := bcell bA2 (by omega) (bcell bA (by omega) cl)
        have fbA : Cl fb (.slice none 0 0) A2 := by
          have : Cl fb (.slice none 0 0) A := ⟨by rw [← hA]; exact cell_at hfb rfl, by rw [← hA]; exact froz_new hfb⟩
          exact this.mv (E := fun _ => False) (Mv.below bA2) (fun h => h)
        have hQA : Qk w (fun k => k = lb ∨ k = fb) A2 q L j := hQ.more (F := fun _ => False) ((Mv.below bA).trans' (Mv.below bA2)) (fun _ f => f.elim) (fun k hk => hk.imp id (fun e => by omega))
        have hwl := hlbH.out
        have hall := Qk.all (bl := bl) hQA (by rw [← hA2]; exact cell_at hbl rfl) (f := 20) (caps := #[.pointer (some ⟨fb, 0, none⟩), .pointer (some ⟨lb, 0, none⟩)]) (enters_of Try.func20 (by kernel_rfl) rfl) (J := J2 L fb lb p0 j c0) (Jx := JN) (J2.ter (by omega)) (tak2 hL (by omega) (by omega)) (D := fun k => k = fb) ⟨.slice none 0 0, [], rfl, fun k => ⟨.inl, fun h => h.elim id (fun e => by cases e)⟩, fbA, World.ownsRow_nil _ _ _ _, (fun e => by cases e), (fun e => by cases e), clA⟩ (fun k hk => ⟨.inr hk, by have hk' : k = fb := hk; omega⟩)
        have hallH : Hid (Calls Try.prog 31 #[.func (.func 20) #[] #[.pointer (some ⟨fb, 0, none⟩), .pointer (some ⟨lb, 0, none⟩)], .pointer (some ⟨bl, 0, none⟩)] A2 fun e V => e = .returned (.tuple #[]) ∧ ∃ pf cf, V.cell? ⟨fb, 0, none⟩ = some (.slice pf j cf) ∧ V.cell? ⟨lb, 0, none⟩ = some (.slice p0 j c0) ∧ ∃ V2, V.alloc (.cells #[.bool true] 4) = V2 ∧ S2 w V2 lb fb V.heap.size p0 pf j c0 cf q L) := by
          refine hall.mono ?_
          rintro e V ⟨rfl, mV, ⟨D', gD, hJ⟩, hQV⟩
          refine ⟨rfl, ?_⟩
          obtain ⟨v, done, z1, z2, z3, z4, z5, z6, z7⟩ : J2 L fb lb p0 j c0 [] D' V := hJ.elim id (fun e => False.elim e)
          rw [List.append_nil] at z1
          subst z1
          obtain ⟨pf, cf, hv, hrow⟩ : ∃ p c, v = .slice p done.length c ∧ ∀ i x, done[i]? = some x → ∃ g, p = some ⟨g, 0, none⟩ ∧ V.cell? ⟨g, i, none⟩ = some (.int .i64 x) := by
            rcases z4.2 with ⟨e, z⟩ | ⟨g, cp, cur, e, _⟩
            · exact ⟨none, 0, by rw [e, z], fun i x hx => by rw [List.eq_nil_of_length_eq_zero z] at hx; cases hx⟩
            · refine ⟨_, _, e, fun i x hx => ⟨g, rfl, ?_⟩⟩
              have := z4.cells (g := g) (by rw [e]; rfl) i (.int .i64 x) (by unfold ints; rw [List.getElem?_map, hx]; rfl)
              rw [Addr.add_lit, Nat.zero_add] at this
              exact this
          rw [hL] at hv
          subst hv
          obtain ⟨V2, hV2⟩ : ∃ V2, V.alloc (.cells #[.bool true] 4) = V2 := ⟨_, rfl⟩
          have bV : Below V.heap.size V V2 := by rw [← hV2]; exact (Below.refl _ _).alloc (Nat.le_refl _) _
          have sV := mV.size
          have sV2 : V2.heap.size = V.heap.size + 1 := by rw [← hV2]; simp
          refine ⟨pf, cf, z3.c, z7, V2, hV2, hL, ?_, bcell bV (cell_lt z7) z7, bcell bV z3.lt z3.c, fun i x hx => ?_, ⟨by rw [← hV2]; exact cell_at rfl rfl, by rw [← hV2]; exact froz_new rfl⟩, by have := cell_lt z7; simp at this; omega, by have := z3.lt; omega, by omega⟩
          · refine (hQV (fun k => k = lb ∨ k = fb ∨ pf = some ⟨k, 0, none⟩) (fun k hk => ?_)).more (F := fun _ => False) (Mv.below bV) (fun _ f => f.elim) (fun k hk => ?_)
            · rcases hk with e | e | e
              · exact .inl (.inl e)
              · exact .inl (.inr e)
              · have ob : Value.ownBlock (.slice pf j cf) = some k := by rw [e]; rfl
                rcases gD k ((z2 k).2 (.inr ob)) with s | s
                · exact .inl (.inr s)
                · exact .inr ⟨s, own_ltZ z4 ob⟩
            · rcases hk with e | e | e | e
              · exact .inl (.inl e)
              · exact .inl (.inr (.inl e))
              · exact .inr ⟨by omega, by omega⟩
              · exact .inl (.inr (.inr e))
          · obtain ⟨g, e, c⟩ := hrow i x hx
            exact ⟨g, e, bcell bV (cell_lt c) c, by have := cell_lt c; simp at this; omega⟩
        unfold Qi.qp at hF
        have clA1 : A.cell? ⟨lb, 0, none⟩ = some (.slice p0 j c0) := bcell bA (by omega) cl
        clear hst hQ hL hall hQA clA fbA bA bA2 sA sA2 llb
        go_wp2_with (rw [hA])
        refine hF.out.mono ?_
        rintro e V1 ⟨rfl, rfl⟩
        rw [hbl]
        clear hF
        go_wp2_with fail
        refine hallH.out.mono ?_
        rintro e V ⟨rfl, pf, cf, cfb, clb, V2, hV2, hS2⟩
        have hS2H := hidP hS2
        obtain ⟨okb, hokb⟩ : ∃ okb, V.heap.size = okb := ⟨_, rfl⟩
        rw [hokb] at hS2H
        clear hS2 hallH hA hA2 hbl cl clA1 hfb
        go_wp2_with (rw [hV2])
        go_loopw [9] (fun ii wr => ∃ (i : Nat), i ≤ m ∧ ii = .int .i64 i ∧ Hid (S2 w wr lb fb okb p0 pf j c0 cf q L)) (fun ii _ => m - (intOf ii).toNat)
        case atStart => exact ⟨0, by omega, rfl, hS2H⟩
        case round =>
          obtain ⟨i, hi, rfl, hst⟩ := hrel
          by_cases hlt2 : i < m
          · obtain ⟨u, hu⟩ : ∃ u, st[i]? = some u := ⟨_, List.getElem?_eq_getElem (by rw [hMH.out]; exact hlt2)⟩
            have hS2 := hst.out
            obtain ⟨_, _, _, _, _, bw⟩ := id hS2.q
            obtain ⟨gs, os, rfl, cu⟩ := (hsH.out.below bw) i u hu
            have hub := hsbH.out u (List.mem_of_getElem? hu)
            obtain ⟨j1, hj1⟩ : ∃ j1, j + 1 = j1 := ⟨_, rfl⟩
            obtain ⟨nn, hnn⟩ : ∃ nn, u.tmod (j1 : Int) = nn := ⟨_, rfl⟩
            have hnn2 : 0 ≤ nn ∧ nn ≤ (j : Int) := by
              rw [← hnn, Int.tmod_eq_emod_of_nonneg hub.1]
              have h1 := Int.emod_nonneg u (b := (j1 : Int)) (by omega)
              have h2 := Int.emod_lt_of_pos u (b := (j1 : Int)) (by omega)
              omega
            have hj1I : (j : Int) + 1 = (j1 : Int) := by omega
            have hj1z : ¬ (j1 : Int) = 0 := by omega
            have hj1N : ¬ j1 = 0 := by omega
            have hj1b : (j1 : Int) ≤ 81 := by omega
            have wu : IntKind.i64.wrap u = u := i64wA u (by omega) (by omega)
            have wj1 : IntKind.i64.wrap (j1 : Int) = (j1 : Int) := i64wA _ (by omega) (by omega)
            have wnn : IntKind.i64.wrap nn = nn := i64wA _ (by omega) (by omega)
            obtain ⟨nbx, hnbx⟩ : ∃ nbx, wr.heap.size = nbx := ⟨_, rfl⟩
            obtain ⟨A, hA⟩ : ∃ A, wr.drew.alloc (.cells #[.int .i64 0] 3) = A := ⟨_, rfl⟩
            obtain ⟨A2, hA2⟩ : ∃ A2, A.setCell ⟨nbx, 0, none⟩ (.int .i64 nn) = A2 := ⟨_, rfl⟩
            obtain ⟨atb, hatb⟩ : ∃ atb, A2.heap.size = atb := ⟨_, rfl⟩
            obtain ⟨A3, hA3⟩ : ∃ A3, A2.alloc (.cells #[.int .i64 0] 3) = A3 := ⟨_, rfl⟩
            obtain ⟨bl, hbl⟩ : ∃ bl, A3.heap.size = bl := ⟨_, rfl⟩
            obtain ⟨A4, hA4⟩ : ∃ A4, A3.alloc (.cells #[Qi.qp q] 35) = A4 := ⟨_, rfl⟩
            have bA : Below wr.heap.size wr A := by rw [← hA]; exact ((Below.refl _ _).drew).alloc (Nat.le_refl _) _
            have sA : A.heap.size = nbx + 1 := by rw [← hA]; simp [hnbx]
            have mA2 : Mv (fun k => k = nbx) A A2 := by rw [← hA2]; exact Mv.set1 (E := fun k => k = nbx) rfl _
            have clA : Cl nbx (.int .i64 0) A := ⟨by rw [← hA]; exact cell_at hnbx rfl, by rw [← hA]; exact froz_new hnbx⟩
            have clA2 : Cl nbx (.int .i64 nn) A2 := by rw [← hA2]; exact clA.set _
            have sA2 : A2.heap.size = nbx + 1 := by rw [← hA2]; simpa using sA
            have mA3 : ∀ F, Mv F A2 A3 := fun F => by rw [← hA3]; exact Mv.alloc _ _ _
            have sA3 : A3.heap.size = nbx + 2 := by rw [← hA3]; simp [sA2]
            have mA4 : ∀ F, Mv F A3 A4 := fun F => by rw [← hA4]; exact Mv.alloc _ _ _
            have sA4 : A4.heap.size = nbx + 3 := by rw [← hA4]; simp [sA3]
            have m14 : Mv (fun k => wr.heap.size ≤ k) wr A4 := (((Mv.below bA).trans' (mA2.mono fun k _ e => by have e' : k = nbx := e; omega)).trans' (mA3 _)).trans' (mA4 _)
            have ok4 : Cl okb (.bool true) A4 := hS2.ok.mv m14 (fun f => by have := hS2.ok.lt; omega)
            have S24 : S2 w A4 lb fb okb p0 pf j c0 cf q L := hS2.keep m14 (fun k f => .inr f) ok4
            have at4 : Cl atb (.int .i64 0) A4 := by
              have : Cl atb (.int .i64 0) A3 := ⟨by rw [← hA3]; exact cell_at hatb rfl, by rw [← hA3]; exact froz_new hatb⟩
              exact this.mv (mA4 fun _ => False) (fun h => h)
            have nb4 : Cl nbx (.int .i64 nn) A4 := (clA2.mv (mA3 fun _ => False) (fun h => h)).mv (mA4 fun _ => False) (fun h => h)
            have l1 := hS2.ok.lt
            have l2 : fb < nbx := by rw [← hnbx]; exact cell_lt hS2.cf
            have l3 : lb < nbx := by rw [← hnbx]; exact cell_lt hS2.cl
            have hwn : w.heap.size ≤ nbx := by have := bw.size; omega
            have hQ4 : Qk w (fun k => Pk lb fb okb pf k ∨ k = atb) A4 q L j := hS2.q.more m14 (fun k f => .inr f) (fun k hk => hk.imp id (fun e => by omega))
            have hlenL := S24.len
            have hall := Qk.all (bl := bl) hQ4 (by rw [← hA4]; exact cell_at hbl rfl) (f := 21) (caps := #[.pointer (some ⟨okb, 0, none⟩), .pointer (some ⟨atb, 0, none⟩), .pointer (some ⟨fb, 0, none⟩), .pointer (some ⟨nbx, 0, none⟩)]) (enters_of Try.func21 (by kernel_rfl) rfl) (J := J3 A4.heap.size L okb atb fb nbx pf cf nn) (Jx := JX3 okb atb nn) J3.ter (tak3 (by omega) hnn2.1 (by omega) (by omega) ⟨S24.d2, by omega⟩ ⟨by omega, by omega⟩) (D := fun k => k = okb ∨ k = atb) ⟨[], rfl, fun _ => Iff.rfl, ok4, at4, ⟨by omega, by rw [hlenL]; exact S24.cf⟩, fun i x hx => by
              obtain ⟨g, e, c, n1⟩ := hS2.row i x hx
              have lg := cell_lt c
              simp at lg
              exact ⟨g, e, m14.cell (a := ⟨g, i, none⟩) (fun f => by have f' : wr.heap.size ≤ g := f; omega) c, n1, by omega, by omega⟩, ⟨by omega, nb4.c⟩, .inl rfl⟩ (fun k hk => by
              rcases hk with e | e
              · exact ⟨.inl (.inr (.inr (.inl e))), by rw [e]; exact hS2.lo⟩
              · exact ⟨.inr e, by omega⟩)
            have hallH : Hid (Calls Try.prog 31 #[.func (.func 21) #[] #[.pointer (some ⟨okb, 0, none⟩), .pointer (some ⟨atb, 0, none⟩), .pointer (some ⟨fb, 0, none⟩), .pointer (some ⟨nbx, 0, none⟩)], .pointer (some ⟨bl, 0, none⟩)] A4 fun e V5 => e = .returned (.tuple #[]) ∧ ∃ a : Int, (a = nn ∨ nn = 0 ∧ a = 1) ∧ (V5.drew.cell? ⟨okb, 0, none⟩ = some (.bool true) ∧ V5.drew.cell? ⟨lb, 0, none⟩ = some (.slice p0 j c0) ∧ V5.drew.cell? ⟨atb, 0, none⟩ = some (.int .i64 a) ∧ V5.drew.cell? ⟨nbx, 0, none⟩ = some (.int .i64 nn)) ∧ V5.drew.frozen? ⟨okb, 0, none⟩ = false ∧ Calls Try.prog 17 #[Qi.qp q] V5.drew (fun e V => e = .returned (.int .i64 j) ∧ V = V5.drew) ∧ ∃ W8, V5.drew.setCell ⟨okb, 0, none⟩ (.bool true) = W8 ∧ S2 w W8 lb fb okb p0 pf j c0 cf q L) := by
              refine hall.mono ?_
              rintro e V5 ⟨rfl, m5, ⟨D', gD, hJ⟩, hQV⟩
              refine ⟨rfl, ?_⟩
              obtain ⟨a, ha, ok5, at5⟩ : ∃ a : Int, (a = nn ∨ nn = 0 ∧ a = 1) ∧ Cl okb (.bool true) V5 ∧ Cl atb (.int .i64 a) V5 := by
                rcases hJ with ⟨done, z1, _, z3, z4, _, _, _, z8⟩ | ⟨a, z1, z2, z3⟩
                · rw [List.append_nil] at z1
                  subst z1
                  rw [hlenL] at z4 z8
                  refine ⟨j, ?_, z3, z4⟩
                  rcases z8 with e | e
                  · have : j = 0 := by rw [← hlenL, e]; rfl
                    exact .inl (by omega)
                  · omega
                · exact ⟨a, by rcases z3 with e | e; exact .inl e; exact .inr ⟨e.1, by have := e.2; omega⟩, z1, z2⟩
              obtain ⟨W8, hW8⟩ : ∃ W8, V5.drew.setCell ⟨okb, 0, none⟩ (.bool true) = W8 := ⟨_, rfl⟩
              have md : ∀ F, Mv F V5 V5.drew := fun F => Mv.drew _ _
              have okd := ok5.mv (md fun _ => False) (fun h => h)
              have m8 : Mv (fun k => k = okb) V5.drew W8 := by rw [← hW8]; exact Mv.set1 (E := fun k => k = okb) rfl _
              have S25 : S2 w V5.drew lb fb okb p0 pf j c0 cf q L := by
                refine hS2.keep (F := fun k => k = okb ∨ wr.heap.size ≤ k) (((m14.mono fun k _ e => .inr e).trans' (m5.mono fun k _ e => ?_)).trans' (md _)) (fun k f => f) okd
                rcases e with e | e
                · exact .inl e
                · exact .inr (by omega)
              have hlen := S25.q.len
              rw [hlenL] at hlen
              refine ⟨a, ha, ⟨okd.c, S25.cl, at5.c, ?_⟩, okd.f, hlen, W8, hW8, S25.keep m8 (fun k f => .inl f) (by rw [← hW8]; exact okd.set _)⟩
              exact m5.cell (a := ⟨nbx, 0, none⟩) (fun f => by rcases f with f | f <;> (simp at f; omega)) nb4.c
            have hF := hidP (Qi.allf_any q A3)
            rw [hA4] at hF
            unfold Qi.qp at hF
            have hS : wr.drew.cell? ⟨gs, os + i, none⟩ = some (.int .u8 u) ∧ wr.drew.cell? ⟨lb, 0, none⟩ = some (.slice p0 j c0) := ⟨cu, hS2.cl⟩
            have hSA : A.cell? ⟨gs, os + i, none⟩ = some (.int .u8 u) ∧ A.cell? ⟨lb, 0, none⟩ = some (.slice p0 j c0) := ⟨bcell bA (cell_lt cu) cu, bcell bA (cell_lt hS2.cl) hS2.cl⟩
            have nc := clA.c
            have nf := clA.f
            have hiI : (i : Int) < (m : Int) := by omega
            clear hst hS2 bw hall hQ4 S24 at4 nb4 ok4 m14 mA3 mA4 mA2 clA clA2 bA sA sA3 sA4 sA2 l1 l2 l3 hwn hub hu cu hj1 hlenL
            go_wp2_with fail
            refine Zs.region (S := fun W => W.cell? ⟨gs, os + i, none⟩ = some (.int .u8 u) ∧ W.cell? ⟨lb, 0, none⟩ = some (.slice p0 j c0)) 10 (by kernel_rfl) ?_
            refine Zs.pure (i := 0) (oi := ⟨some 54, _, _, _, _, _⟩) (v := .slice (some ⟨gs, os, none⟩) m c1) rfl (by kernel_rfl) (by kernel_rfl) (by kernel_rfl) (by decide) (fun _ _ _ h => h) (Or.inl ⟨by rfl, ?hy0⟩) hS ?_
            case hy0 => (intro w hSw; (try dsimp only at hSw); go_simp; try with_reducible rfl)
            simp only [Act.put, List.setIfInBounds_toArray, List.set_cons_zero, List.set_cons_succ]
            refine Zs.pure (i := 1) (oi := ⟨some 55, _, _, _, _, _⟩) (v := .int .i64 (i : Int)) rfl (by kernel_rfl) (by kernel_rfl) (by kernel_rfl) (by decide) (fun _ _ _ h => h) (Or.inl ⟨by rfl, ?hy1⟩) hS ?_
            case hy1 => (intro w hSw; (try dsimp only at hSw); go_simp; try with_reducible rfl)
            simp only [Act.put, List.setIfInBounds_toArray, List.set_cons_zero, List.set_cons_succ]
            refine Zs.pure (i := 2) (oi := ⟨some 56, _, _, _, _, _⟩) (v := .pointer (some ⟨gs, os + i, none⟩)) rfl (by kernel_rfl) (by kernel_rfl) (by kernel_rfl) (by decide) (fun _ _ _ h => h) (Or.inl ⟨by rfl, ?hy2⟩) hS ?_
            case hy2 => (intro w hSw; (try dsimp only at hSw); go_simp; try with_reducible rfl)
            simp only [Act.put, List.setIfInBounds_toArray, List.set_cons_zero, List.set_cons_succ]
            refine Zs.take (i := 3) (oi := ⟨some 57, _, _, _, _, _⟩) (v := .int .u8 u) rfl (by kernel_rfl) (by kernel_rfl) (by kernel_rfl) (by decide) (by kernel_rfl) (by kernel_rfl) (fun _ _ _ h => h) (Or.inl ⟨by rfl, ?hy3⟩) hS ?_
            case hy3 => (intro w hSw; (try dsimp only at hSw); go_simp; try with_reducible rfl)
            simp only [Act.put, List.setIfInBounds_toArray, List.set_cons_zero, List.set_cons_succ]
            refine Zs.pure (i := 4) (oi := ⟨some 58, _, _, _, _, _⟩) (v := .int .i64 u) rfl (by kernel_rfl) (by kernel_rfl) (by kernel_rfl) (by decide) (fun _ _ _ h => h) (Or.inl ⟨by rfl, ?hy4⟩) hS ?_
            case hy4 => (intro w hSw; (try dsimp only at hSw); go_simp; try with_reducible rfl)
            simp only [Act.put, List.setIfInBounds_toArray, List.set_cons_zero, List.set_cons_succ]
            refine Zs.take (i := 5) (oi := ⟨some 59, _, _, _, _, _⟩) (v := .slice p0 j c0) rfl (by kernel_rfl) (by kernel_rfl) (by kernel_rfl) (by decide) (by kernel_rfl) (by kernel_rfl) (fun _ _ _ h => h) (Or.inl ⟨by rfl, ?hy5⟩) hS ?_
            case hy5 => (intro w hSw; (try dsimp only at hSw); go_simp; try with_reducible rfl)
            simp only [Act.put, List.setIfInBounds_toArray, List.set_cons_zero, List.set_cons_succ]
            refine Zs.pure (i := 6) (oi := ⟨some 60, _, _, _, _, _⟩) (v := .int .i64 (j : Int)) rfl (by kernel_rfl) (by kernel_rfl) (by kernel_rfl) (by decide) (fun _ _ _ h => h) (Or.inl ⟨by rfl, ?hy6⟩) hS ?_
            case hy6 => (intro w hSw; (try dsimp only at hSw); go_simp; try with_reducible rfl)
            simp only [Act.put, List.setIfInBounds_toArray, List.set_cons_zero, List.set_cons_succ]
            refine Zs.pure (i := 7) (oi := ⟨some 61, _, _, _, _, _⟩) (v := .int .i64 (j1 : Int)) rfl (by kernel_rfl) (by kernel_rfl) (by kernel_rfl) (by decide) (fun _ _ _ h => h) (Or.inl ⟨by rfl, ?hy7⟩) hS ?_
            case hy7 => (intro w hSw; (try dsimp only at hSw); go_simp; try with_reducible rfl)
            simp only [Act.put, List.setIfInBounds_toArray, List.set_cons_zero, List.set_cons_succ]
            refine Zs.pure (i := 8) (oi := ⟨some 62, _, _, _, _, _⟩) (v := .int .i64 nn) rfl (by kernel_rfl) (by kernel_rfl) (by kernel_rfl) (by decide) (fun _ _ _ h => h) (Or.inl ⟨by rfl, ?hy8⟩) hS ?_
            case hy8 => (intro w hSw; (try dsimp only at hSw); go_simp; try with_reducible rfl)
            simp only [Act.put, List.setIfInBounds_toArray, List.set_cons_zero, List.set_cons_succ]
            refine Zs.one (i := 9) (oi := ⟨some 10, _, _, _, _, _⟩) (by kernel_rfl) rfl (fun K hK => ?_)
            go_simp
            refine hK.out _ _ (fun _ => hSA) ?_
            clear hK K
            try simp only [Act.put, List.setIfInBounds_toArray, List.set_cons_zero, List.set_cons_succ]
            refine Zs.one (i := 10) (oi := ⟨none, _, _, _, _, _⟩) (by kernel_rfl) rfl (fun K hK => ?_)
            go_simp
            refine hK.out _ _ (fun q => absurd q (by decide)) ?_
            clear hK K
            refine Zs.done (by kernel_rfl) ?_ _
            have hA3H := hidP hA3
            clear hS hSA nc nf hA hA3
            go_wp2_with fail
            rw [hA3H.out]
            refine hF.out.mono ?_
            rintro e V1 ⟨rfl, rfl⟩
            rw [hbl]
            clear hF hA3H hA4
            go_wp2_with fail
            refine hallH.out.mono ?_
            rintro e V5 ⟨rfl, a, ha, hS, hfz, hLn0, W8, hW8, hS28⟩
            have nxt := hidP hS28
            have hLn := hidP hLn0
            unfold Qi.qp at hLn
            have hokc := hS.1
            clear hallH hS28 hLn0 hnbx hbl hatb hnn
            go_wp2_with fail
            by_cases haa : a = nn
            · subst haa
              clear ha
              refine Zs.region (S := fun W => W.cell? ⟨okb, 0, none⟩ = some (.bool true) ∧ W.cell? ⟨lb, 0, none⟩ = some (.slice p0 j c0) ∧ W.cell? ⟨atb, 0, none⟩ = some (.int .i64 a) ∧ W.cell? ⟨nbx, 0, none⟩ = some (.int .i64 a)) 21 (by kernel_rfl) ?_
              refine Zs.take (i := 0) (oi := ⟨some 67, _, _, _, _, _⟩) (v := .bool true) rfl (by kernel_rfl) (by kernel_rfl) (by kernel_rfl) (by decide) (by kernel_rfl) (by kernel_rfl) (fun _ _ _ h => h) (Or.inl ⟨by rfl, ?hy0⟩) hS ?_
              case hy0 => (intro w hSw; (try dsimp only at hSw); go_simp; try with_reducible rfl)
              simp only [Act.put, List.setIfInBounds_toArray, List.set_cons_zero, List.set_cons_succ]
              refine Zs.pure (i := 1) (oi := ⟨some 68, _, _, _, _, _⟩) (v := .bool true) rfl (by kernel_rfl) (by kernel_rfl) (by kernel_rfl) (by decide) (fun _ _ _ h => h) (Or.inl ⟨by rfl, ?hy1⟩) hS ?_
              case hy1 => (intro w hSw; (try dsimp only at hSw); go_simp; try with_reducible rfl)
              simp only [Act.put, List.setIfInBounds_toArray, List.set_cons_zero, List.set_cons_succ]
              refine Zs.pure (i := 2) (oi := ⟨some 69, _, _, _, _, _⟩) (v := .pointer (some ⟨q, 0, none⟩)) rfl (by kernel_rfl) (by kernel_rfl) (by kernel_rfl) (by decide) (fun _ _ _ h => h) (Or.inl ⟨by rfl, ?hy2⟩) hS ?_
              case hy2 => (intro w hSw; (try dsimp only at hSw); go_simp; try with_reducible rfl)
              simp only [Act.put, List.setIfInBounds_toArray, List.set_cons_zero, List.set_cons_succ]
              refine Zs.take (i := 4) (oi := ⟨some 71, _, _, _, _, _⟩) (v := .slice p0 j c0) rfl (by kernel_rfl) (by kernel_rfl) (by kernel_rfl) (by decide) (by kernel_rfl) (by kernel_rfl) (fun _ _ _ h => h) (Or.inl ⟨by rfl, ?hy4⟩) hS ?_
              case hy4 => (intro w hSw; (try dsimp only at hSw); go_simp; try with_reducible rfl)
              simp only [Act.put, List.setIfInBounds_toArray, List.set_cons_zero, List.set_cons_succ]
              refine Zs.pure (i := 5) (oi := ⟨some 72, _, _, _, _, _⟩) (v := .int .i64 (j : Int)) rfl (by kernel_rfl) (by kernel_rfl) (by kernel_rfl) (by decide) (fun _ _ _ h => h) (Or.inl ⟨by rfl, ?hy5⟩) hS ?_
              case hy5 => (intro w hSw; (try dsimp only at hSw); go_simp; try with_reducible rfl)
              simp only [Act.put, List.setIfInBounds_toArray, List.set_cons_zero, List.set_cons_succ]
              refine Zs.one (i := 3) (oi := ⟨some 70, _, _, _, _, _⟩) (by kernel_rfl) rfl (fun K hK => ?_)
              go_simp
              refine hLn.out.mono ?_
              rintro e W9 ⟨rfl, rfl⟩
              go_wp2_with fail
              refine hK.out _ _ (fun _ => hS) ?_
              clear hK K
              try simp only [Act.put, List.setIfInBounds_toArray, List.set_cons_zero, List.set_cons_succ]
              refine Zs.pure (i := 6) (oi := ⟨some 73, _, _, _, _, _⟩) (v := .bool true) rfl (by kernel_rfl) (by kernel_rfl) (by kernel_rfl) (by decide) (fun _ _ _ h => h) (Or.inl ⟨by rfl, ?hy6⟩) hS ?_
              case hy6 => (intro w hSw; (try dsimp only at hSw); go_simp; try with_reducible rfl)
              simp only [Act.put, List.setIfInBounds_toArray, List.set_cons_zero, List.set_cons_succ]
              refine Zs.pure (i := 7) (oi := ⟨some 74, _, _, _, _, _⟩) (v := .bool true) rfl (by kernel_rfl) (by kernel_rfl) (by kernel_rfl) (by decide) (fun _ _ _ h => h) (Or.inl ⟨by rfl, ?hy7⟩) hS ?_
              case hy7 => (intro w hSw; (try dsimp only at hSw); go_simp; try with_reducible rfl)
              simp only [Act.put, List.setIfInBounds_toArray, List.set_cons_zero, List.set_cons_succ]
              refine Zs.pure (i := 8) (oi := ⟨some 75, _, _, _, _, _⟩) (v := .bool true) rfl (by kernel_rfl) (by kernel_rfl) (by kernel_rfl) (by decide) (fun _ _ _ h => h) (Or.inl ⟨by rfl, ?hy8⟩) hS ?_
              case hy8 => (intro w hSw; (try dsimp only at hSw); go_simp; try with_reducible rfl)
              simp only [Act.put, List.setIfInBounds_toArray, List.set_cons_zero, List.set_cons_succ]
              refine Zs.take (i := 9) (oi := ⟨some 76, _, _, _, _, _⟩) (v := .int .i64 a) rfl (by kernel_rfl) (by kernel_rfl) (by kernel_rfl) (by decide) (by kernel_rfl) (by kernel_rfl) (fun _ _ _ h => h) (Or.inl ⟨by rfl, ?hy9⟩) hS ?_
              case hy9 => (intro w hSw; (try dsimp only at hSw); go_simp; try with_reducible rfl)
              simp only [Act.put, List.setIfInBounds_toArray, List.set_cons_zero, List.set_cons_succ]
              refine Zs.take (i := 10) (oi := ⟨some 77, _, _, _, _, _⟩) (v := .int .i64 a) rfl (by kernel_rfl) (by kernel_rfl) (by kernel_rfl) (by decide) (by kernel_rfl) (by kernel_rfl) (fun _ _ _ h => h) (Or.inl ⟨by rfl, ?hy10⟩) hS ?_
              case hy10 => (intro w hSw; (try dsimp only at hSw); go_simp; try with_reducible rfl)
              simp only [Act.put, List.setIfInBounds_toArray, List.set_cons_zero, List.set_cons_succ]
              refine Zs.pure (i := 11) (oi := ⟨some 78, _, _, _, _, _⟩) (v := .bool true) rfl (by kernel_rfl) (by kernel_rfl) (by kernel_rfl) (by decide) (fun _ _ _ h => h) (Or.inl ⟨by rfl, ?hy11⟩) hS ?_
              case hy11 => (intro w hSw; (try dsimp only at hSw); go_simp; try with_reducible rfl)
              simp only [Act.put, List.setIfInBounds_toArray, List.set_cons_zero, List.set_cons_succ]
              refine Zs.pure (i := 12) (oi := ⟨some 79, _, _, _, _, _⟩) (v := .bool true) rfl (by kernel_rfl) (by kernel_rfl) (by kernel_rfl) (by decide) (fun _ _ _ h => h) (Or.inl ⟨by rfl, ?hy12⟩) hS ?_
              case hy12 => (intro w hSw; (try dsimp only at hSw); go_simp; try with_reducible rfl)
              simp only [Act.put, List.setIfInBounds_toArray, List.set_cons_zero, List.set_cons_succ]
              refine Zs.pure (i := 13) (oi := ⟨some 80, _, _, _, _, _⟩) (v := undef) rfl (by kernel_rfl) (by kernel_rfl) (by kernel_rfl) (by decide) (fun _ _ _ h => h) (Or.inr ⟨by rfl, rfl⟩) hS ?_
              simp only [Act.put, List.setIfInBounds_toArray, List.set_cons_zero, List.set_cons_succ]
              refine Zs.pure (i := 14) (oi := ⟨some 81, _, _, _, _, _⟩) (v := undef) rfl (by kernel_rfl) (by kernel_rfl) (by kernel_rfl) (by decide) (fun _ _ _ h => h) (Or.inr ⟨by rfl, rfl⟩) hS ?_
              simp only [Act.put, List.setIfInBounds_toArray, List.set_cons_zero, List.set_cons_succ]
              refine Zs.pure (i := 15) (oi := ⟨some 82, _, _, _, _, _⟩) (v := undef) rfl (by kernel_rfl) (by kernel_rfl) (by kernel_rfl) (by decide) (fun _ _ _ h => h) (Or.inr ⟨by rfl, rfl⟩) hS ?_
              simp only [Act.put, List.setIfInBounds_toArray, List.set_cons_zero, List.set_cons_succ]
              refine Zs.pure (i := 16) (oi := ⟨some 83, _, _, _, _, _⟩) (v := undef) rfl (by kernel_rfl) (by kernel_rfl) (by kernel_rfl) (by decide) (fun _ _ _ h => h) (Or.inr ⟨by rfl, rfl⟩) hS ?_
              simp only [Act.put, List.setIfInBounds_toArray, List.set_cons_zero, List.set_cons_succ]
              refine Zs.pure (i := 17) (oi := ⟨some 84, _, _, _, _, _⟩) (v := undef) rfl (by kernel_rfl) (by kernel_rfl) (by kernel_rfl) (by decide) (fun _ _ _ h => h) (Or.inr ⟨by rfl, rfl⟩) hS ?_
              simp only [Act.put, List.setIfInBounds_toArray, List.set_cons_zero, List.set_cons_succ]
              refine Zs.pure (i := 18) (oi := ⟨some 85, _, _, _, _, _⟩) (v := undef) rfl (by kernel_rfl) (by kernel_rfl) (by kernel_rfl) (by decide) (fun _ _ _ h => h) (Or.inr ⟨by rfl, rfl⟩) hS ?_
              simp only [Act.put, List.setIfInBounds_toArray, List.set_cons_zero, List.set_cons_succ]
              refine Zs.pure (i := 19) (oi := ⟨some 86, _, _, _, _, _⟩) (v := .bool true) rfl (by kernel_rfl) (by kernel_rfl) (by kernel_rfl) (by decide) (fun _ _ _ h => h) (Or.inl ⟨by rfl, ?hy19⟩) hS ?_
              case hy19 => (intro w hSw; (try dsimp only at hSw); go_simp; try with_reducible rfl)
              simp only [Act.put, List.setIfInBounds_toArray, List.set_cons_zero, List.set_cons_succ]
              refine Zs.pure (i := 20) (oi := ⟨some 87, _, _, _, _, _⟩) (v := .bool true) rfl (by kernel_rfl) (by kernel_rfl) (by kernel_rfl) (by decide) (fun _ _ _ h => h) (Or.inl ⟨by rfl, ?hy20⟩) hS ?_
              case hy20 => (intro w hSw; (try dsimp only at hSw); go_simp; try with_reducible rfl)
              simp only [Act.put, List.setIfInBounds_toArray, List.set_cons_zero, List.set_cons_succ]
              refine Zs.one (i := 21) (oi := ⟨none, _, _, _, _, _⟩) (by kernel_rfl) rfl (fun K hK => ?_)
              go_simp
              refine hK.out _ _ (fun q => absurd q (by decide)) ?_
              clear hK K
              refine Zs.done (by kernel_rfl) ?_ _
              go_wp2_with fail
              exact ⟨⟨i + 1, by omega, by go_num, nxt⟩, by simp [intOf]; omega⟩
            · obtain ⟨rfl, rfl⟩ : nn = 0 ∧ a = 1 := ha.elim (fun e => absurd e haa) id
              clear haa ha
              refine Zs.region (S := fun W => W.cell? ⟨okb, 0, none⟩ = some (.bool true) ∧ W.cell? ⟨lb, 0, none⟩ = some (.slice p0 j c0) ∧ W.cell? ⟨atb, 0, none⟩ = some (.int .i64 1) ∧ W.cell? ⟨nbx, 0, none⟩ = some (.int .i64 0)) 21 (by kernel_rfl) ?_
              refine Zs.take (i := 0) (oi := ⟨some 67, _, _, _, _, _⟩) (v := .bool true) rfl (by kernel_rfl) (by kernel_rfl) (by kernel_rfl) (by decide) (by kernel_rfl) (by kernel_rfl) (fun _ _ _ h => h) (Or.inl ⟨by rfl, ?hy0⟩) hS ?_
              case hy0 => (intro w hSw; (try dsimp only at hSw); go_simp; try with_reducible rfl)
              simp only [Act.put, List.setIfInBounds_toArray, List.set_cons_zero, List.set_cons_succ]
              refine Zs.pure (i := 1) (oi := ⟨some 68, _, _, _, _, _⟩) (v := .bool true) rfl (by kernel_rfl) (by kernel_rfl) (by kernel_rfl) (by decide) (fun _ _ _ h => h) (Or.inl ⟨by rfl, ?hy1⟩) hS ?_
              case hy1 => (intro w hSw; (try dsimp only at hSw); go_simp; try with_reducible rfl)
              simp only [Act.put, List.setIfInBounds_toArray, List.set_cons_zero, List.set_cons_succ]
              refine Zs.pure (i := 2) (oi := ⟨some 69, _, _, _, _, _⟩) (v := .pointer (some ⟨q, 0, none⟩)) rfl (by kernel_rfl) (by kernel_rfl) (by kernel_rfl) (by decide) (fun _ _ _ h => h) (Or.inl ⟨by rfl, ?hy2⟩) hS ?_
              case hy2 => (intro w hSw; (try dsimp only at hSw); go_simp; try with_reducible rfl)
              simp only [Act.put, List.setIfInBounds_toArray, List.set_cons_zero, List.set_cons_succ]
              refine Zs.take (i := 4) (oi := ⟨some 71, _, _, _, _, _⟩) (v := .slice p0 j c0) rfl (by kernel_rfl) (by kernel_rfl) (by kernel_rfl) (by decide) (by kernel_rfl) (by kernel_rfl) (fun _ _ _ h => h) (Or.inl ⟨by rfl, ?hy4⟩) hS ?_
              case hy4 => (intro w hSw; (try dsimp only at hSw); go_simp; try with_reducible rfl)
              simp only [Act.put, List.setIfInBounds_toArray, List.set_cons_zero, List.set_cons_succ]
              refine Zs.pure (i := 5) (oi := ⟨some 72, _, _, _, _, _⟩) (v := .int .i64 (j : Int)) rfl (by kernel_rfl) (by kernel_rfl) (by kernel_rfl) (by decide) (fun _ _ _ h => h) (Or.inl ⟨by rfl, ?hy5⟩) hS ?_
              case hy5 => (intro w hSw; (try dsimp only at hSw); go_simp; try with_reducible rfl)
              simp only [Act.put, List.setIfInBounds_toArray, List.set_cons_zero, List.set_cons_succ]
              refine Zs.one (i := 3) (oi := ⟨some 70, _, _, _, _, _⟩) (by kernel_rfl) rfl (fun K hK => ?_)
              go_simp
              refine hLn.out.mono ?_
              rintro e W9 ⟨rfl, rfl⟩
              go_wp2_with fail
              refine hK.out _ _ (fun _ => hS) ?_
              clear hK K
              try simp only [Act.put, List.setIfInBounds_toArray, List.set_cons_zero, List.set_cons_succ]
              refine Zs.pure (i := 6) (oi := ⟨some 73, _, _, _, _, _⟩) (v := .bool true) rfl (by kernel_rfl) (by kernel_rfl) (by kernel_rfl) (by decide) (fun _ _ _ h => h) (Or.inl ⟨by rfl, ?hy6⟩) hS ?_
              case hy6 => (intro w hSw; (try dsimp only at hSw); go_simp; try with_reducible rfl)
              simp only [Act.put, List.setIfInBounds_toArray, List.set_cons_zero, List.set_cons_succ]
              refine Zs.pure (i := 7) (oi := ⟨some 74, _, _, _, _, _⟩) (v := .bool true) rfl (by kernel_rfl) (by kernel_rfl) (by kernel_rfl) (by decide) (fun _ _ _ h => h) (Or.inl ⟨by rfl, ?hy7⟩) hS ?_
              case hy7 => (intro w hSw; (try dsimp only at hSw); go_simp; try with_reducible rfl)
              simp only [Act.put, List.setIfInBounds_toArray, List.set_cons_zero, List.set_cons_succ]
              refine Zs.pure (i := 8) (oi := ⟨some 75, _, _, _, _, _⟩) (v := .bool true) rfl (by kernel_rfl) (by kernel_rfl) (by kernel_rfl) (by decide) (fun _ _ _ h => h) (Or.inl ⟨by rfl, ?hy8⟩) hS ?_
              case hy8 => (intro w hSw; (try dsimp only at hSw); go_simp; try with_reducible rfl)
              simp only [Act.put, List.setIfInBounds_toArray, List.set_cons_zero, List.set_cons_succ]
              refine Zs.take (i := 9) (oi := ⟨some 76, _, _, _, _, _⟩) (v := .int .i64 1) rfl (by kernel_rfl) (by kernel_rfl) (by kernel_rfl) (by decide) (by kernel_rfl) (by kernel_rfl) (fun _ _ _ h => h) (Or.inl ⟨by rfl, ?hy9⟩) hS ?_
              case hy9 => (intro w hSw; (try dsimp only at hSw); go_simp; try with_reducible rfl)
              simp only [Act.put, List.setIfInBounds_toArray, List.set_cons_zero, List.set_cons_succ]
              refine Zs.take (i := 10) (oi := ⟨some 77, _, _, _, _, _⟩) (v := .int .i64 0) rfl (by kernel_rfl) (by kernel_rfl) (by kernel_rfl) (by decide) (by kernel_rfl) (by kernel_rfl) (fun _ _ _ h => h) (Or.inl ⟨by rfl, ?hy10⟩) hS ?_
              case hy10 => (intro w hSw; (try dsimp only at hSw); go_simp; try with_reducible rfl)
              simp only [Act.put, List.setIfInBounds_toArray, List.set_cons_zero, List.set_cons_succ]
              refine Zs.pure (i := 11) (oi := ⟨some 78, _, _, _, _, _⟩) (v := .bool false) rfl (by kernel_rfl) (by kernel_rfl) (by kernel_rfl) (by decide) (fun _ _ _ h => h) (Or.inl ⟨by rfl, ?hy11⟩) hS ?_
              case hy11 => (intro w hSw; (try dsimp only at hSw); go_simp; try with_reducible rfl)
              simp only [Act.put, List.setIfInBounds_toArray, List.set_cons_zero, List.set_cons_succ]
              refine Zs.pure (i := 12) (oi := ⟨some 79, _, _, _, _, _⟩) (v := .bool false) rfl (by kernel_rfl) (by kernel_rfl) (by kernel_rfl) (by decide) (fun _ _ _ h => h) (Or.inl ⟨by rfl, ?hy12⟩) hS ?_
              case hy12 => (intro w hSw; (try dsimp only at hSw); go_simp; try with_reducible rfl)
              simp only [Act.put, List.setIfInBounds_toArray, List.set_cons_zero, List.set_cons_succ]
              refine Zs.take (i := 13) (oi := ⟨some 80, _, _, _, _, _⟩) (v := .int .i64 0) rfl (by kernel_rfl) (by kernel_rfl) (by kernel_rfl) (by decide) (by kernel_rfl) (by kernel_rfl) (fun _ _ _ h => h) (Or.inl ⟨by rfl, ?hy13⟩) hS ?_
              case hy13 => (intro w hSw; (try dsimp only at hSw); go_simp; try with_reducible rfl)
              simp only [Act.put, List.setIfInBounds_toArray, List.set_cons_zero, List.set_cons_succ]
              refine Zs.pure (i := 14) (oi := ⟨some 81, _, _, _, _, _⟩) (v := .bool true) rfl (by kernel_rfl) (by kernel_rfl) (by kernel_rfl) (by decide) (fun _ _ _ h => h) (Or.inl ⟨by rfl, ?hy14⟩) hS ?_
              case hy14 => (intro w hSw; (try dsimp only at hSw); go_simp; try with_reducible rfl)
              simp only [Act.put, List.setIfInBounds_toArray, List.set_cons_zero, List.set_cons_succ]
              refine Zs.pure (i := 15) (oi := ⟨some 82, _, _, _, _, _⟩) (v := .bool true) rfl (by kernel_rfl) (by kernel_rfl) (by kernel_rfl) (by decide) (fun _ _ _ h => h) (Or.inl ⟨by rfl, ?hy15⟩) hS ?_
              case hy15 => (intro w hSw; (try dsimp only at hSw); go_simp; try with_reducible rfl)
              simp only [Act.put, List.setIfInBounds_toArray, List.set_cons_zero, List.set_cons_succ]
              refine Zs.take (i := 16) (oi := ⟨some 83, _, _, _, _, _⟩) (v := .int .i64 1) rfl (by kernel_rfl) (by kernel_rfl) (by kernel_rfl) (by decide) (by kernel_rfl) (by kernel_rfl) (fun _ _ _ h => h) (Or.inl ⟨by rfl, ?hy16⟩) hS ?_
              case hy16 => (intro w hSw; (try dsimp only at hSw); go_simp; try with_reducible rfl)
              simp only [Act.put, List.setIfInBounds_toArray, List.set_cons_zero, List.set_cons_succ]
              refine Zs.pure (i := 17) (oi := ⟨some 84, _, _, _, _, _⟩) (v := .bool true) rfl (by kernel_rfl) (by kernel_rfl) (by kernel_rfl) (by decide) (fun _ _ _ h => h) (Or.inl ⟨by rfl, ?hy17⟩) hS ?_
              case hy17 => (intro w hSw; (try dsimp only at hSw); go_simp; try with_reducible rfl)
              simp only [Act.put, List.setIfInBounds_toArray, List.set_cons_zero, List.set_cons_succ]
              refine Zs.pure (i := 18) (oi := ⟨some 85, _, _, _, _, _⟩) (v := .bool true) rfl (by kernel_rfl) (by kernel_rfl) (by kernel_rfl) (by decide) (fun _ _ _ h => h) (Or.inl ⟨by rfl, ?hy18⟩) hS ?_
              case hy18 => (intro w hSw; (try dsimp only at hSw); go_simp; try with_reducible rfl)
              simp only [Act.put, List.setIfInBounds_toArray, List.set_cons_zero, List.set_cons_succ]
              refine Zs.pure (i := 19) (oi := ⟨some 86, _, _, _, _, _⟩) (v := .bool true) rfl (by kernel_rfl) (by kernel_rfl) (by kernel_rfl) (by decide) (fun _ _ _ h => h) (Or.inl ⟨by rfl, ?hy19⟩) hS ?_
              case hy19 => (intro w hSw; (try dsimp only at hSw); go_simp; try with_reducible rfl)
              simp only [Act.put, List.setIfInBounds_toArray, List.set_cons_zero, List.set_cons_succ]
              refine Zs.pure (i := 20) (oi := ⟨some 87, _, _, _, _, _⟩) (v := .bool true) rfl (by kernel_rfl) (by kernel_rfl) (by kernel_rfl) (by decide) (fun _ _ _ h => h) (Or.inl ⟨by rfl, ?hy20⟩) hS ?_
              case hy20 => (intro w hSw; (try dsimp only at hSw); go_simp; try with_reducible rfl)
              simp only [Act.put, List.setIfInBounds_toArray, List.set_cons_zero, List.set_cons_succ]
              refine Zs.one (i := 21) (oi := ⟨none, _, _, _, _, _⟩) (by kernel_rfl) rfl (fun K hK => ?_)
              go_simp
              refine hK.out _ _ (fun q => absurd q (by decide)) ?_
              clear hK K
              refine Zs.done (by kernel_rfl) ?_ _
              go_wp2_with fail
              exact ⟨⟨i + 1, by omega, by go_num, nxt⟩, by simp [intOf]; omega⟩
          · have hiI : ¬ (i : Int) < (m : Int) := by omega
            have hiD : decide ((i : Int) < (m : Int)) = false := decide_eq_false hiI
            have hS2 := hst.out
            have hlenL : Hid (L.length = j) := hS2.len
            have hlo : Hid (w.heap.size ≤ okb ∧ fb ≠ okb) := ⟨hS2.lo, hS2.d2⟩
            have hS3 : Hid (S3 w wr lb fb okb pf j cf q L 0) := ⟨hS2.q, hS2.cf, hS2.row, hS2.ok⟩
            clear hst hS2
            go_wp2_with fail
            go_loopw [12] (fun ii wx => ∃ (t : Nat), t ≤ j ∧ ii = .int .i64 t ∧ Hid (S3 w wx lb fb okb pf j cf q L t)) (fun ii _ => j - (intOf ii).toNat)
            case atStart => exact ⟨0, by omega, rfl, hS3⟩
            case round =>
              obtain ⟨t, ht, rfl, hst⟩ := hrel
              have hT := hst.out
              have cfb3 := hT.cf
              have cok := hT.ok.c
              by_cases hlt3 : t < j
              · obtain ⟨x, hx⟩ : ∃ x, L[t]? = some x := ⟨_, List.getElem?_eq_getElem (by rw [hlenL.out]; exact hlt3)⟩
                have hdr : L.drop t = x :: L.drop (t + 1) := by
                  obtain ⟨h1, h2⟩ := List.getElem?_eq_some_iff.1 hx
                  rw [List.drop_eq_getElem_cons h1, h2]
                have hq := hT.q
                rw [hdr] at hq
                have hP := hidP (Qk.go (f := 16) (args := #[Qi.qp q]) (R := fun e => e = .returned (.tuple #[Qi.ev x, .int .i64 0])) hq (fun E B h => Qi.pop_some bf_all h))
                unfold Qi.qp Qi.ev at hP
                have htI : (t : Int) < (j : Int) := by omega
                have hxH := hidP hx
                have hTH := hidP hT
                clear hq hdr hx hst hT
                go_wp2_with fail
                refine hP.out.mono ?_
                rintro e W2 ⟨rfl, hQ2, m2⟩
                have hT2 : S3 w W2 lb fb okb pf j cf q L (t + 1) := hTH.out.keep m2 hQ2
                obtain ⟨g, rfl, cg, _⟩ := hT2.row t x hxH.out
                obtain ⟨W3, hW3⟩ : ∃ W3, W2.setCell ⟨okb, 0, none⟩ (.bool true) = W3 := ⟨_, rfl⟩
                have nxt := hidP (hT2.ok2 hlo.out.1 hlo.out.2 hW3)
                have cfb4 := hT2.cf
                have cok4 := hT2.ok.c
                have cokf := hT2.ok.f
                clear hP hQ2 m2 hT2 hTH cfb3 cok
                go_wp2_with (rw [hW3])
                exact ⟨⟨t + 1, by omega, by go_num, nxt⟩, by simp [intOf]; omega⟩
              · obtain rfl : t = j := by omega
                obtain ⟨_, _, _, _, _, bw⟩ := hT.q
                have bwH := hidP bw
                clear hst hT bw
                go_wp2_with fail
                go_ret
                exact ⟨rfl, bwH.out⟩
  · by_cases h80n : n ≤ 80
    · have e1 : ¬ (80 : Int) < (n : Int) := by omega
      have e2 : decide ((80 : Int) < (n : Int)) = false := decide_eq_false e1
      have e3 : (20 : Int) < (m : Int) := by omega
      have hnI : (n : Int) ≤ 80 := by omega
      go_enter Try.func5, Try.ntmps5
      go_wp2_with (rw [hW0])
      refine hK.out.mono ?_
      rintro e w1 ⟨rfl, bw1⟩
      have k1 : w1.cell? ⟨lb, 0, none⟩ = some (.slice p0 n c0) := bcell bw1 (by have := s0H.out; omega) k0
      have bw1H := hidP (b0H.out.trans (bw1.mono b0H.out.size))
      clear bw1 hK k0
      go_wp2_with fail
      go_ret
      exact ⟨rfl, bw1H.out⟩
    · have e1 : (80 : Int) < (n : Int) := by omega
      go_enter Try.func5, Try.ntmps5
      go_wp2_with (rw [hW0])
      refine hK.out.mono ?_
      rintro e w1 ⟨rfl, bw1⟩
      have k1 : w1.cell? ⟨lb, 0, none⟩ = some (.slice p0 n c0) := bcell bw1 (by have := s0H.out; omega) k0
      have bw1H := hidP (b0H.out.trans (bw1.mono b0H.out.size))
      clear bw1 hK k0
      go_wp2_with fail
      go_ret
      exact ⟨rfl, bw1H.out⟩
theorem alls_own (p0 : Option Addr) (c0 : Nat) (l : List Int) (p1 : Option Addr) (c1 : Nat) (st : List Int) (w : World) (hl : ∀ i x, l[i]? = some x → (Lit.int .i16 x).wf = true ∧ ∃ b o, p0 = some ⟨b, o, none⟩ ∧ w.cell? ⟨b, o + i, none⟩ = some (.int .i16 x)) (hll : l.length ≤ 140737488355328) (hs : ∀ i x, st[i]? = some x → (Lit.int .u8 x).wf = true ∧ ∃ b o, p1 = some ⟨b, o, none⟩ ∧ w.cell? ⟨b, o + i, none⟩ = some (.int .u8 x)) (hsl : st.length ≤ 140737488355328) :
    Calls Try.prog 5 #[.slice p0 l.length c0, .slice p1 st.length c1] w fun e V => e = .returned (.bool true) ∧ Below w.heap.size w V :=
  alls_walk p0 c0 l p1 c1 st w (fun i x h => (hl i x h).2) (fun z hz => by
    obtain ⟨i, hi⟩ := List.getElem?_of_mem hz
    exact bounds_i16 (hl i z hi).1) hll (fun i x h => (hs i x h).2) (fun z hz => by
    obtain ⟨i, hi⟩ := List.getElem?_of_mem hz
    exact bounds_u8 (hs i z hi).1) hsl
end Go.Proofs.Ytcjlkhgnohdonaa
