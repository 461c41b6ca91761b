/- QueueBoth. -/
import Derived.Test.YtcjlkhgnohdonaaLB1
import Derived.Deep.LoopGhost
import Derived.OpenShut
namespace Go.Proofs.Ytcjlkhgnohdonaa
open Go.RowKit Go.Shelf Go.Lib
attribute [local go_sem] Oper.semAt_some
theorem insA_mem {α : Type} (key : α → Int) (v : α) : ∀ (L : List α) (z : α), z ∈ insA key v L ↔ (z = v ∨ z ∈ L)
  | [], z => by simp [insA]
  | y :: L, z => by
    unfold insA
    split
    · simp
    · rw [List.mem_cons, insA_mem key v L z, List.mem_cons]
      constructor
      · rintro (h | h | h)
        · exact .inr (.inl h)
        · exact .inl h
        · exact .inr (.inr h)
      · rintro (h | h | h)
        · exact .inr (.inl h)
        · exact .inl h
        · exact .inr (.inr h)
theorem insA_ne {α : Type} (key : α → Int) (v : α) (L : List α) : insA key v L ≠ [] := fun e => by
  have := insA_len key v L
  rw [e] at this
  simp at this
theorem i64w (n : Int) (h0 : -9223372036854775808 ≤ n) (h1 : n < 9223372036854775808) : IntKind.i64.wrap n = n := by rw [IntKind.wrap_i64]; omega
def neg (x : Int) : Int := -x
def Sm (L : List Int) : Prop := ∀ z ∈ L, -32768 ≤ z ∧ z ≤ 32767
set_option maxRecDepth 100000 in
set_option maxHeartbeats 8000000 in
theorem both_walk (p0 : Option Addr) (c0 : Nat) (l : List Int) (p1 : Option Addr) (c1 : Nat) (ps : List Bool) (w : World) (hl : RowI .i16 w p0 l) (hb : Sm l) (hll : l.length ≤ 140737488355328) (hp : RowBl w p1 ps) (hpl : ps.length ≤ 9223372036854775807) :
    Calls Try.prog 4 #[.slice p0 l.length c0, .slice p1 ps.length c1] w fun e V => e = .returned (.bool true) ∧ Below w.heap.size w V := by
  have hK := hidP (known_any w)
  obtain ⟨n, hn⟩ : ∃ n, l.length = n := ⟨_, rfl⟩
  obtain ⟨m, hm⟩ : ∃ m, ps.length = m := ⟨_, rfl⟩
  rw [hn] at hll ⊢
  rw [hm] at hpl ⊢
  have hNH := hidP hn
  have hMH := hidP hm
  have hlH := hidP hl
  have hbH := hidP hb
  have hpH := hidP hp
  clear hn hm hl hb hp
  by_cases h100 : n ≤ 100
  · have h100f : ¬ (100 : Int) < (n : Int) := by omega
    have h100d : decide ((100 : Int) < (n : Int)) = false := decide_eq_false h100f
    have hnI : (n : Int) ≤ 100 := by omega
    have hmI : (m : Int) ≤ 9223372036854775807 := by omega
    go_enter Try.func4, Try.ntmps4
    go_wp2_with fail
    refine hK.out.mono ?_
    rintro e w1 ⟨rfl, bw1⟩
    have bw1H := hidP bw1
    have hA := hidP (Qi.new_any (nb := 13) (key := fun x => x) w1)
    unfold Qi.fnV at hA
    clear bw1 hK
    go_wp2_with fail
    refine hA.out.mono ?_
    rintro e w2 ⟨rfl, ua, ba⟩
    have hBn := hidP (Qi.new_any (nb := 14) (key := fun x => -x) w2)
    unfold Qi.fnV at hBn
    have uaH := hidP ua
    have baH := hidP ba
    clear ua ba hA
    obtain ⟨qa, hqa⟩ : ∃ qa, w1.heap.size = qa := ⟨_, rfl⟩
    go_wp2_with fail
    refine hBn.out.mono ?_
    rintro e w3 ⟨rfl, ub, bb⟩
    obtain ⟨qb, hqb⟩ : ∃ qb, w2.heap.size = qb := ⟨_, rfl⟩
    have hBo : Hid (Bo w w3 qa qb [] [] 0 0) := by
      have s1 := bw1H.out.size
      have s2 := (Qi.Qu.lt uaH.out).1 w1.heap.size rfl
      have e1 := uaH.out
      rw [hqa] at e1
      rw [hqb] at ub bb
      refine ⟨_, _, _, _, e1.mv (D := fun _ => False) (Mv.below (by rw [← hqb] at bb; exact bb)) (fun _ _ h => h) (fun _ _ h => h), ub, fun k hk => ?_, fun k hk => ?_, ?_⟩
      · rcases hk with e | e
        · have e' : k = qa := e
          exact ⟨by omega, fun z => by rcases z with z | z; (have z' : k = qb := z; omega); exact z⟩
        · exact False.elim e
      · rcases hk with e | e
        · have e' : k = qb := e
          omega
        · exact False.elim e
      · have b2 : Below w.heap.size w w2 := bw1H.out.trans (baH.out.mono s1)
        exact b2.trans (bb.mono (by rw [← hqb]; exact b2.size))
    unfold Qi.qp at *
    rw [hqb]
    clear ub bb hBn uaH baH bw1H
    go_wp2_with fail
    go_loopw [7] (fun i wr => ∃ (j : Nat), j ≤ n ∧ i = .int .i64 j ∧ Hid (∃ La, Bo w wr qa qb La (La.map neg) j j ∧ Sm La)) (fun i _ => n - (intOf i).toNat)
    case atStart => exact ⟨0, by omega, rfl, [], hBo.out, fun z hz => by cases hz⟩
    case round =>
      obtain ⟨j, hj, rfl, hst⟩ := hrel
      by_cases hlt : j < n
      · obtain ⟨La, hB, hS⟩ := hst.out
        obtain ⟨x, hx⟩ : ∃ x, l[j]? = some x := ⟨_, List.getElem?_eq_getElem (by rw [hNH.out]; exact hlt)⟩
        obtain ⟨bb0, bb1, bb2, bb3, bb4, bb5, bb6, bb7, bbw⟩ := id hB
        obtain ⟨g, o, rfl, cx⟩ := (hlH.out.below bbw) j x hx
        have hxb := hbH.out x (List.mem_of_getElem? hx)
        have wx : IntKind.i64.wrap x = x := i64w x (by omega) (by omega)
        have wn : IntKind.i64.wrap (-x) = -x := i64w (-x) (by omega) (by omega)
        have hPa := hidP (Bo.a (f := 15) (args := #[Qi.qp qa, Qi.ev x]) (R := fun e => e = .returned (.tuple #[])) hB (fun E B h => Qi.push_any bf_both1 h (by omega) x))
        have hjI : (j : Int) < (n : Int) := by omega
        have hSH := hidP hS
        have hxH := hidP hx
        unfold Qi.qp Qi.ev at hPa
        clear bb4 bb5 bb6 bb7 hB hS hst hx bb0 bb1 bb2 bb3
        go_wp2_with fail
        refine hPa.out.mono ?_
        rintro e W2 ⟨rfl, hB2⟩
        obtain ⟨_, _, _, _, _, _, _, _, bbw2⟩ := id hB2
        have cx2 : W2.cell? ⟨g, o + j, none⟩ = some (.int .i16 x) := by
          obtain ⟨g', o', e, c⟩ := (hlH.out.below bbw2) j x hxH.out
          injection e with e
          injection e with e1 e2
          subst e1; subst e2
          exact c
        have hPb := hidP (Bo.b (f := 15) (args := #[Qi.qp qb, Qi.ev (-x)]) (R := fun e => e = .returned (.tuple #[])) hB2 (fun E B h => Qi.push_any bf_both2 h (by omega) (-x)))
        unfold Qi.qp Qi.ev at hPb
        clear hB2 hPa cx bbw bbw2
        go_wp2_with fail
        refine hPb.out.mono ?_
        rintro e W3 ⟨rfl, hB3⟩
        have hneg : insA (fun x : Int => -x) (-x) (La.map neg) = (insA (fun x : Int => x) x La).map neg := insA_neg x La
        rw [hneg] at hB3
        obtain ⟨y, R, hyR⟩ : ∃ y R, insA (fun x : Int => x) x La = y :: R := by
          cases h : insA (fun x : Int => x) x La with
          | nil => exact absurd h (insA_ne _ _ _)
          | cons y R => exact ⟨y, R, rfl⟩
        have hS3 : Sm (y :: R) := fun z hz => by
          rw [← hyR, insA_mem] at hz
          rcases hz with rfl | hz
          · exact hxb
          · exact hSH.out z hz
        rw [hyR, List.map_cons] at hB3
        obtain ⟨_, _, _, _, _, _, _, _, bbw3⟩ := id hB3
        have hRowp := hidP (hpH.out.below bbw3)
        have nxt : Hid (∃ La, Bo w W3 qa qb La (La.map neg) (j + 1) (j + 1) ∧ Sm La) := ⟨y :: R, by rw [List.map_cons]; exact hB3, hS3⟩
        have hB3H := hidP hB3
        have hS3H := hidP hS3
        clear hPb hB3 hS3 hneg hyR bbw3 hSH cx2
        by_cases hjm : j < m
        · obtain ⟨pb, hpb⟩ : ∃ pb, ps[j]? = some pb := ⟨_, List.getElem?_eq_getElem (by rw [hMH.out]; exact hjm)⟩
          obtain ⟨g1, o1, rfl, cp⟩ := hRowp.out j pb hpb
          have hjmI : (j : Int) < (m : Int) := by omega
          cases pb with
          | false =>
            clear hpb hRowp
            go_wp2_with fail
            exact ⟨⟨j + 1, by omega, by go_num, nxt⟩, by simp [intOf]; omega⟩
          | true =>
            have hyb := hS3H.out y (List.mem_cons_self ..)
            have hQa := hidP (Bo.a (f := 16) (args := #[Qi.qp qa]) (R := fun e => e = .returned (.tuple #[Qi.ev y, .int .i64 0])) hB3H.out (fun E B h => Qi.pop_some bf_both1 h))
            unfold Qi.qp Qi.ev at hQa
            clear hpb hRowp nxt
            go_wp2_with fail
            refine hQa.out.mono ?_
            rintro e W4 ⟨rfl, hB4⟩
            have hQb := hidP (Bo.b (f := 16) (args := #[Qi.qp qb]) (R := fun e => e = .returned (.tuple #[Qi.ev (neg y), .int .i64 0])) hB4 (fun E B h => Qi.pop_some bf_both2 h))
            unfold Qi.qp Qi.ev neg at hQb
            clear hB4 hQa
            go_wp2_with fail
            refine hQb.out.mono ?_
            rintro e W5 ⟨rfl, hB5⟩
            have nxt : Hid (∃ La, Bo w W5 qa qb La (La.map neg) (j + 1) (j + 1) ∧ Sm La) := ⟨R, hB5, fun z hz => hS3H.out z (List.mem_cons_of_mem _ hz)⟩
            have wy : IntKind.i64.wrap y = y := i64w y (by omega) (by omega)
            have wyy : IntKind.i64.wrap (-(-y)) = y := by rw [Int.neg_neg]; exact wy
            clear hB5 hQb hB3H hS3H
            go_wp2_with fail
            exact ⟨⟨j + 1, by omega, by go_num, nxt⟩, by simp [intOf]; omega⟩
        · have hjmI : ¬ (j : Int) < (m : Int) := by omega
          have hjmD : decide ((j : Int) < (m : Int)) = false := decide_eq_false hjmI
          have hjmG : (m : Int) ≤ (j : Int) := by omega
          clear hRowp
          go_wp2_with fail
          exact ⟨⟨j + 1, by omega, by go_num, nxt⟩, by simp [intOf]; omega⟩
      · have hjI : ¬ (j : Int) < (n : Int) := by omega
        have hjD : decide ((j : Int) < (n : Int)) = false := decide_eq_false hjI
        obtain ⟨La, hB, hS⟩ := hst.out
        have hBH := hidP hB
        have hSH := hidP hS
        clear hB hS hst
        go_wp2_with fail
        go_loopg [12, 13] La.length (fun k s12 s13 wr => ∃ (last : Int) (so : Bool), s12 = .int .i64 last ∧ s13 = .bool so ∧ Hid (∃ La, La.length = k ∧ Bo w wr qa qb La (La.map neg) j j ∧ Sm La ∧ (so = true → ∀ z ∈ La, last ≤ z)))
        case atStart => exact ⟨0, false, rfl, rfl, La, rfl, hBH.out, hSH.out, fun e => by cases e⟩
        case round =>
          obtain ⟨last, so, rfl, rfl, hst⟩ := hrel
          obtain ⟨L, hk, hB, hS, hlast⟩ := hst.out
          obtain ⟨Ea, Ba, Eb, Bb, ua, ub, hd, hge, bw⟩ := id hB
          have hLn := hidP (Qi.len_any ua)
          unfold Qi.qp at hLn
          rw [hk] at hLn
          have hk200 : gk ≤ 200000 := by
            obtain ⟨_, _, _, _, _, _, _, z1, z2, _⟩ := id ua
            rw [hk] at z1; omega
          cases L with
          | nil =>
            have hk0 : gk = 0 := hk.symm
            subst hk0
            have bwH := hidP bw
            clear ua ub hd hge bw hB hS hlast hst hk
            go_wp2_with fail
            refine hLn.out.mono ?_
            rintro e W2 ⟨rfl, rfl⟩
            clear hLn
            go_wp2_with fail
            go_ret
            exact ⟨rfl, bwH.out⟩
          | cons y R =>
            obtain ⟨rk, hrk⟩ : ∃ rk, R.length = rk := ⟨_, rfl⟩
            have hgk : gk = rk + 1 := by rw [← hk, List.length_cons, hrk]
            have hgI : (0 : Int) < (gk : Int) := by omega
            have hgs : (gk : Int) - 1 = (rk : Int) := by omega
            have hyb := hS y (List.mem_cons_self ..)
            have wy : IntKind.i64.wrap y = y := i64w y (by omega) (by omega)
            have wyy : IntKind.i64.wrap (-(-y)) = y := by rw [Int.neg_neg]; exact wy
            have hsoH : Hid (∀ z ∈ R, y ≤ z) := fun z hz => (List.pairwise_cons.1 (Qi.sorted ua)).1 z hz
            rw [List.map_cons] at hB
            have hQa := hidP (Bo.a (f := 16) (args := #[Qi.qp qa]) (R := fun e => e = .returned (.tuple #[Qi.ev y, .int .i64 0])) hB (fun E B h => Qi.pop_some bf_both1 h))
            unfold Qi.qp Qi.ev at hQa
            have hSH := hidP hS
            have hlH := hidP hlast
            have hgkH := hidP hgk
            clear ua ub hd hge bw hB hS hlast hst hk hgk
            go_wp2_with fail
            refine hLn.out.mono ?_
            rintro e W2 ⟨rfl, rfl⟩
            go_wp2_with fail
            refine hLn.out.mono ?_
            rintro e W3 ⟨rfl, rfl⟩
            clear hLn
            have hgk : rk < gk := by have := hgkH.out; omega
            cases so with
            | false =>
              go_wp2_with fail
              refine hQa.out.mono ?_
              rintro e W4 ⟨rfl, hB4⟩
              have hQb := hidP (Bo.b (f := 16) (args := #[Qi.qp qb]) (R := fun e => e = .returned (.tuple #[Qi.ev (neg y), .int .i64 0])) hB4 (fun E B h => Qi.pop_some bf_both2 h))
              unfold Qi.qp Qi.ev neg at hQb
              clear hB4 hQa
              go_wp2_with fail
              refine hQb.out.mono ?_
              rintro e W5 ⟨rfl, hB5⟩
              obtain ⟨_, _, _, _, ua5, ub5, _, _, _⟩ := id hB5
              have hLa := hidP (Qi.len_any ua5)
              have hLb := hidP (Qi.len_any ub5)
              unfold Qi.qp at hLa hLb
              rw [hrk] at hLa
              have hrk' : (R.map fun x => -x).length = rk := by rw [List.length_map]; exact hrk
              rw [hrk'] at hLb
              have hB5H := hidP hB5
              clear hB5 hQb ua5 ub5 hrk'
              go_wp2_with fail
              refine hLa.out.mono ?_
              rintro e W6 ⟨rfl, rfl⟩
              clear hLa
              go_wp2_with fail
              refine hLb.out.mono ?_
              rintro e W7 ⟨rfl, rfl⟩
              clear hLb
              go_wp2_with fail
              go_roundg rk
              case measure => omega
              case rel => exact ⟨y, true, rfl, rfl, R, hrk, hB5H.out, fun z hz => hSH.out z (List.mem_cons_of_mem _ hz), fun _ z hz => hsoH.out z hz⟩
            | true =>
              have hyl := hlH.out rfl y (List.mem_cons_self ..)
              have hyn : ¬ y < last := by omega
              have hyd : decide (y < last) = false := decide_eq_false hyn
              go_wp2_with fail
              refine hQa.out.mono ?_
              rintro e W4 ⟨rfl, hB4⟩
              have hQb := hidP (Bo.b (f := 16) (args := #[Qi.qp qb]) (R := fun e => e = .returned (.tuple #[Qi.ev (neg y), .int .i64 0])) hB4 (fun E B h => Qi.pop_some bf_both2 h))
              unfold Qi.qp Qi.ev neg at hQb
              clear hB4 hQa
              go_wp2_with fail
              refine hQb.out.mono ?_
              rintro e W5 ⟨rfl, hB5⟩
              obtain ⟨_, _, _, _, ua5, ub5, _, _, _⟩ := id hB5
              have hLa := hidP (Qi.len_any ua5)
              have hLb := hidP (Qi.len_any ub5)
              unfold Qi.qp at hLa hLb
              rw [hrk] at hLa
              have hrk' : (R.map fun x => -x).length = rk := by rw [List.length_map]; exact hrk
              rw [hrk'] at hLb
              have hB5H := hidP hB5
              clear hB5 hQb ua5 ub5 hrk'
              go_wp2_with fail
              refine hLa.out.mono ?_
              rintro e W6 ⟨rfl, rfl⟩
              clear hLa
              go_wp2_with fail
              refine hLb.out.mono ?_
              rintro e W7 ⟨rfl, rfl⟩
              clear hLb
              go_wp2_with fail
              go_roundg rk
              case measure => omega
              case rel => exact ⟨y, true, rfl, rfl, R, hrk, hB5H.out, fun z hz => hSH.out z (List.mem_cons_of_mem _ hz), fun _ z hz => hsoH.out z hz⟩
  · have h100f : (100 : Int) < (n : Int) := by omega
    go_enter Try.func4, Try.ntmps4
    go_wp2_with fail
    refine hK.out.mono ?_
    rintro e w1 ⟨rfl, bw1⟩
    have bw1H := hidP bw1
    clear bw1 hK
    go_wp2_with fail
    go_ret
    exact ⟨rfl, bw1H.out⟩
theorem both_own (p0 : Option Addr) (c0 : Nat) (l : List Int) (p1 : Option Addr) (c1 : Nat) (ps : List Bool) (w : World) (hl : ∀ i x, l[i]? = some x → (Lit.int .i16 x).wf = true ∧ ∃ b o, p0 = some ⟨b, o, none⟩ ∧ w.cell? ⟨b, o + i, none⟩ = some (.int .i16 x)) (hll : l.length ≤ 140737488355328) (hp : ∀ i x, ps[i]? = some x → True ∧ ∃ b o, p1 = some ⟨b, o, none⟩ ∧ w.cell? ⟨b, o + i, none⟩ = some (.bool x)) (hpl : ps.length ≤ 140737488355328) :
    Calls Try.prog 4 #[.slice p0 l.length c0, .slice p1 ps.length c1] w fun e V => e = .returned (.bool true) ∧ Below w.heap.size w V :=
  both_walk p0 c0 l p1 c1 ps w (fun i x h => (hl i x h).2) (fun z hz => by
    obtain ⟨i, hi⟩ := List.getElem?_of_mem hz
    exact bounds_i16 (hl i z hi).1) hll (fun i x h => (hp i x h).2) (by omega)
end Go.Proofs.Ytcjlkhgnohdonaa
