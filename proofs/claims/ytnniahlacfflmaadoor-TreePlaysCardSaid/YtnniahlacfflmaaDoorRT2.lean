/- TreePlays: at, Stamp, mounted of the document's tree. -/
import Derived.Test.YtnniahlacfflmaaDoorRT1
import Derived.Deep.QuietTactic
import Derived.BigQuiet
namespace Go.Proofs.YtnniahlacfflmaaDoor
open Go.RowKit Go.Shelf
attribute [local go_sem] Oper.semAt_some
theorem beqT (x y : ByteArray) : (x.toList == y.toList) = decide (x = y) := by
  by_cases e : x = y
  · subst e; simp
  · have : ¬ x.toList = y.toList := fun z => e (by
      obtain ⟨⟨a⟩⟩ := x
      obtain ⟨⟨b⟩⟩ := y
      rw [Lib.toList_data, Lib.toList_data] at z
      simp only at z
      rw [z])
    simp [e, this]
/-- Where at leaves off. -/
def posF (s : ByteArray) (l : List (ByteArray × Bool)) : Nat := (l.takeWhile fun e => sLt e.1 s).length
def thF (s : ByteArray) (l : List (ByteArray × Bool)) : Bool := decide ((l[posF s l]?).map (·.1) = some s)
theorem posF_eq {s : ByteArray} : ∀ {l : List (ByteArray × Bool)} {j : Nat}, j ≤ l.length → (∀ e ∈ l.take j, sLt e.1 s = true) → (∀ e, l[j]? = some e → sLt e.1 s = false) → posF s l = j
  | [], j, hj, _, _ => by simp at hj; subst hj; rfl
  | x :: l, 0, _, _, h => by unfold posF; rw [List.takeWhile_cons, h x rfl]; rfl
  | x :: l, j + 1, hj, g, h => by
    unfold posF
    rw [List.takeWhile_cons, g x (by simp), if_pos rfl, List.length_cons]
    have := posF_eq (s := s) (l := l) (j := j) (by simpa using hj) (fun e he => g e (by simp [he])) (fun e he => h e (by simpa using he))
    unfold posF at this
    rw [this]
theorem take_succ_get {α : Type} {l : List α} {i : Nat} {x : α} (h : l[i]? = some x) : l.take (i + 1) = l.take i ++ [x] := by rw [List.take_add_one, h]; rfl
set_option maxRecDepth 100000 in
set_option maxHeartbeats 4000000 in
theorem rat_any {W : World} {rb : Nat} {E : Nat → Prop} {R : Rf} (h : Rt W rb E R) (hl : R.l.length ≤ 100000) (s : ByteArray) :
    Calls Tryd.prog 31 #[.pointer (some ⟨rb, 0, none⟩), .string s] W fun e V => e = .returned (.tuple #[.int .i64 (posF s R.l : Nat), .bool (thF s R.l)]) ∧ Below W.heap.size W V := by
  obtain ⟨vl, vs, vm, ⟨c0, c1, c2⟩, f, ⟨s0, s1, s2⟩, n, d, hE⟩ := h
  obtain ⟨p, c, hv⟩ := s0.shape
  obtain ⟨L, hL⟩ : ∃ L, R.l = L := ⟨_, rfl⟩
  rw [hL] at s0 hv hl ⊢
  obtain ⟨m, hm⟩ : ∃ m, L.length = m := ⟨_, rfl⟩
  rw [hm] at hv hl
  subst hv
  have hmI : (m : Int) ≤ 100000 := by omega
  have s0H := hidP s0
  have hmH := hidP hm
  have bN : Hid (∀ nq, Below W.heap.size W (W.drewN nq)) := fun nq => ⟨rfl, rfl, rfl, Nat.le_refl _, fun _ _ => rfl⟩
  have c0N : ∀ nq, (W.drewN nq).cell? ⟨rb, 0, none⟩ = some (.slice p m c) := fun nq => c0
  clear c1 c2 f s0 s1 s2 n d hE hm hL
  go_enter Tryd.func31, Tryd.ntmps31
  go_wp2_with fail
  go_loop [6] (fun k => ∃ j : Nat, j ≤ m ∧ k = .int .i64 j ∧ Hid (∀ e ∈ L.take j, sLt e.1 s = true)) (fun k => m - (intOf k).toNat)
  case atStart => exact ⟨0, Nat.zero_le _, rfl, hidP (fun e he => by simp at he)⟩
  case round =>
    obtain ⟨j, hj, rfl, hI⟩ := hrel
    by_cases hlt : j < m
    · obtain ⟨x, hx⟩ : ∃ x, L[j]? = some x := ⟨_, List.getElem?_eq_getElem (by have := hmH.out; omega)⟩
      obtain ⟨g, o, cap, hgv, rs⟩ := s0H.out.resolve_left (fun z => by rw [z.2] at hx; cases hx)
      simp only [Value.slice.injEq] at hgv
      obtain ⟨rfl, _, rfl⟩ := hgv
      obtain ⟨r0, _⟩ := rs.ra.at hx
      obtain ⟨xp, hxp⟩ : ∃ z, x.1 = z := ⟨_, rfl⟩
      rw [hxp] at r0
      have hjI : (j : Int) < (m : Int) := by omega
      have hjc : j < c := by have := rs.le; have := hmH.out; omega
      have r0N : ∀ nq, (W.drewN nq).cell? ⟨g, o + j * 2, none⟩ = some (.string xp) := fun nq => r0
      cases hb : sLt xp s with
      | true =>
        have hb' : Op.bytesLess xp.toList s.toList = true := hb
        have nx : Hid (∀ e ∈ L.take (j + 1), sLt e.1 s = true) := fun e he => by
          rw [take_succ_get hx] at he
          rcases List.mem_append.1 he with z | z
          · exact hI.out e z
          · have : e = x := by simpa using z
            rw [this, hxp]; exact hb
        clear rs hx hxp hI hb
        go_wp2_with fail
        exact ⟨⟨j + 1, by omega, by go_num, nx⟩, by simp [intOf]; omega⟩
      | false =>
        have hb' : Op.bytesLess xp.toList s.toList = false := hb
        obtain ⟨q, hq⟩ : ∃ q, decide (xp = s) = q := ⟨_, rfl⟩
        have hqb : (xp.toList == s.toList) = q := by rw [beqT, hq]
        have fin : Hid (posF s L = j ∧ thF s L = q) := by
          have e := posF_eq (s := s) (l := L) (j := j) (by have := hmH.out; omega) hI.out (fun e he => by rw [hx] at he; injection he with he; rw [← he, hxp]; exact hb)
          refine ⟨e, ?_⟩
          unfold thF
          rw [e, hx, ← hq, ← hxp]
          simp
        clear rs hx hxp hI hb hq
        go_wp2_with fail
        go_quiet (fail)
        have fb := bN.out nq
        have fbH := hidP fb
        clear bN c0N r0N fb
        go_wp2_with fail
        refine bodyPost_ret (v := .tuple #[.int .i64 (j : Nat), .bool q]) (by simp [results, Tryd.results31, go_sem]) rfl ⟨by rw [fin.out.1, fin.out.2], fbH.out⟩
    · obtain rfl : j = m := by omega
      have hjI : ¬ (j : Int) < (j : Int) := by omega
      have hjd : decide ((j : Int) < (j : Int)) = false := decide_eq_false hjI
      have fin : Hid (posF s L = j ∧ thF s L = false) := by
        have e := posF_eq (s := s) (l := L) (j := j) (by have := hmH.out; omega) hI.out (fun e he => by have := (List.getElem?_eq_some_iff.1 he).1; have := hmH.out; omega)
        refine ⟨e, ?_⟩
        unfold thF
        rw [e, List.getElem?_eq_none (by have := hmH.out; omega)]
        rfl
      clear hI
      go_wp2_with fail
      go_quiet (fail)
      have fb := bN.out nq
      have fbH := hidP fb
      clear bN c0N fb
      go_wp2_with fail
      refine bodyPost_ret (v := .tuple #[.int .i64 (j : Nat), .bool false]) (by simp [results, Tryd.results31, go_sem]) rfl ⟨by rw [fin.out.1, fin.out.2], fbH.out⟩
set_option maxRecDepth 100000 in
set_option maxHeartbeats 4000000 in
theorem rexists_any {W : World} {rb : Nat} {E : Nat → Prop} {R : Rf} (h : Rt W rb E R) (hl : R.l.length ≤ 100000) (s : ByteArray) :
    Calls Tryd.prog 23 #[.pointer (some ⟨rb, 0, none⟩), .string s] W fun e V => e = .returned (.bool (thF s R.l)) ∧ Below W.heap.size W V := by
  have hA := hidP (rat_any h hl s)
  clear h
  go_enter Tryd.func23, Tryd.ntmps23
  go_wp2_with fail
  refine hA.out.mono ?_
  rintro e V ⟨rfl, b⟩
  have bH := hidP b
  clear hA b
  go_wp2_with fail
  go_ret
  exact ⟨rfl, bH.out⟩
theorem rSt_at {s : ByteArray} : ∀ {l : List (ByteArray × Int)} {j : Nat} {e : ByteArray × Int}, (∀ z ∈ l.take j, z.1 ≠ s) → l[j]? = some e → e.1 = s → rSt s l = e.2
  | (p, n) :: l, 0, e, _, h, he => by simp at h; subst h; simp only at he; simp [rSt, he]
  | (p, n) :: l, j + 1, e, g, h, he => by
    have h0 : ¬ p = s := g (p, n) (by simp)
    simp only [rSt, if_neg h0]
    exact rSt_at (j := j) (fun z hz => g z (by simp [hz])) (by simpa using h) he
theorem rSt_no {s : ByteArray} : ∀ {l : List (ByteArray × Int)}, (∀ z ∈ l, z.1 ≠ s) → rSt s l = 0
  | [], _ => rfl
  | (p, n) :: l, g => by
    have h0 : ¬ p = s := g (p, n) (by simp)
    simp only [rSt, if_neg h0]
    exact rSt_no (fun z hz => g z (List.mem_cons_of_mem _ hz))
set_option maxRecDepth 100000 in
set_option maxHeartbeats 4000000 in
theorem rstamp_any {W : World} {rb : Nat} {E : Nat → Prop} {R : Rf} (h : Rt W rb E R) (hl : R.st.length ≤ 100000) (s : ByteArray) :
    Calls Tryd.prog 25 #[.pointer (some ⟨rb, 0, none⟩), .string s] W fun e V => e = .returned (.int .i64 (rSt s R.st)) ∧ V = W := by
  obtain ⟨vl, vs, vm, ⟨c0, c1, c2⟩, f, ⟨s0, s1, s2⟩, n, d, hE⟩ := h
  obtain ⟨p, c, hv⟩ := s1.shape
  obtain ⟨L, hL⟩ : ∃ L, R.st = L := ⟨_, rfl⟩
  rw [hL] at s1 hv hl ⊢
  obtain ⟨m, hm⟩ : ∃ m, L.length = m := ⟨_, rfl⟩
  rw [hm] at hv hl
  subst hv
  have hmI : (m : Int) ≤ 100000 := by omega
  have s1H := hidP s1
  have hmH := hidP hm
  clear c0 c2 f s0 s1 s2 n d hE hm hL
  go_enter Tryd.func25, Tryd.ntmps25
  go_wp2_with fail
  go_loop [5] (fun k => ∃ j : Nat, j ≤ m ∧ k = .int .i64 j ∧ Hid (∀ e ∈ L.take j, e.1 ≠ s)) (fun k => m - (intOf k).toNat)
  case atStart => exact ⟨0, Nat.zero_le _, rfl, hidP (fun e he => by simp at he)⟩
  case round =>
    obtain ⟨j, hj, rfl, hI⟩ := hrel
    by_cases hlt : j < m
    · obtain ⟨x, hx⟩ : ∃ x, L[j]? = some x := ⟨_, List.getElem?_eq_getElem (by have := hmH.out; omega)⟩
      obtain ⟨g, o, cap, hgv, rs⟩ := s1H.out.resolve_left (fun z => by rw [z.2] at hx; cases hx)
      simp only [Value.slice.injEq] at hgv
      obtain ⟨rfl, _, rfl⟩ := hgv
      obtain ⟨r0, r1⟩ := rs.ra.at hx
      obtain ⟨xp, hxp⟩ : ∃ z, x.1 = z := ⟨_, rfl⟩
      obtain ⟨xn, hxn⟩ : ∃ z, x.2 = z := ⟨_, rfl⟩
      rw [hxp] at r0
      rw [hxn] at r1
      have hjI : (j : Int) < (m : Int) := by omega
      have hjc : j < c := by have := rs.le; have := hmH.out; omega
      by_cases hb : xp = s
      · have hbb : (xp.toList == s.toList) = true := by rw [beqT]; simpa using hb
        have fin : Hid (rSt s L = xn) := (rSt_at hI.out hx (hxp.trans hb)).trans hxn
        clear rs hx hxp hxn hI hb
        go_wp2_with fail
        go_ret
        exact ⟨by rw [fin.out]; rfl, rfl⟩
      · have hbb : (xp.toList == s.toList) = false := by rw [beqT]; simpa using hb
        have nx : Hid (∀ e ∈ L.take (j + 1), e.1 ≠ s) := fun e he => by
          rw [take_succ_get hx] at he
          rcases List.mem_append.1 he with z | z
          · exact hI.out e z
          · have : e = x := by simpa using z
            rw [this, hxp]; exact hb
        clear rs hx hxp hxn hI hb
        go_wp2_with fail
        exact ⟨⟨j + 1, by omega, by go_num, nx⟩, by simp [intOf]; omega⟩
    · obtain rfl : j = m := by omega
      have hjI : ¬ (j : Int) < (j : Int) := by omega
      have hjd : decide ((j : Int) < (j : Int)) = false := decide_eq_false hjI
      have fin : Hid (rSt s L = 0) := rSt_no (by have := hI.out; rwa [List.take_of_length_le (by have := hmH.out; omega)] at this)
      clear hI
      go_wp2_with fail
      go_ret
      exact ⟨by rw [fin.out]; rfl, rfl⟩
/-- Which mount is on a path. -/
def mIx (s : ByteArray) : List (ByteArray × ByteArray) → Option Nat
  | [] => none
  | (_, w) :: r => if w = s then some 0 else (mIx s r).map (· + 1)
theorem mIx_at {s : ByteArray} : ∀ {l : List (ByteArray × ByteArray)} {j : Nat} {e : ByteArray × ByteArray}, (∀ z ∈ l.take j, z.2 ≠ s) → l[j]? = some e → e.2 = s → mIx s l = some j
  | (t, w) :: l, 0, e, _, h, he => by simp at h; subst h; simp only at he; simp [mIx, he]
  | (t, w) :: l, j + 1, e, g, h, he => by
    have h0 : ¬ w = s := g (t, w) (by simp)
    simp only [mIx, if_neg h0]
    rw [mIx_at (j := j) (fun z hz => g z (by simp [hz])) (by simpa using h) he]; rfl
theorem mIx_no {s : ByteArray} : ∀ {l : List (ByteArray × ByteArray)}, (∀ z ∈ l, z.2 ≠ s) → mIx s l = none
  | [], _ => rfl
  | (t, w) :: l, g => by
    have h0 : ¬ w = s := g (t, w) (by simp)
    simp only [mIx, if_neg h0]
    rw [mIx_no (fun z hz => g z (List.mem_cons_of_mem _ hz))]; rfl
def mInt (s : ByteArray) (l : List (ByteArray × ByteArray)) : Int := match mIx s l with | some j => (j : Nat) | none => -1
set_option maxRecDepth 100000 in
set_option maxHeartbeats 4000000 in
theorem rmounted_any {W : World} {rb : Nat} {E : Nat → Prop} {R : Rf} (h : Rt W rb E R) (hl : R.mt.length ≤ 100000) (s : ByteArray) :
    Calls Tryd.prog 36 #[.pointer (some ⟨rb, 0, none⟩), .string s] W fun e V => e = .returned (.int .i64 (mInt s R.mt)) ∧ V = W := by
  obtain ⟨vl, vs, vm, ⟨c0, c1, c2⟩, f, ⟨s0, s1, s2⟩, n, d, hE⟩ := h
  obtain ⟨p, c, hv⟩ := s2.shape
  obtain ⟨L, hL⟩ : ∃ L, R.mt = L := ⟨_, rfl⟩
  rw [hL] at s2 hv hl ⊢
  obtain ⟨m, hm⟩ : ∃ m, L.length = m := ⟨_, rfl⟩
  rw [hm] at hv hl
  subst hv
  have hmI : (m : Int) ≤ 100000 := by omega
  have s2H := hidP s2
  have hmH := hidP hm
  clear c0 c1 f s0 s1 s2 n d hE hm hL
  go_enter Tryd.func36, Tryd.ntmps36
  go_wp2_with fail
  go_loop [5] (fun k => ∃ j : Nat, j ≤ m ∧ k = .int .i64 j ∧ Hid (∀ e ∈ L.take j, e.2 ≠ s)) (fun k => m - (intOf k).toNat)
  case atStart => exact ⟨0, Nat.zero_le _, rfl, hidP (fun e he => by simp at he)⟩
  case round =>
    obtain ⟨j, hj, rfl, hI⟩ := hrel
    by_cases hlt : j < m
    · obtain ⟨x, hx⟩ : ∃ x, L[j]? = some x := ⟨_, List.getElem?_eq_getElem (by have := hmH.out; omega)⟩
      obtain ⟨g, o, cap, hgv, rs⟩ := s2H.out.resolve_left (fun z => by rw [z.2] at hx; cases hx)
      simp only [Value.slice.injEq] at hgv
      obtain ⟨rfl, _, rfl⟩ := hgv
      obtain ⟨_, r1⟩ := rs.ra.at hx
      obtain ⟨xp, hxp⟩ : ∃ z, x.2 = z := ⟨_, rfl⟩
      rw [hxp] at r1
      have hjI : (j : Int) < (m : Int) := by omega
      have hjc : j < c := by have := rs.le; have := hmH.out; omega
      by_cases hb : xp = s
      · have hbb : (xp.toList == s.toList) = true := by rw [beqT]; simpa using hb
        have fin : Hid (mInt s L = (j : Nat)) := by
          have := mIx_at hI.out hx (hxp.trans hb)
          show mInt s L = _
          unfold mInt
          rw [this]
        clear rs hx hxp hI hb
        go_wp2_with fail
        go_ret
        exact ⟨by rw [fin.out]; rfl, rfl⟩
      · have hbb : (xp.toList == s.toList) = false := by rw [beqT]; simpa using hb
        have nx : Hid (∀ e ∈ L.take (j + 1), e.2 ≠ s) := fun e he => by
          rw [take_succ_get hx] at he
          rcases List.mem_append.1 he with z | z
          · exact hI.out e z
          · have : e = x := by simpa using z
            rw [this, hxp]; exact hb
        clear rs hx hxp hI hb
        go_wp2_with fail
        exact ⟨⟨j + 1, by omega, by go_num, nx⟩, by simp [intOf]; omega⟩
    · obtain rfl : j = m := by omega
      have hjI : ¬ (j : Int) < (j : Int) := by omega
      have hjd : decide ((j : Int) < (j : Int)) = false := decide_eq_false hjI
      have fin : Hid (mInt s L = -1) := by
        have := mIx_no (s := s) (l := L) (by have := hI.out; rwa [List.take_of_length_le (by have := hmH.out; omega)] at this)
        show mInt s L = _
        unfold mInt
        rw [this]
      clear hI
      go_wp2_with fail
      go_ret
      exact ⟨by rw [fin.out]; rfl, rfl⟩
end Go.Proofs.YtnniahlacfflmaaDoor
