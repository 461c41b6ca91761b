/- TreePlays: mark, Mounted, Mount of the document's tree. -/
import Derived.Test.YtnniahlacfflmaaDoorRT2
import Derived.Test.YtnniahlacfflmaaDoorRD
import Derived.Test.YtnniahlacfflmaaDoorRF
namespace Go.Proofs.YtnniahlacfflmaaDoor
open Go.RowKit Go.Shelf
attribute [local go_sem] Oper.semAt_some
theorem cut_at {α : Type} {L : List α} {j : Nat} {x : α} (hx : L[j]? = some x) : L = L.take j ++ x :: L.drop (j + 1) := by
  obtain ⟨h, e⟩ := List.getElem?_eq_some_iff.1 hx
  conv => lhs; rw [← List.take_append_drop j L, List.drop_eq_getElem_cons h, e]
theorem Rs1.RS.set2 {w : World} {g o c : Nat} {L : List (ByteArray × Int)} (h : Rs1.RS w g o c L) {j : Nat} {x : ByteArray × Int} (hx : L[j]? = some x) (n : Int) : Rs1.RS (w.setCell ⟨g, o + j * 2 + 1, none⟩ (.int .i64 n)) g o c (L.take j ++ (x.1, n) :: L.drop (j + 1)) := by
  have hj := (List.getElem?_eq_some_iff.1 hx).1
  have cv := Cv.one w g (o + j * 2 + 1) (.int .i64 n)
  have hle := h.le
  have ha := h.ra
  rw [cut_at hx] at ha
  obtain ⟨a1, a2⟩ := Rs1.RA.app.1 ha
  obtain ⟨_, a3⟩ := Rs1.RA.app.1 (show Rs1.RA w g (o + (L.take j).length * 2) ([x] ++ L.drop (j + 1)) from a2)
  have lt : (L.take j).length = j := by rw [List.length_take]; omega
  rw [lt] at a3
  obtain ⟨r0, r1⟩ := h.ra.at hx
  refine ⟨by simp; omega, h.rm.cv cv, Rs1.RA.app.2 ⟨a1.cv cv (fun i _ hi s => by rw [lt] at hi; have := s.2; omega), ?_⟩⟩
  rw [lt]
  refine Rs1.RA.app (xs := [(x.1, n)]).2 ⟨fun i u hi => ?_, a3.cv cv (fun i hi _ s => by have := s.2; simp at hi; omega)⟩
  match i, hi with
  | 0, hi => simp [Rs1.flat] at hi; subst hi; exact cv.cell (fun s => by have := s.2; omega) r0
  | 1, hi => simp [Rs1.flat] at hi; subst hi; exact World.cell?_setCell_same _ _ _ r1
  | i + 2, hi => simp [Rs1.flat] at hi
theorem rMark_at {s : ByteArray} : ∀ {l : List (ByteArray × Int)} {j : Nat} {e : ByteArray × Int}, (∀ z ∈ l.take j, z.1 ≠ s) → l[j]? = some e → e.1 = s → rMark s l = l.take j ++ (e.1, e.2 + 1) :: l.drop (j + 1)
  | (p, n) :: l, 0, e, _, h, he => by simp at h; subst h; simp only at he; simp [rMark, he]
  | (p, n) :: l, j + 1, e, g, h, he => by
    have h0 : ¬ p = s := g (p, n) (by simp)
    simp only [rMark, if_neg h0]
    rw [rMark_at (j := j) (fun z hz => g z (by simp [hz])) (by simpa using h) he]; rfl
theorem rMark_no {s : ByteArray} : ∀ {l : List (ByteArray × Int)}, (∀ z ∈ l, z.1 ≠ s) → rMark s l = l ++ [(s, 1)]
  | [], _ => rfl
  | (p, n) :: l, g => by
    have h0 : ¬ p = s := g (p, n) (by simp)
    simp only [rMark, if_neg h0]
    rw [rMark_no (fun z hz => g z (List.mem_cons_of_mem _ hz))]; rfl
set_option maxRecDepth 100000 in
set_option maxHeartbeats 4000000 in
theorem rmark_any {W : World} {rb : Nat} {E : Nat → Prop} {R : Rf} (h : Rt W rb E R) (hl : R.st.length ≤ 100000) (hb : ∀ e ∈ R.st, 0 ≤ e.2 ∧ e.2 ≤ 1000000) (s : ByteArray) :
    Calls Tryd.prog 34 #[.pointer (some ⟨rb, 0, none⟩), .string s] W fun e V => e = .returned (.tuple #[]) ∧ Rto W rb E { R with st := rMark s R.st } V := by
  have hRH := hidP h
  obtain ⟨vl, vs, vm, ⟨c0, c1, c2⟩, f, ⟨s0, s1, s2⟩, n, d, hE⟩ := h
  obtain ⟨p, c, hv⟩ := s1.shape
  obtain ⟨L, hL⟩ : ∃ L, R.st = L := ⟨_, rfl⟩
  rw [hL] at s1 hv hl hb ⊢
  obtain ⟨m, hm⟩ : ∃ m, L.length = m := ⟨_, rfl⟩
  rw [hm] at hv hl
  subst hv
  have hmI : (m : Int) ≤ 100000 := by omega
  have s1H := hidP s1
  have hmH := hidP hm
  have hbH := hidP hb
  have c1H := hidP c1
  have f1 := f 1 (by omega)
  clear c0 c2 f s0 s1 s2 n d hE hm hb
  go_enter Tryd.func34, Tryd.ntmps34
  go_wp2_with fail
  go_loop [4] (fun k => ∃ j : Nat, j ≤ m ∧ k = .int .i64 j ∧ Hid (∀ e ∈ L.take j, e.1 ≠ s)) (fun k => m - (intOf k).toNat)
  case atStart => exact ⟨0, Nat.zero_le _, rfl, hidP (fun e he => by simp at he)⟩
  case round =>
    obtain ⟨j, hj, rfl, hI⟩ := hrel
    by_cases hlt : j < m
    · obtain ⟨x, hx⟩ : ∃ x, L[j]? = some x := ⟨_, List.getElem?_eq_getElem (by have := hmH.out; omega)⟩
      obtain ⟨g, o, cap, hgv, rs⟩ := s1H.out.resolve_left (fun z => by rw [z.2] at hx; cases hx)
      simp only [Value.slice.injEq] at hgv
      obtain ⟨rfl, _, rfl⟩ := hgv
      obtain ⟨r0, r1⟩ := rs.ra.at hx
      obtain ⟨xp, hxp⟩ : ∃ z, x.1 = z := ⟨_, rfl⟩
      obtain ⟨xn, hxn⟩ : ∃ z, x.2 = z := ⟨_, rfl⟩
      rw [hxp] at r0
      rw [hxn] at r1
      have hjI : (j : Int) < (m : Int) := by omega
      have hjc : j < c := by have := rs.le; have := hmH.out; omega
      by_cases hb : xp = s
      · have hbb : (xp.toList == s.toList) = true := by rw [beqT]; simpa using hb
        have hbd := hbH.out x (List.mem_of_getElem? hx)
        rw [hxn] at hbd
        have hb1 : 0 ≤ xn := hbd.1
        have hb2 : xn ≤ 1000000 := hbd.2
        obtain ⟨V, hV⟩ : ∃ V, W.setCell ⟨g, o + j * 2 + 1, none⟩ (.int .i64 (xn + 1)) = V := ⟨_, rfl⟩
        have fz : W.frozen? ⟨g, o + j * 2 + 1, none⟩ = false := by have := rs.rm.fz (j * 2 + 1) (by omega); rw [← Nat.add_assoc] at this; exact this
        have fin : Hid (Rto W rb E { R with st := rMark s L } V) := by
          have e := rMark_at hI.out hx (hxp.trans hb)
          have q := rs.set2 hx (xn + 1)
          rw [hV] at q
          rw [hxn] at e
          rw [← e] at q
          have cv := Cv.one W g (o + j * 2 + 1) (.int .i64 (xn + 1))
          rw [hV] at cv
          have len : (rMark s L).length = m := by rw [e, ← hmH.out]; conv => rhs; rw [cut_at hx]
                                                  simp
          exact hRH.out.in1 c1H.out (cv.mv.mono fun k _ z => by obtain ⟨i, z, _⟩ := z; rw [z]; rfl) (.inr ⟨g, o, _, by rw [len], q⟩)
        clear rs hx hxp hxn hI hb hbd
        go_wp2_with (rw [hV])
        refine bodyPost_ret (v := .tuple #[]) (by simp [results, Tryd.results34, go_sem]) rfl ⟨rfl, fin.out⟩
      · have hbb : (xp.toList == s.toList) = false := by rw [beqT]; simpa using hb
        have nx : Hid (∀ e ∈ L.take (j + 1), e.1 ≠ s) := fun e he => by
          rw [take_succ_get hx] at he
          rcases List.mem_append.1 he with z | z
          · exact hI.out e z
          · have : e = x := by simpa using z
            rw [this, hxp]; exact hb
        clear rs hx hxp hxn hI hb
        go_wp2_with fail
        exact ⟨⟨j + 1, by omega, by go_num, nx⟩, by simp [intOf]; omega⟩
    · obtain rfl : j = m := by omega
      have hjI : ¬ (j : Int) < (j : Int) := by omega
      have hjd : decide ((j : Int) < (j : Int)) = false := decide_eq_false hjI
      have e : rMark s L = L ++ [(s, 1)] := rMark_no (by have := hI.out; rwa [List.take_of_length_le (by have := hmH.out; omega)] at this)
      obtain ⟨B, hB⟩ : ∃ B, W.heap.size = B := ⟨_, rfl⟩
      obtain ⟨A, hA⟩ : ∃ A, W.alloc (.cells #[.string s, .int .i64 1] 78) = A := ⟨_, rfl⟩
      obtain ⟨v', X, hr, sv, mv, at2⟩ := s1H.out.push (s, 1) (by have := hmH.out; omega) hB
      have hr' : (Builtin.append_ #[44, 44] 44 #[.slice p j c, .slice (some ⟨B, 0, none⟩) 1 1]).run Tryd.prog A = .ok v' X := by rw [← hA]; exact hr
      obtain ⟨V, hV⟩ : ∃ V, X.setCell ⟨rb, 1, none⟩ v' = V := ⟨_, rfl⟩
      have nr : ¬ nbk (.slice p j c) = some rb := by
        obtain ⟨vl, vs, vm, ⟨_, c1, _⟩, _, _, ⟨_, n1, _⟩, _⟩ := hRH.out
        rw [c1H.out] at c1
        injection c1 with c1
        rw [c1]; exact n1
      have x1 : X.cell? ⟨rb, 1, none⟩ = some (.slice p j c) := mv.cell (a := ⟨rb, 1, none⟩) nr c1H.out
      have x2 : X.frozen? ⟨rb, 1, none⟩ = false := (mv.froz (a := ⟨rb, 1, none⟩) nr (cell_lt c1H.out)).trans f1
      have fin : Hid (Rto W rb E { R with st := rMark s L } V) := by
        rw [e]
        exact hRH.out.put1 c1H.out mv (by rw [← hL] at sv ⊢; exact sv) (new_of at2) hV
      obtain ⟨p2, c2, hv2⟩ := sv.shape
      subst hv2
      obtain ⟨n2, hn2⟩ : ∃ n2, (L ++ [(s, (1 : Int))]).length = n2 := ⟨_, rfl⟩
      rw [hn2] at hr' hV
      clear hI e hr sv mv at2 nr hn2 f1
      go_wp2_with (first | rw [hA] | rw [hV] | (at_builtin; refine wpList_append_run rfl _ _ 44 rfl _ _ _ _ rfl rfl hr' ?_))
      go_end0
      exact ⟨rfl, fin.out⟩
theorem rMt_ix {s : ByteArray} : ∀ {l : List (ByteArray × ByteArray)}, (∀ j, mIx s l = some j → ∃ t, l[j]? = some (t, s) ∧ rMt s l = some t ∧ rCut s l = l.take j ++ l.drop (j + 1)) ∧ (mIx s l = none → rMt s l = none)
  | [] => ⟨fun j h => (by cases h), fun _ => rfl⟩
  | (t, w) :: l => by
    obtain ⟨h1, h2⟩ := rMt_ix (s := s) (l := l)
    by_cases e : w = s
    · subst e
      simp only [mIx, rMt, rCut, if_pos]
      refine ⟨fun j h => ?_, fun h => by cases h⟩
      injection h with h
      subst h
      exact ⟨t, rfl, rfl, by simp⟩
    · simp only [mIx, rMt, rCut, if_neg e]
      refine ⟨fun j h => ?_, fun h => h2 (by cases hm : mIx s l with
        | none => rfl
        | some q => rw [hm] at h; cases h)⟩
      cases hm : mIx s l with
      | none => rw [hm] at h; cases h
      | some q =>
        rw [hm] at h
        simp only [Option.map_some, Option.some.injEq] at h
        subst h
        obtain ⟨t', a, b, c⟩ := h1 q hm
        exact ⟨t', by simpa using a, b, by rw [c]; simp⟩
set_option maxRecDepth 100000 in
set_option maxHeartbeats 4000000 in
theorem rMounted_any {W : World} {rb : Nat} {E : Nat → Prop} {R : Rf} (h : Rt W rb E R) (hl : R.mt.length ≤ 100000) (s : ByteArray) :
    Calls Tryd.prog 21 #[.pointer (some ⟨rb, 0, none⟩), .string s] W fun e V => e = .returned (.tuple #[.string ((rMt s R.mt).getD ⟨#[]⟩), .bool (rMt s R.mt).isSome]) ∧ V = W := by
  have hM := rmounted_any h hl s
  obtain ⟨vl, vs, vm, ⟨c0, c1, c2⟩, f, ⟨s0, s1, s2⟩, n, d, hE⟩ := h
  obtain ⟨p, c, hv⟩ := s2.shape
  obtain ⟨L, hL⟩ : ∃ L, R.mt = L := ⟨_, rfl⟩
  rw [hL] at s2 hv hl hM ⊢
  obtain ⟨m, hm⟩ : ∃ m, L.length = m := ⟨_, rfl⟩
  rw [hm] at hv hl
  subst hv
  obtain ⟨ix1, ix2⟩ := rMt_ix (s := s) (l := L)
  cases hi : mIx s L with
  | none =>
    have e := ix2 hi
    have em : mInt s L = -1 := by unfold mInt; rw [hi]
    rw [em] at hM
    rw [e]
    have hMH := hidP hM
    clear hM ix1 ix2 hi e em c0 c1 c2 f s0 s1 s2 n d hE hm hL
    go_enter Tryd.func21, Tryd.ntmps21
    go_wp2_with fail
    refine hMH.out.mono ?_
    rintro e V ⟨rfl, rfl⟩
    clear hMH
    go_wp2_with fail
    refine bodyPost_ret (v := .tuple #[.string ⟨#[]⟩, .bool false]) (by simp [results, Tryd.results21, go_sem]) rfl ⟨rfl, rfl⟩
  | some j =>
    obtain ⟨t, a, b, _⟩ := ix1 j hi
    have em : mInt s L = (j : Nat) := by unfold mInt; rw [hi]
    rw [em] at hM
    rw [b]
    have hMH := hidP hM
    have hj := (List.getElem?_eq_some_iff.1 a).1
    obtain ⟨g, o, cap, hgv, rs⟩ := s2.resolve_left (fun z => by rw [z.2] at a; cases a)
    simp only [Value.slice.injEq] at hgv
    obtain ⟨rfl, _, rfl⟩ := hgv
    obtain ⟨r0, _⟩ := rs.ra.at a
    simp only at r0
    have hjI : (j : Int) < (m : Int) := by omega
    have hj0 : ¬ (j : Int) < 0 := by omega
    have hj1 : (0 : Int) ≤ (j : Int) := by omega
    have hjd : decide ((j : Int) < 0) = false := decide_eq_false hj0
    have hjm : j < m := by omega
    have hjc : j < c := by have := rs.le; omega
    clear hM ix1 ix2 hi em c0 c1 f s0 s1 s2 n d hE hm hL a b rs
    go_enter Tryd.func21, Tryd.ntmps21
    go_wp2_with fail
    refine hMH.out.mono ?_
    rintro e V ⟨rfl, rfl⟩
    clear hMH
    go_wp2_with fail
    refine bodyPost_ret (v := .tuple #[.string t, .bool true]) (by simp [results, Tryd.results21, go_sem]) rfl ⟨rfl, rfl⟩
end Go.Proofs.YtnniahlacfflmaaDoor
