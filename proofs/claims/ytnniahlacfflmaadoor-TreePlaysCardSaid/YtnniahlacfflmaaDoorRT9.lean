/- TreePlays: Touch, New of the document's tree; what it tells, beside the plain tree of the code. -/
import Derived.Test.YtnniahlacfflmaaDoorRT8
namespace Go.Proofs.YtnniahlacfflmaaDoor
open Go.RowKit Go.Shelf
attribute [local go_sem] Oper.semAt_some
def rTouchP (R : Rf) (s : ByteArray) : Int × Rf := if isP s = false then (111, R) else if thF s R.l = false then (110, R) else (0, { R with st := rMark s R.st })
set_option maxRecDepth 100000 in
set_option maxHeartbeats 2000000 in
theorem rtouch_any {W : World} {rb : Nat} {E : Nat → Prop} {R : Rf} (h : Rt W rb E R) (hl : R.l.length ≤ 100000) (hst : R.st.length ≤ 90000) (hb : ∀ e ∈ R.st, 0 ≤ e.2 ∧ e.2 ≤ 900000) (s : ByteArray) (hz : s.size ≤ 100000) :
    Calls Tryd.prog 13 #[.pointer (some ⟨rb, 0, none⟩), .string s] W fun e V => e = .returned (.int .i64 (rTouchP R s).1) ∧ Rto W rb E (rTouchP R s).2 V := by
  have hP := hidP (rispath_any s W hz)
  obtain ⟨ip, hip⟩ : ∃ ip, isP s = ip := ⟨_, rfl⟩
  rw [hip] at hP
  cases ip with
  | false =>
    have er : rTouchP R s = (111, R) := by unfold rTouchP; rw [if_pos hip]
    rw [er]
    have fin := hidP (h.same (Below.refl _ _))
    clear h hip er hb
    go_enter Tryd.func13, Tryd.ntmps13
    go_wp2_with fail
    refine hP.out.mono ?_
    rintro e w2 ⟨rfl, rfl⟩
    clear hP
    go_wp2_with fail
    go_ret
    exact ⟨rfl, fin.out⟩
  | true =>
    have hE := rexists_any h hl s
    have hSame : Hid (∀ V, Below W.heap.size W V → Rto W rb E R V) := fun V b => h.same b
    obtain ⟨ok, hok⟩ : ∃ ok, thF s R.l = ok := ⟨_, rfl⟩
    rw [hok] at hE
    have hEH := hidP hE
    cases ok with
    | false =>
      have er : rTouchP R s = (110, R) := by unfold rTouchP; rw [if_neg (by rw [hip]; decide), if_pos hok]
      rw [er]
      clear h hip er hE hok hb
      go_enter Tryd.func13, Tryd.ntmps13
      go_wp2_with fail
      refine hP.out.mono ?_
      rintro e w2 ⟨rfl, hw⟩
      replace hw := hw.symm
      subst hw
      clear hP
      go_wp2_with fail
      refine hEH.out.mono ?_
      rintro e w3 ⟨rfl, b3⟩
      have fin := hidP (hSame.out w3 b3)
      clear hEH b3 hSame
      go_wp2_with fail
      go_ret
      exact ⟨rfl, fin.out⟩
    | true =>
      have er : rTouchP R s = (0, { R with st := rMark s R.st }) := by unfold rTouchP; rw [if_neg (by rw [hip]; decide), if_neg (by rw [hok]; decide)]
      rw [er]
      have hM : Hid (∀ V, Below W.heap.size W V → Calls Tryd.prog 34 #[.pointer (some ⟨rb, 0, none⟩), .string s] V fun e V2 => e = .returned (.tuple #[]) ∧ Rto W rb E { R with st := rMark s R.st } V2) := fun V b => by
        refine (rmark_any (h.below b) (by omega) (fun e he => by have := hb e he; omega) s).mono ?_
        rintro e V2 ⟨rfl, E', g1, g2, g3⟩
        exact ⟨rfl, E', g1, (Mv.below b).trans' g2, Gr.mono b.size g3⟩
      clear h hip er hE hok hb hSame
      go_enter Tryd.func13, Tryd.ntmps13
      go_wp2_with fail
      refine hP.out.mono ?_
      rintro e w2 ⟨rfl, hw⟩
      replace hw := hw.symm
      subst hw
      clear hP
      go_wp2_with fail
      refine hEH.out.mono ?_
      rintro e w3 ⟨rfl, b3⟩
      have hM1 := hidP (hM.out w3 b3)
      clear hEH b3 hM
      go_wp2_with fail
      refine hM1.out.mono ?_
      rintro e w4 ⟨rfl, h4⟩
      have fin := hidP h4
      clear hM1 h4
      go_wp2_with fail
      go_ret
      exact ⟨rfl, fin.out⟩
set_option maxRecDepth 100000 in
set_option maxHeartbeats 2000000 in
theorem rnewt_any (w : World) : Calls Tryd.prog 9 #[] w fun e V => e = .returned (.pointer (some ⟨w.heap.size + 1, 0, none⟩)) ∧ (∃ E, Rt V (w.heap.size + 1) E ⟨[(rootS, true)], [], []⟩ ∧ ∀ k, E k → w.heap.size ≤ k) ∧ Below w.heap.size w V := by
  obtain ⟨N, hN⟩ : ∃ N, w.heap.size = N := ⟨_, rfl⟩
  obtain ⟨A, hA⟩ : ∃ A, w.alloc (.cells #[.string ⟨#[47]⟩, .bool true] 49) = A := ⟨_, rfl⟩
  obtain ⟨B, hB⟩ : ∃ B, A.alloc (.cells #[.slice (some ⟨N, 0, none⟩) 1 1, .slice none 0 0, .slice none 0 0] 47) = B := ⟨_, rfl⟩
  have bA : Below w.heap.size w A := by rw [← hA]; exact (Below.refl _ _).alloc (Nat.le_refl _) _
  have bB : Below A.heap.size A B := by rw [← hB]; exact (Below.refl _ _).alloc (Nat.le_refl _) _
  have sA : A.heap.size = N + 1 := by rw [← hA]; simp [hN]
  have ca : ∀ j u, #[Value.string ⟨#[47]⟩, .bool true][j]? = some u → B.cell? ⟨N, j, none⟩ = some u := fun j u hj => bcell bB (by omega) (by rw [← hA]; exact cell_at hN hj)
  have cb : ∀ j u, #[Value.slice (some ⟨N, 0, none⟩) 1 1, .slice none 0 0, .slice none 0 0][j]? = some u → B.cell? ⟨N + 1, j, none⟩ = some u := fun j u hj => by rw [← hB]; exact cell_at sA hj
  have fa : ∀ j, B.frozen? ⟨N, j, none⟩ = false := fun j => (bfroz bB (by omega)).trans (by rw [← hA]; exact froz_new hN)
  have fb : ∀ j, B.frozen? ⟨N + 1, j, none⟩ = false := fun j => by rw [← hB]; exact froz_new sA
  have sB : N < B.heap.size := by have := bB.size; omega
  have fin : Hid ((∃ E, Rt B (N + 1) E ⟨[(rootS, true)], [], []⟩ ∧ ∀ k, E k → N ≤ k) ∧ Below N w B) := by
    rw [hN] at bA
    refine ⟨⟨fun k => k = N + 1 ∨ nbk (.slice (some ⟨N, 0, none⟩) 1 1) = some k ∨ nbk (.slice none 0 0) = some k ∨ nbk (.slice none 0 0) = some k, ⟨.slice (some ⟨N, 0, none⟩) 1 1, .slice none 0 0, .slice none 0 0, ⟨cb 0 _ rfl, cb 1 _ rfl, cb 2 _ rfl⟩, fun j _ => fb j, ⟨.inr ⟨N, 0, 1, rfl, Nat.le_refl _, ⟨sB, by unfold maxLen; decide, fun j hj => ?_, fun j _ => by rw [Nat.zero_add]; exact fa j⟩, fun j u hj => ?_⟩, .inl ⟨rfl, rfl⟩, .inl ⟨rfl, rfl⟩⟩, ⟨fun e => by have e' : N = N + 1 := Option.some.inj e; omega, (fun e => by cases e), (fun e => by cases e)⟩, fun k => ⟨fun _ => ⟨(fun e => by cases e), (fun e => by cases e)⟩, (fun e => by cases e)⟩, fun k => Iff.rfl⟩, fun k hk => ?_⟩, bA.trans (bB.mono (by omega))⟩
    · rw [Nat.zero_add]
      match j, hj with
      | 0, _ => rw [ca 0 _ rfl]; rfl
      | 1, _ => rw [ca 1 _ rfl]; rfl
    · rw [Nat.zero_add]
      match j, hj with
      | 0, hj => simp [Rf1.flat] at hj; subst hj; exact ca 0 _ rfl
      | 1, hj => simp [Rf1.flat] at hj; subst hj; exact ca 1 _ rfl
      | j + 2, hj => simp [Rf1.flat] at hj
    · rcases hk with e | e | e | e
      · omega
      · have e' : N = k := Option.some.inj e; omega
      · cases e
      · cases e
  clear bA bB ca cb fa fb sB
  go_enter Tryd.func9, Tryd.ntmps9
  go_wp2_with (first | rw [hA] | rw [hB])
  go_ret
  exact ⟨by first | rfl | (rw [hN]; rfl), by rw [hN]; exact fin.out⟩
/-! What the document's tree tells, by the plain tree of the code. -/
theorem posF_ks {P : Pl} {R : Rf} (a : Ag P R) (s : ByteArray) : posF s R.l = posS s P.ks := by
  unfold posF posS
  rw [a.l, List.takeWhile_map, List.length_map]
  rfl
theorem at_pos {P : Pl} (h : Wf P) {s : ByteArray} (hs : s ∈ P.ks) : P.ks[posS s P.ks]? = some s := by
  have key : ∀ {l : List ByteArray}, srt l → s ∈ l → l[posS s l]? = some s := by
    intro l
    induction l with
    | nil => intro _ h; cases h
    | cons x l ih =>
      intro hq hm
      obtain ⟨h1, h2⟩ := List.pairwise_cons.1 hq
      unfold posS
      by_cases e : x = s
      · subst e
        rw [List.takeWhile_cons, sLt_irr]; rfl
      · have hm' : s ∈ l := (List.mem_cons.1 hm).resolve_left (fun z => e z.symm)
        rw [List.takeWhile_cons, h1 s hm', if_pos rfl, List.length_cons, List.getElem?_cons_succ]
        exact ih h2 hm'
  exact key h.srt hs
theorem thF_ks {P : Pl} {R : Rf} (h : Wf P) (a : Ag P R) (s : ByteArray) : thF s R.l = inS s P.ks := by
  unfold thF
  rw [posF_ks a s, a.l, List.getElem?_map, Option.map_map]
  by_cases hs : s ∈ P.ks
  · rw [at_pos h hs, inS_iff.2 hs]; simp
  · rw [inS_no.2 hs]
    refine decide_eq_false fun z => ?_
    cases e : P.ks[posS s P.ks]? with
    | none => rw [e] at z; cases z
    | some x =>
      rw [e] at z
      have : x = s := by simpa using z
      exact hs (this ▸ List.mem_of_getElem? e)
theorem flag_ks {P : Pl} {R : Rf} (h : Wf P) (a : Ag P R) {s : ByteArray} (hs : inS s P.ks = true) : ((R.l[posF s R.l]?).map (·.2)).getD false = (P.nd s).f := by
  rw [posF_ks a s, a.l, List.getElem?_map, at_pos h (inS_iff.1 hs)]; rfl
theorem mIx_ks {P : Pl} {R : Rf} (a : Ag P R) (s : ByteArray) : (mIx s R.mt).isSome = (P.nd s).m := by
  obtain ⟨h1, h2⟩ := rMt_ix (s := s) (l := R.mt)
  have := a.mt s
  cases e : mIx s R.mt with
  | none =>
    rw [h2 e] at this
    cases hm : (P.nd s).m with
    | false => rfl
    | true => rw [hm] at this; cases this
  | some j =>
    obtain ⟨t, _, b, _⟩ := h1 j e
    rw [b] at this
    cases hm : (P.nd s).m with
    | false => rw [hm] at this; cases this
    | true => rfl
theorem anyl_ks {P : Pl} {R : Rf} (h : Wf P) (a : Ag P R) {s : ByteArray} (hs : s ∈ P.ks) : (R.l.any fun e => inS s (abv e.1)) = decide (0 < (P.nd s).ins) := by
  rw [Bool.eq_iff_iff, decide_eq_true_iff, h.ins_iff hs, List.any_eq_true, a.l]
  constructor
  · rintro ⟨e, he, hi⟩
    obtain ⟨q, hq, rfl⟩ := List.mem_map.1 he
    exact ⟨q, hq, inS_iff.1 hi⟩
  · rintro ⟨q, hq, hi⟩
    exact ⟨_, List.mem_map.2 ⟨q, hq, rfl⟩, inS_iff.2 hi⟩
theorem anym_ks {P : Pl} {R : Rf} (h : Wf P) (a : Ag P R) {s : ByteArray} (hs : s ∈ P.ks) : (R.mt.any fun e => inS s (abv e.2)) = decide (0 < (P.nd s).un) := by
  rw [Bool.eq_iff_iff, decide_eq_true_iff, h.un_iff a hs, List.any_eq_true]
  constructor
  · rintro ⟨e, he, hi⟩
    exact ⟨e, he, inS_iff.1 hi⟩
  · rintro ⟨e, he, hi⟩
    exact ⟨e, he, inS_iff.2 hi⟩
theorem cut_ks {P : Pl} {R : Rf} (h : Wf P) (a : Ag P R) {s : ByteArray} (hs : s ∈ P.ks) : R.l.take (posF s R.l) ++ R.l.drop (posF s R.l + 1) = R.l.filter fun e => !decide (e.1 = s) := by
  have hp := at_pos h hs
  have e1 : R.l[posF s R.l]? = some (s, (P.nd s).f) := by rw [posF_ks a s, a.l, List.getElem?_map, hp]; rfl
  have nd := srt_nd h.srt
  have e2 : ∀ x ∈ P.ks.take (posS s P.ks) ++ P.ks.drop (posS s P.ks + 1), x ≠ s := by
    have nd2 := nd
    rw [cut_at hp] at nd2
    obtain ⟨_, nd3, nd4⟩ := List.nodup_append.1 nd2
    intro x hx e
    subst e
    rcases List.mem_append.1 hx with z | z
    · exact nd4 x z x (List.mem_cons_self ..) rfl
    · exact (List.nodup_cons.1 nd3).1 z
  have e3 : ∀ e ∈ R.l.take (posF s R.l) ++ R.l.drop (posF s R.l + 1), e.1 ≠ s := by
    intro e he
    rw [posF_ks a s, a.l, ← List.map_take, ← List.map_drop, ← List.map_append] at he
    obtain ⟨q, hq, rfl⟩ := List.mem_map.1 he
    exact e2 q hq
  conv => rhs; rw [cut_at e1]
  rw [List.filter_append, List.filter_cons]
  simp only [decide_true, Bool.not_true, Bool.false_eq_true, if_false]
  rw [List.filter_eq_self.2 (fun e he => by simpa using e3 e (List.mem_append_left _ he)), List.filter_eq_self.2 (fun e he => by simpa using e3 e (List.mem_append_right _ he))]
theorem make_ag {P : Pl} {R : Rf} (h : Wf P) (a : Ag P R) (s : ByteArray) (f : Bool) : (rMakeP R s f).1 = (makeP P s f).1 ∧ Ag (makeP P s f).2 (rMakeP R s f).2 := by
  have hth := thF_ks h a
  unfold rMakeP
  by_cases h1 : isP s = false
  · rw [if_pos h1]; unfold makeP; rw [if_pos h1]; exact ⟨rfl, a⟩
  · rw [if_neg h1, hth s]
    by_cases h2 : inS s P.ks = true
    · rw [if_pos h2]; unfold makeP; rw [if_neg h1, if_pos h2]; exact ⟨rfl, a⟩
    · rw [if_neg h2, hth (fo s)]
      by_cases h3 : inS (fo s) P.ks = false
      · have hf : (P.nd (fo s)).f = false := by rw [h.z (fo s) (inS_no.1 h3)]; rfl
        rw [if_pos h3]; unfold makeP; rw [if_neg h1, if_neg h2, if_pos hf]; exact ⟨rfl, a⟩
      · have h3' : inS (fo s) P.ks = true := by simpa using h3
        rw [if_neg h3, flag_ks h a h3']
        by_cases h4 : (P.nd (fo s)).f = false
        · rw [if_pos h4]; unfold makeP; rw [if_neg h1, if_neg h2, if_pos h4]; exact ⟨rfl, a⟩
        · rw [if_neg h4]
          have := a.make h f (by simpa using h1) (by simpa using h2) (by simpa using h4)
          rw [posF_ks a s]
          refine ⟨?_, this⟩
          unfold makeP; rw [if_neg h1, if_neg h2, if_neg h4]
theorem touch_ag {P : Pl} {R : Rf} (h : Wf P) (a : Ag P R) (s : ByteArray) : (rTouchP R s).1 = (touchP P s).1 ∧ Ag (touchP P s).2 (rTouchP R s).2 := by
  unfold rTouchP
  rw [thF_ks h a s]
  by_cases h1 : isP s = false
  · rw [if_pos h1]; unfold touchP; rw [if_pos h1]; exact ⟨rfl, a⟩
  · rw [if_neg h1]
    by_cases h2 : inS s P.ks = false
    · rw [if_pos h2]; unfold touchP; rw [if_neg h1, if_neg (by rw [h2]; decide)]; exact ⟨rfl, a⟩
    · have h2' : inS s P.ks = true := by simpa using h2
      rw [if_neg h2]
      refine ⟨?_, a.touch (by simpa using h1) h2'⟩
      unfold touchP; rw [if_neg h1, if_pos h2']
theorem remove_ag {P : Pl} {R : Rf} (h : Wf P) (a : Ag P R) (s : ByteArray) : (rRemoveP R s).1 = (removeP P s).1 ∧ Ag (removeP P s).2 (rRemoveP R s).2 := by
  unfold rRemoveP
  rw [thF_ks h a s, mIx_ks a s]
  by_cases h1 : isP s = false
  · rw [if_pos h1]; unfold removeP; rw [if_pos h1]; exact ⟨rfl, a⟩
  · rw [if_neg h1]
    by_cases h2 : inS s P.ks = false
    · rw [if_pos h2]; unfold removeP; rw [if_neg h1, if_neg (by rw [h2]; decide)]; exact ⟨rfl, a⟩
    · have h2' : inS s P.ks = true := by simpa using h2
      rw [if_neg h2, anyl_ks h a (inS_iff.1 h2')]
      by_cases h3 : s = rootS ∨ (P.nd s).m = true
      · rw [if_pos h3]; unfold removeP; rw [if_neg h1, if_pos h2', if_pos (h3.imp id .inr)]; exact ⟨rfl, a⟩
      · rw [if_neg h3]
        by_cases h4 : 0 < (P.nd s).ins
        · rw [if_pos (decide_eq_true h4)]; unfold removeP; rw [if_neg h1, if_pos h2', if_pos (.inr (.inl h4))]; exact ⟨rfl, a⟩
        · have h5 : ¬ (s = rootS ∨ (0 < (P.nd s).ins ∨ (P.nd s).m = true)) := fun z => z.elim (fun e => h3 (.inl e)) (fun z => z.elim h4 (fun e => h3 (.inr e)))
          rw [if_neg (by simpa using h4), cut_ks h a (inS_iff.1 h2')]
          refine ⟨?_, a.remove (by simpa using h1) h2' h5⟩
          unfold removeP; rw [if_neg h1, if_pos h2', if_neg h5]
theorem mount_ag {P : Pl} {R : Rf} (h : Wf P) (a : Ag P R) (t s : ByteArray) : (rMountP R t s).1 = (mountP P t s).1 ∧ Ag (mountP P t s).2 (rMountP R t s).2 := by
  unfold rMountP
  rw [thF_ks h a s, mIx_ks a s]
  by_cases h1 : isP s = false
  · rw [if_pos h1]; unfold mountP; rw [if_pos h1]; exact ⟨rfl, a⟩
  · rw [if_neg h1]
    by_cases h2 : inS s P.ks = false
    · rw [if_pos h2]; unfold mountP; rw [if_neg h1, if_neg (by rw [h2]; decide)]; exact ⟨rfl, a⟩
    · have h2' : inS s P.ks = true := by simpa using h2
      rw [if_neg h2, flag_ks h a h2']
      by_cases h3 : (P.nd s).f = false
      · rw [if_pos h3]; unfold mountP; rw [if_neg h1, if_pos h2', if_pos h3]; exact ⟨rfl, a⟩
      · rw [if_neg h3]
        by_cases h4 : (P.nd s).m = true
        · rw [if_pos h4]; unfold mountP; rw [if_neg h1, if_pos h2', if_neg h3, if_pos h4]; exact ⟨rfl, a⟩
        · rw [if_neg h4]
          refine ⟨?_, a.mount (by simpa using h1) h2' (by simpa using h3) (by simpa using h4)⟩
          unfold mountP; rw [if_neg h1, if_pos h2', if_neg h3, if_neg h4]
theorem unmount_ag {P : Pl} {R : Rf} (h : Wf P) (a : Ag P R) (s : ByteArray) : (rUnmountP R s).1 = (unmountP P s).1 ∧ Ag (unmountP P s).2 (rUnmountP R s).2 := by
  unfold rUnmountP
  rw [mIx_ks a s]
  by_cases h1 : isP s = false
  · rw [if_pos h1]; unfold unmountP; rw [if_pos h1]; exact ⟨rfl, a⟩
  · rw [if_neg h1]
    by_cases h2 : inS s P.ks = true
    · rw [anym_ks h a (inS_iff.1 h2)]
      by_cases h3 : (P.nd s).m = false
      · rw [if_pos h3]; unfold unmountP; rw [if_neg h1, if_pos h2, if_pos h3]; exact ⟨rfl, a⟩
      · rw [if_neg h3]
        by_cases h4 : 0 < (P.nd s).un
        · rw [if_pos (decide_eq_true h4)]; unfold unmountP; rw [if_neg h1, if_pos h2, if_neg h3, if_pos h4]; exact ⟨rfl, a⟩
        · rw [if_neg (by simpa using h4)]
          refine ⟨?_, a.unmount (by simpa using h1) h2 (by simpa using h3) h4⟩
          unfold unmountP; rw [if_neg h1, if_pos h2, if_neg h3, if_neg h4]
    · have hm : (P.nd s).m = false := by rw [h.z s (fun z => h2 (inS_iff.2 z))]; rfl
      rw [if_pos hm]; unfold unmountP; rw [if_neg h1, if_neg h2]; exact ⟨rfl, a⟩
end Go.Proofs.YtnniahlacfflmaaDoor
