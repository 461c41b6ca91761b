/- GroupPlays: the code's plain groups and the reference's agree; the reference's functions, once. -/
import Derived.Test.YtfmceioiglmepaaGV
import Derived.Test.YtfmceioiglmepaaRG16
import Derived.Test.YtfmceioiglmepaaRG12
namespace Go.Proofs.Ytfmceioiglmepaa
open Go.RowKit Go.Shelf Go.Lib Go.Sort
structure Ag (l : Gl) (ns : List ByteArray) (R : Rt) : Prop where
  rel : Rel l R.l
  srt : srtG l
  nse : R.ns = ns
  cap : ∀ x ∈ R.l, capV x.v
  sub : ∀ s ∈ ns, (fnd l s).isSome = true
  wf : Wf l ns
/-- Bounds. -/
structure Bd (R : Rt) (n : Nat) : Prop where
  l : R.l.length ≤ n
  p : ∀ x ∈ R.l, x.ps.length ≤ n
  ns : R.ns.length ≤ n
theorem fnd_some_iff {l : Gl} (s : ByteArray) : (fnd l s).isSome = true ↔ ∃ g ∈ l, g.name = s := by
  cases e : fnd l s with
  | none =>
    constructor
    · intro h; cases h
    · rintro ⟨g, hg, hn⟩; exact absurd hn (fnd_none.1 e g hg)
  | some g => exact ⟨fun _ => ⟨g, fnd_mem e, fnd_name e⟩, fun _ => rfl⟩
theorem gon_fnd {l : Gl} {a : Int} {s : ByteArray} : (fnd (gonL l a) s).isSome = (fnd l s).isSome := by
  unfold gonL
  rw [fnd_map (f := fun g => { g with pids := remI a g.pids }) (fun g => rfl)]
  cases fnd l s <;> rfl
theorem add_fnd {l : Gl} {a : Int} {t s : ByteArray} : (fnd (addL l a t) s).isSome = (fnd l s).isSome := by
  unfold addL
  rw [fnd_map (f := fun g => if g.name = t then { g with pids := insI a g.pids } else g) (fun g => by split <;> rfl)]
  cases fnd l s <;> rfl
theorem noteP_mem {ns : List ByteArray} {s x : ByteArray} (h : x ∈ noteP ns s) : x ∈ ns ∨ x = s := by
  unfold noteP at h
  split at h
  · exact .inl h
  · simpa using h
theorem noteP_len (ns : List ByteArray) (s : ByteArray) : (noteP ns s).length ≤ ns.length + 1 := by
  unfold noteP
  split <;> simp
theorem remI_len (a : Int) (l : List Int) : (remI a l).length ≤ l.length := List.length_filter_le _ _
/-- Gone. -/
theorem Ag.gone {l : Gl} {ns : List ByteArray} {R R' : Rt} {a : Int} {n : Nat} (h : Ag l ns R) (hb : Bd R n) (g : GoneTo R a R') (hw : Wf (gonL l a) (gonN l ns a)) : Ag (gonL l a) (gonN l ns a) R' ∧ Bd R' (n + 1) := by
  obtain ⟨h1, h2, h3⟩ := h.rel.home a
  have hsub : ∀ s ∈ gonN l ns a, (fnd (gonL l a) s).isSome = true := fun s hs => by
    rw [gon_fnd]
    unfold gonN at hs
    cases e : hm l a with
    | none => rw [e] at hs; exact h.sub s hs
    | some q =>
      rw [e] at hs
      simp only at hs
      split at hs
      · rcases noteP_mem hs with t | t
        · exact h.sub s t
        · rw [t]; exact (fnd_some_iff _).2 ⟨q, hm_mem e, rfl⟩
      · exact h.sub s hs
  rcases g with ⟨hn, rfl⟩ | ⟨i, x, v, nv, hx, hh, hc, rfl⟩
  · have e : hm l a = none := by
      rw [hn] at h1
      cases q : hm l a with
      | none => rfl
      | some _ => rw [q] at h1; cases h1
    have e1 : gonL l a = l := by
      unfold gonL
      conv => rhs; rw [← List.map_id l]
      refine List.map_congr_left (fun g hg => ?_)
      rw [remI_none (hm_none.1 e g hg)]
      rfl
    have e2 : gonN l ns a = ns := by unfold gonN; rw [e]
    rw [e1, e2]
    exact ⟨h, Nat.le_trans hb.l (by omega), fun x hx => Nat.le_trans (hb.p x hx) (by omega), Nat.le_trans hb.ns (by omega)⟩
  · have ha : a ∈ x.ps := by
      have := List.find?_some hh
      simpa using this
    refine ⟨⟨h.rel.gone h.wf hx ha v, srt_gon h.srt a, ?_, fun y hy => ?_, hsub, hw⟩, ⟨by rw [List.length_set]; exact Nat.le_trans hb.l (by omega), fun y hy => ?_, ?_⟩⟩
    · show (if remI a x.ps = [] then noteP R.ns x.nm else R.ns) = _
      unfold gonN
      rw [hh] at h2 h3
      cases e : hm l a with
      | none => rw [e] at h3; cases h3
      | some q =>
        rw [e] at h2 h3
        simp only [Option.map_some, Option.getD_some, Option.some.injEq] at h2 h3
        show _ = if remI a q.pids = [] then noteP ns q.name else ns
        rw [h3, h2, h.nse]
    · rcases List.mem_or_eq_of_mem_set hy with q | q
      · exact h.cap y q
      · rw [q]; exact hc
    · rcases List.mem_or_eq_of_mem_set hy with q | q
      · exact Nat.le_trans (hb.p y q) (by omega)
      · rw [q]
        exact Nat.le_trans (remI_len a x.ps) (Nat.le_trans (hb.p x (List.mem_of_getElem? hx)) (by omega))
    · show (if remI a x.ps = [] then noteP R.ns x.nm else R.ns).length ≤ n + 1
      have := hb.ns
      split
      · have := noteP_len R.ns x.nm; omega
      · omega
theorem capN : capV (.slice none 0 0) := ⟨Nat.le_refl _, by unfold maxLen; omega⟩
theorem Ag.thereE {l : Gl} {ns : List ByteArray} {R : Rt} (h : Ag l ns R) (s : ByteArray) : thereR R.l s = (fnd l s).isSome := (h.rel.there h.srt s).1
theorem Ag.makeE {l : Gl} {ns : List ByteArray} {R : Rt} (h : Ag l ns R) (s : ByteArray) : rmakeE R.l s = Go.Proofs.Ytfmceioiglmepaa.makeE l s := by
  unfold rmakeE Go.Proofs.Ytfmceioiglmepaa.makeE
  rw [h.thereE]
theorem rmake_ag (l : Gl) (ns : List ByteArray) (R : Rt) (s : ByteArray) (n : Nat) (w : World) (h : Rs w R) (ag : Ag l ns R) (bd : Bd R n) (hn : n ≤ 900) :
    Calls Try.prog 9 #[.pointer (some ⟨R.b, 0, none⟩), .string s] w fun e w' => e = .returned (.int .i64 (makeE l s)) ∧ ∃ R', RGoes R w R' w' ∧ Bd R' (n + 1) ∧ ∀ b, Wf (if makeE l s = 0 then insG ⟨s, b, []⟩ l else l) ns → Ag (if makeE l s = 0 then insG ⟨s, b, []⟩ l else l) ns R' := by
  have hl := bd.l
  by_cases he : makeE l s = 0
  · refine (rmake_ok R s w h (by omega) (by rw [ag.makeE]; exact he)).mono ?_
    rintro e w' ⟨rfl, lv, g⟩
    rw [he]
    refine ⟨rfl, _, g, ⟨?_, fun x hx => ?_, Nat.le_trans bd.ns (by omega)⟩, fun b hw => ?_⟩
    · simp only [List.length_append, List.length_take, List.length_cons, List.length_drop]
      omega
    · rcases List.mem_append.1 hx with q | q
      · exact Nat.le_trans (bd.p x (List.mem_of_mem_take q)) (by omega)
      · rcases List.mem_cons.1 q with rfl | q
        · simp
        · exact Nat.le_trans (bd.p x (List.mem_of_mem_drop q)) (by omega)
    · rw [if_pos rfl] at hw ⊢
      have hf : fnd l s = none := by
        unfold makeE at he
        split at he
        · cases he
        · split at he
          · cases he
          · rename_i q
            cases e : fnd l s with
            | none => rfl
            | some _ => rw [e] at q; exact absurd rfl q
      refine ⟨ag.rel.ins ag.srt hf (fun g hg q => sLt_tot q (fun e => fnd_none.1 hf g hg e)), srt_ins ag.srt hf, ag.nse, fun x hx => ?_, fun t ht => ?_, hw⟩
      · rcases List.mem_append.1 hx with q | q
        · exact ag.cap x (List.mem_of_mem_take q)
        · rcases List.mem_cons.1 q with rfl | q
          · exact capN
          · exact ag.cap x (List.mem_of_mem_drop q)
      · obtain ⟨g, hg, hgn⟩ := (fnd_some_iff t).1 (ag.sub t ht)
        exact (fnd_some_iff t).2 ⟨g, mem_insG.2 (.inr hg), hgn⟩
  · refine (rmake_bad R s w h (by omega) (by rw [ag.makeE]; exact he)).mono ?_
    rintro e w' ⟨rfl, hb⟩
    refine ⟨by rw [ag.makeE], R, RGoes.below h hb, ⟨Nat.le_trans bd.l (by omega), fun x hx => Nat.le_trans (bd.p x hx) (by omega), Nat.le_trans bd.ns (by omega)⟩, fun b hw => ?_⟩
    rw [if_neg he] at hw ⊢
    exact ag
theorem rremove_ag (l : Gl) (ns : List ByteArray) (R : Rt) (s : ByteArray) (n : Nat) (w : World) (h : Rs w R) (ag : Ag l ns R) (bd : Bd R n) (hn : n ≤ 900) :
    Calls Try.prog 11 #[.pointer (some ⟨R.b, 0, none⟩), .string s] w fun e w' => e = .returned (.int .i64 (remE l s)) ∧ ∃ R', RGoes R w R' w' ∧ Bd R' (n + 1) ∧ (Wf (remL l s) (remM l ns s) → Ag (remL l s) (remM l ns s) R') := by
  have hl := bd.l
  have hns := bd.ns
  have same : ∀ w', Below w.heap.size w w' → remE l s ≠ 0 → ∃ R', RGoes R w R' w' ∧ Bd R' (n + 1) ∧ (Wf (remL l s) (remM l ns s) → Ag (remL l s) (remM l ns s) R') := fun w' hb he => by
    refine ⟨R, RGoes.below h hb, ⟨Nat.le_trans bd.l (by omega), fun x hx => Nat.le_trans (bd.p x hx) (by omega), Nat.le_trans bd.ns (by omega)⟩, fun _ => ?_⟩
    unfold remL remM
    rw [if_neg he, if_neg he]
    exact ag
  cases ef : fnd l s with
  | none =>
    have hE : remE l s = 90 := by unfold remE; rw [ef]
    refine (rremove_none R s w h (by omega) (by rw [ag.thereE, ef]; rfl)).mono ?_
    rintro e w' ⟨rfl, hb⟩
    exact ⟨by rw [hE], same w' hb (by rw [hE]; omega)⟩
  | some g =>
    have ht : thereR R.l s = true := by rw [ag.thereE, ef]; rfl
    obtain ⟨x, hx, hxn⟩ := thereR_some ht
    obtain ⟨g2, hg2, e1, e2⟩ := ag.rel.at hx
    have hgg : g2 = g := by
      have := (fnd_iff ag.wf.names (s := s) (g := g2)).2 ⟨List.mem_of_getElem? hg2, e1.trans hxn⟩
      rw [ef] at this
      exact (Option.some.inj this).symm
    subst hgg
    by_cases hp : g2.pids = []
    · have hE : remE l s = 0 := by unfold remE; rw [ef]; simp [hp]
      refine (rremove_ok R s _ x w h (by omega) (by omega) ht rfl hx (by rw [← e2]; exact hp)).mono ?_
      rintro e w' ⟨rfl, lv, nv, g⟩
      refine ⟨by rw [hE], _, g, ⟨?_, fun y hy => Nat.le_trans (bd.p y (List.mem_of_mem_eraseIdx hy)) (by omega), ?_⟩, fun hw => ?_⟩
      · exact Nat.le_trans (List.length_eraseIdx_le _ _) (by omega)
      · exact Nat.le_trans (List.length_filter_le _ _) (by omega)
      · unfold remL remM at hw ⊢
        rw [if_pos hE, if_pos hE] at hw ⊢
        have hr := ag.rel.rem ag.srt hx
        rw [hxn] at hr
        refine ⟨hr, srt_rem ag.srt s, by show remN R.ns s = _; rw [ag.nse], fun y hy => ag.cap y (List.mem_of_mem_eraseIdx hy), fun t htm => ?_, hw⟩
        have htm : t ∈ ns ∧ t ≠ s := by unfold remN at htm; simpa using htm
        rw [fnd_rem, if_neg htm.2]
        exact ag.sub t htm.1
    · have hE : remE l s = 91 := by unfold remE; rw [ef]; simp [hp]
      refine (rremove_busy R s _ x w h (by omega) ht rfl hx (by rw [← e2]; exact hp)).mono ?_
      rintro e w' ⟨rfl, hb⟩
      exact ⟨by rw [hE], same w' hb (by rw [hE]; omega)⟩
theorem rgone_ag (l : Gl) (ns : List ByteArray) (R : Rt) (a : Int) (n : Nat) (w : World) (h : Rs w R) (ag : Ag l ns R) (bd : Bd R n) (hn : n ≤ 900) :
    Calls Try.prog 15 #[.pointer (some ⟨R.b, 0, none⟩), .int .i64 a] w fun e w' => e = .returned (.bool (hm l a).isSome) ∧ ∃ R', RGoes R w R' w' ∧ Bd R' (n + 1) ∧ (Wf (gonL l a) (gonN l ns a) → Ag (gonL l a) (gonN l ns a) R') := by
  have hl := bd.l
  have hns := bd.ns
  have hp : ∀ x ∈ R.l, x.ps.length ≤ 1000 := fun x hx => Nat.le_trans (bd.p x hx) (by omega)
  have fin : ∀ R' w', RGoes R w R' w' → GoneTo R a R' → ∃ R', RGoes R w R' w' ∧ Bd R' (n + 1) ∧ (Wf (gonL l a) (gonN l ns a) → Ag (gonL l a) (gonN l ns a) R') := fun R' w' g gt => by
    refine ⟨R', g, ?_, fun hw => (ag.gone bd gt hw).1⟩
    rcases gt with ⟨_, rfl⟩ | ⟨i, x, v, nv, hx, hh, hc, rfl⟩
    · exact ⟨Nat.le_trans hl (by omega), fun x hx => Nat.le_trans (bd.p x hx) (by omega), Nat.le_trans hns (by omega)⟩
    · refine ⟨by rw [List.length_set]; exact Nat.le_trans hl (by omega), fun y hy => ?_, ?_⟩
      · rcases List.mem_or_eq_of_mem_set hy with q | q
        · exact Nat.le_trans (bd.p y q) (by omega)
        · rw [q]
          exact Nat.le_trans (remI_len a x.ps) (Nat.le_trans (bd.p x (List.mem_of_getElem? hx)) (by omega))
      · show (if remI a x.ps = [] then noteP R.ns x.nm else R.ns).length ≤ n + 1
        split
        · have := noteP_len R.ns x.nm; omega
        · omega
  have h1 := (ag.rel.home a).1
  cases hh : hmR R.l a with
  | none =>
    rw [hh] at h1
    refine (rgone_no R a w h (by omega) hp hh).mono ?_
    rintro e w' ⟨rfl, rfl⟩
    exact ⟨by rw [h1]; rfl, fin R _ (RGoes.below h (Below.refl _ _)) (.inl ⟨hh, rfl⟩)⟩
  | some x =>
    rw [hh] at h1
    obtain ⟨i, hi, hx⟩ := List.getElem_of_mem (hmR_mem hh)
    have hx : R.l[i]? = some x := by rw [List.getElem?_eq_getElem hi, hx]
    refine (rgone_yes R a i x w h (ag.rel.srt ag.srt) (by omega) hp (by omega) hx hh).mono ?_
    rintro e w' ⟨rfl, v, nv, hc, g⟩
    exact ⟨by rw [h1]; rfl, fin _ _ g (.inr ⟨i, x, v, nv, hx, hh, hc, rfl⟩)⟩
theorem remptied_ag (l : Gl) (ns : List ByteArray) (R : Rt) (n : Nat) (w : World) (h : Rs w R) (ag : Ag l ns R) (bd : Bd R n) (hn : n ≤ 900) :
    Calls Try.prog 17 #[.pointer (some ⟨R.b, 0, none⟩)] w fun e w' => e = .returned (.tuple #[.string (ifS (empR l ns).1), .bool (empR l ns).1.isSome]) ∧ ∃ R', RGoes R w R' w' ∧ Bd R' (n + 1) ∧ (Wf l (empR l ns).2 → Ag l (empR l ns).2 R') := by
  have hl := bd.l
  have hns := bd.ns
  have he : empRR R.l R.ns = empR l ns := by rw [ag.nse]; exact ag.rel.emp ag.srt ns ag.sub
  have hsf : ∀ (m : List ByteArray), (empR l m).2.length ≤ m.length ∧ ∀ x ∈ (empR l m).2, x ∈ m := by
    intro m
    induction m with
    | nil => exact ⟨Nat.le_refl _, fun x hx => hx⟩
    | cons x r ih =>
      unfold empR
      split
      · exact ⟨by simp, fun y hy => by simp; exact .inr hy⟩
      · exact ⟨Nat.le_trans ih.1 (by simp), fun y hy => by have := ih.2 y hy; simp; exact .inr this⟩
  refine (remptied_any R w h (by omega) (by omega)).mono ?_
  rintro e w' ⟨rfl, nv, g⟩
  rw [he] at g ⊢
  refine ⟨rfl, _, g, ⟨Nat.le_trans hl (by omega), fun x hx => Nat.le_trans (bd.p x hx) (by omega), ?_⟩, fun hw => ⟨ag.rel, ag.srt, rfl, ag.cap, fun s hs => ag.sub s ((hsf ns).2 s hs), hw⟩⟩
  have := (hsf ns).1
  rw [ag.nse] at hns
  show (empR l ns).2.length ≤ n + 1
  omega
theorem insI_len (a : Int) (l : List Int) : (insI a l).length = l.length + 1 := len_insI a l
theorem rput_ag (l : Gl) (ns : List ByteArray) (R : Rt) (a : Int) (s : ByteArray) (n : Nat) (w : World) (h : Rs w R) (ag : Ag l ns R) (bd : Bd R n) (hn : n ≤ 900) :
    Calls Try.prog 13 #[.pointer (some ⟨R.b, 0, none⟩), .int .i64 a, .string s] w fun e w' => e = .returned (.int .i64 (putE l a s)) ∧ ∃ R', RGoes R w R' w' ∧ Bd R' (n + 2) ∧ (Wf (gonL l a) (gonN l ns a) → Wf (putL l a s) (putN l ns a s) → Ag (putL l a s) (putN l ns a s) R') := by
  have hl := bd.l
  have hns := bd.ns
  have hp : ∀ x ∈ R.l, x.ps.length ≤ 1000 := fun x hx => Nat.le_trans (bd.p x hx) (by omega)
  have same : ∀ w', Below w.heap.size w w' → putL l a s = l → putN l ns a s = ns → ∃ R', RGoes R w R' w' ∧ Bd R' (n + 2) ∧ (Wf (gonL l a) (gonN l ns a) → Wf (putL l a s) (putN l ns a s) → Ag (putL l a s) (putN l ns a s) R') := fun w' hb e1 e2 => by
    refine ⟨R, RGoes.below h hb, ⟨Nat.le_trans hl (by omega), fun x hx => Nat.le_trans (bd.p x hx) (by omega), Nat.le_trans hns (by omega)⟩, fun _ _ => ?_⟩
    rw [e1, e2]
    exact ag
  cases ef : fnd l s with
  | none =>
    have hE : putE l a s = 90 := by unfold putE; rw [ef]; simp
    refine (rput_none R a s w h (by omega) (by rw [ag.thereE, ef]; rfl)).mono ?_
    rintro e w' ⟨rfl, hb⟩
    exact ⟨by rw [hE], same w' hb (by unfold putL; rw [ef]) (by unfold putN; rw [ef])⟩
  | some g =>
    have ht : thereR R.l s = true := by rw [ag.thereE, ef]; rfl
    by_cases ha : a < 2
    · have hE : putE l a s = 90 := by unfold putE; rw [ef]; simp; omega
      refine (rput_small R a s w h (by omega) ht ha).mono ?_
      rintro e w' ⟨rfl, hb⟩
      have hna : ¬ (2 ≤ a ∧ a ∉ g.pids) := fun q => by omega
      exact ⟨by rw [hE], same w' hb (by unfold putL; rw [ef]; exact if_neg hna) (by unfold putN; rw [ef]; exact if_neg hna)⟩
    · have ha2 : 2 ≤ a := by omega
      have hE : putE l a s = 0 := by unfold putE; rw [ef]; simp; omega
      obtain ⟨h1, h2, h3⟩ := ag.rel.home a
      by_cases hin : a ∈ g.pids
      · have hhm := ag.wf.hm_of (fnd_mem ef) hin
        cases hh : hmR R.l a with
        | none => rw [hh, hhm] at h1; cases h1
        | some x =>
          have hx : x.nm = s := by
            rw [hh, hhm] at h2
            simp only [Option.map_some, Option.getD_some] at h2
            rw [← h2]
            exact fnd_name ef
          refine (rput_same R a s x w h (by omega) hp ht ha2 hh hx).mono ?_
          rintro e w' ⟨rfl, hb⟩
          have hna : ¬ (2 ≤ a ∧ a ∉ g.pids) := fun q => q.2 hin
          exact ⟨by rw [hE], same w' hb (by unfold putL; rw [ef]; exact if_neg hna) (by unfold putN; rw [ef]; exact if_neg hna)⟩
      · have hne : ∀ x, hmR R.l a = some x → x.nm ≠ s := fun x hx hxs => by
          rw [hx] at h1 h2 h3
          cases e : hm l a with
          | none => rw [e] at h1; cases h1
          | some q =>
            rw [e] at h2
            simp only [Option.map_some, Option.getD_some] at h2
            have : fnd l s = some q := (fnd_iff ag.wf.names).2 ⟨hm_mem e, h2.trans hxs⟩
            rw [ef] at this
            cases this
            exact hin (hm_in e)
        refine (rput_go R a s w h (ag.rel.srt ag.srt) (by omega) hp ag.cap (by omega) ht ha2 hne).mono ?_
        rintro e w' ⟨rfl, R', i, x, v, gt, hx, hxn, hc, g5⟩
        have hya : (2 ≤ a ∧ a ∉ g.pids) := ⟨ha2, hin⟩
        have eL : putL l a s = addL (gonL l a) a s := by unfold putL; rw [ef]; exact if_pos hya
        have eN : putN l ns a s = gonN l ns a := by unfold putN; rw [ef]; exact if_pos hya
        refine ⟨by rw [hE], _, g5, ?_, fun hw1 hw2 => ?_⟩
        · have hkl : ∀ (q : List Int) (m : Nat), (q.take m ++ a :: q.drop m).length = q.length + 1 := fun q m => by
            rw [List.length_append, List.length_cons, List.length_take, List.length_drop]; omega
          have hB : Bd R' (n + 1) := by
            rcases gt with ⟨_, rfl⟩ | ⟨i2, x2, v2, nv2, hx2, hh2, hc2, rfl⟩
            · exact ⟨Nat.le_trans hl (by omega), fun x hx => Nat.le_trans (bd.p x hx) (by omega), Nat.le_trans hns (by omega)⟩
            · refine ⟨by rw [List.length_set]; exact Nat.le_trans hl (by omega), fun y hy => ?_, ?_⟩
              · rcases List.mem_or_eq_of_mem_set hy with q | q
                · exact Nat.le_trans (bd.p y q) (by omega)
                · rw [q]
                  exact Nat.le_trans (remI_len a x2.ps) (Nat.le_trans (bd.p x2 (List.mem_of_getElem? hx2)) (by omega))
              · show (if remI a x2.ps = [] then noteP R.ns x2.nm else R.ns).length ≤ n + 1
                split
                · have := noteP_len R.ns x2.nm; omega
                · omega
          refine ⟨by rw [List.length_set]; exact Nat.le_trans hB.l (by omega), fun y hy => ?_, Nat.le_trans hB.ns (by omega)⟩
          rcases List.mem_or_eq_of_mem_set hy with q | q
          · exact Nat.le_trans (hB.p y q) (by omega)
          · rw [q]
            show (x.ps.take (kP a x.ps) ++ a :: x.ps.drop (kP a x.ps)).length ≤ n + 2
            rw [hkl]
            have := hB.p x (List.mem_of_getElem? hx)
            omega
        · obtain ⟨ag2, _⟩ := ag.gone bd gt hw1
          rw [eL, eN] at hw2 ⊢
          have hna : a ∉ x.ps := fun q => by
            obtain ⟨g3, hg3, _, e3⟩ := ag2.rel.at hx
            have hg3m := List.mem_of_getElem? hg3
            unfold gonL at hg3m
            obtain ⟨g4, hg4, rfl⟩ := List.mem_map.1 hg3m
            rw [← e3] at q
            exact (mem_remI.1 q).2 rfl
          have hadd := ag2.rel.add ag2.wf hx hxn a v
          rw [← kP_ins hna] at hadd
          refine ⟨hadd, srt_add ag2.srt a s, ag2.nse, fun y hy => ?_, fun t ht2 => by rw [add_fnd]; exact ag2.sub t ht2, hw2⟩
          rcases List.mem_or_eq_of_mem_set hy with q | q
          · exact ag2.cap y q
          · rw [q]; exact hc
end Go.Proofs.Ytfmceioiglmepaa
