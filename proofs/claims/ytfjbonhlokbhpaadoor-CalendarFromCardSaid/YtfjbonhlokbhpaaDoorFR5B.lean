/- The times that From gives, as CalendarFrom gathers them; the next one behind each. -/
import Derived.Test.YtfjbonhlokbhpaaDoorFR4B
import Derived.Test.YtfjbonhlokbhpaaDoorGA2B
namespace Go.Proofs.YtfjbonhlokbhpaaDoor
open Go.RowKit Go.Shelf
theorem Ter.withB {β : Type} {C B : Nat} {J : β → (Nat → Prop) → World → Prop} (h : Ter C J) : Ter C (fun s E W => J s E W ∧ B ≤ W.heap.size) :=
  ⟨fun s E W V hj m => ⟨h.keep s E W V hj.1 m, Nat.le_trans hj.2 m.size⟩, fun s E W hj => h.low s E W hj.1⟩
/-- Going through the times with CalendarFrom's closure. -/
theorem from_run (c : Cal.C7) (t : Int) (bt bc : Nat) (S : Nat → Sl) (pl pn n : Nat) (V : World) (hI : isB c = true) (hg : GlP V) (tmax : t ≤ 9223372036854775807) (hpl : pl < V.heap.size) (hpn : pn < V.heap.size) (hne : pn ≠ pl) (hl2 : 2 < pl) (h0n : 0 < n) (hn : n ≤ 200)
    (hbt : bt ≠ pl) (ct : V.cell? ⟨bt, 0, none⟩ = some (.int .i64 t)) (hbx : CalBox (fun k => k = pl) V bc S c) (hpin : CalPin (fun k => k = pl) V S c) (cl : Cl pl (.slice none 0 0) V) (cn : V.cell? ⟨pn, 0, none⟩ = some (.int .i64 n)) :
    Calls Tryd.prog 36 #[.func (.func 11) #[] #[.pointer (some ⟨pl, 0, none⟩), .pointer (some ⟨pn, 0, none⟩)], .pointer (some ⟨bt, 0, none⟩), .pointer (some ⟨bc, 0, none⟩)] V fun e V' => (∃ u, e = .returned u) ∧ ∃ v', FJ V.heap.size pl pn n ((Cal.ts c t).take n) v' V' ∧ Mv (fun k => k = pl) V V' := by
  have hE : ∀ k, (fun k => k = pl) k ↔ (k = pl ∨ (Value.slice none 0 0).ownBlock = some k) := fun k => ⟨fun h => .inl h, fun h => h.elim id (fun e => by cases e)⟩
  have h0 : JF V.heap.size pl pn n (Cal.ts c t) (Cal.ts c t) (fun k => k = pl) V ∧ V.heap.size ≤ V.heap.size := ⟨⟨_, [], ⟨hE, rfl, h0n⟩, cl, cn, World.ownsRow_nil _ _ _ _⟩, Nat.le_refl _⟩
  have hgl : Gl (fun k => k = pl) V := ⟨hg.gl.lim, hg.gl.len, by omega, by omega⟩
  have hY := yiF V.heap.size pl pn n (Cal.ts c t) hpl hpn hne hn
  have tJ := (JF.ter V.heap.size pl pn n V.heap.size (Cal.ts c t) hpn).withB (B := V.heap.size)
  have tX := (JFx.ter V.heap.size pl pn n V.heap.size (Cal.ts c t) hpn).withB (B := V.heap.size)
  have hrun : Calls Tryd.prog 36 #[.func (.func 11) #[] #[.pointer (some ⟨pl, 0, none⟩), .pointer (some ⟨pn, 0, none⟩)], .pointer (some ⟨bt, 0, none⟩), .pointer (some ⟨bc, 0, none⟩)] V (Went (fun r E W => JF V.heap.size pl pn n (Cal.ts c t) r E W ∧ V.heap.size ≤ W.heap.size) (fun u E W => JFx V.heap.size pl pn n (Cal.ts c t) u E W ∧ V.heap.size ≤ W.heap.size) (fun k => k = pl) V) := by
    by_cases h : Cal.fromT t < 7289654400
    · exact time_yesF pl pn (fun k => k = pl) V bt bc S c t hbx hpin hgl ⟨ct, hbt⟩ (isB_ok hI) h _ _ _ V (Mv.refl _ _) (Gr.refl _ _) tJ tX hY h0
    · exact time_noF pl pn (fun k => k = pl) V bt bc c t ⟨ct, hbt⟩ tmax (by omega) _ _ _ V (Mv.refl _ _) (Gr.refl _ _) tJ h0
  refine hrun.mono ?_
  rintro e V' ⟨⟨u, rfl⟩, hm, hJ⟩
  refine ⟨⟨u, rfl⟩, ?_⟩
  rcases hJ with ⟨E', _, ⟨v', acc, ⟨_, hT, hl⟩, hj⟩, _⟩ | ⟨E', _, ⟨v', acc, ⟨_, ⟨r, hT⟩, hl⟩, hj⟩, _⟩
  · rw [List.append_nil] at hT
    refine ⟨v', ?_, hm⟩
    rw [List.take_of_length_le (by rw [← hT]; omega), ← hT]
    exact hj
  · refine ⟨v', ?_, hm⟩
    rw [← hT, List.take_append_of_le_length (by omega), List.take_of_length_le (by omega)]
    exact hj
/-- The next one behind one of them is the one behind it. -/
theorem nx_at {c : Cal.C7} {t a : Int} {p r : List Int} (h : Cal.ts c t = p ++ a :: r) : Cal.nx c a = r.head? := by
  have hs := Cal.sort_ts (c := c) (t := t)
  rw [h] at hs
  obtain ⟨_, h2, h3⟩ := List.pairwise_append.1 hs
  obtain ⟨h4, h5⟩ := List.pairwise_cons.1 h2
  have ha := Cal.mem_ts.1 (show a ∈ Cal.ts c t by rw [h]; simp)
  have key : ∀ x, a < x → x < 7289654400 → Cal.mt c x = true → x ∈ r := fun x h1 h2 hm => by
    have hx : x ∈ Cal.ts c t := Cal.mem_ts.2 ⟨by omega, h2, hm⟩
    rw [h] at hx
    rcases List.mem_append.1 hx with hx | hx
    · have := h3 x hx a (by simp); omega
    · rcases List.mem_cons.1 hx with rfl | hx
      · omega
      · exact hx
  cases r with
  | nil =>
    rw [List.head?_nil, Cal.nx_none]
    intro x h1 h2
    cases hm : Cal.mt c x with
    | false => rfl
    | true => have := key x (by omega) h2 hm; simp at this
  | cons b r' =>
    have hb := Cal.mem_ts.1 (show b ∈ Cal.ts c t by rw [h]; simp)
    rw [List.head?_cons, Cal.nx_some]
    have hab := h4 b (by simp)
    refine ⟨⟨by omega, hb.2.1, hb.2.2⟩, fun x h1 h2 => ?_⟩
    cases hm : Cal.mt c x with
    | false => rfl
    | true =>
      have hx := key x (by omega) (by omega) hm
      rcases List.mem_cons.1 hx with rfl | hx
      · omega
      · have := (List.pairwise_cons.1 h5).1 x hx; omega
/-- Where the walk stands behind i of them. -/
def atI (t : Int) (T : List Int) : Nat → Int
  | 0 => t
  | i + 1 => T.getD i 0
theorem nx_atI {c : Cal.C7} {t : Int} (i : Nat) (hi : i ≤ (Cal.ts c t).length) : Cal.nx c (atI t (Cal.ts c t) i) = (Cal.ts c t)[i]? := by
  cases i with
  | zero => unfold atI Cal.nx; rw [List.head?_eq_getElem?]
  | succ i =>
    have h := (List.take_append_drop i (Cal.ts c t)).symm
    rw [List.drop_eq_getElem_cons (by omega)] at h
    have := nx_at h
    show Cal.nx c ((Cal.ts c t).getD i 0) = _
    rw [List.getD_eq_getElem?_getD, List.getElem?_eq_getElem (by omega), Option.getD_some, this, List.head?_drop]
theorem atI_bd {c : Cal.C7} {t : Int} (ht : t ≤ 9223372036854775807) (i : Nat) (hi : i ≤ (Cal.ts c t).length) : atI t (Cal.ts c t) i ≤ 9223372036854775807 := by
  cases i with
  | zero => exact ht
  | succ i =>
    show (Cal.ts c t).getD i 0 ≤ _
    rw [List.getD_eq_getElem?_getD, List.getElem?_eq_getElem (by omega), Option.getD_some]
    have := Cal.mem_ts.1 (List.getElem_mem (l := Cal.ts c t) (n := i) (by omega))
    omega
theorem match_yes (S : Nat → Sl) (c : Cal.C7) (x : Int) (w : World) (hp : CalPin (fun _ => False) w S c) (hg : GlP w) (hI : isB c = true) (h0 : 0 ≤ x) (h1 : x < 7289654400) (hf : Cal.mt c x = true) :
    Calls Tryd.prog 14 #[aggC S, momV (Civ.dY (x / 86400)) (Civ.dM (x / 86400)) (Civ.dD (x / 86400)) (mH x) (mMi x) (mS x)] w fun e w' => e = .returned (.bool true) ∧ Below w.heap.size w w' := by
  have := matches_on S c _ _ _ _ _ _ w hp hg (Civ.date_vld (n := x / 86400) (by omega) (by omega)) (tim_of x)
  rw [mtM_mt, hf, hI] at this
  exact this
end Go.Proofs.YtfjbonhlokbhpaaDoor
