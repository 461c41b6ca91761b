import Derived.Test.YtehlnhljpdjppaaGreatDoorZQ
import Derived.Test.YtehlnhljpdjppaaGreatDoorZL
import Derived.Test.YtehlnhljpdjppaaGreatDoorZK
/- The reference's Next: plain; what it reads. -/
namespace Go.Proofs.YtehlnhljpdjppaaGreatDoor
open Go.RowKit
theorem mt_day {c : Cal.C7} {y m d x : Int} (hv : Civ.vldB y m d = true) (h0 : Civ.num y m d * 86400 ≤ x) (h1 : x < Civ.num y m d * 86400 + 86400) : Cal.mt c x = (dtB c y m d (Civ.num y m d) && tmB c (x - Civ.num y m d * 86400)) := by
  obtain ⟨e1, e2, e3⟩ := Civ.num_date hv
  have hd : x / 86400 = Civ.num y m d := by omega
  unfold Cal.mt dtB tmB
  rw [hd, e1, e2, e3]
  obtain ⟨n, hn⟩ : ∃ n, Civ.num y m d = n := ⟨_, rfl⟩
  rw [hn] at hd h0 h1 ⊢
  rw [show x % 86400 / 3600 = (x - n * 86400) / 3600 by omega, show x % 86400 / 60 % 60 = (x - n * 86400) / 60 % 60 by omega, show x % 60 = (x - n * 86400) % 60 by omega]
  simp [Bool.and_assoc]
/-- A year that isn't in the list: none of its days matches. -/
theorem mt_year {c : Cal.C7} {y m d x : Int} (hv : Civ.vldB y m d = true) (hy : Cal.inL c.year y = false) (h0 : Civ.num y m d * 86400 ≤ x) (h1 : x < Civ.dby (y + 1) * 86400) : Cal.mt c x = false := by
  have hb := Civ.num_bd hv
  obtain ⟨y0, y1, _⟩ := Civ.vldB_iff.1 hv
  have hb2 := Civ.dby_bd (y := y + 1) (by omega) (by omega)
  have hd0 : Civ.dby y ≤ x / 86400 := by omega
  have hd1 : x / 86400 < Civ.dby (y + 1) := by omega
  have hyr : Civ.dY (x / 86400) = y := Civ.yr_uniq (by omega) (by omega) hd0 hd1
  unfold Cal.mt
  rw [hyr, hy]; rfl
/-- What Next reads, and the date that it has come to. -/
structure NC (w : World) (b b8 : Nat) (S : Nat → Sl) (c : Cal.C7) (y m d : Int) (W : World) : Prop where
  c0 : W.cell? ⟨b, 0, none⟩ = some (slv (S 0))
  c1 : W.cell? ⟨b, 1, none⟩ = some (slv (S 1))
  c2 : W.cell? ⟨b, 2, none⟩ = some (slv (S 2))
  c3 : W.cell? ⟨b, 3, none⟩ = some (slv (S 3))
  c4 : W.cell? ⟨b, 4, none⟩ = some (slv (S 4))
  c5 : W.cell? ⟨b, 5, none⟩ = some (slv (S 5))
  c6 : W.cell? ⟨b, 6, none⟩ = some (slv (S 6))
  h8 : W.heap[b8]? = some (.cells #[.int .i64 y, .int .i64 m, .int .i64 d] 26)
  p : CalPin (fun _ => False) W S c
  be : Below w.heap.size w W
theorem NC.next {w : World} {b b8 : Nat} {S : Nat → Sl} {c : Cal.C7} {y m d : Int} {W V : World} (k : NC w b b8 S c y m d W) (hb : Below W.heap.size W V) : NC w b b8 S c y m d V :=
  ⟨(hb.cell (cell_lt k.c0)).trans k.c0, (hb.cell (cell_lt k.c1)).trans k.c1, (hb.cell (cell_lt k.c2)).trans k.c2, (hb.cell (cell_lt k.c3)).trans k.c3, (hb.cell (cell_lt k.c4)).trans k.c4, (hb.cell (cell_lt k.c5)).trans k.c5, (hb.cell (cell_lt k.c6)).trans k.c6, (hb.block _ (lt_of_heap k.h8)).trans k.h8, k.p.below hb, k.be.trans (hb.mono k.be.size)⟩
theorem cell_set3 {W : World} {p a : Addr} (h : p.block ≠ a.block) (v : Value) : (W.setCell p v).cell? a = W.cell? a := by
  have : (W.setCell p v).heap[a.block]? = W.heap[a.block]? := by
    simp only [World.setCell]
    rw [Array.getElem?_modify, if_neg h]
  unfold World.cell?
  rw [this]
theorem NC.set {w : World} {b b8 : Nat} {S : Nat → Sl} {c : Cal.C7} {y m d : Int} {W V : World} (k : NC w b b8 S c y m d W) (hp : CalPin (fun _ => False) w S c) (h8 : w.heap.size ≤ b8) (hb : b ≠ b8) (y' m' d' : Int) (hV : ((W.setCell ⟨b8, 0, none⟩ (.int .i64 y')).setCell ⟨b8, 1, none⟩ (.int .i64 m')).setCell ⟨b8, 2, none⟩ (.int .i64 d') = V) : NC w b b8 S c y' m' d' V := by
  have hbe : Below w.heap.size w V := by
    rw [← hV]
    exact k.be.trans ((((Mv3.refl W k.be.size).set _ _ h8).set _ _ h8).set _ _ h8).b
  have e8 : V.heap[b8]? = some (.cells #[.int .i64 y', .int .i64 m', .int .i64 d'] 26) := by rw [← hV]; simp [World.setCell, Array.getElem?_modify, k.h8]
  have hc : ∀ (j : Nat), V.cell? ⟨b, j, none⟩ = W.cell? ⟨b, j, none⟩ := fun j => by
    rw [← hV, cell_set3 (Ne.symm hb), cell_set3 (Ne.symm hb), cell_set3 (Ne.symm hb)]
  exact ⟨(hc 0).trans k.c0, (hc 1).trans k.c1, (hc 2).trans k.c2, (hc 3).trans k.c3, (hc 4).trans k.c4, (hc 5).trans k.c5, (hc 6).trans k.c6, e8, hp.below hbe, hbe⟩
end Go.Proofs.YtehlnhljpdjppaaGreatDoor
/- The reference's Next: where the search stands. -/
namespace Go.Proofs.YtehlnhljpdjppaaGreatDoor
open Go.RowKit
/-- Where the search stands: nothing ahead of the day matches. -/
def NS (c : Cal.C7) (f day e y m d : Int) : Prop := (e = 0 ∧ Civ.vldB y m d = true ∧ Civ.num y m d = day ∧ f / 86400 ≤ day ∧ ∀ x, f ≤ x → x < day * 86400 → Cal.mt c x = false) ∨ ((e = 20 ∨ e = 30) ∧ ∀ x, f ≤ x → x < 7289654400 → Cal.mt c x = false)
theorem vldB_low {y : Int} (h0 : 1970 ≤ y) (h1 : y ≤ 2200) : Civ.vldB y 1 1 = true :=
  Civ.vldB_iff.2 ⟨h0, h1, by omega, by omega, by omega, by have := Civ.dim_bd y 1; omega⟩
/-- Behind a day: the next one, or the end. -/
theorem NS.on {c : Cal.C7} {f day y m d : Int} (h : ∀ x, f ≤ x → x < day * 86400 → Cal.mt c x = false) (hn : Civ.num y m d = day) (hv : y ≤ 2200 → Civ.vldB y m d = true) (hf : f / 86400 ≤ day) (hend : 2200 < y → 84371 ≤ day) : NS c f day (if 2200 < y then 30 else 0) y m d := by
  by_cases hg : 2200 < y
  · rw [if_pos hg]
    refine .inr ⟨.inr rfl, fun x h1 h2 => h x h1 ?_⟩
    have := hend hg
    omega
  · rw [if_neg hg]
    exact .inl ⟨rfl, hv (by omega), hn, hf, h⟩
theorem num_first (y : Int) : Civ.num y 1 1 = Civ.dby y := by
  unfold Civ.num
  have e0 : Civ.cum y (1 - 1 : Int).toNat = 0 := rfl
  rw [e0]; omega
/-- Behind a year that isn't in the list. -/
theorem NS.year {c : Cal.C7} {f y m d : Int} (hv : Civ.vldB y m d = true) (hy : Cal.inL c.year y = false) (hf : f / 86400 ≤ Civ.num y m d) (h : ∀ x, f ≤ x → x < Civ.num y m d * 86400 → Cal.mt c x = false) : NS c f (Civ.dby (y + 1)) (if 2200 < y + 1 then 30 else 0) (y + 1) 1 1 := by
  have hb := Civ.num_bd hv
  obtain ⟨y0, y1, _⟩ := Civ.vldB_iff.1 hv
  refine NS.on (fun x h1 h2 => ?_) (num_first _) (fun h => vldB_low (by omega) h) (by omega) (fun h => ?_)
  · by_cases e : x < Civ.num y m d * 86400
    · exact h x h1 e
    · exact mt_year hv hy (by omega) h2
  · have : y + 1 = 2201 := by omega
    rw [this, Civ.dby_2201]; omega
/-- Behind a day on which no time matches. -/
theorem NS.day {c : Cal.C7} {f y m d : Int} (hv : Civ.vldB y m d = true) (hf : f / 86400 ≤ Civ.num y m d) (h : ∀ x, f ≤ x → x < Civ.num y m d * 86400 → Cal.mt c x = false) (hd : ∀ x, f ≤ x → Civ.num y m d * 86400 ≤ x → x < Civ.num y m d * 86400 + 86400 → Cal.mt c x = false) : NS c f (Civ.num y m d + 1) (if 2200 < (tmD y m d).1 then 30 else 0) (tmD y m d).1 (tmD y m d).2.1 (tmD y m d).2.2 := by
  obtain ⟨e1, e2, e3, e4⟩ := tm_num hv
  have hb := Civ.num_bd hv
  obtain ⟨y0, y1, _⟩ := Civ.vldB_iff.1 hv
  refine NS.on (fun x h1 h2 => ?_) e1 e2 (by omega) (fun h => ?_)
  · by_cases e : x < Civ.num y m d * 86400
    · exact h x h1 e
    · exact hd x h1 (by omega) (by omega)
  · have h22 : y = 2200 := by omega
    subst h22
    have : ¬ Civ.num 2200 m d + 1 < 84371 := fun hlt => by
      have hy1 : (tmD 2200 m d).1 = 2201 := by omega
      unfold tmD at hy1
      by_cases a1 : d + 1 ≤ Civ.dim 2200 m
      · rw [if_pos a1] at hy1; simp at hy1
      · rw [if_neg a1] at hy1
        by_cases a2 : m + 1 ≤ 12
        · rw [if_pos a2] at hy1; simp at hy1
        · have := e1
          unfold tmD at this
          rw [if_neg a1, if_neg a2] at this
          have h9 : Civ.num (2200 + 1) 1 1 = Civ.num 2200 m d + 1 := this
          rw [num_first, show (2200 : Int) + 1 = 2201 from rfl, Civ.dby_2201] at h9
          omega
    omega
/-- On a day whose date is none. -/
theorem day_no {c : Cal.C7} {f y m d : Int} (hv : Civ.vldB y m d = true) (hd : dtB c y m d (Civ.num y m d) = false) : ∀ x, f ≤ x → Civ.num y m d * 86400 ≤ x → x < Civ.num y m d * 86400 + 86400 → Cal.mt c x = false := fun x _ h1 h2 => by
  rw [mt_day hv h1 h2, hd]; rfl
/-- Where a day begins. -/
def frm (f day : Int) : Int := if day = f / 86400 then f % 86400 else 0
theorem day_time {c : Cal.C7} {f y m d : Int} (hv : Civ.vldB y m d = true) (hd : ∀ x, frm f (Civ.num y m d) ≤ x → x < 86400 → tmB c x = false) : ∀ x, f ≤ x → Civ.num y m d * 86400 ≤ x → x < Civ.num y m d * 86400 + 86400 → Cal.mt c x = false := fun x h0 h1 h2 => by
  rw [mt_day hv h1 h2, hd _ ?_ (by omega)]
  · simp
  · unfold frm; split <;> omega
theorem day_hit {c : Cal.C7} {f y m d r : Int} (hv : Civ.vldB y m d = true) (hf : f / 86400 ≤ Civ.num y m d) (h : ∀ x, f ≤ x → x < Civ.num y m d * 86400 → Cal.mt c x = false) (hd : dtB c y m d (Civ.num y m d) = true) (h0 : frm f (Civ.num y m d) ≤ r) (h1 : r < 86400) (ht : tmB c r = true) (hno : ∀ x, frm f (Civ.num y m d) ≤ x → x < r → tmB c x = false) :
    f ≤ Civ.num y m d * 86400 + r ∧ Civ.num y m d * 86400 + r < 7289654400 ∧ Cal.mt c (Civ.num y m d * 86400 + r) = true ∧ ∀ x, f ≤ x → x < Civ.num y m d * 86400 + r → Cal.mt c x = false := by
  have hb := Civ.num_bd hv
  have hr0 : 0 ≤ r := by unfold frm at h0; split at h0 <;> omega
  refine ⟨by unfold frm at h0; split at h0 <;> omega, by omega, ?_, fun x h2 h3 => ?_⟩
  · rw [mt_day hv (by omega) (by omega), hd, show Civ.num y m d * 86400 + r - Civ.num y m d * 86400 = r by omega, ht]; rfl
  · by_cases e : x < Civ.num y m d * 86400
    · exact h x h2 e
    · rw [mt_day hv (by omega) (by omega), hno _ ?_ (by omega)]
      · simp
      · unfold frm; split <;> omega
theorem rDate_ns {c : Cal.C7} {f q : Int} (w : World) (f0 : 0 ≤ f) (hq : f / 86400 = q) (q1 : q ≤ 90000) :
    Calls Tryz.prog 16 #[.int .i64 q] w fun e w' => (∃ y m d er : Int, e = .returned (.tuple #[.agg #[.int .i64 y, .int .i64 m, .int .i64 d], .int .i64 er]) ∧ Hid (NS c f q er y m d)) ∧ Below w.heap.size w w' := by
  by_cases hq2 : 84371 ≤ q
  · refine (rDate_no q w (.inr hq2) (by omega)).mono ?_
    rintro e w' ⟨rfl, hb⟩
    exact ⟨⟨0, 0, 0, 20, rfl, .inr ⟨.inl rfl, fun x h1 h2 => by omega⟩⟩, hb⟩
  · refine (rDate_yes q w (by omega) (by omega)).mono ?_
    rintro e w' ⟨rfl, hb⟩
    have e1 := Civ.date_vld (n := q) (by omega) (by omega)
    have e2 := Civ.date_num (n := q)
    exact ⟨⟨_, _, _, 0, rfl, .inl ⟨rfl, e1, e2, by omega, fun x h1 h2 => by omega⟩⟩, hb⟩
end Go.Proofs.YtehlnhljpdjppaaGreatDoor
/- An api.Moment handed in. -/
namespace Go.Proofs.YtehlnhljpdjppaaGreatDoor
open Go.ChangeShapes Go.WideShapes Go.RowKit
theorem cMom : Tryz.prog.cellsOf 28 = 6 := by kernel_rfl
theorem cDat : Tryz.prog.cellsOf 26 = 3 := by kernel_rfl
theorem cIn1 : Tryz.prog.cellsOf 3 = 1 := by kernel_rfl
set_option maxRecDepth 100000 in
theorem rd_date {W : World} {cs : List Value} (h : Rd Tryz.prog W 26 cs) : ∃ y m d : Int, cs = [.int .i64 y, .int .i64 m, .int .i64 d] := by
  obtain ⟨hl, hx⟩ := rd_struct h Tryz.underlying26
  rw [cDat] at hl
  match cs, hl with
  | [c0, c1, c2], _ =>
    have h0 := hx 0 _ rfl
    have h1 := hx 1 _ rfl
    have h2 := hx 2 _ rfl
    simp only [List.getElem_toArray, List.getElem_cons_zero, List.getElem_cons_succ, cIn1, List.drop_zero, List.drop_succ_cons, List.take_succ_cons, List.take_zero] at h0 h1 h2
    obtain ⟨y, e0, _⟩ := rd_int h0 Tryz.underlying3
    obtain ⟨m, e1, _⟩ := rd_int h1 Tryz.underlying3
    obtain ⟨d, e2, _⟩ := rd_int h2 Tryz.underlying3
    simp only [List.cons.injEq, and_true] at e0 e1 e2
    exact ⟨y, m, d, by rw [e0, e1, e2]⟩
set_option maxRecDepth 100000 in
theorem open_mom {W : World} {b0 : Nat} {v : Value} (hv : Value.okWide Tryz.prog W .any b0 28 v) (h : Rd Tryz.prog W 28 v.cells.toList) : ∃ y m d a b c : Int, v = momV y m d a b c ∧ True := by
  obtain ⟨cs, rfl, _⟩ := okWide_struct Tryz.underlying28 hv
  obtain ⟨hl, hx⟩ := rd_struct h Tryz.underlying28
  obtain ⟨l⟩ := cs
  simp only [Value.cells] at hl hx
  rw [cMom] at hl
  match l, hl with
  | [c0, c1, c2, c3, c4, c5], _ =>
    have h0 := hx 0 _ rfl
    have h1 := hx 1 _ rfl
    have h2 := hx 2 _ rfl
    have h3 := hx 3 _ rfl
    simp only [List.getElem_toArray, List.getElem_cons_zero, List.getElem_cons_succ, cIn1, cDat, List.drop_zero, List.drop_succ_cons, List.take_succ_cons, List.take_zero] at h0 h1 h2 h3
    obtain ⟨y, m, d, e0⟩ := rd_date h0
    obtain ⟨a, e1, _⟩ := rd_int h1 Tryz.underlying3
    obtain ⟨b, e2, _⟩ := rd_int h2 Tryz.underlying3
    obtain ⟨c, e3, _⟩ := rd_int h3 Tryz.underlying3
    simp only [List.cons.injEq, and_true] at e0 e1 e2 e3
    exact ⟨y, m, d, a, b, c, by rw [e0.1, e0.2.1, e0.2.2, e1, e2, e3], trivial⟩
end Go.Proofs.YtehlnhljpdjppaaGreatDoor
