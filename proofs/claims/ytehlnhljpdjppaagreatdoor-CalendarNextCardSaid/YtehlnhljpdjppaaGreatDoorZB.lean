import Derived.Test.YtehlnhljpdjppaaGreatDoorZA
import Derived.RangeFuncNested
import Derived.RangeFuncBound
import Derived.RangeFuncCalls
import Derived.RangeFuncLeaves
import Derived.RangeFuncFrom
import Derived.Shelf.Abstract
import Derived.Shelf.RegionOpen
import Derived.OwnWalkIn
import Derived.TacticsInMore
import Derived.LoopNIn
import Derived.LoopIn
/- The plain mathematics of calendar expressions: what is in a list; the times that match, rising; the next one is the least. -/
namespace Go.Proofs.YtehlnhljpdjppaaGreatDoor.Cal
abbrev Part := Bool × Int × Int × Int
structure C7 where
  week : List Part
  year : List Part
  month : List Part
  day : List Part
  hour : List Part
  minute : List Part
  second : List Part
def inP (p : Part) (n : Int) : Bool := p.1 || (decide (p.2.1 ≤ n) && (decide (n ≤ p.2.2.1) && (decide (p.2.2.2 = 0) || decide ((n - p.2.1) % p.2.2.2 = 0))))
def inL (l : List Part) (n : Int) : Bool := l.any fun p => inP p n
def up : Nat → Int → List Int
  | 0, _ => []
  | k + 1, a => a :: up k (a + 1)
def rng (lo hi : Int) : List Int := up (hi + 1 - lo).toNat lo
def onW (w : List Part) (n : Int) : Bool := w.isEmpty || inL w (Civ.wd n)
def okD (c : C7) (n0 n : Int) : Bool := decide (n0 ≤ n) && onW c.week n
def dsM (c : C7) (n0 y m : Int) : List Int := (((rng 1 (Civ.dim y m)).filter (inL c.day)).map (Civ.num y m)).filter (okD c n0)
def dsY (c : C7) (n0 m1 y : Int) : List Int := ((rng m1 12).filter (inL c.month)).flatMap (dsM c n0 y)
def m1 (y0 m0 y : Int) : Int := if y = y0 then m0 else 1
def ds (c : C7) (y0 m0 d0 : Int) : List Int := ((rng y0 2200).filter (inL c.year)).flatMap fun y => dsY c (Civ.num y0 m0 d0) (m1 y0 m0 y) y
def ssM (c : C7) (f b : Int) : List Int := ((rng (max (f - b) 0) 59).filter (inL c.second)).map (b + ·)
def ssH (c : C7) (f b : Int) : List Int := ((rng (max (f - b) 0 / 60) 59).filter (inL c.minute)).flatMap fun m => ssM c f (b + m * 60)
def ss (c : C7) (f : Int) : List Int := ((rng (f / 3600) 23).filter (inL c.hour)).flatMap fun h => ssH c f (h * 3600)
def tsD (c : C7) (f d : Int) : List Int := (ss c (max (f - d * 86400) 0)).map (d * 86400 + ·)
def tsF (c : C7) (f : Int) : List Int := (ds c (Civ.dY (f / 86400)) (Civ.dM (f / 86400)) (Civ.dD (f / 86400))).flatMap (tsD c f)
def fromT (t : Int) : Int := max t (-1) + 1
def ts (c : C7) (t : Int) : List Int := if fromT t < 7289654400 then tsF c (fromT t) else []
def nx (c : C7) (t : Int) : Option Int := (ts c t).head?
/-- Does a time match? -/
def mt (c : C7) (x : Int) : Bool := inL c.year (Civ.dY (x / 86400)) && (inL c.month (Civ.dM (x / 86400)) && (inL c.day (Civ.dD (x / 86400)) && (onW c.week (x / 86400) && (inL c.hour (x % 86400 / 3600) && (inL c.minute (x % 86400 / 60 % 60) && inL c.second (x % 60))))))
theorem mem_up : ∀ (k : Nat) (a x : Int), x ∈ up k a ↔ a ≤ x ∧ x < a + k
  | 0, a, x => by simp [up]
  | k + 1, a, x => by
    rw [up, List.mem_cons, mem_up k (a + 1) x]; omega
theorem mem_rng (lo hi x : Int) : x ∈ rng lo hi ↔ lo ≤ x ∧ x ≤ hi := by rw [rng, mem_up]; omega
theorem sort_up : ∀ (k : Nat) (a : Int), (up k a).Pairwise (· < ·)
  | 0, _ => .nil
  | k + 1, a => by
    rw [up]
    exact List.pairwise_cons.2 ⟨fun x hx => by have := (mem_up k (a + 1) x).1 hx; omega, sort_up k (a + 1)⟩
theorem sort_rng (lo hi : Int) : (rng lo hi).Pairwise (· < ·) := sort_up _ _
theorem rng_cons {lo hi : Int} (h : lo ≤ hi) : rng lo hi = lo :: rng (lo + 1) hi := by
  unfold rng
  rw [show (hi + 1 - lo).toNat = (hi + 1 - (lo + 1)).toNat + 1 by omega]; rfl
theorem rng_nil {lo hi : Int} (h : hi < lo) : rng lo hi = [] := by
  unfold rng
  rw [show (hi + 1 - lo).toNat = 0 by omega]; rfl
/-- Sorted rows, one behind the other, in the order of what they are of. -/
theorem sort_flat {f : Int → List Int} : ∀ {l : List Int}, l.Pairwise (· < ·) → (∀ a ∈ l, (f a).Pairwise (· < ·)) → (∀ a ∈ l, ∀ b ∈ l, a < b → ∀ x ∈ f a, ∀ y ∈ f b, x < y) → (l.flatMap f).Pairwise (· < ·)
  | [], _, _, _ => .nil
  | a :: l, hl, hf, hx => by
    rw [List.flatMap_cons]
    obtain ⟨h1, h2⟩ := List.pairwise_cons.1 hl
    refine List.pairwise_append.2 ⟨hf a (by simp), sort_flat h2 (fun b hb => hf b (by simp [hb])) (fun b hb d hd => hx b (by simp [hb]) d (by simp [hd])), ?_⟩
    intro x hxm y hym
    obtain ⟨b, hb, hy⟩ := List.mem_flatMap.1 hym
    exact hx a (by simp) b (by simp [hb]) (h1 b hb) x hxm y hy
theorem sort_map {l : List Int} (f : Int → Int) (h : l.Pairwise (· < ·)) (hf : ∀ a ∈ l, ∀ b ∈ l, a < b → f a < f b) : (l.map f).Pairwise (· < ·) := by
  rw [List.pairwise_map]
  exact h.imp_of_mem (fun ha hb hab => hf _ ha _ hb hab)
theorem mem_ssM {c : C7} {f b x : Int} : x ∈ ssM c f b ↔ inL c.second (x - b) = true ∧ max (f - b) 0 ≤ x - b ∧ x - b ≤ 59 := by
  unfold ssM
  rw [List.mem_map]
  constructor
  · rintro ⟨a, ha, rfl⟩
    obtain ⟨h1, h2⟩ := List.mem_filter.1 ha
    have := (mem_rng _ _ _).1 h1
    rw [show b + a - b = a by omega]
    exact ⟨h2, this⟩
  · rintro ⟨h1, h2⟩
    exact ⟨x - b, List.mem_filter.2 ⟨(mem_rng _ _ _).2 h2, h1⟩, by omega⟩
theorem mem_ss {c : C7} {f x : Int} (hf : 0 ≤ f) : x ∈ ss c f ↔ f ≤ x ∧ x < 86400 ∧ inL c.hour (x / 3600) = true ∧ inL c.minute (x / 60 % 60) = true ∧ inL c.second (x % 60) = true := by
  unfold ss
  rw [List.mem_flatMap]
  constructor
  · rintro ⟨h, hh, hx⟩
    obtain ⟨h1, h2⟩ := List.mem_filter.1 hh
    have h3 := (mem_rng _ _ _).1 h1
    unfold ssH at hx
    obtain ⟨m, hm, hx⟩ := List.mem_flatMap.1 hx
    obtain ⟨m1, m2⟩ := List.mem_filter.1 hm
    have m3 := (mem_rng _ _ _).1 m1
    obtain ⟨s1, s2, s3⟩ := mem_ssM.1 hx
    have e1 : x / 3600 = h := by omega
    have e2 : x / 60 % 60 = m := by omega
    have e3 : x % 60 = x - (h * 3600 + m * 60) := by omega
    rw [e1, e2, e3]
    exact ⟨by omega, by omega, h2, m2, s1⟩
  · rintro ⟨h1, h2, h3, h4, h5⟩
    refine ⟨x / 3600, List.mem_filter.2 ⟨(mem_rng _ _ _).2 ⟨by omega, by omega⟩, h3⟩, ?_⟩
    unfold ssH
    refine List.mem_flatMap.2 ⟨x / 60 % 60, List.mem_filter.2 ⟨(mem_rng _ _ _).2 ⟨by omega, by omega⟩, h4⟩, ?_⟩
    refine mem_ssM.2 ⟨?_, by omega, by omega⟩
    rw [show x - (x / 3600 * 3600 + x / 60 % 60 * 60) = x % 60 by omega]; exact h5
theorem sort_ss {c : C7} {f : Int} (_ : 0 ≤ f) : (ss c f).Pairwise (· < ·) := by
  unfold ss
  refine sort_flat ((sort_rng _ _).filter _) ?_ ?_
  · intro h _
    unfold ssH
    refine sort_flat ((sort_rng _ _).filter _) ?_ ?_
    · intro m _
      exact sort_map _ ((sort_rng _ _).filter _) (fun a _ b _ h => by omega)
    · intro a _ b _ hab x hx y hy
      obtain ⟨_, x2, x3⟩ := mem_ssM.1 hx
      obtain ⟨_, y2, y3⟩ := mem_ssM.1 hy
      omega
  · intro a _ b _ hab x hx y hy
    unfold ssH at hx hy
    obtain ⟨m, hm, hx⟩ := List.mem_flatMap.1 hx
    obtain ⟨k, hk, hy⟩ := List.mem_flatMap.1 hy
    obtain ⟨_, x2, x3⟩ := mem_ssM.1 hx
    obtain ⟨_, y2, y3⟩ := mem_ssM.1 hy
    have := (mem_rng _ _ _).1 (List.mem_filter.1 hm).1
    have := (mem_rng _ _ _).1 (List.mem_filter.1 hk).1
    omega
theorem mem_dsM {c : C7} {n0 y m x : Int} : x ∈ dsM c n0 y m ↔ (∃ d, 1 ≤ d ∧ d ≤ Civ.dim y m ∧ inL c.day d = true ∧ x = Civ.num y m d) ∧ okD c n0 x = true := by
  unfold dsM
  rw [List.mem_filter, List.mem_map]
  constructor
  · rintro ⟨⟨d, hd, rfl⟩, h⟩
    obtain ⟨h1, h2⟩ := List.mem_filter.1 hd
    have := (mem_rng _ _ _).1 h1
    exact ⟨⟨d, this.1, this.2, h2, rfl⟩, h⟩
  · rintro ⟨⟨d, h1, h2, h3, rfl⟩, h⟩
    exact ⟨⟨d, List.mem_filter.2 ⟨(mem_rng _ _ _).2 ⟨h1, h2⟩, h3⟩, rfl⟩, h⟩
theorem mem_ds {c : C7} {y0 m0 d0 x : Int} (hv : Civ.vldB y0 m0 d0 = true) : x ∈ ds c y0 m0 d0 ↔ Civ.num y0 m0 d0 ≤ x ∧ x < 84371 ∧ inL c.year (Civ.dY x) = true ∧ inL c.month (Civ.dM x) = true ∧ inL c.day (Civ.dD x) = true ∧ onW c.week x = true := by
  obtain ⟨v1, v2, v3, v4, v5, v6⟩ := Civ.vldB_iff.1 hv
  have hb0 := Civ.num_bd hv
  unfold ds
  rw [List.mem_flatMap]
  constructor
  · rintro ⟨y, hy, hx⟩
    obtain ⟨y1, y2⟩ := List.mem_filter.1 hy
    have y3 := (mem_rng _ _ _).1 y1
    unfold dsY at hx
    obtain ⟨m, hm, hx⟩ := List.mem_flatMap.1 hx
    obtain ⟨k1, k2⟩ := List.mem_filter.1 hm
    have k3 := (mem_rng _ _ _).1 k1
    obtain ⟨⟨d, d1, d2, d3, rfl⟩, ho⟩ := mem_dsM.1 hx
    have hm1 : 1 ≤ m := by unfold m1 at k3; split at k3 <;> omega
    have hv' : Civ.vldB y m d = true := Civ.vldB_iff.2 ⟨by omega, by omega, hm1, k3.2, d1, d2⟩
    obtain ⟨e1, e2, e3⟩ := Civ.num_date hv'
    rw [e1, e2, e3]
    simp only [okD, Bool.and_eq_true, decide_eq_true_eq] at ho
    exact ⟨ho.1, (Civ.num_bd hv').2.1, y2, k2, d3, ho.2⟩
  · rintro ⟨h1, h2, h3, h4, h5, h6⟩
    have hv' := Civ.date_vld (n := x) (by omega) h2
    obtain ⟨w1, w2, w3, w4, w5, w6⟩ := Civ.vldB_iff.1 hv'
    have hn := Civ.date_num (n := x)
    have hle : ¬ (Civ.num (Civ.dY x) (Civ.dM x) (Civ.dD x) < Civ.num y0 m0 d0) := by omega
    rw [Civ.num_lt hv' hv] at hle
    refine ⟨Civ.dY x, List.mem_filter.2 ⟨(mem_rng _ _ _).2 ⟨by omega, w2⟩, h3⟩, ?_⟩
    unfold dsY
    refine List.mem_flatMap.2 ⟨Civ.dM x, List.mem_filter.2 ⟨(mem_rng _ _ _).2 ⟨?_, w4⟩, h4⟩, ?_⟩
    · unfold m1; split <;> omega
    · refine mem_dsM.2 ⟨⟨Civ.dD x, w5, w6, h5, hn.symm⟩, ?_⟩
      simp only [okD, Bool.and_eq_true, decide_eq_true_eq]
      exact ⟨h1, h6⟩
theorem sort_ds {c : C7} {y0 m0 d0 : Int} (hv : Civ.vldB y0 m0 d0 = true) : (ds c y0 m0 d0).Pairwise (· < ·) := by
  obtain ⟨v1, v2, v3, v4, v5, v6⟩ := Civ.vldB_iff.1 hv
  unfold ds
  have hm1 : ∀ {y m : Int}, m ∈ (rng (m1 y0 m0 y) 12).filter (inL c.month) → 1 ≤ m ∧ m ≤ 12 := by
    intro y m hm
    have k3 := (mem_rng _ _ _).1 (List.mem_filter.1 hm).1
    unfold m1 at k3; split at k3 <;> omega
  refine sort_flat ((sort_rng _ _).filter _) ?_ ?_
  · intro y hy
    have y3 := (mem_rng _ _ _).1 (List.mem_filter.1 hy).1
    unfold dsY
    refine sort_flat ((sort_rng _ _).filter _) ?_ ?_
    · intro m hm
      refine List.Pairwise.filter _ (sort_map _ ((sort_rng _ _).filter _) (fun a _ b _ h => ?_))
      unfold Civ.num; omega
    · intro a ha b hb hab x hx z hz
      obtain ⟨⟨d, d1, d2, _, rfl⟩, _⟩ := mem_dsM.1 hx
      obtain ⟨⟨k, k1, k2, _, rfl⟩, _⟩ := mem_dsM.1 hz
      have ha' := hm1 ha
      have hb' := hm1 hb
      exact (Civ.num_lt (Civ.vldB_iff.2 ⟨by omega, by omega, ha'.1, ha'.2, d1, d2⟩) (Civ.vldB_iff.2 ⟨by omega, by omega, hb'.1, hb'.2, k1, k2⟩)).2 (.inr ⟨rfl, .inl hab⟩)
  · intro a ha b hb hab x hx z hz
    have y3 := (mem_rng _ _ _).1 (List.mem_filter.1 ha).1
    have y4 := (mem_rng _ _ _).1 (List.mem_filter.1 hb).1
    unfold dsY at hx hz
    obtain ⟨m, hm, hx⟩ := List.mem_flatMap.1 hx
    obtain ⟨m', hm', hz⟩ := List.mem_flatMap.1 hz
    obtain ⟨⟨d, d1, d2, _, rfl⟩, _⟩ := mem_dsM.1 hx
    obtain ⟨⟨k, k1, k2, _, rfl⟩, _⟩ := mem_dsM.1 hz
    have ha' := hm1 hm
    have hb' := hm1 hm'
    exact (Civ.num_lt (Civ.vldB_iff.2 ⟨by omega, by omega, ha'.1, ha'.2, d1, d2⟩) (Civ.vldB_iff.2 ⟨by omega, by omega, hb'.1, hb'.2, k1, k2⟩)).2 (.inl hab)
theorem mem_tsF {c : C7} {f x : Int} (h0 : 0 ≤ f) (h1 : f < 7289654400) : x ∈ tsF c f ↔ f ≤ x ∧ x < 7289654400 ∧ mt c x = true := by
  have hv := Civ.date_vld (n := f / 86400) (by omega) (by omega)
  have hn := Civ.date_num (n := f / 86400)
  unfold tsF
  rw [List.mem_flatMap]
  unfold mt
  simp only [Bool.and_eq_true]
  constructor
  · rintro ⟨d, hd, hx⟩
    obtain ⟨a1, a2, a3, a4, a5, a6⟩ := (mem_ds hv).1 hd
    unfold tsD at hx
    obtain ⟨s, hs, rfl⟩ := List.mem_map.1 hx
    obtain ⟨b1, b2, b3, b4, b5⟩ := (mem_ss (by omega)).1 hs
    rw [hn] at a1
    have e1 : (d * 86400 + s) / 86400 = d := by omega
    have e2 : (d * 86400 + s) % 86400 = s := by omega
    have e3 : (d * 86400 + s) % 60 = s % 60 := by omega
    rw [e1, e2, e3]
    exact ⟨by omega, by omega, a3, a4, a5, a6, b3, b4, b5⟩
  · rintro ⟨c1, c2, a3, a4, a5, a6, b3, b4, b5⟩
    refine ⟨x / 86400, (mem_ds hv).2 ⟨by omega, by omega, a3, a4, a5, a6⟩, ?_⟩
    unfold tsD
    refine List.mem_map.2 ⟨x % 86400, (mem_ss (by omega)).2 ⟨by omega, by omega, b3, b4, ?_⟩, by omega⟩
    rw [show x % 86400 % 60 = x % 60 by omega]; exact b5
theorem sort_tsF {c : C7} {f : Int} (h0 : 0 ≤ f) (h1 : f < 7289654400) : (tsF c f).Pairwise (· < ·) := by
  have hv := Civ.date_vld (n := f / 86400) (by omega) (by omega)
  unfold tsF
  refine sort_flat (sort_ds hv) ?_ ?_
  · intro d _
    exact sort_map _ (sort_ss (by omega)) (fun a _ b _ h => by omega)
  · intro a _ b _ hab x hx y hy
    unfold tsD at hx hy
    obtain ⟨s, hs, rfl⟩ := List.mem_map.1 hx
    obtain ⟨k, hk, rfl⟩ := List.mem_map.1 hy
    have := (mem_ss (by omega)).1 hs
    have := (mem_ss (by omega)).1 hk
    omega
theorem mem_ts {c : C7} {t x : Int} : x ∈ ts c t ↔ max t (-1) < x ∧ x < 7289654400 ∧ mt c x = true := by
  unfold ts fromT
  split
  · rw [mem_tsF (by omega) (by assumption)]
    constructor <;> rintro ⟨a, b, d⟩ <;> exact ⟨by omega, b, d⟩
  · constructor
    · intro h; cases h
    · rintro ⟨a, b, _⟩; omega
theorem sort_ts {c : C7} {t : Int} : (ts c t).Pairwise (· < ·) := by
  unfold ts fromT
  split
  · exact sort_tsF (by omega) (by assumption)
  · exact .nil
theorem nx_some {c : C7} {t n : Int} : nx c t = some n ↔ (max t (-1) < n ∧ n < 7289654400 ∧ mt c n = true) ∧ ∀ x, max t (-1) < x → x < n → mt c x = false := by
  unfold nx
  constructor
  · intro h
    obtain ⟨r, hr⟩ : ∃ r, ts c t = n :: r := by cases e : ts c t with | nil => rw [e] at h; cases h | cons a r => rw [e] at h; cases h; exact ⟨r, rfl⟩
    have hm := (mem_ts (c := c) (t := t) (x := n)).1 (by rw [hr]; simp)
    refine ⟨hm, fun x hx hn => ?_⟩
    cases hmx : mt c x with
    | false => rfl
    | true =>
      have h2 := (mem_ts (c := c) (t := t) (x := x)).2 ⟨hx, by omega, hmx⟩
      have hs := sort_ts (c := c) (t := t)
      rw [hr] at hs h2
      rcases List.mem_cons.1 h2 with rfl | h3
      · omega
      · have := (List.pairwise_cons.1 hs).1 x h3; omega
  · rintro ⟨hm, hl⟩
    have h2 := (mem_ts (c := c) (t := t) (x := n)).2 hm
    cases e : ts c t with
    | nil => rw [e] at h2; cases h2
    | cons a r =>
      have ha := (mem_ts (c := c) (t := t) (x := a)).1 (by rw [e]; simp)
      have hs := sort_ts (c := c) (t := t)
      rw [e] at hs h2
      rcases List.mem_cons.1 h2 with rfl | h3
      · rfl
      · have := (List.pairwise_cons.1 hs).1 n h3
        have := hl a ha.1 this
        rw [this] at ha; cases ha.2.2
theorem nx_none {c : C7} {t : Int} : nx c t = none ↔ ∀ x, max t (-1) < x → x < 7289654400 → mt c x = false := by
  unfold nx
  rw [List.head?_eq_none_iff]
  constructor
  · intro h x h1 h2
    cases hmx : mt c x with
    | false => rfl
    | true => have := (mem_ts (c := c) (t := t) (x := x)).2 ⟨h1, h2, hmx⟩; rw [h] at this; cases this
  · intro h
    cases e : ts c t with
    | nil => rfl
    | cons a r =>
      have ha := (mem_ts (c := c) (t := t) (x := a)).1 (by rw [e]; simp)
      rw [h a ha.1 ha.2.1] at ha; cases ha.2.2
end Go.Proofs.YtehlnhljpdjppaaGreatDoor.Cal
/- Iterators of functions, by territories: what a row's taker may turn, what is left as it lay; the law of a loop over such a row. -/
namespace Go.Proofs.YtehlnhljpdjppaaGreatDoor
open Go.RowKit Go.Shelf
/-- From W to V nothing turns but blocks of E and new ones. -/
structure Mv (E : Nat → Prop) (W V : World) : Prop where
  os : V.os = W.os
  tape : V.tape = W.tape
  output : V.output = W.output
  size : W.heap.size ≤ V.heap.size
  block : ∀ k, k < W.heap.size → ¬ E k → V.heap[k]? = W.heap[k]?
/-- E' is E and what is new behind W. -/
def Gr (E : Nat → Prop) (W : World) (E' : Nat → Prop) : Prop := ∀ k, E' k → E k ∨ W.heap.size ≤ k
theorem Gr.refl (E : Nat → Prop) (W : World) : Gr E W E := fun _ h => .inl h
theorem Mv.refl (E : Nat → Prop) (W : World) : Mv E W W := ⟨rfl, rfl, rfl, Nat.le_refl _, fun _ _ _ => rfl⟩
theorem Mv.trans {E E' : Nat → Prop} {A B C : World} (h : Mv E A B) (g : Gr E A E') (k : Mv E' B C) : Mv E A C :=
  ⟨k.os.trans h.os, k.tape.trans h.tape, k.output.trans h.output, Nat.le_trans h.size k.size, fun b hb he =>
    (k.block b (Nat.lt_of_lt_of_le hb h.size) (fun e' => by rcases g b e' with e | e; exact he e; omega)).trans (h.block b hb he)⟩
theorem Mv.trans' {E : Nat → Prop} {A B C : World} (h : Mv E A B) (k : Mv E B C) : Mv E A C := h.trans (Gr.refl _ _) k
theorem Mv.mono {E E' : Nat → Prop} {A B : World} (h : Mv E A B) (g : ∀ k, k < A.heap.size → E k → E' k) : Mv E' A B := ⟨h.os, h.tape, h.output, h.size, fun b hb he => h.block b hb (fun e => he (g b hb e))⟩
theorem Mv.below {E : Nat → Prop} {A B : World} (h : Below A.heap.size A B) : Mv E A B := ⟨h.os, h.tape, h.output, h.size, fun b hb _ => h.block b hb⟩
theorem Mv.toBelow {E : Nat → Prop} {A B : World} {n : Nat} (h : Mv E A B) (hn : n ≤ A.heap.size) (he : ∀ k, k < n → ¬ E k) : Below n A B := ⟨h.os, h.tape, h.output, h.size, fun b hb => h.block b (Nat.lt_of_lt_of_le hb hn) (he b hb)⟩
theorem Mv.alloc (E : Nat → Prop) (W : World) (o : Obj) : Mv E W (W.alloc o) := .below ((Below.refl _ W).alloc (Nat.le_refl _) _)
theorem Mv.drew (E : Nat → Prop) (W : World) : Mv E W W.drew := .below (Below.refl _ W).drew
theorem Mv.put {E : Nat → Prop} {W : World} {l : Nat} (h : E l) (o : Obj) : Mv E W (W.putObj l o) := ⟨rfl, rfl, rfl, by simp, fun b _ he => World.putObj_heap_other (fun e => he (e ▸ h))⟩
theorem Gr.trans {E E' E'' : Nat → Prop} {A B : World} (h : Gr E A E') (hs : A.heap.size ≤ B.heap.size) (k : Gr E' B E'') : Gr E A E'' := fun b hb => by
  rcases k b hb with e | e
  · exact h b e
  · exact .inr (Nat.le_trans hs e)
theorem Gr.mono {E E' : Nat → Prop} {A B : World} (hs : A.heap.size ≤ B.heap.size) (k : Gr E B E') : Gr E A E' := fun b hb => by
  rcases k b hb with e | e
  · exact .inl e
  · exact .inr (Nat.le_trans hs e)
theorem Mv.put_new {E : Nat → Prop} {A W : World} {l : Nat} (h : Mv E A W) (hl : A.heap.size ≤ l) (o : Obj) : Mv E A (W.putObj l o) :=
  ⟨h.os, h.tape, h.output, by simpa using h.size, fun b hb he => (World.putObj_heap_other (by omega)).trans (h.block b hb he)⟩
/-- What is said hangs on the blocks of its territory and on those below B alone; its territory lies in the heap. -/
structure Ter {β : Type} (B : Nat) (J : β → (Nat → Prop) → World → Prop) : Prop where
  keep : ∀ s E W V, J s E W → Mv (fun k => ¬ E k ∧ B ≤ k) W V → J s E V
  low : ∀ s E W, J s E W → ∀ k, E k → k < W.heap.size
theorem Mv.out {E F : Nat → Prop} {W V : World} (m : Mv E W V) (h : ∀ k, k < W.heap.size → E k → F k) : Mv F W V := m.mono h
theorem Mv.put_at {E : Nat → Prop} {W : World} {l : Nat} (h : E l) (o : Obj) : Mv E W (W.putObj l o) := .put h o
/-- The taker of a row: it takes x, and goes on or not. -/
def Yi (P : Program) {α : Type} (l : Nat) (enc : α → Array Value) (J : List α → (Nat → Prop) → World → Prop) (Jx : Unit → (Nat → Prop) → World → Prop) : Prop :=
  ∀ x rest E W, J (x :: rest) E W → YieldAt Fence.wide 3 P l (enc x) W fun e V => Mv E W V ∧
    ((e = .returned (.bool true) ∧ ∃ E', Gr E W E' ∧ J rest E' V) ∨ (e = .returned (.bool false) ∧ ∃ E', Gr E W E' ∧ Jx () E' V))
/-- What comes of going through a row. -/
def Went {α : Type} (J : List α → (Nat → Prop) → World → Prop) (Jx : Unit → (Nat → Prop) → World → Prop) (E : Nat → Prop) (W : World) (e : Ending) (V : World) : Prop :=
  (∃ v, e = .returned v) ∧ Mv E W V ∧ ((∃ E', Gr E W E' ∧ J [] E' V) ∨ (∃ E', Gr E W E' ∧ Jx () E' V))
/-- Function g with what it has captured is the row xs, for all takers that turn nothing but E and what is new behind W. -/
def Row (P : Program) {α : Type} (g : Nat) (lb : Array Value) (enc : α → Array Value) (xs : List α) (E : Nat → Prop) (W : World) : Prop :=
  ∀ (l : Nat) (J : List α → (Nat → Prop) → World → Prop) (Jx : Unit → (Nat → Prop) → World → Prop) (E1 : Nat → Prop) (V : World),
    Mv E W V → Gr E W E1 → Ter V.heap.size J → Ter V.heap.size Jx → Yi P l enc J Jx → J xs E1 V →
    Calls P g (#[.func (.yield l) #[] #[]] ++ lb) V (Went J Jx E1 V)
theorem Row.later {P : Program} {α : Type} {g : Nat} {lb : Array Value} {enc : α → Array Value} {xs : List α} {E E1 : Nat → Prop} {W V : World}
    (h : Row P g lb enc xs E W) (m : Mv E W V) (gr : Gr E W E1) : Row P g lb enc xs E1 V :=
  fun l J Jx E2 V2 m2 g2 => h l J Jx E2 V2 (m.trans gr m2) (gr.trans m.size g2)
theorem wide_round {l n m : Nat} {P : Program} {l' f : Nat} {tmps : Array Value} {assign body : Code} {w : World} {R : Ending → World → Prop}
    (h : RoundIn (Fence.wide) n P l' f tmps assign body w R) : RoundIn (Fence.wide.inRound l) m P l' f tmps assign body w R :=
  ⟨trivial, fun c cs _ => h.2 c cs (fun d hd => by cases hd)⟩
theorem wide_round' {n m : Nat} {P : Program} {l' f : Nat} {tmps : Array Value} {assign body : Code} {w : World} {R : Ending → World → Prop}
    (h : RoundIn (Fence.wide) n P l' f tmps assign body w R) : RoundIn (Fence.wide) m P l' f tmps assign body w R :=
  ⟨trivial, fun c cs _ => h.2 c cs (fun d hd => by cases hd)⟩
/-- W1 and W2 part at most in the loop's record. -/
structure Twin (l : Nat) (A B : World) : Prop where
  os : B.os = A.os
  tape : B.tape = A.tape
  output : B.output = A.output
  size : B.heap.size = A.heap.size
  block : ∀ k, k ≠ l → B.heap[k]? = A.heap[k]?
  here : ∃ r, B.heap[l]? = some (.loop r)
/-- How a round's body may be left. -/
def roundX {α : Type} (I : List α → (Nat → Prop) → World → Prop) (Ix : Code → (Nat → Prop) → World → Prop) (rest : List α) (E : Nat → Prop) (W : World) : Exit → Act → World → Prop
  | .normal, _, V => Mv E W V ∧ ∃ E', Gr E W E' ∧ I rest E' V
  | .ret, _, V => Mv E W V ∧ ∃ E', Gr E W E' ∧ Ix .ret E' V
  | .exit id, _, V => Mv E W V ∧ ∃ E', Gr E W E' ∧ Ix (.exit id) E' V
  | .goto t, _, V => Mv E W V ∧ ∃ E', Gr E W E' ∧ Ix (.goto t) E' V
  | .panic _, _, _ => False
  | .outgrown, _, _ => False
/-- What one round asks of its code. -/
def RoundOk (P : Program) {α : Type} (ps : Array Tmp) (assign body : Code) (enc : α → Array Value) (I : List α → (Nat → Prop) → World → Prop) (Ix : Code → (Nat → Prop) → World → Prop) (tmps : Array Value) (E0 : Nat → Prop) (w : World) (l : Nat) : Prop :=
  ∀ x rest E W, I (x :: rest) E W → Mv E0 w W → Gr E0 w E → ¬ E l → (∃ r, W.heap[l]? = some (.loop r)) →
    assign.wpIn (Fence.wide.inRound l) 3 P (Exit.then (fun a₁ W1 => (Mv E W W1 ∧ W1.heap[l]? = W.heap[l]?) ∧ ∀ W2, Twin l W1 W2 → body.wpIn (Fence.wide.inRound l) 3 P (roundX I Ix rest E W2) a₁ W2) (fun _ _ _ => False))
      { tmps := (ps.zip (enc x)).foldl (fun t (p, v) => t.setIfInBounds p v) tmps, defers := [] } W
theorem yi_of_round {P : Program} {α : Type} {ps : Array Tmp} {assign body : Code} {enc : α → Array Value} {I : List α → (Nat → Prop) → World → Prop} {Ix : Code → (Nat → Prop) → World → Prop} {tmps : Array Value} {l fn D : Nat}
    {B : Nat} {E00 : Nat → Prop} {w : World} (hl0 : w.heap.size ≤ l) (hBl : B ≤ l) (hI : Ter B I) (hIx : Ter B Ix) (hps : ∀ x, (enc x).size = ps.size) (hr : RoundOk P ps assign body enc I Ix tmps E00 w l) :
    Yi P l enc
      (fun rest E1 W => ∃ E, (∀ k, E1 k ↔ (E k ∨ k = l)) ∧ ¬ E l ∧ (I rest E W ∧ Mv E00 w W ∧ Gr E00 w E) ∧ W.heap[l]? = some (.loop { state := .ready, pending := none, fn := fn, tmps := tmps, params := ps, assign := assign, body := body, defers := D }))
      (fun _ E1 W => ∃ E c, (∀ k, E1 k ↔ (E k ∨ k = l)) ∧ ¬ E l ∧ (Ix c E W ∧ Mv E00 w W ∧ Gr E00 w E) ∧ W.heap[l]? = some (.loop { state := .done, pending := some c, fn := fn, tmps := tmps, params := ps, assign := assign, body := body, defers := D })) := by
  rintro x rest E1 W ⟨E, hE, hEl, ⟨hi, hmw, hgw⟩, hl⟩
  obtain ⟨rec, hrec⟩ : ∃ rec : LoopState → Option Code → Loop, rec = fun st pe => { state := st, pending := pe, fn := fn, tmps := tmps, params := ps, assign := assign, body := body, defers := D } := ⟨_, rfl⟩
  have hlr : W.heap[l]? = some (.loop (rec .ready none)) := by rw [hrec]; exact hl
  have hy := run_yield (P := P) (args := enc x) hl (hps x)
  refine ⟨fn, _, assign, body, hy, roundIn_of_wpIn trivial ?_⟩
  refine wpIn_mono (hr x rest E W hi hmw hgw hEl ⟨_, hl⟩) ?_
  intro e a1 W1 he
  cases e with
  | normal =>
    obtain ⟨⟨m1, hk1⟩, hb⟩ := he
    have hl1 := hk1.trans hlr
    have hlt : l < W1.heap.size := (Array.getElem?_eq_some_iff.1 hl1).1
    have hltW : l < W.heap.size := (Array.getElem?_eq_some_iff.1 hl).1
    refine ⟨_, run_beginRound hl1 (by rw [hrec]), ?_⟩
    have hl2 : (W1.putObj l (.loop { rec .ready none with state := .busy })).heap[l]? = some (.loop { rec .ready none with state := .busy }) := World.putObj_heap_same hlt
    have tw : Twin l W1 (W1.putObj l (.loop { rec .ready none with state := .busy })) := ⟨rfl, rfl, rfl, by simp, fun k hk => World.putObj_heap_other hk, ⟨_, hl2⟩⟩
    have m1' : Mv E1 W W1 := m1.mono (fun k _ h => (hE k).2 (.inl h))
    have m2 : Mv E1 W (W1.putObj l (.loop { rec .ready none with state := .busy })) := m1'.trans' (.put ((hE l).2 (.inr rfl)) _)
    refine wpIn_mono (hb _ tw) ?_
    revert hl2 m2
    generalize hW2 : W1.putObj l (.loop { rec .ready none with state := .busy }) = W2
    intro hl2 m2
    have hmw2 : Mv E00 w W2 := by rw [← hW2]; exact (hmw.trans hgw m1).put_new hl0 _
    have fin : ∀ (jump : Option Code) (W3 : World), Mv E W2 W3 → (Instr.endRound l jump).run P W3 = .ok (.bool jump.isNone) (W3.putObj l (.loop (rec (if jump.isNone then .ready else .done) jump))) ∧
        (W3.putObj l (.loop (rec (if jump.isNone then .ready else .done) jump))).heap[l]? = some (.loop (rec (if jump.isNone then .ready else .done) jump)) ∧ Mv E1 W (W3.putObj l (.loop (rec (if jump.isNone then .ready else .done) jump))) ∧ Mv E00 w (W3.putObj l (.loop (rec (if jump.isNone then .ready else .done) jump))) := by
      intro jump W3 m3
      have hl3 := (m3.block l (Array.getElem?_eq_some_iff.1 hl2).1 hEl).trans hl2
      have := run_endRound (P := P) jump hl3
      rw [hrec] at this ⊢
      exact ⟨this, World.putObj_heap_same (Array.getElem?_eq_some_iff.1 hl3).1, (m2.trans' (m3.mono (fun k _ h => (hE k).2 (.inl h)))).trans' (.put ((hE l).2 (.inr rfl)) _), ((hmw2.trans hgw m3).put_new hl0 _)⟩
    have grow : ∀ (E' : Nat → Prop) (V : World), Gr E W2 E' → Gr E1 W (fun k => (E' k ∧ k ≠ l) ∨ k = l) := by
      intro E' V g k hk
      rcases hk with ⟨hk, hne⟩ | rfl
      · rcases g k hk with h | h
        · exact .inl ((hE k).2 (.inl h))
        · exact .inr (Nat.le_trans m2.size h)
      · exact .inl ((hE k).2 (.inr rfl))
    have nel : ∀ (E' : Nat → Prop), Gr E W2 E' → ∀ k, E' k → k ≠ l := by
      intro E' g k hk e
      subst e
      rcases g k hk with h | h
      · exact hEl h
      · have := (Array.getElem?_eq_some_iff.1 hl2).1; omega
    have ggw : ∀ (E' : Nat → Prop), Gr E W2 E' → Gr E00 w E' := fun E' g => hgw.trans (Nat.le_trans hmw.size (by rw [← hW2]; simpa using m1.size)) g
    intro e3 a3 W3 hp
    cases e3 with
    | normal =>
      obtain ⟨m3, E', g3, hi3⟩ := hp
      obtain ⟨r3, hl4, m4, m5⟩ := fin none W3 m3
      refine ⟨_, _, r3, m4, .inl ⟨rfl, _, grow E' W3 g3, E', fun k => ?_, fun h => nel E' g3 l h rfl, ⟨hI.keep _ _ _ _ hi3 (.put ⟨fun h => nel E' g3 l h rfl, hBl⟩ _), m5, ggw E' g3⟩, by rw [hl4, hrec]; rfl⟩⟩
      exact ⟨fun h => h.imp And.left id, fun h => h.imp (fun h => ⟨h, nel E' g3 k h⟩) id⟩
    | ret =>
      obtain ⟨m3, E', g3, hi3⟩ := hp
      obtain ⟨r3, hl4, m4, m5⟩ := fin (some .ret) W3 m3
      refine ⟨_, _, r3, m4, .inr ⟨rfl, _, grow E' W3 g3, E', _, fun k => ?_, fun h => nel E' g3 l h rfl, ⟨hIx.keep _ _ _ _ hi3 (.put ⟨fun h => nel E' g3 l h rfl, hBl⟩ _), m5, ggw E' g3⟩, by rw [hl4, hrec]; rfl⟩⟩
      exact ⟨fun h => h.imp And.left id, fun h => h.imp (fun h => ⟨h, nel E' g3 k h⟩) id⟩
    | exit id' =>
      obtain ⟨m3, E', g3, hi3⟩ := hp
      obtain ⟨r3, hl4, m4, m5⟩ := fin (some (.exit id')) W3 m3
      refine ⟨_, _, r3, m4, .inr ⟨rfl, _, grow E' W3 g3, E', _, fun k => ?_, fun h => nel E' g3 l h rfl, ⟨hIx.keep _ _ _ _ hi3 (.put ⟨fun h => nel E' g3 l h rfl, hBl⟩ _), m5, ggw E' g3⟩, by rw [hl4, hrec]; rfl⟩⟩
      exact ⟨fun h => h.imp And.left id, fun h => h.imp (fun h => ⟨h, nel E' g3 k h⟩) id⟩
    | goto t =>
      obtain ⟨m3, E', g3, hi3⟩ := hp
      obtain ⟨r3, hl4, m4, m5⟩ := fin (some (.goto t)) W3 m3
      refine ⟨_, _, r3, m4, .inr ⟨rfl, _, grow E' W3 g3, E', _, fun k => ?_, fun h => nel E' g3 l h rfl, ⟨hIx.keep _ _ _ _ hi3 (.put ⟨fun h => nel E' g3 l h rfl, hBl⟩ _), m5, ggw E' g3⟩, by rw [hl4, hrec]; rfl⟩⟩
      exact ⟨fun h => h.imp And.left id, fun h => h.imp (fun h => ⟨h, nel E' g3 k h⟩) id⟩
    | panic ch => exact hp.elim
    | outgrown => exact hp.elim
  | ret => exact he.elim
  | exit _ => exact he.elim
  | goto _ => exact he.elim
  | panic _ => exact he.elim
  | outgrown => exact he.elim
/-- A loop over a row, outside of all rounds. -/
theorem loop_out {P : Program} {α : Type} {n : Nat} {g : Operand} {ps : Array Tmp} {assign body : Code} {Q : Exit → Act → World → Prop} {a : Act} {w : World} {gf : Nat} {lb : Array Value}
    (hg : a.eval g = .func (.func gf) #[] lb) (eg : ∀ args w, (callFunc gf args).run P w = .ok (.enter gf args) w) {enc : α → Array Value} {xs : List α} {E : Nat → Prop}
    (hrow : Row P gf lb enc xs E w) (hps : ∀ x, (enc x).size = ps.size) (I : List α → (Nat → Prop) → World → Prop) (Ix : Code → (Nat → Prop) → World → Prop) (hI : Ter w.heap.size I) (hIx : Ter w.heap.size Ix) (h0 : I xs E w)
    (hround : ∀ l, w.heap.size ≤ l → RoundOk P ps assign body enc I Ix a.tmps E w l)
    (hdone : ∀ D E' W, w.heap.size ≤ D → W.heap[D]? = some (.deferred (some [])) → ¬ E' D → Mv E w W → Gr E w E' → I [] E' W → Q .normal { a with defers := { target := .collected D, args := #[] } :: a.defers } W)
    (hstop : ∀ D c E' W, w.heap.size ≤ D → W.heap[D]? = some (.deferred (some [])) → ¬ E' D → Mv E w W → Gr E w E' → Ix c E' W → c.wpIn Fence.wide n P Q { a with defers := { target := .collected D, args := #[] } :: a.defers } W) :
    (Code.rangeFunc g ps assign body).wpIn Fence.wide n P Q a w := by
  refine wpIn_rangeFunc ?_
  intro fn _
  have hlow := hI.low _ _ _ h0
  obtain ⟨W1, hW1⟩ : ∃ W1, (w.alloc (.deferred (some []))).alloc (.loop { state := .ready, pending := none, fn := fn, tmps := a.tmps, params := ps, assign := assign, body := body, defers := w.heap.size }) = W1 := ⟨_, rfl⟩
  have hL1 : W1.heap[w.heap.size + 1]? = some (.loop { state := .ready, pending := none, fn := fn, tmps := a.tmps, params := ps, assign := assign, body := body, defers := w.heap.size }) := by
    rw [← hW1]; have := World.alloc_heap_new (w.alloc (.deferred (some []))) (.loop { state := .ready, pending := none, fn := fn, tmps := a.tmps, params := ps, assign := assign, body := body, defers := w.heap.size }); rwa [World.size_alloc] at this
  have hK1 : W1.heap[w.heap.size]? = some (.deferred (some [])) := by
    rw [← hW1]; exact (Below.heap_alloc _ _ _ (by simp)).trans (World.alloc_heap_new w _)
  have hs1 : W1.heap.size = w.heap.size + 2 := by rw [← hW1]; simp
  have m1 : Mv E w W1 := by rw [← hW1]; exact (Mv.alloc _ _ _).trans' (Mv.alloc _ _ _)
  have g1 : Gr E w (fun k => E k ∨ k = w.heap.size + 1) := fun k hk => hk.imp id (fun e => by omega)
  refine ⟨w.heap.size + 1, [{ target := .collected w.heap.size, args := #[] }], W1, { target := .fn (.func gf) lb, args := #[.func (.yield (w.heap.size + 1)) #[] #[]] }, W1, gf, #[.func (.yield (w.heap.size + 1)) #[] #[]] ++ lb, W1, ?_, ?_, fun _ _ => trivial, ?_, fun h => (by cases h), callsIn_wide.2 ?_⟩
  · rw [← hW1]; exact run_enterLoop_outer _ _ _ _ _
  · simp only [resolve, hg]
    simp [go_sem]
  · simp [invoke, go_sem, eg]
  · refine (hrow (w.heap.size + 1) _ _ (fun k => E k ∨ k = w.heap.size + 1) W1 m1 g1 ?_ ?_ (yi_of_round (fn := fn) (D := w.heap.size) (by omega) (by omega) hI hIx hps (hround _ (by omega))) ?_).mono ?_
    · refine ⟨fun s E1 W V h m => ?_, fun s E1 W h k hk => ?_⟩
      · obtain ⟨E0, hE, hEl, ⟨hi, hmw, hgw⟩, hl⟩ := h
        refine ⟨E0, hE, hEl, ⟨hI.keep _ _ _ _ hi (m.out (fun k _ h => ⟨fun e => h.1 ((hE k).2 (.inl e)), by omega⟩)), ?_, hgw⟩, ?_⟩
        · exact ⟨m.os.trans hmw.os, m.tape.trans hmw.tape, m.output.trans hmw.output, Nat.le_trans hmw.size m.size, fun k hk he => (m.block k (Nat.lt_of_lt_of_le hk hmw.size) (fun h => by omega)).trans (hmw.block k hk he)⟩
        · exact (m.block _ (Array.getElem?_eq_some_iff.1 hl).1 (fun h => h.1 ((hE _).2 (.inr rfl)))).trans hl
      · obtain ⟨E0, hE, hEl, ⟨hi, hmw, hgw⟩, hl⟩ := h
        rcases (hE k).1 hk with h | rfl
        · exact hI.low _ _ _ hi k h
        · exact (Array.getElem?_eq_some_iff.1 hl).1
    · refine ⟨fun s E1 W V h m => ?_, fun s E1 W h k hk => ?_⟩
      · obtain ⟨E0, c, hE, hEl, ⟨hi, hmw, hgw⟩, hl⟩ := h
        refine ⟨E0, c, hE, hEl, ⟨hIx.keep _ _ _ _ hi (m.out (fun k _ h => ⟨fun e => h.1 ((hE k).2 (.inl e)), by omega⟩)), ?_, hgw⟩, ?_⟩
        · exact ⟨m.os.trans hmw.os, m.tape.trans hmw.tape, m.output.trans hmw.output, Nat.le_trans hmw.size m.size, fun k hk he => (m.block k (Nat.lt_of_lt_of_le hk hmw.size) (fun h => by omega)).trans (hmw.block k hk he)⟩
        · exact (m.block _ (Array.getElem?_eq_some_iff.1 hl).1 (fun h => h.1 ((hE _).2 (.inr rfl)))).trans hl
      · obtain ⟨E0, c, hE, hEl, ⟨hi, hmw, hgw⟩, hl⟩ := h
        rcases (hE k).1 hk with h | rfl
        · exact hIx.low _ _ _ hi k h
        · exact (Array.getElem?_eq_some_iff.1 hl).1
    · exact ⟨E, fun k => Iff.rfl, fun h => by have := hlow _ h; omega, ⟨hI.keep _ _ _ _ h0 (by rw [← hW1]; exact (Mv.alloc _ _ _).trans' (Mv.alloc _ _ _)), m1, Gr.refl _ _⟩, hL1⟩
    · rintro e W2 ⟨⟨v, rfl⟩, m2, (⟨E1, g2, E0, hE, hEl, ⟨hi, mW, gW⟩, hl⟩ | ⟨E1, g2, E0, c, hE, hEl, ⟨hi, mW, gW⟩, hl⟩)⟩
      all_goals
        have hKD : W2.heap[w.heap.size]? = some (.deferred (some [])) := (m2.block _ (by omega) (fun h => by rcases h with h | h; exact absurd (hlow _ h) (by omega); omega)).trans hK1
        have nD : ¬ E0 w.heap.size := fun h => by
          rcases g2 _ ((hE _).2 (.inl h)) with (h | h) | h
          · exact absurd (hlow _ h) (by omega)
          · omega
          · omega
      · refine ⟨none, _, run_endLoop hl (by simp), ?_⟩
        exact hdone w.heap.size E0 _ (Nat.le_refl _) ((World.putObj_heap_other (by omega)).trans hKD) nD (mW.put_new (by omega) _) gW (hI.keep _ _ _ _ hi (.put ⟨hEl, by omega⟩ _))
      · refine ⟨some c, _, run_endLoop hl (by simp), ?_⟩
        exact hstop w.heap.size c E0 _ (Nat.le_refl _) ((World.putObj_heap_other (by omega)).trans hKD) nD (mW.put_new (by omega) _) gW (hIx.keep _ _ _ _ hi (.put ⟨hEl, by omega⟩ _))
/-- A loop over a row, in a round of another one. -/
theorem loop_in {P : Program} {α : Type} {n l₀ : Nat} {g : Operand} {ps : Array Tmp} {assign body : Code} {Q : Exit → Act → World → Prop} {a : Act} {w : World} {gf : Nat} {lb : Array Value}
    (hl₀ : ∃ r₀, w.heap[l₀]? = some (.loop r₀)) (hg : a.eval g = .func (.func gf) #[] lb) (eg : ∀ args w, (callFunc gf args).run P w = .ok (.enter gf args) w) {enc : α → Array Value} {xs : List α} {E : Nat → Prop}
    (hrow : Row P gf lb enc xs E w) (hps : ∀ x, (enc x).size = ps.size) (I : List α → (Nat → Prop) → World → Prop) (Ix : Code → (Nat → Prop) → World → Prop) (hI : Ter w.heap.size I) (hIx : Ter w.heap.size Ix) (h0 : I xs E w)
    (hround : ∀ l, w.heap.size ≤ l → RoundOk P ps assign body enc I Ix a.tmps E w l)
    (hdone : ∀ E' W, Mv E w W → Gr E w E' → I [] E' W → Q .normal a W)
    (hstop : ∀ c E' W, Mv E w W → Gr E w E' → Ix c E' W → c.wpIn (Fence.wide.inRound l₀) n P Q a W) :
    (Code.rangeFunc g ps assign body).wpIn (Fence.wide.inRound l₀) n P Q a w := by
  refine wpIn_rangeFunc ?_
  intro fn _
  obtain ⟨r₀, hl₀⟩ := hl₀
  have hlow := hI.low _ _ _ h0
  obtain ⟨W1, hW1⟩ : ∃ W1, w.alloc (.loop { state := .ready, pending := none, fn := fn, tmps := a.tmps, params := ps, assign := assign, body := body, defers := r₀.defers }) = W1 := ⟨_, rfl⟩
  have hL1 : W1.heap[w.heap.size]? = some (.loop { state := .ready, pending := none, fn := fn, tmps := a.tmps, params := ps, assign := assign, body := body, defers := r₀.defers }) := by
    rw [← hW1]; exact World.alloc_heap_new w _
  have hs1 : W1.heap.size = w.heap.size + 1 := by rw [← hW1]; simp
  have m1 : Mv E w W1 := by rw [← hW1]; exact Mv.alloc _ _ _
  have g1 : Gr E w (fun k => E k ∨ k = w.heap.size) := fun k hk => hk.imp id (fun e => by omega)
  refine ⟨w.heap.size, [], W1, { target := .fn (.func gf) lb, args := #[.func (.yield w.heap.size) #[] #[]] }, W1, gf, #[.func (.yield w.heap.size) #[] #[]] ++ lb, W1, ?_, ?_, fun _ _ => trivial, ?_, fun h => (by cases h), CallsIn.inRound l₀ (callsIn_wide.2 ?_)⟩
  · rw [← hW1]; exact run_enterLoop_inner hl₀ _ _ _ _ _
  · simp only [resolve, hg]
    simp [go_sem]
  · simp [invoke, go_sem, eg]
  · refine (hrow w.heap.size _ _ (fun k => E k ∨ k = w.heap.size) W1 m1 g1 ?_ ?_ (yi_of_round (fn := fn) (D := r₀.defers) (by omega) (by omega) hI hIx hps (hround _ (by omega))) ?_).mono ?_
    · refine ⟨fun s E1 W V h m => ?_, fun s E1 W h k hk => ?_⟩
      · obtain ⟨E0, hE, hEl, ⟨hi, hmw, hgw⟩, hl⟩ := h
        refine ⟨E0, hE, hEl, ⟨hI.keep _ _ _ _ hi (m.out (fun k _ h => ⟨fun e => h.1 ((hE k).2 (.inl e)), by omega⟩)), ?_, hgw⟩, ?_⟩
        · exact ⟨m.os.trans hmw.os, m.tape.trans hmw.tape, m.output.trans hmw.output, Nat.le_trans hmw.size m.size, fun k hk he => (m.block k (Nat.lt_of_lt_of_le hk hmw.size) (fun h => by omega)).trans (hmw.block k hk he)⟩
        · exact (m.block _ (Array.getElem?_eq_some_iff.1 hl).1 (fun h => h.1 ((hE _).2 (.inr rfl)))).trans hl
      · obtain ⟨E0, hE, hEl, ⟨hi, hmw, hgw⟩, hl⟩ := h
        rcases (hE k).1 hk with h | rfl
        · exact hI.low _ _ _ hi k h
        · exact (Array.getElem?_eq_some_iff.1 hl).1
    · refine ⟨fun s E1 W V h m => ?_, fun s E1 W h k hk => ?_⟩
      · obtain ⟨E0, c, hE, hEl, ⟨hi, hmw, hgw⟩, hl⟩ := h
        refine ⟨E0, c, hE, hEl, ⟨hIx.keep _ _ _ _ hi (m.out (fun k _ h => ⟨fun e => h.1 ((hE k).2 (.inl e)), by omega⟩)), ?_, hgw⟩, ?_⟩
        · exact ⟨m.os.trans hmw.os, m.tape.trans hmw.tape, m.output.trans hmw.output, Nat.le_trans hmw.size m.size, fun k hk he => (m.block k (Nat.lt_of_lt_of_le hk hmw.size) (fun h => by omega)).trans (hmw.block k hk he)⟩
        · exact (m.block _ (Array.getElem?_eq_some_iff.1 hl).1 (fun h => h.1 ((hE _).2 (.inr rfl)))).trans hl
      · obtain ⟨E0, c, hE, hEl, ⟨hi, hmw, hgw⟩, hl⟩ := h
        rcases (hE k).1 hk with h | rfl
        · exact hIx.low _ _ _ hi k h
        · exact (Array.getElem?_eq_some_iff.1 hl).1
    · exact ⟨E, fun k => Iff.rfl, fun h => by have := hlow _ h; omega, ⟨hI.keep _ _ _ _ h0 (by rw [← hW1]; exact Mv.alloc _ _ _), m1, Gr.refl _ _⟩, hL1⟩
    · rintro e W2 ⟨⟨v, rfl⟩, m2, (⟨E1, g2, E0, hE, hEl, ⟨hi, mW, gW⟩, hl⟩ | ⟨E1, g2, E0, c, hE, hEl, ⟨hi, mW, gW⟩, hl⟩)⟩
      · exact ⟨none, _, run_endLoop hl (by simp), hdone E0 _ (mW.put_new (by omega) _) gW (hI.keep _ _ _ _ hi (.put ⟨hEl, by omega⟩ _))⟩
      · exact ⟨some c, _, run_endLoop hl (by simp), hstop c E0 _ (mW.put_new (by omega) _) gW (hIx.keep _ _ _ _ hi (.put ⟨hEl, by omega⟩ _))⟩
theorem Ter.up {β : Type} {B B' : Nat} {J : β → (Nat → Prop) → World → Prop} (h : Ter B J) (hB : B ≤ B') : Ter B' J :=
  ⟨fun s E W V hj m => h.keep s E W V hj (m.mono (fun _ _ hk => ⟨hk.1, Nat.le_trans hB hk.2⟩)), h.low⟩
theorem Ter.comp {β γ : Type} {B : Nat} {J : β → (Nat → Prop) → World → Prop} (h : Ter B J) (f : γ → β) : Ter B (fun s => J (f s)) :=
  ⟨fun s E W V hj m => h.keep (f s) E W V hj m, fun s E W hj => h.low (f s) E W hj⟩
theorem Ter.and {β : Type} {B : Nat} {J : β → (Nat → Prop) → World → Prop} (h : Ter B J) (p : β → Prop) : Ter B (fun s E W => p s ∧ J s E W) :=
  ⟨fun s E W V hj m => ⟨hj.1, h.keep s E W V hj.2 m⟩, fun s E W hj => h.low s E W hj.2⟩
theorem Mv.twin {E : Nat → Prop} {A B C : World} {l : Nat} (h : Mv E A B) (t : Twin l B C) (hl : A.heap.size ≤ l) : Mv E A C :=
  ⟨t.os.trans h.os, t.tape.trans h.tape, t.output.trans h.output, by have := h.size; rw [t.size]; exact this, fun k hk he => (t.block k (by omega)).trans (h.block k hk he)⟩
theorem Twin.mv {l : Nat} {A B : World} (t : Twin l A B) : Mv (fun k => k = l) A B := ⟨t.os, t.tape, t.output, by rw [t.size]; exact Nat.le_refl _, fun k _ hk => t.block k hk⟩
/-- What holds behind the assignment, when the round has begun. -/
theorem Twin.go {α : Type} {B l : Nat} {I : List α → (Nat → Prop) → World → Prop} {E E0 : Nat → Prop} {w W W1 W2 : World} {s : List α} (t : Twin l W1 W2) (hI : Ter B I) (hi : I s E W) (m : Mv (fun k => ¬ E k ∧ B ≤ k) W W1) (hm : Mv E0 w W) (hw : w.heap.size ≤ B) (hl : B ≤ l) (hE : ¬ E l) :
    I s E W2 ∧ Mv E0 w W2 := by
  refine ⟨hI.keep _ _ _ _ (hI.keep _ _ _ _ hi m) (t.mv.mono (fun k _ e => by subst e; exact ⟨hE, hl⟩)), ?_⟩
  have h1 : Mv E0 w W1 := ⟨m.os.trans hm.os, m.tape.trans hm.tape, m.output.trans hm.output, Nat.le_trans hm.size m.size, fun k hk he => (m.block k (Nat.lt_of_lt_of_le hk hm.size) (fun h => by omega)).trans (hm.block k hk he)⟩
  exact h1.twin t (Nat.le_trans hw hl)
theorem Gr.free {E : Nat → Prop} {A : World} {k : Nat} {E' : Nat → Prop} (g : Gr E A E') (h : k < A.heap.size) (hk : ¬ E k) : ¬ E' k := fun h' => by
  rcases g k h' with h1 | h1
  · exact hk h1
  · omega
end Go.Proofs.YtehlnhljpdjppaaGreatDoor
/- Parts of calendar expressions in memory; what is in them. -/
namespace Go.Proofs.YtehlnhljpdjppaaGreatDoor
open Go.RowKit
abbrev Part := Cal.Part
def okP (q : Part) : Prop := 0 ≤ q.2.1 ∧ q.2.1 ≤ 2200 ∧ 0 ≤ q.2.2.1 ∧ q.2.2.1 ≤ 2200 ∧ 0 ≤ q.2.2.2 ∧ q.2.2.2 ≤ 2200
def okL (ps : List Part) : Prop := ∀ q ∈ ps, okP q
def aggP (q : Part) : Value := .agg #[.bool q.1, .int .i64 q.2.1, .int .i64 q.2.2.1, .int .i64 q.2.2.2]
/-- The slice v holds the parts ps, in blocks that are not of E. -/
def Pin (E : Nat → Prop) (W : World) (v : Value) (ps : List Part) : Prop :=
  ∃ p cap, v = .slice p ps.length cap ∧ ps.length ≤ 1000 ∧ ∀ i q, ps[i]? = some q → ∃ b o, p = some ⟨b, o, none⟩ ∧ ¬ E b ∧
    W.cell? ⟨b, o + i * 4, none⟩ = some (.bool q.1) ∧ W.cell? ⟨b, o + i * 4 + 1, none⟩ = some (.int .i64 q.2.1) ∧ W.cell? ⟨b, o + i * 4 + 2, none⟩ = some (.int .i64 q.2.2.1) ∧ W.cell? ⟨b, o + i * 4 + 3, none⟩ = some (.int .i64 q.2.2.2)
theorem cell_lt {W : World} {a : Addr} {v : Value} (h : W.cell? a = some v) : a.block < W.heap.size := by
  rcases Nat.lt_or_ge a.block W.heap.size with hl | hl
  · exact hl
  · have : W.cell? a = none := by
      unfold World.cell?
      rw [Array.getElem?_eq_none hl]
    rw [this] at h; cases h
theorem Mv.cell {E : Nat → Prop} {W V : World} {a : Addr} {v : Value} (m : Mv E W V) (hE : ¬ E a.block) (h : W.cell? a = some v) : V.cell? a = some v := by
  rw [← h]
  exact World.cell?_of_block (m.block a.block (cell_lt h) hE)
theorem Pin.mv {E E' : Nat → Prop} {W V : World} {v : Value} {ps : List Part} (h : Pin E W v ps) (m : Mv E W V) (g : Gr E W E') : Pin E' V v ps := by
  obtain ⟨p, cap, rfl, hl, hc⟩ := h
  refine ⟨p, cap, rfl, hl, fun i q hq => ?_⟩
  obtain ⟨b, o, rfl, hE, c0, c1, c2, c3⟩ := hc i q hq
  refine ⟨b, o, rfl, fun h => ?_, m.cell hE c0, m.cell hE c1, m.cell hE c2, m.cell hE c3⟩
  rcases g b h with h | h
  · exact hE h
  · have := cell_lt c0; simp only at this; omega
theorem Pin.below {E : Nat → Prop} {W V : World} {v : Value} {ps : List Part} (h : Pin E W v ps) (m : Below W.heap.size W V) : Pin E V v ps := h.mv (.below m) (Gr.refl _ _)
theorem Pin.none {E : Nat → Prop} {W : World} {v : Value} {ps : List Part} (h : Pin E W v ps) : Pin (fun _ => False) W v ps := by
  obtain ⟨p, cap, rfl, hl, hc⟩ := h
  refine ⟨p, cap, rfl, hl, fun i q hq => ?_⟩
  obtain ⟨b, o, rfl, hE, c⟩ := hc i q hq
  exact ⟨b, o, rfl, fun h => h, c⟩
theorem cell_at {W : World} {cs : Array Value} {t : TypeId} {n j : Nat} {v : Value} (hn : W.heap.size = n) (h : cs[j]? = some v) : (W.alloc (.cells cs t)).cell? ⟨n, j, none⟩ = some v := by
  subst hn
  have := World.alloc_heap_new W (.cells cs t)
  unfold World.cell?
  rw [this]
  exact h
theorem cell_old {W : World} {o : Obj} {a : Addr} (h : a.block < W.heap.size) : (W.alloc o).cell? a = W.cell? a := World.cell?_alloc_lt _ _ _ h
theorem inP_any {q : Part} {n : Int} (h : q.1 = true) : Cal.inP q n = true := by simp [Cal.inP, h]
end Go.Proofs.YtehlnhljpdjppaaGreatDoor
/- Contracts of package calendar's isIn. -/
namespace Go.Proofs.YtehlnhljpdjppaaGreatDoor
open Go.RowKit
set_option maxHeartbeats 1000000 in
theorem isIn1_any (q : Part) (n : Int) (bn : Nat) (w : World) (hq : okP q) (_ : 0 ≤ n) (_ : n ≤ 100000) (hc : w.cell? ⟨bn, 0, none⟩ = some (.int .i64 n)) :
    Calls Tryz.prog 45 #[aggP q, .pointer (some ⟨bn, 0, none⟩)] w fun e w' => e = .returned (.bool (Cal.inP q n)) ∧ Below w.heap.size w w' := by
  obtain ⟨a, f, t, s⟩ := q
  obtain ⟨f0, f1, t0, t1, s0, s1⟩ := hq
  simp only at f0 f1 t0 t1 s0 s1
  have hlt := cell_lt hc
  simp only at hlt
  dsimp only [aggP]
  cases a
  all_goals
    go_enter Tryz.func45, Tryz.ntmps45
    go_wp2
  all_goals go_ret
  all_goals refine ⟨ret_bool ?_, (Below.refl _ _).alloc (Nat.le_refl _) _⟩
  all_goals (unfold Cal.inP; rw [Bool.eq_iff_iff]; simp_all)
  all_goals (intros; omega)
theorem inL_upto {ps : List Part} {n : Int} {k : Nat} (h : ∀ j, j < k → ∀ q, ps[j]? = some q → Cal.inP q n = false) (hk : ps.length ≤ k) : Cal.inL ps n = false := by
  unfold Cal.inL
  rw [List.any_eq_false]
  intro q hq
  obtain ⟨j, hj⟩ := List.mem_iff_getElem?.1 hq
  have hl : j < ps.length := (List.getElem?_eq_some_iff.1 hj).1
  simp [h j (by omega) q hj]
set_option maxHeartbeats 2000000 in
theorem idxIn_any (ps : List Part) (n : Int) (v : Value) (bn : Nat) (w : World) (hp : Pin (fun _ => False) w v ps) (hq : okL ps) (h0 : 0 ≤ n) (h1 : n ≤ 100000) (hc : w.cell? ⟨bn, 0, none⟩ = some (.int .i64 n)) :
    Calls Tryz.prog 67 #[v, .func (.func 45) #[] #[.pointer (some ⟨bn, 0, none⟩)]] w fun e w' => (∃ r : Int, e = .returned (.int .i64 r) ∧ decide (0 ≤ r) = Cal.inL ps n) ∧ Below w.heap.size w w' := by
  have hlt := cell_lt hc
  simp only at hlt
  have hp' := hp
  obtain ⟨p, cap, rfl, hl, hcell⟩ := hp'
  go_enter Tryz.func67, Tryz.ntmps67
  go_wp2_with fail
  go_loopw [8] (fun i wr => ∃ k : Nat, k ≤ ps.length ∧ i = .int .i64 k ∧ (∀ j, j < k → ∀ q, ps[j]? = some q → Cal.inP q n = false) ∧ Below w.heap.size w wr) (fun i _ => ps.length - (intOf i).toNat)
  case atStart => exact ⟨0, by omega, rfl, fun j hj => by omega, Below.refl _ _⟩
  case round =>
    obtain ⟨k, hk, rfl, hno, hb⟩ := hrel
    by_cases hkl : k < ps.length
    · obtain ⟨q, hqk⟩ : ∃ q, ps[k]? = some q := ⟨_, List.getElem?_eq_getElem hkl⟩
      have hpr := hp.below hb
      obtain ⟨p', cap', hv', _, hcell'⟩ := hpr
      obtain ⟨b, o, rfl, _, c0, c1, c2, c3⟩ := hcell' k q hqk
      cases hv'
      have hc' : wr.cell? ⟨bn, 0, none⟩ = some (.int .i64 n) := (hb.cell (p := ⟨bn, 0, none⟩) hlt).trans hc
      go_wp2_with fail
      refine (isIn1_any q n bn wr (hq q (List.mem_of_getElem? hqk)) h0 h1 hc').mono ?_
      rintro e w' ⟨rfl, hb'⟩
      have hb2 : Below w.heap.size w w' := hb.trans (hb'.mono hb.size)
      cases hin : Cal.inP q n
      · go_wp2_with fail
        refine ⟨⟨k + 1, by omega, by go_num, fun j hj q' hq' => ?_, hb2⟩, by simp [intOf]; omega⟩
        by_cases hjk : j < k
        · exact hno j hjk q' hq'
        · obtain rfl : j = k := by omega
          rw [hqk] at hq'; cases hq'; exact hin
      · go_wp2_with fail
        go_ret
        refine ⟨⟨k, rfl, ?_⟩, hb2⟩
        have : Cal.inL ps n = true := by
          unfold Cal.inL
          exact List.any_eq_true.2 ⟨q, List.mem_of_getElem? hqk, hin⟩
        rw [this]; simp
    · obtain rfl : k = ps.length := by omega
      go_wp2_with fail
      go_ret
      exact ⟨⟨-1, rfl, by rw [inL_upto hno (Nat.le_refl _)]; rfl⟩, hb⟩
set_option maxHeartbeats 1000000 in
theorem contIn_any (ps : List Part) (n : Int) (v : Value) (bn : Nat) (w : World) (hp : Pin (fun _ => False) w v ps) (hq : okL ps) (h0 : 0 ≤ n) (h1 : n ≤ 100000) (hc : w.cell? ⟨bn, 0, none⟩ = some (.int .i64 n)) :
    Calls Tryz.prog 44 #[v, .func (.func 45) #[] #[.pointer (some ⟨bn, 0, none⟩)]] w fun e w' => e = .returned (.bool (Cal.inL ps n)) ∧ Below w.heap.size w w' := by
  go_enter Tryz.func44, Tryz.ntmps44
  go_wp2_with fail
  refine (idxIn_any ps n v bn w hp hq h0 h1 hc).mono ?_
  rintro e w' ⟨⟨r, rfl, hr⟩, hb⟩
  go_wp2_with fail
  go_ret
  exact ⟨rfl, hb⟩
set_option maxHeartbeats 1000000 in
theorem isIn_any (ps : List Part) (n : Int) (v : Value) (w : World) (hp : Pin (fun _ => False) w v ps) (hq : okL ps) (h0 : 0 ≤ n) (h1 : n ≤ 100000) :
    Calls Tryz.prog 24 #[v, .int .i64 n] w fun e w' => e = .returned (.bool (Cal.inL ps n)) ∧ Below w.heap.size w w' := by
  go_enter Tryz.func24, Tryz.ntmps24
  go_wp2_with fail
  refine (contIn_any ps n v _ _ (hp.below ((Below.refl _ _).alloc (Nat.le_refl _) _)) hq h0 h1 (by simp)).mono ?_
  rintro e w' ⟨rfl, hb⟩
  go_wp2_with fail
  go_ret
  exact ⟨rfl, ((Below.refl _ w).alloc (Nat.le_refl _) _).trans (hb.mono (by simp))⟩
set_option maxHeartbeats 1000000 in
theorem onW_any (ps : List Part) (n : Int) (v : Value) (w : World) (hp : Pin (fun _ => False) w v ps) (hq : okL ps) :
    Calls Tryz.prog 26 #[v, .int .i64 n] w fun e w' => e = .returned (.bool (Cal.onW ps n)) ∧ Below w.heap.size w w' := by
  have hw := Civ.wd_bd n
  have hp' := hp
  obtain ⟨p, cap, rfl, hl, hcell⟩ := hp'
  cases ps with
  | nil =>
    go_enter Tryz.func26, Tryz.ntmps26
    go_wp2_with fail
    go_ret
    exact ⟨rfl, Below.refl _ _⟩
  | cons a r =>
    go_enter Tryz.func26, Tryz.ntmps26
    go_wp2_with (first
      | (go_at_call 49; refine (week_any n _).mono ?_; rintro e w' ⟨rfl, rfl⟩)
      | (go_at_call 24; refine (isIn_any (a :: r) (Civ.wd n) _ _ hp hq (by omega) (by omega)).mono ?_; rintro e w' ⟨rfl, hb⟩))
    go_ret
    exact ⟨rfl, hb⟩
end Go.Proofs.YtehlnhljpdjppaaGreatDoor
/- Contracts of package calendar's between and numbers: rows of numbers. -/
namespace Go.Proofs.YtehlnhljpdjppaaGreatDoor
open Go.RowKit Go.Shelf
attribute [local go_sem] Oper.semAt_some
def encI (n : Int) : Array Value := #[.int .i64 n]
set_option maxRecDepth 100000 in
set_option maxHeartbeats 2000000 in
theorem between1_row (lo hi : Int) (b1 b2 : Nat) (E : Nat → Prop) (W : World) (l0 : -10 ≤ lo) (l1 : lo ≤ 100000) (u0 : -10 ≤ hi) (u1 : hi ≤ 100000)
    (c1 : W.cell? ⟨b1, 0, none⟩ = some (.int .i64 lo)) (e1 : ¬ E b1) (c2 : W.cell? ⟨b2, 0, none⟩ = some (.int .i64 hi)) (e2 : ¬ E b2) :
    Row Tryz.prog 90 #[.pointer (some ⟨b1, 0, none⟩), .pointer (some ⟨b2, 0, none⟩)] encI (Cal.rng lo hi) E W := by
  intro l J Jx E1 V m g hJ hJx hY h0
  have d1 := m.cell e1 c1
  have d2 := m.cell e2 c2
  have f2 : ¬ E1 b2 := fun h => by
    rcases g b2 h with h | h
    · exact e2 h
    · have := cell_lt c2; simp only at this; omega
  refine (callsIn_wide (n := 5)).1 ?_
  refine callsIn_of_wp Tryz.func90 rfl trivial ?_ rfl
  simp only [Tryz.ntmps90, List.size_toArray, List.length_cons, List.length_nil, Nat.reduceAdd, Nat.reduceSub, Array.replicate_succ, Array.replicate_zero, List.push_toArray, List.append_toArray, List.nil_append, List.cons_append]
  gi_wp2
  gi_loopw [4] (fun i wr => ∃ (k : Int) (E2 : Nat → Prop), lo ≤ k ∧ k ≤ 100001 ∧ i = .int .i64 k ∧ J (Cal.rng k hi) E2 wr ∧ Mv E1 V wr ∧ Gr E1 V E2) (fun i _ => (100001 - intOf i).toNat)
  case atStart => exact ⟨lo, E1, by omega, by omega, rfl, h0, Mv.refl _ _, Gr.refl _ _⟩
  case round =>
    obtain ⟨k, E2, k0, k1, rfl, hj, hm, hg⟩ := hrel
    have d3 := hm.cell f2 d2
    by_cases hk : k ≤ hi
    · rw [Cal.rng_cons hk] at hj
      obtain ⟨fn, tmps, assign, body, hy, hR⟩ := hY k _ E2 wr hj
      dsimp only [encI] at hy
      gi_wp2
      refine (wide_round' hR).mono ?_
      rintro e W3 ⟨m3, (⟨rfl, E3, g3, hj3⟩ | ⟨rfl, E3, g3, hj3⟩)⟩
      · gi_wp2
        exact ⟨⟨k + 1, E3, by omega, by omega, rfl, hj3, hm.trans hg m3, hg.trans hm.size g3⟩, by simp [intOf]; omega⟩
      · gi_wp2
        refine bodyPost_ret (results_none rfl _ _ _) rfl ?_
        exact ⟨⟨_, rfl⟩, hm.trans hg m3, .inr ⟨E3, hg.trans hm.size g3, hj3⟩⟩
    · rw [Cal.rng_nil (by omega)] at hj
      gi_wp2
      go_end0
      exact ⟨⟨_, rfl⟩, hm, .inl ⟨E2, hg, hj⟩⟩
set_option maxHeartbeats 1000000 in
theorem numbers1_any (ps : List Part) (n : Int) (v : Value) (bc : Nat) (w : World) (hc : w.cell? ⟨bc, 0, none⟩ = some v) (hp : Pin (fun _ => False) w v ps) (hq : okL ps) (h0 : 0 ≤ n) (h1 : n ≤ 100000) :
    Calls Tryz.prog 80 #[.int .i64 n, .pointer (some ⟨bc, 0, none⟩)] w fun e w' => e = .returned (.bool (Cal.inL ps n)) ∧ Below w.heap.size w w' := by
  obtain ⟨p, cap, rfl, hl, hcell⟩ := hp
  go_enter Tryz.func80, Tryz.ntmps80
  go_wp2_with fail
  refine (isIn_any ps n _ _ ⟨p, cap, rfl, hl, hcell⟩ hq h0 h1).mono ?_
  rintro e w' ⟨rfl, hb⟩
  go_wp2_with fail
  go_ret
  exact ⟨rfl, hb⟩
/-- What the row 'numbers' has captured. -/
structure NumBox (E : Nat → Prop) (W : World) (r gd b1 b2 bc : Nat) (v : Value) (ps : List Part) (lo hi : Int) : Prop where
  cr : W.cell? ⟨r, 0, none⟩ = some (.func (.func 90) #[] #[.pointer (some ⟨b1, 0, none⟩), .pointer (some ⟨b2, 0, none⟩)])
  er : ¬ E r
  cg : W.cell? ⟨gd, 0, none⟩ = some (.func (.func 80) #[] #[.pointer (some ⟨bc, 0, none⟩)])
  eg : ¬ E gd
  c1 : W.cell? ⟨b1, 0, none⟩ = some (.int .i64 lo)
  e1 : ¬ E b1
  c2 : W.cell? ⟨b2, 0, none⟩ = some (.int .i64 hi)
  e2 : ¬ E b2
  cv : W.cell? ⟨bc, 0, none⟩ = some v
  ev : ¬ E bc
  hp : Pin E W v ps
theorem NumBox.mv {E E' : Nat → Prop} {W V : World} {r gd b1 b2 bc : Nat} {v : Value} {ps : List Part} {lo hi : Int} (h : NumBox E W r gd b1 b2 bc v ps lo hi) (m : Mv E W V) (g : Gr E W E') : NumBox E' V r gd b1 b2 bc v ps lo hi :=
  ⟨m.cell h.er h.cr, g.free (cell_lt h.cr) h.er, m.cell h.eg h.cg, g.free (cell_lt h.cg) h.eg, m.cell h.e1 h.c1, g.free (cell_lt h.c1) h.e1, m.cell h.e2 h.c2, g.free (cell_lt h.c2) h.e2, m.cell h.ev h.cv, g.free (cell_lt h.cv) h.ev, h.hp.mv m g⟩
set_option maxRecDepth 100000 in
set_option maxHeartbeats 4000000 in
theorem pickI_row (E : Nat → Prop) (W : World) (r gd b1 b2 bc : Nat) (v : Value) (ps : List Part) (lo hi : Int) (hb : NumBox E W r gd b1 b2 bc v ps lo hi) (hq : okL ps) (l0 : 0 ≤ lo) (l1 : lo ≤ 100000) (u0 : -10 ≤ hi) (u1 : hi ≤ 100000) :
    Row Tryz.prog 89 #[.pointer (some ⟨r, 0, none⟩), .pointer (some ⟨gd, 0, none⟩)] encI ((Cal.rng lo hi).filter (Cal.inL ps)) E W := by
  intro l J Jx E1 V m g hJ hJx hY h0
  have hb1 := hb.mv m g
  have cr := hb1.cr
  have rl : r < V.heap.size := cell_lt cr
  have hlow := hJ.low _ _ _ h0
  refine (callsIn_wide (n := 5)).1 ?_
  refine callsIn_of_wp_marks Tryz.func89 rfl trivial ?_ rfl
  simp only [Tryz.ntmps89, List.size_toArray, List.length_cons, List.length_nil, Nat.reduceAdd, Nat.reduceSub, Array.replicate_succ, Array.replicate_zero, List.push_toArray, List.append_toArray, List.nil_append, List.cons_append]
  gi_wp2
  have mV : Mv E1 V (V.alloc (.cells #[.func (.yield l) #[] #[]] 101)) := Mv.alloc _ _ _
  have cy : (V.alloc (.cells #[.func (.yield l) #[] #[]] 101)).cell? ⟨V.heap.size, 0, none⟩ = some (.func (.yield l) #[] #[]) := by simp
  have hs : (V.alloc (.cells #[.func (.yield l) #[] #[]] 101)).heap.size = V.heap.size + 1 := by simp
  have k0 : J ((Cal.rng lo hi).filter (Cal.inL ps)) E1 (V.alloc (.cells #[.func (.yield l) #[] #[]] 101)) := hJ.keep _ _ _ _ h0 (Mv.alloc _ _ _)
  revert mV cy hs k0
  generalize V.alloc (.cells #[.func (.yield l) #[] #[]] 101) = W0
  intro mV cy hs k0
  have hb2 := hb1.mv mV (Gr.refl _ _)
  have ey : ¬ E1 V.heap.size := fun h => by have := hlow _ h; omega
  clear cr rl
  have tI : Ter W0.heap.size (fun (rest : List Int) E2 W => (∀ y ∈ rest, 0 ≤ y ∧ y ≤ 100000) ∧ J (rest.filter (Cal.inL ps)) E2 W) := ((hJ.up (by omega)).comp (fun rest => List.filter (Cal.inL ps) rest)).and _
  refine loop_out (gf := 90) (lb := #[.pointer (some ⟨b1, 0, none⟩), .pointer (some ⟨b2, 0, none⟩)]) rfl (enters_of Tryz.func90 (by kernel_rfl) rfl)
    (between1_row lo hi b1 b2 E1 W0 (by omega) l1 u0 u1 hb2.c1 hb2.e1 hb2.c2 hb2.e2) (fun _ => rfl)
    (fun rest E2 W => (∀ y ∈ rest, 0 ≤ y ∧ y ≤ 100000) ∧ J (rest.filter (Cal.inL ps)) E2 W) (fun c E2 W => c = Code.ret ∧ Jx () E2 W) tI (((hJx.comp (fun _ => ())).up (by omega)).and (fun c => c = Code.ret))
    ⟨fun y hy => by have := (Cal.mem_rng _ _ _).1 hy; omega, k0⟩ ?round ?done ?stop
  case round =>
    intro l1 hl1 x rest E2 U hi hm hg hEl hrec
    simp only [encI]
    gi_wp2
    refine ⟨⟨Mv.refl _ _, trivial⟩, fun U2 tw => ?_⟩
    obtain ⟨⟨hx, hi2⟩, hm2⟩ := tw.go tI hi (Mv.refl _ _) hm (Nat.le_refl _) hl1 hEl
    have hb3 := hb2.mv hm2 hg
    have cg := hb3.cg
    have x0 := hx x (by simp)
    have hxr : ∀ y ∈ rest, 0 ≤ y ∧ y ≤ 100000 := fun y hy => hx y (by simp [hy])
    clear hi hm
    cases hin : Cal.inL ps x
    · have hf : (x :: rest).filter (Cal.inL ps) = rest.filter (Cal.inL ps) := by rw [List.filter_cons, hin]; rfl
      rw [hf] at hi2
      gi_wp2_with fail
      refine ⟨trivial, (CallsIn.inRound l1 (callsIn_wide.2 (numbers1_any ps x v bc U2 hb3.cv hb3.hp.none hq x0.1 x0.2))).mono ?_⟩
      rintro e w' ⟨rfl, hbw⟩
      gi_wp2_with fail
      refine ⟨fun _ h => (by cases h), ?_⟩
      gi_wp2_with fail
      exact ⟨Mv.below hbw, E2, Gr.refl _ _, hxr, hJ.keep _ _ _ _ hi2 (Mv.below hbw)⟩
    · have hf : (x :: rest).filter (Cal.inL ps) = x :: rest.filter (Cal.inL ps) := by rw [List.filter_cons, hin]; rfl
      rw [hf] at hi2
      gi_wp2_with fail
      refine ⟨trivial, (CallsIn.inRound l1 (callsIn_wide.2 (numbers1_any ps x v bc U2 hb3.cv hb3.hp.none hq x0.1 x0.2))).mono ?_⟩
      rintro e w' ⟨rfl, hbw⟩
      have hj' := hJ.keep _ _ _ _ hi2 (Mv.below hbw)
      have cy' : w'.cell? ⟨V.heap.size, 0, none⟩ = some (.func (.yield l) #[] #[]) := (Mv.below (E := fun _ => False) hbw).cell (fun h => h) (hm2.cell ey cy)
      obtain ⟨fn, tmps, assign, body, hy, hR⟩ := hY x _ E2 w' hj'
      dsimp only [encI] at hy
      gi_wp2_with fail
      refine (wide_round hR).mono ?_
      rintro e W3 ⟨m3, (⟨rfl, E3, g3, hj3⟩ | ⟨rfl, E3, g3, hj3⟩)⟩
      · gi_wp2_with fail
        exact ⟨(Mv.below hbw).trans' m3, E3, g3.mono hbw.size, hxr, hj3⟩
      · gi_wp2_with fail
        exact ⟨(Mv.below hbw).trans' m3, E3, g3.mono hbw.size, rfl, hj3⟩
  case done =>
    intro D E2 U hD hK hnD hm hg hi
    gi_wp2
    refine ⟨by simp, .inl ⟨_, _, rfl, run_takeDeferred hK, ?_⟩⟩
    exact ⟨_, results_none rfl _ _ _, ⟨_, rfl⟩, (mV.trans' hm).put_new (by omega) _, .inl ⟨E2, hg.mono mV.size, hJ.keep _ _ _ _ hi.2 (.put ⟨hnD, by omega⟩ _)⟩⟩
  case stop =>
    rintro D c E2 U hD hK hnD hm hg ⟨rfl, hi⟩
    gi_wp2
    refine ⟨by simp, .inl ⟨_, _, rfl, run_takeDeferred hK, ?_⟩⟩
    exact ⟨_, results_none rfl _ _ _, ⟨_, rfl⟩, (mV.trans' hm).put_new (by omega) _, .inr ⟨E2, hg.mono mV.size, hJx.keep _ _ _ _ hi (.put ⟨hnD, by omega⟩ _)⟩⟩
set_option maxHeartbeats 1000000 in
theorem numbers_any (ps : List Part) (v : Value) (lo hi : Int) (E : Nat → Prop) (w : World) (hp : Pin E w v ps) (hE : ∀ k, E k → k < w.heap.size) (hq : okL ps) (l0 : 0 ≤ lo) (l1 : lo ≤ 100000) (u0 : -10 ≤ hi) (u1 : hi ≤ 100000) :
    Calls Tryz.prog 61 #[v, .int .i64 lo, .int .i64 hi] w fun e w' => ∃ lb, e = .returned (.func (.func 89) #[] lb) ∧ Below w.heap.size w w' ∧ Row Tryz.prog 89 lb encI ((Cal.rng lo hi).filter (Cal.inL ps)) E w' := by
  have nE : ∀ k, w.heap.size ≤ k → ¬ E k := fun k hk h => by have := hE k h; omega
  obtain ⟨p, cap, rfl, hl, hcell⟩ := hp
  go_enter Tryz.func61, Tryz.ntmps61
  go_wp2
  go_ret
  refine ⟨_, rfl, ?_, ?_⟩
  · refine (((((Below.refl _ w).alloc (Nat.le_refl _) _).alloc ?_ _).alloc ?_ _).alloc ?_ _).alloc ?_ _ <;> simp <;> omega
  · refine pickI_row E _ _ _ (w.heap.size + 1) (w.heap.size + 1 + 1) w.heap.size (.slice p ps.length cap) ps lo hi ⟨?_, nE _ (by omega), ?_, nE _ (by omega), ?_, nE _ (by omega), ?_, nE _ (by omega), ?_, nE _ (by omega), ?_⟩ hq l0 l1 u0 u1
    iterate 5
      · repeat (first | exact cell_at (by simp) rfl | rw [cell_old (by simp <;> omega)])
    · refine Pin.mv (E := E) (W := w) ⟨p, cap, rfl, hl, hcell⟩ ?_ (Gr.refl _ _)
      exact (((((Mv.alloc _ _ _).trans' (Mv.alloc _ _ _)).trans' (Mv.alloc _ _ _)).trans' (Mv.alloc _ _ _)).trans' (Mv.alloc _ _ _))
end Go.Proofs.YtehlnhljpdjppaaGreatDoor
/- The contract of package calendar's secondsSince: a row of times of a day. -/
namespace Go.Proofs.YtehlnhljpdjppaaGreatDoor
open Go.RowKit Go.Shelf
attribute [local go_sem] Oper.semAt_some
abbrev Sl := Option Addr × Nat × Nat
abbrev slv (s : Sl) : Value := .slice s.1 s.2.1 s.2.2
/-- An expression c lies in block b, its lists beyond E. -/
structure CalBox (E : Nat → Prop) (W : World) (b : Nat) (S : Nat → Sl) (c : Cal.C7) : Prop where
  eb : ¬ E b
  c0 : W.cell? ⟨b, 0, none⟩ = some (slv (S 0))
  c1 : W.cell? ⟨b, 1, none⟩ = some (slv (S 1))
  c2 : W.cell? ⟨b, 2, none⟩ = some (slv (S 2))
  c3 : W.cell? ⟨b, 3, none⟩ = some (slv (S 3))
  c4 : W.cell? ⟨b, 4, none⟩ = some (slv (S 4))
  c5 : W.cell? ⟨b, 5, none⟩ = some (slv (S 5))
  c6 : W.cell? ⟨b, 6, none⟩ = some (slv (S 6))
/-- The lists of an expression. -/
structure CalPin (E : Nat → Prop) (W : World) (S : Nat → Sl) (c : Cal.C7) : Prop where
  p0 : Pin E W (slv (S 0)) c.week
  p1 : Pin E W (slv (S 1)) c.year
  p2 : Pin E W (slv (S 2)) c.month
  p3 : Pin E W (slv (S 3)) c.day
  p4 : Pin E W (slv (S 4)) c.hour
  p5 : Pin E W (slv (S 5)) c.minute
  p6 : Pin E W (slv (S 6)) c.second
structure CalOk (c : Cal.C7) : Prop where
  o0 : okL c.week
  o1 : okL c.year
  o2 : okL c.month
  o3 : okL c.day
  o4 : okL c.hour
  o5 : okL c.minute
  o6 : okL c.second
theorem CalBox.mv {E E' : Nat → Prop} {W V : World} {b : Nat} {S : Nat → Sl} {c : Cal.C7} (h : CalBox E W b S c) (m : Mv E W V) (g : Gr E W E') : CalBox E' V b S c :=
  ⟨g.free (cell_lt h.c0) h.eb, m.cell h.eb h.c0, m.cell h.eb h.c1, m.cell h.eb h.c2, m.cell h.eb h.c3, m.cell h.eb h.c4, m.cell h.eb h.c5, m.cell h.eb h.c6⟩
theorem CalPin.mv {E E' : Nat → Prop} {W V : World} {S : Nat → Sl} {c : Cal.C7} (h : CalPin E W S c) (m : Mv E W V) (g : Gr E W E') : CalPin E' V S c :=
  ⟨h.p0.mv m g, h.p1.mv m g, h.p2.mv m g, h.p3.mv m g, h.p4.mv m g, h.p5.mv m g, h.p6.mv m g⟩
def limCells : List Int := [1970, 2200, 1, 12, 1, 31, 0, 23, 0, 59, 0, 59]
/-- The variables 'limits' and 'lengths' lie as they were laid, beyond E. -/
structure Gl (E : Nat → Prop) (W : World) : Prop where
  lim : ∀ (j : Nat) (v : Int), limCells[j]? = some v → W.cell? ⟨0, j, none⟩ = some (.int .i64 v)
  len : LenIn W
  e0 : ¬ E 0
  e1 : ¬ E 1
theorem LenIn.mv {E : Nat → Prop} {W V : World} (h : LenIn W) (m : Mv E W V) (e : ¬ E 1) : LenIn V := fun j v hv => m.cell e (h j v hv)
theorem Gl.mv {E E' : Nat → Prop} {W V : World} (h : Gl E W) (m : Mv E W V) (g : Gr E W E') : Gl E' V :=
  ⟨fun j v hv => m.cell h.e0 (h.lim j v hv), h.len.mv m h.e1, g.free (cell_lt (h.lim 0 1970 rfl)) h.e0, g.free h.len.pos h.e1⟩
/-- A variable of one cell, beyond E. -/
structure Bx (E : Nat → Prop) (W : World) (b : Nat) (v : Value) : Prop where
  c : W.cell? ⟨b, 0, none⟩ = some v
  e : ¬ E b
theorem Bx.mv {E E' : Nat → Prop} {W V : World} {b : Nat} {v : Value} (h : Bx E W b v) (m : Mv E W V) (g : Gr E W E') : Bx E' V b v := ⟨m.cell h.e h.c, g.free (cell_lt h.c) h.e⟩
theorem Bx.lt {E : Nat → Prop} {W : World} {b : Nat} {v : Value} (h : Bx E W b v) : b < W.heap.size := cell_lt h.c
theorem Bx.new {E : Nat → Prop} {W : World} {v : Value} (t : TypeId) (h : ∀ k, E k → k < W.heap.size) : Bx E (W.alloc (.cells #[v] t)) W.heap.size v := ⟨cell_at rfl rfl, fun e => by have := h _ e; omega⟩
/-- What secondsSince's function holds. -/
structure SecX (E : Nat → Prop) (W : World) (bc bf by' l : Nat) (S : Nat → Sl) (c : Cal.C7) (f : Int) : Prop where
  box : CalBox E W bc S c
  pin : CalPin E W S c
  gl : Gl E W
  fr : Bx E W bf (.int .i64 f)
  yl : Bx E W by' (.func (.yield l) #[] #[])
theorem SecX.mv {E E' : Nat → Prop} {W V : World} {bc bf by' l : Nat} {S : Nat → Sl} {c : Cal.C7} {f : Int} (h : SecX E W bc bf by' l S c f) (m : Mv E W V) (g : Gr E W E') : SecX E' V bc bf by' l S c f :=
  ⟨h.box.mv m g, h.pin.mv m g, h.gl.mv m g, h.fr.mv m g, h.yl.mv m g⟩
set_option maxRecDepth 100000 in
set_option maxHeartbeats 8000000 in
theorem sec_row (E : Nat → Prop) (W : World) (bc bf : Nat) (S : Nat → Sl) (c : Cal.C7) (f : Int) (hbx : CalBox E W bc S c) (hpn : CalPin E W S c) (hgl : Gl E W) (hfr : Bx E W bf (.int .i64 f)) (ho : CalOk c) (f0 : 0 ≤ f) (f1 : f ≤ 100000) :
    Row Tryz.prog 65 #[.pointer (some ⟨bc, 0, none⟩), .pointer (some ⟨bf, 0, none⟩)] encI (Cal.ss c f) E W := by
  intro l J Jx E1 V m g hJ hJx hY h0
  have hlow := hJ.low _ _ _ h0
  refine (callsIn_wide (n := 5)).1 ?_
  refine callsIn_of_wp_marks Tryz.func65 rfl trivial ?_ rfl
  simp only [Tryz.ntmps65, List.size_toArray, List.length_cons, List.length_nil, Nat.reduceAdd, Nat.reduceSub, Array.replicate_succ, Array.replicate_zero, List.push_toArray, List.append_toArray, List.nil_append, List.cons_append]
  have hx0 : SecX E1 (V.alloc (.cells #[.func (.yield l) #[] #[]] 101)) bc bf V.heap.size l S c f :=
    ⟨(hbx.mv m g).mv (Mv.alloc _ _ _) (Gr.refl _ _), (hpn.mv m g).mv (Mv.alloc _ _ _) (Gr.refl _ _), (hgl.mv m g).mv (Mv.alloc _ _ _) (Gr.refl _ _), (hfr.mv m g).mv (Mv.alloc _ _ _) (Gr.refl _ _), .new _ hlow⟩
  have k4 := hx0.box.c4
  have kf := hx0.fr.c
  have kl := hx0.gl.lim 7 23 rfl
  gi_wp2_with fail
  refine ⟨trivial, (callsIn_wide.2 (numbers_any c.hour _ (f / 3600) 23 E1 _ hx0.pin.p4 (fun k hk => by have := hlow k hk; simp; omega) ho.o4 (by omega) (by omega) (by omega) (by omega))).mono ?_⟩
  rintro e w1 ⟨lb, rfl, hb1, hrow1⟩
  gi_wp2_with fail
  have m1 : Mv E1 V w1 := (Mv.alloc _ _ _).trans' (Mv.below hb1)
  have hx1 := hx0.mv (Mv.below hb1) (Gr.refl _ _)
  have j1 : J (Cal.ss c f) E1 w1 := hJ.keep _ _ _ _ h0 ((Mv.alloc _ _ _).trans' (Mv.below hb1))
  have s1 := m1.size
  clear k4 kf kl hx0 hb1
  have tI1 : Ter w1.heap.size (fun (rest : List Int) E2 U => (∀ h ∈ rest, 0 ≤ h ∧ h ≤ 23) ∧ J (rest.flatMap fun h => Cal.ssH c f (h * 3600)) E2 U) := ((hJ.up s1).comp (fun rest => List.flatMap (fun h => Cal.ssH c f (h * 3600)) rest)).and _
  have tX : Ter V.heap.size (fun (c : Code) E2 U => c = Code.ret ∧ Jx () E2 U) := (hJx.comp (fun _ => ())).and (fun c => c = Code.ret)
  refine loop_out (gf := 89) (lb := lb) rfl (enters_of Tryz.func89 (by kernel_rfl) rfl) hrow1 (fun _ => rfl)
    (fun rest E2 U => (∀ h ∈ rest, 0 ≤ h ∧ h ≤ 23) ∧ J (rest.flatMap fun h => Cal.ssH c f (h * 3600)) E2 U) (fun c E2 U => c = Code.ret ∧ Jx () E2 U) tI1 (tX.up s1)
    ⟨fun y hy => by have := (Cal.mem_rng _ _ _).1 (List.mem_filter.1 hy).1; omega, j1⟩ ?round ?done ?stop
  case round =>
    intro l1 hl1 h' rest E2 U hi hm hg hEl hrec
    simp only [encI]
    gi_wp2
    refine ⟨⟨Mv.refl _ _, trivial⟩, fun U2 tw => ?_⟩
    obtain ⟨⟨hh, hi2⟩, hm2⟩ := tw.go tI1 hi (Mv.refl _ _) hm (Nat.le_refl _) hl1 hEl
    have hx2 := hx1.mv hm2 hg
    have low2 := hJ.low _ _ _ hi2
    have hr2 := tw.here
    have hh0 := hh h' (by simp)
    have hhr : ∀ y ∈ rest, 0 ≤ y ∧ y ≤ 23 := fun y hy => hh y (by simp [hy])
    have s2 := hm2.size
    rw [List.flatMap_cons] at hi2
    clear hi hm hrec
    have hx3 : SecX E2 (U2.alloc (.cells #[.int .i64 (h' * 3600)] 3)) bc bf V.heap.size l S c f := hx2.mv (Mv.alloc _ _ _) (Gr.refl _ _)
    have hbh : Bx E2 (U2.alloc (.cells #[.int .i64 (h' * 3600)] 3)) U2.heap.size (.int .i64 (h' * 3600)) := .new _ low2
    have k5 := hx3.box.c5
    have kf := hx3.fr.c
    have kh := hbh.c
    have kl := hx3.gl.lim 9 59 rfl
    gi_wp2_with fail
    all_goals
      refine ⟨trivial, (CallsIn.inRound l1 (callsIn_wide.2 (numbers_any c.minute _ _ 59 E2 _ hx3.pin.p5 (fun k hk => by have := low2 k hk; simp; omega) ho.o5 (by omega) (by omega) (by omega) (by omega)))).mono ?_⟩
      rintro e w2 ⟨lb2, rfl, hb2, hrow2⟩
      gi_wp2_with fail
      have m2 : Mv E2 U2 w2 := (Mv.alloc _ _ _).trans' (Mv.below hb2)
      have hx4 := hx3.mv (Mv.below hb2) (Gr.refl _ _)
      have hbh4 := hbh.mv (Mv.below hb2) (Gr.refl _ _)
      have s3 := m2.size
      have j2 : J (Cal.ssH c f (h' * 3600) ++ rest.flatMap fun h => Cal.ssH c f (h * 3600)) E2 w2 := hJ.keep _ _ _ _ hi2 ((Mv.alloc _ _ _).trans' (Mv.below hb2))
      have hr4 : ∃ r, w2.heap[l1]? = some (.loop r) := by
        obtain ⟨r, hr⟩ := hr2
        exact ⟨r, (m2.block l1 (Array.getElem?_eq_some_iff.1 hr).1 hEl).trans hr⟩
      clear k5 kf kh kl hx3 hb2
      have tI2 : Ter w2.heap.size (fun (rest2 : List Int) E3 U => (∀ h ∈ rest2, 0 ≤ h ∧ h ≤ 59) ∧ J (rest2.flatMap (fun m => Cal.ssM c f (h' * 3600 + m * 60)) ++ rest.flatMap fun h => Cal.ssH c f (h * 3600)) E3 U) := ((hJ.up (by omega)).comp (fun (rest2 : List Int) => rest2.flatMap (fun m => Cal.ssM c f (h' * 3600 + m * 60)) ++ rest.flatMap fun h => Cal.ssH c f (h * 3600))).and _
      refine loop_in (l₀ := l1) hr4 (gf := 89) (lb := lb2) rfl (enters_of Tryz.func89 (by kernel_rfl) rfl) hrow2 (fun _ => rfl)
        (fun rest2 E3 U => (∀ h ∈ rest2, 0 ≤ h ∧ h ≤ 59) ∧ J (rest2.flatMap (fun m => Cal.ssM c f (h' * 3600 + m * 60)) ++ rest.flatMap fun h => Cal.ssH c f (h * 3600)) E3 U) (fun c E2 U => c = Code.ret ∧ Jx () E2 U) tI2 (tX.up (by omega))
        ⟨fun y hy => by have := (Cal.mem_rng _ _ _).1 (List.mem_filter.1 hy).1; omega, ?_⟩ ?_ ?_ ?_
      · unfold Cal.ssH at j2
        refine cast ?_ j2
        congr 5
        omega
      · intro l2 hl2 mi rest2 E3 U hi hm hg hEl2 hrec
        simp only [encI]
        gi_wp2
        refine ⟨⟨Mv.refl _ _, trivial⟩, fun U3 tw2 => ?_⟩
        obtain ⟨⟨hmi, hi3⟩, hm3⟩ := tw2.go tI2 hi (Mv.refl _ _) hm (Nat.le_refl _) hl2 hEl2
        have hx5 := hx4.mv hm3 hg
        have hbh5 := hbh4.mv hm3 hg
        have low3 := hJ.low _ _ _ hi3
        have hr5 := tw2.here
        have hmi0 := hmi mi (by simp)
        have hmr : ∀ y ∈ rest2, 0 ≤ y ∧ y ≤ 59 := fun y hy => hmi y (by simp [hy])
        have s4 := hm3.size
        rw [List.flatMap_cons, List.append_assoc] at hi3
        clear hi hm hrec
        have hx6 : SecX E3 (U3.alloc (.cells #[.int .i64 (h' * 3600 + mi * 60)] 3)) bc bf V.heap.size l S c f := hx5.mv (Mv.alloc _ _ _) (Gr.refl _ _)
        have hbm : Bx E3 (U3.alloc (.cells #[.int .i64 (h' * 3600 + mi * 60)] 3)) U3.heap.size (.int .i64 (h' * 3600 + mi * 60)) := .new _ low3
        have k6 := hx6.box.c6
        have kf := hx6.fr.c
        have kh := hbh5.c
        have km := hbm.c
        have kl := hx6.gl.lim 11 59 rfl
        gi_wp2_with fail
        all_goals
          refine ⟨trivial, (CallsIn.inRound l2 (callsIn_wide.2 (numbers_any c.second _ _ 59 E3 _ hx6.pin.p6 (fun k hk => by have := low3 k hk; simp; omega) ho.o6 (by omega) (by omega) (by omega) (by omega)))).mono ?_⟩
          rintro e w3 ⟨lb3, rfl, hb3, hrow3⟩
          gi_wp2_with fail
          have m3 : Mv E3 U3 w3 := (Mv.alloc _ _ _).trans' (Mv.below hb3)
          have hx7 := hx6.mv (Mv.below hb3) (Gr.refl _ _)
          have hbm7 := hbm.mv (Mv.below hb3) (Gr.refl _ _)
          have s5 := m3.size
          have j3 : J (Cal.ssM c f (h' * 3600 + mi * 60) ++ (rest2.flatMap (fun m => Cal.ssM c f (h' * 3600 + m * 60)) ++ rest.flatMap fun h => Cal.ssH c f (h * 3600))) E3 w3 := hJ.keep _ _ _ _ hi3 ((Mv.alloc _ _ _).trans' (Mv.below hb3))
          have hr6 : ∃ r, w3.heap[l2]? = some (.loop r) := by
            obtain ⟨r, hr⟩ := hr5
            exact ⟨r, (m3.block l2 (Array.getElem?_eq_some_iff.1 hr).1 hEl2).trans hr⟩
          clear k6 kf kh km kl hx6 hb3
          have tI3 : Ter w3.heap.size (fun (rest3 : List Int) E4 U => (∀ h ∈ rest3, 0 ≤ h ∧ h ≤ 59) ∧ J (rest3.map (h' * 3600 + mi * 60 + ·) ++ (rest2.flatMap (fun m => Cal.ssM c f (h' * 3600 + m * 60)) ++ rest.flatMap fun h => Cal.ssH c f (h * 3600))) E4 U) := ((hJ.up (by omega)).comp (fun (rest3 : List Int) => rest3.map (h' * 3600 + mi * 60 + ·) ++ (rest2.flatMap (fun m => Cal.ssM c f (h' * 3600 + m * 60)) ++ rest.flatMap fun h => Cal.ssH c f (h * 3600)))).and _
          refine loop_in (l₀ := l2) hr6 (gf := 89) (lb := lb3) rfl (enters_of Tryz.func89 (by kernel_rfl) rfl) hrow3 (fun _ => rfl)
            (fun rest3 E4 U => (∀ h ∈ rest3, 0 ≤ h ∧ h ≤ 59) ∧ J (rest3.map (h' * 3600 + mi * 60 + ·) ++ (rest2.flatMap (fun m => Cal.ssM c f (h' * 3600 + m * 60)) ++ rest.flatMap fun h => Cal.ssH c f (h * 3600))) E4 U) (fun c E2 U => c = Code.ret ∧ Jx () E2 U) tI3 (tX.up (by omega))
            ⟨fun y hy => by have := (Cal.mem_rng _ _ _).1 (List.mem_filter.1 hy).1; omega, ?_⟩ ?_ ?_ ?_
          · unfold Cal.ssM at j3
            refine cast ?_ j3
            congr 5
            omega
          · intro l3 hl3 sc rest3 E4 U hi hm hg hEl3 hrec
            simp only [encI]
            gi_wp2
            refine ⟨⟨Mv.refl _ _, trivial⟩, fun U4 tw3 => ?_⟩
            obtain ⟨⟨hsc, hi4⟩, hm4⟩ := tw3.go tI3 hi (Mv.refl _ _) hm (Nat.le_refl _) hl3 hEl3
            have hx8 := hx7.mv hm4 hg
            have hbm8 := hbm7.mv hm4 hg
            have hsc0 := hsc sc (by simp)
            have hsr : ∀ y ∈ rest3, 0 ≤ y ∧ y ≤ 59 := fun y hy => hsc y (by simp [hy])
            rw [List.map_cons, List.cons_append] at hi4
            clear hi hm hrec
            have ky := hx8.yl.c
            have km := hbm8.c
            obtain ⟨fn, tmps, assign, body, hy, hR⟩ := hY _ _ E4 U4 hi4
            dsimp only [encI] at hy
            gi_wp2_with fail
            refine (wide_round hR).mono ?_
            rintro e W3 ⟨m9, (⟨rfl, E5, g5, hj5⟩ | ⟨rfl, E5, g5, hj5⟩)⟩
            · gi_wp2_with fail
              exact ⟨m9, E5, g5, hsr, hj5⟩
            · gi_wp2_with fail
              exact ⟨m9, E5, g5, rfl, hj5⟩
          · intro E4 U hm hg hi
            gi_wp2
            exact ⟨m3.trans' hm, E4, hg.mono s5, hmr, hi.2⟩
          · rintro c E4 U hm hg ⟨rfl, hi⟩
            gi_wp2
            exact ⟨m3.trans' hm, E4, hg.mono s5, rfl, hi⟩
      · intro E3 U hm hg hi
        gi_wp2
        exact ⟨m2.trans' hm, E3, hg.mono s3, hhr, hi.2⟩
      · rintro c E3 U hm hg ⟨rfl, hi⟩
        gi_wp2
        exact ⟨m2.trans' hm, E3, hg.mono s3, rfl, hi⟩
  case done =>
    intro D E2 U hD hK hnD hm hg hi
    gi_wp2
    refine ⟨by simp, .inl ⟨_, _, rfl, run_takeDeferred hK, ?_⟩⟩
    exact ⟨_, results_none rfl _ _ _, ⟨_, rfl⟩, (m1.trans' hm).put_new (by omega) _, .inl ⟨E2, hg.mono s1, hJ.keep _ _ _ _ hi.2 (.put ⟨hnD, by omega⟩ _)⟩⟩
  case stop =>
    rintro D c E2 U hD hK hnD hm hg ⟨rfl, hi⟩
    gi_wp2
    refine ⟨by simp, .inl ⟨_, _, rfl, run_takeDeferred hK, ?_⟩⟩
    exact ⟨_, results_none rfl _ _ _, ⟨_, rfl⟩, (m1.trans' hm).put_new (by omega) _, .inr ⟨E2, hg.mono s1, hJx.keep _ _ _ _ hi (.put ⟨hnD, by omega⟩ _)⟩⟩
end Go.Proofs.YtehlnhljpdjppaaGreatDoor
/- What an expression is: plain; contracts of package calendar's fits, isList, isWeek, fields, Is. -/
namespace Go.Proofs.YtehlnhljpdjppaaGreatDoor
open Go.RowKit
def fitsB (q : Part) (lo hi : Int) : Bool := if q.1 = true then (decide (q.2.1 = 0) && (decide (q.2.2.1 = 0) && decide (q.2.2.2 = 0))) else (decide (lo ≤ q.2.1) && (decide (q.2.1 ≤ q.2.2.1) && (decide (q.2.2.1 ≤ hi) && (decide (0 ≤ q.2.2.2) && decide (q.2.2.2 ≤ hi)))))
def badP (n : Nat) (lo hi : Int) (q : Part) : Bool := !fitsB q lo hi || (q.1 && decide (1 < n))
def isLB (ps : List Part) (lo hi : Int) : Bool := decide (ps.length ≤ 12) && !(ps.any (badP ps.length lo hi))
def wkP (q : Part) : Bool := q.1 || decide (q.2.2.2 ≠ 0)
def isWB (ps : List Part) : Bool := isLB ps 0 6 && !(ps.any wkP)
def isFB (ps : List Part) (lo hi : Int) : Bool := !ps.isEmpty && isLB ps lo hi
def isB (c : Cal.C7) : Bool := isFB c.year 1970 2200 && (isFB c.month 1 12 && (isFB c.day 1 31 && (isFB c.hour 0 23 && (isFB c.minute 0 59 && (isFB c.second 0 59 && isWB c.week)))))
theorem fits_ok {q : Part} {lo hi : Int} (h : fitsB q lo hi = true) (h0 : 0 ≤ lo) (h1 : hi ≤ 2200) : okP q := by
  unfold fitsB at h
  unfold okP
  split at h <;> simp at h <;> omega
theorem isLB_ok {ps : List Part} {lo hi : Int} (h : isLB ps lo hi = true) (h0 : 0 ≤ lo) (h1 : hi ≤ 2200) : okL ps := by
  unfold isLB at h
  simp only [Bool.and_eq_true, Bool.not_eq_true', List.any_eq_false] at h
  intro q hq
  have := h.2 q hq
  unfold badP at this
  simp only [Bool.or_eq_true, not_or, Bool.not_eq_true, Bool.not_eq_false'] at this
  exact fits_ok this.1 h0 h1
theorem isB_ok {c : Cal.C7} (h : isB c = true) : CalOk c := by
  unfold isB isFB isWB at h
  simp only [Bool.and_eq_true] at h
  obtain ⟨⟨_, h1⟩, ⟨_, h2⟩, ⟨_, h3⟩, ⟨_, h4⟩, ⟨_, h5⟩, ⟨_, h6⟩, h7, _⟩ := h
  exact ⟨isLB_ok h7 (by omega) (by omega), isLB_ok h1 (by omega) (by omega), isLB_ok h2 (by omega) (by omega), isLB_ok h3 (by omega) (by omega), isLB_ok h4 (by omega) (by omega), isLB_ok h5 (by omega) (by omega), isLB_ok h6 (by omega) (by omega)⟩
set_option maxHeartbeats 1000000 in
theorem fits_any (q : Part) (lo hi : Int) (w : World) :
    Calls Tryz.prog 57 #[aggP q, .agg #[.int .i64 lo, .int .i64 hi]] w fun e w' => e = .returned (.bool (fitsB q lo hi)) ∧ Below w.heap.size w w' := by
  obtain ⟨a, f, t, s⟩ := q
  dsimp only [aggP]
  cases a
  all_goals
    go_enter Tryz.func57, Tryz.ntmps57
    go_wp2
  all_goals go_ret
  all_goals refine ⟨ret_bool ?_, ((Below.refl _ _).alloc (Nat.le_refl _) _).alloc (by simp) _⟩
  all_goals (unfold fitsB; rw [Bool.eq_iff_iff]; simp_all)
  all_goals (intros; omega)
set_option maxHeartbeats 1000000 in
theorem isWeek1_any (q : Part) (w : World) :
    Calls Tryz.prog 58 #[aggP q] w fun e w' => e = .returned (.bool (wkP q)) ∧ Below w.heap.size w w' := by
  obtain ⟨a, f, t, s⟩ := q
  dsimp only [aggP]
  cases a
  all_goals
    go_enter Tryz.func58, Tryz.ntmps58
    go_wp2
  all_goals go_ret
  all_goals refine ⟨ret_bool ?_, (Below.refl _ _).alloc (Nat.le_refl _) _⟩
  all_goals (unfold wkP; rw [Bool.eq_iff_iff]; simp_all)
theorem any_upto {ps : List Part} {g : Part → Bool} {k : Nat} (h : ∀ j, j < k → ∀ q, ps[j]? = some q → g q = false) (hk : ps.length ≤ k) : ps.any g = false := by
  rw [List.any_eq_false]
  intro q hq
  obtain ⟨j, hj⟩ := List.mem_iff_getElem?.1 hq
  have hl : j < ps.length := (List.getElem?_eq_some_iff.1 hj).1
  simp [h j (by omega) q hj]
theorem any_at {ps : List Part} {g : Part → Bool} {k : Nat} {q : Part} (h : ps[k]? = some q) (hg : g q = true) : ps.any g = true := List.any_eq_true.2 ⟨q, List.mem_of_getElem? h, hg⟩
set_option maxHeartbeats 2000000 in
theorem idxW_any (ps : List Part) (v : Value) (w : World) (hp : Pin (fun _ => False) w v ps) :
    Calls Tryz.prog 67 #[v, .func (.func 58) #[] #[]] w fun e w' => (∃ r : Int, e = .returned (.int .i64 r) ∧ decide (0 ≤ r) = ps.any wkP) ∧ Below w.heap.size w w' := by
  have hp' := hp
  obtain ⟨p, cap, rfl, hl, hcell⟩ := hp'
  go_enter Tryz.func67, Tryz.ntmps67
  go_wp2_with fail
  go_loopw [8] (fun i wr => ∃ k : Nat, k ≤ ps.length ∧ i = .int .i64 k ∧ (∀ j, j < k → ∀ q, ps[j]? = some q → wkP q = false) ∧ Below w.heap.size w wr) (fun i _ => ps.length - (intOf i).toNat)
  case atStart => exact ⟨0, by omega, rfl, fun j hj => by omega, Below.refl _ _⟩
  case round =>
    obtain ⟨k, hk, rfl, hno, hb⟩ := hrel
    by_cases hkl : k < ps.length
    · obtain ⟨q, hqk⟩ : ∃ q, ps[k]? = some q := ⟨_, List.getElem?_eq_getElem hkl⟩
      have hpr := hp.below hb
      obtain ⟨p', cap', hv', _, hcell'⟩ := hpr
      obtain ⟨b, o, rfl, _, c0, c1, c2, c3⟩ := hcell' k q hqk
      cases hv'
      go_wp2_with fail
      refine (isWeek1_any q wr).mono ?_
      rintro e w' ⟨rfl, hb'⟩
      have hb2 : Below w.heap.size w w' := hb.trans (hb'.mono hb.size)
      cases hin : wkP q
      · go_wp2_with fail
        refine ⟨⟨k + 1, by omega, by go_num, fun j hj q' hq' => ?_, hb2⟩, by simp [intOf]; omega⟩
        by_cases hjk : j < k
        · exact hno j hjk q' hq'
        · obtain rfl : j = k := by omega
          rw [hqk] at hq'; cases hq'; exact hin
      · go_wp2_with fail
        go_ret
        refine ⟨⟨k, rfl, ?_⟩, hb2⟩
        rw [any_at hqk hin]; simp
    · obtain rfl : k = ps.length := by omega
      go_wp2_with fail
      go_ret
      exact ⟨⟨-1, rfl, by rw [any_upto hno (Nat.le_refl _)]; rfl⟩, hb⟩
set_option maxHeartbeats 1000000 in
theorem contW_any (ps : List Part) (v : Value) (w : World) (hp : Pin (fun _ => False) w v ps) :
    Calls Tryz.prog 44 #[v, .func (.func 58) #[] #[]] w fun e w' => e = .returned (.bool (ps.any wkP)) ∧ Below w.heap.size w w' := by
  go_enter Tryz.func44, Tryz.ntmps44
  go_wp2_with fail
  refine (idxW_any ps v w hp).mono ?_
  rintro e w' ⟨⟨r, rfl, hr⟩, hb⟩
  go_wp2_with fail
  go_ret
  exact ⟨rfl, hb⟩
set_option maxHeartbeats 2000000 in
theorem isList_any (ps : List Part) (lo hi : Int) (v : Value) (w : World) (hp : Pin (fun _ => False) w v ps) :
    Calls Tryz.prog 31 #[v, .agg #[.int .i64 lo, .int .i64 hi]] w fun e w' => e = .returned (.bool (isLB ps lo hi)) ∧ Below w.heap.size w w' := by
  have hp' := hp
  obtain ⟨p, cap, rfl, hl, hcell⟩ := hp'
  by_cases h12 : ps.length ≤ 12
  · have hI : Hid (isLB ps lo hi = !(ps.any (badP ps.length lo hi))) := by show _ = _; unfold isLB; rw [decide_eq_true h12]; rfl
    have hB0 : Below w.heap.size w (w.alloc (.cells #[.int .i64 lo, .int .i64 hi] 66)) := (Below.refl _ _).alloc (Nat.le_refl _) _
    have z0 : (w.alloc (.cells #[.int .i64 lo, .int .i64 hi] 66)).cell? ⟨w.heap.size, 0, none⟩ = some (.int .i64 lo) := cell_at rfl rfl
    have z1 : (w.alloc (.cells #[.int .i64 lo, .int .i64 hi] 66)).cell? ⟨w.heap.size, 1, none⟩ = some (.int .i64 hi) := cell_at rfl rfl
    go_enter Tryz.func31, Tryz.ntmps31
    go_wp2_with fail
    go_loopw [12] (fun i wr => ∃ k : Nat, k ≤ ps.length ∧ i = .int .i64 k ∧ (∀ j, j < k → ∀ q, ps[j]? = some q → badP ps.length lo hi q = false) ∧ Below (w.heap.size + 1) (w.alloc (.cells #[.int .i64 lo, .int .i64 hi] 66)) wr) (fun i _ => ps.length - (intOf i).toNat)
    case atStart => exact ⟨0, by omega, rfl, fun j hj => by omega, Below.refl _ _⟩
    case round =>
      obtain ⟨k, hk, rfl, hno, hb⟩ := hrel
      have hbw : Below w.heap.size w wr := hB0.trans (hb.mono (by omega))
      have y0 : wr.cell? ⟨w.heap.size, 0, none⟩ = some (.int .i64 lo) := (hb.cell (p := ⟨w.heap.size, 0, none⟩) (by simp)).trans z0
      have y1 : wr.cell? ⟨w.heap.size, 1, none⟩ = some (.int .i64 hi) := (hb.cell (p := ⟨w.heap.size, 1, none⟩) (by simp)).trans z1
      have wl : w.heap.size < wr.heap.size := cell_lt y0
      by_cases hkl : k < ps.length
      · obtain ⟨q, hqk⟩ : ∃ q, ps[k]? = some q := ⟨_, List.getElem?_eq_getElem hkl⟩
        have hpr := hp.below hbw
        obtain ⟨p', cap', hv', _, hcell'⟩ := hpr
        obtain ⟨b, o, rfl, _, c0, c1, c2, c3⟩ := hcell' k q hqk
        cases hv'
        clear z0 z1
        go_wp2_with fail
        refine (fits_any q lo hi _).mono ?_
        rintro e w' ⟨rfl, hb'⟩
        have hz := hb'.size
        have hb2 : Below (w.heap.size + 1) (w.alloc (.cells #[.int .i64 lo, .int .i64 hi] 66)) w' := (hb.alloc (by omega) _).trans (hb'.mono (by simp; omega))
        have hb3 : Below w.heap.size w w' := hB0.trans (hb2.mono (by omega))
        have x0 : w'.cell? ⟨wr.heap.size, 0, none⟩ = some (.bool q.1) := (hb'.cell (p := ⟨wr.heap.size, 0, none⟩) (by simp)).trans (cell_at rfl rfl)
        cases hfit : fitsB q lo hi
        · have hbad : Hid (badP ps.length lo hi q = true) := by show _ = _; unfold badP; rw [hfit]; rfl
          go_wp2_with fail
          go_ret
          exact ⟨ret_bool (by rw [hI.out, any_at hqk hbad.out]; rfl), hb3⟩
        · cases hany : q.1
          · have hbad : Hid (badP ps.length lo hi q = false) := by show _ = _; unfold badP; rw [hfit, hany]; rfl
            rw [hany] at x0
            go_wp2_with fail
            refine ⟨⟨k + 1, by omega, by go_num, fun j hj q' hq' => ?_, hb2⟩, by simp [intOf]; omega⟩
            by_cases hjk : j < k
            · exact hno j hjk q' hq'
            · obtain rfl : j = k := by omega
              rw [hqk] at hq'; cases hq'; exact hbad.out
          · rw [hany] at x0
            by_cases h1 : 1 < ps.length
            · have hbad : Hid (badP ps.length lo hi q = true) := by show _ = _; unfold badP; rw [hfit, hany, decide_eq_true h1]; rfl
              go_wp2_with fail
              go_ret
              exact ⟨ret_bool (by rw [hI.out, any_at hqk hbad.out]; rfl), hb3⟩
            · have hbad : Hid (badP ps.length lo hi q = false) := by show _ = _; unfold badP; rw [hfit, hany, decide_eq_false h1]; rfl
              have hle1 : ps.length ≤ 1 := by omega
              clear h1
              go_wp2_with fail
              refine ⟨⟨k + 1, by omega, by go_num, fun j hj q' hq' => ?_, hb2⟩, by simp [intOf]; omega⟩
              by_cases hjk : j < k
              · exact hno j hjk q' hq'
              · obtain rfl : j = k := by omega
                rw [hqk] at hq'; cases hq'; exact hbad.out
      · obtain rfl : k = ps.length := by omega
        go_wp2_with fail
        go_ret
        exact ⟨ret_bool (by rw [hI.out, any_upto hno (Nat.le_refl _)]; rfl), hbw⟩
  · have hI : Hid (isLB ps lo hi = false) := by show _ = _; unfold isLB; rw [decide_eq_false h12]; rfl
    have hg : 12 < ps.length := by omega
    clear h12
    go_enter Tryz.func31, Tryz.ntmps31
    go_wp2_with fail
    go_ret
    exact ⟨ret_bool hI.out.symm, (Below.refl _ _).alloc (Nat.le_refl _) _⟩
set_option maxHeartbeats 1000000 in
theorem isWeek_any (ps : List Part) (v : Value) (w : World) (hp : Pin (fun _ => False) w v ps) :
    Calls Tryz.prog 32 #[v] w fun e w' => e = .returned (.bool (isWB ps)) ∧ Below w.heap.size w w' := by
  cases hL : isLB ps 0 6
  · have hI : Hid (isWB ps = false) := by show _ = _; unfold isWB; rw [hL]; rfl
    go_enter Tryz.func32, Tryz.ntmps32
    go_wp2_with fail
    refine (isList_any ps 0 6 v w hp).mono ?_
    rintro e w' ⟨rfl, hb⟩
    go_wp2_with fail
    go_ret
    exact ⟨ret_bool hI.out.symm, hb⟩
  · have hI : Hid (isWB ps = !(ps.any wkP)) := by show _ = _; unfold isWB; rw [hL]; rfl
    go_enter Tryz.func32, Tryz.ntmps32
    go_wp2_with fail
    refine (isList_any ps 0 6 v w hp).mono ?_
    rintro e w' ⟨rfl, hb⟩
    go_wp2_with fail
    refine (contW_any ps v w' (hp.below hb)).mono ?_
    rintro e w2 ⟨rfl, hb2⟩
    go_wp2_with fail
    go_ret
    exact ⟨ret_bool hI.out.symm, hb.trans (hb2.mono hb.size)⟩
end Go.Proofs.YtehlnhljpdjppaaGreatDoor
