/- The plain mathematics of calendar expressions: what is in a list; the times that match, rising; the next one is the least. -/
import Derived.Test.YteaaknbininehabDoorMath
namespace Go.Proofs.YteaaknbininehabDoor.Cal
abbrev Part := Bool × Int × Int × Int
structure C7 where
  week : List Part
  year : List Part
  month : List Part
  day : List Part
  hour : List Part
  minute : List Part
  second : List Part
def inP (p : Part) (n : Int) : Bool := p.1 || (decide (p.2.1 ≤ n) && (decide (n ≤ p.2.2.1) && (decide (p.2.2.2 = 0) || decide ((n - p.2.1) % p.2.2.2 = 0))))
def inL (l : List Part) (n : Int) : Bool := l.any fun p => inP p n
def up : Nat → Int → List Int
  | 0, _ => []
  | k + 1, a => a :: up k (a + 1)
def rng (lo hi : Int) : List Int := up (hi + 1 - lo).toNat lo
def onW (w : List Part) (n : Int) : Bool := w.isEmpty || inL w (Civ.wd n)
def okD (c : C7) (n0 n : Int) : Bool := decide (n0 ≤ n) && onW c.week n
def dsM (c : C7) (n0 y m : Int) : List Int := (((rng 1 (Civ.dim y m)).filter (inL c.day)).map (Civ.num y m)).filter (okD c n0)
def dsY (c : C7) (n0 m1 y : Int) : List Int := ((rng m1 12).filter (inL c.month)).flatMap (dsM c n0 y)
def m1 (y0 m0 y : Int) : Int := if y = y0 then m0 else 1
def ds (c : C7) (y0 m0 d0 : Int) : List Int := ((rng y0 2200).filter (inL c.year)).flatMap fun y => dsY c (Civ.num y0 m0 d0) (m1 y0 m0 y) y
def ssM (c : C7) (f b : Int) : List Int := ((rng (max (f - b) 0) 59).filter (inL c.second)).map (b + ·)
def ssH (c : C7) (f b : Int) : List Int := ((rng (max (f - b) 0 / 60) 59).filter (inL c.minute)).flatMap fun m => ssM c f (b + m * 60)
def ss (c : C7) (f : Int) : List Int := ((rng (f / 3600) 23).filter (inL c.hour)).flatMap fun h => ssH c f (h * 3600)
def tsD (c : C7) (f d : Int) : List Int := (ss c (max (f - d * 86400) 0)).map (d * 86400 + ·)
def tsF (c : C7) (f : Int) : List Int := (ds c (Civ.dY (f / 86400)) (Civ.dM (f / 86400)) (Civ.dD (f / 86400))).flatMap (tsD c f)
def fromT (t : Int) : Int := max t (-1) + 1
def ts (c : C7) (t : Int) : List Int := if fromT t < 7289654400 then tsF c (fromT t) else []
def nx (c : C7) (t : Int) : Option Int := (ts c t).head?
/-- Does a time match? -/
def mt (c : C7) (x : Int) : Bool := inL c.year (Civ.dY (x / 86400)) && (inL c.month (Civ.dM (x / 86400)) && (inL c.day (Civ.dD (x / 86400)) && (onW c.week (x / 86400) && (inL c.hour (x % 86400 / 3600) && (inL c.minute (x % 86400 / 60 % 60) && inL c.second (x % 60))))))
theorem mem_up : ∀ (k : Nat) (a x : Int), x ∈ up k a ↔ a ≤ x ∧ x < a + k
  | 0, a, x => by simp [up]
  | k + 1, a, x => by
    rw [up, List.mem_cons, mem_up k (a + 1) x]; omega
theorem mem_rng (lo hi x : Int) : x ∈ rng lo hi ↔ lo ≤ x ∧ x ≤ hi := by rw [rng, mem_up]; omega
theorem sort_up : ∀ (k : Nat) (a : Int), (up k a).Pairwise (· < ·)
  | 0, _ => .nil
  | k + 1, a => by
    rw [up]
    exact List.pairwise_cons.2 ⟨fun x hx => by have := (mem_up k (a + 1) x).1 hx; omega, sort_up k (a + 1)⟩
theorem sort_rng (lo hi : Int) : (rng lo hi).Pairwise (· < ·) := sort_up _ _
theorem rng_cons {lo hi : Int} (h : lo ≤ hi) : rng lo hi = lo :: rng (lo + 1) hi := by
  unfold rng
  rw [show (hi + 1 - lo).toNat = (hi + 1 - (lo + 1)).toNat + 1 by omega]; rfl
theorem rng_nil {lo hi : Int} (h : hi < lo) : rng lo hi = [] := by
  unfold rng
  rw [show (hi + 1 - lo).toNat = 0 by omega]; rfl
/-- Sorted rows, one behind the other, in the order of what they are of. -/
theorem sort_flat {f : Int → List Int} : ∀ {l : List Int}, l.Pairwise (· < ·) → (∀ a ∈ l, (f a).Pairwise (· < ·)) → (∀ a ∈ l, ∀ b ∈ l, a < b → ∀ x ∈ f a, ∀ y ∈ f b, x < y) → (l.flatMap f).Pairwise (· < ·)
  | [], _, _, _ => .nil
  | a :: l, hl, hf, hx => by
    rw [List.flatMap_cons]
    obtain ⟨h1, h2⟩ := List.pairwise_cons.1 hl
    refine List.pairwise_append.2 ⟨hf a (by simp), sort_flat h2 (fun b hb => hf b (by simp [hb])) (fun b hb d hd => hx b (by simp [hb]) d (by simp [hd])), ?_⟩
    intro x hxm y hym
    obtain ⟨b, hb, hy⟩ := List.mem_flatMap.1 hym
    exact hx a (by simp) b (by simp [hb]) (h1 b hb) x hxm y hy
theorem sort_map {l : List Int} (f : Int → Int) (h : l.Pairwise (· < ·)) (hf : ∀ a ∈ l, ∀ b ∈ l, a < b → f a < f b) : (l.map f).Pairwise (· < ·) := by
  rw [List.pairwise_map]
  exact h.imp_of_mem (fun ha hb hab => hf _ ha _ hb hab)
theorem mem_ssM {c : C7} {f b x : Int} : x ∈ ssM c f b ↔ inL c.second (x - b) = true ∧ max (f - b) 0 ≤ x - b ∧ x - b ≤ 59 := by
  unfold ssM
  rw [List.mem_map]
  constructor
  · rintro ⟨a, ha, rfl⟩
    obtain ⟨h1, h2⟩ := List.mem_filter.1 ha
    have := (mem_rng _ _ _).1 h1
    rw [show b + a - b = a by omega]
    exact ⟨h2, this⟩
  · rintro ⟨h1, h2⟩
    exact ⟨x - b, List.mem_filter.2 ⟨(mem_rng _ _ _).2 h2, h1⟩, by omega⟩
theorem mem_ss {c : C7} {f x : Int} (hf : 0 ≤ f) : x ∈ ss c f ↔ f ≤ x ∧ x < 86400 ∧ inL c.hour (x / 3600) = true ∧ inL c.minute (x / 60 % 60) = true ∧ inL c.second (x % 60) = true := by
  unfold ss
  rw [List.mem_flatMap]
  constructor
  · rintro ⟨h, hh, hx⟩
    obtain ⟨h1, h2⟩ := List.mem_filter.1 hh
    have h3 := (mem_rng _ _ _).1 h1
    unfold ssH at hx
    obtain ⟨m, hm, hx⟩ := List.mem_flatMap.1 hx
    obtain ⟨m1, m2⟩ := List.mem_filter.1 hm
    have m3 := (mem_rng _ _ _).1 m1
    obtain ⟨s1, s2, s3⟩ := mem_ssM.1 hx
    have e1 : x / 3600 = h := by omega
    have e2 : x / 60 % 60 = m := by omega
    have e3 : x % 60 = x - (h * 3600 + m * 60) := by omega
    rw [e1, e2, e3]
    exact ⟨by omega, by omega, h2, m2, s1⟩
  · rintro ⟨h1, h2, h3, h4, h5⟩
    refine ⟨x / 3600, List.mem_filter.2 ⟨(mem_rng _ _ _).2 ⟨by omega, by omega⟩, h3⟩, ?_⟩
    unfold ssH
    refine List.mem_flatMap.2 ⟨x / 60 % 60, List.mem_filter.2 ⟨(mem_rng _ _ _).2 ⟨by omega, by omega⟩, h4⟩, ?_⟩
    refine mem_ssM.2 ⟨?_, by omega, by omega⟩
    rw [show x - (x / 3600 * 3600 + x / 60 % 60 * 60) = x % 60 by omega]; exact h5
theorem sort_ss {c : C7} {f : Int} (_ : 0 ≤ f) : (ss c f).Pairwise (· < ·) := by
  unfold ss
  refine sort_flat ((sort_rng _ _).filter _) ?_ ?_
  · intro h _
    unfold ssH
    refine sort_flat ((sort_rng _ _).filter _) ?_ ?_
    · intro m _
      exact sort_map _ ((sort_rng _ _).filter _) (fun a _ b _ h => by omega)
    · intro a _ b _ hab x hx y hy
      obtain ⟨_, x2, x3⟩ := mem_ssM.1 hx
      obtain ⟨_, y2, y3⟩ := mem_ssM.1 hy
      omega
  · intro a _ b _ hab x hx y hy
    unfold ssH at hx hy
    obtain ⟨m, hm, hx⟩ := List.mem_flatMap.1 hx
    obtain ⟨k, hk, hy⟩ := List.mem_flatMap.1 hy
    obtain ⟨_, x2, x3⟩ := mem_ssM.1 hx
    obtain ⟨_, y2, y3⟩ := mem_ssM.1 hy
    have := (mem_rng _ _ _).1 (List.mem_filter.1 hm).1
    have := (mem_rng _ _ _).1 (List.mem_filter.1 hk).1
    omega
theorem mem_dsM {c : C7} {n0 y m x : Int} : x ∈ dsM c n0 y m ↔ (∃ d, 1 ≤ d ∧ d ≤ Civ.dim y m ∧ inL c.day d = true ∧ x = Civ.num y m d) ∧ okD c n0 x = true := by
  unfold dsM
  rw [List.mem_filter, List.mem_map]
  constructor
  · rintro ⟨⟨d, hd, rfl⟩, h⟩
    obtain ⟨h1, h2⟩ := List.mem_filter.1 hd
    have := (mem_rng _ _ _).1 h1
    exact ⟨⟨d, this.1, this.2, h2, rfl⟩, h⟩
  · rintro ⟨⟨d, h1, h2, h3, rfl⟩, h⟩
    exact ⟨⟨d, List.mem_filter.2 ⟨(mem_rng _ _ _).2 ⟨h1, h2⟩, h3⟩, rfl⟩, h⟩
theorem mem_ds {c : C7} {y0 m0 d0 x : Int} (hv : Civ.vldB y0 m0 d0 = true) : x ∈ ds c y0 m0 d0 ↔ Civ.num y0 m0 d0 ≤ x ∧ x < 84371 ∧ inL c.year (Civ.dY x) = true ∧ inL c.month (Civ.dM x) = true ∧ inL c.day (Civ.dD x) = true ∧ onW c.week x = true := by
  obtain ⟨v1, v2, v3, v4, v5, v6⟩ := Civ.vldB_iff.1 hv
  have hb0 := Civ.num_bd hv
  unfold ds
  rw [List.mem_flatMap]
  constructor
  · rintro ⟨y, hy, hx⟩
    obtain ⟨y1, y2⟩ := List.mem_filter.1 hy
    have y3 := (mem_rng _ _ _).1 y1
    unfold dsY at hx
    obtain ⟨m, hm, hx⟩ := List.mem_flatMap.1 hx
    obtain ⟨k1, k2⟩ := List.mem_filter.1 hm
    have k3 := (mem_rng _ _ _).1 k1
    obtain ⟨⟨d, d1, d2, d3, rfl⟩, ho⟩ := mem_dsM.1 hx
    have hm1 : 1 ≤ m := by unfold m1 at k3; split at k3 <;> omega
    have hv' : Civ.vldB y m d = true := Civ.vldB_iff.2 ⟨by omega, by omega, hm1, k3.2, d1, d2⟩
    obtain ⟨e1, e2, e3⟩ := Civ.num_date hv'
    rw [e1, e2, e3]
    simp only [okD, Bool.and_eq_true, decide_eq_true_eq] at ho
    exact ⟨ho.1, (Civ.num_bd hv').2.1, y2, k2, d3, ho.2⟩
  · rintro ⟨h1, h2, h3, h4, h5, h6⟩
    have hv' := Civ.date_vld (n := x) (by omega) h2
    obtain ⟨w1, w2, w3, w4, w5, w6⟩ := Civ.vldB_iff.1 hv'
    have hn := Civ.date_num (n := x)
    have hle : ¬ (Civ.num (Civ.dY x) (Civ.dM x) (Civ.dD x) < Civ.num y0 m0 d0) := by omega
    rw [Civ.num_lt hv' hv] at hle
    refine ⟨Civ.dY x, List.mem_filter.2 ⟨(mem_rng _ _ _).2 ⟨by omega, w2⟩, h3⟩, ?_⟩
    unfold dsY
    refine List.mem_flatMap.2 ⟨Civ.dM x, List.mem_filter.2 ⟨(mem_rng _ _ _).2 ⟨?_, w4⟩, h4⟩, ?_⟩
    · unfold m1; split <;> omega
    · refine mem_dsM.2 ⟨⟨Civ.dD x, w5, w6, h5, hn.symm⟩, ?_⟩
      simp only [okD, Bool.and_eq_true, decide_eq_true_eq]
      exact ⟨h1, h6⟩
theorem sort_ds {c : C7} {y0 m0 d0 : Int} (hv : Civ.vldB y0 m0 d0 = true) : (ds c y0 m0 d0).Pairwise (· < ·) := by
  obtain ⟨v1, v2, v3, v4, v5, v6⟩ := Civ.vldB_iff.1 hv
  unfold ds
  have hm1 : ∀ {y m : Int}, m ∈ (rng (m1 y0 m0 y) 12).filter (inL c.month) → 1 ≤ m ∧ m ≤ 12 := by
    intro y m hm
    have k3 := (mem_rng _ _ _).1 (List.mem_filter.1 hm).1
    unfold m1 at k3; split at k3 <;> omega
  refine sort_flat ((sort_rng _ _).filter _) ?_ ?_
  · intro y hy
    have y3 := (mem_rng _ _ _).1 (List.mem_filter.1 hy).1
    unfold dsY
    refine sort_flat ((sort_rng _ _).filter _) ?_ ?_
    · intro m hm
      refine List.Pairwise.filter _ (sort_map _ ((sort_rng _ _).filter _) (fun a _ b _ h => ?_))
      unfold Civ.num; omega
    · intro a ha b hb hab x hx z hz
      obtain ⟨⟨d, d1, d2, _, rfl⟩, _⟩ := mem_dsM.1 hx
      obtain ⟨⟨k, k1, k2, _, rfl⟩, _⟩ := mem_dsM.1 hz
      have ha' := hm1 ha
      have hb' := hm1 hb
      exact (Civ.num_lt (Civ.vldB_iff.2 ⟨by omega, by omega, ha'.1, ha'.2, d1, d2⟩) (Civ.vldB_iff.2 ⟨by omega, by omega, hb'.1, hb'.2, k1, k2⟩)).2 (.inr ⟨rfl, .inl hab⟩)
  · intro a ha b hb hab x hx z hz
    have y3 := (mem_rng _ _ _).1 (List.mem_filter.1 ha).1
    have y4 := (mem_rng _ _ _).1 (List.mem_filter.1 hb).1
    unfold dsY at hx hz
    obtain ⟨m, hm, hx⟩ := List.mem_flatMap.1 hx
    obtain ⟨m', hm', hz⟩ := List.mem_flatMap.1 hz
    obtain ⟨⟨d, d1, d2, _, rfl⟩, _⟩ := mem_dsM.1 hx
    obtain ⟨⟨k, k1, k2, _, rfl⟩, _⟩ := mem_dsM.1 hz
    have ha' := hm1 hm
    have hb' := hm1 hm'
    exact (Civ.num_lt (Civ.vldB_iff.2 ⟨by omega, by omega, ha'.1, ha'.2, d1, d2⟩) (Civ.vldB_iff.2 ⟨by omega, by omega, hb'.1, hb'.2, k1, k2⟩)).2 (.inl hab)
theorem mem_tsF {c : C7} {f x : Int} (h0 : 0 ≤ f) (h1 : f < 7289654400) : x ∈ tsF c f ↔ f ≤ x ∧ x < 7289654400 ∧ mt c x = true := by
  have hv := Civ.date_vld (n := f / 86400) (by omega) (by omega)
  have hn := Civ.date_num (n := f / 86400)
  unfold tsF
  rw [List.mem_flatMap]
  unfold mt
  simp only [Bool.and_eq_true]
  constructor
  · rintro ⟨d, hd, hx⟩
    obtain ⟨a1, a2, a3, a4, a5, a6⟩ := (mem_ds hv).1 hd
    unfold tsD at hx
    obtain ⟨s, hs, rfl⟩ := List.mem_map.1 hx
    obtain ⟨b1, b2, b3, b4, b5⟩ := (mem_ss (by omega)).1 hs
    rw [hn] at a1
    have e1 : (d * 86400 + s) / 86400 = d := by omega
    have e2 : (d * 86400 + s) % 86400 = s := by omega
    have e3 : (d * 86400 + s) % 60 = s % 60 := by omega
    rw [e1, e2, e3]
    exact ⟨by omega, by omega, a3, a4, a5, a6, b3, b4, b5⟩
  · rintro ⟨c1, c2, a3, a4, a5, a6, b3, b4, b5⟩
    refine ⟨x / 86400, (mem_ds hv).2 ⟨by omega, by omega, a3, a4, a5, a6⟩, ?_⟩
    unfold tsD
    refine List.mem_map.2 ⟨x % 86400, (mem_ss (by omega)).2 ⟨by omega, by omega, b3, b4, ?_⟩, by omega⟩
    rw [show x % 86400 % 60 = x % 60 by omega]; exact b5
theorem sort_tsF {c : C7} {f : Int} (h0 : 0 ≤ f) (h1 : f < 7289654400) : (tsF c f).Pairwise (· < ·) := by
  have hv := Civ.date_vld (n := f / 86400) (by omega) (by omega)
  unfold tsF
  refine sort_flat (sort_ds hv) ?_ ?_
  · intro d _
    exact sort_map _ (sort_ss (by omega)) (fun a _ b _ h => by omega)
  · intro a _ b _ hab x hx y hy
    unfold tsD at hx hy
    obtain ⟨s, hs, rfl⟩ := List.mem_map.1 hx
    obtain ⟨k, hk, rfl⟩ := List.mem_map.1 hy
    have := (mem_ss (by omega)).1 hs
    have := (mem_ss (by omega)).1 hk
    omega
theorem mem_ts {c : C7} {t x : Int} : x ∈ ts c t ↔ max t (-1) < x ∧ x < 7289654400 ∧ mt c x = true := by
  unfold ts fromT
  split
  · rw [mem_tsF (by omega) (by assumption)]
    constructor <;> rintro ⟨a, b, d⟩ <;> exact ⟨by omega, b, d⟩
  · constructor
    · intro h; cases h
    · rintro ⟨a, b, _⟩; omega
theorem sort_ts {c : C7} {t : Int} : (ts c t).Pairwise (· < ·) := by
  unfold ts fromT
  split
  · exact sort_tsF (by omega) (by assumption)
  · exact .nil
theorem nx_some {c : C7} {t n : Int} : nx c t = some n ↔ (max t (-1) < n ∧ n < 7289654400 ∧ mt c n = true) ∧ ∀ x, max t (-1) < x → x < n → mt c x = false := by
  unfold nx
  constructor
  · intro h
    obtain ⟨r, hr⟩ : ∃ r, ts c t = n :: r := by cases e : ts c t with | nil => rw [e] at h; cases h | cons a r => rw [e] at h; cases h; exact ⟨r, rfl⟩
    have hm := (mem_ts (c := c) (t := t) (x := n)).1 (by rw [hr]; simp)
    refine ⟨hm, fun x hx hn => ?_⟩
    cases hmx : mt c x with
    | false => rfl
    | true =>
      have h2 := (mem_ts (c := c) (t := t) (x := x)).2 ⟨hx, by omega, hmx⟩
      have hs := sort_ts (c := c) (t := t)
      rw [hr] at hs h2
      rcases List.mem_cons.1 h2 with rfl | h3
      · omega
      · have := (List.pairwise_cons.1 hs).1 x h3; omega
  · rintro ⟨hm, hl⟩
    have h2 := (mem_ts (c := c) (t := t) (x := n)).2 hm
    cases e : ts c t with
    | nil => rw [e] at h2; cases h2
    | cons a r =>
      have ha := (mem_ts (c := c) (t := t) (x := a)).1 (by rw [e]; simp)
      have hs := sort_ts (c := c) (t := t)
      rw [e] at hs h2
      rcases List.mem_cons.1 h2 with rfl | h3
      · rfl
      · have := (List.pairwise_cons.1 hs).1 n h3
        have := hl a ha.1 this
        rw [this] at ha; cases ha.2.2
theorem nx_none {c : C7} {t : Int} : nx c t = none ↔ ∀ x, max t (-1) < x → x < 7289654400 → mt c x = false := by
  unfold nx
  rw [List.head?_eq_none_iff]
  constructor
  · intro h x h1 h2
    cases hmx : mt c x with
    | false => rfl
    | true => have := (mem_ts (c := c) (t := t) (x := x)).2 ⟨h1, h2, hmx⟩; rw [h] at this; cases this
  · intro h
    cases e : ts c t with
    | nil => rfl
    | cons a r =>
      have ha := (mem_ts (c := c) (t := t) (x := a)).1 (by rw [e]; simp)
      rw [h a ha.1 ha.2.1] at ha; cases ha.2.2
end Go.Proofs.YteaaknbininehabDoor.Cal
