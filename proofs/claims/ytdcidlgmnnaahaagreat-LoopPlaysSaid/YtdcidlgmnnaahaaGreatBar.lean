import Derived.Test.YtdcidlgmnnaahaaGreatBaq
import Derived.Test.YtdcidlgmnnaahaaGreatBad
/- join. -/
namespace Go.Proofs.YtdcidlgmnnaahaaGreat.Qd
open Go.RowKit Go.Shelf Go.Lib
attribute [local go_sem] Oper.semAt_some
/-- Two rows of trees, each of one key, none empty. -/
structure Two (key : El → Int) (w : World) (B : Nat → Prop) (xa : List Rec) (FA : List (Tr El)) (ga oa ca : Nat) (xb : List Rec) (FB : List (Tr El)) (gb ob cb : Nat) (ma mb : Int) : Prop where
  a : RS w ga oa ca xa
  ra : RF w B xa FA
  fa : Fl key ma FA
  na : FA ≠ []
  b : RS w gb ob cb xb
  rb : RF w B xb FB
  fb : Fl key mb FB
  nb : FB ≠ []
  nga : ∀ k, B k → k ≠ ga
  ngb : ∀ k, B k → k ≠ gb
  lo : ∀ k, B k → k < w.heap.size
  dj : ∀ j, ob ≤ j → j < ob + xb.length * 5 → ¬ (gb = ga ∧ oa ≤ j ∧ j < oa + xa.length * 5)
  la : xa.length ≤ 400000
  lb : xb.length ≤ 400000
/-- A row of the trees F, where it may lie. -/
def JP (w : World) (B : Nat → Prop) (F : List (Tr El)) (ga oa ca N : Nat) (S : Nat → Nat → Prop) (e : Ending) (V : World) : Prop :=
  ∃ g' o' c' xs' B', e = .returned (slv g' o' xs'.length c') ∧ RS V g' o' c' xs' ∧ RF V B' xs' F ∧ (∀ b, B b → B' b) ∧ Gr B w B' ∧ (∀ b, B' b → b < V.heap.size) ∧ Cv S w V ∧ ((g' = ga ∧ o' = oa ∧ c' = ca) ∨ (ca < N ∧ w.heap.size ≤ g' ∧ ¬ B' g'))
def SJ (ga oa gb ob na nb : Nat) (k j : Nat) : Prop := (k = ga ∧ oa ≤ j ∧ j < oa + (na + nb) * 5) ∨ (k = gb ∧ ob ≤ j ∧ j < ob + nb * 5)
theorem RF.one {w : World} {B : Nat → Prop} {xs : List Rec} {y : Tr El} (h : RF w B xs [y]) : ∃ x, xs = [x] ∧ x.v = y.v ∧ x.t = y.t ∧ LR w B y.k x.p := by
  match xs, h with
  | [x], h => exact ⟨x, rfl, h.1⟩
  | [], h => exact h.elim
  | _ :: _ :: _, h => exact h.2.elim
theorem Two.swap {key : El → Int} {w : World} {B : Nat → Prop} {xa : List Rec} {FA : List (Tr El)} {ga oa ca : Nat} {xb : List Rec} {FB : List (Tr El)} {gb ob cb : Nat} {ma mb : Int} (h : Two key w B xa FA ga oa ca xb FB gb ob cb ma mb) : Two key w B xb FB gb ob cb xa FA ga oa ca mb ma :=
  ⟨h.b, h.rb, h.fb, h.nb, h.a, h.ra, h.fa, h.na, h.ngb, h.nga, h.lo, fun j h1 h2 s => h.dj j s.2.1 s.2.2 ⟨s.1.symm, h1, h2⟩, h.lb, h.la⟩
theorem Two.below {key : El → Int} {w V : World} {B : Nat → Prop} {xa : List Rec} {FA : List (Tr El)} {ga oa ca : Nat} {xb : List Rec} {FB : List (Tr El)} {gb ob cb : Nat} {ma mb : Int} (h : Two key w B xa FA ga oa ca xb FB gb ob cb ma mb) (b : Below w.heap.size w V) : Two key V B xa FA ga oa ca xb FB gb ob cb ma mb :=
  have c := Cv.below (S := fun _ _ => False) b
  ⟨h.a.cv c (fun _ _ _ h => h), RF.cv c (fun _ h => h) (fun _ _ _ h => h) _ _ h.ra, h.fa, h.na, h.b.cv c (fun _ _ _ h => h), RF.cv c (fun _ h => h) (fun _ _ _ h => h) _ _ h.rb, h.fb, h.nb, h.nga, h.ngb, fun k hk => Nat.lt_of_lt_of_le (h.lo k hk) b.size, h.dj, h.la, h.lb⟩
/-- All of b wait behind the last of a. -/
theorem Two.yes {key : El → Int} {w : World} {B : Nat → Prop} {xa : List Rec} {FA : List (Tr El)} {ga oa ca : Nat} {xb : List Rec} {FB : List (Tr El)} {gb ob cb : Nat} {ma mb : Int} (h : Two key w B xa FA ga oa ca xb FB gb ob cb ma mb) (hlt : ma < mb) :
    ∃ ya x YA y, FA = YA ++ [y] ∧ xa = ya ++ [x] ∧ RF w B ya YA ∧ x.v = y.v ∧ x.t = y.t ∧ Yes key w B xb FB ga oa ca ya x y.k gb ob cb := by
  obtain ⟨YA, y, rfl⟩ := snoc_of h.na
  obtain ⟨ya, x1, rfl, h1, h2⟩ := RF.split h.ra
  obtain ⟨x, rfl, e1, e2, hl⟩ := h2.one
  have hx : key x.v = ma := by rw [e1]; exact (h.fa y (by simp)).1
  have hla := h.la
  have hdj := h.dj
  rw [List.length_append, List.length_singleton] at hla hdj
  exact ⟨ya, x, YA, y, rfl, rfl, h1, e1, e2, ⟨h.a, by omega, hl, h.nga, h.ngb, h.lo, h.b, by have := h.lb; omega, h.rb, fun t ht => by
    have : key t.v = mb := RF.mem (key := key) (q := fun z => z = mb) h.rb (fun y hy => (h.fb y hy).1) t ht
    omega, hdj⟩⟩
theorem UY.rf {w V : World} {B B' : Nat → Prop} {T YA : List (Tr El)} {g o cap : Nat} {ya : List Rec} {x : Rec} {y : Tr El} {gt ot nt : Nat} {p : Option Nat} (h : UY w B T g o cap ya x y.k gt ot nt V p B') (hr : RF w B ya YA) (e1 : x.v = y.v) (e2 : x.t = y.t) (ng : ∀ b, B b → b ≠ g) (nt' : ∀ b, B b → b ≠ gt) : RF V B' (ya ++ [⟨x.v, x.t, p⟩]) (onL T (YA ++ [y])) := by
  rw [onL_snoc]
  refine RF.app (RF.cv h.cv h.up (fun b hb j s => ?_) _ _ hr) ⟨⟨e1, e2, h.lr⟩, trivial⟩
  rcases s with s | s
  · exact ng b hb s.1
  · exact nt' b hb s.1
set_option maxRecDepth 100000 in
set_option maxHeartbeats 1000000 in
theorem join_lt {nb : NB} {key : El → Int} (hB : Bf nb key) {q : Nat} {w : World} {B : Nat → Prop} {xa : List Rec} {FA : List (Tr El)} {ga oa ca : Nat} {xb : List Rec} {FB : List (Tr El)} {gb ob cb : Nat} {ma mb : Int} (h : Two key w B xa FA ga oa ca xb FB gb ob cb ma mb) (hq : w.cell? ⟨q, 0, none⟩ = some (fnV nb)) (nq : q ≠ ga) (hlt : ma < mb) :
    Calls Tryz.prog 67 #[qp q, slv ga oa xa.length ca, slv gb ob xb.length cb] w (JP w B (onL FB FA) ga oa ca (xa.length + xb.length) (SJ ga oa gb ob xa.length xb.length)) := by
  obtain ⟨ya, x, YA, y, rfl, rfl, hya, e1, e2, hY⟩ := h.yes hlt
  have hbl : 0 < xb.length := by rw [h.rb.len]; exact List.length_pos_iff.2 h.nb
  have hC := hidP (unheld_yes hB hY hq nq hbl)
  have hlen : (ya ++ [x]).length = ya.length + 1 := by simp
  have hfin : Hid (∀ V V2 p B', UY w B FB ga oa ca ya x y.k gb ob xb.length V p B' → Below V.heap.size V V2 → JP w B (onL FB (YA ++ [y])) ga oa ca (ya.length + 1 + xb.length) (SJ ga oa gb ob (ya.length + 1) xb.length) (.returned (slv ga oa (ya.length + 1) ca)) V2 ∧ (Builtin.append_ #[114, 114] 114 #[slv ga oa (ya.length + 1) ca, slv gb ob 0 cb]).run Tryz.prog V2 = .ok (slv ga oa (ya.length + 1) ca) V2) := fun V V2 p B' hu hb => by
    have c := Cv.below (S := fun _ _ => False) hb
    have hrs := hu.rs.cv c (fun _ _ _ h => h)
    have hap := app_none hrs (some ⟨gb, ob, none⟩) cb 114
    rw [List.length_append, List.length_singleton] at hap
    refine ⟨⟨ga, oa, ca, _, B', by simp, hrs, RF.cv c (fun _ h => h) (fun _ _ _ h => h) _ _ (hu.rf hya e1 e2 h.nga h.ngb), hu.up, hu.gr, fun b hb' => Nat.lt_of_lt_of_le (hu.lo b hb') hb.size, ?_, .inl ⟨rfl, rfl, rfl⟩⟩, hap⟩
    refine (hu.cv.mono (T := SJ ga oa gb ob (ya.length + 1) xb.length) (fun k j _ s => ?_)).trans c (fun _ _ s => s.elim)
    rcases s with s | s
    · exact .inl ⟨s.1, by omega, by omega⟩
    · exact .inr s
  rw [hlen]
  clear h hB hY hya hq hlen
  obtain ⟨n, hn⟩ : ∃ n, ya.length + 1 = n := ⟨_, rfl⟩
  rw [hn] at hC hfin ⊢
  clear hn
  have hE := hidP (fun V2 => unheld_empty q (some ⟨ga, oa, none⟩) (some ⟨gb, ob, none⟩) n ca cb V2)
  unfold qp slv at *
  go_enter Tryz.func67, Tryz.ntmps67
  go_wp2_with fail
  refine hC.out.mono ?_
  rintro e V ⟨rfl, p, B', hu⟩
  have huH := hidP hu
  clear hu hC
  go_wp2_with fail
  refine (hE.out V).mono ?_
  rintro e V2 ⟨rfl, hb⟩
  obtain ⟨hj, hrun⟩ := hfin.out V V2 p B' huH.out hb
  have hjH := hidP hj
  clear hb hE hfin huH hj
  go_wp2_with (at_builtin; refine wpList_append_run rfl _ _ 114 rfl _ _ _ _ rfl rfl hrun ?_)
  go_ret
  exact hjH.out
theorem app_any {V : World} {B' : Nat → Prop} {ga oa ca gb ob cb : Nat} {xs ys : List Rec} {F : List (Tr El)} (ha : RS V ga oa ca xs) (hy : RA V gb ob ys) (hr : RF V B' (xs ++ ys) F) (ng : ∀ b, B' b → b ≠ ga) (hl : xs.length ≤ 400000) (hl2 : ys.length ≤ 400000) :
    ∃ g' o' c' V', (Builtin.append_ #[114, 114] 114 #[slv ga oa xs.length ca, slv gb ob ys.length cb]).run Tryz.prog V = .ok (slv g' o' (xs.length + ys.length) c') V' ∧ RS V' g' o' c' (xs ++ ys) ∧ RF V' B' (xs ++ ys) F ∧ Cv (fun k j => k = ga ∧ oa + xs.length * 5 ≤ j ∧ j < oa + (xs.length + ys.length) * 5) V V' ∧ ((g' = ga ∧ o' = oa ∧ c' = ca) ∨ (ca < xs.length + ys.length ∧ V.heap.size ≤ g')) := by
  by_cases hroom : xs.length + ys.length ≤ ca
  · obtain ⟨V', hrun, hrs, hc⟩ := app_room ha (c2 := cb) hy hroom 114
    exact ⟨ga, oa, ca, V', hrun, hrs, RF.cv hc (fun _ h => h) (fun b hb j s => ng b hb s.1) _ _ hr, hc, .inl ⟨rfl, rfl, rfl⟩⟩
  · obtain ⟨g', c', V', hrun, hg, hrs, hb⟩ := app_grow ha (c2 := cb) hy (by omega) (by omega) (by omega) 114
    exact ⟨g', 0, c', V', hrun, hrs, RF.cv (S := fun _ _ => False) (Cv.below hb) (fun _ h => h) (fun _ _ _ h => h) _ _ hr, Cv.below hb, .inr ⟨by omega, hg⟩⟩
theorem Two.no {key : El → Int} {w : World} {B : Nat → Prop} {xa : List Rec} {FA : List (Tr El)} {ga oa ca : Nat} {xb : List Rec} {FB : List (Tr El)} {gb ob cb : Nat} {ma mb : Int} (h : Two key w B xa FA ga oa ca xb FB gb ob cb ma mb) (hlt : mb ≤ ma) : ∀ t ∈ xb, ∀ x ∈ xa, ¬ key x.v < key t.v := fun t ht x hx => by
  have h1 : key t.v = mb := RF.mem (key := key) (q := fun z => z = mb) h.rb (fun y hy => (h.fb y hy).1) t ht
  have h2 : key x.v = ma := RF.mem (key := key) (q := fun z => z = ma) h.ra (fun y hy => (h.fa y hy).1) x hx
  omega
theorem Two.pos {key : El → Int} {w : World} {B : Nat → Prop} {xa : List Rec} {FA : List (Tr El)} {ga oa ca : Nat} {xb : List Rec} {FB : List (Tr El)} {gb ob cb : Nat} {ma mb : Int} (h : Two key w B xa FA ga oa ca xb FB gb ob cb ma mb) : 0 < xa.length ∧ 0 < xb.length :=
  ⟨by rw [h.ra.len]; exact List.length_pos_iff.2 h.na, by rw [h.rb.len]; exact List.length_pos_iff.2 h.nb⟩
set_option maxRecDepth 100000 in
set_option maxHeartbeats 1000000 in
theorem join_gt {nb : NB} {key : El → Int} (hB : Bf nb key) {q : Nat} {w : World} {B : Nat → Prop} {xa : List Rec} {FA : List (Tr El)} {ga oa ca : Nat} {xb : List Rec} {FB : List (Tr El)} {gb ob cb : Nat} {ma mb : Int} (h : Two key w B xa FA ga oa ca xb FB gb ob cb ma mb) (hq : w.cell? ⟨q, 0, none⟩ = some (fnV nb)) (nqb : q ≠ gb) (hlt : mb < ma) :
    Calls Tryz.prog 67 #[qp q, slv ga oa xa.length ca, slv gb ob xb.length cb] w (JP w B (onL FA FB) ga oa ca (xa.length + xb.length) (SJ ga oa gb ob xa.length xb.length)) := by
  obtain ⟨pa, pb⟩ := h.pos
  have hC := hidP (unheld_no hB w hq h.a (by have := h.la; omega) pa h.b (by have := h.lb; omega) (h.no (by omega)))
  have hgaw := h.a.rm.lt
  have hfin : Hid (∀ V, Below w.heap.size w V → Calls Tryz.prog 84 #[qp q, slv ga oa xa.length ca, slv gb ob xb.length cb] V fun e V2 => e = .returned (slv ga oa 0 ca) ∧ ∃ g' o' c' V3, (Builtin.append_ #[114, 114] 114 #[slv ga oa 0 ca, slv gb ob xb.length cb]).run Tryz.prog V2 = .ok (slv g' o' xb.length c') V3 ∧ JP w B (onL FA FB) ga oa ca (xa.length + xb.length) (SJ ga oa gb ob xa.length xb.length) (.returned (slv g' o' xb.length c')) V3) := fun V hb => by
    have h1 := h.below hb
    obtain ⟨yb, x, YB, y, e0, e00, hyb, e1, e2, hY⟩ := h1.swap.yes hlt
    have hxl : xb.length = yb.length + 1 := by rw [e00]; simp
    have hU := unheld_yes hB hY (bcell hb (cell_lt hq) hq) nqb pa
    rw [← hxl] at hU
    refine hU.mono ?_
    rintro e V2 ⟨rfl, p, B', hu⟩
    refine ⟨rfl, ?_⟩
    have hB'a : ∀ b, B' b → b ≠ ga := fun b hb' => by
      rcases hu.gr b hb' with s | s
      · exact h.nga b s
      · have := hb.size; omega
    have hrf := hu.rf hyb e1 e2 h.ngb h.nga
    rw [← e0] at hrf
    obtain ⟨g', o', c', V3, hrun, hrs, hr3, hc3, hat⟩ := app_any (xs := []) (ys := yb ++ [⟨x.v, x.t, p⟩]) (cb := cb) (ga := ga) (oa := oa) (ca := ca) ⟨Nat.zero_le _, h1.a.rm.cv hu.cv, RA.nil _ _ _⟩ hu.rs.ra hrf hB'a (by simp) (by have := h.lb; simp; omega)
    have hl2 : (yb ++ [(⟨x.v, x.t, p⟩ : Rec)]).length = xb.length := by rw [hxl]; simp
    rw [hl2] at hrun hc3 hat
    rw [List.length_nil, Nat.zero_add] at hrun hat
    rw [List.length_nil] at hc3
    refine ⟨g', o', c', V3, hrun, g', o', c', _, B', by rw [List.nil_append, hl2], hrs, hr3, hu.up, fun b hb' => (hu.gr b hb').imp id (fun s => Nat.le_trans hb.size s), fun b hb' => Nat.lt_of_lt_of_le (hu.lo b hb') hc3.size, ?_, ?_⟩
    · refine ((Cv.below (S := SJ ga oa gb ob xa.length xb.length) hb).trans hu.cv (fun k j s => .inl ?_)).trans hc3 (fun k j s => .inl (.inl ⟨s.1, by omega, by omega⟩))
      rcases s with s | s
      · exact .inr ⟨s.1, by omega, by omega⟩
      · exact .inl ⟨s.1, s.2.1, by omega⟩
    · rcases hat with s | s
      · exact .inl s
      · have := hu.cv.size
        have := hb.size
        exact .inr ⟨by omega, by omega, fun hb' => by have := hu.lo _ hb'; omega⟩
  obtain ⟨na, hna⟩ : ∃ n, xa.length = n := ⟨_, rfl⟩
  obtain ⟨n, hn⟩ : ∃ n, xb.length = n := ⟨_, rfl⟩
  rw [hna] at hfin ⊢
  rw [hn] at hC hfin ⊢
  rw [hna] at hC
  clear h hB hq hna hn pa pb hgaw
  unfold qp slv at *
  go_enter Tryz.func67, Tryz.ntmps67
  go_wp2_with fail
  refine hC.out.mono ?_
  rintro e V ⟨rfl, hb⟩
  have hU := hidP (hfin.out V hb)
  clear hC hfin hb
  go_wp2_with fail
  refine hU.out.mono ?_
  rintro e V2 ⟨rfl, g', o', c', V3, hrun, hj⟩
  have hjH := hidP hj
  clear hU hj
  go_wp2_with (at_builtin; refine wpList_append_run rfl _ _ 114 rfl _ _ _ _ rfl rfl hrun ?_)
  go_ret
  exact hjH.out
set_option maxRecDepth 100000 in
set_option maxHeartbeats 1000000 in
theorem join_eq {nb : NB} {key : El → Int} (hB : Bf nb key) {q : Nat} {w : World} {B : Nat → Prop} {xa : List Rec} {FA : List (Tr El)} {ga oa ca : Nat} {xb : List Rec} {FB : List (Tr El)} {gb ob cb : Nat} {m : Int} (h : Two key w B xa FA ga oa ca xb FB gb ob cb m m) (hq : w.cell? ⟨q, 0, none⟩ = some (fnV nb)) :
    Calls Tryz.prog 67 #[qp q, slv ga oa xa.length ca, slv gb ob xb.length cb] w (JP w B (FA ++ FB) ga oa ca (xa.length + xb.length) (SJ ga oa gb ob xa.length xb.length)) := by
  obtain ⟨pa, pb⟩ := h.pos
  have hC := hidP (unheld_no hB w hq h.a (by have := h.la; omega) pa h.b (by have := h.lb; omega) (h.no (by omega)))
  have hfin : Hid (∀ V, Below w.heap.size w V → Calls Tryz.prog 84 #[qp q, slv ga oa xa.length ca, slv gb ob xb.length cb] V fun e V2 => e = .returned (slv ga oa xa.length ca) ∧ ∃ g' o' c' V3, (Builtin.append_ #[114, 114] 114 #[slv ga oa xa.length ca, slv gb ob xb.length cb]).run Tryz.prog V2 = .ok (slv g' o' (xa.length + xb.length) c') V3 ∧ JP w B (FA ++ FB) ga oa ca (xa.length + xb.length) (SJ ga oa gb ob xa.length xb.length) (.returned (slv g' o' (xa.length + xb.length) c')) V3) := fun V hb => by
    have h1 := h.below hb
    refine (unheld_no hB V (bcell hb (cell_lt hq) hq) h1.b (by have := h.lb; omega) pb h1.a (by have := h.la; omega) (h1.swap.no (by omega))).mono ?_
    rintro e V2 ⟨rfl, hb2⟩
    refine ⟨rfl, ?_⟩
    have h2 := h1.below hb2
    obtain ⟨g', o', c', V3, hrun, hrs, hr3, hc3, hat⟩ := app_any (cb := cb) h2.a h2.b.ra (RF.app h2.ra h2.rb) h.nga h.la h.lb
    refine ⟨g', o', c', V3, hrun, g', o', c', _, B, by rw [List.length_append], hrs, hr3, fun _ h => h, fun _ h => .inl h, fun b hb' => Nat.lt_of_lt_of_le (h2.lo b hb') hc3.size, ?_, ?_⟩
    · exact ((Cv.below (S := SJ ga oa gb ob xa.length xb.length) hb).trans (T := fun _ _ => False) (Cv.below hb2) (fun k j s => s.elim)).trans hc3 (fun k j s => .inl (.inl ⟨s.1, by omega, by omega⟩))
    · rcases hat with s | s
      · exact .inl s
      · have := hb2.size
        have := hb.size
        exact .inr ⟨by omega, by omega, fun hb' => by have := h2.lo _ hb'; omega⟩
  obtain ⟨na, hna⟩ : ∃ n, xa.length = n := ⟨_, rfl⟩
  obtain ⟨n, hn⟩ : ∃ n, xb.length = n := ⟨_, rfl⟩
  rw [hna] at hfin ⊢
  rw [hn] at hC hfin ⊢
  rw [hna] at hC
  clear h hB hq hna hn pa pb
  unfold qp slv at *
  go_enter Tryz.func67, Tryz.ntmps67
  go_wp2_with fail
  refine hC.out.mono ?_
  rintro e V ⟨rfl, hb⟩
  have hU := hidP (hfin.out V hb)
  clear hC hfin hb
  go_wp2_with fail
  refine hU.out.mono ?_
  rintro e V2 ⟨rfl, g', o', c', V3, hrun, hj⟩
  have hjH := hidP hj
  clear hU hj
  go_wp2_with (at_builtin; refine wpList_append_run rfl _ _ 114 rfl _ _ _ _ rfl rfl hrun ?_)
  go_ret
  exact hjH.out
/-- join of two rows that are not empty. -/
theorem join_any {nb : NB} {key : El → Int} (hB : Bf nb key) {q : Nat} {w : World} {B : Nat → Prop} {xa : List Rec} {FA : List (Tr El)} {ga oa ca : Nat} {xb : List Rec} {FB : List (Tr El)} {gb ob cb : Nat} {ma mb : Int} (h : Two key w B xa FA ga oa ca xb FB gb ob cb ma mb) (hq : w.cell? ⟨q, 0, none⟩ = some (fnV nb)) (nqa : q ≠ ga) (nqb : q ≠ gb) :
    Calls Tryz.prog 67 #[qp q, slv ga oa xa.length ca, slv gb ob xb.length cb] w (JP w B (joinL key FA FB) ga oa ca (xa.length + xb.length) (SJ ga oa gb ob xa.length xb.length)) := by
  unfold joinL
  rw [if_neg h.na, if_neg h.nb, h.fa.keyL h.na, h.fb.keyL h.nb]
  split
  · next e => exact join_lt hB h hq nqa e
  · next e1 =>
    split
    · next e => exact join_gt hB h hq nqb e
    · next e2 =>
      obtain rfl : ma = mb := by omega
      exact join_eq hB h hq
end Go.Proofs.YtdcidlgmnnaahaaGreat.Qd
/- least. -/
namespace Go.Proofs.YtdcidlgmnnaahaaGreat.Qd
open Go.RowKit Go.Shelf Go.Lib
attribute [local go_sem] Oper.semAt_some
/-- What least tells: the row in its place. -/
def LP (w : World) (B : Nat → Prop) (F : List (Tr El)) (g o cap n : Nat) (e : Ending) (V : World) : Prop :=
  ∃ xs' B', e = .returned (slv g o xs'.length cap) ∧ RS V g o cap xs' ∧ RF V B' xs' F ∧ (∀ b, B b → B' b) ∧ Gr B w B' ∧ (∀ b, B' b → b < V.heap.size) ∧ Cv (fun k j => k = g ∧ o ≤ j ∧ j < o + n * 5) w V
/-- A row of trees that least takes. -/
structure Ls (key : El → Int) (w : World) (B : Nat → Prop) (xs : List Rec) (F : List (Tr El)) (g o cap : Nat) : Prop where
  rs : RS w g o cap xs
  rf : RF w B xs F
  up : ∀ x ∈ F, x.k.Up key (key x.v)
  ng : ∀ k, B k → k ≠ g
  lo : ∀ k, B k → k < w.heap.size
  len : xs.length ≤ 400000
theorem Ls.below {key : El → Int} {w V : World} {B : Nat → Prop} {xs : List Rec} {F : List (Tr El)} {g o cap : Nat} (h : Ls key w B xs F g o cap) (b : Below w.heap.size w V) : Ls key V B xs F g o cap :=
  have c := Cv.below (S := fun _ _ => False) b
  ⟨h.rs.cv c (fun _ _ _ h => h), RF.cv c (fun _ h => h) (fun _ _ _ h => h) _ _ h.rf, h.up, h.ng, fun k hk => Nat.lt_of_lt_of_le (h.lo k hk) b.size, h.len⟩
theorem RF.take {w : World} {B : Nat → Prop} : ∀ {xs : List Rec} {ys : List (Tr El)}, RF w B xs ys → ∀ k, RF w B (xs.take k) (ys.take k) ∧ RF w B (xs.drop k) (ys.drop k)
  | [], [], _, k => by simp [RF]
  | _ :: _, _ :: _, h, 0 => ⟨trivial, h⟩
  | _ :: _, _ :: _, h, k + 1 => ⟨⟨h.1, (RF.take h.2 k).1⟩, (RF.take h.2 k).2⟩
  | [], _ :: _, h, _ => h.elim
  | _ :: _, [], h, _ => h.elim
theorem Ls.halves {key : El → Int} {w : World} {B : Nat → Prop} {xs : List Rec} {F : List (Tr El)} {g o cap : Nat} (h : Ls key w B xs F g o cap) {k : Nat} (hk : k ≤ xs.length) : Ls key w B (xs.take k) (F.take k) g o cap ∧ Ls key w B (xs.drop k) (F.drop k) g (o + k * 5) (cap - k) := by
  have hra := h.rs.ra
  rw [← List.take_append_drop k xs] at hra
  obtain ⟨h1, h2⟩ := RA.app.1 hra
  have hl : (xs.take k).length = k := by rw [List.length_take]; omega
  rw [hl] at h2
  have hle := h.rs.le
  have hle2 := h.len
  refine ⟨⟨⟨by rw [hl]; omega, h.rs.rm, h1⟩, (h.rf.take k).1, fun x hx => h.up x (List.mem_of_mem_take hx), h.ng, h.lo, by rw [hl]; omega⟩, ⟨⟨by rw [List.length_drop]; omega, h.rs.rm.sub (by omega), h2⟩, (h.rf.take k).2, fun x hx => h.up x (List.mem_of_mem_drop hx), h.ng, h.lo, by rw [List.length_drop]; omega⟩⟩
set_option maxRecDepth 100000 in
set_option maxHeartbeats 2000000 in
theorem least_small {key : El → Int} {q : Nat} {w : World} {B : Nat → Prop} {xs : List Rec} {F : List (Tr El)} {g o cap : Nat} (h : Ls key w B xs F g o cap) (hl : xs.length < 2) :
    Calls Tryz.prog 104 #[qp q, slv g o xs.length cap] w (LP w B F g o cap xs.length) := by
  have fin : Hid (LP w B F g o cap xs.length (.returned (slv g o xs.length cap)) w) := ⟨xs, B, rfl, h.rs, h.rf, fun _ h => h, fun _ h => .inl h, h.lo, Cv.refl _ _⟩
  clear h
  obtain ⟨n, hn⟩ : ∃ n, xs.length = n := ⟨_, rfl⟩
  rw [hn] at hl fin ⊢
  have hlI : (n : Int) < 2 := by omega
  clear hn
  unfold qp slv at *
  go_enter Tryz.func104, Tryz.ntmps104
  go_wp2_with fail
  go_ret
  exact fin.out
set_option maxRecDepth 100000 in
set_option maxHeartbeats 4000000 in
theorem least_step {nb : NB} {key : El → Int} (hB : Bf nb key) {q : Nat} {N : Nat} (ih : ∀ {w : World} {B : Nat → Prop} {xs : List Rec} {F : List (Tr El)} {g o cap : Nat}, Ls key w B xs F g o cap → xs.length ≤ N + 1 → w.cell? ⟨q, 0, none⟩ = some (fnV nb) → q ≠ g → Calls Tryz.prog 104 #[qp q, slv g o xs.length cap] w (LP w B (leastL key N F) g o cap xs.length))
    {w : World} {B : Nat → Prop} {xs : List Rec} {F : List (Tr El)} {g o cap : Nat} (h : Ls key w B xs F g o cap) (hl : 2 ≤ xs.length) (hN : xs.length ≤ N + 2) (hq : w.cell? ⟨q, 0, none⟩ = some (fnV nb)) (nq : q ≠ g) :
    Calls Tryz.prog 104 #[qp q, slv g o xs.length cap] w (LP w B (joinL key (leastL key N (F.take (F.length / 2))) (leastL key N (F.drop (F.length / 2)))) g o cap xs.length) := by
  obtain ⟨n, hn⟩ : ∃ n, xs.length = n := ⟨_, rfl⟩
  obtain ⟨k, hk⟩ : ∃ k, n / 2 = k := ⟨_, rfl⟩
  have hd : Below w.heap.size w w.drew := (Below.refl _ _).drew
  obtain ⟨la, lb⟩ := (h.below hd).halves (k := k) (by omega)
  have hqd := bcell hd (cell_lt hq) hq
  have hC1 := hidP (ih la (by rw [List.length_take]; omega) hqd nq)
  have hC2 : Hid (∀ (V1 : World) (xs1 : List Rec) (B1 : Nat → Prop), RS V1 g o cap xs1 → RF V1 B1 xs1 (leastL key N (F.take k)) → (∀ b, B b → B1 b) → Gr B w.drew B1 → (∀ b, B1 b → b < V1.heap.size) → Cv (fun k' j => k' = g ∧ o ≤ j ∧ j < o + k * 5) w.drew V1 → Calls Tryz.prog 104 #[qp q, slv g (o + k * 5) (n - k) (cap - k)] V1 (fun e V2 => ∃ xs2 : List Rec, e = .returned (slv g (o + k * 5) xs2.length (cap - k)) ∧ Calls Tryz.prog 67 #[qp q, slv g o xs1.length cap, slv g (o + k * 5) xs2.length (cap - k)] V2 (LP w B (joinL key (leastL key N (F.take k)) (leastL key N (F.drop k))) g o cap n))) := by
    intro V1 xs1 B1 rs1 rf1 up1 gr1 lo1 cv1
    have hl1 : xs1.length ≤ k := by
      rw [rf1.len]
      refine Nat.le_trans (leastL_len _ _ _) ?_
      rw [List.length_take]; omega
    have hgl := lb.rs.rm.lt
    have ng1 : ∀ b, B1 b → b ≠ g := fun b hb => by
      rcases gr1 b hb with s | s
      · exact h.ng b s
      · omega
    have lb1 : Ls key V1 B1 (xs.drop k) (F.drop k) g (o + k * 5) (cap - k) := ⟨lb.rs.cv cv1 (fun j h1 h2 s => by have := s.2.2; omega), RF.cv cv1 up1 (fun b hb j s => h.ng b hb s.1) _ _ lb.rf, lb.up, ng1, lo1, lb.len⟩
    have hq1 : V1.cell? ⟨q, 0, none⟩ = some (fnV nb) := cv1.cell (fun s => nq s.1) hqd
    have hdl : (xs.drop k).length = n - k := by rw [List.length_drop, hn]
    have c2 := ih lb1 (by rw [hdl]; omega) hq1 nq
    rw [hdl] at c2
    refine c2.mono ?_
    rintro e V2 ⟨xs2, B2, rfl, rs2, rf2, up2, gr2, lo2, cv2⟩
    refine ⟨xs2, rfl, ?_⟩
    have hl2 : xs2.length ≤ n - k := by
      rw [rf2.len]
      refine Nat.le_trans (leastL_len _ _ _) ?_
      rw [List.length_drop, ← h.rf.len]; omega
    have ng2 : ∀ b, B2 b → b ≠ g := fun b hb => by
      rcases gr2 b hb with s | s
      · exact ng1 b s
      · have := rs1.rm.lt; omega
    have hFl : F.length = n := by rw [← h.rf.len, hn]
    obtain ⟨ma, fa⟩ := leastL_fl key N (F.take k) (by rw [List.length_take]; omega) (fun x hx => h.up x (List.mem_of_mem_take hx))
    obtain ⟨mb, fb⟩ := leastL_fl key N (F.drop k) (by rw [List.length_drop]; omega) (fun x hx => h.up x (List.mem_of_mem_drop hx))
    have hlen := h.len
    have T : Two key V2 B2 xs1 (leastL key N (F.take k)) g o cap xs2 (leastL key N (F.drop k)) g (o + k * 5) (cap - k) ma mb :=
      ⟨rs1.cv cv2 (fun j h1 h2 s => by have := s.2.1; omega), RF.cv cv2 up2 (fun b hb j s => ng1 b hb s.1) _ _ rf1, fa, leastL_ne _ _ _ (fun e => by have := congrArg List.length e; rw [List.length_take, List.length_nil] at this; omega), rs2, rf2, fb, leastL_ne _ _ _ (fun e => by have := congrArg List.length e; rw [List.length_drop, List.length_nil] at this; omega), ng2, ng2, lo2, fun j h1 h2 s => by have := s.2.2; omega, by omega, by omega⟩
    refine (join_any hB T (cv2.cell (fun s => nq s.1) hq1) nq nq).mono ?_
    rintro e V3 ⟨g', o', c', xs', B', rfl, rs3, rf3, up3, gr3, lo3, cv3, hat⟩
    have hcap := h.rs.le
    have sz1 := cv1.size
    have sz2 := cv2.size
    obtain ⟨rfl, rfl, rfl⟩ : g' = g ∧ o' = o ∧ c' = cap := by
      rcases hat with s | s
      · exact s
      · exact absurd s.1 (by omega)
    refine ⟨xs', B', rfl, rs3, rf3, fun b hb => up3 b (up2 b (up1 b hb)), fun b hb => ?_, lo3, ?_⟩
    · have hw : w.heap.size = w.drew.heap.size := rfl
      rcases gr3 b hb with s | s
      · rcases gr2 b s with s | s
        · exact (gr1 b s).imp id (fun z => by omega)
        · exact .inr (by omega)
      · exact .inr (by omega)
    · refine (((Cv.below hd).trans cv1 (fun k' j s => .inl ⟨s.1, s.2.1, by omega⟩)).trans cv2 (fun k' j s => .inl ⟨s.1, by omega, by omega⟩)).trans cv3 (fun k' j s => .inl ?_)
      rcases s with s | s
      · exact ⟨s.1, s.2.1, by omega⟩
      · exact ⟨s.1, by omega, by omega⟩
  have hFl : F.length / 2 = k := by rw [← h.rf.len, hn, hk]
  rw [hFl, hn]
  have htk : (xs.take k).length = k := by rw [List.length_take]; omega
  rw [htk] at hC1
  have hcap : Hid (n ≤ cap) := by show _ ≤ _; rw [← hn]; exact h.rs.le
  have hlen : n ≤ 400000 := by rw [← hn]; exact h.len
  have hl2 : ¬ (n : Int) < 2 := by omega
  have hkc : ¬ cap = k := by have := hcap.out; omega
  have hkn : k ≤ n := by omega
  have hkcap : k ≤ cap := by have := hcap.out; omega
  have hc0 : ¬ cap = 0 := by have := hcap.out; omega
  have hnc := hcap.out
  have hkI : ((n : Int)).tdiv 2 = (k : Int) := by rw [Int.tdiv_eq_ediv_of_nonneg (by omega)]; omega
  have hkI2 : ((n : Int)) / 2 = (k : Int) := by omega
  clear h hB ih hl hN hq nq hd la lb hqd hFl htk hn hk
  unfold qp slv at *
  go_enter Tryz.func104, Tryz.ntmps104
  go_wp2_with fail
  refine Zs.region (S := fun _ => True) 12 (by kernel_rfl) ?_
  refine Zs.pure (i := 0) (oi := ⟨some 13, _, _, _, _, _⟩) (v := ?v0) rfl (by kernel_rfl) (by kernel_rfl) (by kernel_rfl) (by decide) (fun _ _ _ h => h) (Or.inl ⟨by rfl, ?hy0⟩) trivial ?_
  case hy0 => (intro w hSw; (try dsimp only at hSw); go_simp; try with_reducible rfl)
  simp only [Act.put, List.setIfInBounds_toArray, List.set_cons_zero, List.set_cons_succ]
  refine Zs.pure (i := 1) (oi := ⟨some 14, _, _, _, _, _⟩) (v := ?v1) rfl (by kernel_rfl) (by kernel_rfl) (by kernel_rfl) (by decide) (fun _ _ _ h => h) (Or.inl ⟨by rfl, ?hy1⟩) trivial ?_
  case hy1 => (intro w hSw; (try dsimp only at hSw); go_simp; try with_reducible rfl)
  simp only [Act.put, List.setIfInBounds_toArray, List.set_cons_zero, List.set_cons_succ]
  refine Zs.pure (i := 2) (oi := ⟨some 15, _, _, _, _, _⟩) (v := ?v2) rfl (by kernel_rfl) (by kernel_rfl) (by kernel_rfl) (by decide) (fun _ _ _ h => h) (Or.inl ⟨by rfl, ?hy2⟩) trivial ?_
  case hy2 => (intro w hSw; (try dsimp only at hSw); go_simp; try with_reducible rfl)
  simp only [Act.put, List.setIfInBounds_toArray, List.set_cons_zero, List.set_cons_succ]
  refine Zs.pure (i := 3) (oi := ⟨some 16, _, _, _, _, _⟩) (v := ?v3) rfl (by kernel_rfl) (by kernel_rfl) (by kernel_rfl) (by decide) (fun _ _ _ h => h) (Or.inl ⟨by rfl, ?hy3⟩) trivial ?_
  case hy3 => (intro w hSw; (try dsimp only at hSw); go_simp; try with_reducible rfl)
  simp only [Act.put, List.setIfInBounds_toArray, List.set_cons_zero, List.set_cons_succ]
  refine Zs.pure (i := 4) (oi := ⟨some 17, _, _, _, _, _⟩) (v := .slice (some ⟨g, o, none⟩) k cap) rfl (by kernel_rfl) (by kernel_rfl) (by kernel_rfl) (by decide) (fun _ _ _ h => h) (Or.inl ⟨by rfl, ?hy4⟩) trivial ?_
  case hy4 => (intro w hSw; (try dsimp only at hSw); go_simp; try with_reducible rfl)
  simp only [Act.put, List.setIfInBounds_toArray, List.set_cons_zero, List.set_cons_succ]
  refine Zs.pure (i := 6) (oi := ⟨some 19, _, _, _, _, _⟩) (v := ?v6) rfl (by kernel_rfl) (by kernel_rfl) (by kernel_rfl) (by decide) (fun _ _ _ h => h) (Or.inl ⟨by rfl, ?hy6⟩) trivial ?_
  case hy6 => (intro w hSw; (try dsimp only at hSw); go_simp; try with_reducible rfl)
  simp only [Act.put, List.setIfInBounds_toArray, List.set_cons_zero, List.set_cons_succ]
  refine Zs.pure (i := 7) (oi := ⟨some 20, _, _, _, _, _⟩) (v := ?v7) rfl (by kernel_rfl) (by kernel_rfl) (by kernel_rfl) (by decide) (fun _ _ _ h => h) (Or.inl ⟨by rfl, ?hy7⟩) trivial ?_
  case hy7 => (intro w hSw; (try dsimp only at hSw); go_simp; try with_reducible rfl)
  simp only [Act.put, List.setIfInBounds_toArray, List.set_cons_zero, List.set_cons_succ]
  refine Zs.pure (i := 8) (oi := ⟨some 21, _, _, _, _, _⟩) (v := ?v8) rfl (by kernel_rfl) (by kernel_rfl) (by kernel_rfl) (by decide) (fun _ _ _ h => h) (Or.inl ⟨by rfl, ?hy8⟩) trivial ?_
  case hy8 => (intro w hSw; (try dsimp only at hSw); go_simp; try with_reducible rfl)
  simp only [Act.put, List.setIfInBounds_toArray, List.set_cons_zero, List.set_cons_succ]
  refine Zs.pure (i := 9) (oi := ⟨some 22, _, _, _, _, _⟩) (v := .slice (some ⟨g, o + k * 5, none⟩) (n - k) (cap - k)) rfl (by kernel_rfl) (by kernel_rfl) (by kernel_rfl) (by decide) (fun _ _ _ h => h) (Or.inl ⟨by rfl, ?hy9⟩) trivial ?_
  case hy9 => (intro w hSw; (try dsimp only at hSw); go_simp; try with_reducible rfl)
  simp only [Act.put, List.setIfInBounds_toArray, List.set_cons_zero, List.set_cons_succ]
  refine Zs.one (i := 5) (oi := ⟨some 18, _, _, _, _, _⟩) (by kernel_rfl) rfl (fun K hK => ?_)
  go_simp
  refine hC1.out.mono ?_
  rintro e V1 ⟨xs1, B1, rfl, rs1, rf1, up1, gr1, lo1, cv1⟩
  have hU := hidP (hC2.out V1 xs1 B1 rs1 rf1 up1 gr1 lo1 cv1)
  clear rs1 rf1 up1 gr1 lo1 cv1 hC1 hC2
  go_wp2_with fail
  refine hK.out _ _ (fun _ => trivial) ?_
  clear hK K
  try simp only [Act.put, List.setIfInBounds_toArray, List.set_cons_zero, List.set_cons_succ]
  refine Zs.one (i := 10) (oi := ⟨some 23, _, _, _, _, _⟩) (by kernel_rfl) rfl (fun K hK => ?_)
  go_simp
  refine hU.out.mono ?_
  rintro e V2 ⟨xs2, rfl, hj⟩
  have hjH := hidP hj
  clear hj hU
  go_wp2_with fail
  refine hK.out _ _ (fun _ => trivial) ?_
  clear hK K
  try simp only [Act.put, List.setIfInBounds_toArray, List.set_cons_zero, List.set_cons_succ]
  refine Zs.one (i := 11) (oi := ⟨some 24, _, _, _, _, _⟩) (by kernel_rfl) rfl (fun K hK => ?_)
  go_simp
  refine hjH.out.mono ?_
  rintro e V3 h3
  obtain ⟨xs3, B3, rfl, h3'⟩ := id h3
  have h3H := hidP h3
  clear h3 h3' hjH
  go_wp2_with fail
  refine hK.out _ _ (fun _ => trivial) ?_
  clear hK K
  try simp only [Act.put, List.setIfInBounds_toArray, List.set_cons_zero, List.set_cons_succ]
  refine Zs.one (i := 12) (oi := ⟨some 4, _, _, _, _, _⟩) (by kernel_rfl) rfl (fun K hK => ?_)
  go_simp
  refine hK.out _ _ (fun q => absurd q (by decide)) ?_
  clear hK K
  try simp only [Act.put, List.setIfInBounds_toArray, List.set_cons_zero, List.set_cons_succ]
  refine Zs.done (by kernel_rfl) ?_ _
  go_wp2_with fail
  go_ret
  exact h3H.out
theorem least_any {nb : NB} {key : El → Int} (hB : Bf nb key) {q : Nat} : ∀ (N : Nat) {w : World} {B : Nat → Prop} {xs : List Rec} {F : List (Tr El)} {g o cap : Nat}, Ls key w B xs F g o cap → xs.length ≤ N + 1 → w.cell? ⟨q, 0, none⟩ = some (fnV nb) → q ≠ g → Calls Tryz.prog 104 #[qp q, slv g o xs.length cap] w (LP w B (leastL key N F) g o cap xs.length)
  | 0, _, _, _, _, _, _, _, h, hl, _, _ => least_small h (by omega)
  | N + 1, _, _, xs, F, _, _, _, h, hl, hq, nq => by
    have e := h.rf.len
    unfold leastL
    by_cases h2 : xs.length < 2
    · rw [if_pos (by omega)]
      exact least_small h h2
    · rw [if_neg (by omega)]
      exact least_step hB (fun h hl hq nq => least_any hB N h hl hq nq) h (by omega) (by omega) hq nq
end Go.Proofs.YtdcidlgmnnaahaaGreat.Qd
/- The list of trees as a row; slices.AppendSeq, slices.Collect of it. -/
namespace Go.Proofs.YtdcidlgmnnaahaaGreat.Qd
open Go.RowKit Go.Shelf Go.Lib
attribute [local go_sem] Oper.semAt_some
/-- A list's records, from block to block. -/
def LC (w : World) (B : Nat → Prop) : List Rec → Option Nat → Prop
  | [], p => p = none
  | x :: xs, p => ∃ b pr, p = some b ∧ B b ∧ (w.cell? ⟨b, 0, none⟩ = some (vc0 x.v) ∧ w.cell? ⟨b, 1, none⟩ = some (vc1 x.v) ∧ w.cell? ⟨b, 2, none⟩ = some (vc2 x.v)) ∧ w.cell? ⟨b, 3, none⟩ = some (.int .i64 x.t) ∧ w.cell? ⟨b, 4, none⟩ = some (ptrV x.p) ∧ w.cell? ⟨b, 5, none⟩ = some (ptrV pr) ∧ LC w B xs pr
theorem LC.mv {F : Nat → Prop} {w V : World} {B : Nat → Prop} (m : Mv F w V) (hF : ∀ k, B k → ¬ F k) : ∀ (xs : List Rec) (p : Option Nat), LC w B xs p → LC V B xs p
  | [], _, h => h
  | x :: xs, p, h => by
    obtain ⟨b, pr, rfl, hb, c0, c1, c2, c3, h⟩ := h
    have nb := hF b hb
    exact ⟨b, pr, rfl, hb, ⟨m.cell (a := ⟨b, 0, none⟩) nb c0.1, m.cell (a := ⟨b, 1, none⟩) nb c0.2.1, m.cell (a := ⟨b, 2, none⟩) nb c0.2.2⟩, m.cell (a := ⟨b, 3, none⟩) nb c1, m.cell (a := ⟨b, 4, none⟩) nb c2, m.cell (a := ⟨b, 5, none⟩) nb c3, LC.mv m hF xs pr h⟩
theorem LR.chain {w : World} {B : Nat → Prop} : ∀ (f : Fo El) (p : Option Nat), LR w B f p → ∃ xs, LC w B xs p ∧ RF w B xs f.toL
  | .nil, p, h => ⟨[], h, trivial⟩
  | .cons v t k r, p, h => by
    obtain ⟨b, pk, pr, rfl, hb, c0, c1, c2, c3, hk, hr⟩ := h
    obtain ⟨xs, h1, h2⟩ := LR.chain r pr hr
    exact ⟨⟨v, t, pk⟩ :: xs, ⟨b, pr, rfl, hb, c0, c1, c2, c3, h1⟩, ⟨rfl, rfl, hk⟩, h2⟩
/-- How many blocks follow. -/
def chn (w : World) : Nat → Value → Nat
  | n + 1, .pointer (some a) => match w.cell? ⟨a.block, 5, none⟩ with
    | some v => chn w n v + 1
    | none => 0
  | _, _ => 0
theorem LC.chn {w : World} {B : Nat → Prop} : ∀ (xs : List Rec) (p : Option Nat) (n : Nat), LC w B xs p → xs.length ≤ n → chn w n (ptrV p) = xs.length
  | [], p, n, h, _ => by
    have : p = none := h
    subst this
    cases n <;> rfl
  | x :: xs, p, 0, _, hn => by simp at hn
  | x :: xs, p, n + 1, h, hn => by
    obtain ⟨b, pr, rfl, hb, c0, c1, c2, c3, h⟩ := h
    have := LC.chn xs pr n h (by simpa using hn)
    show (match w.cell? ⟨b, 5, none⟩ with | some v => Qd.chn w n v + 1 | none => 0) = _
    rw [c3]
    show Qd.chn w n (ptrV pr) + 1 = _
    rw [this]; rfl
def encR (x : Rec) : Array Value := #[x.val]
set_option maxRecDepth 100000 in
set_option maxHeartbeats 2000000 in
theorem all_row (xs : List Rec) (p : Option Nat) (bl : Nat) (B E : Nat → Prop) (W : World) (cv : W.cell? ⟨bl, 0, none⟩ = some (ptrV p)) (eb : ¬ E bl) (hx : LC W B xs p) (hE : ∀ k, B k → ¬ E k) (lo : ∀ k, B k → k < W.heap.size) :
    Row Tryz.prog 120 #[.pointer (some ⟨bl, 0, none⟩)] encR xs E W := by
  intro u J Jx E1 V m gr hJ hJx hY h0
  have d1 := m.cell (a := ⟨bl, 0, none⟩) eb cv
  have hxV := LC.mv m hE xs p hx
  have hE1 : Hid (∀ k, B k → ¬ E1 k) := fun k hk => gr.free (lo k hk) (hE k hk)
  have loV : Hid (∀ k, B k → k < V.heap.size) := fun k hk => Nat.lt_of_lt_of_le (lo k hk) m.size
  have hYH := hidP hY
  clear cv hx hY eb hE lo
  refine (callsIn_wide (n := 5)).1 ?_
  refine callsIn_of_wp Tryz.func120 rfl trivial ?_ rfl
  simp only [Tryz.ntmps120, List.size_toArray, List.length_cons, List.length_nil, Nat.reduceAdd, Nat.reduceSub, Array.replicate_succ, Array.replicate_zero, List.push_toArray, List.append_toArray, List.nil_append, List.cons_append]
  gi_wp2
  gi_loopw [3] (fun i wr => ∃ (rest : List Rec) (r : Option Nat) (E2 : Nat → Prop), i = ptrV r ∧ rest.length ≤ xs.length ∧ Hid (LC wr B rest r) ∧ Hid (J rest E2 wr) ∧ Hid (Mv E1 V wr) ∧ Hid (Gr E1 V E2)) (fun i wr => chn wr xs.length i)
  case atStart => exact ⟨xs, p, E1, rfl, Nat.le_refl _, hxV, h0, Mv.refl _ _, Gr.refl _ _⟩
  case round =>
    obtain ⟨rest, r, E2, rfl, hl, hc, hj, hm, hg⟩ := hrel
    cases rest with
    | cons x rest =>
      obtain ⟨b, pr, rfl, hb, c0, c1, c2, c3, hr⟩ := hc.out
      obtain ⟨fn, tmps, assign, body, hy, hR⟩ := hYH.out x rest E2 wr hj.out
      dsimp only [encR, Rec.val] at hy
      have hch : Hid (chn wr xs.length (ptrV (some b)) = rest.length + 1) := hc.out.chn _ _ _ hl
      have hrH := hidP hr
      have hbH := hidP hb
      have c3H := hidP c3
      have hRH := hidP hR
      unfold ptrV
      simp only [Option.map_some]
      clear hr hb c3 hc hR
      gi_wp2
      refine (wide_round' hRH.out).mono ?_
      rintro e W3 ⟨m3, (⟨rfl, E3, g3, hj3⟩ | ⟨rfl, E3, g3, hj3⟩)⟩
      · have nB : ∀ k, B k → ¬ E2 k := fun k hk e => by
          rcases hg.out k e with s | s
          · exact hE1.out k hk s
          · have := loV.out k hk; omega
        have c3' := m3.cell (a := ⟨b, 5, none⟩) (nB b hbH.out) c3H.out
        have hr3 := hidP (LC.mv m3 nB _ _ hrH.out)
        have m3H := hidP m3
        have g3H := hidP g3
        have hj3H := hidP hj3
        clear m3 g3 hj3 c0 c1 c2 hy
        gi_wp2
        refine ⟨⟨rest, pr, E3, rfl, by simp at hl; omega, hr3, hj3H, hm.out.trans hg.out m3H.out, hg.out.trans hm.out.size g3H.out⟩, ?_⟩
        have h1 := hr3.out.chn _ _ xs.length (by simp at hl; omega)
        have h2 := hch.out
        show Qd.chn W3 xs.length (ptrV pr) < Qd.chn wr xs.length (ptrV (some b))
        omega
      · gi_wp2
        refine bodyPost_ret (results_none rfl _ _ _) rfl ?_
        exact ⟨⟨_, rfl⟩, hm.out.trans hg.out m3, .inr ⟨E3, hg.out.trans hm.out.size g3, hj3⟩⟩
    | nil =>
      have hr : r = none := hc.out
      subst hr
      unfold ptrV
      simp only [Option.map_none]
      gi_wp2
      go_end0
      exact ⟨⟨_, rfl⟩, hm.out, .inl ⟨E2, hg.out, hj.out⟩⟩
def nbk : Value → Option Nat
  | .slice (some a) _ _ => some a.block
  | _ => none
/-- A slice of records, nil or not. -/
def SV (w : World) (v : Value) (l : List Rec) : Prop := (v = .slice none 0 0 ∧ l = []) ∨ ∃ g o c, v = slv g o l.length c ∧ RS w g o c l
theorem SV.mv {F : Nat → Prop} {w V : World} {v : Value} {l : List Rec} (h : SV w v l) (m : Mv F w V) (hF : ∀ k, nbk v = some k → ¬ F k) : SV V v l := by
  rcases h with h | ⟨g, o, c, rfl, h⟩
  · exact .inl h
  · have hb := m.block g h.rm.lt (hF g rfl)
    have hc : ∀ j, V.cell? ⟨g, j, none⟩ = w.cell? ⟨g, j, none⟩ := fun j => World.cell?_of_block hb
    have hf : ∀ j, V.frozen? ⟨g, j, none⟩ = w.frozen? ⟨g, j, none⟩ := fun j => by unfold World.frozen?; rw [hb]
    exact .inr ⟨g, o, c, rfl, h.le, ⟨Nat.lt_of_lt_of_le h.rm.lt m.size, h.rm.mx, fun j hj => by rw [hc]; exact h.rm.so j hj, fun j hj => by rw [hf]; exact h.rm.fz j hj⟩, fun j u hj => (hc _).trans (h.ra j u hj)⟩
theorem SV.shape {w : World} {v : Value} {l : List Rec} (h : SV w v l) : ∃ p c, v = .slice p l.length c := by
  rcases h with ⟨rfl, rfl⟩ | ⟨g, o, c, rfl, _⟩
  · exact ⟨none, 0, rfl⟩
  · exact ⟨_, _, rfl⟩
theorem SV.lt {w : World} {v : Value} {l : List Rec} (h : SV w v l) {k : Nat} (hk : nbk v = some k) : k < w.heap.size := by
  rcases h with ⟨rfl, rfl⟩ | ⟨g, o, c, rfl, h⟩
  · cases hk
  · cases hk; exact h.rm.lt
theorem SV.append {w : World} {v : Value} {l : List Rec} (h : SV w v l) {g2 : Nat} {x : Rec} (hx : RA w g2 0 [x]) (hl : l.length ≤ 400000) (c2 : Nat) :
    ∃ v' w', (Builtin.append_ #[114, 114] 114 #[v, slv g2 0 1 c2]).run Tryz.prog w = .ok v' w' ∧ SV w' v' (l ++ [x]) ∧ Mv (fun k => nbk v = some k) w w' ∧ (nbk v' = nbk v ∨ ∃ k, nbk v' = some k ∧ w.heap.size ≤ k) := by
  rcases h with ⟨rfl, rfl⟩ | ⟨g, o, c, rfl, h⟩
  · obtain ⟨g', c', w', hrun, hg, hrs, hb⟩ := app_nil (c2 := c2) hx (by simp) (by simp) 114
    exact ⟨_, w', hrun, .inr ⟨g', 0, c', rfl, hrs⟩, Mv.below hb, .inr ⟨g', rfl, hg⟩⟩
  · by_cases hroom : l.length + 1 ≤ c
    · obtain ⟨V', hrun, hrs, hc⟩ := app_room h (c2 := c2) hx hroom 114
      exact ⟨_, V', hrun, .inr ⟨g, o, c, by rw [List.length_append], hrs⟩, hc.mv.mono (fun k _ s => by obtain ⟨j, e, _⟩ := s; subst e; rfl), .inl rfl⟩
    · obtain ⟨g', c', V', hrun, hg, hrs, hb⟩ := app_grow h (c2 := c2) hx (by simp; omega) (by omega) (by simp) 114
      exact ⟨_, V', hrun, .inr ⟨g', 0, c', by rw [List.length_append], hrs⟩, Mv.below hb, .inr ⟨g', rfl, hg⟩⟩
/-- How far AppendSeq has come. -/
def AI (l0 xs : List Rec) (v0 : Value) (sb : Nat) (w0 : World) (rest : List Rec) (E : Nat → Prop) (W : World) : Prop :=
  ∃ v done, done ++ rest = xs ∧ (∀ k, E k ↔ (k = sb ∨ nbk v = some k)) ∧ Cl sb v W ∧ SV W v (l0 ++ done) ∧ nbk v ≠ some sb ∧ (nbk v = nbk v0 ∨ ∃ k, nbk v = some k ∧ w0.heap.size ≤ k)
theorem AI.ter {l0 xs : List Rec} {v0 : Value} {sb B : Nat} {w0 : World} : Ter B (AI l0 xs v0 sb w0) :=
  ⟨fun s E W V h m => by
    obtain ⟨v, done, h1, h2, h3, h4, h5⟩ := h
    exact ⟨v, done, h1, h2, h3.mv m (fun f => f.1 ((h2 sb).2 (.inl rfl))), h4.mv m (fun k hk f => f.1 ((h2 k).2 (.inr hk))), h5⟩, fun s E W h k hk => by
    obtain ⟨v, done, h1, h2, h3, h4, h5⟩ := h
    rcases (h2 k).1 hk with rfl | hk
    · exact h3.lt
    · exact h4.lt hk⟩
def AX (_ : Code) (_ : Nat → Prop) (_ : World) : Prop := False
theorem AX.ter (B : Nat) : Ter B AX := ⟨fun _ _ _ _ h _ => h.elim, fun _ _ _ h => h.elim⟩
set_option maxRecDepth 100000 in
set_option maxHeartbeats 4000000 in
theorem appendseq_any (l0 xs : List Rec) (v0 : Value) (p : Option Nat) (bl : Nat) (B : Nat → Prop) (w : World) (h0 : SV w v0 l0) (cv : w.cell? ⟨bl, 0, none⟩ = some (ptrV p)) (eb : nbk v0 ≠ some bl) (hx : LC w B xs p) (hE : ∀ k, B k → nbk v0 ≠ some k) (lo : ∀ k, B k → k < w.heap.size) (hl : l0.length + xs.length ≤ 400000) :
    Calls Tryz.prog 119 #[v0, .func (.func 120) #[] #[.pointer (some ⟨bl, 0, none⟩)]] w fun e V => ∃ v, e = .returned v ∧ SV V v (l0 ++ xs) ∧ Mv (fun k => nbk v0 = some k) w V ∧ (nbk v = nbk v0 ∨ ∃ k, nbk v = some k ∧ w.heap.size ≤ k) := by
  obtain ⟨p0, c0, hv0⟩ := h0.shape
  obtain ⟨n0, hn0⟩ : ∃ n0, l0.length = n0 := ⟨_, rfl⟩
  rw [hn0] at hv0
  obtain ⟨n, hn⟩ : ∃ n, w.heap.size = n := ⟨_, rfl⟩
  obtain ⟨W0, hW0⟩ : ∃ W0, w.alloc (.cells #[v0] 114) = W0 := ⟨_, rfl⟩
  have mW : ∀ F, Mv F w W0 := fun F => by rw [← hW0]; exact Mv.alloc _ _ _
  have hs0 : W0.heap.size = n + 1 := by rw [← hW0]; simp [hn]
  have cl0 : Cl n v0 W0 := ⟨by rw [← hW0]; exact cell_at hn rfl, by rw [← hW0]; exact froz_new hn⟩
  have sv0 : SV W0 v0 l0 := h0.mv (mW fun _ => False) (fun _ _ h => h)
  have nv0 : nbk v0 ≠ some n := fun e => by have := h0.lt e; omega
  have hbl : bl < n := by rw [← hn]; exact cell_lt cv
  have row := hidP (all_row xs p bl B (fun k => k = n ∨ nbk v0 = some k) W0 ((mW fun _ => False).cell (a := ⟨bl, 0, none⟩) (fun h => h) cv) (by rintro (e | e); omega; exact eb e) (LC.mv (mW fun _ => False) (fun _ _ h => h) _ _ hx) (fun k hk => by rintro (e | e); (have := lo k hk; omega); exact hE k hk e) (fun k hk => by have := lo k hk; omega))
  have tI : Ter W0.heap.size (AI l0 xs v0 n w) := AI.ter
  have hI : Hid (AI l0 xs v0 n w xs (fun k => k = n ∨ nbk v0 = some k) W0) := ⟨v0, [], rfl, fun _ => Iff.rfl, cl0, by rw [List.append_nil]; exact sv0, nv0, .inl rfl⟩
  have hnH := hidP hn
  have mWH := hidP mW
  have hs0H := hidP hs0
  have hv0H := hidP hv0
  clear h0 cv eb hx hE lo cl0 sv0 mW hs0 hn0 hv0H
  subst hv0
  refine (callsIn_wide (n := 5)).1 ?_
  refine callsIn_of_wp_marks Tryz.func119 rfl trivial ?_ rfl
  simp only [Tryz.ntmps119, List.size_toArray, List.length_cons, List.length_nil, Nat.reduceAdd, Nat.reduceSub, Array.replicate_succ, Array.replicate_zero, List.push_toArray, List.append_toArray, List.nil_append, List.cons_append]
  gi_wp2_with (rw [hW0])
  refine loop_out (gf := 120) (lb := #[.pointer (some ⟨bl, 0, none⟩)]) rfl (enters_of Tryz.func120 (by kernel_rfl) rfl) row.out (fun _ => rfl) (AI l0 xs (.slice p0 n0 c0) n w) AX tI (AX.ter _) hI.out ?round ?done ?stop
  case round =>
    rintro l9 hl9 x rest E2 U hi hm hg hEl hrec
    have hltH : Hid (l9 < U.heap.size) := by obtain ⟨r, hr⟩ := hrec; exact (Array.getElem?_eq_some_iff.1 hr).1
    clear hrec
    simp only [encR, Rec.val]
    gi_wp2_with fail
    refine ⟨⟨Mv.alloc _ _ _, Below.heap_alloc _ _ _ hltH.out⟩, fun U2 tw => ?_⟩
    obtain ⟨hi2, hm2⟩ := tw.go tI hi (Mv.alloc _ _ _) hm (Nat.le_refl _) hl9 hEl
    have bx : ∀ j u, #[vc0 x.v, vc1 x.v, vc2 x.v, Value.int .i64 x.t, ptrV x.p][j]? = some u → U2.cell? ⟨U.heap.size, j, none⟩ = some u := fun j u hj => tw.mv.cell (a := ⟨U.heap.size, j, none⟩) (by have := hltH.out; show ¬ U.heap.size = l9; omega) (cell_at rfl hj)
    have x0 := (⟨bx 0 _ rfl, bx 1 _ rfl, bx 2 _ rfl⟩ : _ ∧ _ ∧ _)
    have x1 := bx 3 _ rfl
    have x2 := bx 4 _ rfl
    have hU2 : Hid (U2.heap.size = U.heap.size + 1) := by show _ = _; have := tw.size; simpa using this
    obtain ⟨v, done, e1, e2, e3, e4, e5, e6⟩ := hi2
    obtain ⟨A, hA⟩ : ∃ A, U2.alloc (.cells #[vc0 x.v, vc1 x.v, vc2 x.v, .int .i64 x.t, ptrV x.p] 122) = A := ⟨_, rfl⟩
    have mA : ∀ F, Mv F U2 A := fun F => by rw [← hA]; exact Mv.alloc _ _ _
    have svA := e4.mv (mA fun _ => False) (fun _ _ h => h)
    have raA : RA A U2.heap.size 0 [x] := by
      intro j u hj
      rw [Nat.zero_add, ← hA]
      refine cell_at rfl ?_
      match j, hj with
      | 0, hj => exact hj
      | 1, hj => exact hj
      | 2, hj => exact hj
      | 3, hj => exact hj
      | 4, hj => exact hj
      | j + 5, hj => simp [flat] at hj
    have hdl : done.length + rest.length + 1 = xs.length := by rw [← e1]; simp; omega
    obtain ⟨v', A2, hrun, sv', m2, at2⟩ := svA.append raA (by rw [List.length_append]; omega) 1
    obtain ⟨A3, hA3⟩ : ∃ A3, A2.setCell ⟨n, 0, none⟩ v' = A3 := ⟨_, rfl⟩
    have n2 : ¬ nbk v = some n := e5
    have cA2 := (e3.mv (mA fun _ => False) (fun h => h)).mv m2 n2
    have clA3 : Cl n v' A3 := by rw [← hA3]; exact cA2.set v'
    have mS : Mv (fun k => k = n) A2 A3 := by rw [← hA3]; exact Mv.set1 (E := fun k => k = n) rfl _
    have szA : A.heap.size = U2.heap.size + 1 := by rw [← hA]; simp
    have hnU : n < U2.heap.size := e3.lt
    have n3 : nbk v' ≠ some n := fun e => by
      rcases at2 with q | ⟨k, q, hk⟩
      · exact e5 (q ▸ e)
      · rw [e] at q; injection q with q; omega
    have fin : Hid (Mv E2 U2 A3 ∧ ∃ E', Gr E2 U2 E' ∧ AI l0 xs (.slice p0 n0 c0) n w rest E' A3) := by
      refine ⟨(((mA E2).trans' (m2.mono fun k _ hk => (e2 k).2 (.inr hk))).trans' (mS.mono fun k _ hk => (e2 k).2 (.inl hk))), fun k => k = n ∨ nbk v' = some k, fun k hk => ?_, v', done ++ [x], by rw [List.append_assoc]; exact e1, fun _ => Iff.rfl, clA3, ?_, n3, ?_⟩
      · rcases hk with hk | hk
        · exact .inl ((e2 k).2 (.inl hk))
        · rcases at2 with q | ⟨k', q, hk'⟩
          · exact .inl ((e2 k).2 (.inr (by rw [← q]; exact hk)))
          · rw [hk] at q; injection q with q; exact .inr (by omega)
      · rw [← List.append_assoc]
        exact sv'.mv mS (fun k hk e => n3 (e ▸ hk))
      · rcases at2 with q | ⟨k', q, hk'⟩
        · rcases e6 with z | ⟨k, z, hk⟩
          · exact .inl (q.trans z)
          · exact .inr ⟨k, q.trans z, hk⟩
        · exact .inr ⟨k', q, by have := hm2.size; have := hnH.out; omega⟩
    obtain ⟨pv, cvv, rfl⟩ := e4.shape
    obtain ⟨pv', cv', rfl⟩ := sv'.shape
    have ec := e3.c
    have ef := cA2.f
    have ec2 := cA2.c
    obtain ⟨nd, hnd⟩ : ∃ nd, (l0 ++ done).length = nd := ⟨_, rfl⟩
    obtain ⟨nd', hnd'⟩ : ∃ nd', (l0 ++ done ++ [x]).length = nd' := ⟨_, rfl⟩
    rw [hnd] at hrun ec ec2
    rw [hnd'] at hrun hA3
    clear sv' m2 at2 e1 e2 e3 e4 e5 e6 n2 clA3 mS n3 svA raA mA hm2 hi hm tw hdl cA2 hnd hnd'
    gi_wp2_with (first | rw [hA] | rw [hA3] | (gi_at_builtin; refine wpListIn_append_run rfl _ _ 114 rfl _ _ _ _ rfl rfl hrun ?_))
    exact fin.out
  case done =>
    rintro D E2 U hD hK hnD hm hg ⟨v, done, e1, e2, e3, e4, e5, e6⟩
    rw [List.append_nil] at e1
    subst e1
    have nvD : ¬ nbk v = some D := fun e => hnD ((e2 D).2 (.inr e))
    have mP : Mv (fun j => j = D) U (U.putObj D (.deferred none)) := Mv.put (E := fun j => j = D) rfl _
    have fin : Hid (∃ v', Ending.returned v = .returned v' ∧ SV (U.putObj D (.deferred none)) v' (l0 ++ done) ∧ Mv (fun k => nbk (.slice p0 n0 c0) = some k) w (U.putObj D (.deferred none)) ∧ (nbk v' = nbk (.slice p0 n0 c0) ∨ ∃ k, nbk v' = some k ∧ w.heap.size ≤ k)) := by
      have s0 := hs0H.out
      refine ⟨v, rfl, e4.mv mP (fun k hk e => nvD (e ▸ hk)), ?_, e6⟩
      refine ((mWH.out (fun k => nbk (.slice p0 n0 c0) = some k)).trans (E' := fun k => k = n ∨ nbk (.slice p0 n0 c0) = some k) (fun k hk => ?_) hm).put_new (by omega) _
      rcases hk with hk | hk
      · exact .inr (by omega)
      · exact .inl hk
    obtain ⟨pv, cvv, rfl⟩ := e4.shape
    have ec := e3.c
    obtain ⟨nd, hnd⟩ : ∃ nd, (l0 ++ done).length = nd := ⟨_, rfl⟩
    rw [hnd] at fin ec
    clear hnd
    have hKH := hidP hK
    clear e2 e3 e4 e5 e6 mP nvD hK hm hg hI row
    gi_wp2_with fail
    refine ⟨by simp, .inl ⟨_, _, rfl, run_takeDeferred hKH.out, ?_⟩⟩
    refine ⟨_, by simp [results, Tryz.results119, go_sem]; rfl, ?_⟩
    exact fin.out
  case stop =>
    intro D c E2 U hD hK hnD hm hg h
    exact h.elim
set_option maxRecDepth 100000 in
set_option maxHeartbeats 1000000 in
theorem collect_any (xs : List Rec) (p : Option Nat) (bl : Nat) (B : Nat → Prop) (w : World) (cv : w.cell? ⟨bl, 0, none⟩ = some (ptrV p)) (hx : LC w B xs p) (lo : ∀ k, B k → k < w.heap.size) (hl : xs.length ≤ 400000) :
    Calls Tryz.prog 107 #[.func (.func 120) #[] #[.pointer (some ⟨bl, 0, none⟩)]] w fun e V => ∃ v, e = .returned v ∧ SV V v xs ∧ Below w.heap.size w V ∧ (∀ k, nbk v = some k → w.heap.size ≤ k) := by
  have hC : Hid (Calls Tryz.prog 119 #[.slice none 0 0, .func (.func 120) #[] #[.pointer (some ⟨bl, 0, none⟩)]] w fun e V => ∃ v, e = .returned v ∧ SV V v xs ∧ Below w.heap.size w V ∧ (∀ k, nbk v = some k → w.heap.size ≤ k)) := by
    refine (appendseq_any [] xs (.slice none 0 0) p bl B w (.inl ⟨rfl, rfl⟩) cv (fun e => by cases e) hx (fun k _ e => by cases e) lo (by simpa using hl)).mono ?_
    rintro e V ⟨v, rfl, h1, h2, h3⟩
    refine ⟨v, rfl, h1, h2.toBelow (Nat.le_refl _) (fun k _ e => by cases e), fun k hk => ?_⟩
    rcases h3 with q | ⟨k', q, hk'⟩
    · rw [hk] at q; cases q
    · rw [hk] at q; injection q with q; omega
  clear cv hx lo
  go_enter Tryz.func107, Tryz.ntmps107
  go_wp2_with fail
  refine hC.out.mono ?_
  rintro e V ⟨v, rfl, hv⟩
  have hvH := hidP hv
  clear hv
  go_wp2_with fail
  go_ret
  exact ⟨v, rfl, hvH.out⟩
set_option maxRecDepth 100000 in
set_option maxHeartbeats 1000000 in
theorem trees_any (xs : List Rec) (p : Option Nat) (B : Nat → Prop) (w : World) (hx : LC w B xs p) (lo : ∀ k, B k → k < w.heap.size) (hl : xs.length ≤ 400000) :
    Calls Tryz.prog 87 #[ptrV p] w fun e V => ∃ v, e = .returned v ∧ SV V v xs ∧ Below w.heap.size w V ∧ (∀ k, nbk v = some k → w.heap.size ≤ k) := by
  have hA : Hid (Calls Tryz.prog 108 #[ptrV p] w fun e V => e = .returned (.func (.func 120) #[] #[.pointer (some ⟨w.heap.size, 0, none⟩)]) ∧ V = w.alloc (.cells #[ptrV p] 120)) := by
    show Calls _ _ _ _ _
    clear hx lo hl
    go_enter Tryz.func108, Tryz.ntmps108
    go_wp2_with fail
    go_ret
    exact ⟨rfl, rfl⟩
  have b0 : Below w.heap.size w (w.alloc (.cells #[ptrV p] 120)) := (Below.refl _ _).alloc (Nat.le_refl _) _
  have hC := hidP (collect_any xs p w.heap.size B (w.alloc (.cells #[ptrV p] 120)) (cell_at rfl rfl) (LC.mv (Mv.alloc (fun _ => False) _ _) (fun _ _ h => h) _ _ hx) (fun k hk => by have := lo k hk; simp; omega) hl)
  have b0H := hidP b0
  clear hx lo b0
  obtain ⟨W0, hW0⟩ : ∃ W0, w.alloc (.cells #[ptrV p] 120) = W0 := ⟨_, rfl⟩
  rw [hW0] at hC b0H hA
  go_enter Tryz.func87, Tryz.ntmps87
  go_wp2_with fail
  refine hA.out.mono ?_
  rintro e V ⟨rfl, rfl⟩
  clear hA
  go_wp2_with fail
  refine hC.out.mono ?_
  rintro e V2 ⟨v, rfl, h1, h2, h3⟩
  have fin := hidP (⟨v, rfl, h1, b0H.out.trans (h2.mono b0H.out.size), fun k hk => Nat.le_trans b0H.out.size (h3 k hk)⟩ : ∃ v', Ending.returned v = .returned v' ∧ SV V2 v' xs ∧ Below w.heap.size w V2 ∧ (∀ k, nbk v' = some k → w.heap.size ≤ k))
  clear h1 h2 h3 hC
  go_wp2_with fail
  go_ret
  exact fin.out
end Go.Proofs.YtdcidlgmnnaahaaGreat.Qd
