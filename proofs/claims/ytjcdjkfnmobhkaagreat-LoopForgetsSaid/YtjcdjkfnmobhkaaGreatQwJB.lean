/- join. -/
import Derived.Test.YtjcdjkfnmobhkaaGreatQwGB
namespace Go.Proofs.YtjcdjkfnmobhkaaGreat.Qw
open Go.RowKit Go.Shelf Go.Lib
attribute [local go_sem] Oper.semAt_some
/-- Two rows of trees, each of one key, none empty. -/
structure Two (key : El → Int) (w : World) (B : Nat → Prop) (xa : List Rec) (FA : List (Tr El)) (ga oa ca : Nat) (xb : List Rec) (FB : List (Tr El)) (gb ob cb : Nat) (ma mb : Int) : Prop where
  a : RS w ga oa ca xa
  ra : RF w B xa FA
  fa : Fl key ma FA
  na : FA ≠ []
  b : RS w gb ob cb xb
  rb : RF w B xb FB
  fb : Fl key mb FB
  nb : FB ≠ []
  nga : ∀ k, B k → k ≠ ga
  ngb : ∀ k, B k → k ≠ gb
  lo : ∀ k, B k → k < w.heap.size
  dj : ∀ j, ob ≤ j → j < ob + xb.length * 8 → ¬ (gb = ga ∧ oa ≤ j ∧ j < oa + xa.length * 8)
  la : xa.length ≤ 400000
  lb : xb.length ≤ 400000
/-- A row of the trees F, where it may lie. -/
def JP (w : World) (B : Nat → Prop) (F : List (Tr El)) (ga oa ca N : Nat) (S : Nat → Nat → Prop) (e : Ending) (V : World) : Prop :=
  ∃ g' o' c' xs' B', e = .returned (slv g' o' xs'.length c') ∧ RS V g' o' c' xs' ∧ RF V B' xs' F ∧ (∀ b, B b → B' b) ∧ Gr B w B' ∧ (∀ b, B' b → b < V.heap.size) ∧ Cv S w V ∧ ((g' = ga ∧ o' = oa ∧ c' = ca) ∨ (ca < N ∧ w.heap.size ≤ g' ∧ ¬ B' g'))
def SJ (ga oa gb ob na nb : Nat) (k j : Nat) : Prop := (k = ga ∧ oa ≤ j ∧ j < oa + (na + nb) * 8) ∨ (k = gb ∧ ob ≤ j ∧ j < ob + nb * 8)
theorem RF.one {w : World} {B : Nat → Prop} {xs : List Rec} {y : Tr El} (h : RF w B xs [y]) : ∃ x, xs = [x] ∧ x.v = y.v ∧ x.t = y.t ∧ LR w B y.k x.p := by
  match xs, h with
  | [x], h => exact ⟨x, rfl, h.1⟩
  | [], h => exact h.elim
  | _ :: _ :: _, h => exact h.2.elim
theorem Two.swap {key : El → Int} {w : World} {B : Nat → Prop} {xa : List Rec} {FA : List (Tr El)} {ga oa ca : Nat} {xb : List Rec} {FB : List (Tr El)} {gb ob cb : Nat} {ma mb : Int} (h : Two key w B xa FA ga oa ca xb FB gb ob cb ma mb) : Two key w B xb FB gb ob cb xa FA ga oa ca mb ma :=
  ⟨h.b, h.rb, h.fb, h.nb, h.a, h.ra, h.fa, h.na, h.ngb, h.nga, h.lo, fun j h1 h2 s => h.dj j s.2.1 s.2.2 ⟨s.1.symm, h1, h2⟩, h.lb, h.la⟩
theorem Two.below {key : El → Int} {w V : World} {B : Nat → Prop} {xa : List Rec} {FA : List (Tr El)} {ga oa ca : Nat} {xb : List Rec} {FB : List (Tr El)} {gb ob cb : Nat} {ma mb : Int} (h : Two key w B xa FA ga oa ca xb FB gb ob cb ma mb) (b : Below w.heap.size w V) : Two key V B xa FA ga oa ca xb FB gb ob cb ma mb :=
  have c := Cv.below (S := fun _ _ => False) b
  ⟨h.a.cv c (fun _ _ _ h => h), RF.cv c (fun _ h => h) (fun _ _ _ h => h) _ _ h.ra, h.fa, h.na, h.b.cv c (fun _ _ _ h => h), RF.cv c (fun _ h => h) (fun _ _ _ h => h) _ _ h.rb, h.fb, h.nb, h.nga, h.ngb, fun k hk => Nat.lt_of_lt_of_le (h.lo k hk) b.size, h.dj, h.la, h.lb⟩
/-- All of b wait behind the last of a. -/
theorem Two.yes {key : El → Int} {w : World} {B : Nat → Prop} {xa : List Rec} {FA : List (Tr El)} {ga oa ca : Nat} {xb : List Rec} {FB : List (Tr El)} {gb ob cb : Nat} {ma mb : Int} (h : Two key w B xa FA ga oa ca xb FB gb ob cb ma mb) (hlt : ma < mb) :
    ∃ ya x YA y, FA = YA ++ [y] ∧ xa = ya ++ [x] ∧ RF w B ya YA ∧ x.v = y.v ∧ x.t = y.t ∧ Yes key w B xb FB ga oa ca ya x y.k gb ob cb := by
  obtain ⟨YA, y, rfl⟩ := snoc_of h.na
  obtain ⟨ya, x1, rfl, h1, h2⟩ := RF.split h.ra
  obtain ⟨x, rfl, e1, e2, hl⟩ := h2.one
  have hx : key x.v = ma := by rw [e1]; exact (h.fa y (by simp)).1
  have hla := h.la
  have hdj := h.dj
  rw [List.length_append, List.length_singleton] at hla hdj
  exact ⟨ya, x, YA, y, rfl, rfl, h1, e1, e2, ⟨h.a, by omega, hl, h.nga, h.ngb, h.lo, h.b, by have := h.lb; omega, h.rb, fun t ht => by
    have : key t.v = mb := RF.mem (key := key) (q := fun z => z = mb) h.rb (fun y hy => (h.fb y hy).1) t ht
    omega, hdj⟩⟩
theorem UY.rf {w V : World} {B B' : Nat → Prop} {T YA : List (Tr El)} {g o cap : Nat} {ya : List Rec} {x : Rec} {y : Tr El} {gt ot nt : Nat} {p : Option Nat} (h : UY w B T g o cap ya x y.k gt ot nt V p B') (hr : RF w B ya YA) (e1 : x.v = y.v) (e2 : x.t = y.t) (ng : ∀ b, B b → b ≠ g) (nt' : ∀ b, B b → b ≠ gt) : RF V B' (ya ++ [⟨x.v, x.t, p⟩]) (onL T (YA ++ [y])) := by
  rw [onL_snoc]
  refine RF.app (RF.cv h.cv h.up (fun b hb j s => ?_) _ _ hr) ⟨⟨e1, e2, h.lr⟩, trivial⟩
  rcases s with s | s
  · exact ng b hb s.1
  · exact nt' b hb s.1
set_option maxRecDepth 100000 in
set_option maxHeartbeats 1000000 in
theorem join_lt {nb : NB} {key : El → Int} (hB : Bf nb key) {q : Nat} {w : World} {B : Nat → Prop} {xa : List Rec} {FA : List (Tr El)} {ga oa ca : Nat} {xb : List Rec} {FB : List (Tr El)} {gb ob cb : Nat} {ma mb : Int} (h : Two key w B xa FA ga oa ca xb FB gb ob cb ma mb) (hq : w.cell? ⟨q, 0, none⟩ = some (fnV nb)) (nq : q ≠ ga) (hlt : ma < mb) :
    Calls Tryz.prog 49 #[qp q, slv ga oa xa.length ca, slv gb ob xb.length cb] w (JP w B (onL FB FA) ga oa ca (xa.length + xb.length) (SJ ga oa gb ob xa.length xb.length)) := by
  obtain ⟨ya, x, YA, y, rfl, rfl, hya, e1, e2, hY⟩ := h.yes hlt
  have hbl : 0 < xb.length := by rw [h.rb.len]; exact List.length_pos_iff.2 h.nb
  have hC := hidP (unheld_yes hB hY hq nq hbl)
  have hlen : (ya ++ [x]).length = ya.length + 1 := by simp
  have hfin : Hid (∀ V V2 p B', UY w B FB ga oa ca ya x y.k gb ob xb.length V p B' → Below V.heap.size V V2 → JP w B (onL FB (YA ++ [y])) ga oa ca (ya.length + 1 + xb.length) (SJ ga oa gb ob (ya.length + 1) xb.length) (.returned (slv ga oa (ya.length + 1) ca)) V2 ∧ (Builtin.append_ #[68, 68] 68 #[slv ga oa (ya.length + 1) ca, slv gb ob 0 cb]).run Tryz.prog V2 = .ok (slv ga oa (ya.length + 1) ca) V2) := fun V V2 p B' hu hb => by
    have c := Cv.below (S := fun _ _ => False) hb
    have hrs := hu.rs.cv c (fun _ _ _ h => h)
    have hap := app_none hrs (some ⟨gb, ob, none⟩) cb 68
    rw [List.length_append, List.length_singleton] at hap
    refine ⟨⟨ga, oa, ca, _, B', by simp, hrs, RF.cv c (fun _ h => h) (fun _ _ _ h => h) _ _ (hu.rf hya e1 e2 h.nga h.ngb), hu.up, hu.gr, fun b hb' => Nat.lt_of_lt_of_le (hu.lo b hb') hb.size, ?_, .inl ⟨rfl, rfl, rfl⟩⟩, hap⟩
    refine (hu.cv.mono (T := SJ ga oa gb ob (ya.length + 1) xb.length) (fun k j _ s => ?_)).trans c (fun _ _ s => s.elim)
    rcases s with s | s
    · exact .inl ⟨s.1, by omega, by omega⟩
    · exact .inr s
  rw [hlen]
  clear h hB hY hya hq hlen
  obtain ⟨n, hn⟩ : ∃ n, ya.length + 1 = n := ⟨_, rfl⟩
  rw [hn] at hC hfin ⊢
  clear hn
  have hE := hidP (fun V2 => unheld_empty q (some ⟨ga, oa, none⟩) (some ⟨gb, ob, none⟩) n ca cb V2)
  unfold qp slv at *
  go_enter Tryz.func49, Tryz.ntmps49
  go_wp2_with fail
  refine hC.out.mono ?_
  rintro e V ⟨rfl, p, B', hu⟩
  have huH := hidP hu
  clear hu hC
  go_wp2_with fail
  refine (hE.out V).mono ?_
  rintro e V2 ⟨rfl, hb⟩
  obtain ⟨hj, hrun⟩ := hfin.out V V2 p B' huH.out hb
  have hjH := hidP hj
  clear hb hE hfin huH hj
  go_wp2_with (at_builtin; refine wpList_append_run rfl _ _ 68 rfl _ _ _ _ rfl rfl hrun ?_)
  go_ret
  exact hjH.out
theorem app_any {V : World} {B' : Nat → Prop} {ga oa ca gb ob cb : Nat} {xs ys : List Rec} {F : List (Tr El)} (ha : RS V ga oa ca xs) (hy : RA V gb ob ys) (hr : RF V B' (xs ++ ys) F) (ng : ∀ b, B' b → b ≠ ga) (hl : xs.length ≤ 400000) (hl2 : ys.length ≤ 400000) :
    ∃ g' o' c' V', (Builtin.append_ #[68, 68] 68 #[slv ga oa xs.length ca, slv gb ob ys.length cb]).run Tryz.prog V = .ok (slv g' o' (xs.length + ys.length) c') V' ∧ RS V' g' o' c' (xs ++ ys) ∧ RF V' B' (xs ++ ys) F ∧ Cv (fun k j => k = ga ∧ oa + xs.length * 8 ≤ j ∧ j < oa + (xs.length + ys.length) * 8) V V' ∧ ((g' = ga ∧ o' = oa ∧ c' = ca) ∨ (ca < xs.length + ys.length ∧ V.heap.size ≤ g')) := by
  by_cases hroom : xs.length + ys.length ≤ ca
  · obtain ⟨V', hrun, hrs, hc⟩ := app_room ha (c2 := cb) hy hroom 68
    exact ⟨ga, oa, ca, V', hrun, hrs, RF.cv hc (fun _ h => h) (fun b hb j s => ng b hb s.1) _ _ hr, hc, .inl ⟨rfl, rfl, rfl⟩⟩
  · obtain ⟨g', c', V', hrun, hg, hrs, hb⟩ := app_grow ha (c2 := cb) hy (by omega) (by omega) (by omega) 68
    exact ⟨g', 0, c', V', hrun, hrs, RF.cv (S := fun _ _ => False) (Cv.below hb) (fun _ h => h) (fun _ _ _ h => h) _ _ hr, Cv.below hb, .inr ⟨by omega, hg⟩⟩
theorem Two.no {key : El → Int} {w : World} {B : Nat → Prop} {xa : List Rec} {FA : List (Tr El)} {ga oa ca : Nat} {xb : List Rec} {FB : List (Tr El)} {gb ob cb : Nat} {ma mb : Int} (h : Two key w B xa FA ga oa ca xb FB gb ob cb ma mb) (hlt : mb ≤ ma) : ∀ t ∈ xb, ∀ x ∈ xa, ¬ key x.v < key t.v := fun t ht x hx => by
  have h1 : key t.v = mb := RF.mem (key := key) (q := fun z => z = mb) h.rb (fun y hy => (h.fb y hy).1) t ht
  have h2 : key x.v = ma := RF.mem (key := key) (q := fun z => z = ma) h.ra (fun y hy => (h.fa y hy).1) x hx
  omega
theorem Two.pos {key : El → Int} {w : World} {B : Nat → Prop} {xa : List Rec} {FA : List (Tr El)} {ga oa ca : Nat} {xb : List Rec} {FB : List (Tr El)} {gb ob cb : Nat} {ma mb : Int} (h : Two key w B xa FA ga oa ca xb FB gb ob cb ma mb) : 0 < xa.length ∧ 0 < xb.length :=
  ⟨by rw [h.ra.len]; exact List.length_pos_iff.2 h.na, by rw [h.rb.len]; exact List.length_pos_iff.2 h.nb⟩
set_option maxRecDepth 100000 in
set_option maxHeartbeats 1000000 in
theorem join_gt {nb : NB} {key : El → Int} (hB : Bf nb key) {q : Nat} {w : World} {B : Nat → Prop} {xa : List Rec} {FA : List (Tr El)} {ga oa ca : Nat} {xb : List Rec} {FB : List (Tr El)} {gb ob cb : Nat} {ma mb : Int} (h : Two key w B xa FA ga oa ca xb FB gb ob cb ma mb) (hq : w.cell? ⟨q, 0, none⟩ = some (fnV nb)) (nqb : q ≠ gb) (hlt : mb < ma) :
    Calls Tryz.prog 49 #[qp q, slv ga oa xa.length ca, slv gb ob xb.length cb] w (JP w B (onL FA FB) ga oa ca (xa.length + xb.length) (SJ ga oa gb ob xa.length xb.length)) := by
  obtain ⟨pa, pb⟩ := h.pos
  have hC := hidP (unheld_no hB w hq h.a (by have := h.la; omega) pa h.b (by have := h.lb; omega) (h.no (by omega)))
  have hgaw := h.a.rm.lt
  have hfin : Hid (∀ V, Below w.heap.size w V → Calls Tryz.prog 63 #[qp q, slv ga oa xa.length ca, slv gb ob xb.length cb] V fun e V2 => e = .returned (slv ga oa 0 ca) ∧ ∃ g' o' c' V3, (Builtin.append_ #[68, 68] 68 #[slv ga oa 0 ca, slv gb ob xb.length cb]).run Tryz.prog V2 = .ok (slv g' o' xb.length c') V3 ∧ JP w B (onL FA FB) ga oa ca (xa.length + xb.length) (SJ ga oa gb ob xa.length xb.length) (.returned (slv g' o' xb.length c')) V3) := fun V hb => by
    have h1 := h.below hb
    obtain ⟨yb, x, YB, y, e0, e00, hyb, e1, e2, hY⟩ := h1.swap.yes hlt
    have hxl : xb.length = yb.length + 1 := by rw [e00]; simp
    have hU := unheld_yes hB hY (bcell hb (cell_lt hq) hq) nqb pa
    rw [← hxl] at hU
    refine hU.mono ?_
    rintro e V2 ⟨rfl, p, B', hu⟩
    refine ⟨rfl, ?_⟩
    have hB'a : ∀ b, B' b → b ≠ ga := fun b hb' => by
      rcases hu.gr b hb' with s | s
      · exact h.nga b s
      · have := hb.size; omega
    have hrf := hu.rf hyb e1 e2 h.ngb h.nga
    rw [← e0] at hrf
    obtain ⟨g', o', c', V3, hrun, hrs, hr3, hc3, hat⟩ := app_any (xs := []) (ys := yb ++ [⟨x.v, x.t, p⟩]) (cb := cb) (ga := ga) (oa := oa) (ca := ca) ⟨Nat.zero_le _, h1.a.rm.cv hu.cv, RA.nil _ _ _⟩ hu.rs.ra hrf hB'a (by simp) (by have := h.lb; simp; omega)
    have hl2 : (yb ++ [(⟨x.v, x.t, p⟩ : Rec)]).length = xb.length := by rw [hxl]; simp
    rw [hl2] at hrun hc3 hat
    rw [List.length_nil, Nat.zero_add] at hrun hat
    rw [List.length_nil] at hc3
    refine ⟨g', o', c', V3, hrun, g', o', c', _, B', by rw [List.nil_append, hl2], hrs, hr3, hu.up, fun b hb' => (hu.gr b hb').imp id (fun s => Nat.le_trans hb.size s), fun b hb' => Nat.lt_of_lt_of_le (hu.lo b hb') hc3.size, ?_, ?_⟩
    · refine ((Cv.below (S := SJ ga oa gb ob xa.length xb.length) hb).trans hu.cv (fun k j s => .inl ?_)).trans hc3 (fun k j s => .inl (.inl ⟨s.1, by omega, by omega⟩))
      rcases s with s | s
      · exact .inr ⟨s.1, by omega, by omega⟩
      · exact .inl ⟨s.1, s.2.1, by omega⟩
    · rcases hat with s | s
      · exact .inl s
      · have := hu.cv.size
        have := hb.size
        exact .inr ⟨by omega, by omega, fun hb' => by have := hu.lo _ hb'; omega⟩
  obtain ⟨na, hna⟩ : ∃ n, xa.length = n := ⟨_, rfl⟩
  obtain ⟨n, hn⟩ : ∃ n, xb.length = n := ⟨_, rfl⟩
  rw [hna] at hfin ⊢
  rw [hn] at hC hfin ⊢
  rw [hna] at hC
  clear h hB hq hna hn pa pb hgaw
  unfold qp slv at *
  go_enter Tryz.func49, Tryz.ntmps49
  go_wp2_with fail
  refine hC.out.mono ?_
  rintro e V ⟨rfl, hb⟩
  have hU := hidP (hfin.out V hb)
  clear hC hfin hb
  go_wp2_with fail
  refine hU.out.mono ?_
  rintro e V2 ⟨rfl, g', o', c', V3, hrun, hj⟩
  have hjH := hidP hj
  clear hU hj
  go_wp2_with (at_builtin; refine wpList_append_run rfl _ _ 68 rfl _ _ _ _ rfl rfl hrun ?_)
  go_ret
  exact hjH.out
set_option maxRecDepth 100000 in
set_option maxHeartbeats 1000000 in
theorem join_eq {nb : NB} {key : El → Int} (hB : Bf nb key) {q : Nat} {w : World} {B : Nat → Prop} {xa : List Rec} {FA : List (Tr El)} {ga oa ca : Nat} {xb : List Rec} {FB : List (Tr El)} {gb ob cb : Nat} {m : Int} (h : Two key w B xa FA ga oa ca xb FB gb ob cb m m) (hq : w.cell? ⟨q, 0, none⟩ = some (fnV nb)) :
    Calls Tryz.prog 49 #[qp q, slv ga oa xa.length ca, slv gb ob xb.length cb] w (JP w B (FA ++ FB) ga oa ca (xa.length + xb.length) (SJ ga oa gb ob xa.length xb.length)) := by
  obtain ⟨pa, pb⟩ := h.pos
  have hC := hidP (unheld_no hB w hq h.a (by have := h.la; omega) pa h.b (by have := h.lb; omega) (h.no (by omega)))
  have hfin : Hid (∀ V, Below w.heap.size w V → Calls Tryz.prog 63 #[qp q, slv ga oa xa.length ca, slv gb ob xb.length cb] V fun e V2 => e = .returned (slv ga oa xa.length ca) ∧ ∃ g' o' c' V3, (Builtin.append_ #[68, 68] 68 #[slv ga oa xa.length ca, slv gb ob xb.length cb]).run Tryz.prog V2 = .ok (slv g' o' (xa.length + xb.length) c') V3 ∧ JP w B (FA ++ FB) ga oa ca (xa.length + xb.length) (SJ ga oa gb ob xa.length xb.length) (.returned (slv g' o' (xa.length + xb.length) c')) V3) := fun V hb => by
    have h1 := h.below hb
    refine (unheld_no hB V (bcell hb (cell_lt hq) hq) h1.b (by have := h.lb; omega) pb h1.a (by have := h.la; omega) (h1.swap.no (by omega))).mono ?_
    rintro e V2 ⟨rfl, hb2⟩
    refine ⟨rfl, ?_⟩
    have h2 := h1.below hb2
    obtain ⟨g', o', c', V3, hrun, hrs, hr3, hc3, hat⟩ := app_any (cb := cb) h2.a h2.b.ra (RF.app h2.ra h2.rb) h.nga h.la h.lb
    refine ⟨g', o', c', V3, hrun, g', o', c', _, B, by rw [List.length_append], hrs, hr3, fun _ h => h, fun _ h => .inl h, fun b hb' => Nat.lt_of_lt_of_le (h2.lo b hb') hc3.size, ?_, ?_⟩
    · exact ((Cv.below (S := SJ ga oa gb ob xa.length xb.length) hb).trans (T := fun _ _ => False) (Cv.below hb2) (fun k j s => s.elim)).trans hc3 (fun k j s => .inl (.inl ⟨s.1, by omega, by omega⟩))
    · rcases hat with s | s
      · exact .inl s
      · have := hb2.size
        have := hb.size
        exact .inr ⟨by omega, by omega, fun hb' => by have := h2.lo _ hb'; omega⟩
  obtain ⟨na, hna⟩ : ∃ n, xa.length = n := ⟨_, rfl⟩
  obtain ⟨n, hn⟩ : ∃ n, xb.length = n := ⟨_, rfl⟩
  rw [hna] at hfin ⊢
  rw [hn] at hC hfin ⊢
  rw [hna] at hC
  clear h hB hq hna hn pa pb
  unfold qp slv at *
  go_enter Tryz.func49, Tryz.ntmps49
  go_wp2_with fail
  refine hC.out.mono ?_
  rintro e V ⟨rfl, hb⟩
  have hU := hidP (hfin.out V hb)
  clear hC hfin hb
  go_wp2_with fail
  refine hU.out.mono ?_
  rintro e V2 ⟨rfl, g', o', c', V3, hrun, hj⟩
  have hjH := hidP hj
  clear hU hj
  go_wp2_with (at_builtin; refine wpList_append_run rfl _ _ 68 rfl _ _ _ _ rfl rfl hrun ?_)
  go_ret
  exact hjH.out
/-- join of two rows that are not empty. -/
theorem join_any {nb : NB} {key : El → Int} (hB : Bf nb key) {q : Nat} {w : World} {B : Nat → Prop} {xa : List Rec} {FA : List (Tr El)} {ga oa ca : Nat} {xb : List Rec} {FB : List (Tr El)} {gb ob cb : Nat} {ma mb : Int} (h : Two key w B xa FA ga oa ca xb FB gb ob cb ma mb) (hq : w.cell? ⟨q, 0, none⟩ = some (fnV nb)) (nqa : q ≠ ga) (nqb : q ≠ gb) :
    Calls Tryz.prog 49 #[qp q, slv ga oa xa.length ca, slv gb ob xb.length cb] w (JP w B (joinL key FA FB) ga oa ca (xa.length + xb.length) (SJ ga oa gb ob xa.length xb.length)) := by
  unfold joinL
  rw [if_neg h.na, if_neg h.nb, h.fa.keyL h.na, h.fb.keyL h.nb]
  split
  · next e => exact join_lt hB h hq nqa e
  · next e1 =>
    split
    · next e => exact join_gt hB h hq nqb e
    · next e2 =>
      obtain rfl : ma = mb := by omega
      exact join_eq hB h hq
end Go.Proofs.YtjcdjkfnmobhkaaGreat.Qw
