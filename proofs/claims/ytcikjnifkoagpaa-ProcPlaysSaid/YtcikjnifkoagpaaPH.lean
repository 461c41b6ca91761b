/- The contract of package proc's Exit. -/
import Derived.Test.YtcikjnifkoagpaaPG
import Derived.Test.YtcikjnifkoagpaaRR
namespace Go.Proofs.Ytcikjnifkoagpaa
open Go.RowKit Go.Shelf
attribute [local go_sem] Oper.semAt_some
def orph (k : Int) (q : Pr) : Pr := if q.par = k then { q with par := 1 } else q
def wiP (s : Int) : Int := if s < -64 ∨ 255 < s then 255 else s
def exL (l : Ps) (k s : Int) : Ps := if livP l k = true then (rep l { (lk l k).getD zPr with zom := true, st := wiP s }).map (orph k) else l
def exE (l : Ps) (k : Int) : Int := if livP l k = true then 0 else 80
theorem orph_pid (k : Int) (q : Pr) : (orph k q).pid = q.pid := by unfold orph; split <;> rfl
theorem srt_pids {l l' : Ps} (h : l'.map (·.pid) = l.map (·.pid)) (hs : Srt l) : Srt l' := by
  have h1 : (l.map (·.pid)).Pairwise (· < ·) := List.pairwise_map.2 hs
  rw [← h] at h1
  exact List.pairwise_map.1 h1
theorem rep_pids (l : Ps) (p : Pr) : (rep l p).map (·.pid) = l.map (·.pid) := by
  unfold rep
  rw [List.map_map]
  refine List.map_congr_left (fun q _ => ?_)
  simp only [Function.comp]
  split
  · rename_i h; exact h.symm
  · rfl
theorem lk_of_mem {l : Ps} (hs : Srt l) {p : Pr} (h : p ∈ l) : lk l p.pid = some p := by
  obtain ⟨j, hj⟩ := List.mem_iff_getElem?.1 h
  exact lk_at hs hj
theorem rep_at {a b : Ps} {x x' : Pr} (hs : Srt (a ++ x :: b)) (hx : x'.pid = x.pid) : rep (a ++ x :: b) x' = a ++ x' :: b := by
  obtain ⟨h1, h2, h3⟩ := List.pairwise_append.1 hs
  obtain ⟨h4, h5⟩ := List.pairwise_cons.1 h2
  have ea : rep a x' = a := rep_none (fun q hq => by have := h3 q hq x (by simp); omega)
  have eb : rep b x' = b := rep_none (fun q hq => by have := h4 q hq; omega)
  unfold rep at ea eb ⊢
  rw [List.map_append, List.map_cons, ea, eb, if_pos hx.symm]
/-- The loop's state: what is left, what is done. -/
structure Ex (bt bm b3 : Nat) (room last k : Int) (l1 : Ps) (s : Ps) (E : Nat → Prop) (W : World) : Prop where
  st : ∃ pre suf, l1 = pre ++ suf ∧ (s = suf ∨ (pre = [] ∧ s = one :: suf)) ∧ Tb W bt bm room last (pre.map (orph k) ++ suf)
  ter : ∀ j, E j ↔ j = bm
  c3 : W.cell? ⟨b3, 0, none⟩ = some (.pointer (some ⟨bt, 0, none⟩))
theorem Ex.keep {bt bm b3 : Nat} {room last k : Int} {l1 s : Ps} {E : Nat → Prop} {W V : World} {B : Nat} (h : Ex bt bm b3 room last k l1 s E W) (hB : bt < B ∧ bm < B ∧ b3 < B) (m : Mv (fun j => ¬ E j ∧ B ≤ j) W V) : Ex bt bm b3 room last k l1 s E V := by
  obtain ⟨pre, suf, h1, h2, h3⟩ := h.st
  exact ⟨⟨pre, suf, h1, h2, h3.mv m (fun e => by have := e.2; omega) (fun e => by have := e.2; omega)⟩, h.ter, m.cell (fun e => by have := e.2; simp at this; omega) h.c3⟩
theorem orph_pids (k : Int) (a b : Ps) : (a.map (orph k) ++ b).map (·.pid) = (a ++ b).map (·.pid) := by
  rw [List.map_append, List.map_append, List.map_map]
  congr 1
  exact List.map_congr_left (fun q _ => orph_pid k q)
theorem Ex.left {bt bm b3 : Nat} {room last k : Int} {l1 s : Ps} {E : Nat → Prop} {W : World} (h : Ex bt bm b3 room last k l1 s E W) (hs : Srt l1) : Lf bt bm l1 s W := by
  obtain ⟨pre, suf, h1, h2, h3⟩ := h.st
  have hp : (pre.map (orph k) ++ suf).map (·.pid) = l1.map (·.pid) := by rw [orph_pids, h1]
  have hs' := srt_pids hp hs
  refine ⟨room, last, _, h3, hs', hp, fun p hpm hp1 => ?_⟩
  have hm : p ∈ suf := by
    rcases h2 with rfl | ⟨_, rfl⟩
    · exact hpm
    · rcases List.mem_cons.1 hpm with rfl | h
      · exact absurd rfl hp1
      · exact h
  exact lk_of_mem hs' (List.mem_append_right _ hm)
theorem Ex.skip {bt bm b3 : Nat} {room last k : Int} {l1 rest : Ps} {x : Pr} {E : Nat → Prop} {W : World} (h : Ex bt bm b3 room last k l1 (x :: rest) E W) (hx : notOf k x = true) : Ex bt bm b3 room last k l1 rest E W := by
  obtain ⟨pre, suf, h1, h2, h3⟩ := h.st
  have hne : x.par ≠ k := by simpa [notOf] using hx
  rcases h2 with rfl | ⟨rfl, e⟩
  · refine ⟨⟨pre ++ [x], rest, by rw [h1]; simp, .inl rfl, ?_⟩, h.ter, h.c3⟩
    have : orph k x = x := by unfold orph; rw [if_neg hne]
    simpa [this] using h3
  · cases e
    exact ⟨⟨[], rest, h1, .inl rfl, h3⟩, h.ter, h.c3⟩
set_option maxRecDepth 100000 in
set_option maxHeartbeats 4000000 in
theorem exit_no (bt bm : Nat) (room last : Int) (l : Ps) (k s : Int) (w : World) (h : Tb w bt bm room last l) (h0 : -9223372036854775808 ≤ k) (h1 : k ≤ 9223372036854775807) (hl : livP l k = false) :
    Calls Try.prog 11 #[.pointer (some ⟨bt, 0, none⟩), .int .i64 k, .int .i64 s] w fun e w' => e = .returned (.int .i64 80) ∧ Below w.heap.size w w' := by
  obtain ⟨W, hW⟩ : ∃ W, w.alloc (.cells #[.pointer (some ⟨bt, 0, none⟩)] 24) = W := ⟨_, rfl⟩
  have hb : Below w.heap.size w W := by rw [← hW]; exact (Below.refl _ _).alloc (Nat.le_refl _) _
  have c3 : W.cell? ⟨w.heap.size, 0, none⟩ = some (.pointer (some ⟨bt, 0, none⟩)) := by rw [← hW]; exact cell_at rfl rfl
  have hL := living_any bt bm room last l k W (h.below hb) h0 h1
  rw [hl] at hL
  obtain ⟨q, hq⟩ : ∃ q, (lk l k).getD zPr = q := ⟨_, rfl⟩
  rw [hq] at hL
  obtain ⟨p0, p1, p2, p3, p4, p5, p6, p7⟩ := q
  simp only [psV] at hL
  have hLH := hidP hL
  have hbH := hidP hb
  clear hq hL hb h hl
  refine (callsIn_wide (n := 5)).1 ?_
  refine callsIn_of_wp_marks Try.func11 rfl trivial ?_ rfl
  simp only [Try.ntmps11, List.size_toArray, List.length_cons, List.length_nil, Nat.reduceAdd, Nat.reduceSub, Array.replicate_succ, Array.replicate_zero, List.push_toArray, List.append_toArray, List.nil_append, List.cons_append]
  gi_wp2_with (rw [hW])
  refine ⟨trivial, (callsIn_wide.2 hLH.out).mono ?_⟩
  rintro e w1 ⟨rfl, hb1⟩
  gi_wp2_with fail
  exact ⟨_, results_tmp rfl _ _ _, rfl, (hbH.out.trans (hb1.mono hbH.out.size)).trans ((Below.refl _ _).alloc (Nat.le_trans hbH.out.size hb1.size) _)⟩
set_option maxRecDepth 100000 in
set_option maxHeartbeats 4000000 in
theorem exit_yes (bt bm : Nat) (room last : Int) (l : Ps) (k s : Int) (w : World) (h : Tb w bt bm room last l) (h0 : 2 ≤ k) (h1 : k ≤ 9223372036854775807) (hl : livP l k = true) (hs : Srt l) (hlen : l.length ≤ 150) (hpid : ∀ p ∈ l, 2 ≤ p.pid ∧ p.pid ≤ 9223372036854775807) :
    Calls Try.prog 11 #[.pointer (some ⟨bt, 0, none⟩), .int .i64 k, .int .i64 s] w fun e w' => e = .returned (.int .i64 0) ∧ Tb w' bt bm room last (exL l k s) ∧ Mv (fun k => k = bt ∨ k = bm) w w' := by
  obtain ⟨W, hW⟩ : ∃ W, w.alloc (.cells #[.pointer (some ⟨bt, 0, none⟩)] 24) = W := ⟨_, rfl⟩
  have hb : Below w.heap.size w W := by rw [← hW]; exact (Below.refl _ _).alloc (Nat.le_refl _) _
  have c3 : W.cell? ⟨w.heap.size, 0, none⟩ = some (.pointer (some ⟨bt, 0, none⟩)) := by rw [← hW]; exact cell_at rfl rfl
  have hL := living_any bt bm room last l k W (h.below hb) (by omega) h1
  obtain ⟨p, hp, hpk, hmem, hzf⟩ := liv_some hl
  have hX : Hid (exL l k s = (rep l { p with zom := true, st := wiP s }).map (orph k)) := by
    show _ = _
    unfold exL
    rw [if_pos hl, hp]; rfl
  rw [hl, hp] at hL
  simp only [Option.getD_some] at hL
  have hwi := within_any s
  obtain ⟨s', hs'⟩ : ∃ s', wiP s = s' := ⟨_, rfl⟩
  rw [hs'] at hX
  unfold wiP at hs'
  rw [hs'] at hwi
  obtain ⟨p0, p1, p2, p3, p4, p5, p6, p7⟩ := p
  simp only at hpk hzf hX
  subst hpk
  subst hzf
  obtain ⟨l1, hl1⟩ : ∃ l1, rep l ⟨p0, p1, p2, true, s', p5, p6, p7⟩ = l1 := ⟨_, rfl⟩
  have hput : (Dm l).put (.int .i64 p0) (.held (psV ⟨p0, p1, p2, true, s', p5, p6, p7⟩)) = Dm l1 := by rw [← hl1]; exact put_rep (p := ⟨p0, p1, p2, true, s', p5, p6, p7⟩) hs ⟨_, hmem, rfl⟩
  rw [hl1] at hX
  have hpl1 : l1.map (·.pid) = l.map (·.pid) := by rw [← hl1]; exact rep_pids _ _
  have hs1 : Srt l1 := srt_pids hpl1 hs
  have hlen1 : l1.length ≤ 150 := by have := congrArg List.length hpl1; simp at this; omega
  have hpid1 : ∀ p ∈ l1, 2 ≤ p.pid ∧ p.pid ≤ 9223372036854775807 := fun p hp => by
    have : p.pid ∈ l.map (·.pid) := by rw [← hpl1]; exact List.mem_map_of_mem (f := (·.pid)) hp
    obtain ⟨q, hq, e⟩ := List.mem_map.1 this
    have := hpid q hq
    omega
  have hst : Hid (∀ W, Tb W bt bm room last l → ∃ w', (Instr.mapUpdate 55 (.map (some bm)) (.int .i64 p0) (psV ⟨p0, p1, p2, true, s', p5, p6, p7⟩)).run Try.prog W = .ok () w' ∧ Tb w' bt bm room last l1 ∧ Mv (fun k => k = bm) W w') :=
    fun W hT => hT.store (p := ⟨p0, p1, p2, true, s', p5, p6, p7⟩) (by show _ ≤ p0; omega) h1 hput (by omega)
  simp only [psV] at hL
  have hLH := hidP hL
  have hbH := hidP hb
  have hhH := hidP h
  have hwiH := hidP hwi
  have hs1H := hidP hs1
  have hlen1H := hidP hlen1
  have hpid1H := hidP hpid1
  have hk2 := hidP h0
  clear hL hb h hl hp hmem hwi hs' hl1 hput hpl1 hs hlen hpid hs1 hlen1 hpid1
  refine (callsIn_wide (n := 5)).1 ?_
  refine callsIn_of_wp_marks Try.func11 rfl trivial ?_ rfl
  simp only [Try.ntmps11, List.size_toArray, List.length_cons, List.length_nil, Nat.reduceAdd, Nat.reduceSub, Array.replicate_succ, Array.replicate_zero, List.push_toArray, List.append_toArray, List.nil_append, List.cons_append]
  gi_wp2_with (rw [hW])
  refine ⟨trivial, (callsIn_wide.2 hLH.out).mono ?_⟩
  rintro e w1 ⟨rfl, hb1⟩
  have hB1 : Hid (Below w.heap.size w w1) := hbH.out.trans (hb1.mono hbH.out.size)
  have hw1l : Hid (w.heap.size < w1.heap.size) := Nat.lt_of_lt_of_le (cell_lt c3) hb1.size
  have c31 := hb1.cell (p := ⟨w.heap.size, 0, none⟩) (cell_lt c3) |>.trans c3
  clear hb1 hLH c3
  gi_wp2_with fail
  refine ⟨trivial, (callsIn_wide.2 (hwiH.out _)).mono ?_⟩
  rintro e w2 ⟨rfl, rfl⟩
  obtain ⟨V, hV⟩ : ∃ V, w1.alloc (.cells #[.int .i64 p0, .int .i64 p1, .string p2, .bool true, .int .i64 s', .string p5, .bool p6, .bool p7] 64) = V := ⟨_, rfl⟩
  have hBV : Below w.heap.size w V := by rw [← hV]; exact hB1.out.trans ((Below.refl _ _).alloc hB1.out.size _)
  have hTV := hhH.out.below hBV
  obtain ⟨w4, hrun, hT4, m4⟩ := hst.out V.drew (hTV.mv (Mv.drew (fun _ => False) V) (fun h => h) (fun h => h))
  have hd : Hid (∀ j u, #[Value.int .i64 p0, .int .i64 p1, .string p2, .bool true, .int .i64 s', .string p5, .bool p6, .bool p7][j]? = some u → V.cell? ⟨w1.heap.size, j, none⟩ = some u) := fun j u hj => by rw [← hV]; exact cell_at rfl hj
  have d0 := hd.out 0 _ rfl
  have d1 := hd.out 1 _ rfl
  have d2 := hd.out 2 _ rfl
  have d3 := hd.out 3 _ rfl
  have d4 := hd.out 4 _ rfl
  have d5 := hd.out 5 _ rfl
  have d6 := hd.out 6 _ rfl
  have d7 := hd.out 7 _ rfl
  have c2 := hTV.c2
  have c3V : V.cell? ⟨w.heap.size, 0, none⟩ = some (.pointer (some ⟨bt, 0, none⟩)) := by rw [← hV]; exact (Mv.alloc (fun _ => False) _ _).cell (fun h => h) c31
  have c34 := m4.cell (a := ⟨w.heap.size, 0, none⟩) (by show ¬ w.heap.size = bm; have := hhH.out.ltm; omega) ((Mv.drew (fun _ => False) V).cell (fun h => h) c3V)
  have M4 : Hid (Mv (fun k => k = bt ∨ k = bm) w w4) := (Mv.below (E := fun k => k = bt ∨ k = bm) hBV.drew).trans' (m4.mono (fun k _ e => .inr e))
  have hT4H := hidP hT4
  simp only [psV] at hrun
  clear hT4 m4 hTV hBV hst hd hwiH c31
  gi_wp2_with fail
  gi_region
  clear d0 d1 d2 d3 d4 d5 d6 d7 c2 c3V hV hW hrun
  have hch := hidP (childm_any bt p0 w4)
  gi_wp2_with fail
  refine ⟨trivial, (callsIn_wide.2 hch.out).mono ?_⟩
  rintro e w5 ⟨rfl, hw5⟩
  have m5 : ∀ F, Mv F w4 w5 := fun F => by rw [hw5]; exact (Mv.alloc _ _ _).trans' (Mv.alloc _ _ _)
  have ct5 : w5.cell? ⟨w4.heap.size, 0, none⟩ = some (.pointer (some ⟨bt, 0, none⟩)) := by rw [hw5]; exact (Mv.alloc (fun _ => False) _ _).cell (fun h => h) (cell_at rfl rfl)
  have cp5 : w5.cell? ⟨w4.heap.size + 1, 0, none⟩ = some (.int .i64 p0) := by rw [hw5]; exact cell_at (by simp) rfl
  have hs5 : w5.heap.size = w4.heap.size + 2 := by rw [hw5]; simp
  have hT5 := hT4H.out.mv (m5 (fun _ => False)) (fun h => h) (fun h => h)
  have c35 := (m5 (fun _ => False)).cell (fun h => h) c34
  have hbm4 := hT4H.out.ltm
  have hbt4 := hT4H.out.lt
  have hb34 : w.heap.size < w4.heap.size := cell_lt c34
  clear hw5 hch c34
  gi_wp2_with fail
  have tI : Ter w5.heap.size (Ex bt bm w.heap.size room last p0 l1) := ⟨fun s E W V h m => h.keep ⟨by omega, by omega, by omega⟩ m, fun s E W h j hj => by
    obtain ⟨pre, suf, _, _, h3⟩ := h.st
    rw [(h.ter j).1 hj]; exact h3.ltm⟩
  have tX : Ter w5.heap.size (fun (_ : Code) (_ : Nat → Prop) (_ : World) => False) := ⟨fun _ _ _ _ h _ => h, fun _ _ _ h => h.elim⟩
  refine loop_outS (gf := 33) (lb := #[.pointer (some ⟨w4.heap.size, 0, none⟩), .pointer (some ⟨w4.heap.size + 1, 0, none⟩)]) rfl (enters_of Try.func33 (by kernel_rfl) rfl)
    (children_row bt bm w4.heap.size (w4.heap.size + 1) p0 l1 (fun j => j = bm) w5 hlen1H.out hpid1H.out ct5 (by omega) cp5 (by omega)) (fun _ => rfl)
    (Ex bt bm w.heap.size room last p0 l1) (fun _ _ _ => False) tI tX
    (fun s E W h => h.left hs1H.out) (fun x rest E W hx h => h.skip hx) ⟨⟨[], l1, rfl, .inr ⟨rfl, rfl⟩, hT5⟩, fun _ => Iff.rfl, c35⟩ ?round ?done ?stop
  case round =>
    intro l9 hl9 x rest E2 U hxs hi hm hg hEl hrec
    have hpar : x.par = p0 := by simpa [notOf] using hxs
    have hlt : l9 < U.heap.size := by obtain ⟨r, hr⟩ := hrec; exact (Array.getElem?_eq_some_iff.1 hr).1
    obtain ⟨q0, q1, q2, q3, q4, q5, q6, q7⟩ := x
    have hpar' : q1 = p0 := hpar
    clear hpar hxs
    subst hpar'
    simp only [encP, prV]
    gi_wp2_with fail
    refine ⟨⟨Mv.alloc _ _ _, Below.heap_alloc _ _ _ hlt⟩, fun U2 tw => ?_⟩
    obtain ⟨hi2, hm2⟩ := tw.go tI hi (Mv.alloc _ _ _) hm (Nat.le_refl _) hl9 hEl
    have b0 : U2.cell? ⟨U.heap.size, 0, none⟩ = some (.int .i64 q0) := tw.mv.cell (a := ⟨U.heap.size, 0, none⟩) (by show ¬ U.heap.size = l9; omega) (cell_at rfl rfl)
    obtain ⟨pre, suf, e1, e2, hT2⟩ := hi2.st
    have c3u := hi2.c3
    have hsuf : suf = ⟨q0, q1, q2, q3, q4, q5, q6, q7⟩ :: rest := by
      rcases e2 with e | ⟨_, e⟩
      · exact e.symm
      · have := congrArg Pr.par (List.head_eq_of_cons_eq e)
        have := hk2.out
        simp [one] at *
        omega
    subst hsuf
    have hsx : Srt (pre.map (orph q1) ++ ⟨q0, q1, q2, q3, q4, q5, q6, q7⟩ :: rest) := srt_pids (by rw [orph_pids, ← e1]) hs1H.out
    have hq0 := hpid1H.out ⟨q0, q1, q2, q3, q4, q5, q6, q7⟩ (by rw [e1]; simp)
    have hq0' : 2 ≤ q0 ∧ q0 ≤ 9223372036854775807 := hq0
    have hTd := hT2.mv (Mv.drew (fun _ => False) U2) (fun h => h) (fun h => h)
    have hlkA : Hid (∀ W, Mv (fun _ => False) U2 W → (Instr.lookup 55 (.map (some bm)) (.int .i64 q0) false).run Try.prog W = .ok (.agg #[.int .i64 q0, .int .i64 q1, .string q2, .bool q3, .int .i64 q4, .string q5, .bool q6, .bool q7]) W) := fun W mW => by
      have := (hT2.mv mW (fun h => h) (fun h => h)).look1 (k := q0) (by omega) hq0'.2
      rw [show lk (pre.map (orph q1) ++ ⟨q0, q1, q2, q3, q4, q5, q6, q7⟩ :: rest) q0 = some ⟨q0, q1, q2, q3, q4, q5, q6, q7⟩ from lk_of_mem (p := ⟨q0, q1, q2, q3, q4, q5, q6, q7⟩) hsx (by simp)] at this
      exact this
    have hall : ∀ W, Mv (fun _ => False) U2 W → (W.cell? ⟨w.heap.size, 0, none⟩ = some (.pointer (some ⟨bt, 0, none⟩)) ∧ W.cell? ⟨bt, 2, none⟩ = some (.map (some bm)) ∧ W.cell? ⟨U.heap.size, 0, none⟩ = some (.int .i64 q0) ∧ (Instr.lookup 55 (.map (some bm)) (.int .i64 q0) false).run Try.prog W = .ok (.agg #[.int .i64 q0, .int .i64 q1, .string q2, .bool q3, .int .i64 q4, .string q5, .bool q6, .bool q7]) W) ∧ Hid (Mv (fun _ => False) U2 W) := fun W mW =>
      ⟨⟨mW.cell (fun h => h) c3u, mW.cell (fun h => h) hT2.c2, mW.cell (fun h => h) b0, hlkA.out W mW⟩, mW⟩
    have hallH := hidP hall
    have c2 := hT2.c2
    have hUl' : U.heap.size < U2.heap.size := cell_lt b0
    have hbtl : bt < U2.heap.size := cell_lt c2
    have hw3l : w.heap.size < U2.heap.size := cell_lt c3u
    have hterE := hidP hi2.ter
    have e1H := hidP e1
    have hT2H := hidP hT2
    have hsxH := hidP hsx
    have hltH := hidP hlt
    have hUw : Hid (w5.heap.size ≤ U.heap.size) := hm.size
    have hUl : Hid (U.heap.size < U2.heap.size) := cell_lt b0
    clear hall hlkA hi2 hi hm hm2 tw hrec hTd hT2 hsx e1 e2 hq0 hlt
    gi_wp2_with fail
    refine region_round (S := fun W => (W.cell? ⟨w.heap.size, 0, none⟩ = some (.pointer (some ⟨bt, 0, none⟩)) ∧ W.cell? ⟨bt, 2, none⟩ = some (.map (some bm)) ∧ W.cell? ⟨U.heap.size, 0, none⟩ = some (.int .i64 q0) ∧ (Instr.lookup 55 (.map (some bm)) (.int .i64 q0) false).run Try.prog W = .ok (.agg #[.int .i64 q0, .int .i64 q1, .string q2, .bool q3, .int .i64 q4, .string q5, .bool q6, .bool q7]) W) ∧ Hid (Mv (fun _ => False) U2 W)) (by kernel_rfl) (by kernel_rfl) (by rintro ⟨_, _, h⟩; exact h) (hallH.out _ (Mv.drew _ _)) (fun hHeld => ?_)
    refine wpAnyH_take (i := 0) (oi := ⟨some 35, _, _, _, _, _⟩) (v := ?v0) rfl (by kernel_rfl) (by kernel_rfl) (by kernel_rfl) (fun _ _ _ h => h) (Or.inl ⟨by rfl, ?hy0⟩) (by assumption) ?_
    case hy0 => (intro w hSw; (try dsimp only at hSw); go_simp; try with_reducible rfl)
    simp only [Act.put, List.setIfInBounds_toArray, List.set_cons_zero, List.set_cons_succ]
    refine wpAnyH_take (i := 1) (oi := ⟨some 36, _, _, _, _, _⟩) (v := ?v1) rfl (by kernel_rfl) (by kernel_rfl) (by kernel_rfl) (fun _ _ _ h => h) (Or.inl ⟨by rfl, ?hy1⟩) (by assumption) ?_
    case hy1 => (intro w hSw; (try dsimp only at hSw); go_simp; try with_reducible rfl)
    simp only [Act.put, List.setIfInBounds_toArray, List.set_cons_zero, List.set_cons_succ]
    refine wpAnyH_take (i := 2) (oi := ⟨some 37, _, _, _, _, _⟩) (v := ?v2) rfl (by kernel_rfl) (by kernel_rfl) (by kernel_rfl) (fun _ _ _ h => h) (Or.inl ⟨by rfl, ?hy2⟩) (by assumption) ?_
    case hy2 => (intro w hSw; (try dsimp only at hSw); go_simp; try with_reducible rfl)
    simp only [Act.put, List.setIfInBounds_toArray, List.set_cons_zero, List.set_cons_succ]
    refine wpAnyH_take (i := 3) (oi := ⟨some 38, _, _, _, _, _⟩) (v := ?v3) rfl (by kernel_rfl) (by kernel_rfl) (by kernel_rfl) (fun _ _ _ h => h) (Or.inl ⟨by rfl, ?hy3⟩) (by assumption) ?_
    case hy3 => (intro w hSw; (try dsimp only at hSw); go_simp; try with_reducible rfl)
    simp only [Act.put, List.setIfInBounds_toArray, List.set_cons_zero, List.set_cons_succ]
    refine wpAnyH_take (i := 4) (oi := ⟨some 39, _, _, _, _, _⟩) (v := ?v4) rfl (by kernel_rfl) (by kernel_rfl) (by kernel_rfl) (fun _ _ _ h => h) (Or.inl ⟨by rfl, ?hy4⟩) (by assumption) ?_
    case hy4 => (intro w hSw; (try dsimp only at hSw); go_simp; try with_reducible rfl)
    simp only [Act.put, List.setIfInBounds_toArray, List.set_cons_zero, List.set_cons_succ]
    refine wpAnyH_take (i := 5) (oi := ⟨some 40, _, _, _, _, _⟩) (v := ?v5) rfl (by kernel_rfl) (by kernel_rfl) (by kernel_rfl) (fun _ _ _ h => h) (Or.inl ⟨by rfl, ?hy5⟩) (by assumption) ?_
    case hy5 => (intro w hSw; (try dsimp only at hSw); go_simp; try with_reducible rfl)
    simp only [Act.put, List.setIfInBounds_toArray, List.set_cons_zero, List.set_cons_succ]
    refine wpAnyH_take (i := 6) (oi := ⟨some 41, _, _, _, _, _⟩) (v := ?v6) rfl (by kernel_rfl) (by kernel_rfl) (by kernel_rfl) (fun _ _ _ h => h) (Or.inl ⟨by rfl, ?hy6⟩) (by assumption) ?_
    case hy6 => (intro w hSw; (try dsimp only at hSw); go_simp; try with_reducible rfl)
    simp only [Act.put, List.setIfInBounds_toArray, List.set_cons_zero, List.set_cons_succ]
    refine wpAnyH_ready (rs := [7]) (by kernel_rfl) (by simp) ?_
    refine AllReadyH.cons (o := ⟨some 10, _, _, _, _, _⟩) rfl (fun K hK => ?_) AllReadyH.nil
    go_simp
    refine hK.out _ _ (hallH.out _ ((Mv.alloc _ _ _).trans' (Mv.drew _ _))) (fun _ => ?_)
    clear hK K
    refine wpAnyH_ready (rs := [8]) (by kernel_rfl) (by simp) ?_
    refine AllReadyH.cons (o := ⟨none, _, _, _, _, _⟩) rfl (fun K hK => ?_) AllReadyH.nil
    go_simp
    refine hK.out _ _ (hallH.out _ ((Mv.alloc _ _ _).trans' (Mv.drew _ _))) (fun _ => ?_)
    clear hK K
    refine wpAnyH_done (by kernel_rfl) ?_ _
    obtain ⟨V3, hV3⟩ : ∃ V3, (U2.alloc (.cells #[.int .i64 q0, .int .i64 1, .string q2, .bool q3, .int .i64 q4, .string q5, .bool q6, .bool q7] 64)).drew = V3 := ⟨_, rfl⟩
    have mV3 : Mv (fun _ => False) U2 V3 := by rw [← hV3]; exact (Mv.alloc _ _ _).trans' (Mv.drew _ _)
    have hT3 := hT2H.out.mv mV3 (fun h => h) (fun h => h)
    have hd3 : ∀ j u, #[Value.int .i64 q0, .int .i64 1, .string q2, .bool q3, .int .i64 q4, .string q5, .bool q6, .bool q7][j]? = some u → V3.cell? ⟨U2.heap.size, j, none⟩ = some u := fun j u hj => by rw [← hV3]; exact (Mv.drew (fun _ => False) _).cell (fun h => h) (cell_at rfl hj)
    have hrp : rep (pre.map (orph q1) ++ ⟨q0, q1, q2, q3, q4, q5, q6, q7⟩ :: rest) ⟨q0, 1, q2, q3, q4, q5, q6, q7⟩ = pre.map (orph q1) ++ ⟨q0, 1, q2, q3, q4, q5, q6, q7⟩ :: rest := rep_at hsxH.out rfl
    have hlr : (pre.map (orph q1) ++ (⟨q0, 1, q2, q3, q4, q5, q6, q7⟩ : Pr) :: rest).length ≤ 1000 := by
      have := congrArg List.length e1H.out
      have := hlen1H.out
      simp at *
      omega
    obtain ⟨w9, hrun, hT9, m9⟩ := (hT3.mv (Mv.drew (fun _ => False) V3) (fun h => h) (fun h => h)).store (p := ⟨q0, 1, q2, q3, q4, q5, q6, q7⟩) (by show _ ≤ q0; omega) hq0'.2 (by rw [put_rep (p := ⟨q0, 1, q2, q3, q4, q5, q6, q7⟩) hsxH.out ⟨⟨q0, q1, q2, q3, q4, q5, q6, q7⟩, by simp, rfl⟩, hrp]) hlr
    simp only [psV] at hrun
    have hnb : Hid (w.heap.size ≠ bm ∧ bt ≠ bm ∧ U.heap.size ≠ bm ∧ U2.heap.size ≠ bm) := by
      have a1 := hhH.out.ltm
      have a2 := hT2H.out.ne
      have a3 : w5.heap.size ≤ U.heap.size := hUw.out
      exact ⟨by omega, a2, by omega, by omega⟩
    have hS3 : ∀ W, Mv (fun k => k = bm) V3 W → (W.cell? ⟨w.heap.size, 0, none⟩ = some (.pointer (some ⟨bt, 0, none⟩)) ∧ W.cell? ⟨bt, 2, none⟩ = some (.map (some bm)) ∧ W.cell? ⟨U.heap.size, 0, none⟩ = some (.int .i64 q0) ∧ W.cell? ⟨U2.heap.size, 0, none⟩ = some (Value.int .i64 q0) ∧ W.cell? ⟨U2.heap.size, 1, none⟩ = some (Value.int .i64 1) ∧ W.cell? ⟨U2.heap.size, 2, none⟩ = some (Value.string q2) ∧ W.cell? ⟨U2.heap.size, 3, none⟩ = some (Value.bool q3) ∧ W.cell? ⟨U2.heap.size, 4, none⟩ = some (Value.int .i64 q4) ∧ W.cell? ⟨U2.heap.size, 5, none⟩ = some (Value.string q5) ∧ W.cell? ⟨U2.heap.size, 6, none⟩ = some (Value.bool q6) ∧ W.cell? ⟨U2.heap.size, 7, none⟩ = some (Value.bool q7)) := fun W mW =>
      ⟨mW.cell hnb.out.1 (mV3.cell (fun h => h) c3u), mW.cell hnb.out.2.1 hT3.c2, mW.cell hnb.out.2.2.1 (mV3.cell (fun h => h) b0), mW.cell hnb.out.2.2.2 (hd3 0 _ rfl), mW.cell hnb.out.2.2.2 (hd3 1 _ rfl), mW.cell hnb.out.2.2.2 (hd3 2 _ rfl), mW.cell hnb.out.2.2.2 (hd3 3 _ rfl), mW.cell hnb.out.2.2.2 (hd3 4 _ rfl), mW.cell hnb.out.2.2.2 (hd3 5 _ rfl), mW.cell hnb.out.2.2.2 (hd3 6 _ rfl), mW.cell hnb.out.2.2.2 (hd3 7 _ rfl)⟩
    have c39 := m9.cell (a := ⟨w.heap.size, 0, none⟩) (by show ¬ w.heap.size = bm; have := hhH.out.ltm; omega) ((Mv.drew (fun _ => False) V3).cell (fun h => h) (mV3.cell (fun h => h) c3u))
    have fin : Hid (Mv E2 U2 w9 ∧ ∃ E', Gr E2 U2 E' ∧ Ex bt bm w.heap.size room last q1 l1 rest E' w9) := by
      refine ⟨((mV3.trans' (Mv.drew _ _)).mono (fun _ _ h => h.elim)).trans' (m9.mono (fun k _ e => (hterE.out k).2 e)), E2, Gr.refl _ _, ⟨⟨pre ++ [⟨q0, q1, q2, q3, q4, q5, q6, q7⟩], rest, by rw [e1H.out]; simp, .inl rfl, ?_⟩, hterE.out, c39⟩⟩
      have : orph q1 ⟨q0, q1, q2, q3, q4, q5, q6, q7⟩ = ⟨q0, 1, q2, q3, q4, q5, q6, q7⟩ := by unfold orph; rw [if_pos rfl]
      simpa [this] using hT9
    have hS3H := hidP hS3
    have hrunH := hidP hrun
    have m9H : Hid (Mv (fun k => k = bm) V3 w9) := (Mv.drew _ _).trans' m9
    clear hallH hT3 hd3 hrp hlr hT9 m9 hS3 c39 hrun hHeld
    gi_wp2_with fail
    refine region_round (S := fun W => (W.cell? ⟨w.heap.size, 0, none⟩ = some (.pointer (some ⟨bt, 0, none⟩)) ∧ W.cell? ⟨bt, 2, none⟩ = some (.map (some bm)) ∧ W.cell? ⟨U.heap.size, 0, none⟩ = some (.int .i64 q0) ∧ W.cell? ⟨U2.heap.size, 0, none⟩ = some (Value.int .i64 q0) ∧ W.cell? ⟨U2.heap.size, 1, none⟩ = some (Value.int .i64 1) ∧ W.cell? ⟨U2.heap.size, 2, none⟩ = some (Value.string q2) ∧ W.cell? ⟨U2.heap.size, 3, none⟩ = some (Value.bool q3) ∧ W.cell? ⟨U2.heap.size, 4, none⟩ = some (Value.int .i64 q4) ∧ W.cell? ⟨U2.heap.size, 5, none⟩ = some (Value.string q5) ∧ W.cell? ⟨U2.heap.size, 6, none⟩ = some (Value.bool q6) ∧ W.cell? ⟨U2.heap.size, 7, none⟩ = some (Value.bool q7))) (by kernel_rfl) (by kernel_rfl) (by rintro ⟨_, _, h⟩; exact h) (hS3H.out _ (Mv.drew _ _)) (fun hHeld => ?_)
    refine wpAnyH_take (i := 0) (oi := ⟨some 44, _, _, _, _, _⟩) (v := ?u0) rfl (by kernel_rfl) (by kernel_rfl) (by kernel_rfl) (fun _ _ _ h => h) (Or.inl ⟨by rfl, ?hu0⟩) (by assumption) ?_
    case hu0 => (intro w hSw; (try dsimp only at hSw); go_simp; try with_reducible rfl)
    simp only [Act.put, List.setIfInBounds_toArray, List.set_cons_zero, List.set_cons_succ]
    refine wpAnyH_take (i := 1) (oi := ⟨some 45, _, _, _, _, _⟩) (v := ?u1) rfl (by kernel_rfl) (by kernel_rfl) (by kernel_rfl) (fun _ _ _ h => h) (Or.inl ⟨by rfl, ?hu1⟩) (by assumption) ?_
    case hu1 => (intro w hSw; (try dsimp only at hSw); go_simp; try with_reducible rfl)
    simp only [Act.put, List.setIfInBounds_toArray, List.set_cons_zero, List.set_cons_succ]
    refine wpAnyH_take (i := 2) (oi := ⟨some 46, _, _, _, _, _⟩) (v := ?u2) rfl (by kernel_rfl) (by kernel_rfl) (by kernel_rfl) (fun _ _ _ h => h) (Or.inl ⟨by rfl, ?hu2⟩) (by assumption) ?_
    case hu2 => (intro w hSw; (try dsimp only at hSw); go_simp; try with_reducible rfl)
    simp only [Act.put, List.setIfInBounds_toArray, List.set_cons_zero, List.set_cons_succ]
    refine wpAnyH_take (i := 3) (oi := ⟨some 47, _, _, _, _, _⟩) (v := ?u3) rfl (by kernel_rfl) (by kernel_rfl) (by kernel_rfl) (fun _ _ _ h => h) (Or.inl ⟨by rfl, ?hu3⟩) (by assumption) ?_
    case hu3 => (intro w hSw; (try dsimp only at hSw); go_simp; try with_reducible rfl)
    simp only [Act.put, List.setIfInBounds_toArray, List.set_cons_zero, List.set_cons_succ]
    refine wpAnyH_take (i := 4) (oi := ⟨some 48, _, _, _, _, _⟩) (v := ?u4) rfl (by kernel_rfl) (by kernel_rfl) (by kernel_rfl) (fun _ _ _ h => h) (Or.inl ⟨by rfl, ?hu4⟩) (by assumption) ?_
    case hu4 => (intro w hSw; (try dsimp only at hSw); go_simp; try with_reducible rfl)
    simp only [Act.put, List.setIfInBounds_toArray, List.set_cons_zero, List.set_cons_succ]
    refine wpAnyH_take (i := 5) (oi := ⟨some 49, _, _, _, _, _⟩) (v := ?u5) rfl (by kernel_rfl) (by kernel_rfl) (by kernel_rfl) (fun _ _ _ h => h) (Or.inl ⟨by rfl, ?hu5⟩) (by assumption) ?_
    case hu5 => (intro w hSw; (try dsimp only at hSw); go_simp; try with_reducible rfl)
    simp only [Act.put, List.setIfInBounds_toArray, List.set_cons_zero, List.set_cons_succ]
    refine wpAnyH_take (i := 6) (oi := ⟨some 50, _, _, _, _, _⟩) (v := ?u6) rfl (by kernel_rfl) (by kernel_rfl) (by kernel_rfl) (fun _ _ _ h => h) (Or.inl ⟨by rfl, ?hu6⟩) (by assumption) ?_
    case hu6 => (intro w hSw; (try dsimp only at hSw); go_simp; try with_reducible rfl)
    simp only [Act.put, List.setIfInBounds_toArray, List.set_cons_zero, List.set_cons_succ]
    refine wpAnyH_ready (rs := [7]) (by kernel_rfl) (by simp) ?_
    refine AllReadyH.cons (o := ⟨none, _, _, _, _, _⟩) rfl (fun K hK => ?_) AllReadyH.nil
    have hrun := hrunH.out
    go_simp
    refine hK.out _ _ (hS3H.out _ m9H.out) (fun _ => ?_)
    clear hK K
    refine wpAnyH_done (by kernel_rfl) ?_ _
    gi_wp2_with fail
    exact fin.out
  case done =>
    intro D E2 U hD hK hnD hm hg hi
    gi_wp2_with fail
    refine ⟨by simp, .inl ⟨_, _, rfl, run_takeDeferred hK, ?_⟩⟩
    obtain ⟨pre, suf, e1, e2, hTe⟩ := hi.st
    have hsuf : suf = [] := by
      rcases e2 with e | ⟨_, e⟩
      · exact e.symm
      · cases e
    subst hsuf
    rw [List.append_nil] at e1 hTe
    have hbmD := hT4H.out.ltm
    have mP : Mv (fun j => j = D) U (U.putObj D (.deferred none)) := Mv.put (E := fun j => j = D) rfl _
    refine ⟨_, results_tmp rfl _ _ _, rfl, ?_, ?_⟩
    · rw [hX.out, e1]
      exact hTe.mv mP (by omega) (by omega)
    · exact (M4.out.trans' ((m5 _).trans' (hm.mono (fun j _ e => .inr e)))).put_new (by have := M4.out.size; omega) _
  case stop =>
    intro D c E2 U hD hK hnD hm hg hi
    exact hi.elim
end Go.Proofs.Ytcikjnifkoagpaa
