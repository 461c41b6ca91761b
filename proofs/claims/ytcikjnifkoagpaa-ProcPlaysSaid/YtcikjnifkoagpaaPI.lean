/- The contracts of package proc's Exit (whole) and Reap. -/
import Derived.Test.YtcikjnifkoagpaaPH
namespace Go.Proofs.Ytcikjnifkoagpaa
open Go.RowKit Go.Shelf
attribute [local go_sem] Oper.semAt_some
theorem exit_any (bt bm : Nat) (room last : Int) (l : Ps) (k s : Int) (w : World) (h : Tb w bt bm room last l) (h0 : -9223372036854775808 ≤ k) (h1 : k ≤ 9223372036854775807) (hs : Srt l) (hlen : l.length ≤ 150) (hpid : ∀ p ∈ l, 2 ≤ p.pid ∧ p.pid ≤ 9223372036854775807) :
    Calls Try.prog 11 #[.pointer (some ⟨bt, 0, none⟩), .int .i64 k, .int .i64 s] w fun e w' => e = .returned (.int .i64 (exE l k)) ∧ Tb w' bt bm room last (exL l k s) ∧ Mv (fun k => k = bt ∨ k = bm) w w' := by
  cases hl : livP l k with
  | false =>
    have e1 : exE l k = 80 := by unfold exE; rw [hl]; rfl
    have e2 : exL l k s = l := by unfold exL; rw [hl]; rfl
    rw [e1, e2]
    refine (exit_no bt bm room last l k s w h h0 h1 hl).mono ?_
    rintro e w' ⟨rfl, hb⟩
    exact ⟨rfl, h.below hb, Mv.below hb⟩
  | true =>
    obtain ⟨p, hp, hpk, hmem, _⟩ := liv_some hl
    have e1 : exE l k = 0 := by unfold exE; rw [hl]; rfl
    rw [e1]
    exact exit_yes bt bm room last l k s w h (by have := hpid p hmem; omega) h1 hl hs hlen hpid
/-- One that is to be reaped. -/
def rpB (parent : Int) (p : Pr) : Bool := decide (p.par = parent) && p.zom
def rpP (l : Ps) (parent : Int) : Option Pr := l.find? (rpB parent)
def rpE (l : Ps) (parent : Int) : Int := match rpP l parent with | some _ => 0 | none => 80
def rpL (l : Ps) (parent : Int) : Ps := match rpP l parent with | some p => del l p.pid | none => l
structure Rp (bt bm b : Nat) (room last parent : Int) (l : Ps) (s : Ps) (E : Nat → Prop) (W : World) : Prop where
  st : ∃ pre suf, l = pre ++ suf ∧ (s = suf ∨ (pre = [] ∧ s = one :: suf)) ∧ ∀ q ∈ pre, rpB parent q = false
  tb : Tb W bt bm room last l
  ter : ∀ j, E j ↔ (j = bm ∨ j = b + 1 ∨ j = b + 2)
  c3 : W.cell? ⟨b, 0, none⟩ = some (.pointer (some ⟨bt, 0, none⟩))
  c4 : W.heap[b + 1]? = some (.cells #[.int .i64 0, .int .i64 0, .string ⟨#[]⟩, .bool false, .int .i64 0, .string ⟨#[]⟩] 40)
  c5 : W.heap[b + 2]? = some (.cells #[.int .i64 0] 30)
/-- Behind a return. -/
structure Rx (bt bm b : Nat) (room last parent : Int) (l : Ps) (p : Pr) (E : Nat → Prop) (W : World) : Prop where
  fd : rpP l parent = some p
  tb : Tb W bt bm room last (del l p.pid)
  ter : ∀ j, E j ↔ (j = bm ∨ j = b + 1 ∨ j = b + 2)
  c4 : ∀ (j : Nat) (u : Value), (prC p)[j]? = some u → W.cell? ⟨b + 1, j, none⟩ = some u
  c5 : W.cell? ⟨b + 2, 0, none⟩ = some (.int .i64 0)
theorem Rp.keep {bt bm b : Nat} {room last parent : Int} {l s : Ps} {E : Nat → Prop} {W V : World} {B : Nat} (h : Rp bt bm b room last parent l s E W) (hB : bt < B ∧ bm < B ∧ b + 2 < B) (m : Mv (fun j => ¬ E j ∧ B ≤ j) W V) : Rp bt bm b room last parent l s E V :=
  ⟨h.st, h.tb.mv m (fun e => by have := e.2; omega) (fun e => by have := e.2; omega), h.ter, m.cell (fun e => by have := e.2; simp at this; omega) h.c3,
    (m.block _ (lt_of_heap h.c4) (fun e => by have := e.2; omega)).trans h.c4, (m.block _ (lt_of_heap h.c5) (fun e => by have := e.2; omega)).trans h.c5⟩
theorem Rx.keep {bt bm b : Nat} {room last parent : Int} {l : Ps} {p : Pr} {E : Nat → Prop} {W V : World} {B : Nat} (h : Rx bt bm b room last parent l p E W) (hB : bt < B ∧ bm < B ∧ b + 2 < B) (m : Mv (fun j => ¬ E j ∧ B ≤ j) W V) : Rx bt bm b room last parent l p E V :=
  ⟨h.fd, h.tb.mv m (fun e => by have := e.2; omega) (fun e => by have := e.2; omega), h.ter, fun j u hu => m.cell (fun e => by have := e.2; simp at this; omega) (h.c4 j u hu), m.cell (fun e => by have := e.2; simp at this; omega) h.c5⟩
theorem Rp.left {bt bm b : Nat} {room last parent : Int} {l s : Ps} {E : Nat → Prop} {W : World} (h : Rp bt bm b room last parent l s E W) (hs : Srt l) : Lf bt bm l s W := by
  obtain ⟨pre, suf, h1, h2, _⟩ := h.st
  refine ⟨room, last, l, h.tb, hs, rfl, fun p hpm hp1 => ?_⟩
  have hm : p ∈ suf := by
    rcases h2 with rfl | ⟨_, rfl⟩
    · exact hpm
    · rcases List.mem_cons.1 hpm with rfl | h
      · exact absurd rfl hp1
      · exact h
  exact lk_of_mem hs (by rw [h1]; exact List.mem_append_right _ hm)
theorem Rp.skip {bt bm b : Nat} {room last parent : Int} {l rest : Ps} {x : Pr} {E : Nat → Prop} {W : World} (h : Rp bt bm b room last parent l (x :: rest) E W) (hx : rpB parent x = false) : Rp bt bm b room last parent l rest E W := by
  obtain ⟨pre, suf, h1, h2, h3⟩ := h.st
  refine ⟨?_, h.tb, h.ter, h.c3, h.c4, h.c5⟩
  rcases h2 with rfl | ⟨rfl, e⟩
  · refine ⟨pre ++ [x], rest, by rw [h1]; simp, .inl rfl, fun q hq => ?_⟩
    rcases List.mem_append.1 hq with hq | hq
    · exact h3 q hq
    · simp at hq; subst hq; exact hx
  · cases e
    exact ⟨[], rest, h1, .inl rfl, h3⟩
theorem find_pre {pre suf : Ps} {f : Pr → Bool} (h : ∀ q ∈ pre, f q = false) : (pre ++ suf).find? f = suf.find? f := by
  rw [List.find?_append, List.find?_eq_none.2 (fun q hq => by simp [h q hq])]
  rfl
theorem cells_of {W : World} {b : Nat} {cs : Array Value} {t : TypeId} (h : W.heap[b]? = some (.cells cs t)) {j : Nat} {v : Value} (hj : cs[j]? = some v) : W.cell? ⟨b, j, none⟩ = some v := by
  unfold World.cell?
  rw [h]
  exact hj
theorem froz_of {W : World} {b : Nat} {cs : Array Value} {t : TypeId} (h : W.heap[b]? = some (.cells cs t)) {j : Nat} : W.frozen? ⟨b, j, none⟩ = false := by
  unfold World.frozen?
  rw [h]
  simp
theorem put6 {W : World} {b : Nat} {a0 a1 a2 a3 a4 a5 e0 : Value} {t u : TypeId} (h4 : W.heap[b + 1]? = some (.cells #[a0, a1, a2, a3, a4, a5] t)) (h5 : W.heap[b + 2]? = some (.cells #[e0] u)) (v0 v1 v2 v3 v4 v5 z : Value) {V : World}
    (hV : ((((((W.setCell ⟨b + 1, 0, none⟩ v0).setCell ⟨b + 1, 1, none⟩ v1).setCell ⟨b + 1, 2, none⟩ v2).setCell ⟨b + 1, 3, none⟩ v3).setCell ⟨b + 1, 4, none⟩ v4).setCell ⟨b + 1, 5, none⟩ v5).setCell ⟨b + 1 + 1, 0, none⟩ z = V) :
    Mv (fun j => j = b + 1 ∨ j = b + 2) W V ∧ (∀ (j : Nat) (x : Value), [v0, v1, v2, v3, v4, v5][j]? = some x → V.cell? ⟨b + 1, j, none⟩ = some x) ∧ V.cell? ⟨b + 2, 0, none⟩ = some z := by
  have e4 : V.heap[b + 1]? = some (.cells #[v0, v1, v2, v3, v4, v5] t) := by rw [← hV]; simp [World.setCell, Array.getElem?_modify, h4]
  have e5 : V.heap[b + 2]? = some (.cells #[z] u) := by rw [← hV]; simp [World.setCell, Array.getElem?_modify, h5]
  refine ⟨?_, fun j x hx => cells_of e4 (by simpa using hx), cells_of e5 rfl⟩
  rw [← hV]
  exact (((((((Mv.refl _ W).setc (.inl (.inl rfl)) _).setc (.inl (.inl rfl)) _).setc (.inl (.inl rfl)) _).setc (.inl (.inl rfl)) _).setc (.inl (.inl rfl)) _).setc (.inl (.inl rfl)) _).setc (.inl (.inr rfl)) _
set_option maxRecDepth 100000 in
set_option maxHeartbeats 4000000 in
theorem reap_any (bt bm : Nat) (room last : Int) (l : Ps) (parent : Int) (w : World) (h : Tb w bt bm room last l) (hs : Srt l) (hlen : l.length ≤ 150) (hpid : ∀ p ∈ l, 2 ≤ p.pid ∧ p.pid ≤ 9223372036854775807) :
    Calls Try.prog 15 #[.pointer (some ⟨bt, 0, none⟩), .int .i64 parent] w fun e w' => e = .returned (.tuple #[prV ((rpP l parent).getD zPr), .int .i64 (rpE l parent)]) ∧ Tb w' bt bm room last (rpL l parent) ∧ Mv (fun k => k = bt ∨ k = bm) w w' := by
  obtain ⟨W, hW⟩ : ∃ W, ((w.alloc (.cells #[.pointer (some ⟨bt, 0, none⟩)] 24)).alloc (.cells #[.int .i64 0, .int .i64 0, .string ⟨#[]⟩, .bool false, .int .i64 0, .string ⟨#[]⟩] 40)).alloc (.cells #[.int .i64 0] 30) = W := ⟨_, rfl⟩
  have hb : Below w.heap.size w W := by rw [← hW]; exact (((Below.refl _ _).alloc (Nat.le_refl _) _).alloc (by simp) _).alloc (by simp; omega) _
  have hsW : W.heap.size = w.heap.size + 3 := by rw [← hW]; simp
  have c3 : W.cell? ⟨w.heap.size, 0, none⟩ = some (.pointer (some ⟨bt, 0, none⟩)) := by rw [← hW]; exact (Mv.alloc (fun _ => False) _ _).cell (fun h => h) ((Mv.alloc (fun _ => False) _ _).cell (fun h => h) (cell_at rfl rfl))
  have c4 : W.heap[w.heap.size + 1]? = some (.cells #[.int .i64 0, .int .i64 0, .string ⟨#[]⟩, .bool false, .int .i64 0, .string ⟨#[]⟩] 40) := by
    rw [← hW]
    refine ((Mv.alloc (fun _ => False) _ _).block _ (by simp) (fun h => h)).trans ?_
    have := heap_alloc_new (w.alloc (.cells #[.pointer (some ⟨bt, 0, none⟩)] 24)) (.cells #[.int .i64 0, .int .i64 0, .string ⟨#[]⟩, .bool false, .int .i64 0, .string ⟨#[]⟩] 40)
    simpa using this
  have c5 : W.heap[w.heap.size + 2]? = some (.cells #[.int .i64 0] 30) := by
    rw [← hW]
    have := heap_alloc_new ((w.alloc (.cells #[.pointer (some ⟨bt, 0, none⟩)] 24)).alloc (.cells #[.int .i64 0, .int .i64 0, .string ⟨#[]⟩, .bool false, .int .i64 0, .string ⟨#[]⟩] 40)) (.cells #[.int .i64 0] 30)
    simpa using this
  have hch := hidP (childm_any bt parent W)
  have hbH := hidP hb
  have hhH := hidP h
  have hsH := hidP hs
  have hlenH := hidP hlen
  have hpidH := hidP hpid
  have hsWH := hidP hsW
  have c4H := hidP c4
  have c5H := hidP c5
  clear hs hlen hpid hb hsW c4 c5 h
  refine (callsIn_wide (n := 5)).1 ?_
  refine callsIn_of_wp_marks Try.func15 rfl trivial ?_ rfl
  simp only [Try.ntmps15, List.size_toArray, List.length_cons, List.length_nil, Nat.reduceAdd, Nat.reduceSub, Array.replicate_succ, Array.replicate_zero, List.push_toArray, List.append_toArray, List.nil_append, List.cons_append]
  gi_wp2_with (rw [hW])
  refine ⟨trivial, (callsIn_wide.2 hch.out).mono ?_⟩
  rintro e w5 ⟨rfl, hw5⟩
  have m5 : ∀ F, Mv F W w5 := fun F => by rw [hw5]; exact (Mv.alloc _ _ _).trans' (Mv.alloc _ _ _)
  have ct5 : w5.cell? ⟨W.heap.size, 0, none⟩ = some (.pointer (some ⟨bt, 0, none⟩)) := by rw [hw5]; exact (Mv.alloc (fun _ => False) _ _).cell (fun h => h) (cell_at rfl rfl)
  have cp5 : w5.cell? ⟨W.heap.size + 1, 0, none⟩ = some (.int .i64 parent) := by rw [hw5]; exact cell_at (by simp) rfl
  have hs5 : w5.heap.size = W.heap.size + 2 := by rw [hw5]; simp
  have hbt := hhH.out.lt
  have hbm := hhH.out.ltm
  have hT5 := (hhH.out.below hbH.out).mv (m5 (fun _ => False)) (fun h => h) (fun h => h)
  have c35 := (m5 (fun _ => False)).cell (fun h => h) c3
  have c45 := ((m5 (fun _ => False)).block _ (lt_of_heap c4H.out) (fun h => h)).trans c4H.out
  have c55 := ((m5 (fun _ => False)).block _ (lt_of_heap c5H.out) (fun h => h)).trans c5H.out
  clear hw5 hch c3
  gi_wp2_with fail
  have hsW' := hsWH.out
  have tI : Ter w5.heap.size (Rp bt bm w.heap.size room last parent l) := ⟨fun s E W V h m => h.keep ⟨by omega, by omega, by omega⟩ m, fun s E W h j hj => by
    rcases (h.ter j).1 hj with rfl | rfl | rfl
    · exact h.tb.ltm
    · exact lt_of_heap h.c4
    · exact lt_of_heap h.c5⟩
  have tX : Ter w5.heap.size (fun (c : Code) E W => c = Code.ret ∧ ∃ p, Rx bt bm w.heap.size room last parent l p E W) := ⟨fun c E W V h m => by obtain ⟨e, p, h⟩ := h; exact ⟨e, p, h.keep ⟨by omega, by omega, by omega⟩ m⟩, fun c E W h j hj => by
    obtain ⟨e, p, h⟩ := h
    rcases (h.ter j).1 hj with rfl | rfl | rfl
    · exact h.tb.ltm
    · exact cell_lt (h.c4 0 _ rfl)
    · exact cell_lt h.c5⟩
  refine loop_outS (gf := 33) (lb := #[.pointer (some ⟨W.heap.size, 0, none⟩), .pointer (some ⟨W.heap.size + 1, 0, none⟩)]) rfl (enters_of Try.func33 (by kernel_rfl) rfl)
    (children_row bt bm W.heap.size (W.heap.size + 1) parent l (fun j => j = bm ∨ j = w.heap.size + 1 ∨ j = w.heap.size + 2) w5 hlenH.out hpidH.out ct5 (by omega) cp5 (by omega)) (fun _ => rfl)
    (Rp bt bm w.heap.size room last parent l) (fun c E W => c = Code.ret ∧ ∃ p, Rx bt bm w.heap.size room last parent l p E W) tI tX
    (fun s E W h => h.left hsH.out) (fun x rest E W hx h => h.skip (by simp only [notOf, Bool.not_eq_true'] at hx; simp [rpB, hx])) ⟨⟨[], l, rfl, .inr ⟨rfl, rfl⟩, fun q hq => by simp at hq⟩, hT5, fun _ => Iff.rfl, c35, c45, c55⟩ ?round ?done ?stop
  case round =>
    intro l9 hl9 x rest E2 U hxs hi hm hg hEl hrec
    have hpar : x.par = parent := by simpa [notOf] using hxs
    have hlt : l9 < U.heap.size := by obtain ⟨r, hr⟩ := hrec; exact (Array.getElem?_eq_some_iff.1 hr).1
    obtain ⟨q0, q1, q2, q3, q4, q5, q6, q7⟩ := x
    have hpar' : q1 = parent := hpar
    clear hpar hxs
    subst hpar'
    simp only [encP, prV]
    gi_wp2_with fail
    refine ⟨⟨Mv.alloc _ _ _, Below.heap_alloc _ _ _ hlt⟩, fun U2 tw => ?_⟩
    obtain ⟨hi2, hm2⟩ := tw.go tI hi (Mv.alloc _ _ _) hm (Nat.le_refl _) hl9 hEl
    have bx : ∀ j u, #[Value.int .i64 q0, .int .i64 q1, .string q2, .bool q3, .int .i64 q4, .string q5][j]? = some u → U2.cell? ⟨U.heap.size, j, none⟩ = some u := fun j u hj => tw.mv.cell (a := ⟨U.heap.size, j, none⟩) (by show ¬ U.heap.size = l9; omega) (cell_at rfl hj)
    have bxH := hidP bx
    have b3 := bx 3 _ rfl
    have hUw : Hid (w5.heap.size ≤ U.heap.size) := hm.size
    have hi2H := hidP hi2
    clear bx hi hm tw hrec hi2 hm2
    cases q3 with
    | false =>
      have hnx := hidP (hi2H.out.skip (by simp [rpB]))
      gi_wp2_with fail
      exact ⟨Mv.refl _ _, E2, Gr.refl _ _, hnx.out⟩
    | true =>
      obtain ⟨pre, suf, e1, e2, e3⟩ := hi2H.out.st
      have hsuf : suf = ⟨q0, q1, q2, true, q4, q5, q6, q7⟩ :: rest := by
        rcases e2 with e | ⟨_, e⟩
        · exact e.symm
        · have := congrArg Pr.zom (List.head_eq_of_cons_eq e)
          simp [one] at this
      subst hsuf
      have hfd : Hid (rpP l q1 = some ⟨q0, q1, q2, true, q4, q5, q6, q7⟩) := by
        show _ = _
        unfold rpP
        rw [e1, find_pre e3, List.find?_cons]
        simp [rpB]
      have hq0 : 2 ≤ q0 ∧ q0 ≤ 9223372036854775807 := hpidH.out ⟨q0, q1, q2, true, q4, q5, q6, q7⟩ (by rw [e1]; simp)
      have hT2 := hi2H.out.tb
      obtain ⟨w9, hrun, hT9, m9⟩ := (hT2.mv (Mv.drew (fun _ => False) U2) (fun h => h) (fun h => h)).drop (k := q0) (by omega) hq0.2 0
      have m9' : Mv (fun k => k = bm) U2 w9 := (Mv.drew _ _).trans' m9
      have a2 := hT2.ne
      have hnb : Hid (w.heap.size ≠ bm ∧ bt ≠ bm ∧ U.heap.size ≠ bm ∧ w.heap.size + 1 ≠ bm ∧ w.heap.size + 2 ≠ bm) := by
        have a3 := hUw.out
        exact ⟨by omega, a2, by omega, by omega, by omega⟩
      have hSA : Hid (∀ W, Mv (fun k => k = bm) U2 W → W.cell? ⟨w.heap.size, 0, none⟩ = some (.pointer (some ⟨bt, 0, none⟩)) ∧ W.cell? ⟨bt, 2, none⟩ = some (.map (some bm)) ∧ W.cell? ⟨U.heap.size, 0, none⟩ = some (.int .i64 q0)) := fun W mW => ⟨mW.cell hnb.out.1 hi2H.out.c3, mW.cell hnb.out.2.1 hT2.c2, mW.cell hnb.out.2.2.1 (bxH.out 0 _ rfl)⟩
      have c49 := (m9'.block _ (lt_of_heap hi2H.out.c4) hnb.out.2.2.2.1).trans hi2H.out.c4
      have c59 := (m9'.block _ (lt_of_heap hi2H.out.c5) hnb.out.2.2.2.2).trans hi2H.out.c5
      have hb9 : Hid (∀ j u, #[Value.int .i64 q0, .int .i64 q1, .string q2, .bool true, .int .i64 q4, .string q5][j]? = some u → w9.cell? ⟨U.heap.size, j, none⟩ = some u) := fun j u hj => m9'.cell hnb.out.2.2.1 (bxH.out j u hj)
      have m9H := hidP m9'
      have hT9H := hidP hT9
      have hrunH := hidP hrun
      have c49H := hidP c49
      have c59H := hidP c59
      clear e1 e2 e3 hq0 hT2 hT9 m9 m9' a2 hrun c49 c59
      gi_wp2_with fail
      refine region_round (S := fun W => W.cell? ⟨w.heap.size, 0, none⟩ = some (.pointer (some ⟨bt, 0, none⟩)) ∧ W.cell? ⟨bt, 2, none⟩ = some (.map (some bm)) ∧ W.cell? ⟨U.heap.size, 0, none⟩ = some (.int .i64 q0)) (by kernel_rfl) (by kernel_rfl) (by rintro ⟨_, _, h⟩; exact h) (hSA.out _ (Mv.drew _ _)) (fun hHeld => ?_)
      refine wpAnyH_take (i := 0) (oi := ⟨some 13, _, _, _, _, _⟩) (v := ?v0) rfl (by kernel_rfl) (by kernel_rfl) (by kernel_rfl) (fun _ _ _ h => h) (Or.inl ⟨by rfl, ?hy0⟩) (by assumption) ?_
      case hy0 => (intro w hSw; (try dsimp only at hSw); go_simp; try with_reducible rfl)
      simp only [Act.put, List.setIfInBounds_toArray, List.set_cons_zero, List.set_cons_succ]
      refine wpAnyH_take (i := 1) (oi := ⟨some 14, _, _, _, _, _⟩) (v := ?v1) rfl (by kernel_rfl) (by kernel_rfl) (by kernel_rfl) (fun _ _ _ h => h) (Or.inl ⟨by rfl, ?hy1⟩) (by assumption) ?_
      case hy1 => (intro w hSw; (try dsimp only at hSw); go_simp; try with_reducible rfl)
      simp only [Act.put, List.setIfInBounds_toArray, List.set_cons_zero, List.set_cons_succ]
      refine wpAnyH_take (i := 2) (oi := ⟨some 15, _, _, _, _, _⟩) (v := ?v2) rfl (by kernel_rfl) (by kernel_rfl) (by kernel_rfl) (fun _ _ _ h => h) (Or.inl ⟨by rfl, ?hy2⟩) (by assumption) ?_
      case hy2 => (intro w hSw; (try dsimp only at hSw); go_simp; try with_reducible rfl)
      simp only [Act.put, List.setIfInBounds_toArray, List.set_cons_zero, List.set_cons_succ]
      refine wpAnyH_take (i := 3) (oi := ⟨some 16, _, _, _, _, _⟩) (v := ?v3) rfl (by kernel_rfl) (by kernel_rfl) (by kernel_rfl) (fun _ _ _ h => h) (Or.inl ⟨by rfl, ?hy3⟩) (by assumption) ?_
      case hy3 => (intro w hSw; (try dsimp only at hSw); go_simp; try with_reducible rfl)
      simp only [Act.put, List.setIfInBounds_toArray, List.set_cons_zero, List.set_cons_succ]
      refine wpAnyH_take (i := 4) (oi := ⟨some 17, _, _, _, _, _⟩) (v := ?v4) rfl (by kernel_rfl) (by kernel_rfl) (by kernel_rfl) (fun _ _ _ h => h) (Or.inl ⟨by rfl, ?hy4⟩) (by assumption) ?_
      case hy4 => (intro w hSw; (try dsimp only at hSw); go_simp; try with_reducible rfl)
      simp only [Act.put, List.setIfInBounds_toArray, List.set_cons_zero, List.set_cons_succ]
      refine wpAnyH_take (i := 5) (oi := ⟨some 18, _, _, _, _, _⟩) (v := ?v5) rfl (by kernel_rfl) (by kernel_rfl) (by kernel_rfl) (fun _ _ _ h => h) (Or.inl ⟨by rfl, ?hy5⟩) (by assumption) ?_
      case hy5 => (intro w hSw; (try dsimp only at hSw); go_simp; try with_reducible rfl)
      simp only [Act.put, List.setIfInBounds_toArray, List.set_cons_zero, List.set_cons_succ]
      refine wpAnyH_ready (rs := [6]) (by kernel_rfl) (by simp) ?_
      refine AllReadyH.cons (o := ⟨none, _, _, _, _, _⟩) rfl (fun K hK => ?_) AllReadyH.nil
      have hrun := hrunH.out
      go_simp
      refine hK.out _ _ (hSA.out _ m9H.out) (fun _ => ?_)
      clear hK K hrun
      refine wpAnyH_done (by kernel_rfl) ?_ _
      have x0 := hb9.out 0 _ rfl
      have x1 := hb9.out 1 _ rfl
      have x2 := hb9.out 2 _ rfl
      have x3 := hb9.out 3 _ rfl
      have x4 := hb9.out 4 _ rfl
      have x5 := hb9.out 5 _ rfl
      have y0 := cells_of c49H.out (j := 0) rfl
      have y1 := cells_of c49H.out (j := 1) rfl
      have y2 := cells_of c49H.out (j := 2) rfl
      have y3 := cells_of c49H.out (j := 3) rfl
      have y4 := cells_of c49H.out (j := 4) rfl
      have y5 := cells_of c49H.out (j := 5) rfl
      have f0 := froz_of c49H.out (j := 0)
      have f1 := froz_of c49H.out (j := 1)
      have f2 := froz_of c49H.out (j := 2)
      have f3 := froz_of c49H.out (j := 3)
      have f4 := froz_of c49H.out (j := 4)
      have f5 := froz_of c49H.out (j := 5)
      have z0 := cells_of c59H.out (j := 0) rfl
      have g0 := froz_of c59H.out (j := 0)
      gi_wp2_with fail
      obtain ⟨V, hV⟩ : ∃ V, ((((((w9.setCell ⟨w.heap.size + 1, 0, none⟩ (.int .i64 q0)).setCell ⟨w.heap.size + 1, 1, none⟩ (.int .i64 q1)).setCell ⟨w.heap.size + 1, 2, none⟩ (.string q2)).setCell ⟨w.heap.size + 1, 3, none⟩ (.bool true)).setCell ⟨w.heap.size + 1, 4, none⟩ (.int .i64 q4)).setCell ⟨w.heap.size + 1, 5, none⟩ (.string q5)).setCell ⟨w.heap.size + 1 + 1, 0, none⟩ (.int .i64 0) = V := ⟨_, rfl⟩
      obtain ⟨mp, hc4, hc5⟩ := put6 c49H.out c59H.out _ _ _ _ _ _ _ hV
      have hter := hi2H.out.ter
      have hbtm : bt < w.heap.size := hbt
      refine ⟨?_, E2, Gr.refl _ _, rfl, ⟨q0, q1, q2, true, q4, q5, q6, q7⟩, hfd.out, ?_, hter, ?_, ?_⟩
      · rw [hV]
        exact (m9H.out.mono (fun j _ e => (hter j).2 (.inl e))).trans' (mp.mono (fun j _ e => (hter j).2 (.inr e)))
      · rw [hV]
        exact hT9H.out.mv mp (by omega) (by omega)
      · rw [hV]; exact hc4
      · rw [hV]; exact hc5
  case done =>
    intro D E2 U hD hK hnD hm hg hi
    obtain ⟨pre, suf, e1, e2, e3⟩ := hi.st
    have hsuf : suf = [] := by
      rcases e2 with e | ⟨_, e⟩
      · exact e.symm
      · cases e
    subst hsuf
    rw [List.append_nil] at e1
    have hnone : rpP l parent = none := by
      unfold rpP
      rw [e1]
      exact List.find?_eq_none.2 (fun q hq => by simp [e3 q hq])
    have r1 : rpE l parent = 80 := by unfold rpE; rw [hnone]
    have r2 : rpL l parent = l := by unfold rpL; rw [hnone]
    have y0 := cells_of hi.c4 (j := 0) rfl
    have y1 := cells_of hi.c4 (j := 1) rfl
    have y2 := cells_of hi.c4 (j := 2) rfl
    have y3 := cells_of hi.c4 (j := 3) rfl
    have y4 := cells_of hi.c4 (j := 4) rfl
    have y5 := cells_of hi.c4 (j := 5) rfl
    have f0 := froz_of hi.c4 (j := 0)
    have f1 := froz_of hi.c4 (j := 1)
    have f2 := froz_of hi.c4 (j := 2)
    have f3 := froz_of hi.c4 (j := 3)
    have f4 := froz_of hi.c4 (j := 4)
    have f5 := froz_of hi.c4 (j := 5)
    have z0 := cells_of hi.c5 (j := 0) rfl
    have g0 := froz_of hi.c5 (j := 0)
    have hiH := hidP hi
    have hKH := hidP hK
    have hmH := hidP hm
    have r1H := hidP r1
    have r2H := hidP r2
    have r3H := hidP hnone
    clear hi hm e1 e2 e3 r1 r2 hnone hK
    gi_wp2_with fail
    obtain ⟨V, hV⟩ : ∃ V, ((((((U.setCell ⟨w.heap.size + 1, 0, none⟩ (.int .i64 0)).setCell ⟨w.heap.size + 1, 1, none⟩ (.int .i64 0)).setCell ⟨w.heap.size + 1, 2, none⟩ (.string ⟨#[]⟩)).setCell ⟨w.heap.size + 1, 3, none⟩ (.bool false)).setCell ⟨w.heap.size + 1, 4, none⟩ (.int .i64 0)).setCell ⟨w.heap.size + 1, 5, none⟩ (.string ⟨#[]⟩)).setCell ⟨w.heap.size + 1 + 1, 0, none⟩ (.int .i64 80) = V := ⟨_, rfl⟩
    obtain ⟨mp, hc4, hc5⟩ := put6 hiH.out.c4 hiH.out.c5 _ _ _ _ _ _ _ hV
    rw [hV]
    have hKV : V.heap[D]? = some (.deferred (some [])) := (mp.block D (lt_of_heap hKH.out) (by omega)).trans hKH.out
    refine ⟨by simp, .inl ⟨_, _, rfl, run_takeDeferred hKV, ?_⟩⟩
    have mP : Mv (fun j => j = D) V (V.putObj D (.deferred none)) := Mv.put (E := fun j => j = D) rfl _
    have k0 := mP.cell (a := ⟨w.heap.size + 1, 0, none⟩) (by show ¬ w.heap.size + 1 = D; omega) (hc4 0 _ rfl)
    have k1 := mP.cell (a := ⟨w.heap.size + 1, 1, none⟩) (by show ¬ w.heap.size + 1 = D; omega) (hc4 1 _ rfl)
    have k2 := mP.cell (a := ⟨w.heap.size + 1, 2, none⟩) (by show ¬ w.heap.size + 1 = D; omega) (hc4 2 _ rfl)
    have k3 := mP.cell (a := ⟨w.heap.size + 1, 3, none⟩) (by show ¬ w.heap.size + 1 = D; omega) (hc4 3 _ rfl)
    have k4 := mP.cell (a := ⟨w.heap.size + 1, 4, none⟩) (by show ¬ w.heap.size + 1 = D; omega) (hc4 4 _ rfl)
    have k5 := mP.cell (a := ⟨w.heap.size + 1, 5, none⟩) (by show ¬ w.heap.size + 1 = D; omega) (hc4 5 _ rfl)
    have k6 := mP.cell (a := ⟨w.heap.size + 2, 0, none⟩) (by show ¬ w.heap.size + 2 = D; omega) hc5
    rw [r1H.out, r2H.out, r3H.out]
    refine ⟨.tuple #[prV zPr, .int .i64 80], by simp [results, Try.results15, go_sem, k0, k1, k2, k3, k4, k5, k6, prV, zPr], rfl, (hiH.out.tb.mv mp (by omega) (by omega)).mv mP (by omega) (by omega), ?_⟩
    exact ((((Mv.below (E := fun k => k = bt ∨ k = bm) hbH.out).trans' (m5 _)).trans (E' := fun j => j = bm ∨ j = w.heap.size + 1 ∨ j = w.heap.size + 2) (fun j hj => by rcases hj with h | h | h; exact .inl (.inr h); exact .inr (by omega); exact .inr (by omega)) hmH.out).trans (E' := fun j => j = w.heap.size + 1 ∨ j = w.heap.size + 2) (fun j hj => .inr (by omega)) mp).put_new (by omega) _
  case stop =>
    rintro D c E2 U hD hK hnD hm hg ⟨rfl, p, hx⟩
    gi_wp2_with fail
    refine ⟨by simp, .inl ⟨_, _, rfl, run_takeDeferred hK, ?_⟩⟩
    have r1 : rpE l parent = 0 := by unfold rpE; rw [hx.fd]
    have r2 : rpL l parent = del l p.pid := by unfold rpL; rw [hx.fd]
    have r3 : (rpP l parent).getD zPr = p := by rw [hx.fd]; rfl
    rw [r1, r2, r3]
    have mP : Mv (fun j => j = D) U (U.putObj D (.deferred none)) := Mv.put (E := fun j => j = D) rfl _
    have k0 := mP.cell (a := ⟨w.heap.size + 1, 0, none⟩) (by show ¬ w.heap.size + 1 = D; omega) (hx.c4 0 _ rfl)
    have k1 := mP.cell (a := ⟨w.heap.size + 1, 1, none⟩) (by show ¬ w.heap.size + 1 = D; omega) (hx.c4 1 _ rfl)
    have k2 := mP.cell (a := ⟨w.heap.size + 1, 2, none⟩) (by show ¬ w.heap.size + 1 = D; omega) (hx.c4 2 _ rfl)
    have k3 := mP.cell (a := ⟨w.heap.size + 1, 3, none⟩) (by show ¬ w.heap.size + 1 = D; omega) (hx.c4 3 _ rfl)
    have k4 := mP.cell (a := ⟨w.heap.size + 1, 4, none⟩) (by show ¬ w.heap.size + 1 = D; omega) (hx.c4 4 _ rfl)
    have k5 := mP.cell (a := ⟨w.heap.size + 1, 5, none⟩) (by show ¬ w.heap.size + 1 = D; omega) (hx.c4 5 _ rfl)
    have k6 := mP.cell (a := ⟨w.heap.size + 2, 0, none⟩) (by show ¬ w.heap.size + 2 = D; omega) hx.c5
    refine ⟨.tuple #[prV p, .int .i64 0], by simp [results, Try.results15, go_sem, k0, k1, k2, k3, k4, k5, k6, prV], rfl, hx.tb.mv mP (by omega) (by omega), ?_⟩
    exact (((Mv.below (E := fun k => k = bt ∨ k = bm) hbH.out).trans' (m5 _)).trans (E' := fun j => j = bm ∨ j = w.heap.size + 1 ∨ j = w.heap.size + 2) (fun j hj => by rcases hj with h | h | h; exact .inl (.inr h); exact .inr (by omega); exact .inr (by omega)) hm).put_new (by omega) _
end Go.Proofs.Ytcikjnifkoagpaa
