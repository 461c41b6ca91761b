/- package proc's children as a row. -/
import Derived.Test.YtcikjnifkoagpaaPF
namespace Go.Proofs.Ytcikjnifkoagpaa
open Go.RowKit Go.Shelf
attribute [local go_sem] Oper.semAt_some
def notOf (parent : Int) (p : Pr) : Bool := !decide (p.par = parent)
set_option maxRecDepth 100000 in
set_option maxHeartbeats 4000000 in
theorem children_row (bt bm pt pp : Nat) (parent : Int) (l : Ps) (E : Nat → Prop) (W : World) (hlen : l.length ≤ 150) (hpid : ∀ p ∈ l, 2 ≤ p.pid ∧ p.pid ≤ 9223372036854775807)
    (ct : W.cell? ⟨pt, 0, none⟩ = some (.pointer (some ⟨bt, 0, none⟩))) (et : ¬ E pt) (cp : W.cell? ⟨pp, 0, none⟩ = some (.int .i64 parent)) (ep : ¬ E pp) :
    RowS Try.prog 33 #[.pointer (some ⟨pt, 0, none⟩), .pointer (some ⟨pp, 0, none⟩)] encP (notOf parent) (Lf bt bm l) (one :: l) E W := by
  intro l0 J Jx E1 V m g hJ hJx hL hsk hY h0
  have ctV := m.cell et ct
  have etV : ¬ E1 pt := g.free (cell_lt ct) et
  have cpV := m.cell ep cp
  have epV : ¬ E1 pp := g.free (cell_lt cp) ep
  have hlow := hJ.low _ _ _ h0
  clear m g ct et cp ep
  obtain ⟨W0, hW0⟩ : ∃ W0, V.alloc (.cells #[.func (.yield l0) #[] #[]] 72) = W0 := ⟨_, rfl⟩
  have mV : ∀ F, Mv F V W0 := fun F => by rw [← hW0]; exact Mv.alloc _ _ _
  have cy : W0.cell? ⟨V.heap.size, 0, none⟩ = some (.func (.yield l0) #[] #[]) := by rw [← hW0]; exact cell_at rfl rfl
  have hs0 : W0.heap.size = V.heap.size + 1 := by rw [← hW0]; simp
  have ct0 := (mV (fun _ => False)).cell (fun h => h) ctV
  have hAll := allm_any bt W0
  have hAllH := hidP hAll
  have hlowH := hidP hlow
  have hsH := hidP hs0
  have mVH := hidP mV
  have cyH := hidP cy
  clear hAll hlow hs0 mV cy
  refine (callsIn_wide (n := 5)).1 ?_
  refine callsIn_of_wp_marks Try.func33 rfl trivial ?_ rfl
  simp only [Try.ntmps33, List.size_toArray, List.length_cons, List.length_nil, Nat.reduceAdd, Nat.reduceSub, Array.replicate_succ, Array.replicate_zero, List.push_toArray, List.append_toArray, List.nil_append, List.cons_append]
  gi_wp2_with (rw [hW0])
  refine ⟨trivial, (callsIn_wide.2 hAllH.out).mono ?_⟩
  rintro e W1 ⟨rfl, hW1⟩
  have m1 : ∀ F, Mv F V W1 := fun F => by rw [hW1]; exact (mVH.out F).trans' (Mv.alloc _ _ _)
  have ct1 : W1.cell? ⟨W0.heap.size, 0, none⟩ = some (.pointer (some ⟨bt, 0, none⟩)) := by rw [hW1]; exact cell_at rfl rfl
  have cy1 : W1.cell? ⟨V.heap.size, 0, none⟩ = some (.func (.yield l0) #[] #[]) := by rw [hW1]; exact (Mv.alloc (fun _ => False) _ _).cell (fun h => h) cyH.out
  have hs1 : W1.heap.size = V.heap.size + 2 := by rw [hW1]; simp [hsH.out]
  have et1 : ¬ E1 W0.heap.size := fun h => by have := hlowH.out _ h; have := hsH.out; omega
  have ey1 : ¬ E1 V.heap.size := fun h => by have := hlowH.out _ h; omega
  have k0 : J (one :: l) E1 W1 := hJ.keep _ _ _ _ h0 (m1 _)
  have cp1 := (m1 (fun _ => False)).cell (fun h => h) cpV
  clear hW1 ct0 ctV
  gi_wp2_with fail
  have tI : Ter W1.heap.size J := hJ.up (by omega)
  refine loop_outS (gf := 34) (lb := #[.pointer (some ⟨W0.heap.size, 0, none⟩)]) rfl (enters_of Try.func34 (by kernel_rfl) rfl)
    (all_row bt bm W0.heap.size l E1 W1 hlen hpid ct1 et1) (fun _ => rfl)
    J (fun c E2 W => c = Code.ret ∧ Jx () E2 W) tI (((hJx.comp (fun _ => ())).up (by omega)).and (fun c => c = Code.ret))
    hL (fun x rest E W h => by cases h) k0 ?round ?done ?stop
  case round =>
    intro l1 hl1 x rest E2 U _ hi hm hg hEl hrec
    have hps : Hid (x.par = parent ∨ notOf parent x = true) := by
      show _ ∨ _
      by_cases h : x.par = parent
      · exact .inl h
      · exact .inr (by simp [notOf, h])
    have hYx : Hid (x.par = parent → ∀ W, J (x :: rest) E2 W → YieldAt Fence.wide 3 Try.prog l0 (encP x) W fun e V => Mv E2 W V ∧ ((e = .returned (.bool true) ∧ ∃ E', Gr E2 W E' ∧ J rest E' V) ∨ (e = .returned (.bool false) ∧ ∃ E', Gr E2 W E' ∧ Jx () E' V))) :=
      fun h W hj => hY x rest E2 W (by simp [notOf, h]) hj
    have hskx : Hid (notOf parent x = true → ∀ W, J (x :: rest) E2 W → J rest E2 W) := fun h W hj => hsk x rest E2 W h hj
    obtain ⟨p0, p1, p2, p3, p4, p5, p6, p7⟩ := x
    simp only [encP, prV]
    gi_wp2_with fail
    have hlt : l1 < U.heap.size := by obtain ⟨r, hr⟩ := hrec; exact (Array.getElem?_eq_some_iff.1 hr).1
    refine ⟨⟨Mv.alloc _ _ _, Below.heap_alloc _ _ _ hlt⟩, fun U2 tw => ?_⟩
    obtain ⟨hi2, hm2⟩ := tw.go tI hi (Mv.alloc _ _ _) hm (Nat.le_refl _) hl1 hEl
    have bx : ∀ j u, #[Value.int .i64 p0, .int .i64 p1, .string p2, .bool p3, .int .i64 p4, .string p5][j]? = some u → U2.cell? ⟨U.heap.size, j, none⟩ = some u := fun j u hj => tw.mv.cell (a := ⟨U.heap.size, j, none⟩) (by show ¬ U.heap.size = l1; omega) (cell_at rfl hj)
    have b0 := bx 0 _ rfl
    have b1 := bx 1 _ rfl
    have b2 := bx 2 _ rfl
    have b3 := bx 3 _ rfl
    have b4 := bx 4 _ rfl
    have b5 := bx 5 _ rfl
    have cp2 := hm2.cell epV cp1
    have cy2 := hm2.cell ey1 cy1
    have hi2H := hidP hi2
    clear bx hi hm tw hrec hi2 k0 hm2
    rcases hps.out with hpar | hpar
    · have hpar' : p1 = parent := hpar
      clear hpar
      subst hpar'
      obtain ⟨fn, tmps, assign, body, hy, hR⟩ := hYx.out rfl U2 hi2H.out
      simp only [encP, prV] at hy
      have hRH := hidP hR
      clear hR hYx hskx hps
      gi_wp2_with fail
      refine (wide_round hRH.out).mono ?_
      rintro e W3 ⟨m3, (⟨rfl, E3, g3, hj3⟩ | ⟨rfl, E3, g3, hj3⟩)⟩
      · gi_wp2_with fail
        exact ⟨m3, E3, g3, hj3⟩
      · gi_wp2_with fail
        exact ⟨m3, E3, g3, rfl, hj3⟩
    · have hj := hskx.out hpar U2 hi2H.out
      have hne : (p1 == parent) = false := by simpa [notOf] using hpar
      have hjH := hidP hj
      clear hYx hskx hps hpar hj
      gi_wp2_with fail
      refine ⟨fun _ h => (by cases h), ?_⟩
      gi_wp2_with fail
      exact ⟨Mv.refl _ _, E2, Gr.refl _ _, hjH.out⟩
  case done =>
    intro D E2 U hD hK hnD hm hg hi
    gi_wp2
    refine ⟨by simp, .inl ⟨_, _, rfl, run_takeDeferred hK, ?_⟩⟩
    exact ⟨_, results_none rfl _ _ _, ⟨_, rfl⟩, ((m1 _).trans' hm).put_new (by omega) _, .inl ⟨E2, hg.mono (m1 (fun _ => False)).size, hJ.keep _ _ _ _ hi (.put ⟨hnD, by omega⟩ _)⟩⟩
  case stop =>
    rintro D c E2 U hD hK hnD hm hg ⟨rfl, hi⟩
    gi_wp2
    refine ⟨by simp, .inl ⟨_, _, rfl, run_takeDeferred hK, ?_⟩⟩
    exact ⟨_, results_none rfl _ _ _, ⟨_, rfl⟩, ((m1 _).trans' hm).put_new (by omega) _, .inr ⟨E2, hg.mono (m1 (fun _ => False)).size, hJx.keep _ _ _ _ hi (.put ⟨hnD, by omega⟩ _)⟩⟩
theorem childm_any (bt : Nat) (parent : Int) (w : World) : Calls Try.prog 29 #[.pointer (some ⟨bt, 0, none⟩), .int .i64 parent] w fun e w' => e = .returned (.func (.func 33) #[] #[.pointer (some ⟨w.heap.size, 0, none⟩), .pointer (some ⟨w.heap.size + 1, 0, none⟩)]) ∧ w' = (w.alloc (.cells #[.pointer (some ⟨bt, 0, none⟩)] 24)).alloc (.cells #[.int .i64 parent] 3) := by
  go_enter Try.func29, Try.ntmps29
  go_wp2_with fail
  go_ret
  exact ⟨rfl, rfl⟩
end Go.Proofs.Ytcikjnifkoagpaa
