/- The contract of package kern's members and KillGroup. -/
import Derived.Test.YtgienkdfodjoiaaGreatK6
namespace Go.Proofs.YtgienkdfodjoiaaGreat
open Go.RowKit Go.Shelf Go.Lib
attribute [local go_sem] Oper.semAt_some
theorem Kg.out {K K1 : Kst} {w W V : World} {d : Nat} {F : Nat → Prop} (h : Kg K w K1 W d) (m : Mv F W V) (hF : ∀ k, F k → ¬ hasK K1 k ∧ w.heap.size ≤ k) : Kg K w K1 V d :=
  ⟨h.k.mv m (fun k hk f => (hF k f).1 hk), h.bt, h.mv.trans (fun k f => .inr (hF k f).2) m, h.gr, h.c, fun j h1 h2 => (m.cellq (a := ⟨K.S.bt, j, none⟩) (fun f => (hF _ f).1 (by rw [← h.bt]; exact .inr (Cg.hasT _))) (by have := h.k.t.lt; rw [h.bt] at this; exact this)).trans (h.cells j h1 h2)⟩
def encI (x : Int) : Array Value := #[.int .i64 x]
set_option maxRecDepth 100000 in
set_option maxHeartbeats 2000000 in
theorem values_row (l : List Int) (b : Nat) (v : Value) (E : Nat → Prop) (W : World) (cv : W.cell? ⟨b, 0, none⟩ = some v) (eb : ¬ E b) (hs : Cg.IR W v l) (hE : ∀ k, Cg.nb v = some k → ¬ E k) (hl : l.length ≤ 1000000000) :
    Row Tryz.prog 110 #[.pointer (some ⟨b, 0, none⟩)] encI l E W := by
  intro u J Jx E1 V m g hJ hJx hY h0
  have d1 := m.cell (a := ⟨b, 0, none⟩) eb cv
  have f1 : ¬ E1 b := g.free (cell_lt cv) eb
  obtain ⟨p, cap, rfl, hc⟩ := hs
  have hcel : Hid (∀ (j : Nat) (x : Int), l[j]? = some x → ∃ gb o, p = some ⟨gb, o, none⟩ ∧ ∀ wr, Mv E1 V wr → wr.cell? ⟨gb, o + j, none⟩ = some (.int .i64 x)) := by
    intro j x hx
    rcases hc with rfl | ⟨gb, o, rfl, hc⟩
    · cases hx
    · have c := hc j x hx
      have e := hE gb rfl
      exact ⟨gb, o, rfl, fun wr m2 => m2.cell (a := ⟨gb, o + j, none⟩) (g.free (cell_lt c) e) (m.cell (a := ⟨gb, o + j, none⟩) e c)⟩
  obtain ⟨n, hn⟩ : ∃ n, l.length = n := ⟨_, rfl⟩
  rw [hn] at d1 hl
  have hN : Hid (l.length = n) := hn
  clear hn cv hE hc
  refine (callsIn_wide (n := 5)).1 ?_
  refine callsIn_of_wp Tryz.func110 rfl trivial ?_ rfl
  simp only [Tryz.ntmps110, List.size_toArray, List.length_cons, List.length_nil, Nat.reduceAdd, Nat.reduceSub, Array.replicate_succ, Array.replicate_zero, List.push_toArray, List.append_toArray, List.nil_append, List.cons_append]
  gi_wp2
  gi_loopw [7] (fun i wr => ∃ (k : Nat) (E2 : Nat → Prop), k ≤ n ∧ i = .int .i64 k ∧ J (l.drop k) E2 wr ∧ Mv E1 V wr ∧ Gr E1 V E2) (fun i _ => n - (intOf i).toNat)
  case atStart => exact ⟨0, E1, by omega, rfl, h0, Mv.refl _ _, Gr.refl _ _⟩
  case round =>
    obtain ⟨k, E2, k0, rfl, hj, hm, hg⟩ := hrel
    have d3 := hm.cell (a := ⟨b, 0, none⟩) f1 d1
    by_cases hlt : k < n
    · have hltI : (k : Int) < (n : Int) := by omega
      obtain ⟨x, hx⟩ : ∃ x, l[k]? = some x := ⟨_, List.getElem?_eq_getElem (by rw [hN.out]; omega)⟩
      have hdr : l.drop k = x :: l.drop (k + 1) := by
        obtain ⟨h1, h2⟩ := List.getElem?_eq_some_iff.1 hx
        rw [List.drop_eq_getElem_cons h1, h2]
      rw [hdr] at hj
      obtain ⟨gb, o, rfl, hcw⟩ := hcel.out k x hx
      have p0 := hcw wr hm
      obtain ⟨fn, tmps, assign, body, hy, hR⟩ := hY x _ E2 wr hj
      dsimp only [encI] at hy
      clear hx hcw hj hdr
      gi_wp2
      refine (wide_round' hR).mono ?_
      rintro e W3 ⟨m3, (⟨rfl, E3, g3, hj3⟩ | ⟨rfl, E3, g3, hj3⟩)⟩
      · gi_wp2
        exact ⟨⟨k + 1, E3, by omega, by push_cast; rfl, hj3, hm.trans hg m3, hg.trans hm.size g3⟩, by simp [intOf]; omega⟩
      · gi_wp2
        refine bodyPost_ret (results_none rfl _ _ _) rfl ?_
        exact ⟨⟨_, rfl⟩, hm.trans hg m3, .inr ⟨E3, hg.trans hm.size g3, hj3⟩⟩
    · obtain rfl : k = n := by omega
      have hnil : l.drop k = [] := List.drop_eq_nil_of_le (by rw [hN.out]; omega)
      rw [hnil] at hj
      gi_wp2
      go_end0
      exact ⟨⟨_, rfl⟩, hm, .inl ⟨E2, hg, hj⟩⟩
set_option maxRecDepth 100000 in
set_option maxHeartbeats 1000000 in
theorem values_any (p : Option Addr) (n c : Nat) (w : World) : Calls Tryz.prog 97 #[.slice p n c] w fun e w' => e = .returned (.func (.func 110) #[] #[.pointer (some ⟨w.heap.size, 0, none⟩)]) ∧ w' = w.alloc (.cells #[.slice p n c] 81) := by
  go_enter Tryz.func97, Tryz.ntmps97
  go_wp2_with fail
  go_ret
  exact ⟨rfl, rfl⟩
/-- The members of a group, as cgroup tells them. -/
theorem membs_any {K : Kst} {w : World} (h : Ks w K) (hc : K.S.c ≤ 1000000) (g : ByteArray) (hg : g.size ≤ 1000) : Calls Tryz.prog 44 #[.pointer (some ⟨K.S.bt, 3, none⟩), .string g] w fun e w' => ∃ v, e = .returned v ∧ Cg.IR w' v (Cg.mOf K.S.l g) ∧ (∀ k, Cg.nb v = some k → w.heap.size ≤ k) ∧ Below w.heap.size w w' := by
  unfold Cg.mOf
  cases e : Cg.fnd K.S.l g with
  | some x =>
    exact Cg.members_some (K.S.at w) g x w h.g hg e hc
  | none =>
    refine (Cg.members_none (K.S.at w) g w h.g hg e).mono ?_
    rintro e w' ⟨rfl, b⟩
    exact ⟨_, rfl, ⟨none, 0, rfl, .inl rfl⟩, fun k hk => (by cases hk), b⟩
set_option maxRecDepth 100000 in
set_option maxHeartbeats 1000000 in
theorem kmembs_any {K : Kst} {w : World} (h : Ks w K) (hc : K.S.c ≤ 1000000) (g : ByteArray) (hg : g.size ≤ 1000) : Calls Tryz.prog 74 #[kp K, .string g] w fun e w' => ∃ b v, e = .returned (.func (.func 110) #[] #[.pointer (some ⟨b, 0, none⟩)]) ∧ w'.cell? ⟨b, 0, none⟩ = some v ∧ w.heap.size ≤ b ∧ Cg.IR w' v (Cg.mOf K.S.l g) ∧ (∀ k, Cg.nb v = some k → w.heap.size ≤ k) ∧ Below w.heap.size w w' := by
  have hM := membs_any h hc g hg
  clear h
  unfold kp
  go_enter Tryz.func74, Tryz.ntmps74
  go_wp2_with fail
  refine hM.mono ?_
  rintro e w1 ⟨v, rfl, hv, hn, hb⟩
  obtain ⟨p, c, rfl, _⟩ := id hv
  have hV := values_any p (Cg.mOf K.S.l g).length c w1
  have fin : Hid (∀ W, W = w1.alloc (.cells #[.slice p (Cg.mOf K.S.l g).length c] 81) → ∃ b v', Ending.returned (.func (.func 110) #[] #[.pointer (some ⟨w1.heap.size, 0, none⟩)]) = .returned (.func (.func 110) #[] #[.pointer (some ⟨b, 0, none⟩)]) ∧ W.cell? ⟨b, 0, none⟩ = some v' ∧ w.heap.size ≤ b ∧ Cg.IR W v' (Cg.mOf K.S.l g) ∧ (∀ k, Cg.nb v' = some k → w.heap.size ≤ k) ∧ Below w.heap.size w W) := fun W hW => by
    subst hW
    exact ⟨_, _, rfl, cell_at rfl rfl, hb.size, hv.mv (Mv.alloc (fun _ => False) _ _) (fun _ _ h => h), hn, hb.alloc hb.size _⟩
  clear hM hv hn hb
  go_wp2_with fail
  refine hV.mono ?_
  rintro e w2 ⟨rfl, hw2⟩
  have fin2 := hidK (fin.out w2 hw2)
  clear hV hw2 fin
  go_wp2_with fail
  go_ret
  exact fin2.out
def kgL (s : Int) : Pc.Ps → List Int → Pc.Ps
  | l, [] => l
  | l, p :: r => kgL s (Pc.klL l p s) r
def kgC (s : Int) : Pc.Ps → List Int → Int
  | _, [] => 0
  | l, p :: r => (if Pc.klE l p s = 0 then 1 else 0) + kgC s (Pc.klL l p s) r
theorem kgC_rng (s : Int) : ∀ (ps : List Int) (l : Pc.Ps), 0 ≤ kgC s l ps ∧ kgC s l ps ≤ ps.length
  | [], _ => by simp [kgC]
  | p :: r, l => by
    have := kgC_rng s r (Pc.klL l p s)
    simp only [kgC, List.length_cons]
    split <;> omega
theorem kgL_pids (s : Int) : ∀ (ps : List Int) (l : Pc.Ps), (kgL s l ps).map (·.pid) = l.map (·.pid)
  | [], _ => rfl
  | p :: r, l => by
    show (kgL s (Pc.klL l p s) r).map _ = _
    rw [kgL_pids s r]
    unfold Pc.klL
    split
    · exact Pc.rep_pids _ _
    · rfl
/-- How far the killing has come. -/
def GI2 (K : Kst) (w : World) (C : Nat) (s : Int) (L : Pc.Ps) (N : Int) (rest : List Int) (E : Nat → Prop) (W : World) : Prop :=
  (∀ k, E k ↔ (k = C ∨ hasK K k)) ∧ ∃ (l1 : Pc.Ps) (c : Int), Kg K w { K with last := K.last, l := l1 } W 0 ∧ Cl C (.int .i64 c) W ∧ Pc.Wf K.room K.last l1 ∧ kgL s l1 rest = L ∧ c + kgC s l1 rest = N ∧ 0 ≤ c ∧ (∀ p ∈ rest, 2 ≤ p ∧ p ≤ 9223372036854775807)
def GX2 (_ : Code) (_ : Nat → Prop) (_ : World) : Prop := False
theorem GX2.ter (b : Nat) : Ter b GX2 := ⟨fun _ _ _ _ h _ => h.elim, fun _ _ _ h => h.elim⟩
theorem GI2.ter {B : Nat} {K : Kst} {w : World} {C : Nat} {s : Int} {L : Pc.Ps} {N : Int} (hB : w.heap.size ≤ B) : Ter B (GI2 K w C s L N) :=
  ⟨fun r E W V h m => by
    obtain ⟨hE, l1, c, h1, h2, h3⟩ := h
    exact ⟨hE, l1, c, h1.out m (fun k f => ⟨fun q => f.1 ((hE k).2 (.inr q)), by have := f.2; omega⟩), h2.mv m (fun f => f.1 ((hE C).2 (.inl rfl))), h3⟩,
   fun r E W h k hk => by
    obtain ⟨hE, l1, c, h1, h2, _⟩ := h
    rcases (hE k).1 hk with rfl | q
    · exact h2.lt
    · exact h1.k.lt q⟩
set_option maxRecDepth 100000 in
set_option maxHeartbeats 4000000 in
theorem killg_any {K : Kst} {w : World} (h : Ks w K) (hw : Kw K) (g : ByteArray) (hg : g.size ≤ 1000) (s : Int) :
    Calls Tryz.prog 23 #[kp K, .string g, .int .i64 s] w fun e w' => e = .returned (.int .i64 (kgC s K.l (Cg.mOf K.S.l g))) ∧ Kg K w { K with last := K.last, l := kgL s K.l (Cg.mOf K.S.l g) } w' 0 := by
  obtain ⟨V0, hV0⟩ : ∃ V0, ((w.alloc (.cells #[kp K] 24)).alloc (.cells #[.int .i64 s] 3)).alloc (.cells #[.int .i64 0] 3) = V0 := ⟨_, rfl⟩
  obtain ⟨n, hn⟩ : ∃ n, w.heap.size = n := ⟨_, rfl⟩
  obtain ⟨W0, hW0⟩ : ∃ W0, V0.setCell ⟨n + 1 + 1, 0, none⟩ (.int .i64 0) = W0 := ⟨_, rfl⟩
  have hsV : V0.heap.size = n + 3 := by rw [← hV0]; simp [hn]
  have mS : Mv (fun k => k = n + 2) V0 W0 := by rw [← hW0]; exact Mv.set1 (E := fun k => k = n + 2) rfl _
  have bV : Below w.heap.size w V0 := by rw [← hV0]; exact (((Below.refl _ _).alloc (Nat.le_refl _) _).alloc (by simp) _).alloc (by simp; omega) _
  have b0 : Below w.heap.size w W0 := bV.trans (mS.toBelow bV.size (fun k hk e => by omega))
  have hs0 : W0.heap.size = n + 3 := by rw [← hW0]; simpa using hsV
  have ckV : V0.cell? ⟨n, 0, none⟩ = some (kp K) := by rw [← hV0]; exact (Mv.alloc (fun _ => False) _ _).cell (a := ⟨n, 0, none⟩) (fun h => h) ((Mv.alloc (fun _ => False) _ _).cell (a := ⟨n, 0, none⟩) (fun h => h) (cell_at hn rfl))
  have csV : V0.cell? ⟨n + 1, 0, none⟩ = some (.int .i64 s) := by rw [← hV0]; exact (Mv.alloc (fun _ => False) _ _).cell (a := ⟨n + 1, 0, none⟩) (fun h => h) (cell_at (by simp [hn]) rfl)
  have ccV : Cl (n + 1 + 1) (.int .i64 0) V0 := by rw [← hV0]; exact Cl.new _ _ _ _ (by simp [hn])
  have ck0 := mS.cell (a := ⟨n, 0, none⟩) (by show ¬ n = n + 2; omega) ckV
  have cs0 := mS.cell (a := ⟨n + 1, 0, none⟩) (by show ¬ n + 1 = n + 2; omega) csV
  have cc0 : Cl (n + 2) (.int .i64 0) W0 := by rw [← hW0]; exact ccV.set _
  have z0 := ccV.c
  have z1 := ccV.f
  clear hsV mS bV ckV csV ccV
  have hM := kmembs_any (h.below b0) (by have := hw.gc; omega) g hg
  have hKlt : ∀ k, hasK K k → k < n := fun k hk => by rw [← hn]; exact h.lt hk
  obtain ⟨ps, hps⟩ : ∃ ps, Cg.mOf K.S.l g = ps := ⟨_, rfl⟩
  have hpr : ∀ p ∈ ps, 2 ≤ p ∧ p ≤ 9223372036854775807 := fun p hp => by
    rw [← hps] at hp
    unfold Cg.mOf at hp
    cases e : Cg.fnd K.S.l g with
    | none => rw [e] at hp; cases hp
    | some x => rw [e] at hp; exact h.g.wf.rng x (Cg.fnd_mem e) p hp
  have hpl : ps.length ≤ 1000000 := by
    rw [← hps]
    unfold Cg.mOf
    cases e : Cg.fnd K.S.l g with
    | none => simp
    | some x => have := h.g.pl x (Cg.fnd_mem e); have := hw.gc; exact Nat.le_trans ‹x.pids.length ≤ (K.S.at w).c› (show K.S.c ≤ _ by omega)
  rw [hps] at hM ⊢
  have kg0 : Kg K w { K with last := K.last, l := K.l } W0 0 := Kg.below h b0
  have hC := kgC_rng s ps K.l
  obtain ⟨L, hL⟩ : ∃ L, kgL s K.l ps = L := ⟨_, rfl⟩
  obtain ⟨N, hN⟩ : ∃ N, kgC s K.l ps = N := ⟨_, rfl⟩
  rw [hL, hN]
  rw [hN] at hC
  have hNb : Hid (N ≤ 1000000) := by show _ ≤ _; omega
  have hLH := hidK hL
  have hNH := hidK hN
  have hnH := hidK hn
  have b0H := hidK b0
  have ck0H := hidK ck0
  have cs0H := hidK cs0
  have cc0H := hidK cc0
  have hs0H := hidK hs0
  have hKltH := hidK hKlt
  have kg0H := hidK kg0
  have hprH := hidK hpr
  have hwH := hidK hw
  clear b0 ck0 cs0 cc0 hs0 hKlt h hw kg0 hpr hps hL hN hC
  unfold kp at hV0 hM ck0H ⊢
  refine (callsIn_wide (n := 5)).1 ?_
  refine callsIn_of_wp_marks Tryz.func23 rfl trivial ?_ rfl
  simp only [Tryz.ntmps23, List.size_toArray, List.length_cons, List.length_nil, Nat.reduceAdd, Nat.reduceSub, Array.replicate_succ, Array.replicate_zero, List.push_toArray, List.append_toArray, List.nil_append, List.cons_append]
  have ck0' := ck0H.out
  gi_wp2_with (first | rw [hV0] | rw [hW0])
  refine ⟨trivial, (callsIn_wide.2 hM).mono ?_⟩
  rintro e W1 ⟨b, v, rfl, cb, hb, hv, hvn, hB⟩
  have m1 : ∀ F, Mv F W0 W1 := fun F => Mv.below hB
  have hsz1 := hB.size
  have hs0 := hs0H.out
  have cs1 := (m1 (fun _ => False)).cell (a := ⟨n + 1, 0, none⟩) (fun h => h) cs0H.out
  have ck1 := (m1 (fun _ => False)).cell (a := ⟨n, 0, none⟩) (fun h => h) ck0H.out
  have cc1 := cc0H.out.mv (m1 (fun _ => False)) (fun h => h)
  have kg1 := kg0H.out.out (m1 (fun _ => False)) (fun _ f => f.elim)
  obtain ⟨E, hE⟩ : ∃ E : Nat → Prop, ∀ j, E j ↔ (j = n + 2 ∨ hasK K j) := ⟨_, fun _ => Iff.rfl⟩
  have nE : ∀ {k}, n ≤ k → k ≠ n + 2 → ¬ E k := fun {k} q q2 e => by
    rcases (hE k).1 e with r | r
    · exact q2 r
    · have := hKltH.out k r; omega
  have hrow := values_row ps b v E W1 cb (nE (by omega) (by omega)) hv (fun k hk => by have := hvn k hk; exact nE (by omega) (by omega)) (by omega)
  have h0I : GI2 K w (n + 2) s L N ps E W1 := ⟨hE, K.l, 0, kg1, cc1, hwH.out.pw, hLH.out, by rw [hNH.out]; omega, Int.le_refl _, hprH.out⟩
  have tI : Ter W1.heap.size (GI2 K w (n + 2) s L N) := GI2.ter (by have := hnH.out; omega)
  have cU : Hid (∀ U, Mv E W1 U → U.cell? ⟨n, 0, none⟩ = some (.pointer (some ⟨K.S.bt, 0, none⟩)) ∧ U.cell? ⟨n + 1, 0, none⟩ = some (.int .i64 s)) := fun U m => ⟨m.cell (a := ⟨n, 0, none⟩) (nE (k := n) (by omega) (by omega)) ck1, m.cell (a := ⟨n + 1, 0, none⟩) (nE (k := n + 1) (by omega) (by omega)) cs1⟩
  have hKn : Hid (¬ hasK K (n + 2)) := fun q => by have := hKltH.out _ q; omega
  have hWn := hidK (show n + 3 ≤ W1.heap.size by omega)
  clear hM hv hvn hB cb hb m1 cs1 ck1 cc1 kg1 hsz1 hs0
  gi_wp2_with fail
  refine loop_out (gf := 110) (lb := #[.pointer (some ⟨b, 0, none⟩)]) rfl (enters_of Tryz.func110 (by kernel_rfl) rfl) hrow (fun _ => rfl) (GI2 K w (n + 2) s L N) GX2 tI (GX2.ter _) h0I ?round ?done ?stop
  case stop => rintro D c' E2 U _ _ _ _ _ h; exact h.elim
  case round =>
    rintro l1 hl1 x rest E2 U hi hm hgr hEl hrec
    simp only [encI]
    gi_wp2
    refine ⟨⟨Mv.refl _ _, trivial⟩, fun U2 tw => ?_⟩
    obtain ⟨⟨hE2, la, c, kg, hc, hwf, e1, e2, hc0, hpr⟩, hm2⟩ := tw.go tI hi (Mv.refl _ _) hm (Nat.le_refl _) (by omega) hEl
    obtain ⟨ck2, cs2⟩ := cU.out U2 hm2
    have hx := hpr x (by simp)
    have hwU : Kw { K with last := K.last, l := la } := ⟨hwf, hwH.out.la, hwH.out.gs, hwH.out.gl, hwH.out.gc⟩
    have hk := kill_any kg.k hwU x s (by omega) (by omega)
    have hcr := kgC_rng s rest (Pc.klL la x s)
    have e2' : c + ((if Pc.klE la x s = 0 then 1 else 0) + kgC s (Pc.klL la x s) rest) = N := e2
    have e1' : kgL s (Pc.klL la x s) rest = L := e1
    unfold kp at hk
    simp only at hk
    have kgH := hidK kg
    have hcH := hidK hc
    have hwfH := hidK (hwf.kill x s)
    have hprH2 : Hid (∀ p ∈ rest, 2 ≤ p ∧ p ≤ 9223372036854775807) := fun p hp => hpr p (by simp [hp])
    have hE2H := hidK hE2
    have e1H := hidK e1'
    have hkH := hidK hk
    obtain ⟨x1, hx1⟩ : ∃ x1, Pc.klE la x s = x1 := ⟨_, rfl⟩
    obtain ⟨la2, hla2⟩ : ∃ la2, Pc.klL la x s = la2 := ⟨_, rfl⟩
    rw [hx1, hla2] at hkH
    rw [hx1, hla2] at e2'
    rw [hla2] at e1H hcr hwfH
    have e2H := hidK e2'
    have hNb' := hNb.out
    have hcb : Hid (c ≤ 1000000) := by show _ ≤ _; split at e2' <;> omega
    have hc0H := hidK hc0
    clear tw hi hm hrec hgr hEl hE2 kg hc hwf e1 e2 e1' e2' hpr hm2 hx hwU hk hcr hx1 hla2 h0I hNb' hc0 hrow
    gi_wp2_with fail
    refine ⟨trivial, (CallsIn.inRound l1 (callsIn_wide.2 hkH.out)).mono ?_⟩
    rintro e U3 ⟨rfl, k3⟩
    have kg3 := hidK (kgH.out.trans k3)
    have hc3 := hcH.out.mv k3.mv (fun q => hKn.out q)
    have m3 : Hid (Mv E2 U2 U3) := k3.mv.mono (fun k _ q => (hE2H.out k).2 (.inr q))
    have c3 := hc3.c
    have f3 := hc3.f
    have hc3H := hidK hc3
    clear k3 hc3
    by_cases hx0 : x1 = 0
    · subst hx0
      have hcI : c ≤ 1000000 := hcb.out
      have hcI0 : 0 ≤ c := hc0H.out
      have hset := hidK (hc3H.out.set (.int .i64 (c + 1)))
      have hfin : Hid (Mv E2 U2 (U3.setCell ⟨n + 2, 0, none⟩ (.int .i64 (c + 1))) ∧ Kg K w { K with last := K.last, l := la2 } (U3.setCell ⟨n + 2, 0, none⟩ (.int .i64 (c + 1))) 0) :=
        ⟨m3.out.trans' (Mv.set1 ((hE2H.out _).2 (.inl rfl)) _), kg3.out.out (F := fun k => k = n + 2) (Mv.set1 (E := fun k => k = n + 2) rfl _) (fun k f => by rw [f]; exact ⟨hKn.out, by have := hnH.out; omega⟩)⟩
      gi_wp2_with fail
      refine ⟨hfin.out.1, E2, Gr.refl _ _, hE2H.out, la2, c + 1, hfin.out.2, hset.out, hwfH.out, e1H.out, ?_, by omega, hprH2.out⟩
      have := e2H.out
      simp only [if_true] at this
      omega
    · have hx0' : (x1 == 0) = false := by simpa using hx0
      gi_wp2_with fail
      refine ⟨m3.out, E2, Gr.refl _ _, hE2H.out, la2, c, kg3.out, hc3H.out, hwfH.out, e1H.out, ?_, hc0H.out, hprH2.out⟩
      have := e2H.out
      rw [if_neg hx0] at this
      omega
  case done =>
    rintro D E2 U hD hK hnD hm hgr ⟨hE2, la, c, kg, hc, hwf, e1, e2, hc0, hpr⟩
    have e1' : la = L := e1
    have e2' : c = N := by have : c + 0 = N := e2; omega
    subst e1' e2'
    have hDn : ¬ hasK K D := fun q => hnD ((hE2 D).2 (.inr q))
    have fin : Hid (Kg K w { K with last := K.last, l := la } (U.putObj D (.deferred none)) 0) := kg.out (F := fun k => k = D) (Mv.put (E := fun k => k = D) rfl _) (fun k f => by rw [f]; exact ⟨hDn, by have := hnH.out; have := hWn.out; omega⟩)
    have c1 := hc.c
    have hKH := hidK hK
    clear hm hgr hE2 kg hc hwf e1 e2 hpr hK hrow h0I tI hDn
    gi_wp2_with fail
    refine ⟨by simp, .inl ⟨_, _, rfl, run_takeDeferred hKH.out, ?_⟩⟩
    exact ⟨.int .i64 c, by simp [results, Tryz.results23, go_sem], rfl, fin.out⟩
end Go.Proofs.YtgienkdfodjoiaaGreat
