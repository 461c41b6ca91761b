/- The contract of FileMerges's first closure: both rows grow by one, whatever order the two appends go in. (Written by tools/genm9.py.) -/
import Derived.Test.YtiinhfbfciccnaaDoorM9aB
import Derived.Deep.AppendLies
import Derived.Deep.RegionHeld
import Derived.Deep.DeepCutAuto
namespace Go.Proofs.YtiinhfbfciccnaaDoor
open Go.RowKit Go.Shelf
theorem one_news {w : World} {g : Nat} {c : Value} (h : w.cell? ⟨g, 0, none⟩ = some c) : ∀ j u, [c][j]? = some u → w.cell? ((⟨g, 0, none⟩ : Addr).add j) = some u := by
  intro j u hj
  match j, hj with
  | 0, hj => simp at hj; subst hj; simpa [Addr.add] using h
/-- Between the region's steps. -/
structure FF (B pa pb : Nat) (v1 v2 : Value) (V : World) (r1 r2 : Value) (n1 n2 : Nat) (x1 x2 : List Value) (x : World) : Prop where
  c1 : Cl pa v1 x
  c2 : Cl pb v2 x
  mm : Mv (Td2 B pa pb) V x
  o1 : x.ownsRow B 3 1 r1 n1 x1
  o2 : x.ownsRow B 9 1 r2 n2 x2
theorem FF.al {B pa pb : Nat} {v1 v2 : Value} {V : World} {r1 r2 : Value} {n1 n2 : Nat} {x1 x2 : List Value} {x : World} (h : FF B pa pb v1 v2 V r1 r2 n1 n2 x1 x2 x) (o : Obj) : FF B pa pb v1 v2 V r1 r2 n1 n2 x1 x2 (x.alloc o) :=
  ⟨h.c1.mv (Mv.alloc (fun _ => False) _ _) (fun h => h), h.c2.mv (Mv.alloc (fun _ => False) _ _) (fun h => h), h.mm.trans' (Mv.alloc _ _ _), own_mv h.o1 (Mv.alloc (fun _ => False) _ _) (fun _ _ h => h), own_mv h.o2 (Mv.alloc (fun _ => False) _ _) (fun _ _ h => h)⟩
theorem kal {x : World} {a : Addr} {v : Value} (h : x.cell? a = some v) (o : Obj) : (x.alloc o).cell? a = some v := (Mv.alloc (fun _ => False) x o).cell (fun h => h) h
theorem knew {x : World} {n : Nat} (hn : x.heap.size = n) (c : Value) (t : TypeId) : (x.alloc (.cells #[c] t)).cell? ⟨n, 0, none⟩ = some c := cell_at hn rfl
theorem kgr {x y : World} {g : Nat} {c v : Value} {V : World} (k : x.cell? ⟨g, 0, none⟩ = some c) (hg : x.grownBy y v.ownBlock) (u : ∀ k, v.ownBlock = some k → k < V.heap.size) (hG : V.heap.size ≤ g) : y.cell? ⟨g, 0, none⟩ = some c :=
  Mv.cell (E := fun k => v.ownBlock = some k) ((Mv.refl _ _).grown hg (fun k e => .inl e)) (a := ⟨g, 0, none⟩) (fun e => by have := u _ e; simp at this; omega) k
theorem FF.gr1 {B pa pb : Nat} {v1 v2 : Value} {V : World} {r2 : Value} {n1 n2 m : Nat} {x1 x2 y1 : List Value} {x y : World} {r1 : Value} (h : FF B pa pb v1 v2 V v1 r2 n1 n2 x1 x2 x) (hpa : pa < B) (hpb : pb < B) (hg : x.grownBy y v1.ownBlock) (ho : y.ownsRow B 3 1 r1 m y1) (hd : ∀ k, r2.ownBlock = some k → v1.ownBlock = some k → False) : FF B pa pb v1 v2 V r1 r2 m n2 y1 x2 y := by
  have ma : Mv (fun k => v1.ownBlock = some k) x y := (Mv.refl _ _).grown hg (fun k e => .inl e)
  exact ⟨h.c1.mv ma (fun e => by have := (h.o1.lt _ e).1; omega), h.c2.mv ma (fun e => by have := (h.o1.lt _ e).1; omega), h.mm.trans' (ma.mono (fun k _ e => .inr (.inr (h.o1.lt k e).1))), ho, own_mv h.o2 ma (fun g hg e => hd g hg e)⟩
theorem FF.gr2 {B pa pb : Nat} {v1 v2 : Value} {V : World} {r1 : Value} {n1 n2 m : Nat} {x1 x2 y2 : List Value} {x y : World} {r2 : Value} (h : FF B pa pb v1 v2 V r1 v2 n1 n2 x1 x2 x) (hpa : pa < B) (hpb : pb < B) (hg : x.grownBy y v2.ownBlock) (ho : y.ownsRow B 9 1 r2 m y2) (hd : ∀ k, r1.ownBlock = some k → v2.ownBlock = some k → False) : FF B pa pb v1 v2 V r1 r2 n1 m x1 y2 y := by
  have ma : Mv (fun k => v2.ownBlock = some k) x y := (Mv.refl _ _).grown hg (fun k e => .inl e)
  exact ⟨h.c1.mv ma (fun e => by have := (h.o2.lt _ e).1; omega), h.c2.mv ma (fun e => by have := (h.o2.lt _ e).1; omega), h.mm.trans' (ma.mono (fun k _ e => .inr (.inr (h.o2.lt k e).1))), own_mv h.o1 ma (fun g hg e => hd g hg e), ho⟩
/-- A row that has grown lies where it lay, or is new: it isn't the other one's. -/
theorem apart {v w : Value} {V : World} {g n c : Nat} (hq : v.ownBlock = some g ∨ V.heap.size ≤ g) (hd : ∀ k, v.ownBlock = some k → w.ownBlock = some k → False) (u : ∀ k, w.ownBlock = some k → k < V.heap.size) : ∀ k, (Value.slice (some ⟨g, 0, none⟩) n c).ownBlock = some k → w.ownBlock = some k → False := by
  intro k h1 h2
  obtain rfl : g = k := by simpa [Value.ownBlock] using h1
  rcases hq with h | h
  · exact hd _ h h2
  · have := u _ h2; omega
theorem newer {B pa pb : Nat} {v1 v2 : Value} {V : World} {r1 r2 : Value} {n1 n2 : Nat} {x1 x2 : List Value} {x : World} (h : FF B pa pb v1 v2 V r1 r2 n1 n2 x1 x2 x) {v : Value} {g : Nat} (hat : v.ownBlock = some g ∨ g = x.heap.size) : v.ownBlock = some g ∨ V.heap.size ≤ g := hat.imp id (fun e => by have := h.mm.size; omega)
theorem unlike {w : Value} {x : World} {g1 g2 : Nat} (hat : w.ownBlock = some g2 ∨ g2 = x.heap.size) (hlo : g1 < x.heap.size) (hd : w.ownBlock = some g1 → False) : g1 ≠ g2 := fun e => by
  subst e
  rcases hat with h | h
  · exact hd h
  · omega
theorem fm_fin {B pa pb g1 g2 cap1 cap2 : Nat} {is : List Int} {ss : List ByteArray} {i : Int} {s : ByteArray} {v1 v2 : Value} {W V x : World} (hpa : pa < B) (hpb : pb < B) (hne : pa ≠ pb)
    (F : FF B pa pb v1 v2 V (.slice (some ⟨g1, 0, none⟩) (is.length + 1) cap1) (.slice (some ⟨g2, 0, none⟩) (ss.length + 1) cap2) (is.length + 1) (ss.length + 1) (is.map (Value.int .i64) ++ [.int .i64 i]) (ss.map Value.string ++ [.string s]) x) (hd : g1 ≠ g2) (m0 : Mv (Td2 B pa pb) W V) :
    FM B pa pb (is ++ [i]) (ss ++ [s]) (.slice (some ⟨g1, 0, none⟩) (is.length + 1) cap1) (.slice (some ⟨g2, 0, none⟩) (ss.length + 1) cap2) ((x.setCell ⟨pa, 0, none⟩ (.slice (some ⟨g1, 0, none⟩) (is.length + 1) cap1)).setCell ⟨pb, 0, none⟩ (.slice (some ⟨g2, 0, none⟩) (ss.length + 1) cap2)) ∧
    Mv (Td2 B pa pb) W ((x.setCell ⟨pa, 0, none⟩ (.slice (some ⟨g1, 0, none⟩) (is.length + 1) cap1)).setCell ⟨pb, 0, none⟩ (.slice (some ⟨g2, 0, none⟩) (ss.length + 1) cap2)) := by
  obtain ⟨c1, c2, mm, O1, O2⟩ := F
  have m1 : Mv (fun k => k = pa ∨ k = pb) x ((x.setCell ⟨pa, 0, none⟩ (.slice (some ⟨g1, 0, none⟩) (is.length + 1) cap1)).setCell ⟨pb, 0, none⟩ (.slice (some ⟨g2, 0, none⟩) (ss.length + 1) cap2)) := ((Mv.refl _ _).setc (p := ⟨pa, 0, none⟩) (.inl (.inl rfl)) _).setc (p := ⟨pb, 0, none⟩) (.inl (.inr rfl)) _
  have l1 := (O1.lt g1 rfl).1
  have l2 := (O2.lt g2 rfl).1
  refine ⟨⟨(c1.set _).oth hne _, (c2.oth (Ne.symm hne) _).set _, ?_, ?_, fun k h1 h2 => ?_⟩, m0.trans' (mm.trans' (m1.mono (fun k _ h => h.elim (fun h => .inl h) (fun h => .inr (.inl h)))))⟩
  · have := own_mv O1 m1 (fun g hg e => by
      obtain rfl : g1 = g := by simpa [Value.ownBlock] using hg
      rcases e with e | e <;> omega)
    simpa using this
  · have := own_mv O2 m1 (fun g hg e => by
      obtain rfl : g2 = g := by simpa [Value.ownBlock] using hg
      rcases e with e | e <;> omega)
    simpa using this
  · have e1 : g1 = k := by simpa [Value.ownBlock] using h1
    have e2 : g2 = k := by simpa [Value.ownBlock] using h2
    exact hd (e1.trans e2.symm)
set_option maxRecDepth 100000 in
set_option maxHeartbeats 40000000 in
theorem merges1_any (B pa pb ps : Nat) (st : Int) : M1P B pa pb ps st := by
  intro i s v1 v2 is ss W hB hpa hpb hps hne hn1 hn2 hf cs hl hl2
  obtain ⟨j1, jinf1, jz10, jz11, jz12⟩ := info_parts infoI
  obtain ⟨j2, jinf2, jz20, jz21, jz22⟩ := info_parts infoS
  go_enter Tryd.func17, Tryd.ntmps17
  go_upto_region 1 with fail
  go_cut [7] (fun v7 wx => v7 = .bool false ∧ (∃ g1 cap1 g2 cap2, FM B pa pb (is ++ [i]) (ss ++ [s]) (.slice (some ⟨g1, 0, none⟩) (is.length + 1) cap1) (.slice (some ⟨g2, 0, none⟩) (ss.length + 1) cap2) wx) ∧ Mv (Td2 B pa pb) W wx)
  case first =>
    refine wp_region_held_drew (S := fun _ => True) (by kernel_rfl) trivial (fun hHeld => ?_)
    have m0 : Mv (Td2 B pa pb) W W.drew := Mv.drew _ _
    have F : FF B pa pb v1 v2 W.drew v1 v2 is.length ss.length (is.map (Value.int .i64)) (ss.map Value.string) W.drew := ⟨hf.c1.mv (Mv.drew (fun _ => False) W) (fun h => h), hf.c2.mv (Mv.drew (fun _ => False) W) (fun h => h), Mv.refl _ _, own_mv hf.o1 (Mv.drew (fun _ => False) W) (fun _ _ h => h), own_mv hf.o2 (Mv.drew (fun _ => False) W) (fun _ _ h => h)⟩
    have hd12 := hf.dis
    have hd21 : ∀ k, v2.ownBlock = some k → v1.ownBlock = some k → False := fun k a b => hf.dis k b a
    have hBV : B ≤ W.drew.heap.size := hB
    revert m0 F hBV
    generalize W.drew = V
    intro m0 F hBV
    have u1 : ∀ k, v1.ownBlock = some k → k < V.heap.size := fun k h => (F.o1.lt k h).2
    have u2 : ∀ k, v2.ownBlock = some k → k < V.heap.size := fun k h => (F.o2.lt k h).2
    clear cs hf hB hHeld
    refine wpAnyH_take (i := 1) (oi := ⟨some 9, _, _, _, _, _⟩) (v := ?v1) rfl (by kernel_rfl) (by kernel_rfl) (by kernel_rfl) (fun _ _ _ h => h) (Or.inl ⟨by rfl, ?hy1⟩) trivial ?_
    case hy1 => (intro w hSw; go_simp; try with_reducible rfl)
    simp only [Act.put, List.setIfInBounds_toArray, List.set_cons_zero, List.set_cons_succ]
    refine wpAnyH_take (i := 5) (oi := ⟨some 13, _, _, _, _, _⟩) (v := ?v5) rfl (by kernel_rfl) (by kernel_rfl) (by kernel_rfl) (fun _ _ _ h => h) (Or.inl ⟨by rfl, ?hy5⟩) trivial ?_
    case hy5 => (intro w hSw; go_simp; try with_reducible rfl)
    simp only [Act.put, List.setIfInBounds_toArray, List.set_cons_zero, List.set_cons_succ]
    refine wpAnyH_ready (rs := [0, 2, 4, 6]) (by kernel_rfl) (by simp) ?_
    refine AllReadyH.cons (o := ⟨some 8, _, _, _, _, _⟩) rfl (fun K hK => ?_) ?_
    · have z := F.c1.c
      go_simp
      refine hK.out _ _ trivial (fun _ => ?_)
      clear hK K z
      refine wpAnyH_ready (rs := [2, 4, 6]) (by kernel_rfl) (by simp) ?_
      refine AllReadyH.cons (o := ⟨some 10, _, _, _, _, _⟩) rfl (fun K hK => ?_) ?_
      · go_simp
        refine hK.out _ _ trivial (fun _ => ?_)
        clear hK K
        have hs := F.mm.size
        have k1 := knew (x := V) (n := V.heap.size) (by rfl) (.int .i64 i) 3
        have hG1 : V.heap.size ≤ V.heap.size := by exact hs
        have F := F.al (.cells #[.int .i64 i] 3)
        refine wpAnyH_ready (rs := [3, 4, 6]) (by kernel_rfl) (by simp) ?_
        refine AllReadyH.cons (o := ⟨some 11, _, _, _, _, _⟩) rfl (fun K hK => ?_) ?_
        · refine step_append_lies _ (by rfl) _ _ _ (by rfl) B 3 j1 _ 1 8 Tryd.underlying37 jinf1 jz10 jz11 jz12 rfl (by omega) _ _ _ (by rfl) F.o1 ⟨_, 0, none⟩ 1 1 [.int .i64 i] (by rfl) (by rfl) (one_news k1) (by simp [Value.oneCell']) (by omega) (by unfold maxLen; omega) (by omega) (Nat.le_trans hBV F.mm.size) _ rfl ?_
          intro g1 cap1 y0 ho hg hat hlt1
          have hq1 := newer F hat
          have F := F.gr1 hpa hpb hg ho hd21
          refine hK.out _ _ trivial (fun _ => ?_)
          clear hK K ho hg hat k1
          simp only [Act.put, List.setIfInBounds_toArray, List.set_cons_zero, List.set_cons_succ]
          refine wpAnyH_ready (rs := [4, 6]) (by kernel_rfl) (by simp) ?_
          refine AllReadyH.cons (o := ⟨some 12, _, _, _, _, _⟩) rfl (fun K hK => ?_) ?_
          · have z := F.c2.c
            go_simp
            refine hK.out _ _ trivial (fun _ => ?_)
            clear hK K z
            refine wpAnyH_ready (rs := [6]) (by kernel_rfl) (by simp) ?_
            refine AllReadyH.cons (o := ⟨some 14, _, _, _, _, _⟩) rfl (fun K hK => ?_) AllReadyH.nil
            · go_simp
              refine hK.out _ _ trivial (fun _ => ?_)
              clear hK K
              have hs := F.mm.size
              have k2 := knew (x := y0) (n := y0.heap.size) (by rfl) (.string s) 9
              have hG2 : V.heap.size ≤ y0.heap.size := by exact hs
              have F := F.al (.cells #[.string s] 9)
              refine wpAnyH_ready (rs := [7]) (by kernel_rfl) (by simp) ?_
              refine AllReadyH.cons (o := ⟨some 15, _, _, _, _, _⟩) rfl (fun K hK => ?_) AllReadyH.nil
              · refine step_append_lies _ (by rfl) _ _ _ (by rfl) B 9 j2 _ 1 16 Tryd.underlying38 jinf2 jz20 jz21 jz22 rfl (by omega) _ _ _ (by rfl) F.o2 ⟨_, 0, none⟩ 1 1 [.string s] (by rfl) (by rfl) (one_news k2) (by simp [Value.oneCell']) (by omega) (by unfold maxLen; omega) (by omega) (Nat.le_trans hBV F.mm.size) _ rfl ?_
                intro g2 cap2 y1 ho hg hat hlt2
                have hq2 := newer F hat
                have hd := (unlike hat (F.o1.lt g1 rfl).2 (apart (n := 0) (c := 0) hq1 hd12 u2 g1 rfl))
                have F := F.gr2 hpa hpb hg ho (apart hq1 hd12 u2)
                refine hK.out _ _ trivial (fun _ => ?_)
                clear hK K ho hg hat k2
                simp only [Act.put, List.setIfInBounds_toArray, List.set_cons_zero, List.set_cons_succ]
                refine wpAnyH_ready (rs := [8]) (by kernel_rfl) (by simp) ?_
                refine AllReadyH.cons (o := ⟨none, _, _, _, _, _⟩) rfl (fun K hK => ?_) AllReadyH.nil
                have z1 := F.c1.c
                have z2 := F.c1.f
                go_simp
                refine hK.out _ _ trivial (fun _ => ?_)
                clear hK K
                refine wpAnyH_ready (rs := [9]) (by kernel_rfl) (by simp) ?_
                refine AllReadyH.cons (o := ⟨none, _, _, _, _, _⟩) rfl (fun K hK => ?_) AllReadyH.nil
                have z3 := (F.c2.oth (Ne.symm hne) (.slice (some ⟨g1, 0, none⟩) (is.length + 1) cap1))
                have z4 := z3.c
                have z5 := z3.f
                go_simp
                refine hK.out _ _ trivial (fun _ => ?_)
                clear hK K
                refine wpAnyH_done (by kernel_rfl) ?_ _
                have hR := hidI6 (fm_fin hpa hpb hne F hd m0)
                clear F z1 z2 z3 z4 z5
                go_wp2_with fail
                go_meet
                have hR2 := hR.out
                rw [hl2] at hR2
                refine ⟨rfl, ?_⟩
                rw [hl2]
                exact ⟨⟨_, _, _, _, hR2.1⟩, hR2.2⟩
          refine AllReadyH.cons (o := ⟨some 14, _, _, _, _, _⟩) rfl (fun K hK => ?_) AllReadyH.nil
          · go_simp
            refine hK.out _ _ trivial (fun _ => ?_)
            clear hK K
            have hs := F.mm.size
            have k2 := knew (x := y0) (n := y0.heap.size) (by rfl) (.string s) 9
            have hG2 : V.heap.size ≤ y0.heap.size := by exact hs
            have F := F.al (.cells #[.string s] 9)
            refine wpAnyH_ready (rs := [4]) (by kernel_rfl) (by simp) ?_
            refine AllReadyH.cons (o := ⟨some 12, _, _, _, _, _⟩) rfl (fun K hK => ?_) AllReadyH.nil
            · have z := F.c2.c
              go_simp
              refine hK.out _ _ trivial (fun _ => ?_)
              clear hK K z
              refine wpAnyH_ready (rs := [7]) (by kernel_rfl) (by simp) ?_
              refine AllReadyH.cons (o := ⟨some 15, _, _, _, _, _⟩) rfl (fun K hK => ?_) AllReadyH.nil
              · refine step_append_lies _ (by rfl) _ _ _ (by rfl) B 9 j2 _ 1 16 Tryd.underlying38 jinf2 jz20 jz21 jz22 rfl (by omega) _ _ _ (by rfl) F.o2 ⟨_, 0, none⟩ 1 1 [.string s] (by rfl) (by rfl) (one_news k2) (by simp [Value.oneCell']) (by omega) (by unfold maxLen; omega) (by omega) (Nat.le_trans hBV F.mm.size) _ rfl ?_
                intro g2 cap2 y1 ho hg hat hlt2
                have hq2 := newer F hat
                have hd := (unlike hat (F.o1.lt g1 rfl).2 (apart (n := 0) (c := 0) hq1 hd12 u2 g1 rfl))
                have F := F.gr2 hpa hpb hg ho (apart hq1 hd12 u2)
                refine hK.out _ _ trivial (fun _ => ?_)
                clear hK K ho hg hat k2
                simp only [Act.put, List.setIfInBounds_toArray, List.set_cons_zero, List.set_cons_succ]
                refine wpAnyH_ready (rs := [8]) (by kernel_rfl) (by simp) ?_
                refine AllReadyH.cons (o := ⟨none, _, _, _, _, _⟩) rfl (fun K hK => ?_) AllReadyH.nil
                have z1 := F.c1.c
                have z2 := F.c1.f
                go_simp
                refine hK.out _ _ trivial (fun _ => ?_)
                clear hK K
                refine wpAnyH_ready (rs := [9]) (by kernel_rfl) (by simp) ?_
                refine AllReadyH.cons (o := ⟨none, _, _, _, _, _⟩) rfl (fun K hK => ?_) AllReadyH.nil
                have z3 := (F.c2.oth (Ne.symm hne) (.slice (some ⟨g1, 0, none⟩) (is.length + 1) cap1))
                have z4 := z3.c
                have z5 := z3.f
                go_simp
                refine hK.out _ _ trivial (fun _ => ?_)
                clear hK K
                refine wpAnyH_done (by kernel_rfl) ?_ _
                have hR := hidI6 (fm_fin hpa hpb hne F hd m0)
                clear F z1 z2 z3 z4 z5
                go_wp2_with fail
                go_meet
                have hR2 := hR.out
                rw [hl2] at hR2
                refine ⟨rfl, ?_⟩
                rw [hl2]
                exact ⟨⟨_, _, _, _, hR2.1⟩, hR2.2⟩
        refine AllReadyH.cons (o := ⟨some 12, _, _, _, _, _⟩) rfl (fun K hK => ?_) ?_
        · have z := F.c2.c
          go_simp
          refine hK.out _ _ trivial (fun _ => ?_)
          clear hK K z
          refine wpAnyH_ready (rs := [3, 6]) (by kernel_rfl) (by simp) ?_
          refine AllReadyH.cons (o := ⟨some 11, _, _, _, _, _⟩) rfl (fun K hK => ?_) ?_
          · refine step_append_lies _ (by rfl) _ _ _ (by rfl) B 3 j1 _ 1 8 Tryd.underlying37 jinf1 jz10 jz11 jz12 rfl (by omega) _ _ _ (by rfl) F.o1 ⟨_, 0, none⟩ 1 1 [.int .i64 i] (by rfl) (by rfl) (one_news k1) (by simp [Value.oneCell']) (by omega) (by unfold maxLen; omega) (by omega) (Nat.le_trans hBV F.mm.size) _ rfl ?_
            intro g1 cap1 y0 ho hg hat hlt1
            have hq1 := newer F hat
            have F := F.gr1 hpa hpb hg ho hd21
            refine hK.out _ _ trivial (fun _ => ?_)
            clear hK K ho hg hat k1
            simp only [Act.put, List.setIfInBounds_toArray, List.set_cons_zero, List.set_cons_succ]
            refine wpAnyH_ready (rs := [6]) (by kernel_rfl) (by simp) ?_
            refine AllReadyH.cons (o := ⟨some 14, _, _, _, _, _⟩) rfl (fun K hK => ?_) AllReadyH.nil
            · go_simp
              refine hK.out _ _ trivial (fun _ => ?_)
              clear hK K
              have hs := F.mm.size
              have k2 := knew (x := y0) (n := y0.heap.size) (by rfl) (.string s) 9
              have hG2 : V.heap.size ≤ y0.heap.size := by exact hs
              have F := F.al (.cells #[.string s] 9)
              refine wpAnyH_ready (rs := [7]) (by kernel_rfl) (by simp) ?_
              refine AllReadyH.cons (o := ⟨some 15, _, _, _, _, _⟩) rfl (fun K hK => ?_) AllReadyH.nil
              · refine step_append_lies _ (by rfl) _ _ _ (by rfl) B 9 j2 _ 1 16 Tryd.underlying38 jinf2 jz20 jz21 jz22 rfl (by omega) _ _ _ (by rfl) F.o2 ⟨_, 0, none⟩ 1 1 [.string s] (by rfl) (by rfl) (one_news k2) (by simp [Value.oneCell']) (by omega) (by unfold maxLen; omega) (by omega) (Nat.le_trans hBV F.mm.size) _ rfl ?_
                intro g2 cap2 y1 ho hg hat hlt2
                have hq2 := newer F hat
                have hd := (unlike hat (F.o1.lt g1 rfl).2 (apart (n := 0) (c := 0) hq1 hd12 u2 g1 rfl))
                have F := F.gr2 hpa hpb hg ho (apart hq1 hd12 u2)
                refine hK.out _ _ trivial (fun _ => ?_)
                clear hK K ho hg hat k2
                simp only [Act.put, List.setIfInBounds_toArray, List.set_cons_zero, List.set_cons_succ]
                refine wpAnyH_ready (rs := [8]) (by kernel_rfl) (by simp) ?_
                refine AllReadyH.cons (o := ⟨none, _, _, _, _, _⟩) rfl (fun K hK => ?_) AllReadyH.nil
                have z1 := F.c1.c
                have z2 := F.c1.f
                go_simp
                refine hK.out _ _ trivial (fun _ => ?_)
                clear hK K
                refine wpAnyH_ready (rs := [9]) (by kernel_rfl) (by simp) ?_
                refine AllReadyH.cons (o := ⟨none, _, _, _, _, _⟩) rfl (fun K hK => ?_) AllReadyH.nil
                have z3 := (F.c2.oth (Ne.symm hne) (.slice (some ⟨g1, 0, none⟩) (is.length + 1) cap1))
                have z4 := z3.c
                have z5 := z3.f
                go_simp
                refine hK.out _ _ trivial (fun _ => ?_)
                clear hK K
                refine wpAnyH_done (by kernel_rfl) ?_ _
                have hR := hidI6 (fm_fin hpa hpb hne F hd m0)
                clear F z1 z2 z3 z4 z5
                go_wp2_with fail
                go_meet
                have hR2 := hR.out
                rw [hl2] at hR2
                refine ⟨rfl, ?_⟩
                rw [hl2]
                exact ⟨⟨_, _, _, _, hR2.1⟩, hR2.2⟩
          refine AllReadyH.cons (o := ⟨some 14, _, _, _, _, _⟩) rfl (fun K hK => ?_) AllReadyH.nil
          · go_simp
            refine hK.out _ _ trivial (fun _ => ?_)
            clear hK K
            have hs := F.mm.size
            have k2 := knew (x := (V.alloc (.cells #[.int .i64 i] 3))) (n := V.heap.size + 1) (by simp) (.string s) 9
            have hG2 : V.heap.size ≤ V.heap.size + 1 := by first | omega | (simp at hs; omega)
            have k1 := kal k1 (.cells #[.string s] 9)
            have F := F.al (.cells #[.string s] 9)
            refine wpAnyH_ready (rs := [3]) (by kernel_rfl) (by simp) ?_
            refine AllReadyH.cons (o := ⟨some 11, _, _, _, _, _⟩) rfl (fun K hK => ?_) AllReadyH.nil
            · refine step_append_lies _ (by rfl) _ _ _ (by rfl) B 3 j1 _ 1 8 Tryd.underlying37 jinf1 jz10 jz11 jz12 rfl (by omega) _ _ _ (by rfl) F.o1 ⟨_, 0, none⟩ 1 1 [.int .i64 i] (by rfl) (by rfl) (one_news k1) (by simp [Value.oneCell']) (by omega) (by unfold maxLen; omega) (by omega) (Nat.le_trans hBV F.mm.size) _ rfl ?_
              intro g1 cap1 y0 ho hg hat hlt1
              have hq1 := newer F hat
              have k2 := kgr (V := V) k2 hg u1 hG2
              have F := F.gr1 hpa hpb hg ho hd21
              refine hK.out _ _ trivial (fun _ => ?_)
              clear hK K ho hg hat k1
              simp only [Act.put, List.setIfInBounds_toArray, List.set_cons_zero, List.set_cons_succ]
              refine wpAnyH_ready (rs := [7]) (by kernel_rfl) (by simp) ?_
              refine AllReadyH.cons (o := ⟨some 15, _, _, _, _, _⟩) rfl (fun K hK => ?_) AllReadyH.nil
              · refine step_append_lies _ (by rfl) _ _ _ (by rfl) B 9 j2 _ 1 16 Tryd.underlying38 jinf2 jz20 jz21 jz22 rfl (by omega) _ _ _ (by rfl) F.o2 ⟨_, 0, none⟩ 1 1 [.string s] (by rfl) (by rfl) (one_news k2) (by simp [Value.oneCell']) (by omega) (by unfold maxLen; omega) (by omega) (Nat.le_trans hBV F.mm.size) _ rfl ?_
                intro g2 cap2 y1 ho hg hat hlt2
                have hq2 := newer F hat
                have hd := (unlike hat (F.o1.lt g1 rfl).2 (apart (n := 0) (c := 0) hq1 hd12 u2 g1 rfl))
                have F := F.gr2 hpa hpb hg ho (apart hq1 hd12 u2)
                refine hK.out _ _ trivial (fun _ => ?_)
                clear hK K ho hg hat k2
                simp only [Act.put, List.setIfInBounds_toArray, List.set_cons_zero, List.set_cons_succ]
                refine wpAnyH_ready (rs := [8]) (by kernel_rfl) (by simp) ?_
                refine AllReadyH.cons (o := ⟨none, _, _, _, _, _⟩) rfl (fun K hK => ?_) AllReadyH.nil
                have z1 := F.c1.c
                have z2 := F.c1.f
                go_simp
                refine hK.out _ _ trivial (fun _ => ?_)
                clear hK K
                refine wpAnyH_ready (rs := [9]) (by kernel_rfl) (by simp) ?_
                refine AllReadyH.cons (o := ⟨none, _, _, _, _, _⟩) rfl (fun K hK => ?_) AllReadyH.nil
                have z3 := (F.c2.oth (Ne.symm hne) (.slice (some ⟨g1, 0, none⟩) (is.length + 1) cap1))
                have z4 := z3.c
                have z5 := z3.f
                go_simp
                refine hK.out _ _ trivial (fun _ => ?_)
                clear hK K
                refine wpAnyH_done (by kernel_rfl) ?_ _
                have hR := hidI6 (fm_fin hpa hpb hne F hd m0)
                clear F z1 z2 z3 z4 z5
                go_wp2_with fail
                go_meet
                have hR2 := hR.out
                rw [hl2] at hR2
                refine ⟨rfl, ?_⟩
                rw [hl2]
                exact ⟨⟨_, _, _, _, hR2.1⟩, hR2.2⟩
        refine AllReadyH.cons (o := ⟨some 14, _, _, _, _, _⟩) rfl (fun K hK => ?_) AllReadyH.nil
        · go_simp
          refine hK.out _ _ trivial (fun _ => ?_)
          clear hK K
          have hs := F.mm.size
          have k2 := knew (x := (V.alloc (.cells #[.int .i64 i] 3))) (n := V.heap.size + 1) (by simp) (.string s) 9
          have hG2 : V.heap.size ≤ V.heap.size + 1 := by first | omega | (simp at hs; omega)
          have k1 := kal k1 (.cells #[.string s] 9)
          have F := F.al (.cells #[.string s] 9)
          refine wpAnyH_ready (rs := [3, 4]) (by kernel_rfl) (by simp) ?_
          refine AllReadyH.cons (o := ⟨some 11, _, _, _, _, _⟩) rfl (fun K hK => ?_) ?_
          · refine step_append_lies _ (by rfl) _ _ _ (by rfl) B 3 j1 _ 1 8 Tryd.underlying37 jinf1 jz10 jz11 jz12 rfl (by omega) _ _ _ (by rfl) F.o1 ⟨_, 0, none⟩ 1 1 [.int .i64 i] (by rfl) (by rfl) (one_news k1) (by simp [Value.oneCell']) (by omega) (by unfold maxLen; omega) (by omega) (Nat.le_trans hBV F.mm.size) _ rfl ?_
            intro g1 cap1 y0 ho hg hat hlt1
            have hq1 := newer F hat
            have k2 := kgr (V := V) k2 hg u1 hG2
            have F := F.gr1 hpa hpb hg ho hd21
            refine hK.out _ _ trivial (fun _ => ?_)
            clear hK K ho hg hat k1
            simp only [Act.put, List.setIfInBounds_toArray, List.set_cons_zero, List.set_cons_succ]
            refine wpAnyH_ready (rs := [4]) (by kernel_rfl) (by simp) ?_
            refine AllReadyH.cons (o := ⟨some 12, _, _, _, _, _⟩) rfl (fun K hK => ?_) AllReadyH.nil
            · have z := F.c2.c
              go_simp
              refine hK.out _ _ trivial (fun _ => ?_)
              clear hK K z
              refine wpAnyH_ready (rs := [7]) (by kernel_rfl) (by simp) ?_
              refine AllReadyH.cons (o := ⟨some 15, _, _, _, _, _⟩) rfl (fun K hK => ?_) AllReadyH.nil
              · refine step_append_lies _ (by rfl) _ _ _ (by rfl) B 9 j2 _ 1 16 Tryd.underlying38 jinf2 jz20 jz21 jz22 rfl (by omega) _ _ _ (by rfl) F.o2 ⟨_, 0, none⟩ 1 1 [.string s] (by rfl) (by rfl) (one_news k2) (by simp [Value.oneCell']) (by omega) (by unfold maxLen; omega) (by omega) (Nat.le_trans hBV F.mm.size) _ rfl ?_
                intro g2 cap2 y1 ho hg hat hlt2
                have hq2 := newer F hat
                have hd := (unlike hat (F.o1.lt g1 rfl).2 (apart (n := 0) (c := 0) hq1 hd12 u2 g1 rfl))
                have F := F.gr2 hpa hpb hg ho (apart hq1 hd12 u2)
                refine hK.out _ _ trivial (fun _ => ?_)
                clear hK K ho hg hat k2
                simp only [Act.put, List.setIfInBounds_toArray, List.set_cons_zero, List.set_cons_succ]
                refine wpAnyH_ready (rs := [8]) (by kernel_rfl) (by simp) ?_
                refine AllReadyH.cons (o := ⟨none, _, _, _, _, _⟩) rfl (fun K hK => ?_) AllReadyH.nil
                have z1 := F.c1.c
                have z2 := F.c1.f
                go_simp
                refine hK.out _ _ trivial (fun _ => ?_)
                clear hK K
                refine wpAnyH_ready (rs := [9]) (by kernel_rfl) (by simp) ?_
                refine AllReadyH.cons (o := ⟨none, _, _, _, _, _⟩) rfl (fun K hK => ?_) AllReadyH.nil
                have z3 := (F.c2.oth (Ne.symm hne) (.slice (some ⟨g1, 0, none⟩) (is.length + 1) cap1))
                have z4 := z3.c
                have z5 := z3.f
                go_simp
                refine hK.out _ _ trivial (fun _ => ?_)
                clear hK K
                refine wpAnyH_done (by kernel_rfl) ?_ _
                have hR := hidI6 (fm_fin hpa hpb hne F hd m0)
                clear F z1 z2 z3 z4 z5
                go_wp2_with fail
                go_meet
                have hR2 := hR.out
                rw [hl2] at hR2
                refine ⟨rfl, ?_⟩
                rw [hl2]
                exact ⟨⟨_, _, _, _, hR2.1⟩, hR2.2⟩
          refine AllReadyH.cons (o := ⟨some 12, _, _, _, _, _⟩) rfl (fun K hK => ?_) AllReadyH.nil
          · have z := F.c2.c
            go_simp
            refine hK.out _ _ trivial (fun _ => ?_)
            clear hK K z
            refine wpAnyH_ready (rs := [3]) (by kernel_rfl) (by simp) ?_
            refine AllReadyH.cons (o := ⟨some 11, _, _, _, _, _⟩) rfl (fun K hK => ?_) AllReadyH.nil
            · refine step_append_lies _ (by rfl) _ _ _ (by rfl) B 3 j1 _ 1 8 Tryd.underlying37 jinf1 jz10 jz11 jz12 rfl (by omega) _ _ _ (by rfl) F.o1 ⟨_, 0, none⟩ 1 1 [.int .i64 i] (by rfl) (by rfl) (one_news k1) (by simp [Value.oneCell']) (by omega) (by unfold maxLen; omega) (by omega) (Nat.le_trans hBV F.mm.size) _ rfl ?_
              intro g1 cap1 y0 ho hg hat hlt1
              have hq1 := newer F hat
              have k2 := kgr (V := V) k2 hg u1 hG2
              have F := F.gr1 hpa hpb hg ho hd21
              refine hK.out _ _ trivial (fun _ => ?_)
              clear hK K ho hg hat k1
              simp only [Act.put, List.setIfInBounds_toArray, List.set_cons_zero, List.set_cons_succ]
              refine wpAnyH_ready (rs := [7]) (by kernel_rfl) (by simp) ?_
              refine AllReadyH.cons (o := ⟨some 15, _, _, _, _, _⟩) rfl (fun K hK => ?_) AllReadyH.nil
              · refine step_append_lies _ (by rfl) _ _ _ (by rfl) B 9 j2 _ 1 16 Tryd.underlying38 jinf2 jz20 jz21 jz22 rfl (by omega) _ _ _ (by rfl) F.o2 ⟨_, 0, none⟩ 1 1 [.string s] (by rfl) (by rfl) (one_news k2) (by simp [Value.oneCell']) (by omega) (by unfold maxLen; omega) (by omega) (Nat.le_trans hBV F.mm.size) _ rfl ?_
                intro g2 cap2 y1 ho hg hat hlt2
                have hq2 := newer F hat
                have hd := (unlike hat (F.o1.lt g1 rfl).2 (apart (n := 0) (c := 0) hq1 hd12 u2 g1 rfl))
                have F := F.gr2 hpa hpb hg ho (apart hq1 hd12 u2)
                refine hK.out _ _ trivial (fun _ => ?_)
                clear hK K ho hg hat k2
                simp only [Act.put, List.setIfInBounds_toArray, List.set_cons_zero, List.set_cons_succ]
                refine wpAnyH_ready (rs := [8]) (by kernel_rfl) (by simp) ?_
                refine AllReadyH.cons (o := ⟨none, _, _, _, _, _⟩) rfl (fun K hK => ?_) AllReadyH.nil
                have z1 := F.c1.c
                have z2 := F.c1.f
                go_simp
                refine hK.out _ _ trivial (fun _ => ?_)
                clear hK K
                refine wpAnyH_ready (rs := [9]) (by kernel_rfl) (by simp) ?_
                refine AllReadyH.cons (o := ⟨none, _, _, _, _, _⟩) rfl (fun K hK => ?_) AllReadyH.nil
                have z3 := (F.c2.oth (Ne.symm hne) (.slice (some ⟨g1, 0, none⟩) (is.length + 1) cap1))
                have z4 := z3.c
                have z5 := z3.f
                go_simp
                refine hK.out _ _ trivial (fun _ => ?_)
                clear hK K
                refine wpAnyH_done (by kernel_rfl) ?_ _
                have hR := hidI6 (fm_fin hpa hpb hne F hd m0)
                clear F z1 z2 z3 z4 z5
                go_wp2_with fail
                go_meet
                have hR2 := hR.out
                rw [hl2] at hR2
                refine ⟨rfl, ?_⟩
                rw [hl2]
                exact ⟨⟨_, _, _, _, hR2.1⟩, hR2.2⟩
      refine AllReadyH.cons (o := ⟨some 12, _, _, _, _, _⟩) rfl (fun K hK => ?_) ?_
      · have z := F.c2.c
        go_simp
        refine hK.out _ _ trivial (fun _ => ?_)
        clear hK K z
        refine wpAnyH_ready (rs := [2, 6]) (by kernel_rfl) (by simp) ?_
        refine AllReadyH.cons (o := ⟨some 10, _, _, _, _, _⟩) rfl (fun K hK => ?_) ?_
        · go_simp
          refine hK.out _ _ trivial (fun _ => ?_)
          clear hK K
          have hs := F.mm.size
          have k1 := knew (x := V) (n := V.heap.size) (by rfl) (.int .i64 i) 3
          have hG1 : V.heap.size ≤ V.heap.size := by exact hs
          have F := F.al (.cells #[.int .i64 i] 3)
          refine wpAnyH_ready (rs := [3, 6]) (by kernel_rfl) (by simp) ?_
          refine AllReadyH.cons (o := ⟨some 11, _, _, _, _, _⟩) rfl (fun K hK => ?_) ?_
          · refine step_append_lies _ (by rfl) _ _ _ (by rfl) B 3 j1 _ 1 8 Tryd.underlying37 jinf1 jz10 jz11 jz12 rfl (by omega) _ _ _ (by rfl) F.o1 ⟨_, 0, none⟩ 1 1 [.int .i64 i] (by rfl) (by rfl) (one_news k1) (by simp [Value.oneCell']) (by omega) (by unfold maxLen; omega) (by omega) (Nat.le_trans hBV F.mm.size) _ rfl ?_
            intro g1 cap1 y0 ho hg hat hlt1
            have hq1 := newer F hat
            have F := F.gr1 hpa hpb hg ho hd21
            refine hK.out _ _ trivial (fun _ => ?_)
            clear hK K ho hg hat k1
            simp only [Act.put, List.setIfInBounds_toArray, List.set_cons_zero, List.set_cons_succ]
            refine wpAnyH_ready (rs := [6]) (by kernel_rfl) (by simp) ?_
            refine AllReadyH.cons (o := ⟨some 14, _, _, _, _, _⟩) rfl (fun K hK => ?_) AllReadyH.nil
            · go_simp
              refine hK.out _ _ trivial (fun _ => ?_)
              clear hK K
              have hs := F.mm.size
              have k2 := knew (x := y0) (n := y0.heap.size) (by rfl) (.string s) 9
              have hG2 : V.heap.size ≤ y0.heap.size := by exact hs
              have F := F.al (.cells #[.string s] 9)
              refine wpAnyH_ready (rs := [7]) (by kernel_rfl) (by simp) ?_
              refine AllReadyH.cons (o := ⟨some 15, _, _, _, _, _⟩) rfl (fun K hK => ?_) AllReadyH.nil
              · refine step_append_lies _ (by rfl) _ _ _ (by rfl) B 9 j2 _ 1 16 Tryd.underlying38 jinf2 jz20 jz21 jz22 rfl (by omega) _ _ _ (by rfl) F.o2 ⟨_, 0, none⟩ 1 1 [.string s] (by rfl) (by rfl) (one_news k2) (by simp [Value.oneCell']) (by omega) (by unfold maxLen; omega) (by omega) (Nat.le_trans hBV F.mm.size) _ rfl ?_
                intro g2 cap2 y1 ho hg hat hlt2
                have hq2 := newer F hat
                have hd := (unlike hat (F.o1.lt g1 rfl).2 (apart (n := 0) (c := 0) hq1 hd12 u2 g1 rfl))
                have F := F.gr2 hpa hpb hg ho (apart hq1 hd12 u2)
                refine hK.out _ _ trivial (fun _ => ?_)
                clear hK K ho hg hat k2
                simp only [Act.put, List.setIfInBounds_toArray, List.set_cons_zero, List.set_cons_succ]
                refine wpAnyH_ready (rs := [8]) (by kernel_rfl) (by simp) ?_
                refine AllReadyH.cons (o := ⟨none, _, _, _, _, _⟩) rfl (fun K hK => ?_) AllReadyH.nil
                have z1 := F.c1.c
                have z2 := F.c1.f
                go_simp
                refine hK.out _ _ trivial (fun _ => ?_)
                clear hK K
                refine wpAnyH_ready (rs := [9]) (by kernel_rfl) (by simp) ?_
                refine AllReadyH.cons (o := ⟨none, _, _, _, _, _⟩) rfl (fun K hK => ?_) AllReadyH.nil
                have z3 := (F.c2.oth (Ne.symm hne) (.slice (some ⟨g1, 0, none⟩) (is.length + 1) cap1))
                have z4 := z3.c
                have z5 := z3.f
                go_simp
                refine hK.out _ _ trivial (fun _ => ?_)
                clear hK K
                refine wpAnyH_done (by kernel_rfl) ?_ _
                have hR := hidI6 (fm_fin hpa hpb hne F hd m0)
                clear F z1 z2 z3 z4 z5
                go_wp2_with fail
                go_meet
                have hR2 := hR.out
                rw [hl2] at hR2
                refine ⟨rfl, ?_⟩
                rw [hl2]
                exact ⟨⟨_, _, _, _, hR2.1⟩, hR2.2⟩
          refine AllReadyH.cons (o := ⟨some 14, _, _, _, _, _⟩) rfl (fun K hK => ?_) AllReadyH.nil
          · go_simp
            refine hK.out _ _ trivial (fun _ => ?_)
            clear hK K
            have hs := F.mm.size
            have k2 := knew (x := (V.alloc (.cells #[.int .i64 i] 3))) (n := V.heap.size + 1) (by simp) (.string s) 9
            have hG2 : V.heap.size ≤ V.heap.size + 1 := by first | omega | (simp at hs; omega)
            have k1 := kal k1 (.cells #[.string s] 9)
            have F := F.al (.cells #[.string s] 9)
            refine wpAnyH_ready (rs := [3]) (by kernel_rfl) (by simp) ?_
            refine AllReadyH.cons (o := ⟨some 11, _, _, _, _, _⟩) rfl (fun K hK => ?_) AllReadyH.nil
            · refine step_append_lies _ (by rfl) _ _ _ (by rfl) B 3 j1 _ 1 8 Tryd.underlying37 jinf1 jz10 jz11 jz12 rfl (by omega) _ _ _ (by rfl) F.o1 ⟨_, 0, none⟩ 1 1 [.int .i64 i] (by rfl) (by rfl) (one_news k1) (by simp [Value.oneCell']) (by omega) (by unfold maxLen; omega) (by omega) (Nat.le_trans hBV F.mm.size) _ rfl ?_
              intro g1 cap1 y0 ho hg hat hlt1
              have hq1 := newer F hat
              have k2 := kgr (V := V) k2 hg u1 hG2
              have F := F.gr1 hpa hpb hg ho hd21
              refine hK.out _ _ trivial (fun _ => ?_)
              clear hK K ho hg hat k1
              simp only [Act.put, List.setIfInBounds_toArray, List.set_cons_zero, List.set_cons_succ]
              refine wpAnyH_ready (rs := [7]) (by kernel_rfl) (by simp) ?_
              refine AllReadyH.cons (o := ⟨some 15, _, _, _, _, _⟩) rfl (fun K hK => ?_) AllReadyH.nil
              · refine step_append_lies _ (by rfl) _ _ _ (by rfl) B 9 j2 _ 1 16 Tryd.underlying38 jinf2 jz20 jz21 jz22 rfl (by omega) _ _ _ (by rfl) F.o2 ⟨_, 0, none⟩ 1 1 [.string s] (by rfl) (by rfl) (one_news k2) (by simp [Value.oneCell']) (by omega) (by unfold maxLen; omega) (by omega) (Nat.le_trans hBV F.mm.size) _ rfl ?_
                intro g2 cap2 y1 ho hg hat hlt2
                have hq2 := newer F hat
                have hd := (unlike hat (F.o1.lt g1 rfl).2 (apart (n := 0) (c := 0) hq1 hd12 u2 g1 rfl))
                have F := F.gr2 hpa hpb hg ho (apart hq1 hd12 u2)
                refine hK.out _ _ trivial (fun _ => ?_)
                clear hK K ho hg hat k2
                simp only [Act.put, List.setIfInBounds_toArray, List.set_cons_zero, List.set_cons_succ]
                refine wpAnyH_ready (rs := [8]) (by kernel_rfl) (by simp) ?_
                refine AllReadyH.cons (o := ⟨none, _, _, _, _, _⟩) rfl (fun K hK => ?_) AllReadyH.nil
                have z1 := F.c1.c
                have z2 := F.c1.f
                go_simp
                refine hK.out _ _ trivial (fun _ => ?_)
                clear hK K
                refine wpAnyH_ready (rs := [9]) (by kernel_rfl) (by simp) ?_
                refine AllReadyH.cons (o := ⟨none, _, _, _, _, _⟩) rfl (fun K hK => ?_) AllReadyH.nil
                have z3 := (F.c2.oth (Ne.symm hne) (.slice (some ⟨g1, 0, none⟩) (is.length + 1) cap1))
                have z4 := z3.c
                have z5 := z3.f
                go_simp
                refine hK.out _ _ trivial (fun _ => ?_)
                clear hK K
                refine wpAnyH_done (by kernel_rfl) ?_ _
                have hR := hidI6 (fm_fin hpa hpb hne F hd m0)
                clear F z1 z2 z3 z4 z5
                go_wp2_with fail
                go_meet
                have hR2 := hR.out
                rw [hl2] at hR2
                refine ⟨rfl, ?_⟩
                rw [hl2]
                exact ⟨⟨_, _, _, _, hR2.1⟩, hR2.2⟩
        refine AllReadyH.cons (o := ⟨some 14, _, _, _, _, _⟩) rfl (fun K hK => ?_) AllReadyH.nil
        · go_simp
          refine hK.out _ _ trivial (fun _ => ?_)
          clear hK K
          have hs := F.mm.size
          have k2 := knew (x := V) (n := V.heap.size) (by rfl) (.string s) 9
          have hG2 : V.heap.size ≤ V.heap.size := by exact hs
          have F := F.al (.cells #[.string s] 9)
          refine wpAnyH_ready (rs := [2]) (by kernel_rfl) (by simp) ?_
          refine AllReadyH.cons (o := ⟨some 10, _, _, _, _, _⟩) rfl (fun K hK => ?_) AllReadyH.nil
          · go_simp
            refine hK.out _ _ trivial (fun _ => ?_)
            clear hK K
            have hs := F.mm.size
            have k1 := knew (x := (V.alloc (.cells #[.string s] 9))) (n := V.heap.size + 1) (by simp) (.int .i64 i) 3
            have hG1 : V.heap.size ≤ V.heap.size + 1 := by first | omega | (simp at hs; omega)
            have k2 := kal k2 (.cells #[.int .i64 i] 3)
            have F := F.al (.cells #[.int .i64 i] 3)
            refine wpAnyH_ready (rs := [3]) (by kernel_rfl) (by simp) ?_
            refine AllReadyH.cons (o := ⟨some 11, _, _, _, _, _⟩) rfl (fun K hK => ?_) AllReadyH.nil
            · refine step_append_lies _ (by rfl) _ _ _ (by rfl) B 3 j1 _ 1 8 Tryd.underlying37 jinf1 jz10 jz11 jz12 rfl (by omega) _ _ _ (by rfl) F.o1 ⟨_, 0, none⟩ 1 1 [.int .i64 i] (by rfl) (by rfl) (one_news k1) (by simp [Value.oneCell']) (by omega) (by unfold maxLen; omega) (by omega) (Nat.le_trans hBV F.mm.size) _ rfl ?_
              intro g1 cap1 y0 ho hg hat hlt1
              have hq1 := newer F hat
              have k2 := kgr (V := V) k2 hg u1 hG2
              have F := F.gr1 hpa hpb hg ho hd21
              refine hK.out _ _ trivial (fun _ => ?_)
              clear hK K ho hg hat k1
              simp only [Act.put, List.setIfInBounds_toArray, List.set_cons_zero, List.set_cons_succ]
              refine wpAnyH_ready (rs := [7]) (by kernel_rfl) (by simp) ?_
              refine AllReadyH.cons (o := ⟨some 15, _, _, _, _, _⟩) rfl (fun K hK => ?_) AllReadyH.nil
              · refine step_append_lies _ (by rfl) _ _ _ (by rfl) B 9 j2 _ 1 16 Tryd.underlying38 jinf2 jz20 jz21 jz22 rfl (by omega) _ _ _ (by rfl) F.o2 ⟨_, 0, none⟩ 1 1 [.string s] (by rfl) (by rfl) (one_news k2) (by simp [Value.oneCell']) (by omega) (by unfold maxLen; omega) (by omega) (Nat.le_trans hBV F.mm.size) _ rfl ?_
                intro g2 cap2 y1 ho hg hat hlt2
                have hq2 := newer F hat
                have hd := (unlike hat (F.o1.lt g1 rfl).2 (apart (n := 0) (c := 0) hq1 hd12 u2 g1 rfl))
                have F := F.gr2 hpa hpb hg ho (apart hq1 hd12 u2)
                refine hK.out _ _ trivial (fun _ => ?_)
                clear hK K ho hg hat k2
                simp only [Act.put, List.setIfInBounds_toArray, List.set_cons_zero, List.set_cons_succ]
                refine wpAnyH_ready (rs := [8]) (by kernel_rfl) (by simp) ?_
                refine AllReadyH.cons (o := ⟨none, _, _, _, _, _⟩) rfl (fun K hK => ?_) AllReadyH.nil
                have z1 := F.c1.c
                have z2 := F.c1.f
                go_simp
                refine hK.out _ _ trivial (fun _ => ?_)
                clear hK K
                refine wpAnyH_ready (rs := [9]) (by kernel_rfl) (by simp) ?_
                refine AllReadyH.cons (o := ⟨none, _, _, _, _, _⟩) rfl (fun K hK => ?_) AllReadyH.nil
                have z3 := (F.c2.oth (Ne.symm hne) (.slice (some ⟨g1, 0, none⟩) (is.length + 1) cap1))
                have z4 := z3.c
                have z5 := z3.f
                go_simp
                refine hK.out _ _ trivial (fun _ => ?_)
                clear hK K
                refine wpAnyH_done (by kernel_rfl) ?_ _
                have hR := hidI6 (fm_fin hpa hpb hne F hd m0)
                clear F z1 z2 z3 z4 z5
                go_wp2_with fail
                go_meet
                have hR2 := hR.out
                rw [hl2] at hR2
                refine ⟨rfl, ?_⟩
                rw [hl2]
                exact ⟨⟨_, _, _, _, hR2.1⟩, hR2.2⟩
      refine AllReadyH.cons (o := ⟨some 14, _, _, _, _, _⟩) rfl (fun K hK => ?_) AllReadyH.nil
      · go_simp
        refine hK.out _ _ trivial (fun _ => ?_)
        clear hK K
        have hs := F.mm.size
        have k2 := knew (x := V) (n := V.heap.size) (by rfl) (.string s) 9
        have hG2 : V.heap.size ≤ V.heap.size := by exact hs
        have F := F.al (.cells #[.string s] 9)
        refine wpAnyH_ready (rs := [2, 4]) (by kernel_rfl) (by simp) ?_
        refine AllReadyH.cons (o := ⟨some 10, _, _, _, _, _⟩) rfl (fun K hK => ?_) ?_
        · go_simp
          refine hK.out _ _ trivial (fun _ => ?_)
          clear hK K
          have hs := F.mm.size
          have k1 := knew (x := (V.alloc (.cells #[.string s] 9))) (n := V.heap.size + 1) (by simp) (.int .i64 i) 3
          have hG1 : V.heap.size ≤ V.heap.size + 1 := by first | omega | (simp at hs; omega)
          have k2 := kal k2 (.cells #[.int .i64 i] 3)
          have F := F.al (.cells #[.int .i64 i] 3)
          refine wpAnyH_ready (rs := [3, 4]) (by kernel_rfl) (by simp) ?_
          refine AllReadyH.cons (o := ⟨some 11, _, _, _, _, _⟩) rfl (fun K hK => ?_) ?_
          · refine step_append_lies _ (by rfl) _ _ _ (by rfl) B 3 j1 _ 1 8 Tryd.underlying37 jinf1 jz10 jz11 jz12 rfl (by omega) _ _ _ (by rfl) F.o1 ⟨_, 0, none⟩ 1 1 [.int .i64 i] (by rfl) (by rfl) (one_news k1) (by simp [Value.oneCell']) (by omega) (by unfold maxLen; omega) (by omega) (Nat.le_trans hBV F.mm.size) _ rfl ?_
            intro g1 cap1 y0 ho hg hat hlt1
            have hq1 := newer F hat
            have k2 := kgr (V := V) k2 hg u1 hG2
            have F := F.gr1 hpa hpb hg ho hd21
            refine hK.out _ _ trivial (fun _ => ?_)
            clear hK K ho hg hat k1
            simp only [Act.put, List.setIfInBounds_toArray, List.set_cons_zero, List.set_cons_succ]
            refine wpAnyH_ready (rs := [4]) (by kernel_rfl) (by simp) ?_
            refine AllReadyH.cons (o := ⟨some 12, _, _, _, _, _⟩) rfl (fun K hK => ?_) AllReadyH.nil
            · have z := F.c2.c
              go_simp
              refine hK.out _ _ trivial (fun _ => ?_)
              clear hK K z
              refine wpAnyH_ready (rs := [7]) (by kernel_rfl) (by simp) ?_
              refine AllReadyH.cons (o := ⟨some 15, _, _, _, _, _⟩) rfl (fun K hK => ?_) AllReadyH.nil
              · refine step_append_lies _ (by rfl) _ _ _ (by rfl) B 9 j2 _ 1 16 Tryd.underlying38 jinf2 jz20 jz21 jz22 rfl (by omega) _ _ _ (by rfl) F.o2 ⟨_, 0, none⟩ 1 1 [.string s] (by rfl) (by rfl) (one_news k2) (by simp [Value.oneCell']) (by omega) (by unfold maxLen; omega) (by omega) (Nat.le_trans hBV F.mm.size) _ rfl ?_
                intro g2 cap2 y1 ho hg hat hlt2
                have hq2 := newer F hat
                have hd := (unlike hat (F.o1.lt g1 rfl).2 (apart (n := 0) (c := 0) hq1 hd12 u2 g1 rfl))
                have F := F.gr2 hpa hpb hg ho (apart hq1 hd12 u2)
                refine hK.out _ _ trivial (fun _ => ?_)
                clear hK K ho hg hat k2
                simp only [Act.put, List.setIfInBounds_toArray, List.set_cons_zero, List.set_cons_succ]
                refine wpAnyH_ready (rs := [8]) (by kernel_rfl) (by simp) ?_
                refine AllReadyH.cons (o := ⟨none, _, _, _, _, _⟩) rfl (fun K hK => ?_) AllReadyH.nil
                have z1 := F.c1.c
                have z2 := F.c1.f
                go_simp
                refine hK.out _ _ trivial (fun _ => ?_)
                clear hK K
                refine wpAnyH_ready (rs := [9]) (by kernel_rfl) (by simp) ?_
                refine AllReadyH.cons (o := ⟨none, _, _, _, _, _⟩) rfl (fun K hK => ?_) AllReadyH.nil
                have z3 := (F.c2.oth (Ne.symm hne) (.slice (some ⟨g1, 0, none⟩) (is.length + 1) cap1))
                have z4 := z3.c
                have z5 := z3.f
                go_simp
                refine hK.out _ _ trivial (fun _ => ?_)
                clear hK K
                refine wpAnyH_done (by kernel_rfl) ?_ _
                have hR := hidI6 (fm_fin hpa hpb hne F hd m0)
                clear F z1 z2 z3 z4 z5
                go_wp2_with fail
                go_meet
                have hR2 := hR.out
                rw [hl2] at hR2
                refine ⟨rfl, ?_⟩
                rw [hl2]
                exact ⟨⟨_, _, _, _, hR2.1⟩, hR2.2⟩
          refine AllReadyH.cons (o := ⟨some 12, _, _, _, _, _⟩) rfl (fun K hK => ?_) AllReadyH.nil
          · have z := F.c2.c
            go_simp
            refine hK.out _ _ trivial (fun _ => ?_)
            clear hK K z
            refine wpAnyH_ready (rs := [3]) (by kernel_rfl) (by simp) ?_
            refine AllReadyH.cons (o := ⟨some 11, _, _, _, _, _⟩) rfl (fun K hK => ?_) AllReadyH.nil
            · refine step_append_lies _ (by rfl) _ _ _ (by rfl) B 3 j1 _ 1 8 Tryd.underlying37 jinf1 jz10 jz11 jz12 rfl (by omega) _ _ _ (by rfl) F.o1 ⟨_, 0, none⟩ 1 1 [.int .i64 i] (by rfl) (by rfl) (one_news k1) (by simp [Value.oneCell']) (by omega) (by unfold maxLen; omega) (by omega) (Nat.le_trans hBV F.mm.size) _ rfl ?_
              intro g1 cap1 y0 ho hg hat hlt1
              have hq1 := newer F hat
              have k2 := kgr (V := V) k2 hg u1 hG2
              have F := F.gr1 hpa hpb hg ho hd21
              refine hK.out _ _ trivial (fun _ => ?_)
              clear hK K ho hg hat k1
              simp only [Act.put, List.setIfInBounds_toArray, List.set_cons_zero, List.set_cons_succ]
              refine wpAnyH_ready (rs := [7]) (by kernel_rfl) (by simp) ?_
              refine AllReadyH.cons (o := ⟨some 15, _, _, _, _, _⟩) rfl (fun K hK => ?_) AllReadyH.nil
              · refine step_append_lies _ (by rfl) _ _ _ (by rfl) B 9 j2 _ 1 16 Tryd.underlying38 jinf2 jz20 jz21 jz22 rfl (by omega) _ _ _ (by rfl) F.o2 ⟨_, 0, none⟩ 1 1 [.string s] (by rfl) (by rfl) (one_news k2) (by simp [Value.oneCell']) (by omega) (by unfold maxLen; omega) (by omega) (Nat.le_trans hBV F.mm.size) _ rfl ?_
                intro g2 cap2 y1 ho hg hat hlt2
                have hq2 := newer F hat
                have hd := (unlike hat (F.o1.lt g1 rfl).2 (apart (n := 0) (c := 0) hq1 hd12 u2 g1 rfl))
                have F := F.gr2 hpa hpb hg ho (apart hq1 hd12 u2)
                refine hK.out _ _ trivial (fun _ => ?_)
                clear hK K ho hg hat k2
                simp only [Act.put, List.setIfInBounds_toArray, List.set_cons_zero, List.set_cons_succ]
                refine wpAnyH_ready (rs := [8]) (by kernel_rfl) (by simp) ?_
                refine AllReadyH.cons (o := ⟨none, _, _, _, _, _⟩) rfl (fun K hK => ?_) AllReadyH.nil
                have z1 := F.c1.c
                have z2 := F.c1.f
                go_simp
                refine hK.out _ _ trivial (fun _ => ?_)
                clear hK K
                refine wpAnyH_ready (rs := [9]) (by kernel_rfl) (by simp) ?_
                refine AllReadyH.cons (o := ⟨none, _, _, _, _, _⟩) rfl (fun K hK => ?_) AllReadyH.nil
                have z3 := (F.c2.oth (Ne.symm hne) (.slice (some ⟨g1, 0, none⟩) (is.length + 1) cap1))
                have z4 := z3.c
                have z5 := z3.f
                go_simp
                refine hK.out _ _ trivial (fun _ => ?_)
                clear hK K
                refine wpAnyH_done (by kernel_rfl) ?_ _
                have hR := hidI6 (fm_fin hpa hpb hne F hd m0)
                clear F z1 z2 z3 z4 z5
                go_wp2_with fail
                go_meet
                have hR2 := hR.out
                rw [hl2] at hR2
                refine ⟨rfl, ?_⟩
                rw [hl2]
                exact ⟨⟨_, _, _, _, hR2.1⟩, hR2.2⟩
        refine AllReadyH.cons (o := ⟨some 12, _, _, _, _, _⟩) rfl (fun K hK => ?_) AllReadyH.nil
        · have z := F.c2.c
          go_simp
          refine hK.out _ _ trivial (fun _ => ?_)
          clear hK K z
          refine wpAnyH_ready (rs := [2]) (by kernel_rfl) (by simp) ?_
          refine AllReadyH.cons (o := ⟨some 10, _, _, _, _, _⟩) rfl (fun K hK => ?_) AllReadyH.nil
          · go_simp
            refine hK.out _ _ trivial (fun _ => ?_)
            clear hK K
            have hs := F.mm.size
            have k1 := knew (x := (V.alloc (.cells #[.string s] 9))) (n := V.heap.size + 1) (by simp) (.int .i64 i) 3
            have hG1 : V.heap.size ≤ V.heap.size + 1 := by first | omega | (simp at hs; omega)
            have k2 := kal k2 (.cells #[.int .i64 i] 3)
            have F := F.al (.cells #[.int .i64 i] 3)
            refine wpAnyH_ready (rs := [3]) (by kernel_rfl) (by simp) ?_
            refine AllReadyH.cons (o := ⟨some 11, _, _, _, _, _⟩) rfl (fun K hK => ?_) AllReadyH.nil
            · refine step_append_lies _ (by rfl) _ _ _ (by rfl) B 3 j1 _ 1 8 Tryd.underlying37 jinf1 jz10 jz11 jz12 rfl (by omega) _ _ _ (by rfl) F.o1 ⟨_, 0, none⟩ 1 1 [.int .i64 i] (by rfl) (by rfl) (one_news k1) (by simp [Value.oneCell']) (by omega) (by unfold maxLen; omega) (by omega) (Nat.le_trans hBV F.mm.size) _ rfl ?_
              intro g1 cap1 y0 ho hg hat hlt1
              have hq1 := newer F hat
              have k2 := kgr (V := V) k2 hg u1 hG2
              have F := F.gr1 hpa hpb hg ho hd21
              refine hK.out _ _ trivial (fun _ => ?_)
              clear hK K ho hg hat k1
              simp only [Act.put, List.setIfInBounds_toArray, List.set_cons_zero, List.set_cons_succ]
              refine wpAnyH_ready (rs := [7]) (by kernel_rfl) (by simp) ?_
              refine AllReadyH.cons (o := ⟨some 15, _, _, _, _, _⟩) rfl (fun K hK => ?_) AllReadyH.nil
              · refine step_append_lies _ (by rfl) _ _ _ (by rfl) B 9 j2 _ 1 16 Tryd.underlying38 jinf2 jz20 jz21 jz22 rfl (by omega) _ _ _ (by rfl) F.o2 ⟨_, 0, none⟩ 1 1 [.string s] (by rfl) (by rfl) (one_news k2) (by simp [Value.oneCell']) (by omega) (by unfold maxLen; omega) (by omega) (Nat.le_trans hBV F.mm.size) _ rfl ?_
                intro g2 cap2 y1 ho hg hat hlt2
                have hq2 := newer F hat
                have hd := (unlike hat (F.o1.lt g1 rfl).2 (apart (n := 0) (c := 0) hq1 hd12 u2 g1 rfl))
                have F := F.gr2 hpa hpb hg ho (apart hq1 hd12 u2)
                refine hK.out _ _ trivial (fun _ => ?_)
                clear hK K ho hg hat k2
                simp only [Act.put, List.setIfInBounds_toArray, List.set_cons_zero, List.set_cons_succ]
                refine wpAnyH_ready (rs := [8]) (by kernel_rfl) (by simp) ?_
                refine AllReadyH.cons (o := ⟨none, _, _, _, _, _⟩) rfl (fun K hK => ?_) AllReadyH.nil
                have z1 := F.c1.c
                have z2 := F.c1.f
                go_simp
                refine hK.out _ _ trivial (fun _ => ?_)
                clear hK K
                refine wpAnyH_ready (rs := [9]) (by kernel_rfl) (by simp) ?_
                refine AllReadyH.cons (o := ⟨none, _, _, _, _, _⟩) rfl (fun K hK => ?_) AllReadyH.nil
                have z3 := (F.c2.oth (Ne.symm hne) (.slice (some ⟨g1, 0, none⟩) (is.length + 1) cap1))
                have z4 := z3.c
                have z5 := z3.f
                go_simp
                refine hK.out _ _ trivial (fun _ => ?_)
                clear hK K
                refine wpAnyH_done (by kernel_rfl) ?_ _
                have hR := hidI6 (fm_fin hpa hpb hne F hd m0)
                clear F z1 z2 z3 z4 z5
                go_wp2_with fail
                go_meet
                have hR2 := hR.out
                rw [hl2] at hR2
                refine ⟨rfl, ?_⟩
                rw [hl2]
                exact ⟨⟨_, _, _, _, hR2.1⟩, hR2.2⟩
    refine AllReadyH.cons (o := ⟨some 10, _, _, _, _, _⟩) rfl (fun K hK => ?_) ?_
    · go_simp
      refine hK.out _ _ trivial (fun _ => ?_)
      clear hK K
      have hs := F.mm.size
      have k1 := knew (x := V) (n := V.heap.size) (by rfl) (.int .i64 i) 3
      have hG1 : V.heap.size ≤ V.heap.size := by exact hs
      have F := F.al (.cells #[.int .i64 i] 3)
      refine wpAnyH_ready (rs := [0, 4, 6]) (by kernel_rfl) (by simp) ?_
      refine AllReadyH.cons (o := ⟨some 8, _, _, _, _, _⟩) rfl (fun K hK => ?_) ?_
      · have z := F.c1.c
        go_simp
        refine hK.out _ _ trivial (fun _ => ?_)
        clear hK K z
        refine wpAnyH_ready (rs := [3, 4, 6]) (by kernel_rfl) (by simp) ?_
        refine AllReadyH.cons (o := ⟨some 11, _, _, _, _, _⟩) rfl (fun K hK => ?_) ?_
        · refine step_append_lies _ (by rfl) _ _ _ (by rfl) B 3 j1 _ 1 8 Tryd.underlying37 jinf1 jz10 jz11 jz12 rfl (by omega) _ _ _ (by rfl) F.o1 ⟨_, 0, none⟩ 1 1 [.int .i64 i] (by rfl) (by rfl) (one_news k1) (by simp [Value.oneCell']) (by omega) (by unfold maxLen; omega) (by omega) (Nat.le_trans hBV F.mm.size) _ rfl ?_
          intro g1 cap1 y0 ho hg hat hlt1
          have hq1 := newer F hat
          have F := F.gr1 hpa hpb hg ho hd21
          refine hK.out _ _ trivial (fun _ => ?_)
          clear hK K ho hg hat k1
          simp only [Act.put, List.setIfInBounds_toArray, List.set_cons_zero, List.set_cons_succ]
          refine wpAnyH_ready (rs := [4, 6]) (by kernel_rfl) (by simp) ?_
          refine AllReadyH.cons (o := ⟨some 12, _, _, _, _, _⟩) rfl (fun K hK => ?_) ?_
          · have z := F.c2.c
            go_simp
            refine hK.out _ _ trivial (fun _ => ?_)
            clear hK K z
            refine wpAnyH_ready (rs := [6]) (by kernel_rfl) (by simp) ?_
            refine AllReadyH.cons (o := ⟨some 14, _, _, _, _, _⟩) rfl (fun K hK => ?_) AllReadyH.nil
            · go_simp
              refine hK.out _ _ trivial (fun _ => ?_)
              clear hK K
              have hs := F.mm.size
              have k2 := knew (x := y0) (n := y0.heap.size) (by rfl) (.string s) 9
              have hG2 : V.heap.size ≤ y0.heap.size := by exact hs
              have F := F.al (.cells #[.string s] 9)
              refine wpAnyH_ready (rs := [7]) (by kernel_rfl) (by simp) ?_
              refine AllReadyH.cons (o := ⟨some 15, _, _, _, _, _⟩) rfl (fun K hK => ?_) AllReadyH.nil
              · refine step_append_lies _ (by rfl) _ _ _ (by rfl) B 9 j2 _ 1 16 Tryd.underlying38 jinf2 jz20 jz21 jz22 rfl (by omega) _ _ _ (by rfl) F.o2 ⟨_, 0, none⟩ 1 1 [.string s] (by rfl) (by rfl) (one_news k2) (by simp [Value.oneCell']) (by omega) (by unfold maxLen; omega) (by omega) (Nat.le_trans hBV F.mm.size) _ rfl ?_
                intro g2 cap2 y1 ho hg hat hlt2
                have hq2 := newer F hat
                have hd := (unlike hat (F.o1.lt g1 rfl).2 (apart (n := 0) (c := 0) hq1 hd12 u2 g1 rfl))
                have F := F.gr2 hpa hpb hg ho (apart hq1 hd12 u2)
                refine hK.out _ _ trivial (fun _ => ?_)
                clear hK K ho hg hat k2
                simp only [Act.put, List.setIfInBounds_toArray, List.set_cons_zero, List.set_cons_succ]
                refine wpAnyH_ready (rs := [8]) (by kernel_rfl) (by simp) ?_
                refine AllReadyH.cons (o := ⟨none, _, _, _, _, _⟩) rfl (fun K hK => ?_) AllReadyH.nil
                have z1 := F.c1.c
                have z2 := F.c1.f
                go_simp
                refine hK.out _ _ trivial (fun _ => ?_)
                clear hK K
                refine wpAnyH_ready (rs := [9]) (by kernel_rfl) (by simp) ?_
                refine AllReadyH.cons (o := ⟨none, _, _, _, _, _⟩) rfl (fun K hK => ?_) AllReadyH.nil
                have z3 := (F.c2.oth (Ne.symm hne) (.slice (some ⟨g1, 0, none⟩) (is.length + 1) cap1))
                have z4 := z3.c
                have z5 := z3.f
                go_simp
                refine hK.out _ _ trivial (fun _ => ?_)
                clear hK K
                refine wpAnyH_done (by kernel_rfl) ?_ _
                have hR := hidI6 (fm_fin hpa hpb hne F hd m0)
                clear F z1 z2 z3 z4 z5
                go_wp2_with fail
                go_meet
                have hR2 := hR.out
                rw [hl2] at hR2
                refine ⟨rfl, ?_⟩
                rw [hl2]
                exact ⟨⟨_, _, _, _, hR2.1⟩, hR2.2⟩
          refine AllReadyH.cons (o := ⟨some 14, _, _, _, _, _⟩) rfl (fun K hK => ?_) AllReadyH.nil
          · go_simp
            refine hK.out _ _ trivial (fun _ => ?_)
            clear hK K
            have hs := F.mm.size
            have k2 := knew (x := y0) (n := y0.heap.size) (by rfl) (.string s) 9
            have hG2 : V.heap.size ≤ y0.heap.size := by exact hs
            have F := F.al (.cells #[.string s] 9)
            refine wpAnyH_ready (rs := [4]) (by kernel_rfl) (by simp) ?_
            refine AllReadyH.cons (o := ⟨some 12, _, _, _, _, _⟩) rfl (fun K hK => ?_) AllReadyH.nil
            · have z := F.c2.c
              go_simp
              refine hK.out _ _ trivial (fun _ => ?_)
              clear hK K z
              refine wpAnyH_ready (rs := [7]) (by kernel_rfl) (by simp) ?_
              refine AllReadyH.cons (o := ⟨some 15, _, _, _, _, _⟩) rfl (fun K hK => ?_) AllReadyH.nil
              · refine step_append_lies _ (by rfl) _ _ _ (by rfl) B 9 j2 _ 1 16 Tryd.underlying38 jinf2 jz20 jz21 jz22 rfl (by omega) _ _ _ (by rfl) F.o2 ⟨_, 0, none⟩ 1 1 [.string s] (by rfl) (by rfl) (one_news k2) (by simp [Value.oneCell']) (by omega) (by unfold maxLen; omega) (by omega) (Nat.le_trans hBV F.mm.size) _ rfl ?_
                intro g2 cap2 y1 ho hg hat hlt2
                have hq2 := newer F hat
                have hd := (unlike hat (F.o1.lt g1 rfl).2 (apart (n := 0) (c := 0) hq1 hd12 u2 g1 rfl))
                have F := F.gr2 hpa hpb hg ho (apart hq1 hd12 u2)
                refine hK.out _ _ trivial (fun _ => ?_)
                clear hK K ho hg hat k2
                simp only [Act.put, List.setIfInBounds_toArray, List.set_cons_zero, List.set_cons_succ]
                refine wpAnyH_ready (rs := [8]) (by kernel_rfl) (by simp) ?_
                refine AllReadyH.cons (o := ⟨none, _, _, _, _, _⟩) rfl (fun K hK => ?_) AllReadyH.nil
                have z1 := F.c1.c
                have z2 := F.c1.f
                go_simp
                refine hK.out _ _ trivial (fun _ => ?_)
                clear hK K
                refine wpAnyH_ready (rs := [9]) (by kernel_rfl) (by simp) ?_
                refine AllReadyH.cons (o := ⟨none, _, _, _, _, _⟩) rfl (fun K hK => ?_) AllReadyH.nil
                have z3 := (F.c2.oth (Ne.symm hne) (.slice (some ⟨g1, 0, none⟩) (is.length + 1) cap1))
                have z4 := z3.c
                have z5 := z3.f
                go_simp
                refine hK.out _ _ trivial (fun _ => ?_)
                clear hK K
                refine wpAnyH_done (by kernel_rfl) ?_ _
                have hR := hidI6 (fm_fin hpa hpb hne F hd m0)
                clear F z1 z2 z3 z4 z5
                go_wp2_with fail
                go_meet
                have hR2 := hR.out
                rw [hl2] at hR2
                refine ⟨rfl, ?_⟩
                rw [hl2]
                exact ⟨⟨_, _, _, _, hR2.1⟩, hR2.2⟩
        refine AllReadyH.cons (o := ⟨some 12, _, _, _, _, _⟩) rfl (fun K hK => ?_) ?_
        · have z := F.c2.c
          go_simp
          refine hK.out _ _ trivial (fun _ => ?_)
          clear hK K z
          refine wpAnyH_ready (rs := [3, 6]) (by kernel_rfl) (by simp) ?_
          refine AllReadyH.cons (o := ⟨some 11, _, _, _, _, _⟩) rfl (fun K hK => ?_) ?_
          · refine step_append_lies _ (by rfl) _ _ _ (by rfl) B 3 j1 _ 1 8 Tryd.underlying37 jinf1 jz10 jz11 jz12 rfl (by omega) _ _ _ (by rfl) F.o1 ⟨_, 0, none⟩ 1 1 [.int .i64 i] (by rfl) (by rfl) (one_news k1) (by simp [Value.oneCell']) (by omega) (by unfold maxLen; omega) (by omega) (Nat.le_trans hBV F.mm.size) _ rfl ?_
            intro g1 cap1 y0 ho hg hat hlt1
            have hq1 := newer F hat
            have F := F.gr1 hpa hpb hg ho hd21
            refine hK.out _ _ trivial (fun _ => ?_)
            clear hK K ho hg hat k1
            simp only [Act.put, List.setIfInBounds_toArray, List.set_cons_zero, List.set_cons_succ]
            refine wpAnyH_ready (rs := [6]) (by kernel_rfl) (by simp) ?_
            refine AllReadyH.cons (o := ⟨some 14, _, _, _, _, _⟩) rfl (fun K hK => ?_) AllReadyH.nil
            · go_simp
              refine hK.out _ _ trivial (fun _ => ?_)
              clear hK K
              have hs := F.mm.size
              have k2 := knew (x := y0) (n := y0.heap.size) (by rfl) (.string s) 9
              have hG2 : V.heap.size ≤ y0.heap.size := by exact hs
              have F := F.al (.cells #[.string s] 9)
              refine wpAnyH_ready (rs := [7]) (by kernel_rfl) (by simp) ?_
              refine AllReadyH.cons (o := ⟨some 15, _, _, _, _, _⟩) rfl (fun K hK => ?_) AllReadyH.nil
              · refine step_append_lies _ (by rfl) _ _ _ (by rfl) B 9 j2 _ 1 16 Tryd.underlying38 jinf2 jz20 jz21 jz22 rfl (by omega) _ _ _ (by rfl) F.o2 ⟨_, 0, none⟩ 1 1 [.string s] (by rfl) (by rfl) (one_news k2) (by simp [Value.oneCell']) (by omega) (by unfold maxLen; omega) (by omega) (Nat.le_trans hBV F.mm.size) _ rfl ?_
                intro g2 cap2 y1 ho hg hat hlt2
                have hq2 := newer F hat
                have hd := (unlike hat (F.o1.lt g1 rfl).2 (apart (n := 0) (c := 0) hq1 hd12 u2 g1 rfl))
                have F := F.gr2 hpa hpb hg ho (apart hq1 hd12 u2)
                refine hK.out _ _ trivial (fun _ => ?_)
                clear hK K ho hg hat k2
                simp only [Act.put, List.setIfInBounds_toArray, List.set_cons_zero, List.set_cons_succ]
                refine wpAnyH_ready (rs := [8]) (by kernel_rfl) (by simp) ?_
                refine AllReadyH.cons (o := ⟨none, _, _, _, _, _⟩) rfl (fun K hK => ?_) AllReadyH.nil
                have z1 := F.c1.c
                have z2 := F.c1.f
                go_simp
                refine hK.out _ _ trivial (fun _ => ?_)
                clear hK K
                refine wpAnyH_ready (rs := [9]) (by kernel_rfl) (by simp) ?_
                refine AllReadyH.cons (o := ⟨none, _, _, _, _, _⟩) rfl (fun K hK => ?_) AllReadyH.nil
                have z3 := (F.c2.oth (Ne.symm hne) (.slice (some ⟨g1, 0, none⟩) (is.length + 1) cap1))
                have z4 := z3.c
                have z5 := z3.f
                go_simp
                refine hK.out _ _ trivial (fun _ => ?_)
                clear hK K
                refine wpAnyH_done (by kernel_rfl) ?_ _
                have hR := hidI6 (fm_fin hpa hpb hne F hd m0)
                clear F z1 z2 z3 z4 z5
                go_wp2_with fail
                go_meet
                have hR2 := hR.out
                rw [hl2] at hR2
                refine ⟨rfl, ?_⟩
                rw [hl2]
                exact ⟨⟨_, _, _, _, hR2.1⟩, hR2.2⟩
          refine AllReadyH.cons (o := ⟨some 14, _, _, _, _, _⟩) rfl (fun K hK => ?_) AllReadyH.nil
          · go_simp
            refine hK.out _ _ trivial (fun _ => ?_)
            clear hK K
            have hs := F.mm.size
            have k2 := knew (x := (V.alloc (.cells #[.int .i64 i] 3))) (n := V.heap.size + 1) (by simp) (.string s) 9
            have hG2 : V.heap.size ≤ V.heap.size + 1 := by first | omega | (simp at hs; omega)
            have k1 := kal k1 (.cells #[.string s] 9)
            have F := F.al (.cells #[.string s] 9)
            refine wpAnyH_ready (rs := [3]) (by kernel_rfl) (by simp) ?_
            refine AllReadyH.cons (o := ⟨some 11, _, _, _, _, _⟩) rfl (fun K hK => ?_) AllReadyH.nil
            · refine step_append_lies _ (by rfl) _ _ _ (by rfl) B 3 j1 _ 1 8 Tryd.underlying37 jinf1 jz10 jz11 jz12 rfl (by omega) _ _ _ (by rfl) F.o1 ⟨_, 0, none⟩ 1 1 [.int .i64 i] (by rfl) (by rfl) (one_news k1) (by simp [Value.oneCell']) (by omega) (by unfold maxLen; omega) (by omega) (Nat.le_trans hBV F.mm.size) _ rfl ?_
              intro g1 cap1 y0 ho hg hat hlt1
              have hq1 := newer F hat
              have k2 := kgr (V := V) k2 hg u1 hG2
              have F := F.gr1 hpa hpb hg ho hd21
              refine hK.out _ _ trivial (fun _ => ?_)
              clear hK K ho hg hat k1
              simp only [Act.put, List.setIfInBounds_toArray, List.set_cons_zero, List.set_cons_succ]
              refine wpAnyH_ready (rs := [7]) (by kernel_rfl) (by simp) ?_
              refine AllReadyH.cons (o := ⟨some 15, _, _, _, _, _⟩) rfl (fun K hK => ?_) AllReadyH.nil
              · refine step_append_lies _ (by rfl) _ _ _ (by rfl) B 9 j2 _ 1 16 Tryd.underlying38 jinf2 jz20 jz21 jz22 rfl (by omega) _ _ _ (by rfl) F.o2 ⟨_, 0, none⟩ 1 1 [.string s] (by rfl) (by rfl) (one_news k2) (by simp [Value.oneCell']) (by omega) (by unfold maxLen; omega) (by omega) (Nat.le_trans hBV F.mm.size) _ rfl ?_
                intro g2 cap2 y1 ho hg hat hlt2
                have hq2 := newer F hat
                have hd := (unlike hat (F.o1.lt g1 rfl).2 (apart (n := 0) (c := 0) hq1 hd12 u2 g1 rfl))
                have F := F.gr2 hpa hpb hg ho (apart hq1 hd12 u2)
                refine hK.out _ _ trivial (fun _ => ?_)
                clear hK K ho hg hat k2
                simp only [Act.put, List.setIfInBounds_toArray, List.set_cons_zero, List.set_cons_succ]
                refine wpAnyH_ready (rs := [8]) (by kernel_rfl) (by simp) ?_
                refine AllReadyH.cons (o := ⟨none, _, _, _, _, _⟩) rfl (fun K hK => ?_) AllReadyH.nil
                have z1 := F.c1.c
                have z2 := F.c1.f
                go_simp
                refine hK.out _ _ trivial (fun _ => ?_)
                clear hK K
                refine wpAnyH_ready (rs := [9]) (by kernel_rfl) (by simp) ?_
                refine AllReadyH.cons (o := ⟨none, _, _, _, _, _⟩) rfl (fun K hK => ?_) AllReadyH.nil
                have z3 := (F.c2.oth (Ne.symm hne) (.slice (some ⟨g1, 0, none⟩) (is.length + 1) cap1))
                have z4 := z3.c
                have z5 := z3.f
                go_simp
                refine hK.out _ _ trivial (fun _ => ?_)
                clear hK K
                refine wpAnyH_done (by kernel_rfl) ?_ _
                have hR := hidI6 (fm_fin hpa hpb hne F hd m0)
                clear F z1 z2 z3 z4 z5
                go_wp2_with fail
                go_meet
                have hR2 := hR.out
                rw [hl2] at hR2
                refine ⟨rfl, ?_⟩
                rw [hl2]
                exact ⟨⟨_, _, _, _, hR2.1⟩, hR2.2⟩
        refine AllReadyH.cons (o := ⟨some 14, _, _, _, _, _⟩) rfl (fun K hK => ?_) AllReadyH.nil
        · go_simp
          refine hK.out _ _ trivial (fun _ => ?_)
          clear hK K
          have hs := F.mm.size
          have k2 := knew (x := (V.alloc (.cells #[.int .i64 i] 3))) (n := V.heap.size + 1) (by simp) (.string s) 9
          have hG2 : V.heap.size ≤ V.heap.size + 1 := by first | omega | (simp at hs; omega)
          have k1 := kal k1 (.cells #[.string s] 9)
          have F := F.al (.cells #[.string s] 9)
          refine wpAnyH_ready (rs := [3, 4]) (by kernel_rfl) (by simp) ?_
          refine AllReadyH.cons (o := ⟨some 11, _, _, _, _, _⟩) rfl (fun K hK => ?_) ?_
          · refine step_append_lies _ (by rfl) _ _ _ (by rfl) B 3 j1 _ 1 8 Tryd.underlying37 jinf1 jz10 jz11 jz12 rfl (by omega) _ _ _ (by rfl) F.o1 ⟨_, 0, none⟩ 1 1 [.int .i64 i] (by rfl) (by rfl) (one_news k1) (by simp [Value.oneCell']) (by omega) (by unfold maxLen; omega) (by omega) (Nat.le_trans hBV F.mm.size) _ rfl ?_
            intro g1 cap1 y0 ho hg hat hlt1
            have hq1 := newer F hat
            have k2 := kgr (V := V) k2 hg u1 hG2
            have F := F.gr1 hpa hpb hg ho hd21
            refine hK.out _ _ trivial (fun _ => ?_)
            clear hK K ho hg hat k1
            simp only [Act.put, List.setIfInBounds_toArray, List.set_cons_zero, List.set_cons_succ]
            refine wpAnyH_ready (rs := [4]) (by kernel_rfl) (by simp) ?_
            refine AllReadyH.cons (o := ⟨some 12, _, _, _, _, _⟩) rfl (fun K hK => ?_) AllReadyH.nil
            · have z := F.c2.c
              go_simp
              refine hK.out _ _ trivial (fun _ => ?_)
              clear hK K z
              refine wpAnyH_ready (rs := [7]) (by kernel_rfl) (by simp) ?_
              refine AllReadyH.cons (o := ⟨some 15, _, _, _, _, _⟩) rfl (fun K hK => ?_) AllReadyH.nil
              · refine step_append_lies _ (by rfl) _ _ _ (by rfl) B 9 j2 _ 1 16 Tryd.underlying38 jinf2 jz20 jz21 jz22 rfl (by omega) _ _ _ (by rfl) F.o2 ⟨_, 0, none⟩ 1 1 [.string s] (by rfl) (by rfl) (one_news k2) (by simp [Value.oneCell']) (by omega) (by unfold maxLen; omega) (by omega) (Nat.le_trans hBV F.mm.size) _ rfl ?_
                intro g2 cap2 y1 ho hg hat hlt2
                have hq2 := newer F hat
                have hd := (unlike hat (F.o1.lt g1 rfl).2 (apart (n := 0) (c := 0) hq1 hd12 u2 g1 rfl))
                have F := F.gr2 hpa hpb hg ho (apart hq1 hd12 u2)
                refine hK.out _ _ trivial (fun _ => ?_)
                clear hK K ho hg hat k2
                simp only [Act.put, List.setIfInBounds_toArray, List.set_cons_zero, List.set_cons_succ]
                refine wpAnyH_ready (rs := [8]) (by kernel_rfl) (by simp) ?_
                refine AllReadyH.cons (o := ⟨none, _, _, _, _, _⟩) rfl (fun K hK => ?_) AllReadyH.nil
                have z1 := F.c1.c
                have z2 := F.c1.f
                go_simp
                refine hK.out _ _ trivial (fun _ => ?_)
                clear hK K
                refine wpAnyH_ready (rs := [9]) (by kernel_rfl) (by simp) ?_
                refine AllReadyH.cons (o := ⟨none, _, _, _, _, _⟩) rfl (fun K hK => ?_) AllReadyH.nil
                have z3 := (F.c2.oth (Ne.symm hne) (.slice (some ⟨g1, 0, none⟩) (is.length + 1) cap1))
                have z4 := z3.c
                have z5 := z3.f
                go_simp
                refine hK.out _ _ trivial (fun _ => ?_)
                clear hK K
                refine wpAnyH_done (by kernel_rfl) ?_ _
                have hR := hidI6 (fm_fin hpa hpb hne F hd m0)
                clear F z1 z2 z3 z4 z5
                go_wp2_with fail
                go_meet
                have hR2 := hR.out
                rw [hl2] at hR2
                refine ⟨rfl, ?_⟩
                rw [hl2]
                exact ⟨⟨_, _, _, _, hR2.1⟩, hR2.2⟩
          refine AllReadyH.cons (o := ⟨some 12, _, _, _, _, _⟩) rfl (fun K hK => ?_) AllReadyH.nil
          · have z := F.c2.c
            go_simp
            refine hK.out _ _ trivial (fun _ => ?_)
            clear hK K z
            refine wpAnyH_ready (rs := [3]) (by kernel_rfl) (by simp) ?_
            refine AllReadyH.cons (o := ⟨some 11, _, _, _, _, _⟩) rfl (fun K hK => ?_) AllReadyH.nil
            · refine step_append_lies _ (by rfl) _ _ _ (by rfl) B 3 j1 _ 1 8 Tryd.underlying37 jinf1 jz10 jz11 jz12 rfl (by omega) _ _ _ (by rfl) F.o1 ⟨_, 0, none⟩ 1 1 [.int .i64 i] (by rfl) (by rfl) (one_news k1) (by simp [Value.oneCell']) (by omega) (by unfold maxLen; omega) (by omega) (Nat.le_trans hBV F.mm.size) _ rfl ?_
              intro g1 cap1 y0 ho hg hat hlt1
              have hq1 := newer F hat
              have k2 := kgr (V := V) k2 hg u1 hG2
              have F := F.gr1 hpa hpb hg ho hd21
              refine hK.out _ _ trivial (fun _ => ?_)
              clear hK K ho hg hat k1
              simp only [Act.put, List.setIfInBounds_toArray, List.set_cons_zero, List.set_cons_succ]
              refine wpAnyH_ready (rs := [7]) (by kernel_rfl) (by simp) ?_
              refine AllReadyH.cons (o := ⟨some 15, _, _, _, _, _⟩) rfl (fun K hK => ?_) AllReadyH.nil
              · refine step_append_lies _ (by rfl) _ _ _ (by rfl) B 9 j2 _ 1 16 Tryd.underlying38 jinf2 jz20 jz21 jz22 rfl (by omega) _ _ _ (by rfl) F.o2 ⟨_, 0, none⟩ 1 1 [.string s] (by rfl) (by rfl) (one_news k2) (by simp [Value.oneCell']) (by omega) (by unfold maxLen; omega) (by omega) (Nat.le_trans hBV F.mm.size) _ rfl ?_
                intro g2 cap2 y1 ho hg hat hlt2
                have hq2 := newer F hat
                have hd := (unlike hat (F.o1.lt g1 rfl).2 (apart (n := 0) (c := 0) hq1 hd12 u2 g1 rfl))
                have F := F.gr2 hpa hpb hg ho (apart hq1 hd12 u2)
                refine hK.out _ _ trivial (fun _ => ?_)
                clear hK K ho hg hat k2
                simp only [Act.put, List.setIfInBounds_toArray, List.set_cons_zero, List.set_cons_succ]
                refine wpAnyH_ready (rs := [8]) (by kernel_rfl) (by simp) ?_
                refine AllReadyH.cons (o := ⟨none, _, _, _, _, _⟩) rfl (fun K hK => ?_) AllReadyH.nil
                have z1 := F.c1.c
                have z2 := F.c1.f
                go_simp
                refine hK.out _ _ trivial (fun _ => ?_)
                clear hK K
                refine wpAnyH_ready (rs := [9]) (by kernel_rfl) (by simp) ?_
                refine AllReadyH.cons (o := ⟨none, _, _, _, _, _⟩) rfl (fun K hK => ?_) AllReadyH.nil
                have z3 := (F.c2.oth (Ne.symm hne) (.slice (some ⟨g1, 0, none⟩) (is.length + 1) cap1))
                have z4 := z3.c
                have z5 := z3.f
                go_simp
                refine hK.out _ _ trivial (fun _ => ?_)
                clear hK K
                refine wpAnyH_done (by kernel_rfl) ?_ _
                have hR := hidI6 (fm_fin hpa hpb hne F hd m0)
                clear F z1 z2 z3 z4 z5
                go_wp2_with fail
                go_meet
                have hR2 := hR.out
                rw [hl2] at hR2
                refine ⟨rfl, ?_⟩
                rw [hl2]
                exact ⟨⟨_, _, _, _, hR2.1⟩, hR2.2⟩
      refine AllReadyH.cons (o := ⟨some 12, _, _, _, _, _⟩) rfl (fun K hK => ?_) ?_
      · have z := F.c2.c
        go_simp
        refine hK.out _ _ trivial (fun _ => ?_)
        clear hK K z
        refine wpAnyH_ready (rs := [0, 6]) (by kernel_rfl) (by simp) ?_
        refine AllReadyH.cons (o := ⟨some 8, _, _, _, _, _⟩) rfl (fun K hK => ?_) ?_
        · have z := F.c1.c
          go_simp
          refine hK.out _ _ trivial (fun _ => ?_)
          clear hK K z
          refine wpAnyH_ready (rs := [3, 6]) (by kernel_rfl) (by simp) ?_
          refine AllReadyH.cons (o := ⟨some 11, _, _, _, _, _⟩) rfl (fun K hK => ?_) ?_
          · refine step_append_lies _ (by rfl) _ _ _ (by rfl) B 3 j1 _ 1 8 Tryd.underlying37 jinf1 jz10 jz11 jz12 rfl (by omega) _ _ _ (by rfl) F.o1 ⟨_, 0, none⟩ 1 1 [.int .i64 i] (by rfl) (by rfl) (one_news k1) (by simp [Value.oneCell']) (by omega) (by unfold maxLen; omega) (by omega) (Nat.le_trans hBV F.mm.size) _ rfl ?_
            intro g1 cap1 y0 ho hg hat hlt1
            have hq1 := newer F hat
            have F := F.gr1 hpa hpb hg ho hd21
            refine hK.out _ _ trivial (fun _ => ?_)
            clear hK K ho hg hat k1
            simp only [Act.put, List.setIfInBounds_toArray, List.set_cons_zero, List.set_cons_succ]
            refine wpAnyH_ready (rs := [6]) (by kernel_rfl) (by simp) ?_
            refine AllReadyH.cons (o := ⟨some 14, _, _, _, _, _⟩) rfl (fun K hK => ?_) AllReadyH.nil
            · go_simp
              refine hK.out _ _ trivial (fun _ => ?_)
              clear hK K
              have hs := F.mm.size
              have k2 := knew (x := y0) (n := y0.heap.size) (by rfl) (.string s) 9
              have hG2 : V.heap.size ≤ y0.heap.size := by exact hs
              have F := F.al (.cells #[.string s] 9)
              refine wpAnyH_ready (rs := [7]) (by kernel_rfl) (by simp) ?_
              refine AllReadyH.cons (o := ⟨some 15, _, _, _, _, _⟩) rfl (fun K hK => ?_) AllReadyH.nil
              · refine step_append_lies _ (by rfl) _ _ _ (by rfl) B 9 j2 _ 1 16 Tryd.underlying38 jinf2 jz20 jz21 jz22 rfl (by omega) _ _ _ (by rfl) F.o2 ⟨_, 0, none⟩ 1 1 [.string s] (by rfl) (by rfl) (one_news k2) (by simp [Value.oneCell']) (by omega) (by unfold maxLen; omega) (by omega) (Nat.le_trans hBV F.mm.size) _ rfl ?_
                intro g2 cap2 y1 ho hg hat hlt2
                have hq2 := newer F hat
                have hd := (unlike hat (F.o1.lt g1 rfl).2 (apart (n := 0) (c := 0) hq1 hd12 u2 g1 rfl))
                have F := F.gr2 hpa hpb hg ho (apart hq1 hd12 u2)
                refine hK.out _ _ trivial (fun _ => ?_)
                clear hK K ho hg hat k2
                simp only [Act.put, List.setIfInBounds_toArray, List.set_cons_zero, List.set_cons_succ]
                refine wpAnyH_ready (rs := [8]) (by kernel_rfl) (by simp) ?_
                refine AllReadyH.cons (o := ⟨none, _, _, _, _, _⟩) rfl (fun K hK => ?_) AllReadyH.nil
                have z1 := F.c1.c
                have z2 := F.c1.f
                go_simp
                refine hK.out _ _ trivial (fun _ => ?_)
                clear hK K
                refine wpAnyH_ready (rs := [9]) (by kernel_rfl) (by simp) ?_
                refine AllReadyH.cons (o := ⟨none, _, _, _, _, _⟩) rfl (fun K hK => ?_) AllReadyH.nil
                have z3 := (F.c2.oth (Ne.symm hne) (.slice (some ⟨g1, 0, none⟩) (is.length + 1) cap1))
                have z4 := z3.c
                have z5 := z3.f
                go_simp
                refine hK.out _ _ trivial (fun _ => ?_)
                clear hK K
                refine wpAnyH_done (by kernel_rfl) ?_ _
                have hR := hidI6 (fm_fin hpa hpb hne F hd m0)
                clear F z1 z2 z3 z4 z5
                go_wp2_with fail
                go_meet
                have hR2 := hR.out
                rw [hl2] at hR2
                refine ⟨rfl, ?_⟩
                rw [hl2]
                exact ⟨⟨_, _, _, _, hR2.1⟩, hR2.2⟩
          refine AllReadyH.cons (o := ⟨some 14, _, _, _, _, _⟩) rfl (fun K hK => ?_) AllReadyH.nil
          · go_simp
            refine hK.out _ _ trivial (fun _ => ?_)
            clear hK K
            have hs := F.mm.size
            have k2 := knew (x := (V.alloc (.cells #[.int .i64 i] 3))) (n := V.heap.size + 1) (by simp) (.string s) 9
            have hG2 : V.heap.size ≤ V.heap.size + 1 := by first | omega | (simp at hs; omega)
            have k1 := kal k1 (.cells #[.string s] 9)
            have F := F.al (.cells #[.string s] 9)
            refine wpAnyH_ready (rs := [3]) (by kernel_rfl) (by simp) ?_
            refine AllReadyH.cons (o := ⟨some 11, _, _, _, _, _⟩) rfl (fun K hK => ?_) AllReadyH.nil
            · refine step_append_lies _ (by rfl) _ _ _ (by rfl) B 3 j1 _ 1 8 Tryd.underlying37 jinf1 jz10 jz11 jz12 rfl (by omega) _ _ _ (by rfl) F.o1 ⟨_, 0, none⟩ 1 1 [.int .i64 i] (by rfl) (by rfl) (one_news k1) (by simp [Value.oneCell']) (by omega) (by unfold maxLen; omega) (by omega) (Nat.le_trans hBV F.mm.size) _ rfl ?_
              intro g1 cap1 y0 ho hg hat hlt1
              have hq1 := newer F hat
              have k2 := kgr (V := V) k2 hg u1 hG2
              have F := F.gr1 hpa hpb hg ho hd21
              refine hK.out _ _ trivial (fun _ => ?_)
              clear hK K ho hg hat k1
              simp only [Act.put, List.setIfInBounds_toArray, List.set_cons_zero, List.set_cons_succ]
              refine wpAnyH_ready (rs := [7]) (by kernel_rfl) (by simp) ?_
              refine AllReadyH.cons (o := ⟨some 15, _, _, _, _, _⟩) rfl (fun K hK => ?_) AllReadyH.nil
              · refine step_append_lies _ (by rfl) _ _ _ (by rfl) B 9 j2 _ 1 16 Tryd.underlying38 jinf2 jz20 jz21 jz22 rfl (by omega) _ _ _ (by rfl) F.o2 ⟨_, 0, none⟩ 1 1 [.string s] (by rfl) (by rfl) (one_news k2) (by simp [Value.oneCell']) (by omega) (by unfold maxLen; omega) (by omega) (Nat.le_trans hBV F.mm.size) _ rfl ?_
                intro g2 cap2 y1 ho hg hat hlt2
                have hq2 := newer F hat
                have hd := (unlike hat (F.o1.lt g1 rfl).2 (apart (n := 0) (c := 0) hq1 hd12 u2 g1 rfl))
                have F := F.gr2 hpa hpb hg ho (apart hq1 hd12 u2)
                refine hK.out _ _ trivial (fun _ => ?_)
                clear hK K ho hg hat k2
                simp only [Act.put, List.setIfInBounds_toArray, List.set_cons_zero, List.set_cons_succ]
                refine wpAnyH_ready (rs := [8]) (by kernel_rfl) (by simp) ?_
                refine AllReadyH.cons (o := ⟨none, _, _, _, _, _⟩) rfl (fun K hK => ?_) AllReadyH.nil
                have z1 := F.c1.c
                have z2 := F.c1.f
                go_simp
                refine hK.out _ _ trivial (fun _ => ?_)
                clear hK K
                refine wpAnyH_ready (rs := [9]) (by kernel_rfl) (by simp) ?_
                refine AllReadyH.cons (o := ⟨none, _, _, _, _, _⟩) rfl (fun K hK => ?_) AllReadyH.nil
                have z3 := (F.c2.oth (Ne.symm hne) (.slice (some ⟨g1, 0, none⟩) (is.length + 1) cap1))
                have z4 := z3.c
                have z5 := z3.f
                go_simp
                refine hK.out _ _ trivial (fun _ => ?_)
                clear hK K
                refine wpAnyH_done (by kernel_rfl) ?_ _
                have hR := hidI6 (fm_fin hpa hpb hne F hd m0)
                clear F z1 z2 z3 z4 z5
                go_wp2_with fail
                go_meet
                have hR2 := hR.out
                rw [hl2] at hR2
                refine ⟨rfl, ?_⟩
                rw [hl2]
                exact ⟨⟨_, _, _, _, hR2.1⟩, hR2.2⟩
        refine AllReadyH.cons (o := ⟨some 14, _, _, _, _, _⟩) rfl (fun K hK => ?_) AllReadyH.nil
        · go_simp
          refine hK.out _ _ trivial (fun _ => ?_)
          clear hK K
          have hs := F.mm.size
          have k2 := knew (x := (V.alloc (.cells #[.int .i64 i] 3))) (n := V.heap.size + 1) (by simp) (.string s) 9
          have hG2 : V.heap.size ≤ V.heap.size + 1 := by first | omega | (simp at hs; omega)
          have k1 := kal k1 (.cells #[.string s] 9)
          have F := F.al (.cells #[.string s] 9)
          refine wpAnyH_ready (rs := [0]) (by kernel_rfl) (by simp) ?_
          refine AllReadyH.cons (o := ⟨some 8, _, _, _, _, _⟩) rfl (fun K hK => ?_) AllReadyH.nil
          · have z := F.c1.c
            go_simp
            refine hK.out _ _ trivial (fun _ => ?_)
            clear hK K z
            refine wpAnyH_ready (rs := [3]) (by kernel_rfl) (by simp) ?_
            refine AllReadyH.cons (o := ⟨some 11, _, _, _, _, _⟩) rfl (fun K hK => ?_) AllReadyH.nil
            · refine step_append_lies _ (by rfl) _ _ _ (by rfl) B 3 j1 _ 1 8 Tryd.underlying37 jinf1 jz10 jz11 jz12 rfl (by omega) _ _ _ (by rfl) F.o1 ⟨_, 0, none⟩ 1 1 [.int .i64 i] (by rfl) (by rfl) (one_news k1) (by simp [Value.oneCell']) (by omega) (by unfold maxLen; omega) (by omega) (Nat.le_trans hBV F.mm.size) _ rfl ?_
              intro g1 cap1 y0 ho hg hat hlt1
              have hq1 := newer F hat
              have k2 := kgr (V := V) k2 hg u1 hG2
              have F := F.gr1 hpa hpb hg ho hd21
              refine hK.out _ _ trivial (fun _ => ?_)
              clear hK K ho hg hat k1
              simp only [Act.put, List.setIfInBounds_toArray, List.set_cons_zero, List.set_cons_succ]
              refine wpAnyH_ready (rs := [7]) (by kernel_rfl) (by simp) ?_
              refine AllReadyH.cons (o := ⟨some 15, _, _, _, _, _⟩) rfl (fun K hK => ?_) AllReadyH.nil
              · refine step_append_lies _ (by rfl) _ _ _ (by rfl) B 9 j2 _ 1 16 Tryd.underlying38 jinf2 jz20 jz21 jz22 rfl (by omega) _ _ _ (by rfl) F.o2 ⟨_, 0, none⟩ 1 1 [.string s] (by rfl) (by rfl) (one_news k2) (by simp [Value.oneCell']) (by omega) (by unfold maxLen; omega) (by omega) (Nat.le_trans hBV F.mm.size) _ rfl ?_
                intro g2 cap2 y1 ho hg hat hlt2
                have hq2 := newer F hat
                have hd := (unlike hat (F.o1.lt g1 rfl).2 (apart (n := 0) (c := 0) hq1 hd12 u2 g1 rfl))
                have F := F.gr2 hpa hpb hg ho (apart hq1 hd12 u2)
                refine hK.out _ _ trivial (fun _ => ?_)
                clear hK K ho hg hat k2
                simp only [Act.put, List.setIfInBounds_toArray, List.set_cons_zero, List.set_cons_succ]
                refine wpAnyH_ready (rs := [8]) (by kernel_rfl) (by simp) ?_
                refine AllReadyH.cons (o := ⟨none, _, _, _, _, _⟩) rfl (fun K hK => ?_) AllReadyH.nil
                have z1 := F.c1.c
                have z2 := F.c1.f
                go_simp
                refine hK.out _ _ trivial (fun _ => ?_)
                clear hK K
                refine wpAnyH_ready (rs := [9]) (by kernel_rfl) (by simp) ?_
                refine AllReadyH.cons (o := ⟨none, _, _, _, _, _⟩) rfl (fun K hK => ?_) AllReadyH.nil
                have z3 := (F.c2.oth (Ne.symm hne) (.slice (some ⟨g1, 0, none⟩) (is.length + 1) cap1))
                have z4 := z3.c
                have z5 := z3.f
                go_simp
                refine hK.out _ _ trivial (fun _ => ?_)
                clear hK K
                refine wpAnyH_done (by kernel_rfl) ?_ _
                have hR := hidI6 (fm_fin hpa hpb hne F hd m0)
                clear F z1 z2 z3 z4 z5
                go_wp2_with fail
                go_meet
                have hR2 := hR.out
                rw [hl2] at hR2
                refine ⟨rfl, ?_⟩
                rw [hl2]
                exact ⟨⟨_, _, _, _, hR2.1⟩, hR2.2⟩
      refine AllReadyH.cons (o := ⟨some 14, _, _, _, _, _⟩) rfl (fun K hK => ?_) AllReadyH.nil
      · go_simp
        refine hK.out _ _ trivial (fun _ => ?_)
        clear hK K
        have hs := F.mm.size
        have k2 := knew (x := (V.alloc (.cells #[.int .i64 i] 3))) (n := V.heap.size + 1) (by simp) (.string s) 9
        have hG2 : V.heap.size ≤ V.heap.size + 1 := by first | omega | (simp at hs; omega)
        have k1 := kal k1 (.cells #[.string s] 9)
        have F := F.al (.cells #[.string s] 9)
        refine wpAnyH_ready (rs := [0, 4]) (by kernel_rfl) (by simp) ?_
        refine AllReadyH.cons (o := ⟨some 8, _, _, _, _, _⟩) rfl (fun K hK => ?_) ?_
        · have z := F.c1.c
          go_simp
          refine hK.out _ _ trivial (fun _ => ?_)
          clear hK K z
          refine wpAnyH_ready (rs := [3, 4]) (by kernel_rfl) (by simp) ?_
          refine AllReadyH.cons (o := ⟨some 11, _, _, _, _, _⟩) rfl (fun K hK => ?_) ?_
          · refine step_append_lies _ (by rfl) _ _ _ (by rfl) B 3 j1 _ 1 8 Tryd.underlying37 jinf1 jz10 jz11 jz12 rfl (by omega) _ _ _ (by rfl) F.o1 ⟨_, 0, none⟩ 1 1 [.int .i64 i] (by rfl) (by rfl) (one_news k1) (by simp [Value.oneCell']) (by omega) (by unfold maxLen; omega) (by omega) (Nat.le_trans hBV F.mm.size) _ rfl ?_
            intro g1 cap1 y0 ho hg hat hlt1
            have hq1 := newer F hat
            have k2 := kgr (V := V) k2 hg u1 hG2
            have F := F.gr1 hpa hpb hg ho hd21
            refine hK.out _ _ trivial (fun _ => ?_)
            clear hK K ho hg hat k1
            simp only [Act.put, List.setIfInBounds_toArray, List.set_cons_zero, List.set_cons_succ]
            refine wpAnyH_ready (rs := [4]) (by kernel_rfl) (by simp) ?_
            refine AllReadyH.cons (o := ⟨some 12, _, _, _, _, _⟩) rfl (fun K hK => ?_) AllReadyH.nil
            · have z := F.c2.c
              go_simp
              refine hK.out _ _ trivial (fun _ => ?_)
              clear hK K z
              refine wpAnyH_ready (rs := [7]) (by kernel_rfl) (by simp) ?_
              refine AllReadyH.cons (o := ⟨some 15, _, _, _, _, _⟩) rfl (fun K hK => ?_) AllReadyH.nil
              · refine step_append_lies _ (by rfl) _ _ _ (by rfl) B 9 j2 _ 1 16 Tryd.underlying38 jinf2 jz20 jz21 jz22 rfl (by omega) _ _ _ (by rfl) F.o2 ⟨_, 0, none⟩ 1 1 [.string s] (by rfl) (by rfl) (one_news k2) (by simp [Value.oneCell']) (by omega) (by unfold maxLen; omega) (by omega) (Nat.le_trans hBV F.mm.size) _ rfl ?_
                intro g2 cap2 y1 ho hg hat hlt2
                have hq2 := newer F hat
                have hd := (unlike hat (F.o1.lt g1 rfl).2 (apart (n := 0) (c := 0) hq1 hd12 u2 g1 rfl))
                have F := F.gr2 hpa hpb hg ho (apart hq1 hd12 u2)
                refine hK.out _ _ trivial (fun _ => ?_)
                clear hK K ho hg hat k2
                simp only [Act.put, List.setIfInBounds_toArray, List.set_cons_zero, List.set_cons_succ]
                refine wpAnyH_ready (rs := [8]) (by kernel_rfl) (by simp) ?_
                refine AllReadyH.cons (o := ⟨none, _, _, _, _, _⟩) rfl (fun K hK => ?_) AllReadyH.nil
                have z1 := F.c1.c
                have z2 := F.c1.f
                go_simp
                refine hK.out _ _ trivial (fun _ => ?_)
                clear hK K
                refine wpAnyH_ready (rs := [9]) (by kernel_rfl) (by simp) ?_
                refine AllReadyH.cons (o := ⟨none, _, _, _, _, _⟩) rfl (fun K hK => ?_) AllReadyH.nil
                have z3 := (F.c2.oth (Ne.symm hne) (.slice (some ⟨g1, 0, none⟩) (is.length + 1) cap1))
                have z4 := z3.c
                have z5 := z3.f
                go_simp
                refine hK.out _ _ trivial (fun _ => ?_)
                clear hK K
                refine wpAnyH_done (by kernel_rfl) ?_ _
                have hR := hidI6 (fm_fin hpa hpb hne F hd m0)
                clear F z1 z2 z3 z4 z5
                go_wp2_with fail
                go_meet
                have hR2 := hR.out
                rw [hl2] at hR2
                refine ⟨rfl, ?_⟩
                rw [hl2]
                exact ⟨⟨_, _, _, _, hR2.1⟩, hR2.2⟩
          refine AllReadyH.cons (o := ⟨some 12, _, _, _, _, _⟩) rfl (fun K hK => ?_) AllReadyH.nil
          · have z := F.c2.c
            go_simp
            refine hK.out _ _ trivial (fun _ => ?_)
            clear hK K z
            refine wpAnyH_ready (rs := [3]) (by kernel_rfl) (by simp) ?_
            refine AllReadyH.cons (o := ⟨some 11, _, _, _, _, _⟩) rfl (fun K hK => ?_) AllReadyH.nil
            · refine step_append_lies _ (by rfl) _ _ _ (by rfl) B 3 j1 _ 1 8 Tryd.underlying37 jinf1 jz10 jz11 jz12 rfl (by omega) _ _ _ (by rfl) F.o1 ⟨_, 0, none⟩ 1 1 [.int .i64 i] (by rfl) (by rfl) (one_news k1) (by simp [Value.oneCell']) (by omega) (by unfold maxLen; omega) (by omega) (Nat.le_trans hBV F.mm.size) _ rfl ?_
              intro g1 cap1 y0 ho hg hat hlt1
              have hq1 := newer F hat
              have k2 := kgr (V := V) k2 hg u1 hG2
              have F := F.gr1 hpa hpb hg ho hd21
              refine hK.out _ _ trivial (fun _ => ?_)
              clear hK K ho hg hat k1
              simp only [Act.put, List.setIfInBounds_toArray, List.set_cons_zero, List.set_cons_succ]
              refine wpAnyH_ready (rs := [7]) (by kernel_rfl) (by simp) ?_
              refine AllReadyH.cons (o := ⟨some 15, _, _, _, _, _⟩) rfl (fun K hK => ?_) AllReadyH.nil
              · refine step_append_lies _ (by rfl) _ _ _ (by rfl) B 9 j2 _ 1 16 Tryd.underlying38 jinf2 jz20 jz21 jz22 rfl (by omega) _ _ _ (by rfl) F.o2 ⟨_, 0, none⟩ 1 1 [.string s] (by rfl) (by rfl) (one_news k2) (by simp [Value.oneCell']) (by omega) (by unfold maxLen; omega) (by omega) (Nat.le_trans hBV F.mm.size) _ rfl ?_
                intro g2 cap2 y1 ho hg hat hlt2
                have hq2 := newer F hat
                have hd := (unlike hat (F.o1.lt g1 rfl).2 (apart (n := 0) (c := 0) hq1 hd12 u2 g1 rfl))
                have F := F.gr2 hpa hpb hg ho (apart hq1 hd12 u2)
                refine hK.out _ _ trivial (fun _ => ?_)
                clear hK K ho hg hat k2
                simp only [Act.put, List.setIfInBounds_toArray, List.set_cons_zero, List.set_cons_succ]
                refine wpAnyH_ready (rs := [8]) (by kernel_rfl) (by simp) ?_
                refine AllReadyH.cons (o := ⟨none, _, _, _, _, _⟩) rfl (fun K hK => ?_) AllReadyH.nil
                have z1 := F.c1.c
                have z2 := F.c1.f
                go_simp
                refine hK.out _ _ trivial (fun _ => ?_)
                clear hK K
                refine wpAnyH_ready (rs := [9]) (by kernel_rfl) (by simp) ?_
                refine AllReadyH.cons (o := ⟨none, _, _, _, _, _⟩) rfl (fun K hK => ?_) AllReadyH.nil
                have z3 := (F.c2.oth (Ne.symm hne) (.slice (some ⟨g1, 0, none⟩) (is.length + 1) cap1))
                have z4 := z3.c
                have z5 := z3.f
                go_simp
                refine hK.out _ _ trivial (fun _ => ?_)
                clear hK K
                refine wpAnyH_done (by kernel_rfl) ?_ _
                have hR := hidI6 (fm_fin hpa hpb hne F hd m0)
                clear F z1 z2 z3 z4 z5
                go_wp2_with fail
                go_meet
                have hR2 := hR.out
                rw [hl2] at hR2
                refine ⟨rfl, ?_⟩
                rw [hl2]
                exact ⟨⟨_, _, _, _, hR2.1⟩, hR2.2⟩
        refine AllReadyH.cons (o := ⟨some 12, _, _, _, _, _⟩) rfl (fun K hK => ?_) AllReadyH.nil
        · have z := F.c2.c
          go_simp
          refine hK.out _ _ trivial (fun _ => ?_)
          clear hK K z
          refine wpAnyH_ready (rs := [0]) (by kernel_rfl) (by simp) ?_
          refine AllReadyH.cons (o := ⟨some 8, _, _, _, _, _⟩) rfl (fun K hK => ?_) AllReadyH.nil
          · have z := F.c1.c
            go_simp
            refine hK.out _ _ trivial (fun _ => ?_)
            clear hK K z
            refine wpAnyH_ready (rs := [3]) (by kernel_rfl) (by simp) ?_
            refine AllReadyH.cons (o := ⟨some 11, _, _, _, _, _⟩) rfl (fun K hK => ?_) AllReadyH.nil
            · refine step_append_lies _ (by rfl) _ _ _ (by rfl) B 3 j1 _ 1 8 Tryd.underlying37 jinf1 jz10 jz11 jz12 rfl (by omega) _ _ _ (by rfl) F.o1 ⟨_, 0, none⟩ 1 1 [.int .i64 i] (by rfl) (by rfl) (one_news k1) (by simp [Value.oneCell']) (by omega) (by unfold maxLen; omega) (by omega) (Nat.le_trans hBV F.mm.size) _ rfl ?_
              intro g1 cap1 y0 ho hg hat hlt1
              have hq1 := newer F hat
              have k2 := kgr (V := V) k2 hg u1 hG2
              have F := F.gr1 hpa hpb hg ho hd21
              refine hK.out _ _ trivial (fun _ => ?_)
              clear hK K ho hg hat k1
              simp only [Act.put, List.setIfInBounds_toArray, List.set_cons_zero, List.set_cons_succ]
              refine wpAnyH_ready (rs := [7]) (by kernel_rfl) (by simp) ?_
              refine AllReadyH.cons (o := ⟨some 15, _, _, _, _, _⟩) rfl (fun K hK => ?_) AllReadyH.nil
              · refine step_append_lies _ (by rfl) _ _ _ (by rfl) B 9 j2 _ 1 16 Tryd.underlying38 jinf2 jz20 jz21 jz22 rfl (by omega) _ _ _ (by rfl) F.o2 ⟨_, 0, none⟩ 1 1 [.string s] (by rfl) (by rfl) (one_news k2) (by simp [Value.oneCell']) (by omega) (by unfold maxLen; omega) (by omega) (Nat.le_trans hBV F.mm.size) _ rfl ?_
                intro g2 cap2 y1 ho hg hat hlt2
                have hq2 := newer F hat
                have hd := (unlike hat (F.o1.lt g1 rfl).2 (apart (n := 0) (c := 0) hq1 hd12 u2 g1 rfl))
                have F := F.gr2 hpa hpb hg ho (apart hq1 hd12 u2)
                refine hK.out _ _ trivial (fun _ => ?_)
                clear hK K ho hg hat k2
                simp only [Act.put, List.setIfInBounds_toArray, List.set_cons_zero, List.set_cons_succ]
                refine wpAnyH_ready (rs := [8]) (by kernel_rfl) (by simp) ?_
                refine AllReadyH.cons (o := ⟨none, _, _, _, _, _⟩) rfl (fun K hK => ?_) AllReadyH.nil
                have z1 := F.c1.c
                have z2 := F.c1.f
                go_simp
                refine hK.out _ _ trivial (fun _ => ?_)
                clear hK K
                refine wpAnyH_ready (rs := [9]) (by kernel_rfl) (by simp) ?_
                refine AllReadyH.cons (o := ⟨none, _, _, _, _, _⟩) rfl (fun K hK => ?_) AllReadyH.nil
                have z3 := (F.c2.oth (Ne.symm hne) (.slice (some ⟨g1, 0, none⟩) (is.length + 1) cap1))
                have z4 := z3.c
                have z5 := z3.f
                go_simp
                refine hK.out _ _ trivial (fun _ => ?_)
                clear hK K
                refine wpAnyH_done (by kernel_rfl) ?_ _
                have hR := hidI6 (fm_fin hpa hpb hne F hd m0)
                clear F z1 z2 z3 z4 z5
                go_wp2_with fail
                go_meet
                have hR2 := hR.out
                rw [hl2] at hR2
                refine ⟨rfl, ?_⟩
                rw [hl2]
                exact ⟨⟨_, _, _, _, hR2.1⟩, hR2.2⟩
    refine AllReadyH.cons (o := ⟨some 12, _, _, _, _, _⟩) rfl (fun K hK => ?_) ?_
    · have z := F.c2.c
      go_simp
      refine hK.out _ _ trivial (fun _ => ?_)
      clear hK K z
      refine wpAnyH_ready (rs := [0, 2, 6]) (by kernel_rfl) (by simp) ?_
      refine AllReadyH.cons (o := ⟨some 8, _, _, _, _, _⟩) rfl (fun K hK => ?_) ?_
      · have z := F.c1.c
        go_simp
        refine hK.out _ _ trivial (fun _ => ?_)
        clear hK K z
        refine wpAnyH_ready (rs := [2, 6]) (by kernel_rfl) (by simp) ?_
        refine AllReadyH.cons (o := ⟨some 10, _, _, _, _, _⟩) rfl (fun K hK => ?_) ?_
        · go_simp
          refine hK.out _ _ trivial (fun _ => ?_)
          clear hK K
          have hs := F.mm.size
          have k1 := knew (x := V) (n := V.heap.size) (by rfl) (.int .i64 i) 3
          have hG1 : V.heap.size ≤ V.heap.size := by exact hs
          have F := F.al (.cells #[.int .i64 i] 3)
          refine wpAnyH_ready (rs := [3, 6]) (by kernel_rfl) (by simp) ?_
          refine AllReadyH.cons (o := ⟨some 11, _, _, _, _, _⟩) rfl (fun K hK => ?_) ?_
          · refine step_append_lies _ (by rfl) _ _ _ (by rfl) B 3 j1 _ 1 8 Tryd.underlying37 jinf1 jz10 jz11 jz12 rfl (by omega) _ _ _ (by rfl) F.o1 ⟨_, 0, none⟩ 1 1 [.int .i64 i] (by rfl) (by rfl) (one_news k1) (by simp [Value.oneCell']) (by omega) (by unfold maxLen; omega) (by omega) (Nat.le_trans hBV F.mm.size) _ rfl ?_
            intro g1 cap1 y0 ho hg hat hlt1
            have hq1 := newer F hat
            have F := F.gr1 hpa hpb hg ho hd21
            refine hK.out _ _ trivial (fun _ => ?_)
            clear hK K ho hg hat k1
            simp only [Act.put, List.setIfInBounds_toArray, List.set_cons_zero, List.set_cons_succ]
            refine wpAnyH_ready (rs := [6]) (by kernel_rfl) (by simp) ?_
            refine AllReadyH.cons (o := ⟨some 14, _, _, _, _, _⟩) rfl (fun K hK => ?_) AllReadyH.nil
            · go_simp
              refine hK.out _ _ trivial (fun _ => ?_)
              clear hK K
              have hs := F.mm.size
              have k2 := knew (x := y0) (n := y0.heap.size) (by rfl) (.string s) 9
              have hG2 : V.heap.size ≤ y0.heap.size := by exact hs
              have F := F.al (.cells #[.string s] 9)
              refine wpAnyH_ready (rs := [7]) (by kernel_rfl) (by simp) ?_
              refine AllReadyH.cons (o := ⟨some 15, _, _, _, _, _⟩) rfl (fun K hK => ?_) AllReadyH.nil
              · refine step_append_lies _ (by rfl) _ _ _ (by rfl) B 9 j2 _ 1 16 Tryd.underlying38 jinf2 jz20 jz21 jz22 rfl (by omega) _ _ _ (by rfl) F.o2 ⟨_, 0, none⟩ 1 1 [.string s] (by rfl) (by rfl) (one_news k2) (by simp [Value.oneCell']) (by omega) (by unfold maxLen; omega) (by omega) (Nat.le_trans hBV F.mm.size) _ rfl ?_
                intro g2 cap2 y1 ho hg hat hlt2
                have hq2 := newer F hat
                have hd := (unlike hat (F.o1.lt g1 rfl).2 (apart (n := 0) (c := 0) hq1 hd12 u2 g1 rfl))
                have F := F.gr2 hpa hpb hg ho (apart hq1 hd12 u2)
                refine hK.out _ _ trivial (fun _ => ?_)
                clear hK K ho hg hat k2
                simp only [Act.put, List.setIfInBounds_toArray, List.set_cons_zero, List.set_cons_succ]
                refine wpAnyH_ready (rs := [8]) (by kernel_rfl) (by simp) ?_
                refine AllReadyH.cons (o := ⟨none, _, _, _, _, _⟩) rfl (fun K hK => ?_) AllReadyH.nil
                have z1 := F.c1.c
                have z2 := F.c1.f
                go_simp
                refine hK.out _ _ trivial (fun _ => ?_)
                clear hK K
                refine wpAnyH_ready (rs := [9]) (by kernel_rfl) (by simp) ?_
                refine AllReadyH.cons (o := ⟨none, _, _, _, _, _⟩) rfl (fun K hK => ?_) AllReadyH.nil
                have z3 := (F.c2.oth (Ne.symm hne) (.slice (some ⟨g1, 0, none⟩) (is.length + 1) cap1))
                have z4 := z3.c
                have z5 := z3.f
                go_simp
                refine hK.out _ _ trivial (fun _ => ?_)
                clear hK K
                refine wpAnyH_done (by kernel_rfl) ?_ _
                have hR := hidI6 (fm_fin hpa hpb hne F hd m0)
                clear F z1 z2 z3 z4 z5
                go_wp2_with fail
                go_meet
                have hR2 := hR.out
                rw [hl2] at hR2
                refine ⟨rfl, ?_⟩
                rw [hl2]
                exact ⟨⟨_, _, _, _, hR2.1⟩, hR2.2⟩
          refine AllReadyH.cons (o := ⟨some 14, _, _, _, _, _⟩) rfl (fun K hK => ?_) AllReadyH.nil
          · go_simp
            refine hK.out _ _ trivial (fun _ => ?_)
            clear hK K
            have hs := F.mm.size
            have k2 := knew (x := (V.alloc (.cells #[.int .i64 i] 3))) (n := V.heap.size + 1) (by simp) (.string s) 9
            have hG2 : V.heap.size ≤ V.heap.size + 1 := by first | omega | (simp at hs; omega)
            have k1 := kal k1 (.cells #[.string s] 9)
            have F := F.al (.cells #[.string s] 9)
            refine wpAnyH_ready (rs := [3]) (by kernel_rfl) (by simp) ?_
            refine AllReadyH.cons (o := ⟨some 11, _, _, _, _, _⟩) rfl (fun K hK => ?_) AllReadyH.nil
            · refine step_append_lies _ (by rfl) _ _ _ (by rfl) B 3 j1 _ 1 8 Tryd.underlying37 jinf1 jz10 jz11 jz12 rfl (by omega) _ _ _ (by rfl) F.o1 ⟨_, 0, none⟩ 1 1 [.int .i64 i] (by rfl) (by rfl) (one_news k1) (by simp [Value.oneCell']) (by omega) (by unfold maxLen; omega) (by omega) (Nat.le_trans hBV F.mm.size) _ rfl ?_
              intro g1 cap1 y0 ho hg hat hlt1
              have hq1 := newer F hat
              have k2 := kgr (V := V) k2 hg u1 hG2
              have F := F.gr1 hpa hpb hg ho hd21
              refine hK.out _ _ trivial (fun _ => ?_)
              clear hK K ho hg hat k1
              simp only [Act.put, List.setIfInBounds_toArray, List.set_cons_zero, List.set_cons_succ]
              refine wpAnyH_ready (rs := [7]) (by kernel_rfl) (by simp) ?_
              refine AllReadyH.cons (o := ⟨some 15, _, _, _, _, _⟩) rfl (fun K hK => ?_) AllReadyH.nil
              · refine step_append_lies _ (by rfl) _ _ _ (by rfl) B 9 j2 _ 1 16 Tryd.underlying38 jinf2 jz20 jz21 jz22 rfl (by omega) _ _ _ (by rfl) F.o2 ⟨_, 0, none⟩ 1 1 [.string s] (by rfl) (by rfl) (one_news k2) (by simp [Value.oneCell']) (by omega) (by unfold maxLen; omega) (by omega) (Nat.le_trans hBV F.mm.size) _ rfl ?_
                intro g2 cap2 y1 ho hg hat hlt2
                have hq2 := newer F hat
                have hd := (unlike hat (F.o1.lt g1 rfl).2 (apart (n := 0) (c := 0) hq1 hd12 u2 g1 rfl))
                have F := F.gr2 hpa hpb hg ho (apart hq1 hd12 u2)
                refine hK.out _ _ trivial (fun _ => ?_)
                clear hK K ho hg hat k2
                simp only [Act.put, List.setIfInBounds_toArray, List.set_cons_zero, List.set_cons_succ]
                refine wpAnyH_ready (rs := [8]) (by kernel_rfl) (by simp) ?_
                refine AllReadyH.cons (o := ⟨none, _, _, _, _, _⟩) rfl (fun K hK => ?_) AllReadyH.nil
                have z1 := F.c1.c
                have z2 := F.c1.f
                go_simp
                refine hK.out _ _ trivial (fun _ => ?_)
                clear hK K
                refine wpAnyH_ready (rs := [9]) (by kernel_rfl) (by simp) ?_
                refine AllReadyH.cons (o := ⟨none, _, _, _, _, _⟩) rfl (fun K hK => ?_) AllReadyH.nil
                have z3 := (F.c2.oth (Ne.symm hne) (.slice (some ⟨g1, 0, none⟩) (is.length + 1) cap1))
                have z4 := z3.c
                have z5 := z3.f
                go_simp
                refine hK.out _ _ trivial (fun _ => ?_)
                clear hK K
                refine wpAnyH_done (by kernel_rfl) ?_ _
                have hR := hidI6 (fm_fin hpa hpb hne F hd m0)
                clear F z1 z2 z3 z4 z5
                go_wp2_with fail
                go_meet
                have hR2 := hR.out
                rw [hl2] at hR2
                refine ⟨rfl, ?_⟩
                rw [hl2]
                exact ⟨⟨_, _, _, _, hR2.1⟩, hR2.2⟩
        refine AllReadyH.cons (o := ⟨some 14, _, _, _, _, _⟩) rfl (fun K hK => ?_) AllReadyH.nil
        · go_simp
          refine hK.out _ _ trivial (fun _ => ?_)
          clear hK K
          have hs := F.mm.size
          have k2 := knew (x := V) (n := V.heap.size) (by rfl) (.string s) 9
          have hG2 : V.heap.size ≤ V.heap.size := by exact hs
          have F := F.al (.cells #[.string s] 9)
          refine wpAnyH_ready (rs := [2]) (by kernel_rfl) (by simp) ?_
          refine AllReadyH.cons (o := ⟨some 10, _, _, _, _, _⟩) rfl (fun K hK => ?_) AllReadyH.nil
          · go_simp
            refine hK.out _ _ trivial (fun _ => ?_)
            clear hK K
            have hs := F.mm.size
            have k1 := knew (x := (V.alloc (.cells #[.string s] 9))) (n := V.heap.size + 1) (by simp) (.int .i64 i) 3
            have hG1 : V.heap.size ≤ V.heap.size + 1 := by first | omega | (simp at hs; omega)
            have k2 := kal k2 (.cells #[.int .i64 i] 3)
            have F := F.al (.cells #[.int .i64 i] 3)
            refine wpAnyH_ready (rs := [3]) (by kernel_rfl) (by simp) ?_
            refine AllReadyH.cons (o := ⟨some 11, _, _, _, _, _⟩) rfl (fun K hK => ?_) AllReadyH.nil
            · refine step_append_lies _ (by rfl) _ _ _ (by rfl) B 3 j1 _ 1 8 Tryd.underlying37 jinf1 jz10 jz11 jz12 rfl (by omega) _ _ _ (by rfl) F.o1 ⟨_, 0, none⟩ 1 1 [.int .i64 i] (by rfl) (by rfl) (one_news k1) (by simp [Value.oneCell']) (by omega) (by unfold maxLen; omega) (by omega) (Nat.le_trans hBV F.mm.size) _ rfl ?_
              intro g1 cap1 y0 ho hg hat hlt1
              have hq1 := newer F hat
              have k2 := kgr (V := V) k2 hg u1 hG2
              have F := F.gr1 hpa hpb hg ho hd21
              refine hK.out _ _ trivial (fun _ => ?_)
              clear hK K ho hg hat k1
              simp only [Act.put, List.setIfInBounds_toArray, List.set_cons_zero, List.set_cons_succ]
              refine wpAnyH_ready (rs := [7]) (by kernel_rfl) (by simp) ?_
              refine AllReadyH.cons (o := ⟨some 15, _, _, _, _, _⟩) rfl (fun K hK => ?_) AllReadyH.nil
              · refine step_append_lies _ (by rfl) _ _ _ (by rfl) B 9 j2 _ 1 16 Tryd.underlying38 jinf2 jz20 jz21 jz22 rfl (by omega) _ _ _ (by rfl) F.o2 ⟨_, 0, none⟩ 1 1 [.string s] (by rfl) (by rfl) (one_news k2) (by simp [Value.oneCell']) (by omega) (by unfold maxLen; omega) (by omega) (Nat.le_trans hBV F.mm.size) _ rfl ?_
                intro g2 cap2 y1 ho hg hat hlt2
                have hq2 := newer F hat
                have hd := (unlike hat (F.o1.lt g1 rfl).2 (apart (n := 0) (c := 0) hq1 hd12 u2 g1 rfl))
                have F := F.gr2 hpa hpb hg ho (apart hq1 hd12 u2)
                refine hK.out _ _ trivial (fun _ => ?_)
                clear hK K ho hg hat k2
                simp only [Act.put, List.setIfInBounds_toArray, List.set_cons_zero, List.set_cons_succ]
                refine wpAnyH_ready (rs := [8]) (by kernel_rfl) (by simp) ?_
                refine AllReadyH.cons (o := ⟨none, _, _, _, _, _⟩) rfl (fun K hK => ?_) AllReadyH.nil
                have z1 := F.c1.c
                have z2 := F.c1.f
                go_simp
                refine hK.out _ _ trivial (fun _ => ?_)
                clear hK K
                refine wpAnyH_ready (rs := [9]) (by kernel_rfl) (by simp) ?_
                refine AllReadyH.cons (o := ⟨none, _, _, _, _, _⟩) rfl (fun K hK => ?_) AllReadyH.nil
                have z3 := (F.c2.oth (Ne.symm hne) (.slice (some ⟨g1, 0, none⟩) (is.length + 1) cap1))
                have z4 := z3.c
                have z5 := z3.f
                go_simp
                refine hK.out _ _ trivial (fun _ => ?_)
                clear hK K
                refine wpAnyH_done (by kernel_rfl) ?_ _
                have hR := hidI6 (fm_fin hpa hpb hne F hd m0)
                clear F z1 z2 z3 z4 z5
                go_wp2_with fail
                go_meet
                have hR2 := hR.out
                rw [hl2] at hR2
                refine ⟨rfl, ?_⟩
                rw [hl2]
                exact ⟨⟨_, _, _, _, hR2.1⟩, hR2.2⟩
      refine AllReadyH.cons (o := ⟨some 10, _, _, _, _, _⟩) rfl (fun K hK => ?_) ?_
      · go_simp
        refine hK.out _ _ trivial (fun _ => ?_)
        clear hK K
        have hs := F.mm.size
        have k1 := knew (x := V) (n := V.heap.size) (by rfl) (.int .i64 i) 3
        have hG1 : V.heap.size ≤ V.heap.size := by exact hs
        have F := F.al (.cells #[.int .i64 i] 3)
        refine wpAnyH_ready (rs := [0, 6]) (by kernel_rfl) (by simp) ?_
        refine AllReadyH.cons (o := ⟨some 8, _, _, _, _, _⟩) rfl (fun K hK => ?_) ?_
        · have z := F.c1.c
          go_simp
          refine hK.out _ _ trivial (fun _ => ?_)
          clear hK K z
          refine wpAnyH_ready (rs := [3, 6]) (by kernel_rfl) (by simp) ?_
          refine AllReadyH.cons (o := ⟨some 11, _, _, _, _, _⟩) rfl (fun K hK => ?_) ?_
          · refine step_append_lies _ (by rfl) _ _ _ (by rfl) B 3 j1 _ 1 8 Tryd.underlying37 jinf1 jz10 jz11 jz12 rfl (by omega) _ _ _ (by rfl) F.o1 ⟨_, 0, none⟩ 1 1 [.int .i64 i] (by rfl) (by rfl) (one_news k1) (by simp [Value.oneCell']) (by omega) (by unfold maxLen; omega) (by omega) (Nat.le_trans hBV F.mm.size) _ rfl ?_
            intro g1 cap1 y0 ho hg hat hlt1
            have hq1 := newer F hat
            have F := F.gr1 hpa hpb hg ho hd21
            refine hK.out _ _ trivial (fun _ => ?_)
            clear hK K ho hg hat k1
            simp only [Act.put, List.setIfInBounds_toArray, List.set_cons_zero, List.set_cons_succ]
            refine wpAnyH_ready (rs := [6]) (by kernel_rfl) (by simp) ?_
            refine AllReadyH.cons (o := ⟨some 14, _, _, _, _, _⟩) rfl (fun K hK => ?_) AllReadyH.nil
            · go_simp
              refine hK.out _ _ trivial (fun _ => ?_)
              clear hK K
              have hs := F.mm.size
              have k2 := knew (x := y0) (n := y0.heap.size) (by rfl) (.string s) 9
              have hG2 : V.heap.size ≤ y0.heap.size := by exact hs
              have F := F.al (.cells #[.string s] 9)
              refine wpAnyH_ready (rs := [7]) (by kernel_rfl) (by simp) ?_
              refine AllReadyH.cons (o := ⟨some 15, _, _, _, _, _⟩) rfl (fun K hK => ?_) AllReadyH.nil
              · refine step_append_lies _ (by rfl) _ _ _ (by rfl) B 9 j2 _ 1 16 Tryd.underlying38 jinf2 jz20 jz21 jz22 rfl (by omega) _ _ _ (by rfl) F.o2 ⟨_, 0, none⟩ 1 1 [.string s] (by rfl) (by rfl) (one_news k2) (by simp [Value.oneCell']) (by omega) (by unfold maxLen; omega) (by omega) (Nat.le_trans hBV F.mm.size) _ rfl ?_
                intro g2 cap2 y1 ho hg hat hlt2
                have hq2 := newer F hat
                have hd := (unlike hat (F.o1.lt g1 rfl).2 (apart (n := 0) (c := 0) hq1 hd12 u2 g1 rfl))
                have F := F.gr2 hpa hpb hg ho (apart hq1 hd12 u2)
                refine hK.out _ _ trivial (fun _ => ?_)
                clear hK K ho hg hat k2
                simp only [Act.put, List.setIfInBounds_toArray, List.set_cons_zero, List.set_cons_succ]
                refine wpAnyH_ready (rs := [8]) (by kernel_rfl) (by simp) ?_
                refine AllReadyH.cons (o := ⟨none, _, _, _, _, _⟩) rfl (fun K hK => ?_) AllReadyH.nil
                have z1 := F.c1.c
                have z2 := F.c1.f
                go_simp
                refine hK.out _ _ trivial (fun _ => ?_)
                clear hK K
                refine wpAnyH_ready (rs := [9]) (by kernel_rfl) (by simp) ?_
                refine AllReadyH.cons (o := ⟨none, _, _, _, _, _⟩) rfl (fun K hK => ?_) AllReadyH.nil
                have z3 := (F.c2.oth (Ne.symm hne) (.slice (some ⟨g1, 0, none⟩) (is.length + 1) cap1))
                have z4 := z3.c
                have z5 := z3.f
                go_simp
                refine hK.out _ _ trivial (fun _ => ?_)
                clear hK K
                refine wpAnyH_done (by kernel_rfl) ?_ _
                have hR := hidI6 (fm_fin hpa hpb hne F hd m0)
                clear F z1 z2 z3 z4 z5
                go_wp2_with fail
                go_meet
                have hR2 := hR.out
                rw [hl2] at hR2
                refine ⟨rfl, ?_⟩
                rw [hl2]
                exact ⟨⟨_, _, _, _, hR2.1⟩, hR2.2⟩
          refine AllReadyH.cons (o := ⟨some 14, _, _, _, _, _⟩) rfl (fun K hK => ?_) AllReadyH.nil
          · go_simp
            refine hK.out _ _ trivial (fun _ => ?_)
            clear hK K
            have hs := F.mm.size
            have k2 := knew (x := (V.alloc (.cells #[.int .i64 i] 3))) (n := V.heap.size + 1) (by simp) (.string s) 9
            have hG2 : V.heap.size ≤ V.heap.size + 1 := by first | omega | (simp at hs; omega)
            have k1 := kal k1 (.cells #[.string s] 9)
            have F := F.al (.cells #[.string s] 9)
            refine wpAnyH_ready (rs := [3]) (by kernel_rfl) (by simp) ?_
            refine AllReadyH.cons (o := ⟨some 11, _, _, _, _, _⟩) rfl (fun K hK => ?_) AllReadyH.nil
            · refine step_append_lies _ (by rfl) _ _ _ (by rfl) B 3 j1 _ 1 8 Tryd.underlying37 jinf1 jz10 jz11 jz12 rfl (by omega) _ _ _ (by rfl) F.o1 ⟨_, 0, none⟩ 1 1 [.int .i64 i] (by rfl) (by rfl) (one_news k1) (by simp [Value.oneCell']) (by omega) (by unfold maxLen; omega) (by omega) (Nat.le_trans hBV F.mm.size) _ rfl ?_
              intro g1 cap1 y0 ho hg hat hlt1
              have hq1 := newer F hat
              have k2 := kgr (V := V) k2 hg u1 hG2
              have F := F.gr1 hpa hpb hg ho hd21
              refine hK.out _ _ trivial (fun _ => ?_)
              clear hK K ho hg hat k1
              simp only [Act.put, List.setIfInBounds_toArray, List.set_cons_zero, List.set_cons_succ]
              refine wpAnyH_ready (rs := [7]) (by kernel_rfl) (by simp) ?_
              refine AllReadyH.cons (o := ⟨some 15, _, _, _, _, _⟩) rfl (fun K hK => ?_) AllReadyH.nil
              · refine step_append_lies _ (by rfl) _ _ _ (by rfl) B 9 j2 _ 1 16 Tryd.underlying38 jinf2 jz20 jz21 jz22 rfl (by omega) _ _ _ (by rfl) F.o2 ⟨_, 0, none⟩ 1 1 [.string s] (by rfl) (by rfl) (one_news k2) (by simp [Value.oneCell']) (by omega) (by unfold maxLen; omega) (by omega) (Nat.le_trans hBV F.mm.size) _ rfl ?_
                intro g2 cap2 y1 ho hg hat hlt2
                have hq2 := newer F hat
                have hd := (unlike hat (F.o1.lt g1 rfl).2 (apart (n := 0) (c := 0) hq1 hd12 u2 g1 rfl))
                have F := F.gr2 hpa hpb hg ho (apart hq1 hd12 u2)
                refine hK.out _ _ trivial (fun _ => ?_)
                clear hK K ho hg hat k2
                simp only [Act.put, List.setIfInBounds_toArray, List.set_cons_zero, List.set_cons_succ]
                refine wpAnyH_ready (rs := [8]) (by kernel_rfl) (by simp) ?_
                refine AllReadyH.cons (o := ⟨none, _, _, _, _, _⟩) rfl (fun K hK => ?_) AllReadyH.nil
                have z1 := F.c1.c
                have z2 := F.c1.f
                go_simp
                refine hK.out _ _ trivial (fun _ => ?_)
                clear hK K
                refine wpAnyH_ready (rs := [9]) (by kernel_rfl) (by simp) ?_
                refine AllReadyH.cons (o := ⟨none, _, _, _, _, _⟩) rfl (fun K hK => ?_) AllReadyH.nil
                have z3 := (F.c2.oth (Ne.symm hne) (.slice (some ⟨g1, 0, none⟩) (is.length + 1) cap1))
                have z4 := z3.c
                have z5 := z3.f
                go_simp
                refine hK.out _ _ trivial (fun _ => ?_)
                clear hK K
                refine wpAnyH_done (by kernel_rfl) ?_ _
                have hR := hidI6 (fm_fin hpa hpb hne F hd m0)
                clear F z1 z2 z3 z4 z5
                go_wp2_with fail
                go_meet
                have hR2 := hR.out
                rw [hl2] at hR2
                refine ⟨rfl, ?_⟩
                rw [hl2]
                exact ⟨⟨_, _, _, _, hR2.1⟩, hR2.2⟩
        refine AllReadyH.cons (o := ⟨some 14, _, _, _, _, _⟩) rfl (fun K hK => ?_) AllReadyH.nil
        · go_simp
          refine hK.out _ _ trivial (fun _ => ?_)
          clear hK K
          have hs := F.mm.size
          have k2 := knew (x := (V.alloc (.cells #[.int .i64 i] 3))) (n := V.heap.size + 1) (by simp) (.string s) 9
          have hG2 : V.heap.size ≤ V.heap.size + 1 := by first | omega | (simp at hs; omega)
          have k1 := kal k1 (.cells #[.string s] 9)
          have F := F.al (.cells #[.string s] 9)
          refine wpAnyH_ready (rs := [0]) (by kernel_rfl) (by simp) ?_
          refine AllReadyH.cons (o := ⟨some 8, _, _, _, _, _⟩) rfl (fun K hK => ?_) AllReadyH.nil
          · have z := F.c1.c
            go_simp
            refine hK.out _ _ trivial (fun _ => ?_)
            clear hK K z
            refine wpAnyH_ready (rs := [3]) (by kernel_rfl) (by simp) ?_
            refine AllReadyH.cons (o := ⟨some 11, _, _, _, _, _⟩) rfl (fun K hK => ?_) AllReadyH.nil
            · refine step_append_lies _ (by rfl) _ _ _ (by rfl) B 3 j1 _ 1 8 Tryd.underlying37 jinf1 jz10 jz11 jz12 rfl (by omega) _ _ _ (by rfl) F.o1 ⟨_, 0, none⟩ 1 1 [.int .i64 i] (by rfl) (by rfl) (one_news k1) (by simp [Value.oneCell']) (by omega) (by unfold maxLen; omega) (by omega) (Nat.le_trans hBV F.mm.size) _ rfl ?_
              intro g1 cap1 y0 ho hg hat hlt1
              have hq1 := newer F hat
              have k2 := kgr (V := V) k2 hg u1 hG2
              have F := F.gr1 hpa hpb hg ho hd21
              refine hK.out _ _ trivial (fun _ => ?_)
              clear hK K ho hg hat k1
              simp only [Act.put, List.setIfInBounds_toArray, List.set_cons_zero, List.set_cons_succ]
              refine wpAnyH_ready (rs := [7]) (by kernel_rfl) (by simp) ?_
              refine AllReadyH.cons (o := ⟨some 15, _, _, _, _, _⟩) rfl (fun K hK => ?_) AllReadyH.nil
              · refine step_append_lies _ (by rfl) _ _ _ (by rfl) B 9 j2 _ 1 16 Tryd.underlying38 jinf2 jz20 jz21 jz22 rfl (by omega) _ _ _ (by rfl) F.o2 ⟨_, 0, none⟩ 1 1 [.string s] (by rfl) (by rfl) (one_news k2) (by simp [Value.oneCell']) (by omega) (by unfold maxLen; omega) (by omega) (Nat.le_trans hBV F.mm.size) _ rfl ?_
                intro g2 cap2 y1 ho hg hat hlt2
                have hq2 := newer F hat
                have hd := (unlike hat (F.o1.lt g1 rfl).2 (apart (n := 0) (c := 0) hq1 hd12 u2 g1 rfl))
                have F := F.gr2 hpa hpb hg ho (apart hq1 hd12 u2)
                refine hK.out _ _ trivial (fun _ => ?_)
                clear hK K ho hg hat k2
                simp only [Act.put, List.setIfInBounds_toArray, List.set_cons_zero, List.set_cons_succ]
                refine wpAnyH_ready (rs := [8]) (by kernel_rfl) (by simp) ?_
                refine AllReadyH.cons (o := ⟨none, _, _, _, _, _⟩) rfl (fun K hK => ?_) AllReadyH.nil
                have z1 := F.c1.c
                have z2 := F.c1.f
                go_simp
                refine hK.out _ _ trivial (fun _ => ?_)
                clear hK K
                refine wpAnyH_ready (rs := [9]) (by kernel_rfl) (by simp) ?_
                refine AllReadyH.cons (o := ⟨none, _, _, _, _, _⟩) rfl (fun K hK => ?_) AllReadyH.nil
                have z3 := (F.c2.oth (Ne.symm hne) (.slice (some ⟨g1, 0, none⟩) (is.length + 1) cap1))
                have z4 := z3.c
                have z5 := z3.f
                go_simp
                refine hK.out _ _ trivial (fun _ => ?_)
                clear hK K
                refine wpAnyH_done (by kernel_rfl) ?_ _
                have hR := hidI6 (fm_fin hpa hpb hne F hd m0)
                clear F z1 z2 z3 z4 z5
                go_wp2_with fail
                go_meet
                have hR2 := hR.out
                rw [hl2] at hR2
                refine ⟨rfl, ?_⟩
                rw [hl2]
                exact ⟨⟨_, _, _, _, hR2.1⟩, hR2.2⟩
      refine AllReadyH.cons (o := ⟨some 14, _, _, _, _, _⟩) rfl (fun K hK => ?_) AllReadyH.nil
      · go_simp
        refine hK.out _ _ trivial (fun _ => ?_)
        clear hK K
        have hs := F.mm.size
        have k2 := knew (x := V) (n := V.heap.size) (by rfl) (.string s) 9
        have hG2 : V.heap.size ≤ V.heap.size := by exact hs
        have F := F.al (.cells #[.string s] 9)
        refine wpAnyH_ready (rs := [0, 2]) (by kernel_rfl) (by simp) ?_
        refine AllReadyH.cons (o := ⟨some 8, _, _, _, _, _⟩) rfl (fun K hK => ?_) ?_
        · have z := F.c1.c
          go_simp
          refine hK.out _ _ trivial (fun _ => ?_)
          clear hK K z
          refine wpAnyH_ready (rs := [2]) (by kernel_rfl) (by simp) ?_
          refine AllReadyH.cons (o := ⟨some 10, _, _, _, _, _⟩) rfl (fun K hK => ?_) AllReadyH.nil
          · go_simp
            refine hK.out _ _ trivial (fun _ => ?_)
            clear hK K
            have hs := F.mm.size
            have k1 := knew (x := (V.alloc (.cells #[.string s] 9))) (n := V.heap.size + 1) (by simp) (.int .i64 i) 3
            have hG1 : V.heap.size ≤ V.heap.size + 1 := by first | omega | (simp at hs; omega)
            have k2 := kal k2 (.cells #[.int .i64 i] 3)
            have F := F.al (.cells #[.int .i64 i] 3)
            refine wpAnyH_ready (rs := [3]) (by kernel_rfl) (by simp) ?_
            refine AllReadyH.cons (o := ⟨some 11, _, _, _, _, _⟩) rfl (fun K hK => ?_) AllReadyH.nil
            · refine step_append_lies _ (by rfl) _ _ _ (by rfl) B 3 j1 _ 1 8 Tryd.underlying37 jinf1 jz10 jz11 jz12 rfl (by omega) _ _ _ (by rfl) F.o1 ⟨_, 0, none⟩ 1 1 [.int .i64 i] (by rfl) (by rfl) (one_news k1) (by simp [Value.oneCell']) (by omega) (by unfold maxLen; omega) (by omega) (Nat.le_trans hBV F.mm.size) _ rfl ?_
              intro g1 cap1 y0 ho hg hat hlt1
              have hq1 := newer F hat
              have k2 := kgr (V := V) k2 hg u1 hG2
              have F := F.gr1 hpa hpb hg ho hd21
              refine hK.out _ _ trivial (fun _ => ?_)
              clear hK K ho hg hat k1
              simp only [Act.put, List.setIfInBounds_toArray, List.set_cons_zero, List.set_cons_succ]
              refine wpAnyH_ready (rs := [7]) (by kernel_rfl) (by simp) ?_
              refine AllReadyH.cons (o := ⟨some 15, _, _, _, _, _⟩) rfl (fun K hK => ?_) AllReadyH.nil
              · refine step_append_lies _ (by rfl) _ _ _ (by rfl) B 9 j2 _ 1 16 Tryd.underlying38 jinf2 jz20 jz21 jz22 rfl (by omega) _ _ _ (by rfl) F.o2 ⟨_, 0, none⟩ 1 1 [.string s] (by rfl) (by rfl) (one_news k2) (by simp [Value.oneCell']) (by omega) (by unfold maxLen; omega) (by omega) (Nat.le_trans hBV F.mm.size) _ rfl ?_
                intro g2 cap2 y1 ho hg hat hlt2
                have hq2 := newer F hat
                have hd := (unlike hat (F.o1.lt g1 rfl).2 (apart (n := 0) (c := 0) hq1 hd12 u2 g1 rfl))
                have F := F.gr2 hpa hpb hg ho (apart hq1 hd12 u2)
                refine hK.out _ _ trivial (fun _ => ?_)
                clear hK K ho hg hat k2
                simp only [Act.put, List.setIfInBounds_toArray, List.set_cons_zero, List.set_cons_succ]
                refine wpAnyH_ready (rs := [8]) (by kernel_rfl) (by simp) ?_
                refine AllReadyH.cons (o := ⟨none, _, _, _, _, _⟩) rfl (fun K hK => ?_) AllReadyH.nil
                have z1 := F.c1.c
                have z2 := F.c1.f
                go_simp
                refine hK.out _ _ trivial (fun _ => ?_)
                clear hK K
                refine wpAnyH_ready (rs := [9]) (by kernel_rfl) (by simp) ?_
                refine AllReadyH.cons (o := ⟨none, _, _, _, _, _⟩) rfl (fun K hK => ?_) AllReadyH.nil
                have z3 := (F.c2.oth (Ne.symm hne) (.slice (some ⟨g1, 0, none⟩) (is.length + 1) cap1))
                have z4 := z3.c
                have z5 := z3.f
                go_simp
                refine hK.out _ _ trivial (fun _ => ?_)
                clear hK K
                refine wpAnyH_done (by kernel_rfl) ?_ _
                have hR := hidI6 (fm_fin hpa hpb hne F hd m0)
                clear F z1 z2 z3 z4 z5
                go_wp2_with fail
                go_meet
                have hR2 := hR.out
                rw [hl2] at hR2
                refine ⟨rfl, ?_⟩
                rw [hl2]
                exact ⟨⟨_, _, _, _, hR2.1⟩, hR2.2⟩
        refine AllReadyH.cons (o := ⟨some 10, _, _, _, _, _⟩) rfl (fun K hK => ?_) AllReadyH.nil
        · go_simp
          refine hK.out _ _ trivial (fun _ => ?_)
          clear hK K
          have hs := F.mm.size
          have k1 := knew (x := (V.alloc (.cells #[.string s] 9))) (n := V.heap.size + 1) (by simp) (.int .i64 i) 3
          have hG1 : V.heap.size ≤ V.heap.size + 1 := by first | omega | (simp at hs; omega)
          have k2 := kal k2 (.cells #[.int .i64 i] 3)
          have F := F.al (.cells #[.int .i64 i] 3)
          refine wpAnyH_ready (rs := [0]) (by kernel_rfl) (by simp) ?_
          refine AllReadyH.cons (o := ⟨some 8, _, _, _, _, _⟩) rfl (fun K hK => ?_) AllReadyH.nil
          · have z := F.c1.c
            go_simp
            refine hK.out _ _ trivial (fun _ => ?_)
            clear hK K z
            refine wpAnyH_ready (rs := [3]) (by kernel_rfl) (by simp) ?_
            refine AllReadyH.cons (o := ⟨some 11, _, _, _, _, _⟩) rfl (fun K hK => ?_) AllReadyH.nil
            · refine step_append_lies _ (by rfl) _ _ _ (by rfl) B 3 j1 _ 1 8 Tryd.underlying37 jinf1 jz10 jz11 jz12 rfl (by omega) _ _ _ (by rfl) F.o1 ⟨_, 0, none⟩ 1 1 [.int .i64 i] (by rfl) (by rfl) (one_news k1) (by simp [Value.oneCell']) (by omega) (by unfold maxLen; omega) (by omega) (Nat.le_trans hBV F.mm.size) _ rfl ?_
              intro g1 cap1 y0 ho hg hat hlt1
              have hq1 := newer F hat
              have k2 := kgr (V := V) k2 hg u1 hG2
              have F := F.gr1 hpa hpb hg ho hd21
              refine hK.out _ _ trivial (fun _ => ?_)
              clear hK K ho hg hat k1
              simp only [Act.put, List.setIfInBounds_toArray, List.set_cons_zero, List.set_cons_succ]
              refine wpAnyH_ready (rs := [7]) (by kernel_rfl) (by simp) ?_
              refine AllReadyH.cons (o := ⟨some 15, _, _, _, _, _⟩) rfl (fun K hK => ?_) AllReadyH.nil
              · refine step_append_lies _ (by rfl) _ _ _ (by rfl) B 9 j2 _ 1 16 Tryd.underlying38 jinf2 jz20 jz21 jz22 rfl (by omega) _ _ _ (by rfl) F.o2 ⟨_, 0, none⟩ 1 1 [.string s] (by rfl) (by rfl) (one_news k2) (by simp [Value.oneCell']) (by omega) (by unfold maxLen; omega) (by omega) (Nat.le_trans hBV F.mm.size) _ rfl ?_
                intro g2 cap2 y1 ho hg hat hlt2
                have hq2 := newer F hat
                have hd := (unlike hat (F.o1.lt g1 rfl).2 (apart (n := 0) (c := 0) hq1 hd12 u2 g1 rfl))
                have F := F.gr2 hpa hpb hg ho (apart hq1 hd12 u2)
                refine hK.out _ _ trivial (fun _ => ?_)
                clear hK K ho hg hat k2
                simp only [Act.put, List.setIfInBounds_toArray, List.set_cons_zero, List.set_cons_succ]
                refine wpAnyH_ready (rs := [8]) (by kernel_rfl) (by simp) ?_
                refine AllReadyH.cons (o := ⟨none, _, _, _, _, _⟩) rfl (fun K hK => ?_) AllReadyH.nil
                have z1 := F.c1.c
                have z2 := F.c1.f
                go_simp
                refine hK.out _ _ trivial (fun _ => ?_)
                clear hK K
                refine wpAnyH_ready (rs := [9]) (by kernel_rfl) (by simp) ?_
                refine AllReadyH.cons (o := ⟨none, _, _, _, _, _⟩) rfl (fun K hK => ?_) AllReadyH.nil
                have z3 := (F.c2.oth (Ne.symm hne) (.slice (some ⟨g1, 0, none⟩) (is.length + 1) cap1))
                have z4 := z3.c
                have z5 := z3.f
                go_simp
                refine hK.out _ _ trivial (fun _ => ?_)
                clear hK K
                refine wpAnyH_done (by kernel_rfl) ?_ _
                have hR := hidI6 (fm_fin hpa hpb hne F hd m0)
                clear F z1 z2 z3 z4 z5
                go_wp2_with fail
                go_meet
                have hR2 := hR.out
                rw [hl2] at hR2
                refine ⟨rfl, ?_⟩
                rw [hl2]
                exact ⟨⟨_, _, _, _, hR2.1⟩, hR2.2⟩
    refine AllReadyH.cons (o := ⟨some 14, _, _, _, _, _⟩) rfl (fun K hK => ?_) AllReadyH.nil
    · go_simp
      refine hK.out _ _ trivial (fun _ => ?_)
      clear hK K
      have hs := F.mm.size
      have k2 := knew (x := V) (n := V.heap.size) (by rfl) (.string s) 9
      have hG2 : V.heap.size ≤ V.heap.size := by exact hs
      have F := F.al (.cells #[.string s] 9)
      refine wpAnyH_ready (rs := [0, 2, 4]) (by kernel_rfl) (by simp) ?_
      refine AllReadyH.cons (o := ⟨some 8, _, _, _, _, _⟩) rfl (fun K hK => ?_) ?_
      · have z := F.c1.c
        go_simp
        refine hK.out _ _ trivial (fun _ => ?_)
        clear hK K z
        refine wpAnyH_ready (rs := [2, 4]) (by kernel_rfl) (by simp) ?_
        refine AllReadyH.cons (o := ⟨some 10, _, _, _, _, _⟩) rfl (fun K hK => ?_) ?_
        · go_simp
          refine hK.out _ _ trivial (fun _ => ?_)
          clear hK K
          have hs := F.mm.size
          have k1 := knew (x := (V.alloc (.cells #[.string s] 9))) (n := V.heap.size + 1) (by simp) (.int .i64 i) 3
          have hG1 : V.heap.size ≤ V.heap.size + 1 := by first | omega | (simp at hs; omega)
          have k2 := kal k2 (.cells #[.int .i64 i] 3)
          have F := F.al (.cells #[.int .i64 i] 3)
          refine wpAnyH_ready (rs := [3, 4]) (by kernel_rfl) (by simp) ?_
          refine AllReadyH.cons (o := ⟨some 11, _, _, _, _, _⟩) rfl (fun K hK => ?_) ?_
          · refine step_append_lies _ (by rfl) _ _ _ (by rfl) B 3 j1 _ 1 8 Tryd.underlying37 jinf1 jz10 jz11 jz12 rfl (by omega) _ _ _ (by rfl) F.o1 ⟨_, 0, none⟩ 1 1 [.int .i64 i] (by rfl) (by rfl) (one_news k1) (by simp [Value.oneCell']) (by omega) (by unfold maxLen; omega) (by omega) (Nat.le_trans hBV F.mm.size) _ rfl ?_
            intro g1 cap1 y0 ho hg hat hlt1
            have hq1 := newer F hat
            have k2 := kgr (V := V) k2 hg u1 hG2
            have F := F.gr1 hpa hpb hg ho hd21
            refine hK.out _ _ trivial (fun _ => ?_)
            clear hK K ho hg hat k1
            simp only [Act.put, List.setIfInBounds_toArray, List.set_cons_zero, List.set_cons_succ]
            refine wpAnyH_ready (rs := [4]) (by kernel_rfl) (by simp) ?_
            refine AllReadyH.cons (o := ⟨some 12, _, _, _, _, _⟩) rfl (fun K hK => ?_) AllReadyH.nil
            · have z := F.c2.c
              go_simp
              refine hK.out _ _ trivial (fun _ => ?_)
              clear hK K z
              refine wpAnyH_ready (rs := [7]) (by kernel_rfl) (by simp) ?_
              refine AllReadyH.cons (o := ⟨some 15, _, _, _, _, _⟩) rfl (fun K hK => ?_) AllReadyH.nil
              · refine step_append_lies _ (by rfl) _ _ _ (by rfl) B 9 j2 _ 1 16 Tryd.underlying38 jinf2 jz20 jz21 jz22 rfl (by omega) _ _ _ (by rfl) F.o2 ⟨_, 0, none⟩ 1 1 [.string s] (by rfl) (by rfl) (one_news k2) (by simp [Value.oneCell']) (by omega) (by unfold maxLen; omega) (by omega) (Nat.le_trans hBV F.mm.size) _ rfl ?_
                intro g2 cap2 y1 ho hg hat hlt2
                have hq2 := newer F hat
                have hd := (unlike hat (F.o1.lt g1 rfl).2 (apart (n := 0) (c := 0) hq1 hd12 u2 g1 rfl))
                have F := F.gr2 hpa hpb hg ho (apart hq1 hd12 u2)
                refine hK.out _ _ trivial (fun _ => ?_)
                clear hK K ho hg hat k2
                simp only [Act.put, List.setIfInBounds_toArray, List.set_cons_zero, List.set_cons_succ]
                refine wpAnyH_ready (rs := [8]) (by kernel_rfl) (by simp) ?_
                refine AllReadyH.cons (o := ⟨none, _, _, _, _, _⟩) rfl (fun K hK => ?_) AllReadyH.nil
                have z1 := F.c1.c
                have z2 := F.c1.f
                go_simp
                refine hK.out _ _ trivial (fun _ => ?_)
                clear hK K
                refine wpAnyH_ready (rs := [9]) (by kernel_rfl) (by simp) ?_
                refine AllReadyH.cons (o := ⟨none, _, _, _, _, _⟩) rfl (fun K hK => ?_) AllReadyH.nil
                have z3 := (F.c2.oth (Ne.symm hne) (.slice (some ⟨g1, 0, none⟩) (is.length + 1) cap1))
                have z4 := z3.c
                have z5 := z3.f
                go_simp
                refine hK.out _ _ trivial (fun _ => ?_)
                clear hK K
                refine wpAnyH_done (by kernel_rfl) ?_ _
                have hR := hidI6 (fm_fin hpa hpb hne F hd m0)
                clear F z1 z2 z3 z4 z5
                go_wp2_with fail
                go_meet
                have hR2 := hR.out
                rw [hl2] at hR2
                refine ⟨rfl, ?_⟩
                rw [hl2]
                exact ⟨⟨_, _, _, _, hR2.1⟩, hR2.2⟩
          refine AllReadyH.cons (o := ⟨some 12, _, _, _, _, _⟩) rfl (fun K hK => ?_) AllReadyH.nil
          · have z := F.c2.c
            go_simp
            refine hK.out _ _ trivial (fun _ => ?_)
            clear hK K z
            refine wpAnyH_ready (rs := [3]) (by kernel_rfl) (by simp) ?_
            refine AllReadyH.cons (o := ⟨some 11, _, _, _, _, _⟩) rfl (fun K hK => ?_) AllReadyH.nil
            · refine step_append_lies _ (by rfl) _ _ _ (by rfl) B 3 j1 _ 1 8 Tryd.underlying37 jinf1 jz10 jz11 jz12 rfl (by omega) _ _ _ (by rfl) F.o1 ⟨_, 0, none⟩ 1 1 [.int .i64 i] (by rfl) (by rfl) (one_news k1) (by simp [Value.oneCell']) (by omega) (by unfold maxLen; omega) (by omega) (Nat.le_trans hBV F.mm.size) _ rfl ?_
              intro g1 cap1 y0 ho hg hat hlt1
              have hq1 := newer F hat
              have k2 := kgr (V := V) k2 hg u1 hG2
              have F := F.gr1 hpa hpb hg ho hd21
              refine hK.out _ _ trivial (fun _ => ?_)
              clear hK K ho hg hat k1
              simp only [Act.put, List.setIfInBounds_toArray, List.set_cons_zero, List.set_cons_succ]
              refine wpAnyH_ready (rs := [7]) (by kernel_rfl) (by simp) ?_
              refine AllReadyH.cons (o := ⟨some 15, _, _, _, _, _⟩) rfl (fun K hK => ?_) AllReadyH.nil
              · refine step_append_lies _ (by rfl) _ _ _ (by rfl) B 9 j2 _ 1 16 Tryd.underlying38 jinf2 jz20 jz21 jz22 rfl (by omega) _ _ _ (by rfl) F.o2 ⟨_, 0, none⟩ 1 1 [.string s] (by rfl) (by rfl) (one_news k2) (by simp [Value.oneCell']) (by omega) (by unfold maxLen; omega) (by omega) (Nat.le_trans hBV F.mm.size) _ rfl ?_
                intro g2 cap2 y1 ho hg hat hlt2
                have hq2 := newer F hat
                have hd := (unlike hat (F.o1.lt g1 rfl).2 (apart (n := 0) (c := 0) hq1 hd12 u2 g1 rfl))
                have F := F.gr2 hpa hpb hg ho (apart hq1 hd12 u2)
                refine hK.out _ _ trivial (fun _ => ?_)
                clear hK K ho hg hat k2
                simp only [Act.put, List.setIfInBounds_toArray, List.set_cons_zero, List.set_cons_succ]
                refine wpAnyH_ready (rs := [8]) (by kernel_rfl) (by simp) ?_
                refine AllReadyH.cons (o := ⟨none, _, _, _, _, _⟩) rfl (fun K hK => ?_) AllReadyH.nil
                have z1 := F.c1.c
                have z2 := F.c1.f
                go_simp
                refine hK.out _ _ trivial (fun _ => ?_)
                clear hK K
                refine wpAnyH_ready (rs := [9]) (by kernel_rfl) (by simp) ?_
                refine AllReadyH.cons (o := ⟨none, _, _, _, _, _⟩) rfl (fun K hK => ?_) AllReadyH.nil
                have z3 := (F.c2.oth (Ne.symm hne) (.slice (some ⟨g1, 0, none⟩) (is.length + 1) cap1))
                have z4 := z3.c
                have z5 := z3.f
                go_simp
                refine hK.out _ _ trivial (fun _ => ?_)
                clear hK K
                refine wpAnyH_done (by kernel_rfl) ?_ _
                have hR := hidI6 (fm_fin hpa hpb hne F hd m0)
                clear F z1 z2 z3 z4 z5
                go_wp2_with fail
                go_meet
                have hR2 := hR.out
                rw [hl2] at hR2
                refine ⟨rfl, ?_⟩
                rw [hl2]
                exact ⟨⟨_, _, _, _, hR2.1⟩, hR2.2⟩
        refine AllReadyH.cons (o := ⟨some 12, _, _, _, _, _⟩) rfl (fun K hK => ?_) AllReadyH.nil
        · have z := F.c2.c
          go_simp
          refine hK.out _ _ trivial (fun _ => ?_)
          clear hK K z
          refine wpAnyH_ready (rs := [2]) (by kernel_rfl) (by simp) ?_
          refine AllReadyH.cons (o := ⟨some 10, _, _, _, _, _⟩) rfl (fun K hK => ?_) AllReadyH.nil
          · go_simp
            refine hK.out _ _ trivial (fun _ => ?_)
            clear hK K
            have hs := F.mm.size
            have k1 := knew (x := (V.alloc (.cells #[.string s] 9))) (n := V.heap.size + 1) (by simp) (.int .i64 i) 3
            have hG1 : V.heap.size ≤ V.heap.size + 1 := by first | omega | (simp at hs; omega)
            have k2 := kal k2 (.cells #[.int .i64 i] 3)
            have F := F.al (.cells #[.int .i64 i] 3)
            refine wpAnyH_ready (rs := [3]) (by kernel_rfl) (by simp) ?_
            refine AllReadyH.cons (o := ⟨some 11, _, _, _, _, _⟩) rfl (fun K hK => ?_) AllReadyH.nil
            · refine step_append_lies _ (by rfl) _ _ _ (by rfl) B 3 j1 _ 1 8 Tryd.underlying37 jinf1 jz10 jz11 jz12 rfl (by omega) _ _ _ (by rfl) F.o1 ⟨_, 0, none⟩ 1 1 [.int .i64 i] (by rfl) (by rfl) (one_news k1) (by simp [Value.oneCell']) (by omega) (by unfold maxLen; omega) (by omega) (Nat.le_trans hBV F.mm.size) _ rfl ?_
              intro g1 cap1 y0 ho hg hat hlt1
              have hq1 := newer F hat
              have k2 := kgr (V := V) k2 hg u1 hG2
              have F := F.gr1 hpa hpb hg ho hd21
              refine hK.out _ _ trivial (fun _ => ?_)
              clear hK K ho hg hat k1
              simp only [Act.put, List.setIfInBounds_toArray, List.set_cons_zero, List.set_cons_succ]
              refine wpAnyH_ready (rs := [7]) (by kernel_rfl) (by simp) ?_
              refine AllReadyH.cons (o := ⟨some 15, _, _, _, _, _⟩) rfl (fun K hK => ?_) AllReadyH.nil
              · refine step_append_lies _ (by rfl) _ _ _ (by rfl) B 9 j2 _ 1 16 Tryd.underlying38 jinf2 jz20 jz21 jz22 rfl (by omega) _ _ _ (by rfl) F.o2 ⟨_, 0, none⟩ 1 1 [.string s] (by rfl) (by rfl) (one_news k2) (by simp [Value.oneCell']) (by omega) (by unfold maxLen; omega) (by omega) (Nat.le_trans hBV F.mm.size) _ rfl ?_
                intro g2 cap2 y1 ho hg hat hlt2
                have hq2 := newer F hat
                have hd := (unlike hat (F.o1.lt g1 rfl).2 (apart (n := 0) (c := 0) hq1 hd12 u2 g1 rfl))
                have F := F.gr2 hpa hpb hg ho (apart hq1 hd12 u2)
                refine hK.out _ _ trivial (fun _ => ?_)
                clear hK K ho hg hat k2
                simp only [Act.put, List.setIfInBounds_toArray, List.set_cons_zero, List.set_cons_succ]
                refine wpAnyH_ready (rs := [8]) (by kernel_rfl) (by simp) ?_
                refine AllReadyH.cons (o := ⟨none, _, _, _, _, _⟩) rfl (fun K hK => ?_) AllReadyH.nil
                have z1 := F.c1.c
                have z2 := F.c1.f
                go_simp
                refine hK.out _ _ trivial (fun _ => ?_)
                clear hK K
                refine wpAnyH_ready (rs := [9]) (by kernel_rfl) (by simp) ?_
                refine AllReadyH.cons (o := ⟨none, _, _, _, _, _⟩) rfl (fun K hK => ?_) AllReadyH.nil
                have z3 := (F.c2.oth (Ne.symm hne) (.slice (some ⟨g1, 0, none⟩) (is.length + 1) cap1))
                have z4 := z3.c
                have z5 := z3.f
                go_simp
                refine hK.out _ _ trivial (fun _ => ?_)
                clear hK K
                refine wpAnyH_done (by kernel_rfl) ?_ _
                have hR := hidI6 (fm_fin hpa hpb hne F hd m0)
                clear F z1 z2 z3 z4 z5
                go_wp2_with fail
                go_meet
                have hR2 := hR.out
                rw [hl2] at hR2
                refine ⟨rfl, ?_⟩
                rw [hl2]
                exact ⟨⟨_, _, _, _, hR2.1⟩, hR2.2⟩
      refine AllReadyH.cons (o := ⟨some 10, _, _, _, _, _⟩) rfl (fun K hK => ?_) ?_
      · go_simp
        refine hK.out _ _ trivial (fun _ => ?_)
        clear hK K
        have hs := F.mm.size
        have k1 := knew (x := (V.alloc (.cells #[.string s] 9))) (n := V.heap.size + 1) (by simp) (.int .i64 i) 3
        have hG1 : V.heap.size ≤ V.heap.size + 1 := by first | omega | (simp at hs; omega)
        have k2 := kal k2 (.cells #[.int .i64 i] 3)
        have F := F.al (.cells #[.int .i64 i] 3)
        refine wpAnyH_ready (rs := [0, 4]) (by kernel_rfl) (by simp) ?_
        refine AllReadyH.cons (o := ⟨some 8, _, _, _, _, _⟩) rfl (fun K hK => ?_) ?_
        · have z := F.c1.c
          go_simp
          refine hK.out _ _ trivial (fun _ => ?_)
          clear hK K z
          refine wpAnyH_ready (rs := [3, 4]) (by kernel_rfl) (by simp) ?_
          refine AllReadyH.cons (o := ⟨some 11, _, _, _, _, _⟩) rfl (fun K hK => ?_) ?_
          · refine step_append_lies _ (by rfl) _ _ _ (by rfl) B 3 j1 _ 1 8 Tryd.underlying37 jinf1 jz10 jz11 jz12 rfl (by omega) _ _ _ (by rfl) F.o1 ⟨_, 0, none⟩ 1 1 [.int .i64 i] (by rfl) (by rfl) (one_news k1) (by simp [Value.oneCell']) (by omega) (by unfold maxLen; omega) (by omega) (Nat.le_trans hBV F.mm.size) _ rfl ?_
            intro g1 cap1 y0 ho hg hat hlt1
            have hq1 := newer F hat
            have k2 := kgr (V := V) k2 hg u1 hG2
            have F := F.gr1 hpa hpb hg ho hd21
            refine hK.out _ _ trivial (fun _ => ?_)
            clear hK K ho hg hat k1
            simp only [Act.put, List.setIfInBounds_toArray, List.set_cons_zero, List.set_cons_succ]
            refine wpAnyH_ready (rs := [4]) (by kernel_rfl) (by simp) ?_
            refine AllReadyH.cons (o := ⟨some 12, _, _, _, _, _⟩) rfl (fun K hK => ?_) AllReadyH.nil
            · have z := F.c2.c
              go_simp
              refine hK.out _ _ trivial (fun _ => ?_)
              clear hK K z
              refine wpAnyH_ready (rs := [7]) (by kernel_rfl) (by simp) ?_
              refine AllReadyH.cons (o := ⟨some 15, _, _, _, _, _⟩) rfl (fun K hK => ?_) AllReadyH.nil
              · refine step_append_lies _ (by rfl) _ _ _ (by rfl) B 9 j2 _ 1 16 Tryd.underlying38 jinf2 jz20 jz21 jz22 rfl (by omega) _ _ _ (by rfl) F.o2 ⟨_, 0, none⟩ 1 1 [.string s] (by rfl) (by rfl) (one_news k2) (by simp [Value.oneCell']) (by omega) (by unfold maxLen; omega) (by omega) (Nat.le_trans hBV F.mm.size) _ rfl ?_
                intro g2 cap2 y1 ho hg hat hlt2
                have hq2 := newer F hat
                have hd := (unlike hat (F.o1.lt g1 rfl).2 (apart (n := 0) (c := 0) hq1 hd12 u2 g1 rfl))
                have F := F.gr2 hpa hpb hg ho (apart hq1 hd12 u2)
                refine hK.out _ _ trivial (fun _ => ?_)
                clear hK K ho hg hat k2
                simp only [Act.put, List.setIfInBounds_toArray, List.set_cons_zero, List.set_cons_succ]
                refine wpAnyH_ready (rs := [8]) (by kernel_rfl) (by simp) ?_
                refine AllReadyH.cons (o := ⟨none, _, _, _, _, _⟩) rfl (fun K hK => ?_) AllReadyH.nil
                have z1 := F.c1.c
                have z2 := F.c1.f
                go_simp
                refine hK.out _ _ trivial (fun _ => ?_)
                clear hK K
                refine wpAnyH_ready (rs := [9]) (by kernel_rfl) (by simp) ?_
                refine AllReadyH.cons (o := ⟨none, _, _, _, _, _⟩) rfl (fun K hK => ?_) AllReadyH.nil
                have z3 := (F.c2.oth (Ne.symm hne) (.slice (some ⟨g1, 0, none⟩) (is.length + 1) cap1))
                have z4 := z3.c
                have z5 := z3.f
                go_simp
                refine hK.out _ _ trivial (fun _ => ?_)
                clear hK K
                refine wpAnyH_done (by kernel_rfl) ?_ _
                have hR := hidI6 (fm_fin hpa hpb hne F hd m0)
                clear F z1 z2 z3 z4 z5
                go_wp2_with fail
                go_meet
                have hR2 := hR.out
                rw [hl2] at hR2
                refine ⟨rfl, ?_⟩
                rw [hl2]
                exact ⟨⟨_, _, _, _, hR2.1⟩, hR2.2⟩
          refine AllReadyH.cons (o := ⟨some 12, _, _, _, _, _⟩) rfl (fun K hK => ?_) AllReadyH.nil
          · have z := F.c2.c
            go_simp
            refine hK.out _ _ trivial (fun _ => ?_)
            clear hK K z
            refine wpAnyH_ready (rs := [3]) (by kernel_rfl) (by simp) ?_
            refine AllReadyH.cons (o := ⟨some 11, _, _, _, _, _⟩) rfl (fun K hK => ?_) AllReadyH.nil
            · refine step_append_lies _ (by rfl) _ _ _ (by rfl) B 3 j1 _ 1 8 Tryd.underlying37 jinf1 jz10 jz11 jz12 rfl (by omega) _ _ _ (by rfl) F.o1 ⟨_, 0, none⟩ 1 1 [.int .i64 i] (by rfl) (by rfl) (one_news k1) (by simp [Value.oneCell']) (by omega) (by unfold maxLen; omega) (by omega) (Nat.le_trans hBV F.mm.size) _ rfl ?_
              intro g1 cap1 y0 ho hg hat hlt1
              have hq1 := newer F hat
              have k2 := kgr (V := V) k2 hg u1 hG2
              have F := F.gr1 hpa hpb hg ho hd21
              refine hK.out _ _ trivial (fun _ => ?_)
              clear hK K ho hg hat k1
              simp only [Act.put, List.setIfInBounds_toArray, List.set_cons_zero, List.set_cons_succ]
              refine wpAnyH_ready (rs := [7]) (by kernel_rfl) (by simp) ?_
              refine AllReadyH.cons (o := ⟨some 15, _, _, _, _, _⟩) rfl (fun K hK => ?_) AllReadyH.nil
              · refine step_append_lies _ (by rfl) _ _ _ (by rfl) B 9 j2 _ 1 16 Tryd.underlying38 jinf2 jz20 jz21 jz22 rfl (by omega) _ _ _ (by rfl) F.o2 ⟨_, 0, none⟩ 1 1 [.string s] (by rfl) (by rfl) (one_news k2) (by simp [Value.oneCell']) (by omega) (by unfold maxLen; omega) (by omega) (Nat.le_trans hBV F.mm.size) _ rfl ?_
                intro g2 cap2 y1 ho hg hat hlt2
                have hq2 := newer F hat
                have hd := (unlike hat (F.o1.lt g1 rfl).2 (apart (n := 0) (c := 0) hq1 hd12 u2 g1 rfl))
                have F := F.gr2 hpa hpb hg ho (apart hq1 hd12 u2)
                refine hK.out _ _ trivial (fun _ => ?_)
                clear hK K ho hg hat k2
                simp only [Act.put, List.setIfInBounds_toArray, List.set_cons_zero, List.set_cons_succ]
                refine wpAnyH_ready (rs := [8]) (by kernel_rfl) (by simp) ?_
                refine AllReadyH.cons (o := ⟨none, _, _, _, _, _⟩) rfl (fun K hK => ?_) AllReadyH.nil
                have z1 := F.c1.c
                have z2 := F.c1.f
                go_simp
                refine hK.out _ _ trivial (fun _ => ?_)
                clear hK K
                refine wpAnyH_ready (rs := [9]) (by kernel_rfl) (by simp) ?_
                refine AllReadyH.cons (o := ⟨none, _, _, _, _, _⟩) rfl (fun K hK => ?_) AllReadyH.nil
                have z3 := (F.c2.oth (Ne.symm hne) (.slice (some ⟨g1, 0, none⟩) (is.length + 1) cap1))
                have z4 := z3.c
                have z5 := z3.f
                go_simp
                refine hK.out _ _ trivial (fun _ => ?_)
                clear hK K
                refine wpAnyH_done (by kernel_rfl) ?_ _
                have hR := hidI6 (fm_fin hpa hpb hne F hd m0)
                clear F z1 z2 z3 z4 z5
                go_wp2_with fail
                go_meet
                have hR2 := hR.out
                rw [hl2] at hR2
                refine ⟨rfl, ?_⟩
                rw [hl2]
                exact ⟨⟨_, _, _, _, hR2.1⟩, hR2.2⟩
        refine AllReadyH.cons (o := ⟨some 12, _, _, _, _, _⟩) rfl (fun K hK => ?_) AllReadyH.nil
        · have z := F.c2.c
          go_simp
          refine hK.out _ _ trivial (fun _ => ?_)
          clear hK K z
          refine wpAnyH_ready (rs := [0]) (by kernel_rfl) (by simp) ?_
          refine AllReadyH.cons (o := ⟨some 8, _, _, _, _, _⟩) rfl (fun K hK => ?_) AllReadyH.nil
          · have z := F.c1.c
            go_simp
            refine hK.out _ _ trivial (fun _ => ?_)
            clear hK K z
            refine wpAnyH_ready (rs := [3]) (by kernel_rfl) (by simp) ?_
            refine AllReadyH.cons (o := ⟨some 11, _, _, _, _, _⟩) rfl (fun K hK => ?_) AllReadyH.nil
            · refine step_append_lies _ (by rfl) _ _ _ (by rfl) B 3 j1 _ 1 8 Tryd.underlying37 jinf1 jz10 jz11 jz12 rfl (by omega) _ _ _ (by rfl) F.o1 ⟨_, 0, none⟩ 1 1 [.int .i64 i] (by rfl) (by rfl) (one_news k1) (by simp [Value.oneCell']) (by omega) (by unfold maxLen; omega) (by omega) (Nat.le_trans hBV F.mm.size) _ rfl ?_
              intro g1 cap1 y0 ho hg hat hlt1
              have hq1 := newer F hat
              have k2 := kgr (V := V) k2 hg u1 hG2
              have F := F.gr1 hpa hpb hg ho hd21
              refine hK.out _ _ trivial (fun _ => ?_)
              clear hK K ho hg hat k1
              simp only [Act.put, List.setIfInBounds_toArray, List.set_cons_zero, List.set_cons_succ]
              refine wpAnyH_ready (rs := [7]) (by kernel_rfl) (by simp) ?_
              refine AllReadyH.cons (o := ⟨some 15, _, _, _, _, _⟩) rfl (fun K hK => ?_) AllReadyH.nil
              · refine step_append_lies _ (by rfl) _ _ _ (by rfl) B 9 j2 _ 1 16 Tryd.underlying38 jinf2 jz20 jz21 jz22 rfl (by omega) _ _ _ (by rfl) F.o2 ⟨_, 0, none⟩ 1 1 [.string s] (by rfl) (by rfl) (one_news k2) (by simp [Value.oneCell']) (by omega) (by unfold maxLen; omega) (by omega) (Nat.le_trans hBV F.mm.size) _ rfl ?_
                intro g2 cap2 y1 ho hg hat hlt2
                have hq2 := newer F hat
                have hd := (unlike hat (F.o1.lt g1 rfl).2 (apart (n := 0) (c := 0) hq1 hd12 u2 g1 rfl))
                have F := F.gr2 hpa hpb hg ho (apart hq1 hd12 u2)
                refine hK.out _ _ trivial (fun _ => ?_)
                clear hK K ho hg hat k2
                simp only [Act.put, List.setIfInBounds_toArray, List.set_cons_zero, List.set_cons_succ]
                refine wpAnyH_ready (rs := [8]) (by kernel_rfl) (by simp) ?_
                refine AllReadyH.cons (o := ⟨none, _, _, _, _, _⟩) rfl (fun K hK => ?_) AllReadyH.nil
                have z1 := F.c1.c
                have z2 := F.c1.f
                go_simp
                refine hK.out _ _ trivial (fun _ => ?_)
                clear hK K
                refine wpAnyH_ready (rs := [9]) (by kernel_rfl) (by simp) ?_
                refine AllReadyH.cons (o := ⟨none, _, _, _, _, _⟩) rfl (fun K hK => ?_) AllReadyH.nil
                have z3 := (F.c2.oth (Ne.symm hne) (.slice (some ⟨g1, 0, none⟩) (is.length + 1) cap1))
                have z4 := z3.c
                have z5 := z3.f
                go_simp
                refine hK.out _ _ trivial (fun _ => ?_)
                clear hK K
                refine wpAnyH_done (by kernel_rfl) ?_ _
                have hR := hidI6 (fm_fin hpa hpb hne F hd m0)
                clear F z1 z2 z3 z4 z5
                go_wp2_with fail
                go_meet
                have hR2 := hR.out
                rw [hl2] at hR2
                refine ⟨rfl, ?_⟩
                rw [hl2]
                exact ⟨⟨_, _, _, _, hR2.1⟩, hR2.2⟩
      refine AllReadyH.cons (o := ⟨some 12, _, _, _, _, _⟩) rfl (fun K hK => ?_) AllReadyH.nil
      · have z := F.c2.c
        go_simp
        refine hK.out _ _ trivial (fun _ => ?_)
        clear hK K z
        refine wpAnyH_ready (rs := [0, 2]) (by kernel_rfl) (by simp) ?_
        refine AllReadyH.cons (o := ⟨some 8, _, _, _, _, _⟩) rfl (fun K hK => ?_) ?_
        · have z := F.c1.c
          go_simp
          refine hK.out _ _ trivial (fun _ => ?_)
          clear hK K z
          refine wpAnyH_ready (rs := [2]) (by kernel_rfl) (by simp) ?_
          refine AllReadyH.cons (o := ⟨some 10, _, _, _, _, _⟩) rfl (fun K hK => ?_) AllReadyH.nil
          · go_simp
            refine hK.out _ _ trivial (fun _ => ?_)
            clear hK K
            have hs := F.mm.size
            have k1 := knew (x := (V.alloc (.cells #[.string s] 9))) (n := V.heap.size + 1) (by simp) (.int .i64 i) 3
            have hG1 : V.heap.size ≤ V.heap.size + 1 := by first | omega | (simp at hs; omega)
            have k2 := kal k2 (.cells #[.int .i64 i] 3)
            have F := F.al (.cells #[.int .i64 i] 3)
            refine wpAnyH_ready (rs := [3]) (by kernel_rfl) (by simp) ?_
            refine AllReadyH.cons (o := ⟨some 11, _, _, _, _, _⟩) rfl (fun K hK => ?_) AllReadyH.nil
            · refine step_append_lies _ (by rfl) _ _ _ (by rfl) B 3 j1 _ 1 8 Tryd.underlying37 jinf1 jz10 jz11 jz12 rfl (by omega) _ _ _ (by rfl) F.o1 ⟨_, 0, none⟩ 1 1 [.int .i64 i] (by rfl) (by rfl) (one_news k1) (by simp [Value.oneCell']) (by omega) (by unfold maxLen; omega) (by omega) (Nat.le_trans hBV F.mm.size) _ rfl ?_
              intro g1 cap1 y0 ho hg hat hlt1
              have hq1 := newer F hat
              have k2 := kgr (V := V) k2 hg u1 hG2
              have F := F.gr1 hpa hpb hg ho hd21
              refine hK.out _ _ trivial (fun _ => ?_)
              clear hK K ho hg hat k1
              simp only [Act.put, List.setIfInBounds_toArray, List.set_cons_zero, List.set_cons_succ]
              refine wpAnyH_ready (rs := [7]) (by kernel_rfl) (by simp) ?_
              refine AllReadyH.cons (o := ⟨some 15, _, _, _, _, _⟩) rfl (fun K hK => ?_) AllReadyH.nil
              · refine step_append_lies _ (by rfl) _ _ _ (by rfl) B 9 j2 _ 1 16 Tryd.underlying38 jinf2 jz20 jz21 jz22 rfl (by omega) _ _ _ (by rfl) F.o2 ⟨_, 0, none⟩ 1 1 [.string s] (by rfl) (by rfl) (one_news k2) (by simp [Value.oneCell']) (by omega) (by unfold maxLen; omega) (by omega) (Nat.le_trans hBV F.mm.size) _ rfl ?_
                intro g2 cap2 y1 ho hg hat hlt2
                have hq2 := newer F hat
                have hd := (unlike hat (F.o1.lt g1 rfl).2 (apart (n := 0) (c := 0) hq1 hd12 u2 g1 rfl))
                have F := F.gr2 hpa hpb hg ho (apart hq1 hd12 u2)
                refine hK.out _ _ trivial (fun _ => ?_)
                clear hK K ho hg hat k2
                simp only [Act.put, List.setIfInBounds_toArray, List.set_cons_zero, List.set_cons_succ]
                refine wpAnyH_ready (rs := [8]) (by kernel_rfl) (by simp) ?_
                refine AllReadyH.cons (o := ⟨none, _, _, _, _, _⟩) rfl (fun K hK => ?_) AllReadyH.nil
                have z1 := F.c1.c
                have z2 := F.c1.f
                go_simp
                refine hK.out _ _ trivial (fun _ => ?_)
                clear hK K
                refine wpAnyH_ready (rs := [9]) (by kernel_rfl) (by simp) ?_
                refine AllReadyH.cons (o := ⟨none, _, _, _, _, _⟩) rfl (fun K hK => ?_) AllReadyH.nil
                have z3 := (F.c2.oth (Ne.symm hne) (.slice (some ⟨g1, 0, none⟩) (is.length + 1) cap1))
                have z4 := z3.c
                have z5 := z3.f
                go_simp
                refine hK.out _ _ trivial (fun _ => ?_)
                clear hK K
                refine wpAnyH_done (by kernel_rfl) ?_ _
                have hR := hidI6 (fm_fin hpa hpb hne F hd m0)
                clear F z1 z2 z3 z4 z5
                go_wp2_with fail
                go_meet
                have hR2 := hR.out
                rw [hl2] at hR2
                refine ⟨rfl, ?_⟩
                rw [hl2]
                exact ⟨⟨_, _, _, _, hR2.1⟩, hR2.2⟩
        refine AllReadyH.cons (o := ⟨some 10, _, _, _, _, _⟩) rfl (fun K hK => ?_) AllReadyH.nil
        · go_simp
          refine hK.out _ _ trivial (fun _ => ?_)
          clear hK K
          have hs := F.mm.size
          have k1 := knew (x := (V.alloc (.cells #[.string s] 9))) (n := V.heap.size + 1) (by simp) (.int .i64 i) 3
          have hG1 : V.heap.size ≤ V.heap.size + 1 := by first | omega | (simp at hs; omega)
          have k2 := kal k2 (.cells #[.int .i64 i] 3)
          have F := F.al (.cells #[.int .i64 i] 3)
          refine wpAnyH_ready (rs := [0]) (by kernel_rfl) (by simp) ?_
          refine AllReadyH.cons (o := ⟨some 8, _, _, _, _, _⟩) rfl (fun K hK => ?_) AllReadyH.nil
          · have z := F.c1.c
            go_simp
            refine hK.out _ _ trivial (fun _ => ?_)
            clear hK K z
            refine wpAnyH_ready (rs := [3]) (by kernel_rfl) (by simp) ?_
            refine AllReadyH.cons (o := ⟨some 11, _, _, _, _, _⟩) rfl (fun K hK => ?_) AllReadyH.nil
            · refine step_append_lies _ (by rfl) _ _ _ (by rfl) B 3 j1 _ 1 8 Tryd.underlying37 jinf1 jz10 jz11 jz12 rfl (by omega) _ _ _ (by rfl) F.o1 ⟨_, 0, none⟩ 1 1 [.int .i64 i] (by rfl) (by rfl) (one_news k1) (by simp [Value.oneCell']) (by omega) (by unfold maxLen; omega) (by omega) (Nat.le_trans hBV F.mm.size) _ rfl ?_
              intro g1 cap1 y0 ho hg hat hlt1
              have hq1 := newer F hat
              have k2 := kgr (V := V) k2 hg u1 hG2
              have F := F.gr1 hpa hpb hg ho hd21
              refine hK.out _ _ trivial (fun _ => ?_)
              clear hK K ho hg hat k1
              simp only [Act.put, List.setIfInBounds_toArray, List.set_cons_zero, List.set_cons_succ]
              refine wpAnyH_ready (rs := [7]) (by kernel_rfl) (by simp) ?_
              refine AllReadyH.cons (o := ⟨some 15, _, _, _, _, _⟩) rfl (fun K hK => ?_) AllReadyH.nil
              · refine step_append_lies _ (by rfl) _ _ _ (by rfl) B 9 j2 _ 1 16 Tryd.underlying38 jinf2 jz20 jz21 jz22 rfl (by omega) _ _ _ (by rfl) F.o2 ⟨_, 0, none⟩ 1 1 [.string s] (by rfl) (by rfl) (one_news k2) (by simp [Value.oneCell']) (by omega) (by unfold maxLen; omega) (by omega) (Nat.le_trans hBV F.mm.size) _ rfl ?_
                intro g2 cap2 y1 ho hg hat hlt2
                have hq2 := newer F hat
                have hd := (unlike hat (F.o1.lt g1 rfl).2 (apart (n := 0) (c := 0) hq1 hd12 u2 g1 rfl))
                have F := F.gr2 hpa hpb hg ho (apart hq1 hd12 u2)
                refine hK.out _ _ trivial (fun _ => ?_)
                clear hK K ho hg hat k2
                simp only [Act.put, List.setIfInBounds_toArray, List.set_cons_zero, List.set_cons_succ]
                refine wpAnyH_ready (rs := [8]) (by kernel_rfl) (by simp) ?_
                refine AllReadyH.cons (o := ⟨none, _, _, _, _, _⟩) rfl (fun K hK => ?_) AllReadyH.nil
                have z1 := F.c1.c
                have z2 := F.c1.f
                go_simp
                refine hK.out _ _ trivial (fun _ => ?_)
                clear hK K
                refine wpAnyH_ready (rs := [9]) (by kernel_rfl) (by simp) ?_
                refine AllReadyH.cons (o := ⟨none, _, _, _, _, _⟩) rfl (fun K hK => ?_) AllReadyH.nil
                have z3 := (F.c2.oth (Ne.symm hne) (.slice (some ⟨g1, 0, none⟩) (is.length + 1) cap1))
                have z4 := z3.c
                have z5 := z3.f
                go_simp
                refine hK.out _ _ trivial (fun _ => ?_)
                clear hK K
                refine wpAnyH_done (by kernel_rfl) ?_ _
                have hR := hidI6 (fm_fin hpa hpb hne F hd m0)
                clear F z1 z2 z3 z4 z5
                go_wp2_with fail
                go_meet
                have hR2 := hR.out
                rw [hl2] at hR2
                refine ⟨rfl, ?_⟩
                rw [hl2]
                exact ⟨⟨_, _, _, _, hR2.1⟩, hR2.2⟩
  case rest =>
    obtain ⟨rfl, ⟨g1, cap1, g2, cap2, hfm⟩, hmv⟩ := hcut
    have z1 := hfm.c1.c
    have hps2 : ¬ Td2 B pa pb ps := fun h => by rcases h with h | h | h <;> omega
    have z2 := hmv.cell (a := ⟨ps, 0, none⟩) hps2 cs
    have hR := hidI6 (And.intro hfm hmv)
    have hlI : ((is.length : Int) + 1) ≤ 300 := by omega
    clear hfm hmv cs hf
    by_cases hq : (is.length : Int) + 1 = st
    · have hqb : (((is.length : Int) + 1) == st) = true := by simp [hq]
      have hE : Hid (decide ((is.length : Int) + 1 ≠ st) = false) := decide_eq_false (fun h => h hq)
      subst hq
      go_wp2_with fail
      go_ret
      exact ⟨ret_bool hE.out.symm, ⟨_, _, hR.out.1⟩, hR.out.2⟩
    · have hqb : (((is.length : Int) + 1) == st) = false := by simp [hq]
      have hE : Hid (decide ((is.length : Int) + 1 ≠ st) = true) := decide_eq_true hq
      go_wp2_with fail
      go_ret
      exact ⟨ret_bool (by rw [hE.out]; simp only [bne, hqb]; rfl), ⟨_, _, hR.out.1⟩, hR.out.2⟩
end Go.Proofs.YtiinhfbfciccnaaDoor
