import Derived.Test.YtcfclknfnadgcaaDoorBaf
/- Steps of a walk over whole units. -/
namespace Go.Proofs.YtcfclknfnadgcaaDoor
open Go.RowKit Go.Shelf Go.Lib
/-- What is stored over a new unit. -/
theorem fresh_store {W : World} {vs : Array Value} (hs : vs.size = 33) (h1 : ∀ (p : Nat) (v : Value), vs[p]? = some v → v.oneCell' = true) (Z : Array Value) (t : TypeId) (hZ : Z.size = 33) :
    ∃ X, (storeCells ⟨W.heap.size, 0, none⟩ vs.toList).run Tryd.prog (W.alloc (.cells Z t)) = .ok () X ∧ Ub W.heap.size vs X ∧ Below W.heap.size W X := by
  obtain ⟨X, q1, q2, q3⟩ := Ub.store (P := Tryd.prog) (n := W.heap.size) (w := W.alloc (.cells Z t)) hs h1 (fun p hp => by
    rw [cell_at (v := Z[p]'(by omega)) rfl (Array.getElem?_eq_getElem (by omega))]; rfl) (fun p => World.frozen?_alloc_new W _ _ p)
  exact ⟨X, q1, q2, ((Below.refl _ _).alloc (Nat.le_refl _) _).trans (q3.toBelow (n := W.heap.size) (by simp) (fun k hk e => by omega))⟩
end Go.Proofs.YtcfclknfnadgcaaDoor
/- A unit goes: the contract of drop. -/
namespace Go.Proofs.YtcfclknfnadgcaaDoor
open Go.RowKit Go.Shelf Go.Lib
def rmU (L : UL) (x : ByteArray) : UL := L.filter fun p => !decide (p.2.nm = x)
theorem lku_rm (L : UL) (x y : ByteArray) : lku (rmU L x) y = if y = x then none else lku L y := by
  unfold lku rmU
  induction L with
  | nil => simp
  | cons p L ih =>
    by_cases h : p.2.nm = x
    · rw [List.filter_cons_of_neg (by simp [h]), ih]
      by_cases h2 : y = x
      · simp [h2]
      · have : ¬ x = y := fun e => h2 e.symm
        simp [h2, h, this]
    · rw [List.filter_cons_of_pos (by simp [h])]
      by_cases h2 : y = x
      · subst h2
        rw [if_pos rfl] at ih ⊢
        rw [List.find?_cons, decide_eq_false h]
        exact ih
      · rw [if_neg h2] at ih ⊢
        rw [List.find?_cons, List.find?_cons, ih]
theorem rm_none {L : UL} {x : ByteArray} (h : ∀ p ∈ L, p.2.nm ≠ x) : rmU L x = L := by
  unfold rmU
  exact List.filter_eq_self.2 fun p hp => by simp [h p hp]
/-- With one of its name the rest is one shorter; what is told of is parted. -/
theorem rm_split : ∀ {L : UL} {x : ByteArray} {p : Array Value × Un}, (L.Pairwise fun p q => p.2.nm ≠ q.2.nm) → lku L x = some p → (rmU L x).length + 1 = L.length ∧ ∀ f, kL L f = kL (rmU L x) f + (cn f (tolU p.2) : Int)
  | [], _, _, _, h => by cases h
  | q :: L, x, p, hn, h => by
    have hn2 := List.pairwise_cons.1 hn
    rw [lku_cons] at h
    by_cases e : q.2.nm = x
    · rw [if_pos e] at h
      cases h
      have h1 : rmU (q :: L) x = L := by
        have : rmU (q :: L) x = rmU L x := by unfold rmU; rw [List.filter_cons_of_neg (by simp [e])]
        rw [this, rm_none (fun r hr e2 => hn2.1 r hr (e.trans e2.symm))]
      rw [h1]
      refine ⟨rfl, fun f => ?_⟩
      rw [kL_cons]
      unfold addL
      omega
    · rw [if_neg e] at h
      obtain ⟨i1, i2⟩ := rm_split hn2.2 h
      have h1 : rmU (q :: L) x = q :: rmU L x := by unfold rmU; rw [List.filter_cons_of_pos (by simp [e])]
      rw [h1]
      refine ⟨by simp [i1], fun f => ?_⟩
      rw [kL_cons, kL_cons]
      unfold addL
      rw [i2 f]
      omega
theorem Gs.leave {w w1 w2 : World} {S S' : GS} {L : UL} {x : ByteArray} {p : Array Value × Un} {n : Nat} (h : Gs w S L) (hp : lku L x = some p) (hd : Gd w1 S' (addL (kL L) (tolU p.2) (-1))) (g1 : GdGo S w S' w1 n) (m2 : Mv (fun k => k = S.ub) w1 w2) (hM : MS w2 S.ub (L.length - 1) (fun y => if y = x then none else (lku L y).map fun p => .agg p.1)) :
    Gs w2 S' (rmU L x) ∧ GsGo S w S' w2 n := by
  obtain ⟨r1, r2⟩ := rm_split h.nd hp
  have hgb : S.gb < w.heap.size := h.lt (.inl rfl)
  have hub : S.ub < w.heap.size := h.lt (.inr (.inl rfl))
  have hs1 := g1.mv.size
  have hs2 := m2.size
  have gG : ∀ k, hasG S' k → hasG S k ∨ w.heap.size ≤ k := fun k hk => by
    rcases hk with e | e | e
    · exact .inl (.inl (e.trans g1.gb))
    · exact .inl (.inr (.inl (e.trans g1.ub)))
    · exact (g1.gr k e).imp (fun q => .inr (.inr q)) id
  have nu' : ¬ hasEd S' S.ub := fun q => by
    rcases g1.gr _ q with r | r
    · exact h.nu r
    · omega
  have hmem : ∀ q ∈ rmU L x, q ∈ L := fun q hq => (List.mem_filter.1 hq).1
  have hK : addL (kL L) (tolU p.2) (-1) = kL (rmU L x) := by
    funext f
    unfold addL
    rw [r2 f]
    omega
  refine ⟨⟨?_, ?_, fun q hq => ?_, h.nd.filter _, ?_, ?_, ?_⟩, ⟨g1.gb, g1.ub, ?_, ?_, g1.c⟩⟩
  · rw [g1.gb, g1.ub]
    exact m2.cell (a := ⟨S.gb, 0, none⟩) (fun e => h.ng e.symm) (g1.mv.cell (a := ⟨S.gb, 0, none⟩) (fun q => h.ed.ng q) h.c0)
  · rw [g1.ub]
    have : L.length - 1 = (rmU L x).length := by omega
    rw [← this]
    refine hM.cong fun y => ?_
    rw [lku_rm]
    split <;> rfl
  · obtain ⟨q1, q2, q3, q4⟩ := h.uv q (hmem q hq)
    refine ⟨(q1.mv g1.mv (fun b hb e => q3 b hb (.inr (.inr e)))).mv m2 (fun b hb e => q3 b hb (.inr (.inl e))), q2, fun b hb e => ?_, q4⟩
    rcases gG b e with r | r
    · exact q3 b hb r
    · have := q1.lt hb; omega
  · rw [← hK]
    exact hd.mv m2 (fun k hk e => nu' (e ▸ hk)) (fun e => h.ng (by rw [← e]; exact g1.gb))
  · rw [g1.ub]; exact nu'
  · rw [g1.gb, g1.ub]; exact h.ng
  · exact (g1.mv.mono (fun k _ e => .inr (.inr e))).trans' (m2.mono (fun k _ e => .inr (.inl e)))
  · intro k hk
    exact gG k hk
set_option maxRecDepth 100000 in
set_option maxHeartbeats 4000000 in
theorem drop_any (S : GS) (L : UL) (x : ByteArray) (p : Array Value × Un) (w : World) (h : Gs w S L) (hx : x.size ≤ 1000) (hp : lku L x = some p) (hc : S.c + 2 * (tolU p.2).length ≤ 800000) (hgl : GlN w) (e0 : ¬ hasG S 0) (e1 : ¬ hasG S 1) :
    Calls Tryd.prog 19 #[.pointer (some ⟨S.gb, 0, none⟩), .string x] w fun e w' => e = .returned (.tuple #[]) ∧ ∃ S', Gs w' S' (rmU L x) ∧ GsGo S w S' w' (2 * (tolU p.2).length) := by
  obtain ⟨gb, hgb⟩ : ∃ gb, S.gb = gb := ⟨_, rfl⟩
  obtain ⟨ub, hub⟩ : ∃ ub, S.ub = ub := ⟨_, rfl⟩
  have c0 := h.c0
  rw [hgb, hub] at c0
  have hlk := h.un.look1 lawS (t := 49) Tryd.underlying49 (zeroUn w) (a := x) (keyS hx)
  rw [hp, hub] at hlk
  simp only [Option.map_some, Option.getD_some] at hlk
  obtain ⟨hmem, hnm⟩ := lku_mem hp
  obtain ⟨u1, u2, u3, u4⟩ := h.uv p hmem
  obtain ⟨r1, r2⟩ := rm_split h.nd hp
  have hcnt := gcount_any S (kL L) p.1 p.2 w h.ed u1 (-1) (.inr ⟨rfl, fun f => by rw [r2 f]; have : 0 ≤ kL (rmU L x) f := by unfold kL; omega
                                                                                  omega⟩) (by rw [hnm]; exact hx) hc u4 hgl (fun q => e0 (.inr (.inr q))) (fun q => e1 (.inr (.inr q))) (fun b hb q => u3 b hb (.inr (.inr q)))
  rw [hgb] at hcnt
  have hH := hidP h
  have hpH := hidP hp
  have hgE : gb ≠ ub ∧ ¬ hasEd S gb := ⟨fun e => h.ng (hub.trans (e.symm.trans hgb.symm)), by rw [← hgb]; exact h.ed.ng⟩
  have hgEH := hidP hgE
  clear h hp hc hgl e0 e1 hmem hnm u1 u2 u3 u4 r1 r2 hgE
  rw [hgb]
  go_enter Tryd.func19, Tryd.ntmps19
  go_wp2_with fail
  refine hcnt.mono ?_
  rintro e w1 ⟨rfl, S', hG', hgo⟩
  have c1 : w1.cell? ⟨gb, 0, none⟩ = some (.map (some ub)) := hgo.mv.cell (a := ⟨gb, 0, none⟩) hgEH.out.2 c0
  obtain ⟨w2, hdl, hM, m2⟩ := (hH.out.un.mv hgo.mv hH.out.nu).drop lawS (fun _ _ => eS_inj) (t := 49) Tryd.underlying49 (a := x) (keyS hx) 0
  rw [hpH.out] at hM
  have fin := hidP (hH.out.leave hpH.out hG' hgo m2 (by simpa [dnN] using hM))
  rw [hub] at hdl
  clear hcnt hG' hgo hM m2 hlk
  go_wp2_with fail
  refine bodyPost_end (v := .tuple #[]) (by simp [results, Tryd.results19, go_sem]) rfl ?_
  exact ⟨rfl, S', fin.out⟩
theorem GsGo.mono {S T : GS} {w v : World} {n m : Nat} (h : GsGo S w T v n) (hm : n ≤ m) : GsGo S w T v m := ⟨h.gb, h.ub, h.mv, h.gr, by have := h.c; omega⟩
end Go.Proofs.YtcfclknfnadgcaaDoor
/- The contract of (*Graph).Add: a unit whose name is there. -/
namespace Go.Proofs.YtcfclknfnadgcaaDoor
open Go.RowKit Go.Shelf Go.Lib
set_option maxRecDepth 100000 in
set_option maxHeartbeats 8000000 in
theorem add_old (S : GS) (L : UL) (vs : Array Value) (u : Un) (w : World) (h : Gs w S L) (hu : UV w vs u) (hn : isN u.nm = true) {op : Array Value × Un} (hno : lku L u.nm = some op) (hl : L.length ≤ 40) (hsz : ∀ r ∈ relsU u, ∀ s ∈ r.2.2, s.size ≤ 2000000) (hc : S.c + 2 * (tolU op.2).length + 2 * (tolU u).length ≤ 800000) (hgl : GlN w)
    (e0 : ¬ hasG S 0) (e1 : ¬ hasG S 1) (eu : ∀ b, ubk vs b → ¬ hasG S b) :
    Calls Tryd.prog 9 #[.pointer (some ⟨S.gb, 0, none⟩), .agg vs] w fun e w' => e = .returned (.int .i64 0) ∧ ∃ S' cs, Gs w' S' ((cs, u) :: rmU L u.nm) ∧ GsGo S w S' w' (2 * (tolU op.2).length + 2 * (tolU u).length) ∧ (∀ b, ubk cs b → w.heap.size ≤ b) := by
  have hn60 := isN_le hn
  obtain ⟨gb, hgb⟩ : ∃ gb, S.gb = gb := ⟨_, rfl⟩
  obtain ⟨ub, hub⟩ : ∃ ub, S.ub = ub := ⟨_, rfl⟩
  obtain ⟨n, hB⟩ : ∃ n, w.heap.size = n := ⟨_, rfl⟩
  obtain ⟨nm, hnm⟩ : ∃ nm, u.nm = nm := ⟨_, rfl⟩
  obtain ⟨v0, hv0e⟩ : ∃ v0 : Array Value, v0 = op.1 := ⟨_, rfl⟩
  obtain ⟨th, hth⟩ : ∃ th : Bool, th = true := ⟨_, rfl⟩
  obtain ⟨hom, hon⟩ := lku_mem hno
  have hou := (h.uv op hom).1
  have hv0 : v0.size = 33 := by rw [hv0e]; exact hou.sz
  have hv1 : ∀ (p : Nat) (v : Value), v0[p]? = some v → v.oneCell' = true := by rw [hv0e]; exact hou.on
  obtain ⟨W0, hW0⟩ : ∃ W0, w.alloc (.cells vs 29) = W0 := ⟨_, rfl⟩
  have b0 : Below w.heap.size w W0 := by rw [← hW0]; exact (Below.refl _ _).alloc (Nat.le_refl _) _
  have s0 : W0.heap.size = n + 1 := by rw [← hW0]; simp [hB]
  have U0 : Ub n vs W0 := by rw [← hW0, ← hB]; exact Ub.mk' _ _ _
  have x0 := U0 0 _ hu.c0
  rw [hnm] at x0
  have his := is_any nm W0 (hgl.below b0) (by rw [← hnm]; omega)
  rw [isN_eq, ← hnm, hn, hnm] at his
  have hgE : gb < n ∧ ub < n := ⟨by rw [← hB, ← hgb]; exact h.lt (.inl rfl), by rw [← hB, ← hub]; exact h.lt (.inr (.inl rfl))⟩
  have hH := hidP h
  have huH := hidP hu
  have hsv := hu.sz
  have bH := hidP b0
  have UH := hidP U0
  have hnoH := hidP hno
  have hglH := hidP hgl
  have eH := hidP (And.intro e0 (And.intro e1 eu))
  have hcH := hidP hc
  have hszH := hidP hsz
  have hnH := hidP hn
  have hnmH := hidP hnm
  have hv0H := hidP hv0e
  clear h hu hn hno hsz hc hgl e0 e1 eu b0 U0 hv0e hom hon hou
  rw [hgb]
  go_enter Tryd.func9, Tryd.ntmps9
  go_wp2_with (rw [hW0])
  refine his.mono ?_
  rintro e w1 ⟨rfl, hb1⟩
  have b01 : Below w.heap.size w w1 := bH.out.trans (hb1.mono (by omega))
  have hG1 := hH.out.below b01
  have U1 := UH.out.mv (Mv.below (E := fun _ => False) hb1) (fun q => q)
  have lk : ∀ y, Below w.heap.size w y → (Instr.lookup 49 (.map (some ub)) (.string nm) true).run Tryd.prog y = .ok (.tuple #[.agg v0, .bool th]) y := fun y hy => by
    have q := (hH.out.below hy).un.look lawS (t := 49) Tryd.underlying49 (zeroUn y) (a := nm) (keyS (by rw [← hnmH.out]; omega))
    rw [← hnmH.out, hnoH.out, hub, hnmH.out] at q
    rw [hv0H.out, hth]
    exact q
  have cg : ∀ y, Below w.heap.size w y → y.cell? ⟨gb, 0, none⟩ = some (.map (some ub)) := fun y hy => by
    have q := (hH.out.below hy).c0
    rw [hgb, hub] at q; exact q
  have hS3 : w1.drew.cell? ⟨gb, 0, none⟩ = some (.map (some ub)) ∧ w1.drew.cell? ⟨n, 0, none⟩ = some (.string nm) ∧ (Instr.lookup 49 (.map (some ub)) (.string nm) true).run Tryd.prog w1.drew = .ok (.tuple #[.agg v0, .bool th]) w1.drew := ⟨cg _ b01.drew, by have := U1 0 _ huH.out.c0; rw [hnmH.out] at this; exact this, lk _ b01.drew⟩
  have hSal : ∀ Z t, (w1.alloc (.cells Z t)).drew.cell? ⟨gb, 0, none⟩ = some (.map (some ub)) ∧ (w1.alloc (.cells Z t)).drew.cell? ⟨n, 0, none⟩ = some (.string nm) ∧ (Instr.lookup 49 (.map (some ub)) (.string nm) true).run Tryd.prog (w1.alloc (.cells Z t)).drew = .ok (.tuple #[.agg v0, .bool th]) (w1.alloc (.cells Z t)).drew := fun Z t =>
    have hb : Below w.heap.size w (w1.alloc (.cells Z t)).drew := (b01.alloc b01.size _).drew
    ⟨cg _ hb, (Mv.alloc (fun _ => False) w1.drew (.cells Z t)).cell (fun q => q) hS3.2.1, lk _ hb⟩
  have b01H := hidP b01
  have U1H := hidP U1
  have cgH := hidP cg
  clear hb1 his b01 hG1 U1 lk cg
  go_wp2_with fail
  refine Zs.region (S := (fun y => y.cell? ⟨gb, 0, none⟩ = some (.map (some ub)) ∧ y.cell? ⟨n, 0, none⟩ = some (.string nm) ∧ (Instr.lookup 49 (.map (some ub)) (.string nm) true).run Tryd.prog y = .ok (.tuple #[.agg v0, .bool th]) y)) 11 (by kernel_rfl) ?_
  refine Zs.pure (i := 0) (oi := ⟨some 12, _, _, _, _, _⟩) (v := ?v0) rfl (by kernel_rfl) (by kernel_rfl) (by kernel_rfl) (by decide) (fun _ _ _ h => h) (Or.inl ⟨by rfl, ?hy0⟩) hS3 ?_
  case hy0 => (intro w hSw; (try dsimp only at hSw); go_simp; try with_reducible rfl)
  simp only [Act.put, List.setIfInBounds_toArray, List.set_cons_zero, List.set_cons_succ]
  refine Zs.pure (i := 1) (oi := ⟨some 13, _, _, _, _, _⟩) (v := ?v1) rfl (by kernel_rfl) (by kernel_rfl) (by kernel_rfl) (by decide) (fun _ _ _ h => h) (Or.inl ⟨by rfl, ?hy1⟩) hS3 ?_
  case hy1 => (intro w hSw; (try dsimp only at hSw); go_simp; try with_reducible rfl)
  simp only [Act.put, List.setIfInBounds_toArray, List.set_cons_zero, List.set_cons_succ]
  refine Zs.pure (i := 2) (oi := ⟨some 14, _, _, _, _, _⟩) (v := ?v2) rfl (by kernel_rfl) (by kernel_rfl) (by kernel_rfl) (by decide) (fun _ _ _ h => h) (Or.inl ⟨by rfl, ?hy2⟩) hS3 ?_
  case hy2 => (intro w hSw; (try dsimp only at hSw); go_simp; try with_reducible rfl)
  simp only [Act.put, List.setIfInBounds_toArray, List.set_cons_zero, List.set_cons_succ]
  refine Zs.take (i := 3) (oi := ⟨some 15, _, _, _, _, _⟩) (v := ?t3) rfl (by kernel_rfl) (by kernel_rfl) (by kernel_rfl) (by decide) (by kernel_rfl) (by kernel_rfl) (fun _ _ _ h => h) (Or.inl ⟨by rfl, ?hy3⟩) hS3 ?_
  case hy3 => (intro w hSw; (try dsimp only at hSw); go_simp; try with_reducible rfl)
  simp only [Act.put, List.setIfInBounds_toArray, List.set_cons_zero, List.set_cons_succ]
  refine Zs.pure (i := 4) (oi := ⟨some 16, _, _, _, _, _⟩) (v := ?v4) rfl (by kernel_rfl) (by kernel_rfl) (by kernel_rfl) (by decide) (fun _ _ _ h => h) (Or.inl ⟨by rfl, ?hy4⟩) hS3 ?_
  case hy4 => (intro w hSw; (try dsimp only at hSw); go_simp; try with_reducible rfl)
  simp only [Act.put, List.setIfInBounds_toArray, List.set_cons_zero, List.set_cons_succ]
  refine Zs.take (i := 5) (oi := ⟨some 17, _, _, _, _, _⟩) (v := ?t5) rfl (by kernel_rfl) (by kernel_rfl) (by kernel_rfl) (by decide) (by kernel_rfl) (by kernel_rfl) (fun _ _ _ h => h) (Or.inl ⟨by rfl, ?hy5⟩) hS3 ?_
  case hy5 => (intro w hSw; (try dsimp only at hSw); go_simp; try with_reducible rfl)
  simp only [Act.put, List.setIfInBounds_toArray, List.set_cons_zero, List.set_cons_succ]
  refine Zs.take (i := 6) (oi := ⟨some 18, _, _, _, _, _⟩) (v := ?t6) rfl (by kernel_rfl) (by kernel_rfl) (by kernel_rfl) (by decide) (by kernel_rfl) (by kernel_rfl) (fun _ _ _ h => h) (Or.inl ⟨by rfl, ?hy6⟩) hS3 ?_
  case hy6 => (intro w hSw; (try dsimp only at hSw); go_simp; try with_reducible rfl)
  simp only [Act.put, List.setIfInBounds_toArray, List.set_cons_zero, List.set_cons_succ]
  refine Zs.pure (i := 7) (oi := ⟨some 11, _, _, _, _, _⟩) (v := ?v7) rfl (by kernel_rfl) (by kernel_rfl) (by kernel_rfl) (by decide) (fun _ _ _ h => h) (Or.inl ⟨by rfl, ?hy7⟩) hS3 ?_
  case hy7 => (intro w hSw; (try dsimp only at hSw); go_simp; try with_reducible rfl)
  simp only [Act.put, List.setIfInBounds_toArray, List.set_cons_zero, List.set_cons_succ]
  refine Zs.pure (i := 8) (oi := ⟨some 19, _, _, _, _, _⟩) (v := ?v8) rfl (by kernel_rfl) (by kernel_rfl) (by kernel_rfl) (by decide) (fun _ _ _ h => h) (Or.inl ⟨by rfl, ?hy8⟩) hS3 ?_
  case hy8 => (intro w hSw; (try dsimp only at hSw); go_simp; try with_reducible rfl)
  simp only [Act.put, List.setIfInBounds_toArray, List.set_cons_zero, List.set_cons_succ]
  refine Zs.pure (i := 9) (oi := ⟨some 20, _, _, _, _, _⟩) (v := ?v9) rfl (by kernel_rfl) (by kernel_rfl) (by kernel_rfl) (by decide) (fun _ _ _ h => h) (Or.inl ⟨by rfl, ?hy9⟩) hS3 ?_
  case hy9 => (intro w hSw; (try dsimp only at hSw); go_simp; try with_reducible rfl)
  simp only [Act.put, List.setIfInBounds_toArray, List.set_cons_zero, List.set_cons_succ]
  refine Zs.one (i := 10) (oi := ⟨some 5, _, _, _, _, _⟩) (by kernel_rfl) rfl (fun K hK => ?_)
  go_simp
  refine hK.out _ _ (fun _ => hSal _ _) ?_
  clear hK K
  try simp only [Act.put, List.setIfInBounds_toArray, List.set_cons_zero, List.set_cons_succ]
  generalize hX0 : World.drew (World.alloc w1 _) = X0
  obtain ⟨Z, t0, hX1, hZ⟩ : ∃ Z t0, w1.drew.alloc (.cells Z t0) = X0 ∧ Z.size = 33 := ⟨_, _, hX0, rfl⟩
  obtain ⟨X, hst, hUX, hbX⟩ := fresh_store (W := w1.drew) hv0 hv1 Z t0 hZ
  rw [hX1] at hst
  clear hX0 hX1 hZ hUX
  refine Zs.one (i := 11) (oi := ⟨none, _, _, _, _, _⟩) (by kernel_rfl) rfl (fun K hK => ?_)
  refine step_storeU rfl _ _ rfl _ rfl _ rfl hv0 hst ?_
  refine hK.out _ _ (fun q => absurd q (by decide)) ?_
  clear hK K
  try simp only [Act.put]
  refine Zs.one (i := 12) (oi := ⟨some 6, _, _, _, _, _⟩) (by kernel_rfl) rfl (fun K hK => ?_)
  go_simp
  refine hK.out _ _ (fun q => absurd q (by decide)) ?_
  clear hK K
  try simp only [Act.put, List.setIfInBounds_toArray, List.set_cons_zero, List.set_cons_succ]
  refine Zs.done (by kernel_rfl) ?_ _
  have bX : Below w.heap.size w X := b01H.out.drew.trans (hbX.mono (by have := b01H.out.size; exact this))
  have UX : Ub n vs X := (U1H.out.mv (Mv.drew (fun _ => False) _) (fun q => q)).mv (Mv.below (E := fun _ => False) hbX) (fun q => q)
  have bXH := hidP bX
  have UXH := hidP UX
  have d0 := cgH.out X bX
  have heq : ∀ w, (binOp .eql 49 (.map (some ub)) (.map none)).run Tryd.prog w = .ok (.bool false) w := fun w => by first | kernel_rfl | rfl
  subst hth
  have x5 : X.cell? ⟨n, 0, none⟩ = some (.string nm) := by have := UX 0 _ huH.out.c0; rw [hnmH.out] at this; exact this
  have hdrop := drop_any S L nm op X (hH.out.below bX) (by rw [← hnmH.out]; omega) (by rw [← hnmH.out]; exact hnoH.out) (by have := hcH.out; omega) (hglH.out.below bX) eH.out.1 eH.out.2.1
  rw [hgb] at hdrop
  clear hS3 hSal hst hbX bX UX
  go_wp2_with fail
  refine hdrop.mono ?_
  rintro e Y ⟨rfl, T, hT, hgo1⟩
  have nb : ∀ k, hasG S k → k < X.heap.size := fun k hk => (hH.out.below bXH.out).lt hk
  have uY := (huH.out.below bXH.out).mv hgo1.mv (fun b hb q => eH.out.2.2 b hb q)
  have UY : Ub n vs Y := UXH.out.mv hgo1.mv (fun q => by have := hH.out.lt q; omega)
  have gY := (hglH.out.below bXH.out).mv hgo1.mv eH.out.1 eH.out.2.1
  have sX := bXH.out.size
  have sY := hgo1.mv.size
  have lglY := (hglH.out.below bXH.out).lt
  have eY : ¬ hasG T 0 ∧ ¬ hasG T 1 ∧ ∀ b, ubk vs b → ¬ hasG T b :=
    ⟨fun q => (hgo1.gr _ q).elim eH.out.1 (fun r => by omega), fun q => (hgo1.gr _ q).elim eH.out.2.1 (fun r => by omega), fun b hb q => (hgo1.gr _ q).elim (eH.out.2.2 b hb) (fun r => by have := huH.out.lt hb; omega)⟩
  have hTH := hidP hT
  have uYH := hidP uY
  have UYH := hidP UY
  have gYH := hidP gY
  have eYH := hidP eY
  have hgo1H := hidP hgo1
  have hgbT : T.gb = gb := hgo1.gb.trans hgb
  have hubT : T.ub = ub := hgo1.ub.trans hub
  have hnoT : Hid (lku (rmU L u.nm) u.nm = none) := by show _ = _; rw [lku_rm, if_pos rfl]
  have hlenT : Hid ((rmU L u.nm).length ≤ 40) := Nat.le_trans (List.length_filter_le _ _) hl
  rw [← hnmH.out] at hT
  have hcT : Hid (T.c + 2 * (tolU u).length ≤ 800000) := by show _ ≤ _; have := hgo1.c; have := hcH.out; omega
  have cgT : Hid (∀ y, Below Y.heap.size Y y → y.cell? ⟨gb, 0, none⟩ = some (.map (some ub))) := fun y hy => by
    have q := (hT.below hy).c0
    rw [hgbT, hubT] at q; exact q
  have hTH2 := hidP hT
  have b0Y : Below Y.heap.size Y Y := Below.refl _ _
  have sU : (loadCells ⟨n, 0, none⟩ 33).run Tryd.prog Y.drew = .ok vs Y.drew := (UY.mv (Mv.drew (fun _ => False) _) (fun q => q)).load hsv
  have hS10 : Y.drew.cell? ⟨gb, 0, none⟩ = some (.map (some ub)) ∧ Y.drew.cell? ⟨n, 0, none⟩ = some (.string nm) ∧ (loadCells ⟨n, 0, none⟩ 33).run Tryd.prog Y.drew = .ok vs Y.drew := ⟨cgT.out _ b0Y.drew, by have := UY 0 _ huH.out.c0; rw [hnmH.out] at this; exact this, sU⟩
  have hcp := copied_any vs u Y.drew (uY.below b0Y.drew)
  clear hdrop hT hgo1 nb uY UY gY eY sU b0Y x5
  go_wp2_with fail
  refine Zs.region (S := (fun y => y.cell? ⟨gb, 0, none⟩ = some (.map (some ub)) ∧ y.cell? ⟨n, 0, none⟩ = some (.string nm) ∧ (loadCells ⟨n, 0, none⟩ 33).run Tryd.prog y = .ok vs y)) 8 (by kernel_rfl) ?_
  refine Zs.pure (i := 0) (oi := ⟨some 46, _, _, _, _, _⟩) (v := ?v0x2) rfl (by kernel_rfl) (by kernel_rfl) (by kernel_rfl) (by decide) (fun _ _ _ h => h) (Or.inl ⟨by rfl, ?hy0x2⟩) hS10 ?_
  case hy0x2 => (intro w hSw; (try dsimp only at hSw); go_simp; try with_reducible rfl)
  simp only [Act.put, List.setIfInBounds_toArray, List.set_cons_zero, List.set_cons_succ]
  refine Zs.pure (i := 1) (oi := ⟨some 47, _, _, _, _, _⟩) (v := ?v1x2) rfl (by kernel_rfl) (by kernel_rfl) (by kernel_rfl) (by decide) (fun _ _ _ h => h) (Or.inl ⟨by rfl, ?hy1x2⟩) hS10 ?_
  case hy1x2 => (intro w hSw; (try dsimp only at hSw); go_simp; try with_reducible rfl)
  simp only [Act.put, List.setIfInBounds_toArray, List.set_cons_zero, List.set_cons_succ]
  refine Zs.pure (i := 2) (oi := ⟨some 48, _, _, _, _, _⟩) (v := ?v2x2) rfl (by kernel_rfl) (by kernel_rfl) (by kernel_rfl) (by decide) (fun _ _ _ h => h) (Or.inl ⟨by rfl, ?hy2x2⟩) hS10 ?_
  case hy2x2 => (intro w hSw; (try dsimp only at hSw); go_simp; try with_reducible rfl)
  simp only [Act.put, List.setIfInBounds_toArray, List.set_cons_zero, List.set_cons_succ]
  refine Zs.take (i := 3) (oi := ⟨some 49, _, _, _, _, _⟩) (v := ?s3) rfl (by kernel_rfl) (by kernel_rfl) (by kernel_rfl) (by decide) (by kernel_rfl) (by kernel_rfl) (fun _ _ _ h => h) (Or.inl ⟨by rfl, ?hy3x2⟩) hS10 ?_
  case hy3x2 => (intro w hSw; (try dsimp only at hSw); go_simp; try with_reducible rfl)
  simp only [Act.put, List.setIfInBounds_toArray, List.set_cons_zero, List.set_cons_succ]
  refine Zs.pure (i := 4) (oi := ⟨some 50, _, _, _, _, _⟩) (v := ?v4x2) rfl (by kernel_rfl) (by kernel_rfl) (by kernel_rfl) (by decide) (fun _ _ _ h => h) (Or.inl ⟨by rfl, ?hy4x2⟩) hS10 ?_
  case hy4x2 => (intro w hSw; (try dsimp only at hSw); go_simp; try with_reducible rfl)
  simp only [Act.put, List.setIfInBounds_toArray, List.set_cons_zero, List.set_cons_succ]
  refine Zs.take (i := 5) (oi := ⟨some 51, _, _, _, _, _⟩) (v := ?s5) rfl (by kernel_rfl) (by kernel_rfl) (by kernel_rfl) (by decide) (by kernel_rfl) (by kernel_rfl) (fun _ _ _ h => h) (Or.inl ⟨by rfl, ?hy5x2⟩) hS10 ?_
  case hy5x2 => (intro w hSw; (try dsimp only at hSw); go_simp; try with_reducible rfl)
  simp only [Act.put, List.setIfInBounds_toArray, List.set_cons_zero, List.set_cons_succ]
  refine Zs.take (i := 6) (oi := ⟨some 52, _, _, _, _, _⟩) (v := .agg vs) rfl (by kernel_rfl) (by kernel_rfl) (by kernel_rfl) (by decide) (by kernel_rfl) (by kernel_rfl) (fun _ _ _ h => h) (Or.inl ⟨by rfl, fun w hSw => exec_loadU _ rfl _ rfl _ hSw.2.2⟩) hS10 ?_
  simp only [Act.put, List.setIfInBounds_toArray, List.set_cons_zero, List.set_cons_succ]
  refine Zs.one (i := 7) (oi := ⟨some 53, _, _, _, _, _⟩) (by kernel_rfl) rfl (fun K hK => ?_)
  go_simp
  refine hcp.mono ?_
  rintro e w2 ⟨cs, rfl, hcs, hfr, hb2⟩
  have bw2 : Below Y.heap.size Y w2 := (Below.refl _ _).drew.trans hb2
  have U2 : Ub n vs w2 := (UYH.out.mv (Mv.drew (fun _ => False) _) (fun q => q)).mv (Mv.below (E := fun _ => False) hb2) (fun q => q)
  have hfr2 : ∀ b, ubk cs b → Y.heap.size ≤ b := fun b hb => hfr b hb
  refine hK.out _ _ (fun _ => ⟨cgT.out _ bw2, by have := U2 0 _ huH.out.c0; rw [hnmH.out] at this; exact this, U2.load hsv⟩) ?_
  clear hK K
  try simp only [Act.put, List.setIfInBounds_toArray, List.set_cons_zero, List.set_cons_succ]
  obtain ⟨w3, hup, hM, m3⟩ := (hTH2.out.below bw2).un.store lawS (fun _ _ => eS_inj) klS (t := 49) Tryd.underlying49 (a := nm) (keyS (by rw [← hnmH.out]; omega)) (.agg cs) (by have := hlenT.out; unfold maxLen; omega)
  rw [hubT] at hup hM m3
  have U3 : Ub n vs w3 := U2.mv m3 (by omega)
  have hld3 := U3.load hsv
  rw [← hnmH.out, hnoT.out] at hM
  simp only [Option.map_none, Option.isSome_none, upN, Bool.false_eq_true, if_false] at hM
  have g2 := (hTH2.out.below bw2).ed
  have g3 : Gd w3 T (kL (rmU L u.nm)) := g2.mv m3 (fun k hk e => hTH2.out.nu (by rw [hubT, ← e]; exact hk)) (fun e => hTH2.out.ng (hubT.trans e.symm))
  have hcnt := gcount_any T (kL (rmU L u.nm)) vs u w3 g3 ((uYH.out.below bw2).mv m3 (fun b hb e => eYH.out.2.2 b hb (.inr (.inl (e.trans hubT.symm))))) 1 (.inl rfl) (by omega) hcT.out hszH.out
    ((gYH.out.below bw2).mv m3 (fun e => eYH.out.1 (.inr (.inl (e.trans hubT.symm)))) (fun e => eYH.out.2.1 (.inr (.inl (e.trans hubT.symm))))) (fun q => eYH.out.1 (.inr (.inr q))) (fun q => eYH.out.2.1 (.inr (.inr q))) (fun b hb q => eYH.out.2.2 b hb (.inr (.inr q)))
  rw [hgbT] at hcnt
  have bwH := hidP bw2
  have hszY : Hid (w.heap.size ≤ Y.heap.size) := by show _ ≤ _; omega
  have hcsH := hidP hcs
  have hfH := hidP hfr2
  have hMH := hidP hM
  have m3H := hidP m3
  clear hcp hcs hfr hb2 bw2 U2 hfr2 hM m3 U3 g2 g3 hS10
  refine Zs.one (i := 8) (oi := ⟨none, _, _, _, _, _⟩) (by kernel_rfl) rfl (fun K hK => ?_)
  go_simp
  refine hK.out _ _ (fun q => absurd q (by decide)) ?_
  clear hK K
  try simp only [Act.put]
  refine Zs.done (by kernel_rfl) ?_ _
  go_wp2_with (refine wpList_loadU rfl _ rfl _ rfl _ hld3 ?_)
  refine hcnt.mono ?_
  rintro e w4 ⟨rfl, S', hG', hgo⟩
  have fin := hidP (hTH2.out.come (cs := cs) (u := u) bwH.out hcsH.out hfH.out hnH.out hnoT.out hszH.out (by rw [hubT]; exact m3H.out) (by rw [hubT]; exact hMH.out) hG' hgo)
  clear hcnt hG' hgo hld3 hup
  go_wp2_with fail
  go_ret
  exact ⟨rfl, S', cs, fin.out.1, (((GsGo.below bXH.out).trans hgo1H.out).trans fin.out.2).mono (by omega), fun b hb => by have := hfH.out b hb; have := hszY.out; omega⟩
end Go.Proofs.YtcfclknfnadgcaaDoor
