/- The row that unitfile.parts makes of settings: each section once, with all its settings. -/
import Derived.Test.YtmoafagemdnifaaDoorF9
import Derived.Test.YtmoafagemdnifaaDoorA4
import Derived.Test.YtmoafagemdnifaaDoorF4a
import Derived.Deep.AppendLies
import Derived.Deep.RegionLaw
namespace Go.Proofs.YtmoafagemdnifaaDoor
open Go.RowKit Go.Shelf
attribute [local go_sem] Oper.semAt_some
/-- A section with its settings, as the row hands them over. -/
def GrpR (x : ByteArray × List St) (E : Nat → Prop) (W : World) (args : Array Value) : Prop := ∃ sv, args = #[.string x.1, sv] ∧ SlIs E W sv x.2
theorem GrpR.size (x : ByteArray × List St) (E : Nat → Prop) (W : World) (args : Array Value) (h : GrpR x E W args) : args.size = 2 := by obtain ⟨sv, rfl, _⟩ := h; rfl
theorem SlIs.anti {E E' : Nat → Prop} {W : World} {v : Value} {l : List St} (h : ∀ k, E k → E' k) (hs : SlIs E' W v l) : SlIs E W v l := by
  obtain ⟨a, c, hv, h1⟩ := hs
  refine ⟨a, c, hv, fun h0 => ?_⟩
  obtain ⟨g, o, e1, e2, e3⟩ := h1 h0
  exact ⟨g, o, e1, fun e => e2 (h g e), e3⟩
theorem GrpR.anti (x : ByteArray × List St) (E E' : Nat → Prop) (W : World) (args : Array Value) (h : ∀ k, E k → E' k) (hr : GrpR x E' W args) : GrpR x E W args := by
  obtain ⟨sv, e, hs⟩ := hr
  exact ⟨sv, e, hs.anti h⟩
/-- All settings by their sections. -/
def groups (l : List St) : Gs := l.foldl grp []
def nms (gs : Gs) : List Value := (gs.map Prod.fst).map Value.string
theorem own_slis {w : World} {base : Nat} {v : Value} {l : List St} (E : Nat → Prop) (hE : ∀ k, base ≤ k → k < w.heap.size → ¬ E k) (h : w.ownsRow base 44 4 v l.length (stsC l)) : SlIs E w v l := by
  rcases h.2 with ⟨hv, h0⟩ | ⟨g, cap, cur, hv, hb, hh, _⟩
  · exact ⟨none, 0, by rw [hv, h0], fun hp => by omega⟩
  · refine ⟨some ⟨g, 0, none⟩, cap, hv, fun _ => ⟨g, 0, rfl, hE g hb (lt_of_heap hh), fun j x hj => ?_⟩⟩
    have hjl : j < l.length := (List.getElem?_eq_some_iff.1 hj).1
    subst hv
    have hc : ∀ i, i < 4 → w.cell? ⟨g, j * 4 + i, none⟩ = (stC x)[i]? := fun i hi => (h.cellAt (j * 4 + i) (by omega)).trans (stsC_at l j x i hj hi)
    rw [Nat.zero_add]
    exact ⟨hc 0 (by omega), hc 1 (by omega), hc 2 (by omega), hc 3 (by omega)⟩
/-- The cells of owned texts. -/
theorem own_strs {w : World} {base : Nat} {v : Value} {l : List ByteArray} (h : w.ownsRow base 9 1 v l.length (l.map Value.string)) :
    ∃ (a : Option Addr) (g cap : Nat), v = .slice a l.length cap ∧ (0 < l.length → a = some ⟨g, 0, none⟩ ∧ base ≤ g) ∧ ∀ (j : Nat) s, l[j]? = some s → w.cell? ⟨g, j, none⟩ = some (.string s) := by
  rcases h.2 with ⟨hv, h0⟩ | ⟨g, cap, cur, hv, hb, _⟩
  · exact ⟨none, 0, 0, by rw [hv, h0], fun hp => by omega, fun j s hj => by have := (List.getElem?_eq_some_iff.1 hj).1; omega⟩
  · refine ⟨some ⟨g, 0, none⟩, g, cap, hv, fun _ => ⟨rfl, hb⟩, fun j s hj => ?_⟩
    have hjl : j < l.length := (List.getElem?_eq_some_iff.1 hj).1
    subst hv
    have := h.cellAt j (by omega)
    rw [this, List.getElem?_map, hj]; rfl
theorem nms_len (gs : Gs) : (gs.map Prod.fst).length = gs.length := by simp
/-- What one more setting leaves of the names, and of all else. -/
theorem part_end {V W2 w3 w4 : World} {vf : ByteArray → Value} {x : ByteArray} {ao : Option Addr} {nn cc g' cap'' m : Nat} {nv : Value} {xs : List Value} {o : Obj} (hv : vf x = .slice ao nn cc) (hV : V.heap.size < W2.heap.size) (hnv : W2.ownsRow (V.heap.size + 1) 9 1 nv m xs)
    (hsep : ∀ a q, (vf a).ownBlock = some q → nv.ownBlock ≠ some q) (hlo : ∀ a q, (vf a).ownBlock = some q → V.heap.size + 1 ≤ q) (hb : Below V.heap.size V W2) (hgrow : (W2.alloc o).drew.grownBy w3 (Value.slice ao nn cc).ownBlock)
    (hat : (Value.slice ao nn cc).ownBlock = some g' ∨ g' = (W2.alloc o).drew.heap.size) (hg4 : w3.grownBy w4 (some V.heap.size)) :
    w4.ownsRow (V.heap.size + 1) 9 1 nv m xs ∧ (∀ a q, (if a = x then Value.slice (some ⟨g', 0, none⟩) (nn + 1) cap'' else vf a).ownBlock = some q → nv.ownBlock ≠ some q) ∧ Below V.heap.size V w4 := by
  have m3 : Mv (fun k => (vf x).ownBlock = some k) W2 w3 := ((Mv.alloc _ _ _).trans' (Mv.drew _ _)).grown hgrow (fun k e => .inl (by rw [hv]; exact e))
  have m4 : Mv (fun k => k = V.heap.size) w3 w4 := (Mv.refl _ _).grown hg4 (fun k e => .inl (by cases e; rfl))
  refine ⟨own_mv (own_mv hnv m3 (fun g hg e => hsep x g e hg)) m4 (fun g hg e => by have := (hnv.lt g hg).1; omega), fun a q hq => ?_, ?_⟩
  · by_cases e : a = x
    · rw [if_pos e] at hq
      simp only [Value.ownBlock, Option.some.injEq] at hq
      subst hq
      rcases hat with h | h
      · exact hsep x _ (by rw [hv]; exact h)
      · intro e2
        have := (hnv.lt _ e2).2
        have h3 : (W2.alloc o).drew.heap.size = W2.heap.size + 1 := by show (W2.alloc o).heap.size = _; rw [World.size_alloc]
        omega
    · rw [if_neg e] at hq; exact hsep a q hq
  · exact (hb.trans (m3.toBelow (by omega) (fun k hk e => by have := hlo _ _ e; omega))).trans (m4.toBelow (by have := m3.size; omega) (fun k hk e => by omega))
theorem own_shape {w : World} {base : Nat} {e : TypeId} {size : Nat} {v : Value} {n : Nat} {xs : List Value} (h : w.ownsRow base e size v n xs) : ∃ ao n' cap, v = .slice ao n' cap := by
  rcases h.2 with ⟨hv, _⟩ | ⟨g, cap, cur, hv, _⟩
  · exact ⟨_, _, _, hv⟩
  · exact ⟨_, _, _, hv⟩
theorem own_len {w : World} {base : Nat} {e : TypeId} {size : Nat} {a : Option Addr} {k c n : Nat} {xs : List Value} (h : w.ownsRow base e size (.slice a k c) n xs) : k = n := by
  rcases h.2 with ⟨hv, h0⟩ | ⟨g, cap, cur, hv, _⟩
  · cases hv; omega
  · cases hv; rfl
set_option maxRecDepth 100000 in
set_option maxHeartbeats 8000000 in
theorem parts1_row (l : List St) (b : Nat) (v : Value) (E : Nat → Prop) (W : World) (cv : W.cell? ⟨b, 0, none⟩ = some v) (eb : ¬ E b) (hs : SlIs E W v l) (hl : l.length ≤ 1000000) (hz : ∀ x ∈ l, x.s.size ≤ 1000000000) :
    RowR Tryd.prog 42 #[.pointer (some ⟨b, 0, none⟩)] GrpR (groups l) E W := by
  intro u J Jx E1 V m g hJ hJx hY h0
  have d1 := m.cell eb cv
  obtain ⟨a, cap, rfl, hs1⟩ := hs.mv m g
  obtain ⟨n, hn⟩ : ∃ n, l.length = n := ⟨_, rfl⟩
  rw [hn] at d1 hs1 hl
  have hN : Hid (l.length = n) := hn
  have hlow := hJ.low _ _ _ h0
  obtain ⟨i0, hinf, hz0, hz1, hz2⟩ := info_parts infoSt
  obtain ⟨j0, jinf, jz0, jz1, jz2⟩ := info_parts infoS
  have hmm := @run_makeMap Tryd.prog
  have hzH : Hid (∀ x ∈ l, x.s.size ≤ 1000000000) := hz
  clear hn hs cv hz
  obtain ⟨W0, hW0⟩ : ∃ W0, V.alloc (.map #[] 0) = W0 := ⟨_, rfl⟩
  have m0 : ∀ F, Mv F V W0 := fun F => by rw [← hW0]; exact Mv.alloc _ _ _
  have hs0 : W0.heap.size = V.heap.size + 1 := by rw [← hW0]; simp
  have hPG0 : PG W0 V.heap.size 0 [] (fun _ => .slice none 0 0) := by rw [← hW0]; exact PG.new V
  have d2 := (m0 (fun _ => False)).cell (fun h => h) d1
  have hb0 : Below V.heap.size V W0 := (m0 (fun _ => False)).toBelow (Nat.le_refl _) (fun _ _ h => h)
  refine (callsIn_wide (n := 5)).1 ?_
  refine callsIn_of_wp Tryd.func42 rfl trivial ?_ rfl
  simp only [Tryd.ntmps42, List.size_toArray, List.length_cons, List.length_nil, Nat.reduceAdd, Nat.reduceSub, Array.replicate_succ, Array.replicate_zero, List.push_toArray, List.append_toArray, List.nil_append, List.cons_append]
  refine wpIn_wide.2 ?_
  go_wp2_with (rw [hW0])
  go_loopw [3, 12] (fun nv i wr => ∃ (k : Nat) (gs : Gs) (vf : ByteArray → Value), k ≤ n ∧ i = .int .i64 k ∧ gs.length ≤ k ∧ Hid (groups l = (l.drop k).foldl grp gs) ∧ Hid ((∀ a, (look gs a).length ≤ k) ∧ ∀ p ∈ gs, p.1.size ≤ 1000000000) ∧ Hid (wr.ownsRow (V.heap.size + 1) 9 1 nv gs.length (nms gs)) ∧ PG wr V.heap.size k gs vf ∧ Hid (∀ a q, (vf a).ownBlock = some q → nv.ownBlock ≠ some q) ∧ Below V.heap.size V wr) (fun _ i _ => n - (intOf i).toNat)
  case atStart => exact ⟨0, [], _, by omega, rfl, by simp, by show _ = _; rw [List.drop_zero]; rfl, ⟨fun _ => Nat.le_refl _, fun p hp => by simp at hp⟩, World.ownsRow_nil _ _ _ _, hPG0, fun _ _ h => (by simp [Value.ownBlock] at h), hb0⟩
  case round =>
    obtain ⟨k, gs, vf, hk, rfl, hgl, hacc, hlle, hnv, hPG, hsep, hb⟩ := hrel
    by_cases hlt : k < n
    · obtain ⟨gb, o, rfl, hgb, hst⟩ := hs1 (by omega)
      obtain ⟨x, hx0⟩ : ∃ x, l[k]? = some x := ⟨_, List.getElem?_eq_getElem (by rw [hN.out]; exact hlt)⟩
      have hdr : l.drop k = x :: l.drop (k + 1) := by
        obtain ⟨h1, h2⟩ := List.getElem?_eq_some_iff.1 hx0
        rw [List.drop_eq_getElem_cons h1, h2]
      have hx : x.s.size ≤ 1000000000 := hzH.out x (List.mem_of_getElem? hx0)
      have mr : Mv (fun _ => False) V wr := Mv.below hb
      obtain ⟨p0, p1, p2, p3⟩ := (hst k x hx0).mv mr (fun h => h)
      rw [hdr, List.foldl_cons] at hacc
      have hkI : (k : Int) < (n : Int) := by omega
      obtain ⟨U1, hU1⟩ : ∃ U1, wr.alloc (.cells #[.string x.s, .string x.k, .string x.v, .int .i64 x.n] 44) = U1 := ⟨_, rfl⟩
      have mU1 : ∀ F, Mv F wr U1 := fun F => by rw [← hU1]; exact Mv.alloc _ _ _
      have x0 : U1.cell? ⟨wr.heap.size, 0, none⟩ = some (.string x.s) := by rw [← hU1]; exact cell_at rfl rfl
      have x1 : U1.cell? ⟨wr.heap.size, 1, none⟩ = some (.string x.k) := by rw [← hU1]; exact cell_at rfl rfl
      have x2 : U1.cell? ⟨wr.heap.size, 2, none⟩ = some (.string x.v) := by rw [← hU1]; exact cell_at rfl rfl
      have x3 : U1.cell? ⟨wr.heap.size, 3, none⟩ = some (.int .i64 x.n) := by rw [← hU1]; exact cell_at rfl rfl
      have hPG1 := hPG.mv (mU1 (fun _ => False)) (fun h => h) (fun _ _ _ h => h)
      have hlk := hPG1.lookup hx (zeroSl _)
      obtain ⟨ao, nn, cc, hv⟩ := own_shape (hPG1.row x.s)
      have hnn : Hid ((look gs x.s).length = nn) := (own_len (hv ▸ hPG1.row x.s)).symm
      rw [hv] at hlk
      have nown : ∀ q, (Value.slice ao nn cc).ownBlock = some q → V.heap.size + 1 ≤ q ∧ q < wr.heap.size := fun q e => (hPG.row x.s).lt q (by rw [hv]; exact e)
      have hbr := hb.size
      have hPlt := hPG.lt
      have hgsl : nn ≤ 1000000 := by have := hlle.out.1 x.s; rw [hnn.out] at this; omega
      have hlle2 : Hid ((∀ a, (look (grp gs x) a).length ≤ k + 1) ∧ ∀ p ∈ grp gs x, p.1.size ≤ 1000000000) := ⟨fun a => by rw [look_grp]; have := hlle.out.1 a; split <;> simp <;> omega, fun p hp => by
        rcases (grp_mem hPG.nam).1 hp with ⟨h, _⟩ | ⟨_, h⟩
        · rw [h]; exact hx
        · exact hlle.out.2 p h⟩
      clear hst hx0 hdr hs1
      by_cases hlk0 : nn = 0
      · have hlkH : Hid (nn = 0) := hlk0
        have hnnI : ((nn : Int) == 0) = true := by simp; omega
        clear hlk0
        have hab : Hid ((grp gs x).map Prod.fst = gs.map Prod.fst ++ [x.s]) := by
          rcases grp_names gs x with ⟨h, _⟩ | ⟨_, h⟩
          · obtain ⟨⟨p, ls⟩, hp, rfl⟩ := List.mem_map.1 h
            have h1 := look_mem hPG.nam hp
            have h2 := hnn.out
            rw [h1, hlkH.out] at h2
            exact absurd (List.length_eq_zero_iff.1 h2) (hPG.ne _ _ hp)
          · exact h
        have hlen2 : Hid ((grp gs x).length = gs.length + 1) := by show _ = _; rw [← nms_len, hab.out]; simp
        have hnm2 : Hid (nms (grp gs x) = nms gs ++ [.string x.s]) := by show _ = _; unfold nms; rw [hab.out]; simp
        have hr1 := (own_mv hnv.out (mU1 (fun _ => False)) (fun _ _ h => h)).alloc (.cells #[.string x.s] 9)
        have hU1s : U1.heap.size = wr.heap.size + 1 := by rw [← hU1]; simp
        have hU1H : Hid (U1.heap.size = wr.heap.size + 1) := hU1s
        clear hU1s
        go_wp2_with (first | rw [hU1] | (at_builtin; refine wpList_append_own_at _ rfl _ _ 38 rfl (V.heap.size + 1) 9 j0 (.string ⟨#[]⟩) 1 16 Tryd.underlying38 jinf jz0 jz1 jz2 rfl (by decide) _ _ _ rfl hr1 ⟨U1.heap.size, 0, none⟩ 1 1 [.string x.s] rfl rfl (row_news1 U1 _ _) (fun x hx => by simp at hx; subst hx; rfl) (by unfold maxLen; omega) (by omega) (by simp; have := hU1H.out; omega) ?_))
        intro nv' w2 hown' hgrow _ hat
        have mW2 : Mv (fun q => u3.ownBlock = some q) U1 w2 := (Mv.alloc _ _ _).grown hgrow (fun k e => .inl e)
        have nvlo : ∀ q, u3.ownBlock = some q → V.heap.size + 1 ≤ q ∧ q < wr.heap.size := fun q e => hnv.out.lt q e
        have hPG2 := hPG1.mv mW2 (fun e => by have := (nvlo _ e).1; omega) (fun a k e1 e2 => hsep.out a k e1 e2)
        have hsep2 : ∀ a q, (vf a).ownBlock = some q → nv'.ownBlock ≠ some q := fun a q e e2 => by
          rcases hat with h | h
          · rw [h] at e2; exact hsep.out a q e e2
          · rw [h] at e2
            have h3 := ((hPG1.row a).lt q e).2
            simp at e2; omega
        have nx : ¬ u3.ownBlock = some wr.heap.size := fun e => by have := (nvlo _ e).2; omega
        have y0 := mW2.cell nx x0
        have y1 := mW2.cell nx x1
        have y2 := mW2.cell nx x2
        have y3 := mW2.cell nx x3
        have hbW2 : Below V.heap.size V w2 := (hb.trans ((mU1 (fun _ => False)).toBelow (by omega) (fun _ _ h => h))).trans (mW2.toBelow (by have := hU1H.out; omega) (fun k hk e => by have := (nvlo k e).1; omega))
        obtain ⟨na, nc, rfl⟩ := ownsRow_succ hown'
        have hlkA : (Instr.lookup 98 (.map (some V.heap.size)) (.string x.s) false).run Tryd.prog w2.drew = .ok (.slice ao nn cc) w2.drew := by
          rw [← hv]; exact (hPG2.mv (Mv.drew (fun _ => False) _) (fun h => h) (fun _ _ _ h => h)).lookup hx (zeroSl _)
        have hlkB : (Instr.lookup 98 (.map (some V.heap.size)) (.string x.s) false).run Tryd.prog (w2.alloc (.cells #[.string x.s, .string x.k, .string x.v, .int .i64 x.n] 44)).drew = .ok (.slice ao nn cc) (w2.alloc (.cells #[.string x.s, .string x.k, .string x.v, .int .i64 x.n] 44)).drew := by
          rw [← hv]; exact (hPG2.mv ((Mv.alloc (fun _ => False) _ _).trans' (Mv.drew _ _)) (fun h => h) (fun _ _ _ h => h)).lookup hx (zeroSl _)
        have hrw : w2.ownsRow (V.heap.size + 1) 44 4 (.slice ao nn cc) nn (stsC (look gs x.s)) := by rw [← hv, ← hnn.out]; exact hPG2.row x.s
        have hbw : V.heap.size + 1 ≤ (w2.alloc (.cells #[.string x.s, .string x.k, .string x.v, .int .i64 x.n] 44)).drew.heap.size := by show _ ≤ (w2.alloc _).heap.size; rw [World.size_alloc]; have := hPG2.lt; omega
        have hyB := (Mv.alloc (fun _ => False) w2 (.cells #[.string x.s, .string x.k, .string x.v, .int .i64 x.n] 44)).trans' (Mv.drew _ _)
        have hB0 := hyB.cell (fun h => h) y0
        have hB1 := hyB.cell (fun h => h) y1
        have hB2 := hyB.cell (fun h => h) y2
        have hB3 := hyB.cell (fun h => h) y3
        clear hyB
        go_wp2_with fail
        go_region_law (refine step_append_lies _ (by rfl) _ _ _ (by rfl) (V.heap.size + 1) 44 i0 _ 4 56 Tryd.underlying23 hinf hz0 hz1 hz2 rfl (by omega) _ _ _ (by rfl) ((hrw.alloc _).drew) ⟨_, 0, none⟩ 1 1 [_, _, _, _] (by rfl) (by rfl) (World.news_of_block (cs := #[_, _, _, _]) (t := 44) (fr := (0, 0)) (heap_alloc_new _ _)) (by simp [Value.oneCell']) (by omega) (by unfold maxLen; omega) (by omega) hbw _ rfl ?_; intro g' cap'' w3 hown3 hgrow3 hat3 hlt3; obtain ⟨w4, hupd, hPG4, hg4⟩ := hPG2.step hx (by omega) ((Mv.alloc (fun _ => False) _ _).trans' (Mv.drew _ _)) (by rw [hv]; exact hgrow3) (by rw [hnn.out]; exact hown3) (by rw [hv]; exact hat3.imp (fun e => e.symm) (fun e => by rw [e]; rfl)); have hc3 := (((Mv.alloc _ _ _).trans' (Mv.drew _ _)).grown hgrow3 (fun k e => .inl e)).cell (E := fun q => (Value.slice ao nn cc).ownBlock = some q) (show ¬ (Value.slice ao nn cc).ownBlock = some wr.heap.size from fun e => by have := (nown _ e).2; omega) y0)
        all_goals
          obtain ⟨e1, e2, e3⟩ := part_end (cap'' := cap'') hv (by have := hPG2.lt; omega) hown' hsep2 (fun a q e => ((hPG2.row a).lt q e).1) hbW2 hgrow3 hat3 hg4
          go_wp2_with fail
          exact ⟨⟨k + 1, grp gs x, _, by omega, by go_num, by rw [← nms_len, hab.out]; simp; omega, hacc, hlle2, by show World.ownsRow _ _ _ _ _ _ _; rw [hnm2.out, hlen2.out]; exact e1, hPG4, e2, e3⟩, by simp [intOf]; omega⟩
      · have hnnI : ((nn : Int) == 0) = false := by simp; omega
        have hpr : Hid ((grp gs x).map Prod.fst = gs.map Prod.fst) := by
          rcases grp_names gs x with ⟨_, h⟩ | ⟨h, _⟩
          · exact h
          · exact absurd (by rw [← hnn.out, look_none h]; rfl) hlk0
        have hPG2 := hPG1
        have y0 := x0
        have y1 := x1
        have y2 := x2
        have y3 := x3
        have hlkA : (Instr.lookup 98 (.map (some V.heap.size)) (.string x.s) false).run Tryd.prog U1.drew = .ok (.slice ao nn cc) U1.drew := by
          rw [← hv]; exact (hPG2.mv (Mv.drew (fun _ => False) _) (fun h => h) (fun _ _ _ h => h)).lookup hx (zeroSl _)
        have hlkB : (Instr.lookup 98 (.map (some V.heap.size)) (.string x.s) false).run Tryd.prog (U1.alloc (.cells #[.string x.s, .string x.k, .string x.v, .int .i64 x.n] 44)).drew = .ok (.slice ao nn cc) (U1.alloc (.cells #[.string x.s, .string x.k, .string x.v, .int .i64 x.n] 44)).drew := by
          rw [← hv]; exact (hPG2.mv ((Mv.alloc (fun _ => False) _ _).trans' (Mv.drew _ _)) (fun h => h) (fun _ _ _ h => h)).lookup hx (zeroSl _)
        have hrw : U1.ownsRow (V.heap.size + 1) 44 4 (.slice ao nn cc) nn (stsC (look gs x.s)) := by rw [← hv, ← hnn.out]; exact hPG2.row x.s
        have hbw : V.heap.size + 1 ≤ (U1.alloc (.cells #[.string x.s, .string x.k, .string x.v, .int .i64 x.n] 44)).drew.heap.size := by show _ ≤ (U1.alloc _).heap.size; rw [World.size_alloc]; have := hPG2.lt; omega
        have hyB := (Mv.alloc (fun _ => False) U1 (.cells #[.string x.s, .string x.k, .string x.v, .int .i64 x.n] 44)).trans' (Mv.drew _ _)
        have hB0 := hyB.cell (fun h => h) y0
        have hB1 := hyB.cell (fun h => h) y1
        have hB2 := hyB.cell (fun h => h) y2
        have hB3 := hyB.cell (fun h => h) y3
        clear hyB
        go_wp2_with (rw [hU1])
        go_region_law (refine step_append_lies _ (by rfl) _ _ _ (by rfl) (V.heap.size + 1) 44 i0 _ 4 56 Tryd.underlying23 hinf hz0 hz1 hz2 rfl (by omega) _ _ _ (by rfl) ((hrw.alloc _).drew) ⟨_, 0, none⟩ 1 1 [_, _, _, _] (by rfl) (by rfl) (World.news_of_block (cs := #[_, _, _, _]) (t := 44) (fr := (0, 0)) (heap_alloc_new _ _)) (by simp [Value.oneCell']) (by omega) (by unfold maxLen; omega) (by omega) hbw _ rfl ?_; intro g' cap'' w3 hown3 hgrow3 hat3 hlt3; obtain ⟨w4, hupd, hPG4, hg4⟩ := hPG2.step hx (by omega) ((Mv.alloc (fun _ => False) _ _).trans' (Mv.drew _ _)) (by rw [hv]; exact hgrow3) (by rw [hnn.out]; exact hown3) (by rw [hv]; exact hat3.imp (fun e => e.symm) (fun e => by rw [e]; rfl)); have hc3 := (((Mv.alloc _ _ _).trans' (Mv.drew _ _)).grown hgrow3 (fun k e => .inl e)).cell (E := fun q => (Value.slice ao nn cc).ownBlock = some q) (show ¬ (Value.slice ao nn cc).ownBlock = some wr.heap.size from fun e => by have := (nown _ e).2; omega) y0)
        all_goals
          obtain ⟨e1, e2, e3⟩ := part_end (cap'' := cap'') hv (by have := hPG2.lt; omega) (own_mv hnv.out (mU1 (fun _ => False)) (fun _ _ h => h)) hsep.out (fun a q e => ((hPG2.row a).lt q e).1) (hb.trans ((mU1 (fun _ => False)).toBelow (by omega) (fun _ _ h => h))) hgrow3 hat3 hg4
          go_wp2_with fail
          exact ⟨⟨k + 1, grp gs x, _, by omega, by go_num, by rw [← nms_len, hpr.out]; rw [nms_len]; omega, hacc, hlle2, by show World.ownsRow _ _ _ _ _ _ _; unfold nms; rw [hpr.out, ← nms_len, hpr.out]; rw [nms_len]; exact e1, hPG4, e2, e3⟩, by simp [intOf]; omega⟩
    · obtain rfl : k = n := by omega
      have hgs : Hid (groups l = gs) := by
        have := hacc.out
        rw [List.drop_of_length_le (by rw [hN.out]; omega)] at this
        exact this
      rw [hgs.out] at h0
      have mr : ∀ F : Nat → Prop, Mv F V wr := fun F => Mv.below hb
      have hj0 : J gs E1 wr := hJ.keep _ _ _ _ h0 (mr _)
      have nE : ∀ q, V.heap.size ≤ q → ¬ E1 q := fun q hq h => by have := hlow q h; omega
      have hkI : ¬ ((k : Int) < (k : Int)) := by omega
      obtain ⟨na, ng, nc, rfl, hna, hnc⟩ := own_strs (by rw [nms_len]; exact hnv.out : wr.ownsRow (V.heap.size + 1) 9 1 _ (gs.map Prod.fst).length _)
      rw [nms_len] at hna ⊢
      obtain ⟨gn, hgn⟩ : ∃ gn, gs.length = gn := ⟨_, rfl⟩
      rw [hgn] at hna hgl ⊢
      have hG : Hid (gs.length = gn) := hgn
      have hsl : Hid (∀ p ∈ gs, SlIs E1 wr (vf p.1) p.2) := fun p hp => by
        have h1 := look_mem hPG.nam hp
        have h2 := hPG.row p.1
        rw [h1] at h2
        exact own_slis E1 (fun q hq _ => nE q (by omega)) h2
      have hncH : Hid (∀ (j : Nat) s, (gs.map Prod.fst)[j]? = some s → wr.cell? ⟨ng, j, none⟩ = some (.string s)) := hnc
      have hszH : Hid (∀ p ∈ gs, p.1.size ≤ 1000000000) := hlle.out.2
      clear hgn hnv hnc h0
      go_wp2_with fail
      refine (wpIn_wide (n := 5)).1 ?_
      gi_loopw [40] (fun i W2 => ∃ (q : Nat) (E2 : Nat → Prop), q ≤ gn ∧ i = .int .i64 q ∧ J (gs.drop q) E2 W2 ∧ Mv E1 wr W2 ∧ Gr E1 wr E2) (fun i _ => gn - (intOf i).toNat)
      case atStart => exact ⟨0, E1, by omega, rfl, by rw [List.drop_zero]; exact hj0, Mv.refl _ _, Gr.refl _ _⟩
      case round =>
        obtain ⟨q, E2, hq, rfl, hj, hm, hg2⟩ := hrel
        by_cases hlt2 : q < gn
        · obtain ⟨p, hp⟩ : ∃ p, gs[q]? = some p := ⟨_, List.getElem?_eq_getElem (by rw [hG.out]; exact hlt2)⟩
          have hdr : gs.drop q = p :: gs.drop (q + 1) := by
            obtain ⟨h1, h2⟩ := List.getElem?_eq_some_iff.1 hp
            rw [List.drop_eq_getElem_cons h1, h2]
          rw [hdr] at hj
          obtain ⟨rfl, hngb⟩ := hna (by omega)
          have hpm := List.mem_of_getElem? hp
          have cN := hm.cell (nE ng (by omega)) (hncH.out q p.1 (by rw [List.getElem?_map, hp]; rfl))
          rename_i W2 _
          have hPG2 := hPG.mv hm (nE _ (Nat.le_refl _)) (fun a k e => nE k (by have := ((hPG.row a).lt k e).1; omega))
          have hlk := hPG2.lookup (hszH.out p hpm) (zeroSl _)
          have hsl2 := (hsl.out p hpm).mv hm hg2
          have hsl3 := hsl2
          obtain ⟨sa, sc, hsv, _⟩ := hsl3
          rw [hsv] at hlk hsl2
          obtain ⟨fn, tmps, assign, body, hy, hR⟩ := hY p _ E2 _ _ hj ⟨_, rfl, hsl2⟩
          have hqI : (q : Int) < (gn : Int) := by omega
          clear hsl2 hPG2 hdr hp hsv
          gi_wp2
          refine (wide_round' hR).mono ?_
          rintro e W3 ⟨m3, (⟨rfl, E3, g3, hj3⟩ | ⟨rfl, E3, g3, hj3⟩)⟩
          · gi_wp2
            exact ⟨⟨q + 1, E3, by omega, by go_num, hj3, hm.trans hg2 m3, hg2.trans hm.size g3⟩, by simp [intOf]; omega⟩
          · gi_wp2
            refine bodyPost_ret (results_none rfl _ _ _) rfl ?_
            exact ⟨⟨_, rfl⟩, (mr _).trans' (hm.trans hg2 m3), .inr ⟨E3, (hg2.trans hm.size g3).mono hb.size, hj3⟩⟩
        · obtain rfl : q = gn := by omega
          rw [List.drop_of_length_le (by rw [hG.out]; omega)] at hj
          have hqI : ¬ ((q : Int) < (q : Int)) := by omega
          gi_wp2
          go_end0
          exact ⟨⟨_, rfl⟩, (mr _).trans' hm, .inl ⟨E2, hg2.mono hb.size, hj⟩⟩
end Go.Proofs.YtmoafagemdnifaaDoor
