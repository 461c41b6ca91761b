import Derived.Test.YtcfclknfnadgcaaDoorBah
import Derived.Test.YtcfclknfnadgcaaDoorBag
import Derived.Test.YtcfclknfnadgcaaDoorShelfT
import Derived.Sort.KeysCollected
/- The contract of the laws' known. -/
namespace Go.Proofs.YtcfclknfnadgcaaDoor
open Go.RowKit Go.Shelf Go.Lib
def aSv : ByteArray := ⟨#[97, 46, 115, 101, 114, 118, 105, 99, 101]⟩
def bSv : ByteArray := ⟨#[98, 46, 115, 101, 114, 118, 105, 99, 101]⟩
theorem known_any (w : World) (hg : GlN w) : Calls Tryd.prog 6 #[] w fun e w' => e = .returned (.bool true) ∧ Below w.heap.size w w' := by
  have hnew := new_any w
  have hgl := hidP hg
  clear hg
  go_enter Tryd.func6, Tryd.ntmps6
  go_wp2_with fail
  refine hnew.mono ?_
  rintro e w1 ⟨S, rfl, hG, hge, hS0, hb1⟩
  have heq : ∀ w, (binOp .eql 25 (.pointer (some ⟨S.gb, 0, none⟩)) (.pointer none)).run Tryd.prog w = .ok (.bool false) w := fun w => by first | kernel_rfl | rfl
  obtain ⟨B, hB⟩ : ∃ B, w1.heap.size = B := ⟨_, rfl⟩
  obtain ⟨W2, hW2⟩ : ∃ W2, w1.alloc (.cells #[.string ⟨#[98, 46, 115, 101, 114, 118, 105, 99, 101]⟩] 9) = W2 := ⟨_, rfl⟩
  have b2 : Below w1.heap.size w1 W2 := by rw [← hW2]; exact (Below.refl _ _).alloc (Nat.le_refl _) _
  have cb : W2.cell? ⟨B, 0, none⟩ = some (.string bSv) := by rw [← hW2]; exact cell_at hB rfl
  have hG2 := hG.below b2
  have glt := hgl.out.lt
  have hu := lit_uv W2 aSv 1 [] [bSv] nilV (.slice (some ⟨B, 0, none⟩) 1 1) true ⟨#[]⟩ (.inl ⟨rfl, none, 0, rfl⟩) (NR.one1 cb)
  have hadd := add_new S [] _ _ W2 hG2 hu (show isN aSv = true by decide +kernel) rfl (by decide) (by rw [rel_core]; decide +kernel) (by rw [tol_core, hS0]; decide +kernel) ((hgl.out.below hb1).below b2) (fun q => by have := hge _ q; omega) (fun q => by have := hge _ q; omega) (fun b hb q => by
    have := hG.lt q
    rcases lit_ubk hb with r | r
    · cases r
    · simp [rbk] at r; omega)
  have bH := hidP (hb1.trans (b2.mono (by have := hb1.size; exact this)))
  have hgeH := hidP hge
  clear hnew hG hge hS0 hb1 b2 cb hG2 hu
  go_wp2_with (rw [hW2])
  refine hadd.mono ?_
  rintro e w3 ⟨rfl, S', cs, hG3, hgo, _⟩
  have hh1 := has_any S' _ w3 hG3 6 bSv aSv (by unfold okE; decide)
  have hh2 := has_any S' _ w3 hG3 6 aSv bSv (by unfold okE; decide)
  have hrm := remove_none S' _ bSv w3 hG3 (by decide) (by rw [lku_cons]; exact (if_neg (show ¬ aSv = bSv by decide)).trans rfl)
  have k1 : decide (0 < kL [(cs, unU aSv 1 [] [bSv] nilV (.slice (some ⟨B, 0, none⟩) 1 1) true ⟨#[]⟩)] (6, bSv, aSv)) = true := by rw [kL_one, tol_core]; decide +kernel
  have k2 : decide (0 < kL [(cs, unU aSv 1 [] [bSv] nilV (.slice (some ⟨B, 0, none⟩) 1 1) true ⟨#[]⟩)] (6, aSv, bSv)) = false := by rw [kL_one, tol_core]; decide +kernel
  rw [k1] at hh1
  rw [k2] at hh2
  rw [hgo.gb] at hh1 hh2 hrm
  have fH : Hid (Below w.heap.size w w3) := bH.out.trans (hgo.mv.toBelow (by have := bH.out.size; exact this) (fun k hk q => by have := hgeH.out k q; omega))
  clear hG3 hgo k1 k2 hadd
  go_wp2_with fail
  refine hh1.mono ?_
  rintro e w4 ⟨rfl, hw4⟩
  replace hw4 := hw4.symm
  subst hw4
  go_wp2_with fail
  refine hh2.mono ?_
  rintro e w4 ⟨rfl, hw4⟩
  replace hw4 := hw4.symm
  subst hw4
  go_wp2_with fail
  refine hrm.mono ?_
  rintro e w4 ⟨rfl, hb4⟩
  have fin : Hid (Below w.heap.size w w4) := fH.out.trans (hb4.mono fH.out.size)
  clear hb4 hh1 hh2 hrm
  go_wp2_with fail
  go_ret
  exact ⟨rfl, fin.out⟩
end Go.Proofs.YtcfclknfnadgcaaDoor
/- The contract of (*Graph).Unit. -/
namespace Go.Proofs.YtcfclknfnadgcaaDoor
open Go.RowKit Go.Shelf Go.Lib
set_option maxRecDepth 100000 in
set_option maxHeartbeats 4000000 in
theorem unit_any (S : GS) (L : UL) (x : ByteArray) (w : World) (h : Gs w S L) (hx : x.size ≤ 1000) (v0 : Array Value) (u0 : Un) (th : Bool) (hv : (th = false ∧ lku L x = none ∧ v0 = zuA ∧ u0 = zuU) ∨ (th = true ∧ lku L x = some (v0, u0))) :
    Calls Tryd.prog 13 #[.pointer (some ⟨S.gb, 0, none⟩), .string x] w fun e w' => ∃ cs, e = .returned (.tuple #[.agg cs, .bool th]) ∧ UV w' cs u0 ∧ (∀ b, ubk cs b → w.heap.size ≤ b) ∧ Below w.heap.size w w' := by
  have c0 := h.c0
  have hlk : ∀ y, Below w.heap.size w y → (Instr.lookup 49 (.map (some S.ub)) (.string x) true).run Tryd.prog y = .ok (.tuple #[.agg v0, .bool th]) y := fun y hy => by
    have q := (h.below hy).un.look lawS (t := 49) Tryd.underlying49 (zeroUn y) (a := x) (keyS hx)
    rcases hv with ⟨rfl, h1, rfl, _⟩ | ⟨rfl, h1⟩
    · rw [h1] at q; exact q
    · rw [h1] at q; exact q
  have hu0 : UV w v0 u0 := by
    rcases hv with ⟨_, _, rfl, rfl⟩ | ⟨_, h1⟩
    · exact zu_uv w
    · exact (h.uv _ (lku_mem h1).1).1
  obtain ⟨gb, hgb⟩ : ∃ gb, S.gb = gb := ⟨_, rfl⟩
  obtain ⟨ub, hub⟩ : ∃ ub, S.ub = ub := ⟨_, rfl⟩
  obtain ⟨n, hn⟩ : ∃ n, w.heap.size = n := ⟨_, rfl⟩
  obtain ⟨W1, hW1⟩ : ∃ W1, w.alloc (.cells zuA 29) = W1 := ⟨_, rfl⟩
  have b1 : Below w.heap.size w W1 := by rw [← hW1]; exact (Below.refl _ _).alloc (Nat.le_refl _) _
  have s1 : W1.heap.size = n + 1 := by rw [← hW1]; simp [hn]
  have U1 : Ub n zuA W1 := by rw [← hW1, ← hn]; exact Ub.mk' _ _ _
  have F1 : ∀ p, W1.frozen? ⟨n, p, none⟩ = false := fun p => by rw [← hW1, ← hn]; exact World.frozen?_alloc_new w _ _ p
  obtain ⟨W2, hW2⟩ : ∃ W2, W1.alloc (.cells zuA 29) = W2 := ⟨_, rfl⟩
  obtain ⟨X, hst, UX, bX⟩ := fresh_store (W := W1) hu0.sz hu0.on zuA 29 rfl
  rw [hW2, s1] at hst
  rw [s1] at UX
  have bwX : Below w.heap.size w X := b1.trans (bX.mono (by omega))
  have hld := UX.load hu0.sz
  have hcp := copied_any v0 u0 X (hu0.below bwX)
  have hl1 := hlk W1 b1
  have c1 : W1.cell? ⟨gb, 0, none⟩ = some (.map (some ub)) := by rw [← hgb, ← hub]; exact (h.below b1).c0
  rw [hub] at hl1
  have hsz := hu0.sz
  have sX : n + 2 ≤ X.heap.size := by have := cell_lt (UX 0 _ hu0.c0); change n + 1 < _ at this; omega
  have bwH := hidP bwX
  have bXH := hidP bX
  have U1H := hidP U1
  have F1H := hidP F1
  have lgb : gb < n := by rw [← hgb, ← hn]; exact h.lt (.inl rfl)
  rw [hgb]
  clear h hv c0 hlk hu0 b1 U1 F1 UX bX bwX
  unfold zuA at hW1 hW2
  go_enter Tryd.func13, Tryd.ntmps13
  go_wp2_with (first | rw [hW1] | rw [hW2] | refine wpList_loadU rfl _ rfl _ rfl _ hld ?_ | refine wpList_storeU rfl _ _ rfl _ rfl _ rfl hsz hst ?_)
  refine hcp.mono ?_
  rintro e w2 ⟨cs, rfl, hcs, hfr, hb2⟩
  have b12 : Below W1.heap.size W1 w2 := bXH.out.trans (hb2.mono bXH.out.size)
  have bw2 : Below w.heap.size w w2 := bwH.out.trans (hb2.mono (by have := bwH.out.size; omega))
  obtain ⟨w3, hst3, U3, m3⟩ := Ub.store (P := Tryd.prog) (n := n) (w := w2) hcs.sz hcs.on (fun p hp => by
    have hz : zuA.size = 33 := rfl
    rw [(Mv.below (E := fun _ => False) b12).cell (a := ⟨n, p, none⟩) (fun q => q) (U1H.out p (zuA[p]'(by omega)) (Array.getElem?_eq_getElem (by omega)))]; rfl) (fun p => ((Mv.below (E := fun _ => False) b12).froz (a := ⟨n, p, none⟩) (fun q => q) (by show n < _; omega)).trans (F1H.out p))
  have hlv := loadVarU (U3.load hcs.sz)
  have ha : (asAddr (.pointer (some ⟨n, 0, none⟩))).run Tryd.prog w3 = .ok ⟨n, 0, none⟩ w3 := rfl
  have hcsz := hcs.sz
  have fin : Hid (UV w3 cs u0 ∧ (∀ b, ubk cs b → w.heap.size ≤ b) ∧ Below w.heap.size w w3) := by
    have := bwH.out.size
    exact ⟨hcs.mv m3 (fun b hb e => by have := hfr b hb; omega), fun b hb => by have := hfr b hb; omega, bw2.trans (m3.toBelow (n := w.heap.size) bw2.size (fun k hk e => by omega))⟩
  clear hcp hcs hfr hb2 b12 bw2 U3 m3 hst hld hl1 c1
  go_wp2_with (refine wpList_storeU rfl _ _ rfl _ rfl _ rfl hcsz hst3 ?_)
  refine bodyPost_ret (v := .tuple #[.agg cs, .bool th]) (by simp [results, Tryd.results13, ha, hlv, Result.andThen]) rfl ?_
  exact ⟨cs, rfl, fin.out⟩
end Go.Proofs.YtcfclknfnadgcaaDoor
/- A graph's units, gone through and counted. -/
namespace Go.Proofs.YtcfclknfnadgcaaDoor
open Go.RowKit Go.Shelf Go.Lib Go.Sort Go.Maps
attribute [local go_sem] Oper.semAt_some
abbrev byt (s : ByteArray) : List UInt8 := s.data.toList
theorem byt_inj {a b : ByteArray} (h : byt a = byt b) : a = b := ByteArray.ext (Array.toList_inj.1 h)
theorem keys_units {w : World} {b m : Nat} {D : DataW Value} {L : UL} (h : w.ownsMap Tryd.prog 9 heldElem b m D) (v : Vw eS D (fun x => (lku L x).map fun p => .agg p.1)) (hn : L.Pairwise fun p q => p.2.nm ≠ q.2.nm) : (L.map fun p => byt p.2.nm).Perm (strKeys D) := by
  obtain ⟨es, hD, hpw, _⟩ := h.entries lawS
  obtain ⟨es', hD', hko⟩ := h.keysOf
  obtain rfl : es = es' := by rw [hD] at hD'; simpa using hD'
  subst hD
  refine perm_strKeys hpw (fun p hp => by obtain ⟨v, hv⟩ := hko p hp; obtain ⟨x, _, hx, _⟩ := Maps.keyOf_str Tryd.underlying9 hv; exact ⟨x, hx⟩) ?_ (fun x => ?_)
  · exact List.pairwise_map.2 (hn.imp (fun {a b} q e => q (byt_inj e)))
  · have := v.has ⟨x.toArray⟩
    unfold eS at this
    rw [show (⟨x.toArray⟩ : ByteArray).data.toList = x from rfl] at this
    rw [this]
    constructor
    · intro q
      obtain ⟨p, hp, rfl⟩ := List.mem_map.1 q
      cases e : lku L p.2.nm with
      | some r => rfl
      | none =>
        have := List.find?_eq_none.1 e p hp
        simp at this
    · intro q
      cases e : lku L ⟨x.toArray⟩ with
      | none => rw [e] at q; cases q
      | some r =>
        obtain ⟨h1, h2⟩ := lku_mem e
        exact List.mem_map.2 ⟨r, h1, by rw [h2]⟩
theorem str_row {W : World} {base n : Nat} {v : Value} {xs : List (List UInt8)} (hn : xs.length = n) (h : W.ownsRow base 9 1 v n (xs.map encStr)) : ∃ a gk cap, v = .slice a n cap ∧ (0 < n → a = some ⟨gk, 0, none⟩ ∧ base ≤ gk ∧ gk < W.heap.size ∧ n ≤ cap) ∧ ∀ (k : Nat) (x : List UInt8), xs[k]? = some x → W.cell? ⟨gk, k, none⟩ = some (.string ⟨x.toArray⟩) := by
  rcases h.2 with ⟨rfl, h0⟩ | ⟨g, cap, cur, rfl, hb, hg, hcap, _⟩
  · refine ⟨none, 0, 0, by rw [h0], fun q => by omega, fun k x hx => ?_⟩
    have := (List.getElem?_eq_some_iff.1 hx).1
    omega
  · refine ⟨_, g, _, rfl, fun _ => ⟨rfl, hb, (Array.getElem?_eq_some_iff.1 hg).1, hcap⟩, fun k x hx => ?_⟩
    have := h.cells (g := g) rfl k (encStr x) (by rw [List.getElem?_map, hx]; rfl)
    rw [Addr.add_lit, Nat.zero_add] at this
    exact this
set_option maxRecDepth 100000 in
set_option maxHeartbeats 1000000 in
theorem units_any (b : Nat) (w : World) : Calls Tryd.prog 14 #[.pointer (some ⟨b, 0, none⟩)] w fun e w' => e = .returned (.func (.func 26) #[] #[.pointer (some ⟨w.heap.size, 0, none⟩)]) ∧ w' = w.alloc (.cells #[.pointer (some ⟨b, 0, none⟩)] 25) := by
  go_enter Tryd.func14, Tryd.ntmps14
  go_wp2_with fail
  go_ret
  exact ⟨rfl, rfl⟩
set_option maxRecDepth 100000 in
set_option maxHeartbeats 1000000 in
theorem cnt_any (vs : Array Value) (A k : Nat) (w : World) (hk : k ≤ 90) (cA : w.cell? ⟨A, 0, none⟩ = some (.int .i64 (k : Nat))) (fA : w.frozen? ⟨A, 0, none⟩ = false) :
    Calls Tryd.prog 15 #[.agg vs, .pointer (some ⟨A, 0, none⟩)] w fun e w' => e = .returned (.bool true) ∧ Mv (fun j => j = A) w w' ∧ w'.cell? ⟨A, 0, none⟩ = some (.int .i64 ((k + 1 : Nat) : Int)) ∧ w'.frozen? ⟨A, 0, none⟩ = false := by
  obtain ⟨W, hW⟩ : ∃ W, w.alloc (.cells vs 29) = W := ⟨_, rfl⟩
  have bW : Below w.heap.size w W := by rw [← hW]; exact (Below.refl _ _).alloc (Nat.le_refl _) _
  have cW := (Mv.below (E := fun _ => False) bW).cell (fun q => q) cA
  have fW := ((Mv.below (E := fun _ => False) bW).froz (a := ⟨A, 0, none⟩) (fun q => q) (cell_lt cA)).trans fA
  have fin : Hid (Mv (fun j => j = A) w (W.setCell ⟨A, 0, none⟩ (.int .i64 ((k : Int) + 1))) ∧ (W.setCell ⟨A, 0, none⟩ (.int .i64 ((k : Int) + 1))).cell? ⟨A, 0, none⟩ = some (.int .i64 ((k : Int) + 1)) ∧ (W.setCell ⟨A, 0, none⟩ (.int .i64 ((k : Int) + 1))).frozen? ⟨A, 0, none⟩ = false) :=
    ⟨(Mv.below (E := fun j => j = A) bW).setc (p := ⟨A, 0, none⟩) (.inl rfl) _, World.cell?_setCell_same' _ _ _ (by rw [cW]; rfl), by rw [World.frozen?_setCell]; exact fW⟩
  obtain ⟨V, hV⟩ : ∃ V, W.setCell ⟨A, 0, none⟩ (.int .i64 ((k : Int) + 1)) = V := ⟨_, rfl⟩
  rw [hV] at fin
  have c3 := fin.out.2.1
  have hlt : ((k : Int) + 1 < 100) := by omega
  clear bW cA fA
  go_enter Tryd.func15, Tryd.ntmps15
  go_wp2_with (first | rw [hW] | rw [hV])
  go_ret
  refine ⟨rfl, fin.out.1, ?_, fin.out.2.2⟩
  push_cast
  exact c3
set_option maxRecDepth 100000 in
set_option maxHeartbeats 8000000 in
theorem counted_any {W : World} {S : GS} {L : UL} {A pt : Nat} (h : Gs W S L) (hl : L.length ≤ 40) (cT : W.cell? ⟨pt, 0, none⟩ = some (.pointer (some ⟨S.gb, 0, none⟩))) (cA : W.cell? ⟨A, 0, none⟩ = some (.int .i64 0)) (fA : W.frozen? ⟨A, 0, none⟩ = false) (nA : ¬ hasG S A) (nP : pt ≠ A) (nU : ∀ p ∈ L, ∀ b, ubk p.1 b → b ≠ A) :
    Calls Tryd.prog 26 #[.func (.func 15) #[] #[.pointer (some ⟨A, 0, none⟩)], .pointer (some ⟨pt, 0, none⟩)] W fun e V => e = .returned (.tuple #[]) ∧ Mv (fun j => j = A) W V ∧ V.cell? ⟨A, 0, none⟩ = some (.int .i64 (L.length : Nat)) := by
  obtain ⟨n, hn⟩ : ∃ n, L.length = n := ⟨_, rfl⟩
  obtain ⟨D, d1, d2, d3⟩ := h.un
  have hp := keys_units d1 d3 h.nd
  have hso := Tryd.slices_SortedS S.ub _ D heldElem W d1 (by rw [d2]; unfold maxLen; omega) (by rw [d2]; omega)
  obtain ⟨gb, hgb⟩ : ∃ gb, S.gb = gb := ⟨_, rfl⟩
  obtain ⟨ub, hub⟩ : ∃ ub, S.ub = ub := ⟨_, rfl⟩
  have c0 := h.c0
  have keep : ∀ V, Mv (fun j => j = A) W V → Gs V S L := fun V m => h.mv m (fun k hk e => nA (e ▸ hk)) nU
  have hpl : (L.map fun p => byt p.2.nm).length = n := by rw [List.length_map]; exact hn
  have kH := hidP keep
  have hpH := hidP hp
  have hsoH := hidP hso
  have hnH := hidP hn
  have hsz : Hid (∀ p ∈ L, p.2.nm.size ≤ 60) := fun p hp => isN_le (h.uv p hp).2.1
  have lA : Hid (A < W.heap.size ∧ pt < W.heap.size) := ⟨cell_lt cA, cell_lt cT⟩
  have cTH := hidP cT
  have cAH := hidP (And.intro cA fA)
  rw [hub] at c0 hso
  rw [hgb] at c0 cT
  have hsoH2 := hidP hso
  rw [hn]
  clear d1 d2 d3 hp hso keep h hsoH cA fA nU
  go_enter Tryd.func26, Tryd.ntmps26
  go_wp2_with fail
  refine (Tryd.maps_KeysS _ _).mono ?_
  rintro e w2 ⟨rfl, rfl⟩
  go_wp2_with fail
  refine hsoH2.out.mono ?_
  rintro e w3 ⟨vk, ss, rfl, hps, hrow, _, hb3⟩
  obtain ⟨ms, hms⟩ : ∃ ms, ss.mergeSort (fun x y => decide (x ≤ y)) = ms := ⟨_, rfl⟩
  rw [hms] at hrow
  have hpm : ms.Perm (L.map fun p => byt p.2.nm) := by rw [← hms]; exact ((List.mergeSort_perm _ _).trans hps).trans hpH.out.symm
  have hml : ms.length = n := hpm.length_eq.trans hpl
  have hsl : ss.length = n := by rw [← hml, ← hms]; exact (List.mergeSort_perm _ _).length_eq.symm
  rw [hsl] at hrow
  obtain ⟨aa, gk, cap, rfl, hak, hck⟩ := str_row hml hrow
  have hmem : Hid (∀ k x, ms[k]? = some x → ∃ p, lku L p.2.nm = some p ∧ p ∈ L ∧ byt p.2.nm = x) := fun k x hx => by
    obtain ⟨p, hp, e⟩ := List.mem_map.1 (hpm.mem_iff.1 (List.mem_of_getElem? hx))
    refine ⟨p, ?_, hp, e⟩
    cases q : lku L p.2.nm with
    | none => have := List.find?_eq_none.1 q p hp; simp at this
    | some r =>
      obtain ⟨r1, r2⟩ := lku_mem q
      have hnd := (kH.out W (Mv.refl _ _)).nd
      by_cases hrp : r = p
      · rw [hrp]
      · exact absurd r2 (by
          rcases List.pairwise_iff_getElem.1 hnd with hh
          obtain ⟨i, hi, ei⟩ := List.getElem_of_mem r1
          obtain ⟨j, hj, ej⟩ := List.getElem_of_mem hp
          rcases Nat.lt_trichotomy i j with q | q | q
          · have := hh i j hi hj q; rw [ei, ej] at this; exact this
          · subst q; exact absurd (ei.symm.trans ej) hrp
          · have := hh j i hj hi q; rw [ei, ej] at this; exact fun e => this e.symm)
  have m13 : Mv (fun j => j = A) W w3 := (Mv.alloc _ _ _).trans' (Mv.below hb3)
  have bl3 : Below W.heap.size W w3 := ((Below.refl _ _).alloc (Nat.le_refl _) _).trans (hb3.mono (by simp))
  have hgk : Hid (0 < n → aa = some ⟨gk, 0, none⟩ ∧ W.heap.size ≤ gk ∧ n ≤ cap) := fun h0 => by obtain ⟨z1, z2, _, z3⟩ := hak h0; simp at z2; exact ⟨z1, by omega, z3⟩
  have hI0 : Hid (Mv (fun j => j = A) W w3 ∧ (∀ k x, ms[k]? = some x → w3.cell? ⟨gk, k, none⟩ = some (.string ⟨x.toArray⟩)) ∧ w3.cell? ⟨A, 0, none⟩ = some (.int .i64 ((0 : Nat) : Int)) ∧ w3.frozen? ⟨A, 0, none⟩ = false) := by
    obtain ⟨z1, z2⟩ := cAH.out
    exact ⟨m13, hck, bcell bl3 (cell_lt z1) z1, (bfroz bl3 (cell_lt z1)).trans z2⟩
  have hmlH := hidP hml
  clear hps hrow hb3 hck hak hsoH2 hpH m13 hpm hms bl3 c0 cT hml hsl
  go_wp2_with fail
  go_loopw [12] (fun i wr => ∃ (k : Nat), k ≤ n ∧ i = .int .i64 k ∧ Hid (Mv (fun j => j = A) W wr ∧ (∀ k x, ms[k]? = some x → wr.cell? ⟨gk, k, none⟩ = some (.string ⟨x.toArray⟩)) ∧ wr.cell? ⟨A, 0, none⟩ = some (.int .i64 (k : Nat)) ∧ wr.frozen? ⟨A, 0, none⟩ = false)) (fun i _ => n - (intOf i).toNat)
  case atStart => exact ⟨0, by omega, rfl, hI0⟩
  case round =>
    obtain ⟨k, hk, rfl, hI⟩ := hrel
    clear hI0
    by_cases hlt : k < n
    · obtain ⟨x, hx⟩ : ∃ x, ms[k]? = some x := ⟨_, List.getElem?_eq_getElem (by rw [hmlH.out]; exact hlt)⟩
      obtain ⟨rfl, hgb2, hcap⟩ := hgk.out (by omega)
      obtain ⟨m, hcs, q1, q2⟩ := hI.out
      have hcell := hcs k x hx
      have hkc : k < cap := by omega
      have hkI : (k : Int) < (n : Int) := by omega
      obtain ⟨p, hp1, hp2, hpx⟩ := hmem.out k x hx
      have gR := kH.out wr m
      have k0 := gR.c0
      rw [hgb, hub] at k0
      have kT := m.cell (a := ⟨pt, 0, none⟩) nP cTH.out
      rw [hgb] at kT
      have hxs : (⟨x.toArray⟩ : ByteArray) = p.2.nm := by rw [← hpx]
      rw [hxs] at hcell
      have hlk := gR.un.look1 lawS (t := 49) Tryd.underlying49 (zeroUn wr) (a := p.2.nm) (keyS (by have := hsz.out p hp2; omega))
      rw [hp1, hub] at hlk
      simp only [Option.map_some, Option.getD_some] at hlk
      have hcp := copied_any p.1 p.2 wr (gR.uv p hp2).1
      have gRl : gb < wr.heap.size := cell_lt k0
      obtain ⟨nm, hnm⟩ : ∃ nm, p.2.nm = nm := ⟨_, rfl⟩
      obtain ⟨pv, hpv⟩ : ∃ pv, p.1 = pv := ⟨_, rfl⟩
      rw [hnm] at hcell hlk
      rw [hpv] at hlk hcp
      have hgbH := hidP hgb2
      clear m hcs q1 q2 hx hp1 hp2 hpx gR hxs hgb2
      go_wp2_with fail
      refine hcp.mono ?_
      rintro e w4 ⟨cs, rfl, _, _, hb4⟩
      obtain ⟨m, hcs, q1, q2⟩ := hI.out
      have hcn := cnt_any cs A k w4 (by omega) ((Mv.below (E := fun _ => False) hb4).cell (fun q => q) q1) (((Mv.below (E := fun _ => False) hb4).froz (a := ⟨A, 0, none⟩) (fun q => q) (cell_lt q1)).trans q2)
      have hsW := m.size
      have hgA : gk ≠ A := by have := lA.out.1; have := hgbH.out; omega
      have hcH : Hid (Calls Tryd.prog 15 #[.agg cs, .pointer (some ⟨A, 0, none⟩)] w4 fun e V => e = .returned (.bool true) ∧ Hid (Mv (fun j => j = A) W V ∧ (∀ k x, ms[k]? = some x → V.cell? ⟨gk, k, none⟩ = some (.string ⟨x.toArray⟩)) ∧ V.cell? ⟨A, 0, none⟩ = some (.int .i64 ((k + 1 : Nat) : Int)) ∧ V.frozen? ⟨A, 0, none⟩ = false)) := by
        refine hcn.mono ?_
        rintro e V ⟨rfl, mV, z1, z2⟩
        exact ⟨rfl, (m.trans' (Mv.below hb4)).trans' mV, fun k' x' hx' => mV.cell (a := ⟨gk, k', none⟩) hgA ((Mv.below (E := fun _ => False) hb4).cell (fun q => q) (hcs k' x' hx')), z1, z2⟩
      clear hI m hcs q1 q2 hcn hb4 hcp hlk hcell k0 kT hsW hgA gRl
      go_wp2_with fail
      refine hcH.out.mono ?_
      rintro e V ⟨rfl, hI2⟩
      clear hcH
      go_wp2_with fail
      exact ⟨⟨k + 1, by omega, by go_num, hI2⟩, by simp [intOf]; omega⟩
    · obtain rfl : k = n := by omega
      have hkI : ¬ (k : Int) < (k : Int) := by omega
      have hkd : decide ((k : Int) < (k : Int)) = false := decide_eq_false hkI
      have fin := hidP (And.intro hI.out.1 hI.out.2.2.1)
      clear hI
      go_wp2_with fail
      go_end0
      exact ⟨rfl, fin.out⟩
end Go.Proofs.YtcfclknfnadgcaaDoor
