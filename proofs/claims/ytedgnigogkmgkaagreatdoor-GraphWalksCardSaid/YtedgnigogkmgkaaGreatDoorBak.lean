import Derived.Test.YtedgnigogkmgkaaGreatDoorBaj
import Derived.Test.YtedgnigogkmgkaaGreatDoorBae
import Derived.Test.YtedgnigogkmgkaaGreatDoorBai
/- What is reached, gone through by the law's own taker: Reached. -/
namespace Go.Proofs.YtedgnigogkmgkaaGreatDoor
open Go.RowKit Go.Shelf Go.Lib Go.Sort Go.Maps
attribute [local go_sem] Oper.semAt_some
set_option maxRecDepth 100000 in
set_option maxHeartbeats 2000000 in
theorem reached_any (p : Nat) (v : Value) (rs : List ByteArray) (w : World) (hv : NR w v rs) : Calls Tryz.prog 13 #[.pointer (some ⟨p, 0, none⟩), v] w fun e V => ∃ b1 b2 ov, e = .returned (.func (.func 62) #[] #[.pointer (some ⟨b1, 0, none⟩), .pointer (some ⟨b2, 0, none⟩)]) ∧ V.cell? ⟨b1, 0, none⟩ = some (.pointer (some ⟨p, 0, none⟩)) ∧ V.cell? ⟨b2, 0, none⟩ = some ov ∧ NR V ov rs ∧ (∀ b, rbk ov = some b → w.heap.size ≤ b) ∧ w.heap.size ≤ b1 ∧ w.heap.size ≤ b2 ∧ Below w.heap.size w V := by
  obtain ⟨pv, cv, rfl⟩ := hv.shape
  obtain ⟨n, hn⟩ : ∃ n, rs.length = n := ⟨_, rfl⟩
  rw [hn] at hv ⊢
  obtain ⟨B, hB⟩ : ∃ B, w.heap.size = B := ⟨_, rfl⟩
  obtain ⟨W0, hW0⟩ : ∃ W0, w.alloc (.cells #[.pointer (some ⟨p, 0, none⟩)] 24) = W0 := ⟨_, rfl⟩
  have b0 : Below w.heap.size w W0 := by rw [← hW0]; exact (Below.refl _ _).alloc (Nat.le_refl _) _
  have c0 : W0.cell? ⟨B, 0, none⟩ = some (.pointer (some ⟨p, 0, none⟩)) := by rw [← hW0]; exact cell_at hB rfl
  have s0 : W0.heap.size = B + 1 := by rw [← hW0]; simp [hB]
  have hcl := clone_any (.slice pv n cv) rs W0 (hv.mv (E := fun _ => False) (Mv.below b0) (fun _ _ q => q))
  have fin : Hid (∀ ov w1, NR w1 ov rs → (∀ b, rbk ov = some b → W0.heap.size ≤ b) → Below W0.heap.size W0 w1 → ∀ V1 V B1, w1.heap.size = B1 → w1.alloc (.cells #[.slice none 0 0] 28) = V1 → V1.setCell ⟨B1, 0, none⟩ ov = V → V.cell? ⟨B, 0, none⟩ = some (.pointer (some ⟨p, 0, none⟩)) ∧ V.cell? ⟨B1, 0, none⟩ = some ov ∧ NR V ov rs ∧ (∀ b, rbk ov = some b → w.heap.size ≤ b) ∧ w.heap.size ≤ B ∧ w.heap.size ≤ B1 ∧ Below w.heap.size w V) := by
    intro ov w1 h1 h2 h3 V1 V B1 hB1 hV1 hV
    have hs3 := h3.size
    have cl : Cl B1 (.slice none 0 0) V1 := by rw [← hV1]; exact ⟨cell_at hB1 rfl, froz_new hB1⟩
    have clV : Cl B1 ov V := by rw [← hV]; exact cl.set ov
    have b1 : Below w1.heap.size w1 V1 := by rw [← hV1]; exact (Below.refl _ _).alloc (Nat.le_refl _) _
    have bV : Below w1.heap.size w1 V := by rw [← hV]; exact b1.setCell (p := ⟨B1, 0, none⟩) (by show _ ≤ B1; omega) _
    refine ⟨?_, clV.c, h1.mv (E := fun _ => False) (Mv.below bV) (fun _ _ q => q), fun b hb => by have := h2 b hb; omega, by omega, by omega, (b0.trans (h3.mono (by omega))).trans (bV.mono (by omega))⟩
    exact (Mv.below (E := fun _ => False) bV).cell (fun q => q) ((Mv.below (E := fun _ => False) h3).cell (fun q => q) c0)
  clear hv b0 c0
  go_enter Tryz.func13, Tryz.ntmps13
  go_wp2_with (rw [hW0])
  refine hcl.mono ?_
  rintro e w1 ⟨ov, rfl, h1, h2, h3⟩
  obtain ⟨B1, hB1⟩ : ∃ B1, w1.heap.size = B1 := ⟨_, rfl⟩
  obtain ⟨V1, hV1⟩ : ∃ V1, w1.alloc (.cells #[.slice none 0 0] 28) = V1 := ⟨_, rfl⟩
  have cl : Cl B1 (.slice none 0 0) V1 := by rw [← hV1]; exact ⟨cell_at hB1 rfl, froz_new hB1⟩
  have x1 := cl.c
  have x2 := cl.f
  obtain ⟨V, hV⟩ : ∃ V, V1.setCell ⟨B1, 0, none⟩ ov = V := ⟨_, rfl⟩
  have f2 := hidP (fin.out ov w1 h1 h2 h3 V1 V B1 hB1 hV1 hV)
  obtain ⟨ovp, ovc, rfl⟩ := h1.shape
  rw [hn] at hV f2
  clear fin h1 h2 h3 hcl cl
  go_wp2_with (first | rw [hV1] | rw [hV] | rw [hB1])
  go_ret
  exact ⟨B, B1, _, rfl, f2.out⟩
set_option maxRecDepth 100000 in
set_option maxHeartbeats 8000000 in
theorem reached1_any {S : GS} {L : UL} {rs ts : List ByteArray} {ov : Value} {W : World} {A b1 b2 : Nat} (h : Gs W S L) (hc : S.c ≤ 400000) (hL : L.length ≤ 1000) (cb1 : W.cell? ⟨b1, 0, none⟩ = some (.pointer (some ⟨S.gb, 0, none⟩))) (cb2 : W.cell? ⟨b2, 0, none⟩ = some ov) (hv : NR W ov rs) (hr : ∀ x ∈ rs, x.size ≤ 1000) (hl : rs.length ≤ 1000) (tk : Tg A (.slice none 0 0) W []) (ht : ∀ X : List ByteArray, X.Nodup → VR L rs X → X.Perm ts) (hts : (ts.map byt).Pairwise (· ≤ ·)) (htl : ts.length ≤ 60) :
    Calls Tryz.prog 62 #[.func (.func 14) #[] #[.pointer (some ⟨A, 0, none⟩)], .pointer (some ⟨b1, 0, none⟩), .pointer (some ⟨b2, 0, none⟩)] W fun e V => e = .returned (.tuple #[]) ∧ ∃ v', Tg A v' V ts ∧ Mv (fun k => k = A) W V ∧ (∀ k, nb v' = some k → W.heap.size ≤ k) := by
  obtain ⟨n, hn⟩ : ∃ n, ts.length = n := ⟨_, rfl⟩
  have hre := reach_any S L rs ov W h hc hL hv hr hl
  obtain ⟨gb, hgb⟩ : ∃ gb, S.gb = gb := ⟨_, rfl⟩
  rw [hgb] at cb1 hre
  have lA := tk.cl.lt
  have htH := hidP ht
  have htsH := hidP hts
  have tkH := hidP tk
  have hnH := hidP hn
  have hnl : n ≤ 60 := by omega
  clear h hc hL hv hr hl tk ht hts htl
  go_enter Tryz.func62, Tryz.ntmps62
  go_wp2_with fail
  refine hre.mono ?_
  rintro e w1 ⟨sb, X, rfl, hX, hVR, hXl, hb1, hsb⟩
  have hXp := htH.out X hX.nd hVR
  obtain ⟨nn, D, k1, k2, k3, k4⟩ := hX.keys (by omega)
  have hso := Tryz.slices_SortedG sb nn D heldElem w1 k1 k2 k3
  have hnm : ∀ ss : List (List UInt8), ss.Perm (strKeys D) → ss.mergeSort (fun x y => decide (x ≤ y)) = ts.map byt := fun ss hp => names_of (hp.trans k4) hXp htsH.out
  have hnmH := hidP hnm
  have b1H := hidP hb1
  have hsoH := hidP hso
  have hs1 := hb1.size
  clear hre hX hVR hXp k1 k2 k3 k4 hnm hb1 hso
  go_wp2_with fail
  refine (Tryz.maps_KeysG _ _).mono ?_
  rintro e w2 ⟨rfl, rfl⟩
  go_wp2_with fail
  refine hsoH.out.mono ?_
  rintro e w3 ⟨vk, ss, rfl, hps, hrow, _, hb3⟩
  have hms := hnmH.out ss hps
  have hsl : ss.length = n := by
    have := congrArg List.length hms
    rw [(List.mergeSort_perm _ _).length_eq, List.length_map, hnH.out] at this
    exact this
  rw [hms, hsl] at hrow
  obtain ⟨aa, gk, cap, rfl, hak, hck⟩ := str_row (by rw [List.length_map]; exact hnH.out) hrow
  have b03 : Below W.heap.size W w3 := (b1H.out.alloc hs1 _).trans (hb3.mono (by simp; omega))
  have hgk : Hid (0 < n → aa = some ⟨gk, 0, none⟩ ∧ W.heap.size ≤ gk ∧ n ≤ cap) := fun h0 => by obtain ⟨z1, z2, _, z3⟩ := hak h0; simp at z2; exact ⟨z1, by omega, z3⟩
  have hck2 : Hid (∀ k x, ts[k]? = some x → w3.cell? ⟨gk, k, none⟩ = some (.string x)) := fun k x hx => hck k (byt x) (by rw [List.getElem?_map, hx]; rfl)
  have hI0 : Hid (∃ v', Tg A v' w3 (ts.take 0) ∧ Mv (fun k => k = A) W w3 ∧ (∀ k, nb v' = some k → W.heap.size ≤ k) ∧ (∀ k x, ts[k]? = some x → w3.cell? ⟨gk, k, none⟩ = some (.string x)) ∧ (0 < n → nb v' ≠ some gk)) :=
    ⟨_, ⟨tkH.out.cl.mv (E := fun _ => False) (Mv.below b03) (fun q => q), .inl ⟨rfl, rfl⟩, tkH.out.ne⟩, Mv.below b03, fun k hk => (by cases hk), hck2.out, fun _ q => (by cases q)⟩
  have lgk : Hid (0 < n → gk < w3.heap.size) := fun h0 => (hak h0).2.2.1
  clear hms hps hrow hb3 hak hck hsoH hck2 b03 hsl hnmH tkH
  go_wp2_with fail
  go_loopw [12] (fun i wr => ∃ (k : Nat), k ≤ n ∧ i = .int .i64 k ∧ Hid (∃ v', Tg A v' wr (ts.take k) ∧ Mv (fun k => k = A) W wr ∧ (∀ k, nb v' = some k → W.heap.size ≤ k) ∧ (∀ k x, ts[k]? = some x → wr.cell? ⟨gk, k, none⟩ = some (.string x)) ∧ (0 < n → nb v' ≠ some gk))) (fun i _ => n - (intOf i).toNat)
  case atStart => exact ⟨0, by omega, rfl, hI0⟩
  case round =>
    obtain ⟨k, hk, rfl, hI⟩ := hrel
    clear hI0
    by_cases hlt : k < n
    · obtain ⟨x, hx⟩ : ∃ x, ts[k]? = some x := ⟨_, List.getElem?_eq_getElem (by rw [hnH.out]; exact hlt)⟩
      obtain ⟨rfl, hgb2, hcap⟩ := hgk.out (by omega)
      obtain ⟨v', t1, m1, f1, cs, ng⟩ := hI.out
      have hcell := cs k x hx
      have hkc : k < cap := by omega
      have hkI : (k : Int) < (n : Int) := by omega
      have hg := got1_any x (ts.take k) v' A wr t1 (by rw [List.length_take]; omega)
      have fin : Hid (∀ V v2, Tg A v2 V (ts.take k ++ [x]) → Mv (fun j => j = A ∨ nb v' = some j) wr V → (nb v2 = nb v' ∨ ∃ j, nb v2 = some j ∧ wr.heap.size ≤ j) → Hid (∃ v', Tg A v' V (ts.take (k + 1)) ∧ Mv (fun k => k = A) W V ∧ (∀ k, nb v' = some k → W.heap.size ≤ k) ∧ (∀ k x, ts[k]? = some x → V.cell? ⟨gk, k, none⟩ = some (.string x)) ∧ (0 < n → nb v' ≠ some gk))) := by
        intro V v2 t2 m2 a2
        have hz := m1.size
        have hgA : gk ≠ A := by omega
        have lg : gk < wr.heap.size := cell_lt hcell
        refine ⟨v2, by rw [List.take_add_one, hx]; exact t2, m1.trans (fun j hj => ?_) m2, fun j hj => ?_, fun j y hy => m2.cell (a := ⟨gk, j, none⟩) (fun q => q.elim hgA (fun q => ng (by omega) q)) (cs j y hy), fun h0 q => ?_⟩
        · exact hj.imp id (fun q => f1 j q)
        · rcases a2 with e | ⟨i, e, hi⟩
          · exact f1 j (e ▸ hj)
          · rw [hj] at e; injection e with e; omega
        · rcases a2 with e | ⟨i, e, hi⟩
          · exact ng h0 (e ▸ q)
          · rw [q] at e; injection e with e; omega
      clear hI t1 m1 f1 cs ng hx
      go_wp2_with fail
      refine hg.mono ?_
      rintro e V ⟨rfl, v2, t2, m2, a2⟩
      have hI2 := fin.out V v2 t2 m2 a2
      clear t2 m2 a2 hg fin hcell
      go_wp2_with fail
      exact ⟨⟨k + 1, by omega, by go_num, hI2⟩, by simp [intOf]; omega⟩
    · obtain rfl : k = n := by omega
      have hkI : ¬ (k : Int) < (k : Int) := by omega
      have hkd : decide ((k : Int) < (k : Int)) = false := decide_eq_false hkI
      have fin : Hid (∃ v', Tg A v' wr ts ∧ Mv (fun k => k = A) W wr ∧ (∀ k, nb v' = some k → W.heap.size ≤ k)) := by
        obtain ⟨v', t1, m1, f1, _⟩ := hI.out
        rw [List.take_of_length_le (by rw [hnH.out]; exact Nat.le_refl _)] at t1
        exact ⟨v', t1, m1, f1⟩
      clear hI
      go_wp2_with fail
      go_end0
      exact ⟨rfl, fin.out⟩
end Go.Proofs.YtedgnigogkmgkaaGreatDoor
/- The contract of (*Graph).Keep. -/
namespace Go.Proofs.YtedgnigogkmgkaaGreatDoor
open Go.RowKit Go.Shelf Go.Lib Go.Sort Go.Maps
attribute [local go_sem] Oper.semAt_some
/-- A row of units without those of some names. -/
def lessU (L : UL) (g : List ByteArray) : UL := L.filter fun p => !memB p.2.nm g
theorem lessU_nil (L : UL) : lessU L [] = L := List.filter_eq_self.2 fun _ _ => rfl
theorem lessU_snoc (L : UL) (g : List ByteArray) (x : ByteArray) : rmU (lessU L g) x = lessU L (g ++ [x]) := by
  unfold lessU rmU
  rw [List.filter_filter]
  refine List.filter_congr fun p _ => ?_
  unfold memB
  rw [List.any_append, List.any_cons, List.any_nil, Bool.or_false, Bool.not_or, Bool.and_comm]
  have e : decide (x = p.2.nm) = decide (p.2.nm = x) := by
    by_cases h : p.2.nm = x
    · rw [decide_eq_true h, decide_eq_true h.symm]
    · rw [decide_eq_false h, decide_eq_false (fun q => h q.symm)]
  rw [e]
theorem lku_less {L : UL} {g : List ByteArray} {x : ByteArray} (h : x ∉ g) : lku (lessU L g) x = lku L x := by
  unfold lku lessU
  rw [List.find?_filter]
  congr 1
  funext p
  by_cases h1 : p.2.nm = x
  · rw [h1, memB_f h]; simp
  · simp [h1]
/-- Those of a row that are not kept. -/
def notIn (X : List ByteArray) (l : List ByteArray) : List ByteArray := l.filter fun y => !memB y X
theorem notIn_snoc (X l : List ByteArray) (x : ByteArray) : notIn X (l ++ [x]) = if memB x X = true then notIn X l else notIn X l ++ [x] := by
  unfold notIn
  rw [List.filter_append, List.filter_cons, List.filter_nil]
  cases h : memB x X <;> simp
/-- Where Keep stands, k names looked at. -/
structure KpI (S : GS) (L : UL) (X ks : List ByteArray) (w w3 : World) (sb gk k : Nat) (S' : GS) (wr : World) (v : Value) : Prop where
  ns : NS wr v (notIn X (ks.take k))
  gs : Gs wr S' (lessU L (notIn X (ks.take k)))
  go : GsGo S w3 S' wr (4 * k)
  mv : Mv (hasG S) w wr
  xs : Xs wr sb X
  ck : ∀ k x, ks[k]? = some x → wr.cell? ⟨gk, k, none⟩ = some (.string x)
  fr : ∀ j, nb v = some j → w3.heap.size ≤ j ∧ ¬ hasG S' j
/-- What stays all the while. -/
structure KpH (S : GS) (L : UL) (ks : List ByteArray) (w w3 : World) (sb gk : Nat) : Prop where
  g : Gs w S L
  pm : (L.map fun p => p.2.nm).Perm ks
  z3 : w.heap.size ≤ w3.heap.size
  s0 : w.heap.size ≤ sb
  s3 : sb < w3.heap.size
  g0 : 0 < ks.length → w.heap.size ≤ gk ∧ gk < w3.heap.size
  tl : ∀ p ∈ L, (tolU p.2).length ≤ 2
variable {S S' S2 : GS} {L : UL} {X ks : List ByteArray} {w w3 wr w2 wt : World} {sb gk k : Nat} {v v2 : Value} {x : ByteArray}
theorem KpI.below (h : KpI S L X ks w w3 sb gk k S' wr v) (b : Below wr.heap.size wr w2) : KpI S L X ks w w3 sb gk k S' w2 v :=
  ⟨h.ns.mv (E := fun _ => False) (Mv.below b) (fun _ _ q => q), h.gs.below b, by have := h.go.trans (GsGo.below (S := S') b); exact this, h.mv.trans' (Mv.below b), h.xs.mv (E := fun _ => False) (Mv.below b) (fun q => q), fun k x hx => (Mv.below (E := fun _ => False) b).cell (fun q => q) (h.ck k x hx), h.fr⟩
theorem KpH.at_ (H : KpH S L ks w w3 sb gk) (hx : ks[k]? = some x) : ∃ p, lku L x = some p ∧ p ∈ L ∧ p.2.nm = x ∧ x.size ≤ 60 := by
  obtain ⟨p, hp, e⟩ := List.mem_map.1 (H.pm.mem_iff.2 (List.mem_of_getElem? hx))
  cases q : lku L x with
  | none => have := List.find?_eq_none.1 q p hp; simp at this; exact absurd e this
  | some r =>
    obtain ⟨h1, h2⟩ := lku_mem q
    exact ⟨r, rfl, h1, h2, by rw [← h2]; exact isN_le (H.g.uv r h1).2.1⟩
theorem KpH.fresh (H : KpH S L ks w w3 sb gk) (hx : ks[k]? = some x) : x ∉ notIn X (ks.take k) := by
  intro q
  have h1 := List.mem_filter.1 q
  have hn : ks.Nodup := H.pm.nodup_iff.1 (List.pairwise_map.2 H.g.nd)
  obtain ⟨i, hi⟩ := List.mem_iff_getElem?.1 h1.1
  have hik : i < k := by
    have := (List.getElem?_eq_some_iff.1 hi).1
    rw [List.length_take] at this; omega
  rw [List.getElem?_take_of_lt hik] at hi
  obtain ⟨l1, e1⟩ := List.getElem?_eq_some_iff.1 hi
  obtain ⟨l2, e2⟩ := List.getElem?_eq_some_iff.1 hx
  have := List.pairwise_iff_getElem.1 hn i k l1 l2 hik
  exact this (e1.trans e2.symm)
theorem KpI.lk (_h : KpI S L X ks w w3 sb gk k S' wr v) (H : KpH S L ks w w3 sb gk) (hx : ks[k]? = some x) {p : Array Value × Un} (hp : lku L x = some p) : lku (lessU L (notIn X (ks.take k))) x = some p := by
  rw [lku_less (H.fresh hx)]; exact hp
theorem KpI.skip (h : KpI S L X ks w w3 sb gk k S' wr v) (hx : ks[k]? = some x) (hX : x ∈ X) : KpI S L X ks w w3 sb gk (k + 1) S' wr v := by
  have e : notIn X (ks.take (k + 1)) = notIn X (ks.take k) := by rw [List.take_add_one, hx]; show notIn X (_ ++ [x]) = _; rw [notIn_snoc, if_pos (memB_t hX)]
  exact ⟨by rw [e]; exact h.ns, by rw [e]; exact h.gs, ⟨h.go.gb, h.go.ub, h.go.mv, h.go.gr, by have := h.go.c; omega⟩, h.mv, h.xs, h.ck, h.fr⟩
theorem KpI.notG (h : KpI S L X ks w w3 sb gk k S' wr v) (H : KpH S L ks w w3 sb gk) {j : Nat} (h1 : w.heap.size ≤ j) (h2 : j < w3.heap.size) : ¬ hasG S' j := fun q => by
  rcases h.go.gr j q with r | r
  · have := H.g.lt r; omega
  · omega
theorem KpI.take (h : KpI S L X ks w w3 sb gk k S' wr v) (H : KpH S L ks w w3 sb gk) (hx : ks[k]? = some x) (hX : x ∉ X) (hG : Gs w2 S2 (rmU (lessU L (notIn X (ks.take k))) x)) (hgo : GsGo S' wr S2 w2 4) (hns : NS wt v2 (notIn X (ks.take k) ++ [x])) (m3 : Mv (fun k => nb v = some k) w2 wt) (a3 : nb v2 = nb v ∨ ∃ j, nb v2 = some j ∧ w2.heap.size ≤ j) : KpI S L X ks w w3 sb gk (k + 1) S2 wt v2 := by
  have e : notIn X (ks.take (k + 1)) = notIn X (ks.take k) ++ [x] := by rw [List.take_add_one, hx]; show notIn X (_ ++ [x]) = _; rw [notIn_snoc, if_neg (by rw [memB_f hX]; decide)]
  have nv2 : ∀ j, nb v = some j → ¬ hasG S2 j := fun j hj q => by
    rcases hgo.gr j q with r | r
    · exact (h.fr j hj).2 r
    · have := h.ns.lt hj; omega
  have hwr := hgo.mv.size
  have h3r := h.go.mv.size
  have hlen : 0 < ks.length := by have := (List.getElem?_eq_some_iff.1 hx).1; omega
  have g0 := H.g0 hlen
  have gG : ∀ j, hasG S2 j → hasG S j ∨ w3.heap.size ≤ j := fun j hj => by
    rcases hgo.gr j hj with r | r
    · exact h.go.gr j r
    · exact .inr (by omega)
  refine ⟨by rw [e]; exact hns, ?_, ?_, ?_, ?_, fun j y hy => ?_, fun j hj => ?_⟩
  · rw [e, ← lessU_snoc]
    refine hG.mv m3 (fun j hj q => nv2 j q hj) (fun p hp b hb q => ?_)
    have hpL : p ∈ L := by
      have := (List.mem_filter.1 hp).1
      exact (List.mem_filter.1 this).1
    have := (H.g.uv p hpL).1.lt hb
    have := (h.fr b q).1
    have := H.z3
    omega
  · have hg1 := h.go.trans hgo
    exact ⟨hg1.gb, hg1.ub, hg1.mv.trans (fun j hj => .inr (h.fr j hj).1) m3, gG, by have := hg1.c; omega⟩
  · exact (h.mv.trans (fun j hj => (h.go.gr j hj).imp id (fun q => by have := H.z3; omega)) hgo.mv).trans (fun j hj => .inr (by have := (h.fr j hj).1; have := H.z3; omega)) m3
  · refine (h.xs.mv hgo.mv (h.notG H H.s0 H.s3)).mv m3 (fun q => ?_)
    have := (h.fr sb q).1; have := H.s3; omega
  · refine m3.cell (a := ⟨gk, j, none⟩) (fun q => ?_) (hgo.mv.cell (a := ⟨gk, j, none⟩) (h.notG H g0.1 g0.2) (h.ck j y hy))
    have := (h.fr gk q).1; omega
  · rcases a3 with r | ⟨i, r, hi⟩
    · rw [r] at hj; exact ⟨(h.fr j hj).1, nv2 j hj⟩
    · rw [hj] at r; injection r with r
      subst r
      exact ⟨by omega, fun q => by have := hG.lt q; omega⟩
set_option maxRecDepth 100000 in
set_option maxHeartbeats 8000000 in
theorem keep_any {S : GS} {L : UL} {rs ks : List ByteArray} {v : Value} {w : World} (h : Gs w S L) (hc : S.c ≤ 10000) (hL : L.length ≤ 60) (ht : ∀ p ∈ L, (tolU p.2).length ≤ 2) (hv : NR w v rs) (hr : ∀ x ∈ rs, x.size ≤ 1000) (hl : rs.length ≤ 1000) (hks : (L.map fun p => p.2.nm).Perm ks) (hso : (ks.map byt).Pairwise (· ≤ ·)) (hgl : GlN w) (e0 : ¬ hasG S 0) (e1 : ¬ hasG S 1) :
    Calls Tryz.prog 16 #[.pointer (some ⟨S.gb, 0, none⟩), v] w fun e V => ∃ v' X S', e = .returned v' ∧ X.Nodup ∧ VR L rs X ∧ NS V v' (notIn X ks) ∧ Gs V S' (lessU L (notIn X ks)) ∧ S'.gb = S.gb ∧ Mv (hasG S) w V ∧ S'.c ≤ 20000 ∧ (∀ k, nb v' = some k → w.heap.size ≤ k) := by
  have hgbG : S.gb = S.gb := rfl
  obtain ⟨pv, cv, rfl⟩ := hv.shape
  obtain ⟨rn, hrn⟩ : ∃ rn, rs.length = rn := ⟨_, rfl⟩
  have hre := reach_any S L rs _ w h (by omega) (by omega) hv hr hl
  obtain ⟨gb, hgb⟩ : ∃ gb, S.gb = gb := ⟨_, rfl⟩
  obtain ⟨ub, hub⟩ : ∃ ub, S.ub = ub := ⟨_, rfl⟩
  obtain ⟨n, hn⟩ : ∃ n, ks.length = n := ⟨_, rfl⟩
  have hnL : n = L.length := by rw [← hn, ← hks.length_eq, List.length_map]
  have c0 := h.c0
  rw [hgb, hub] at c0
  rw [hgb] at hre
  have hH := hidP h
  have hcH := hidP hc
  have htH := hidP ht
  have hksH := hidP hks
  have hsoH := hidP hso
  have hnH := hidP hn
  have hglH := hidP hgl
  have eH := hidP (And.intro e0 e1)
  have lgb : gb < w.heap.size := cell_lt c0
  rw [hgb]
  rw [hrn] at hre ⊢
  clear h hc ht hv hr hl hks hso hgl e0 e1 hn
  go_enter Tryz.func16, Tryz.ntmps16
  go_wp2_with fail
  refine hre.mono ?_
  rintro e w1 ⟨sb, X, rfl, hX, hVR, hXl, hb1, hsb⟩
  have hG1 := hH.out.below hb1
  have d0 := hG1.c0
  rw [hgb, hub] at d0
  obtain ⟨nn, D, k1, k2, k3, k4⟩ := hG1.keys (by omega)
  have hso := Tryz.slices_SortedS S.ub nn D heldElem w1 k1 k2 k3
  rw [hub] at hso
  have hnm : ∀ ss : List (List UInt8), ss.Perm (strKeys D) → ss.mergeSort (fun x y => decide (x ≤ y)) = ks.map byt := fun ss hp => names_of (hp.trans k4) hksH.out hsoH.out
  have hnmH := hidP hnm
  have b1H := hidP hb1
  have hsoH := hidP hso
  have hXH := hidP (And.intro hX hVR)
  have hs1 := hb1.size
  clear hre hX hVR hXl k1 k2 k3 k4 hnm hb1 hso hG1
  go_wp2_with fail
  refine (Tryz.maps_KeysS _ _).mono ?_
  rintro e w2 ⟨rfl, rfl⟩
  go_wp2_with fail
  refine hsoH.out.mono ?_
  rintro e w3 ⟨vk, ss, rfl, hps, hrow, _, hb3⟩
  have hms := hnmH.out ss hps
  have hsl : ss.length = n := by
    have := congrArg List.length hms
    rw [(List.mergeSort_perm _ _).length_eq, List.length_map, hnH.out] at this
    exact this
  rw [hms, hsl] at hrow
  obtain ⟨aa, gk, cap, rfl, hak, hck⟩ := str_row (by rw [List.length_map]; exact hnH.out) hrow
  have b03 : Below w.heap.size w w3 := (b1H.out.alloc hs1 _).trans (hb3.mono (by simp; omega))
  have b13 : Below w1.heap.size w1 w3 := ((Below.refl _ _).alloc (Nat.le_refl _) _).trans (hb3.mono (by simp))
  have hgk : Hid (0 < n → aa = some ⟨gk, 0, none⟩ ∧ w1.heap.size ≤ gk ∧ n ≤ cap ∧ gk < w3.heap.size) := fun h0 => by obtain ⟨z1, z2, z4, z3⟩ := hak h0; simp at z2; exact ⟨z1, by omega, z3, z4⟩
  have hck2 : Hid (∀ k x, ks[k]? = some x → w3.cell? ⟨gk, k, none⟩ = some (.string x)) := fun k x hx => hck k (byt x) (by rw [List.getElem?_map, hx]; rfl)
  have hsb1 : sb < w1.heap.size := hXH.out.1.m.lt
  have hI0 : Hid (∃ S', KpI S L X ks w w3 sb gk 0 S' w3 (.slice none 0 0)) :=
    ⟨S, .inl ⟨rfl, rfl⟩, by show Gs w3 S (lessU L []); rw [lessU_nil]; exact hH.out.below b03, GsGo.refl S w3, Mv.below b03, hXH.out.1.mv (E := fun _ => False) (Mv.below b13) (fun q => q), hck2.out, fun k hk => by cases hk⟩
  have HH : Hid (KpH S L ks w w3 sb gk) := ⟨hH.out, hksH.out, b03.size, hsb, by have := b13.size; omega, fun q => by obtain ⟨_, z1, _, z2⟩ := hgk.out (by have := hnH.out; omega); exact ⟨by omega, z2⟩, htH.out⟩
  have hgl3 : Hid (GlN w3) := hglH.out.below b03
  clear hms hps hrow hb3 hak hck hsoH hck2 b03 b13 hsl hnmH
  go_wp2_with fail
  go_loopw [21, 6] (fun i g wr => ∃ (k : Nat) (gp : Option Addr) (gn gc : Nat), k ≤ n ∧ i = .int .i64 k ∧ g = .slice gp gn gc ∧ Hid (∃ S', KpI S L X ks w w3 sb gk k S' wr (.slice gp gn gc))) (fun i _ _ => n - (intOf i).toNat)
  case atStart => exact ⟨0, none, 0, 0, by omega, rfl, rfl, hI0⟩
  case round =>
    obtain ⟨k, gp, gn, gc, hk, rfl, rfl, hI⟩ := hrel
    clear hI0
    by_cases hlt : k < n
    · obtain ⟨x, hx⟩ : ∃ x, ks[k]? = some x := ⟨_, List.getElem?_eq_getElem (by rw [hnH.out]; exact hlt)⟩
      obtain ⟨rfl, hgb2, hcap, hgk3⟩ := hgk.out (by omega)
      obtain ⟨T, hK⟩ := hI.out
      obtain ⟨p, hp, hpL, hpn, hpz⟩ := HH.out.at_ hx
      have hcell := hK.ck k x hx
      have hkc : k < cap := by omega
      have hkI : (k : Int) < (n : Int) := by omega
      have hlk := hK.xs.look (x := x) (by omega)
      obtain ⟨W1, hW1⟩ : ∃ W1, wr.alloc (.cells #[] 113) = W1 := ⟨_, rfl⟩
      have b1 : Below wr.heap.size wr W1 := by rw [← hW1]; exact (Below.refl _ _).alloc (Nat.le_refl _) _
      have hK1 := hK.below b1
      by_cases hxX : x ∈ X
      · have hK2 : Hid (∃ S', KpI S L X ks w w3 sb gk (k + 1) S' W1 (.slice gp gn gc)) := ⟨_, hK1.skip hx hxX⟩
        have hd := memB_t hxX
        rw [hd] at hlk
        clear hI hK hK1 hx hp hpL b1 hxX hd
        go_wp2_with (rw [hW1])
        exact ⟨⟨k + 1, gp, gn, gc, by omega, by go_num, rfl, hK2⟩, by simp [intOf]; omega⟩
      · have hd := memB_f hxX
        rw [hd] at hlk
        have hcT := hK.go.c
        have hgT : T.gb = gb := hK.go.gb.trans hgb
        have htl := htH.out p hpL
        have hdr := drop_any T _ x p W1 hK1.gs (by omega) (hK.lk HH.out hx hp) (by have := hcH.out; omega) (hgl3.out.mv (E := hasG S) (hK1.go.mv) eH.out.1 eH.out.2) (fun q => by
          rcases hK.go.gr _ q with r | r
          · exact eH.out.1 r
          · have := hgl3.out.lt.1; omega) (fun q => by
          rcases hK.go.gr _ q with r | r
          · exact eH.out.2 r
          · have := hgl3.out.lt.2; omega)
        rw [hgT] at hdr
        have hKH := hidP hK1
        have hxH := hidP hx
        have hns := hidP hK1.ns
        have hgn : (notIn X (ks.take k)).length ≤ 1000 := by
          have h1 : (notIn X (ks.take k)).length ≤ (ks.take k).length := List.length_filter_le _ _
          rw [List.length_take] at h1
          omega
        have hgne : (notIn X (ks.take k)).length = gn := by
          obtain ⟨p', c', e'⟩ := hK1.ns.shape
          injection e' with _ e' _
          omega
        rw [hgne] at hgn
        clear hI hK hK1 hx hp hpL b1 hd
        go_wp2_with (rw [hW1])
        refine hdr.mono ?_
        rintro e w5 ⟨rfl, T2, hG2, hgo2⟩
        have hns5 : NS w5 (.slice gp gn gc) (notIn X (ks.take k)) := hns.out.mv hgo2.mv (fun j hj => (hKH.out.fr j hj).2)
        obtain ⟨B5, hB5⟩ : ∃ B5, w5.heap.size = B5 := ⟨_, rfl⟩
        obtain ⟨v2, W6, hrun, hns6, m6, a6⟩ := hns5.push x (by rw [hgne]; omega) hB5
        obtain ⟨p6, c6, rfl⟩ := hns6.shape
        obtain ⟨n6, hn6⟩ : ∃ n6, (notIn X (ks.take k) ++ [x]).length = n6 := ⟨_, rfl⟩
        rw [hn6] at hrun hns6 a6
        obtain ⟨W5, hW5⟩ : ∃ W5, w5.alloc (.cells #[.string x] 9) = W5 := ⟨_, rfl⟩
        rw [hW5] at hrun
        have hK2 : Hid (∃ S', KpI S L X ks w w3 sb gk (k + 1) S' W6 (.slice p6 n6 c6)) := ⟨T2, hKH.out.take HH.out hxH.out hxX hG2 (hgo2.mono (by omega)) hns6 m6 a6⟩
        clear hdr hG2 hgo2 hns5 hns6 m6 a6 hKH hns
        go_wp2_with (first | rw [hW5] | rw [hB5] | refine wpList_append_run rfl _ _ _ rfl _ _ _ _ rfl rfl hrun ?_)
        exact ⟨⟨k + 1, p6, n6, c6, by omega, by go_num, rfl, hK2⟩, by simp [intOf]; omega⟩
    · obtain rfl : k = n := by omega
      have hkI : ¬ (k : Int) < (k : Int) := by omega
      have hkd : decide ((k : Int) < (k : Int)) = false := decide_eq_false hkI
      have fin : Hid (∃ X S', X.Nodup ∧ VR L rs X ∧ NS wr (.slice gp gn gc) (notIn X ks) ∧ Gs wr S' (lessU L (notIn X ks)) ∧ S'.gb = gb ∧ Mv (hasG S) w wr ∧ S'.c ≤ 20000 ∧ (∀ k, nb (.slice gp gn gc) = some k → w.heap.size ≤ k)) := by
        obtain ⟨T, hK⟩ := hI.out
        have e : ks.take k = ks := List.take_of_length_le (by rw [hnH.out]; exact Nat.le_refl _)
        have h1 := hK.ns
        have h2 := hK.gs
        rw [e] at h1 h2
        exact ⟨X, T, hXH.out.1.nd, hXH.out.2, h1, h2, hK.go.gb.trans hgb, hK.mv, by have := hK.go.c; have := hcH.out; omega, fun j hj => by have := (hK.fr j hj).1; have := HH.out.z3; omega⟩
      clear hI
      go_wp2_with fail
      go_ret
      obtain ⟨X, T, z1, z2, z3, z4, z5, z6, z7, z8⟩ := fin.out
      exact ⟨_, rfl, X, z1, z2, z3, T, z4, z5, z6, z7, z8⟩
end Go.Proofs.YtedgnigogkmgkaaGreatDoor
/- The contract of the laws' known. -/
namespace Go.Proofs.YtedgnigogkmgkaaGreatDoor
open Go.RowKit Go.Shelf Go.Lib
def aSv : ByteArray := ⟨#[97, 46, 115, 101, 114, 118, 105, 99, 101]⟩
def bSv : ByteArray := ⟨#[98, 46, 115, 101, 114, 118, 105, 99, 101]⟩
theorem known_any (w : World) (hg : GlN w) : Calls Tryz.prog 9 #[] w fun e w' => e = .returned (.bool true) ∧ Below w.heap.size w w' := by
  have hnew := new_any w
  have hgl := hidP hg
  clear hg
  go_enter Tryz.func9, Tryz.ntmps9
  go_wp2_with fail
  refine hnew.mono ?_
  rintro e w1 ⟨S, rfl, hG, hge, hS0, hb1⟩
  have heq : ∀ w, (binOp .eql 24 (.pointer (some ⟨S.gb, 0, none⟩)) (.pointer none)).run Tryz.prog w = .ok (.bool false) w := fun w => by first | kernel_rfl | rfl
  obtain ⟨B, hB⟩ : ∃ B, w1.heap.size = B := ⟨_, rfl⟩
  obtain ⟨W2, hW2⟩ : ∃ W2, w1.alloc (.cells #[.string ⟨#[98, 46, 115, 101, 114, 118, 105, 99, 101]⟩] 9) = W2 := ⟨_, rfl⟩
  have b2 : Below w1.heap.size w1 W2 := by rw [← hW2]; exact (Below.refl _ _).alloc (Nat.le_refl _) _
  have cb : W2.cell? ⟨B, 0, none⟩ = some (.string bSv) := by rw [← hW2]; exact cell_at hB rfl
  have hG2 := hG.below b2
  have glt := hgl.out.lt
  have hu := lit_uv W2 aSv 1 [] [bSv] nilV (.slice (some ⟨B, 0, none⟩) 1 1) true ⟨#[]⟩ (.inl ⟨rfl, none, 0, rfl⟩) (NR.one1 cb)
  have hadd := add_new S [] _ _ W2 hG2 hu (show isN aSv = true by decide +kernel) rfl (by decide) (by rw [rel_core]; decide +kernel) (by rw [tol_core, hS0]; decide +kernel) ((hgl.out.below hb1).below b2) (fun q => by have := hge _ q; omega) (fun q => by have := hge _ q; omega) (fun b hb q => by
    have := hG.lt q
    rcases lit_ubk hb with r | r
    · cases r
    · simp [rbk] at r; omega)
  have bH := hidP (hb1.trans (b2.mono (by have := hb1.size; exact this)))
  have hgeH := hidP hge
  clear hnew hG hge hS0 hb1 b2 cb hG2 hu
  go_wp2_with (rw [hW2])
  refine hadd.mono ?_
  rintro e w3 ⟨rfl, S', cs, hG3, hgo, _⟩
  have hh1 := has_any S' _ w3 hG3 6 bSv aSv (by unfold okE; decide)
  have hh2 := has_any S' _ w3 hG3 6 aSv bSv (by unfold okE; decide)
  have hrm := remove_none S' _ bSv w3 hG3 (by decide) (by rw [lku_cons]; exact (if_neg (show ¬ aSv = bSv by decide)).trans rfl)
  have k1 : decide (0 < kL [(cs, unU aSv 1 [] [bSv] nilV (.slice (some ⟨B, 0, none⟩) 1 1) true ⟨#[]⟩)] (6, bSv, aSv)) = true := by rw [kL_one, tol_core]; decide +kernel
  have k2 : decide (0 < kL [(cs, unU aSv 1 [] [bSv] nilV (.slice (some ⟨B, 0, none⟩) 1 1) true ⟨#[]⟩)] (6, aSv, bSv)) = false := by rw [kL_one, tol_core]; decide +kernel
  rw [k1] at hh1
  rw [k2] at hh2
  rw [hgo.gb] at hh1 hh2 hrm
  have fH : Hid (Below w.heap.size w w3) := bH.out.trans (hgo.mv.toBelow (by have := bH.out.size; exact this) (fun k hk q => by have := hgeH.out k q; omega))
  clear hG3 hgo k1 k2 hadd
  go_wp2_with fail
  refine hh1.mono ?_
  rintro e w4 ⟨rfl, hw4⟩
  replace hw4 := hw4.symm
  subst hw4
  go_wp2_with fail
  refine hh2.mono ?_
  rintro e w4 ⟨rfl, hw4⟩
  replace hw4 := hw4.symm
  subst hw4
  go_wp2_with fail
  refine hrm.mono ?_
  rintro e w4 ⟨rfl, hb4⟩
  have fin : Hid (Below w.heap.size w w4) := fH.out.trans (hb4.mono fH.out.size)
  clear hb4 hh1 hh2 hrm
  go_wp2_with fail
  go_ret
  exact ⟨rfl, fin.out⟩
end Go.Proofs.YtedgnigogkmgkaaGreatDoor
/- The contract of (*Graph).Unit. -/
namespace Go.Proofs.YtedgnigogkmgkaaGreatDoor
open Go.RowKit Go.Shelf Go.Lib
set_option maxRecDepth 100000 in
set_option maxHeartbeats 4000000 in
theorem unit_any (S : GS) (L : UL) (x : ByteArray) (w : World) (h : Gs w S L) (hx : x.size ≤ 1000) (v0 : Array Value) (u0 : Un) (th : Bool) (hv : (th = false ∧ lku L x = none ∧ v0 = zuA ∧ u0 = zuU) ∨ (th = true ∧ lku L x = some (v0, u0))) :
    Calls Tryz.prog 17 #[.pointer (some ⟨S.gb, 0, none⟩), .string x] w fun e w' => ∃ cs, e = .returned (.tuple #[.agg cs, .bool th]) ∧ UV w' cs u0 ∧ (∀ b, ubk cs b → w.heap.size ≤ b) ∧ Below w.heap.size w w' := by
  have c0 := h.c0
  have hlk : ∀ y, Below w.heap.size w y → (Instr.lookup 101 (.map (some S.ub)) (.string x) true).run Tryz.prog y = .ok (.tuple #[.agg v0, .bool th]) y := fun y hy => by
    have q := (h.below hy).un.look lawS (t := 101) Tryz.underlying101 (zeroUn y) (a := x) (keyS hx)
    rcases hv with ⟨rfl, h1, rfl, _⟩ | ⟨rfl, h1⟩
    · rw [h1] at q; exact q
    · rw [h1] at q; exact q
  have hu0 : UV w v0 u0 := by
    rcases hv with ⟨_, _, rfl, rfl⟩ | ⟨_, h1⟩
    · exact zu_uv w
    · exact (h.uv _ (lku_mem h1).1).1
  obtain ⟨gb, hgb⟩ : ∃ gb, S.gb = gb := ⟨_, rfl⟩
  obtain ⟨ub, hub⟩ : ∃ ub, S.ub = ub := ⟨_, rfl⟩
  obtain ⟨n, hn⟩ : ∃ n, w.heap.size = n := ⟨_, rfl⟩
  obtain ⟨W1, hW1⟩ : ∃ W1, w.alloc (.cells zuA 30) = W1 := ⟨_, rfl⟩
  have b1 : Below w.heap.size w W1 := by rw [← hW1]; exact (Below.refl _ _).alloc (Nat.le_refl _) _
  have s1 : W1.heap.size = n + 1 := by rw [← hW1]; simp [hn]
  have U1 : Ub n zuA W1 := by rw [← hW1, ← hn]; exact Ub.mk' _ _ _
  have F1 : ∀ p, W1.frozen? ⟨n, p, none⟩ = false := fun p => by rw [← hW1, ← hn]; exact World.frozen?_alloc_new w _ _ p
  obtain ⟨W2, hW2⟩ : ∃ W2, W1.alloc (.cells zuA 30) = W2 := ⟨_, rfl⟩
  obtain ⟨X, hst, UX, bX⟩ := fresh_store (W := W1) hu0.sz hu0.on zuA 30 rfl
  rw [hW2, s1] at hst
  rw [s1] at UX
  have bwX : Below w.heap.size w X := b1.trans (bX.mono (by omega))
  have hld := UX.load hu0.sz
  have hcp := copied_any v0 u0 X (hu0.below bwX)
  have hl1 := hlk W1 b1
  have c1 : W1.cell? ⟨gb, 0, none⟩ = some (.map (some ub)) := by rw [← hgb, ← hub]; exact (h.below b1).c0
  rw [hub] at hl1
  have hsz := hu0.sz
  have sX : n + 2 ≤ X.heap.size := by have := cell_lt (UX 0 _ hu0.c0); change n + 1 < _ at this; omega
  have bwH := hidP bwX
  have bXH := hidP bX
  have U1H := hidP U1
  have F1H := hidP F1
  have lgb : gb < n := by rw [← hgb, ← hn]; exact h.lt (.inl rfl)
  rw [hgb]
  clear h hv c0 hlk hu0 b1 U1 F1 UX bX bwX
  unfold zuA at hW1 hW2
  go_enter Tryz.func17, Tryz.ntmps17
  go_wp2_with (first | rw [hW1] | rw [hW2] | refine wpList_loadU rfl _ rfl _ rfl _ hld ?_ | refine wpList_storeU rfl _ _ rfl _ rfl _ rfl hsz hst ?_)
  refine hcp.mono ?_
  rintro e w2 ⟨cs, rfl, hcs, hfr, hb2⟩
  have b12 : Below W1.heap.size W1 w2 := bXH.out.trans (hb2.mono bXH.out.size)
  have bw2 : Below w.heap.size w w2 := bwH.out.trans (hb2.mono (by have := bwH.out.size; omega))
  obtain ⟨w3, hst3, U3, m3⟩ := Ub.store (P := Tryz.prog) (n := n) (w := w2) hcs.sz hcs.on (fun p hp => by
    have hz : zuA.size = 33 := rfl
    rw [(Mv.below (E := fun _ => False) b12).cell (a := ⟨n, p, none⟩) (fun q => q) (U1H.out p (zuA[p]'(by omega)) (Array.getElem?_eq_getElem (by omega)))]; rfl) (fun p => ((Mv.below (E := fun _ => False) b12).froz (a := ⟨n, p, none⟩) (fun q => q) (by show n < _; omega)).trans (F1H.out p))
  have hlv := loadVarU (U3.load hcs.sz)
  have ha : (asAddr (.pointer (some ⟨n, 0, none⟩))).run Tryz.prog w3 = .ok ⟨n, 0, none⟩ w3 := rfl
  have hcsz := hcs.sz
  have fin : Hid (UV w3 cs u0 ∧ (∀ b, ubk cs b → w.heap.size ≤ b) ∧ Below w.heap.size w w3) := by
    have := bwH.out.size
    exact ⟨hcs.mv m3 (fun b hb e => by have := hfr b hb; omega), fun b hb => by have := hfr b hb; omega, bw2.trans (m3.toBelow (n := w.heap.size) bw2.size (fun k hk e => by omega))⟩
  clear hcp hcs hfr hb2 b12 bw2 U3 m3 hst hld hl1 c1
  go_wp2_with (refine wpList_storeU rfl _ _ rfl _ rfl _ rfl hcsz hst3 ?_)
  refine bodyPost_ret (v := .tuple #[.agg cs, .bool th]) (by simp [results, Tryz.results17, ha, hlv, Result.andThen]) rfl ?_
  exact ⟨cs, rfl, fin.out⟩
end Go.Proofs.YtedgnigogkmgkaaGreatDoor
