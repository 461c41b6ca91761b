import Derived.Test.YtcfclknfnadgcaaDoorBxa
import Derived.Test.YtcfclknfnadgcaaDoorBxb
import Derived.Test.YtcfclknfnadgcaaDoorBxc
import Derived.Test.YtcfclknfnadgcaaDoorBxd
/- GraphFull, plainly: the names of the units that it adds. -/
namespace Go.Proofs.YtcfclknfnadgcaaDoor
open Go.RowKit Go.Shelf Go.Lib
def ltrs : ByteArray := ⟨#[97, 98, 99, 100, 101, 102, 103, 104, 105, 106, 107, 108, 109, 110, 111, 112, 113, 114, 115, 116, 117, 118, 119, 120, 121, 122, 65, 66, 67, 68, 69, 70, 71, 72, 73, 74, 75, 76, 77, 78, 79, 80, 81, 82, 83, 84, 85, 86, 87, 88, 89, 90]⟩
def tgt : ByteArray := ⟨#[46, 116, 97, 114, 103, 101, 116]⟩
def nmF (i : Nat) : ByteArray := ltrs.extract i (i + 1) ++ tgt
theorem nmF_is : ∀ i : Fin 50, isN (nmF i.1) = true := by decide +kernel
theorem nmF_inj : ∀ i j : Fin 50, nmF i.1 = nmF j.1 → i = j := by decide +kernel
theorem nmF_size : ∀ i : Fin 50, (nmF i.1).size = 8 := by decide +kernel
theorem tol_target (nm : ByteArray) (li : ByteArray) : tolU (unU nm 6 [] [] nilV nilV false li) = [] := by
  unfold tolU relsU rels7 relsT relsD hasTg unU edR
  simp
theorem rel_target (nm : ByteArray) (li : ByteArray) : ∀ r ∈ relsU (unU nm 6 [] [] nilV nilV false li), ∀ s ∈ r.2.2, s.size ≤ 2000000 := by
  have : relsU (unU nm 6 [] [] nilV nilV false li) = [(1, false, []), (2, false, []), (3, false, []), (4, false, []), (5, false, []), (6, false, []), (6, true, []), (6, false, []), (6, false, [])] := by
    unfold relsU rels7 relsT relsD hasTg unU
    simp
  rw [this]
  intro r hr s hs
  simp only [List.mem_cons, List.not_mem_nil, or_false] at hr
  rcases hr with rfl | rfl | rfl | rfl | rfl | rfl | rfl | rfl | rfl <;> cases hs
theorem lit_none {w : World} (nm li : ByteArray) : UV w (litU nm 6 nilV nilV false li) (unU nm 6 [] [] nilV nilV false li) := lit_uv w nm 6 [] [] nilV nilV false li (.inl ⟨rfl, none, 0, rfl⟩) (.inl ⟨rfl, none, 0, rfl⟩)
theorem lit_nob {nm li : ByteArray} {b : Nat} (h : ubk (litU nm 6 nilV nilV false li) b) : False := by
  rcases lit_ubk h with r | r <;> cases r
/-- Where GraphFull stands: min i 40 units are there. -/
structure FI (B gb i : Nat) (w0 w : World) (S : GS) (L : UL) : Prop where
  g : Gs w S L
  hgb : S.gb = gb
  c0 : S.c = 0
  len : L.length = min i 40
  mem : ∀ x, (lku L x).isSome = true ↔ ∃ j, j < min i 40 ∧ nmF j = x
  tol : ∀ p ∈ L, tolU p.2 = []
  lo : ∀ k, hasG S k → B ≤ k
  hB : w0.heap.size = B
  bl : Below B w0 w
theorem FI.below {B gb i : Nat} {w0 w v : World} {S : GS} {L : UL} (h : FI B gb i w0 w S L) (b : Below w.heap.size w v) : FI B gb i w0 v S L :=
  ⟨h.g.below b, h.hgb, h.c0, h.len, h.mem, h.tol, h.lo, h.hB, h.bl.trans (b.mono (by have := h.bl.size; have := h.hB; omega))⟩
theorem FI.add {B gb i : Nat} {w0 w v : World} {S S' : GS} {L : UL} {cs : Array Value} (h : FI B gb i w0 w S L) (hi : i < 40) (hG : Gs v S' ((cs, unU (nmF i) 6 [] [] nilV nilV false ⟨#[]⟩) :: L)) (hgo : GsGo S w S' v 0) : FI B gb (i + 1) w0 v S' ((cs, unU (nmF i) 6 [] [] nilV nilV false ⟨#[]⟩) :: L) := by
  have hs := h.bl.size
  have hB := h.hB
  refine ⟨hG, hgo.gb.trans h.hgb, by have := hgo.c; have := h.c0; omega, by rw [List.length_cons, h.len]; omega, fun x => ?_, fun p hp => ?_, fun k hk => ?_, h.hB, h.bl.trans (hgo.mv.toBelow (by omega) (fun k hk q => by have := h.lo k q; omega))⟩
  · rw [lku_cons]
    by_cases e : (cs, unU (nmF i) 6 [] [] nilV nilV false ⟨#[]⟩).2.nm = x
    · rw [if_pos e]
      exact ⟨fun _ => ⟨i, by omega, e⟩, fun _ => rfl⟩
    · rw [if_neg e, h.mem x]
      constructor
      · rintro ⟨j, h1, h2⟩; exact ⟨j, by omega, h2⟩
      · rintro ⟨j, h1, h2⟩
        refine ⟨j, ?_, h2⟩
        rcases Nat.lt_or_ge j i with q | q
        · omega
        · obtain rfl : j = i := by omega
          exact absurd h2 e
  · rcases List.mem_cons.1 hp with rfl | hp
    · exact tol_target _ _
    · exact h.tol p hp
  · rcases hgo.gr k hk with r | r
    · exact h.lo k r
    · omega
end Go.Proofs.YtcfclknfnadgcaaDoor
/- GraphFull: the walk. -/
namespace Go.Proofs.YtcfclknfnadgcaaDoor
open Go.RowKit Go.Shelf Go.Lib
set_option maxRecDepth 100000 in
set_option maxHeartbeats 8000000 in
theorem full_walk (n : Nat) (w : World) (hg : GlN w) (hn : n < 256) : Calls Tryd.prog 4 #[.int .u8 n] w fun e w' => e = .returned (.bool true) ∧ Below w.heap.size w w' := by
  have hkn := known_any w hg
  have hgl := hidP hg
  obtain ⟨K, hK⟩ : ∃ K, n % 50 = K := ⟨_, rfl⟩
  have hK50 : K < 50 := by omega
  have hkI : (n : Int) % 50 = (K : Int) := by omega
  clear hg
  go_enter Tryd.func4, Tryd.ntmps4
  go_wp2_with fail
  refine hkn.mono ?_
  rintro e w0 ⟨rfl, hb0⟩
  have b0H := hidP hb0
  have hg0H := hidP (hgl.out.below hb0)
  have hnew := new_any w0
  clear hkn hb0 hgl
  go_wp2_with fail
  refine hnew.mono ?_
  rintro e w1 ⟨S, rfl, hG, hge, hS0, hb1⟩
  obtain ⟨gb, hgb⟩ : ∃ gb, S.gb = gb := ⟨_, rfl⟩
  obtain ⟨B, hB⟩ : ∃ B, w0.heap.size = B := ⟨_, rfl⟩
  have hI0 : Hid (∃ S L, FI B gb 0 w0 w1 S L) := by
    refine ⟨S, [], hG, hgb, hS0, rfl, fun x => ⟨fun h => (by cases h), fun ⟨j, hj, _⟩ => by omega⟩, (fun p hp => by cases hp), fun k hk => by have := hge k hk; omega, hB, ?_⟩
    rw [← hB]; exact hb1
  have glt : 0 < B ∧ 1 < B := by rw [← hB]; exact hg0H.out.lt
  rw [hgb]
  clear hnew hG hge hS0 hb1 hgb
  go_wp2_with fail
  simp only [hkI]
  go_loopw [6] (fun i wr => ∃ k : Nat, k ≤ K ∧ i = .int .i64 k ∧ Hid (∃ S L, FI B gb k w0 wr S L)) (fun i _ => K - (intOf i).toNat)
  case atStart => exact ⟨0, by omega, rfl, hI0⟩
  case round =>
    obtain ⟨i, hi, rfl, hI⟩ := hrel
    obtain ⟨S, L, hF⟩ := hI.out
    have hglr := hg0H.out.below (by rw [hB]; exact hF.bl)
    have e0 : ¬ hasG S 0 := fun q => by have := hF.lo _ q; omega
    have e1 : ¬ hasG S 1 := fun q => by have := hF.lo _ q; omega
    by_cases hlt : i < K
    · have hltI : (i : Int) < (K : Int) := by omega
      have hno : lku L (nmF i) = none := by
        cases q : lku L (nmF i) with
        | none => rfl
        | some r =>
          obtain ⟨j, h1, h2⟩ := (hF.mem (nmF i)).1 (by rw [q]; rfl)
          have := nmF_inj ⟨j, by omega⟩ ⟨i, by omega⟩ h2
          injection this with this
          omega
      have his := nmF_is ⟨i, by omega⟩
      obtain ⟨V0, hV0⟩ : ∃ V0, litU (nmF i) 6 nilV nilV false ⟨#[]⟩ = V0 := ⟨_, rfl⟩
      have hu : UV wr V0 (unU (nmF i) 6 [] [] nilV nilV false ⟨#[]⟩) := by rw [← hV0]; exact lit_none _ _
      have hnob : ∀ b, ubk V0 b → ¬ hasG S b := fun b hb => by rw [← hV0] at hb; exact (lit_nob hb).elim
      have hFH := hidP hF
      have hgbF := hF.hgb
      by_cases h40 : i < 40
      · have hadd := add_new S L V0 _ wr hF.g hu his hno (by rw [hF.len]; omega) (rel_target _ _) (by rw [tol_target, hF.c0]; decide) hglr e0 e1 hnob
        rw [tol_target, hgbF] at hadd
        unfold litU nmF ltrs tgt at hV0
        have hi40 : (i : Int) < 40 := by omega
        clear hno his hu hnob hF hglr hI hI0
        go_wp2_with (rw [hV0])
        refine hadd.mono ?_
        rintro e w2 ⟨rfl, S', cs, hG', hgo, _⟩
        have fin : Hid (∃ S L, FI B gb (i + 1) w0 w2 S L) := ⟨_, _, hFH.out.add h40 hG' hgo⟩
        clear hadd hG' hgo
        go_wp2_with fail
        exact ⟨⟨i + 1, by omega, by go_num, fin⟩, by simp [intOf]; omega⟩
      · have hadd := add_full S L V0 _ wr hF.g hu his hno (by rw [hF.len]; omega) (by rw [hF.len]; omega) hglr
        rw [hgbF] at hadd
        unfold litU nmF ltrs tgt at hV0
        have hi40 : ¬ (i : Int) < 40 := by omega
        have hi40d : decide ((i : Int) < 40) = false := decide_eq_false hi40
        clear hno his hu hnob hF hglr hI hI0
        go_wp2_with (rw [hV0])
        refine hadd.mono ?_
        rintro e w2 ⟨rfl, hb2⟩
        have fin : Hid (∃ S L, FI B gb (i + 1) w0 w2 S L) := by
          have q := hFH.out.below hb2
          exact ⟨S, L, q.g, q.hgb, q.c0, by rw [q.len]; omega, fun x => by rw [q.mem]; exact ⟨fun ⟨j, h1, h2⟩ => ⟨j, by omega, h2⟩, fun ⟨j, h1, h2⟩ => ⟨j, by omega, h2⟩⟩, q.tol, q.lo, q.hB, q.bl⟩
        clear hadd hb2
        go_wp2_with fail
        exact ⟨⟨i + 1, by omega, by go_num, fin⟩, by simp [intOf]; omega⟩
    · obtain rfl : i = K := by omega
      clear hI hI0
      by_cases hk0 : i = 0
      · as_aux_lemma =>
          subst hk0
          have hL0 : L = [] := List.eq_nil_of_length_eq_zero (by rw [hF.len]; rfl)
          have hun0 := unit_any S L ⟨#[97, 46, 116, 97, 114, 103, 101, 116]⟩ wr hF.g (by decide) zuA zuU false (.inl ⟨rfl, by rw [hL0]; rfl, rfl, rfl⟩)
          rw [hF.hgb] at hun0
          have hFH := hidP hF
          clear hF e0 e1 hglr
          go_wp2_with fail
          refine hun0.mono ?_
          rintro e w4 ⟨cs2, rfl, hcs, _, hb4⟩
          have hG4 := hidP (hFH.out.g.below hb4)
          have hgb4 := hidP hFH.out.hgb
          have hL4 : Hid (L.length = min 0 40) := hFH.out.len
          have hbl : Hid (Below B w0 w4) := (hFH.out.below hb4).bl
          have h24 : Hid (cs2[24]? = some (zuU.ot 24)) := (hcs.os 24 (by decide) (by decide)).1
          clear hb4 hun0
          have gl4 := (hg0H.out.below (by rw [hB]; exact hbl.out))
          obtain ⟨W5, hW5⟩ : ∃ W5, w4.alloc (.cells zuA 29) = W5 := ⟨_, rfl⟩
          obtain ⟨X, hst, UX, bX⟩ := fresh_store (W := w4) hcs.sz hcs.on zuA 29 rfl
          obtain ⟨q8, hq8⟩ : ∃ q8, w4.heap.size = q8 := ⟨_, rfl⟩
          rw [hW5, hq8] at hst
          rw [hq8] at UX
          have hsz := hcs.sz
          obtain ⟨A, hA⟩ : ∃ A, X.heap.size = A := ⟨_, rfl⟩
          have lX : q8 < A := by rw [← hA]; exact cell_lt (UX 0 _ hcs.c0)
          obtain ⟨Wa, hWa⟩ : ∃ Wa, X.alloc (.cells #[.int .i64 0] 3) = Wa := ⟨_, rfl⟩
          have ca : Wa.cell? ⟨A, 0, none⟩ = some (.int .i64 0) := by rw [← hWa]; exact cell_at hA rfl
          have fa : Wa.frozen? ⟨A, 0, none⟩ = false := by rw [← hWa, ← hA]; exact World.frozen?_alloc_new X _ _ 0
          have ba : Below X.heap.size X Wa := by rw [← hWa]; exact (Below.refl _ _).alloc (Nat.le_refl _) _
          obtain ⟨W6, hW6⟩ : ∃ W6, Wa.setCell ⟨A, 0, none⟩ (.int .i64 0) = W6 := ⟨_, rfl⟩
          have b6 : Below X.heap.size X W6 := by rw [← hW6]; exact ba.setCell (p := ⟨A, 0, none⟩) (by show _ ≤ A; omega) _
          have s6 : W6.heap.size = A + 1 := by rw [← hW6, ← hWa]; simp [hA]
          have hun := units_any gb W6
          obtain ⟨W7, hW7⟩ : ∃ W7, W6.alloc (.cells #[.pointer (some ⟨gb, 0, none⟩)] 25) = W7 := ⟨_, rfl⟩
          rw [hW7, s6] at hun
          have b7 : Below W6.heap.size W6 W7 := by rw [← hW7]; exact (Below.refl _ _).alloc (Nat.le_refl _) _
          have c6 : W6.cell? ⟨A, 0, none⟩ = some (.int .i64 0) := by rw [← hW6]; exact World.cell?_setCell_same' _ _ _ (by rw [ca]; rfl)
          have f6 : W6.frozen? ⟨A, 0, none⟩ = false := by rw [← hW6, World.frozen?_setCell]; exact fa
          have c7 := (Mv.below (E := fun _ => False) b7).cell (fun q => q) c6
          have f7 := ((Mv.below (E := fun _ => False) b7).froz (a := ⟨A, 0, none⟩) (fun q => q) (by show A < _; omega)).trans f6
          have p7 : W7.cell? ⟨A + 1, 0, none⟩ = some (.pointer (some ⟨gb, 0, none⟩)) := by rw [← hW7]; exact cell_at s6 rfl
          have b47 : Below w4.heap.size w4 W7 := (bX.trans (b6.mono (by omega))).trans (b7.mono (by omega))
          have g7 := hG4.out.below b47
          have hct := counted_any (A := A) (pt := A + 1) g7 (by have := hL4.out; omega) (by rw [hgb4.out]; exact p7) c7 f7 (fun q => by have := hG4.out.lt q; omega) (by omega) (fun p hp b hb e => by have := (hG4.out.uv p hp).1.lt hb; omega)
          have U7 : Ub q8 cs2 W7 := (UX.mv (Mv.below (E := fun _ => False) b6) (fun q => q)).mv (Mv.below (E := fun _ => False) b7) (fun q => q)
          have bF : Hid (Below w.heap.size w W7) := b0H.out.trans ((hbl.out.trans (b47.mono (by have := hbl.out.size; omega))).mono (by have := b0H.out.size; omega))
          have hU7 := hidP U7
          unfold zuA at hW5
          have hcsH := hidP hcs
          clear hcs UX bX ba b6 b7 c6 f6 c7 f7 p7 b47 g7 U7 gl4
          go_wp2_with (first | rw [hW5] | rw [hWa] | rw [hW6] | refine wpList_storeU rfl _ _ rfl _ rfl _ rfl hsz hst ?_)
          refine hun.mono ?_
          rintro e w8 ⟨rfl, hw8⟩
          replace hw8 := hw8.symm
          subst hw8
          clear hun hst
          go_wp2_with fail
          refine hct.mono ?_
          rintro e V ⟨rfl, mV, hcnt⟩
          have hLI := hL4.out
          have x24 := mV.cell (a := ⟨q8, 24, none⟩) (by show ¬ q8 = A; omega) (hU7.out 24 _ h24.out)
          have fin : Hid (Below w.heap.size w V) := bF.out.trans (mV.toBelow (n := w.heap.size) bF.out.size (fun k hk e => by have := b0H.out.size; have := hbl.out.size; omega))
          clear mV hct
          rw [hLI] at hcnt
          have hmn : ((min 0 40 : Nat) : Int) = min ((0 : Nat) : Int) 40 := by omega
          rw [hmn] at hcnt
          go_wp2_with fail
          go_ret
          exact ⟨rfl, fin.out⟩
      · as_aux_lemma =>
          have hk0I : (0 : Int) < (i : Int) := by omega
          obtain ⟨op, hop⟩ : ∃ op, lku L (nmF 0) = some op := Option.isSome_iff_exists.1 ((hF.mem (nmF 0)).2 ⟨0, by omega, rfl⟩)
          have hnm0 : nmF 0 = ⟨#[97, 46, 116, 97, 114, 103, 101, 116]⟩ := by decide +kernel
          rw [hnm0] at hop
          obtain ⟨V0, hV0⟩ : ∃ V0, litU ⟨#[97, 46, 116, 97, 114, 103, 101, 116]⟩ 6 nilV nilV false ⟨#[110, 101, 119]⟩ = V0 := ⟨_, rfl⟩
          have hu : UV wr V0 (unU ⟨#[97, 46, 116, 97, 114, 103, 101, 116]⟩ 6 [] [] nilV nilV false ⟨#[110, 101, 119]⟩) := by rw [← hV0]; exact lit_none _ _
          have hnob : ∀ b, ubk V0 b → ¬ hasG S b := fun b hb => by rw [← hV0] at hb; exact (lit_nob hb).elim
          have hadd := add_old S L V0 _ wr hF.g hu (show isN (⟨#[97, 46, 116, 97, 114, 103, 101, 116]⟩ : ByteArray) = true by decide +kernel) (op := op) hop (by rw [hF.len]; omega) (rel_target _ _) (by rw [tol_target, hF.c0, hF.tol op (lku_mem hop).1]; decide) hglr e0 e1 hnob
          rw [tol_target, hF.hgb, hF.tol op (lku_mem hop).1] at hadd
          unfold litU at hV0
          have hFH := hidP hF
          have hopH := hidP hop
          clear hF e0 e1 hglr hu hnob hop
          go_wp2_with (rw [hV0])
          refine hadd.mono ?_
          rintro e w3 ⟨rfl, S', cs, hG3, hgo, _⟩
          have hbl3 : Hid (Below B w0 w3) := hFH.out.bl.trans (hgo.mv.toBelow (by have := hFH.out.bl.size; have := hFH.out.hB; omega) (fun k hk q => by have := hFH.out.lo k q; omega))
          have hL3 : Hid (((cs, unU ⟨#[97, 46, 116, 97, 114, 103, 101, 116]⟩ 6 [] [] nilV nilV false ⟨#[110, 101, 119]⟩) :: rmU L (unU ⟨#[97, 46, 116, 97, 114, 103, 101, 116]⟩ 6 [] [] nilV nilV false ⟨#[110, 101, 119]⟩).nm).length = min i 40) := by
            have := (rm_split hFH.out.g.nd hopH.out).1
            have h5 := hFH.out.len
            show _ + 1 = _
            change (rmU L (⟨#[97, 46, 116, 97, 114, 103, 101, 116]⟩ : ByteArray)).length + 1 = _
            omega
          have hun0 := unit_any S' _ ⟨#[97, 46, 116, 97, 114, 103, 101, 116]⟩ w3 hG3 (by decide) cs (unU ⟨#[97, 46, 116, 97, 114, 103, 101, 116]⟩ 6 [] [] nilV nilV false ⟨#[110, 101, 119]⟩) true (.inr ⟨rfl, by rw [lku_cons]; exact if_pos rfl⟩)
          have hgb3 := hgo.gb.trans hFH.out.hgb
          rw [hgb3] at hun0
          have hG3H := hidP hG3
          clear hadd hG3 hgo
          go_wp2_with fail
          refine hun0.mono ?_
          rintro e w4 ⟨cs2, rfl, hcs, _, hb4⟩
          have hG4 := hidP (hG3H.out.below hb4)
          have hgb4 := hidP hgb3
          have hL4 := hL3
          have hbl : Hid (Below B w0 w4) := hbl3.out.trans (hb4.mono (by have := hbl3.out.size; omega))
          have h24 : Hid (cs2[24]? = some (.string ⟨#[110, 101, 119]⟩)) := (hcs.os 24 (by decide) (by decide)).1
          clear hb4 hun0
          have gl4 := (hg0H.out.below (by rw [hB]; exact hbl.out))
          obtain ⟨W5, hW5⟩ : ∃ W5, w4.alloc (.cells zuA 29) = W5 := ⟨_, rfl⟩
          obtain ⟨X, hst, UX, bX⟩ := fresh_store (W := w4) hcs.sz hcs.on zuA 29 rfl
          obtain ⟨q8, hq8⟩ : ∃ q8, w4.heap.size = q8 := ⟨_, rfl⟩
          rw [hW5, hq8] at hst
          rw [hq8] at UX
          have hsz := hcs.sz
          obtain ⟨A, hA⟩ : ∃ A, X.heap.size = A := ⟨_, rfl⟩
          have lX : q8 < A := by rw [← hA]; exact cell_lt (UX 0 _ hcs.c0)
          obtain ⟨Wa, hWa⟩ : ∃ Wa, X.alloc (.cells #[.int .i64 0] 3) = Wa := ⟨_, rfl⟩
          have ca : Wa.cell? ⟨A, 0, none⟩ = some (.int .i64 0) := by rw [← hWa]; exact cell_at hA rfl
          have fa : Wa.frozen? ⟨A, 0, none⟩ = false := by rw [← hWa, ← hA]; exact World.frozen?_alloc_new X _ _ 0
          have ba : Below X.heap.size X Wa := by rw [← hWa]; exact (Below.refl _ _).alloc (Nat.le_refl _) _
          obtain ⟨W6, hW6⟩ : ∃ W6, Wa.setCell ⟨A, 0, none⟩ (.int .i64 0) = W6 := ⟨_, rfl⟩
          have b6 : Below X.heap.size X W6 := by rw [← hW6]; exact ba.setCell (p := ⟨A, 0, none⟩) (by show _ ≤ A; omega) _
          have s6 : W6.heap.size = A + 1 := by rw [← hW6, ← hWa]; simp [hA]
          have hun := units_any gb W6
          obtain ⟨W7, hW7⟩ : ∃ W7, W6.alloc (.cells #[.pointer (some ⟨gb, 0, none⟩)] 25) = W7 := ⟨_, rfl⟩
          rw [hW7, s6] at hun
          have b7 : Below W6.heap.size W6 W7 := by rw [← hW7]; exact (Below.refl _ _).alloc (Nat.le_refl _) _
          have c6 : W6.cell? ⟨A, 0, none⟩ = some (.int .i64 0) := by rw [← hW6]; exact World.cell?_setCell_same' _ _ _ (by rw [ca]; rfl)
          have f6 : W6.frozen? ⟨A, 0, none⟩ = false := by rw [← hW6, World.frozen?_setCell]; exact fa
          have c7 := (Mv.below (E := fun _ => False) b7).cell (fun q => q) c6
          have f7 := ((Mv.below (E := fun _ => False) b7).froz (a := ⟨A, 0, none⟩) (fun q => q) (by show A < _; omega)).trans f6
          have p7 : W7.cell? ⟨A + 1, 0, none⟩ = some (.pointer (some ⟨gb, 0, none⟩)) := by rw [← hW7]; exact cell_at s6 rfl
          have b47 : Below w4.heap.size w4 W7 := (bX.trans (b6.mono (by omega))).trans (b7.mono (by omega))
          have g7 := hG4.out.below b47
          have hct := counted_any (A := A) (pt := A + 1) g7 (by have := hL4.out; omega) (by rw [hgb4.out]; exact p7) c7 f7 (fun q => by have := hG4.out.lt q; omega) (by omega) (fun p hp b hb e => by have := (hG4.out.uv p hp).1.lt hb; omega)
          have U7 : Ub q8 cs2 W7 := (UX.mv (Mv.below (E := fun _ => False) b6) (fun q => q)).mv (Mv.below (E := fun _ => False) b7) (fun q => q)
          have bF : Hid (Below w.heap.size w W7) := b0H.out.trans ((hbl.out.trans (b47.mono (by have := hbl.out.size; omega))).mono (by have := b0H.out.size; omega))
          have hU7 := hidP U7
          unfold zuA at hW5
          have hcsH := hidP hcs
          clear hcs UX bX ba b6 b7 c6 f6 c7 f7 p7 b47 g7 U7 gl4
          go_wp2_with (first | rw [hW5] | rw [hWa] | rw [hW6] | refine wpList_storeU rfl _ _ rfl _ rfl _ rfl hsz hst ?_)
          refine hun.mono ?_
          rintro e w8 ⟨rfl, hw8⟩
          replace hw8 := hw8.symm
          subst hw8
          clear hun hst
          go_wp2_with fail
          refine hct.mono ?_
          rintro e V ⟨rfl, mV, hcnt⟩
          have hLI := hL4.out
          have x24 := mV.cell (a := ⟨q8, 24, none⟩) (by show ¬ q8 = A; omega) (hU7.out 24 _ h24.out)
          have fin : Hid (Below w.heap.size w V) := bF.out.trans (mV.toBelow (n := w.heap.size) bF.out.size (fun k hk e => by have := b0H.out.size; have := hbl.out.size; omega))
          clear mV hct
          rw [hLI] at hcnt
          have hmn : ((min i 40 : Nat) : Int) = min (i : Int) 40 := by omega
          rw [hmn] at hcnt
          go_wp2_with fail
          go_ret
          exact ⟨rfl, fin.out⟩
end Go.Proofs.YtcfclknfnadgcaaDoor
