/- The names of port's sockets, rising; the law's closure that gathers them. -/
import Derived.Test.YtppbdamlhcmlcaaPN
import Derived.Test.YtppbdamlhcmlcaaRA
import Derived.Test.YtppbdamlhcmlcaaShelfK
import Derived.Sort.KeysCollected
namespace Go.Proofs.Ytppbdamlhcmlcaa
open Go.RowKit Go.Shelf Go.Lib Go.Sort Go.Maps
def byt (s : ByteArray) : List UInt8 := s.data.toList
theorem byt_inj {a b : ByteArray} (h : byt a = byt b) : a = b := ByteArray.ext (Array.toList_inj.1 h)
/-- The names, rising, each once. -/
structure Nms (S : St) (ns : List ByteArray) : Prop where
  s : ns.Pairwise fun a b => sLt a b = true
  m : ∀ x, x ∈ ns ↔ ((pl S).q x).isSome = true
theorem sLt_iff (a b : ByteArray) : sLt a b = true ↔ byt a < byt b := by
  unfold sLt byt
  rw [bytesLess_eq, decide_eq_true_eq, ByteArray.toList_eq, ByteArray.toList_eq]
theorem keys_names {w : World} {b m : Nat} {D : DataW Value} {S : St} {ns : List ByteArray} (h : w.ownsMap Try.prog 9 heldElem b m D) (v : Vw eS D (fun s => (S.sock s).map qV)) (hn : Nms S ns) : (ns.map byt).Perm (strKeys D) := by
  obtain ⟨es, hD, hpw, _⟩ := h.entries lawS
  obtain ⟨es', hD', hko⟩ := h.keysOf
  obtain rfl : es = es' := by rw [hD] at hD'; simpa using hD'
  subst hD
  refine perm_strKeys hpw (fun p hp => by obtain ⟨v, hv⟩ := hko p hp; obtain ⟨x, _, hx, _⟩ := Maps.keyOf_str Try.underlying9 hv; exact ⟨x, hx⟩) ?_ (fun x => ?_)
  · refine List.pairwise_map.2 (hn.s.imp (fun {a b} q e => ?_))
    rw [sLt_iff, e] at q
    exact absurd q (List.lt_irrefl _)
  · have := v.has ⟨x.toArray⟩
    unfold eS at this
    rw [show (⟨x.toArray⟩ : ByteArray).data.toList = x from rfl] at this
    rw [this, Option.isSome_map]
    constructor
    · intro q
      obtain ⟨s, hs, rfl⟩ := List.mem_map.1 q
      have := (hn.m s).1 hs
      rw [pl_q, Option.isSome_map] at this
      exact this
    · intro q
      refine List.mem_map.2 ⟨⟨x.toArray⟩, (hn.m _).2 (by rw [pl_q, Option.isSome_map]; exact q), rfl⟩
theorem sort_names {ns : List ByteArray} {ss : List (List UInt8)} (hs : ns.Pairwise fun a b => sLt a b = true) (hp : ss.Perm (ns.map byt)) : ss.mergeSort (fun x y => decide (x ≤ y)) = ns.map byt := by
  rw [mergeSort_of_perm hp]
  refine List.mergeSort_of_pairwise ?_
  refine List.pairwise_map.2 (hs.imp (fun {a b} q => ?_))
  rw [sLt_iff] at q
  simp only [leB, decide_eq_true_eq]
  exact List.le_of_lt q
set_option maxRecDepth 100000 in
set_option maxHeartbeats 2000000 in
theorem plays1_any (A : Nat) (v : Value) (xs : List ByteArray) (s : ByteArray) (w : World) (hc : Cl A v w) (hn : NS w v xs) (hA : nb v ≠ some A) (hl : xs.length < 199) :
    Calls Try.prog 26 #[.string s, .pointer (some ⟨A, 0, none⟩)] w fun e w' => e = .returned (.bool true) ∧ ∃ v', Cl A v' w' ∧ NS w' v' (xs ++ [s]) ∧ nb v' ≠ some A ∧ Mv (fun k => k = A ∨ nb v = some k) w w' ∧ (nb v' = nb v ∨ ∃ k, nb v' = some k ∧ w.heap.size ≤ k) := by
  obtain ⟨V, hV⟩ : ∃ V, w.alloc (.cells #[.string s] 9) = V := ⟨_, rfl⟩
  have mV : Mv (fun _ => False) w V := by rw [← hV]; exact Mv.alloc _ _ _
  obtain ⟨v', w4, hrun, hns, mv4, hat⟩ := (hn.mv mV (fun _ _ h => h)).append (a := ⟨w.heap.size, 0, none⟩) (s := s) (c := 1) (by rw [← hV]; exact cell_at rfl rfl) (by omega) 56
  have mm : Mv (fun k => nb v = some k) w w4 := (mV.mono (fun _ _ h => h.elim)).trans' mv4
  have c4 := hc.mv mm hA
  have hat' : nb v' = nb v ∨ ∃ k, nb v' = some k ∧ w.heap.size ≤ k := hat.imp id (fun ⟨k, e, hk⟩ => ⟨k, e, Nat.le_trans mV.size hk⟩)
  have hA' : nb v' ≠ some A := fun e => by
    rcases hat' with q | ⟨k, q, hk⟩
    · exact hA (q ▸ e)
    · rw [e] at q; injection q with q
      have := hc.lt
      omega
  have c0 := hc.c
  have d0 := c4.c
  have d1 := c4.f
  have e0 := (c4.set v').c
  obtain ⟨p, c, hv⟩ := hn.shape
  obtain ⟨p', c', hv'⟩ := hns.shape
  obtain ⟨m, hm⟩ : ∃ m, (xs ++ [s]).length = m := ⟨_, rfl⟩
  have hmI : (m : Int) < 200 := by rw [← hm]; simp; omega
  have fin : Hid (∃ v'', Cl A v'' (w4.setCell ⟨A, 0, none⟩ v') ∧ NS (w4.setCell ⟨A, 0, none⟩ v') v'' (xs ++ [s]) ∧ nb v'' ≠ some A ∧ Mv (fun k => k = A ∨ nb v = some k) w (w4.setCell ⟨A, 0, none⟩ v') ∧ (nb v'' = nb v ∨ ∃ k, nb v'' = some k ∧ w.heap.size ≤ k)) :=
    ⟨v', c4.set v', hns.mv (E := fun k => k = A) (Mv.set1 (E := fun k => k = A) rfl _) (fun k hk e => hA' (e ▸ hk)), hA', (mm.mono (fun k _ e => .inr e)).setc (p := ⟨A, 0, none⟩) (.inl (.inl rfl)) _, hat'⟩
  rw [hm] at hv'
  subst hv'
  rw [hv] at hrun c0 d0
  clear hc hn hA hl mV hns mv4 hat mm c4 hat' hA' hv hm
  go_enter Try.func26, Try.ntmps26
  go_wp2_with (first | rw [hV] | (at_builtin; refine wpList_append_run rfl _ _ 56 rfl _ _ _ _ rfl rfl hrun ?_))
  go_ret
  exact ⟨rfl, fin.out⟩
set_option maxRecDepth 100000 in
set_option maxHeartbeats 2000000 in
theorem listening_any (b : Nat) (w : World) : Calls Try.prog 25 #[.pointer (some ⟨b, 0, none⟩)] w fun e w' => e = .returned (.func (.func 35) #[] #[.pointer (some ⟨w.heap.size, 0, none⟩)]) ∧ w' = w.alloc (.cells #[.pointer (some ⟨b, 0, none⟩)] 24) := by
  go_enter Try.func25, Try.ntmps25
  go_wp2_with fail
  go_ret
  exact ⟨rfl, rfl⟩
/-- Gathering, between two names. -/
structure Gn (w : World) (N A : Nat) (xs : List ByteArray) (V : World) : Prop where
  x : ∃ v, Cl A v V ∧ NS V v xs ∧ nb v ≠ some A ∧ ∀ k, nb v = some k → N ≤ k
  m : Mv (fun k => k = A) w V
set_option maxRecDepth 100000 in
set_option maxHeartbeats 2000000 in
theorem listening1_any (S : St) (ns : List ByteArray) (A B : Nat) (w : World) (h : Ps w S) (hn : Nms S ns) (hl : ns.length ≤ 190) (cB : w.cell? ⟨B, 0, none⟩ = some (.pointer (some ⟨S.bt, 0, none⟩))) (hc : Cl A (.slice none 0 0) w) (hA : ¬ hasB S A) (hc9 : S.c ≤ 900000) :
    Calls Try.prog 35 #[.func (.func 26) #[] #[.pointer (some ⟨A, 0, none⟩)], .pointer (some ⟨B, 0, none⟩)] w fun e w' => (∃ r, e = .returned r) ∧ Gn w w.heap.size A ns w' := by
  obtain ⟨m, hm, D, h1, h2, h3⟩ := h.map
  have hp := keys_names h1 h3 hn
  have hso := hidP (Try.slices_Sorted S.bh _ D heldElem w h1 (by rw [h2]; unfold maxLen; omega) (by rw [h2]; omega))
  have hpH := hidP hp
  have hnH := hidP hn
  have c0 := h.c0
  have hcH := hidP (And.intro hc hA)
  obtain ⟨n, hnn⟩ : ∃ n, ns.length = n := ⟨_, rfl⟩
  have hnnH := hidP hnn
  rw [hnn] at hl
  clear h hn hp h1 h2 h3 hc hA hnn
  go_enter Try.func35, Try.ntmps35
  go_wp2_with fail
  refine (Try.maps_Keys _ _).mono ?_
  rintro e w2 ⟨rfl, rfl⟩
  go_wp2_with fail
  refine hso.out.mono ?_
  rintro e w3 ⟨v, ss, rfl, hps, hrow, _, hb3⟩
  have hperm := hps.trans hpH.out.symm
  rw [sort_names hnH.out.s hperm, hperm.length_eq, List.length_map, hnnH.out] at hrow
  have hb : Below w.heap.size w w3 := ((Below.refl _ w).alloc (Nat.le_refl _) _).trans (hb3.mono (by simp))
  have hsl : ∃ p c, v = .slice p n c := by
    rcases hrow.2 with ⟨rfl, h0⟩ | ⟨g, cap, cur, rfl, _⟩
    · exact ⟨_, _, by rw [h0]⟩
    · exact ⟨_, _, rfl⟩
  obtain ⟨p, c, rfl⟩ := hsl
  have hnew : ∀ k, (Value.slice p n c).ownBlock = some k → w.heap.size < k := fun k hk => by
    have := (hrow.lt k hk).1
    simp at this
    omega
  have G0 : Hid (Gn w w3.heap.size A [] w3) := ⟨⟨_, hcH.out.1.mv (E := fun _ => False) (Mv.below hb) (fun h => h), .inl ⟨rfl, rfl⟩, fun e => by (cases e), fun k e => by (cases e)⟩, Mv.below hb⟩
  have hrowH := hidP (And.intro hrow hnew)
  have hAl : Hid (A < w.heap.size ∧ w.heap.size ≤ w3.heap.size) := ⟨hcH.out.1.lt, hb.size⟩
  clear hso hps hperm hrow hb3 hb hnew
  go_wp2_with fail
  go_loopw [12] (fun i wr => ∃ j : Nat, j ≤ n ∧ i = .int .i64 j ∧ Hid (Gn w w3.heap.size A (ns.take j) wr ∧ Mv (fun k => k = A ∨ w3.heap.size ≤ k) w3 wr)) (fun i _ => n - (intOf i).toNat)
  case atStart => exact ⟨0, by omega, rfl, G0.out, Mv.refl _ _⟩
  case round =>
    clear G0
    obtain ⟨j, hj, rfl, hI⟩ := hrel
    by_cases hlt : j < n
    · have hltI : (j : Int) < (n : Int) := by omega
      obtain ⟨x, hx⟩ : ∃ x, ns[j]? = some x := ⟨_, List.getElem?_eq_getElem (by have := hnnH.out; omega)⟩
      obtain ⟨⟨v, g1, g2, g3, g4⟩, gm⟩ := hI.out.1
      have hm2 := hI.out.2
      have hrow := hrowH.out.1
      rcases hrow.2 with ⟨_, h0⟩ | ⟨g, cap, cur, e, hgb, hg, _⟩
      · omega
      injection e with e1 _ e3
      subst e1 e3
      have hgl := (hrow.lt g rfl).2
      have hgn := hrowH.out.2 g rfl
      have cx : wr.cell? ⟨g, j, none⟩ = some (.string x) := by
        have := hrow.cells (g := g) rfl j (encStr (byt x)) (by rw [List.getElem?_map, List.getElem?_map, hx]; rfl)
        rw [Addr.add_lit, Nat.zero_add] at this
        exact hm2.cell (a := ⟨g, j, none⟩) (fun e => by have := hAl.out.1; rcases e with e | e <;> simp only at e <;> omega) this
      have hP := hidP (plays1_any A v (ns.take j) x wr g1 g2 g3 (by rw [List.length_take]; omega))
      have hNx : Hid (∀ W', (∃ v', Cl A v' W' ∧ NS W' v' (ns.take j ++ [x]) ∧ nb v' ≠ some A ∧ Mv (fun k => k = A ∨ nb v = some k) wr W' ∧ (nb v' = nb v ∨ ∃ k, nb v' = some k ∧ wr.heap.size ≤ k)) → Gn w w3.heap.size A (ns.take (j + 1)) W' ∧ Mv (fun k => k = A ∨ w3.heap.size ≤ k) w3 W') := by
        rintro W' ⟨v', a1, a2, a3, a4, a5⟩
        have e1 : ns.take (j + 1) = ns.take j ++ [x] := by rw [List.take_add_one, hx]; rfl
        rw [e1]
        have hle := hm2.size
        refine ⟨⟨⟨v', a1, a2, a3, fun k hk => ?_⟩, ⟨a4.os.trans gm.os, a4.tape.trans gm.tape, a4.output.trans gm.output, Nat.le_trans gm.size a4.size, fun k hk hne => (a4.block k (Nat.lt_of_lt_of_le hk gm.size) (fun q => ?_)).trans (gm.block k hk hne)⟩⟩, hm2.trans' (a4.mono (fun k _ q => q.imp id (fun q => g4 k q)))⟩
        · rcases a5 with q | ⟨k2, q, hk2⟩
          · exact g4 k (q ▸ hk)
          · rw [hk] at q; injection q with q; subst q; omega
        · rcases q with q | q
          · exact hne q
          · have := g4 k q; have := hAl.out.2; omega
      clear hI g1 g2 g3 g4 gm hm2 hrow hg hgb hgl hgn hx
      go_wp2_with fail
      refine hP.out.mono ?_
      rintro e W' ⟨rfl, hX⟩
      have hN2 := hidP (hNx.out W' hX)
      clear hP hNx hX
      go_wp2_with fail
      exact ⟨⟨j + 1, by omega, by go_num, hN2⟩, by simp [intOf]; omega⟩
    · obtain rfl : j = n := by omega
      have fin : Hid (Gn w w.heap.size A ns wr) := by
        obtain ⟨⟨v, g1, g2, g3, g4⟩, gm⟩ := hI.out.1
        rw [List.take_of_length_le (by have := hnnH.out; omega)] at g2
        exact ⟨⟨v, g1, g2, g3, fun k hk => Nat.le_trans hAl.out.2 (g4 k hk)⟩, gm⟩
      clear hI
      go_wp2_with fail
      refine bodyPost_end (v := .tuple #[]) (by simp [results, Try.results35, go_sem]) rfl ?_
      exact ⟨⟨_, rfl⟩, fin.out⟩
end Go.Proofs.Ytppbdamlhcmlcaa
