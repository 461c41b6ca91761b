/- The groups' sets, by name, rising: sets as a row. -/
import Derived.Test.YtgienkdfodjoiaaGreatGL
import Derived.Test.YtgienkdfodjoiaaGreatGQ
import Derived.Test.YtgienkdfodjoiaaGreatIt3
import Derived.Test.YtgienkdfodjoiaaGreatShelfT
import Derived.Sort.KeysCollected
namespace Go.Proofs.YtgienkdfodjoiaaGreat.Cg
open Go.RowKit Go.Shelf Go.Lib Go.Sort Go.Maps
attribute [local go_sem] Oper.semAt_some
def byt (s : ByteArray) : List UInt8 := s.data.toList
theorem byt_inj {a b : ByteArray} (h : byt a = byt b) : a = b := ByteArray.ext (Array.toList_inj.1 h)
theorem sLt_iff (a b : ByteArray) : sLt a b = true ↔ byt a < byt b := by
  unfold sLt byt
  rw [bytesLess_eq, decide_eq_true_eq, ByteArray.toList_eq, ByteArray.toList_eq]
theorem keys_names {w : World} {b m : Nat} {D : DataW Value} {l : Gl} (h : w.ownsMap Tryz.prog 9 heldElem b m D) (v : Vw eS D (fun s => (fnd l s).map gV)) (hn : srtG l) : ((l.map G.name).map byt).Perm (strKeys D) := by
  obtain ⟨es, hD, hpw, _⟩ := h.entries lawS
  obtain ⟨es', hD', hko⟩ := h.keysOf
  obtain rfl : es = es' := by rw [hD] at hD'; simpa using hD'
  subst hD
  refine perm_strKeys hpw (fun p hp => by obtain ⟨v, hv⟩ := hko p hp; obtain ⟨x, _, hx, _⟩ := Maps.keyOf_str Tryz.underlying9 hv; exact ⟨x, hx⟩) ?_ (fun x => ?_)
  · refine List.pairwise_map.2 (List.pairwise_map.2 (hn.imp (fun {a b} q e => ?_)))
    rw [sLt_iff, e] at q
    exact absurd q (List.lt_irrefl _)
  · have := v.has ⟨x.toArray⟩
    unfold eS at this
    rw [show (⟨x.toArray⟩ : ByteArray).data.toList = x from rfl] at this
    rw [this, Option.isSome_map]
    constructor
    · intro q
      obtain ⟨s, hs, rfl⟩ := List.mem_map.1 q
      obtain ⟨g, hg, rfl⟩ := List.mem_map.1 hs
      cases e : fnd l g.name with
      | none => exact absurd rfl (fnd_none.1 e g hg)
      | some y => exact (congrArg Option.isSome e).trans rfl
    · intro q
      obtain ⟨y, hy⟩ := Option.isSome_iff_exists.1 q
      exact List.mem_map.2 ⟨y.name, List.mem_map.2 ⟨y, fnd_mem hy, rfl⟩, by rw [fnd_name hy]; rfl⟩
theorem sort_names {ns : List ByteArray} {ss : List (List UInt8)} (hs : ns.Pairwise fun a b => sLt a b = true) (hp : ss.Perm (ns.map byt)) : ss.mergeSort (fun x y => decide (x ≤ y)) = ns.map byt := by
  rw [mergeSort_of_perm hp]
  refine List.mergeSort_of_pairwise ?_
  refine List.pairwise_map.2 (hs.imp (fun {a b} q => ?_))
  rw [sLt_iff] at q
  simp only [leB, decide_eq_true_eq]
  exact List.le_of_lt q
def encG (g : G) : Array Value := #[.string g.name, .map (some g.blk)]
theorem drop_at {l : Gl} {k : Nat} {x : G} (h : l[k]? = some x) : l.drop k = x :: l.drop (k + 1) := by
  obtain ⟨h1, h2⟩ := List.getElem?_eq_some_iff.1 h
  rw [List.drop_eq_getElem_cons h1, h2]
theorem nm_row {W : World} {base : Nat} {v : Value} {ns : List ByteArray} (h : W.ownsRow base 9 1 v ns.length ((ns.map byt).map encStr)) : ∃ a gk cap, v = .slice a ns.length cap ∧ (0 < ns.length → a = some ⟨gk, 0, none⟩ ∧ base ≤ gk) ∧ ∀ (k : Nat) (x : ByteArray), ns[k]? = some x → W.cell? ⟨gk, k, none⟩ = some (.string x) := by
  rcases h.2 with ⟨rfl, h0⟩ | ⟨g, cap, cur, rfl, hb, _⟩
  · refine ⟨none, 0, 0, by rw [h0], fun q => by omega, fun k x hx => ?_⟩
    have := (List.getElem?_eq_some_iff.1 hx).1
    omega
  · refine ⟨_, g, _, rfl, fun _ => ⟨rfl, hb⟩, fun k x hx => ?_⟩
    have := h.cells (g := g) rfl k (encStr (byt x)) (by rw [List.getElem?_map, List.getElem?_map, hx]; rfl)
    rw [Addr.add_lit, Nat.zero_add] at this
    exact this
set_option maxRecDepth 100000 in
set_option maxHeartbeats 1000000 in
theorem sets_any (b : Nat) (w : World) : Calls Tryz.prog 106 #[.pointer (some ⟨b, 3, none⟩)] w fun e w' => e = .returned (.func (.func 115) #[] #[.pointer (some ⟨w.heap.size, 0, none⟩)]) ∧ w' = w.alloc (.cells #[.pointer (some ⟨b, 3, none⟩)] 31) := by
  go_enter Tryz.func106, Tryz.ntmps106
  go_wp2_with fail
  go_ret
  exact ⟨rfl, rfl⟩
set_option maxRecDepth 100000 in
set_option maxHeartbeats 1000000 in
theorem all_any (b : Nat) (w : World) : Calls Tryz.prog 87 #[.pointer (some ⟨b, 3, none⟩)] w fun e w' => e = .returned (.func (.func 105) #[] #[.pointer (some ⟨w.heap.size, 0, none⟩)]) ∧ w' = w.alloc (.cells #[.pointer (some ⟨b, 3, none⟩)] 31) := by
  go_enter Tryz.func87, Tryz.ntmps87
  go_wp2_with fail
  go_ret
  exact ⟨rfl, rfl⟩
set_option maxRecDepth 100000 in
set_option maxHeartbeats 4000000 in
theorem sets_row (S : St) (pt : Nat) (E : Nat → Prop) (W : World) (h : Gs W S) (hs : srtG S.l) (hc : S.c ≤ 900000) (hl : S.l.length ≤ 1000) (ct : W.cell? ⟨pt, 0, none⟩ = some (.pointer (some ⟨S.bt, 3, none⟩))) (et : ¬ E pt) (eB : ∀ k, hasB S k → ¬ E k) :
    Row Tryz.prog 115 #[.pointer (some ⟨pt, 0, none⟩)] encG S.l E W := by
  intro l1 J Jx E1 V m g hJ hJx hY h0
  have ctV := m.cell et ct
  have etV : ¬ E1 pt := g.free (cell_lt ct) et
  have hV : Gs V S := h.mv m eB
  have eB1 : Hid (∀ k, hasB S k → ¬ E1 k) := fun k hk => g.free (h.lt hk) (eB k hk)
  obtain ⟨n, hn⟩ : ∃ n, S.l.length = n := ⟨_, rfl⟩
  have hN := hidP hn
  have hlenH : Hid (n ≤ 1000) := by show _ ≤ _; omega
  have hVH := hidP hV
  have hsH := hidP hs
  have hcH := hidP hc
  have hJH := hidP hJ
  have hYH := hidP hY
  have h0H := hidP h0
  have c0 := hV.c0
  obtain ⟨mm, hmm, D, d1, d2, d3⟩ := hV.held
  have hp := keys_names d1 d3 hs
  have hso := Tryz.slices_SortedS S.bh _ D heldElem V d1 (by rw [d2]; unfold maxLen; omega) (by rw [d2]; omega)
  have hpH := hidP hp
  have hsoH := hidP hso
  clear h0 hJ hJx hY hn hl hs hc m g ct et h hV eB hmm d1 d2 d3 hp hso
  refine (callsIn_wide (n := 5)).1 ?_
  refine callsIn_of_wp Tryz.func115 rfl trivial ?_ rfl
  simp only [Tryz.ntmps115, List.size_toArray, List.length_cons, List.length_nil, Nat.reduceAdd, Nat.reduceSub, Array.replicate_succ, Array.replicate_zero, List.push_toArray, List.append_toArray, List.nil_append, List.cons_append]
  gi_wp2_with fail
  refine ⟨trivial, (callsIn_wide.2 (Tryz.maps_KeysS _ _)).mono ?_⟩
  rintro e w2 ⟨rfl, rfl⟩
  gi_wp2_with fail
  refine ⟨trivial, (callsIn_wide.2 hsoH.out).mono ?_⟩
  rintro e w3 ⟨vk, ss, rfl, hps, hrow, _, hb3⟩
  have hperm := hps.trans hpH.out.symm
  rw [sort_names (List.pairwise_map.2 hsH.out) hperm, hperm.length_eq, List.length_map] at hrow
  obtain ⟨a, gk, cap, rfl, hak, hck⟩ := nm_row hrow
  rw [List.length_map, hN.out] at hak ⊢
  have m13 : ∀ F, Mv F V w3 := fun F => (Mv.alloc _ _ _).trans' (Mv.below hb3)
  have hj0 : Hid (J (S.l.drop 0) E1 w3) := hJH.out.keep _ _ _ _ h0H.out (m13 _)
  have M3 : Hid (Mv E1 V w3) := m13 _
  have hE1 : Hid (∀ k, E1 k → k < V.heap.size) := fun k hk => hJH.out.low _ _ _ h0H.out k hk
  have hgk0 : Hid (0 < n → ¬ E1 gk) := fun h0 e => by have := hE1.out _ e; have := (hak h0).2; simp at this; omega
  have hck3 : Hid (∀ (k : Nat) (x : G), S.l[k]? = some x → w3.cell? ⟨gk, k, none⟩ = some (.string x.name)) := fun k x hx => hck k x.name (by rw [List.getElem?_map, hx]; rfl)
  have hakH := hidP hak
  clear hps hrow hb3 hck hak hsoH hpH m13 hperm c0
  gi_wp2_with fail
  gi_loopw [12] (fun i wr => ∃ (k : Nat) (E2 : Nat → Prop), k ≤ n ∧ i = .int .i64 k ∧ Hid (J (S.l.drop k) E2 wr) ∧ Hid (Mv E1 V wr) ∧ Hid (Gr E1 V E2) ∧ Hid (0 < n → ¬ E2 gk) ∧ Hid (∀ (k : Nat) (x : G), S.l[k]? = some x → wr.cell? ⟨gk, k, none⟩ = some (.string x.name))) (fun i _ => n - (intOf i).toNat)
  case atStart => exact ⟨0, E1, by omega, rfl, hj0, M3, Gr.refl _ _, hgk0, hck3⟩
  case round =>
    obtain ⟨k, E2, hk, rfl, hj, hm, hg, hgk, hcs⟩ := hrel
    by_cases hlt : k < n
    · obtain ⟨x, hx⟩ : ∃ x, S.l[k]? = some x := ⟨_, List.getElem?_eq_getElem (by rw [hN.out]; exact hlt)⟩
      obtain ⟨rfl, hgb⟩ := hakH.out (by omega)
      have hcell := hcs.out k x hx
      have ctr := hm.out.cell etV ctV
      have hGr : Gs wr S := hVH.out.mv hm.out eB1.out
      have c0 := hGr.c0
      obtain ⟨mm, hmm, ho⟩ := hGr.held
      have hmem := List.mem_of_getElem? hx
      have hlk := ho.look1 lawS (t := 103) Tryz.underlying103 (zeroG wr) (keyS (hGr.wf.sz x hmem))
      rw [hGr.wf.fnd_of hmem] at hlk
      simp only [Option.map_some, Option.getD_some, gV] at hlk
      have hfd : ∀ W : World, (Instr.field 131 (.agg #[.string x.name, .map (some x.blk)]) 1).run Tryz.prog W = .ok (.map (some x.blk)) W := fun W => by kernel_rfl
      have hj2 := hj.out
      rw [drop_at hx] at hj2
      obtain ⟨fn, tmps, assign, body, hy, hR⟩ := hYH.out x _ E2 wr hj2
      simp only [encG] at hy
      have hgl : Hid (gk < wr.heap.size) := cell_lt hcell
      have hkI : (k : Int) < (n : Int) := by omega
      have hn1 : (n : Int) ≤ 1000 := by have := hlenH.out; omega
      have hRH := hidP hR
      clear hj2 hGr hmm ho hmem hx hgb hR
      gi_wp2_with fail
      refine (wide_round' hRH.out).mono ?_
      rintro e w4 ⟨m4, (⟨rfl, E4, g4, hj4⟩ | ⟨rfl, E4, g4, hj4⟩)⟩
      · have m4H := hidP m4
        have g4H := hidP g4
        have hj4H := hidP hj4
        clear m4 g4 hj4 hcell hlk hfd hy ctr c0
        gi_wp2_with fail
        refine ⟨⟨k + 1, E4, by omega, by go_num, hj4H, hm.out.trans hg.out m4H.out, hg.out.trans hm.out.size g4H.out, fun h0 => g4H.out.free hgl.out (hgk.out h0), fun j x hx => m4H.out.cell (hgk.out (by omega)) (hcs.out j x hx)⟩, by simp [intOf]; omega⟩
      · have m4H := hidP m4
        have g4H := hidP g4
        have hj4H := hidP hj4
        clear m4 g4 hj4 hcell hlk hfd hy ctr c0
        gi_wp2_with fail
        refine bodyPost_ret (results_none rfl _ _ _) rfl ?_
        exact ⟨⟨_, rfl⟩, hm.out.trans hg.out m4H.out, .inr ⟨E4, hg.out.trans hm.out.size g4H.out, hj4H.out⟩⟩
    · obtain rfl : k = n := by omega
      have hjn := hj.out
      rw [List.drop_of_length_le (by rw [hN.out]; omega)] at hjn
      have hjnH := hidP hjn
      clear hjn
      gi_wp2_with fail
      go_end0
      exact ⟨⟨_, rfl⟩, hm.out, .inl ⟨E2, hg.out, hjnH.out⟩⟩
end Go.Proofs.YtgienkdfodjoiaaGreat.Cg
