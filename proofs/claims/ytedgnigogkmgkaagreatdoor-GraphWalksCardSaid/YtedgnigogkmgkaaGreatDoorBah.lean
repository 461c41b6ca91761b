import Derived.Test.YtedgnigogkmgkaaGreatDoorBab
import Derived.Test.YtedgnigogkmgkaaGreatDoorBaf
import Derived.Test.YtedgnigogkmgkaaGreatDoorBag
import Derived.Test.YtedgnigogkmgkaaGreatDoorBae
import Derived.Test.YtedgnigogkmgkaaGreatDoorShelfT
import Derived.Sort.KeysCollected
/- slices.Values of edges, as a row. -/
namespace Go.Proofs.YtedgnigogkmgkaaGreatDoor.Eg
open Go.RowKit Go.Shelf Go.Lib
attribute [local go_sem] Oper.semAt_some
abbrev bxE (x : Ed) : Obj := .cells #[.int .i64 x.1, .string x.2.1, .string x.2.2] 156
set_option maxRecDepth 100000 in
set_option maxHeartbeats 4000000 in
theorem values_row (l : List Ed) (b : Nat) (v : Value) (E : Nat → Prop) (W : World) (cv : W.cell? ⟨b, 0, none⟩ = some v) (eb : ¬ E b) (hs : SV W v l) (hE : ∀ k, nbk v = some k → ¬ E k) (hl : l.length ≤ 1000000000) :
    Row Tryz.prog 214 #[.pointer (some ⟨b, 0, none⟩)] enE l E W := by
  intro u J Jx E1 V m g hJ hJx hY h0
  have d1 := m.cell (a := ⟨b, 0, none⟩) eb cv
  have f1 : ¬ E1 b := g.free (cell_lt cv) eb
  have sv := hs.mv m hE
  have hJk : Hid (Ter V.heap.size J) := hJ
  have hcel : Hid (∀ (j : Nat) (x : Ed), l[j]? = some x → ∃ gb o c, v = .slice (some ⟨gb, o, none⟩) l.length c ∧ ∀ wr, Mv E1 V wr → wr.cell? ⟨gb, o + j * 3, none⟩ = some (.int .i64 x.1) ∧ wr.cell? ⟨gb, o + j * 3 + 1, none⟩ = some (.string x.2.1) ∧ wr.cell? ⟨gb, o + j * 3 + 2, none⟩ = some (.string x.2.2)) := by
    intro j x hx
    rcases sv with ⟨_, rfl⟩ | ⟨gb, o, c, rfl, rs⟩
    · cases hx
    · refine ⟨gb, o, c, rfl, fun wr m2 => ?_⟩
      have n1 : ¬ E1 gb := g.free (hs.lt rfl) (hE gb rfl)
      obtain ⟨c0, c1, c2⟩ := rs.ra.at hx
      exact ⟨m2.cell (a := ⟨gb, _, none⟩) n1 c0, m2.cell (a := ⟨gb, _, none⟩) n1 c1, m2.cell (a := ⟨gb, _, none⟩) n1 c2⟩
  obtain ⟨p, cap, rfl⟩ := sv.shape
  obtain ⟨n, hn⟩ : ∃ n, l.length = n := ⟨_, rfl⟩
  rw [hn] at d1 hl hcel
  have hN : Hid (l.length = n) := hn
  clear hn cv hE hs sv hJ hJx
  refine (callsIn_wide (n := 5)).1 ?_
  refine callsIn_of_wp Tryz.func214 rfl trivial ?_ rfl
  simp only [Tryz.ntmps214, List.size_toArray, List.length_cons, List.length_nil, Nat.reduceAdd, Nat.reduceSub, Array.replicate_succ, Array.replicate_zero, List.push_toArray, List.append_toArray, List.nil_append, List.cons_append]
  gi_wp2_with fail
  gi_loopw [7] (fun i wr => ∃ (k : Nat) (E2 : Nat → Prop), k ≤ n ∧ i = .int .i64 k ∧ Hid (J (l.drop k) E2 wr) ∧ Hid (Mv E1 V wr) ∧ Hid (Gr E1 V E2)) (fun i _ => n - (intOf i).toNat)
  case atStart => exact ⟨0, E1, by omega, rfl, h0, Mv.refl _ _, Gr.refl _ _⟩
  case round =>
    obtain ⟨k, E2, k0, rfl, hj, hm, hg⟩ := hrel
    have d3 := hm.out.cell (a := ⟨b, 0, none⟩) f1 d1
    by_cases hlt : k < n
    · have hltI : (k : Int) < (n : Int) := by omega
      obtain ⟨x, hx⟩ : ∃ x, l[k]? = some x := ⟨_, List.getElem?_eq_getElem (by rw [hN.out]; omega)⟩
      have hdr : l.drop k = x :: l.drop (k + 1) := by
        obtain ⟨h1, h2⟩ := List.getElem?_eq_some_iff.1 hx
        rw [List.drop_eq_getElem_cons h1, h2]
      rw [hdr] at hj
      obtain ⟨gb, o, c, ep, hcw⟩ := hcel.out k x hx
      obtain ⟨rfl, rfl⟩ : p = some ⟨gb, o, none⟩ ∧ cap = c := by cases ep; exact ⟨rfl, rfl⟩
      obtain ⟨p0, p1, p2⟩ := hcw wr hm.out
      have hj1 : J (x :: l.drop (k + 1)) E2 (wr.alloc (bxE x)) := hJk.out.keep _ _ _ _ hj.out (Mv.alloc _ _ _)
      have hm1 : Hid (Mv E1 V (wr.alloc (bxE x))) := hm.out.trans' (Mv.alloc _ _ _)
      obtain ⟨fn, tmps, assign, body, hy, hR⟩ := hY x _ E2 _ hj1
      dsimp only [enE] at hy
      have hRH := hidP hR
      have hmS : Hid (V.heap.size ≤ (wr.alloc (bxE x)).heap.size) := hm1.out.size
      clear hx hcw hj hdr ep hj1 hm hR d3
      gi_wp2_with fail
      refine (wide_round' hRH.out).mono ?_
      rintro e W3 ⟨m3, (⟨rfl, E3, g3, hj3⟩ | ⟨rfl, E3, g3, hj3⟩)⟩
      · have fin : Hid (Hid (J (l.drop (k + 1)) E3 W3) ∧ Hid (Mv E1 V W3) ∧ Hid (Gr E1 V E3)) := ⟨hj3, hm1.out.trans hg.out m3, hg.out.trans hmS.out g3⟩
        clear m3 g3 hj3 hy
        gi_wp2_with fail
        exact ⟨⟨k + 1, E3, by omega, by push_cast; rfl, fin.out⟩, by simp [intOf]; omega⟩
      · have fin : Hid (Went J Jx E1 V (.returned (.tuple #[])) W3) := ⟨⟨_, rfl⟩, hm1.out.trans hg.out m3, .inr ⟨E3, hg.out.trans hmS.out g3, hj3⟩⟩
        clear m3 g3 hj3 hy
        gi_wp2_with fail
        refine bodyPost_ret (results_none rfl _ _ _) rfl ?_
        exact fin.out
    · obtain rfl : k = n := by omega
      have hnil : l.drop k = [] := List.drop_eq_nil_of_le (by rw [hN.out]; omega)
      rw [hnil] at hj
      gi_wp2_with fail
      go_end0
      exact ⟨⟨_, rfl⟩, hm.out, .inl ⟨E2, hg.out, hj.out⟩⟩
end Go.Proofs.YtedgnigogkmgkaaGreatDoor.Eg
/- The edges of a unit, in order. -/
namespace Go.Proofs.YtedgnigogkmgkaaGreatDoor
open Go.RowKit Go.Shelf Go.Lib
attribute [local go_sem] Oper.semAt_some
set_option maxRecDepth 100000 in
set_option maxHeartbeats 1000000 in
theorem valuesE_any (p : Option Addr) (n c : Nat) (w : World) : Calls Tryz.prog 189 #[.slice p n c] w fun e w' => e = .returned (.func (.func 214) #[] #[.pointer (some ⟨w.heap.size, 0, none⟩)]) ∧ w' = w.alloc (.cells #[.slice p n c] 117) := by
  go_enter Tryz.func189, Tryz.ntmps189
  go_wp2_with fail
  go_ret
  exact ⟨rfl, rfl⟩
set_option maxRecDepth 100000 in
set_option maxHeartbeats 1000000 in
theorem keysE_any (v : Option Nat) (w : World) : Calls Tryz.prog 191 #[.map v] w fun e w' => e = .returned (.func (.func 217) #[] #[.pointer (some ⟨w.heap.size, 0, none⟩)]) ∧ w' = w.alloc (.cells #[.map v] 154) := by
  go_enter Tryz.func191, Tryz.ntmps191
  go_wp2_with fail
  go_ret
  exact ⟨rfl, rfl⟩
/-- The edges at x, in order, as a row that is to come. -/
structure Sd (N : Nat) (w : World) (e : Ending) (V : World) (C : Ed → Int) (ys : List Ed) (sb : Nat) (vv : Value) : Prop where
  ret : e = .returned (.func (.func 214) #[] #[.pointer (some ⟨sb, 0, none⟩)])
  c : V.cell? ⟨sb, 0, none⟩ = some vv
  sv : Eg.SV V vv ys
  nd : ys.Nodup
  so : ys.Pairwise fun a b => ¬ ltE b a
  mem : ∀ e, e ∈ ys ↔ C e ≠ 0
  be : Below w.heap.size w V
  sb : w.heap.size ≤ sb
  fr : ∀ k, nbk vv = some k → w.heap.size ≤ k
  len : ys.length ≤ N
theorem mapNodup {T : List EK} (h : T.Nodup) : (T.map (·.1)).Nodup := by
  rw [List.Nodup, List.pairwise_map]
  exact h.imp fun q e => q (Subtype.ext e)
set_option maxRecDepth 100000 in
set_option maxHeartbeats 2000000 in
theorem sorted_any {w : World} {eb : Nat} {fb : ByteArray → Option Nat} {C : ByteArray → Ed → Int} {c : Nat} (h : En w eb fb C c) (hc : c ≤ 400000) (x : ByteArray) (hx : x.size ≤ 1000) :
    Calls Tryz.prog 150 #[.map (some eb), .string x] w fun e V => ∃ ys sb sv, Sd c w e V (C x) ys sb sv := by
  obtain ⟨m, hm, hA⟩ := h.all
  have hlk := hA.look1 lawS undEn (zeroMe w) (a := x) (keyS hx)
  obtain ⟨mv, hmv⟩ : ∃ mv, (Option.map (fun b => Value.map (some b)) (fb x)).getD (.map none) = mv := ⟨_, rfl⟩
  rw [hmv] at hlk
  obtain ⟨T, hT, hmem, hlen, tm⟩ : ∃ T : List EK, T.Nodup ∧ (∀ e : EK, e ∈ T ↔ C x e.1 ≠ 0) ∧ T.length ≤ c ∧ MV w mv T (C x) := by
    cases hf : fb x with
    | none =>
      rw [hf] at hmv
      simp only [Option.map_none, Option.getD_none] at hmv
      exact ⟨[], .nil, fun e => ⟨fun z => (by cases z), fun z => absurd (h.non x hf e.1) z⟩, Nat.zero_le _, .inl ⟨hmv.symm, rfl⟩⟩
    | some b =>
      rw [hf] at hmv
      simp only [Option.map_some, Option.getD_some] at hmv
      obtain ⟨n, hn, _, hM⟩ := h.sub x b hf
      obtain ⟨T, h1, h2, h3, h4⟩ := hM.edges
      exact ⟨T, h1, h2, by omega, hmv ▸ h4⟩
  have hmem2 : ∀ e, e ∈ T.map (·.1) ↔ C x e ≠ 0 := fun e => by
    rw [List.mem_map]
    constructor
    · rintro ⟨d, hd, rfl⟩; exact (hmem d).1 hd
    · intro z
      exact ⟨⟨e, h.ok x e z⟩, (hmem _).2 z, rfl⟩
  obtain ⟨w1, hw1⟩ : ∃ w1, w.alloc (.cells #[mv] 154) = w1 := ⟨_, rfl⟩
  obtain ⟨B, hB⟩ : ∃ B, w.heap.size = B := ⟨_, rfl⟩
  have c1 : w1.cell? ⟨B, 0, none⟩ = some mv := by rw [← hw1]; exact cell_at hB rfl
  have b1 : Below w.heap.size w w1 := by rw [← hw1]; exact (Below.refl _ _).alloc (Nat.le_refl _) _
  have s1 : w1.heap.size = B + 1 := by rw [← hw1]; simp [hB]
  have tm1 : MV w1 mv T (C x) := tm.mv (E := fun _ => False) (Mv.below b1) (fun _ _ q => q)
  obtain ⟨mo, rfl⟩ : ∃ mo, mv = .map mo := by rcases tm with ⟨e, _⟩ | ⟨b, e, _⟩ <;> exact ⟨_, e⟩
  have hK := keysE_any mo w
  rw [hw1] at hK
  have hSF := Eg.sortedf_any (T.map (·.1)) 217 #[.pointer (some ⟨B, 0, none⟩)] (enters_of Tryz.func217 (by kernel_rfl) rfl) w1 (fun W0 b0 => by
    refine RowP.map (enc := Eg.enE) (f := Subtype.val) ?_
    exact keys_row (C := C x) (fun k => k = w1.heap.size) W0 ((Mv.below (E := fun _ => False) b0).cell (fun q => q) c1) (tm1.mv (E := fun _ => False) (Mv.below b0) (fun _ _ q => q)) hT (by omega) (fun k hk e => by have := tm1.lt hk; omega)) (by rw [List.length_map]; omega)
  have fin : Hid (∀ v (ys : List Ed) V, ys.Perm (T.map (·.1)) → ys.Pairwise (fun a b => ¬ ltE b a) → Eg.SV V v ys → Below w1.heap.size w1 V → (∀ k, nbk v = some k → w1.heap.size ≤ k) → Sd c w (.returned (.func (.func 214) #[] #[.pointer (some ⟨V.heap.size, 0, none⟩)])) (V.alloc (.cells #[v] 117)) (C x) ys V.heap.size v) := by
    intro v ys V hp hso sv bV hk
    have hs := bV.size
    exact ⟨rfl, cell_at rfl rfl, sv.mv (F := fun _ => False) (Mv.alloc _ _ _) (fun _ _ q => q), hp.nodup_iff.2 (mapNodup hT), hso, fun e => by rw [hp.mem_iff]; exact hmem2 e, ((b1.trans (bV.mono (by omega))).alloc (by omega) _), by omega, fun k hk' => by have := hk k hk'; omega, by rw [hp.length_eq, List.length_map]; exact hlen⟩
  clear hA hmem hmem2 hlen hT tm tm1 c1 b1 s1 h hmv
  rw [hB] at hK
  go_enter Tryz.func150, Tryz.ntmps150
  go_wp2_with fail
  refine hK.mono ?_
  rintro e W1 ⟨rfl, rfl⟩
  go_wp2_with fail
  refine hSF.mono ?_
  rintro e V ⟨v, ys, rfl, h1, h2, h3, h4, h5⟩
  obtain ⟨pv, cv, rfl⟩ := h3.shape
  obtain ⟨ny, hny⟩ : ∃ ny, ys.length = ny := ⟨_, rfl⟩
  rw [hny] at h3 h5
  have hV := valuesE_any pv ny cv V
  have hh := hidP (fin.out _ ys V h1 h2 h3 h4 h5)
  clear h1 h2 h3 h4 h5 fin hSF
  go_wp2_with fail
  refine hV.mono ?_
  rintro e V2 ⟨rfl, rfl⟩
  go_wp2_with fail
  go_ret
  exact ⟨ys, _, _, hh.out⟩
end Go.Proofs.YtedgnigogkmgkaaGreatDoor
/- A set of names in memory; the edges of a unit, gone through in any order. -/
namespace Go.Proofs.YtedgnigogkmgkaaGreatDoor
open Go.RowKit Go.Shelf Go.Lib
attribute [local go_sem] Oper.semAt_some
theorem zeroSt (w : World) : (zeroValue 113).run Tryz.prog w = .ok (.agg #[]) w := by kernel_rfl
structure Xs (w : World) (b : Nat) (X : List ByteArray) : Prop where
  m : MS w b X.length fun x => if memB x X then some (.agg #[]) else none
  nd : X.Nodup
  sz : ∀ x ∈ X, x.size ≤ 1000
theorem Xs.mv {w w' : World} {b : Nat} {X : List ByteArray} {E : Nat → Prop} (h : Xs w b X) (m : Mv E w w') (hE : ¬ E b) : Xs w' b X := ⟨h.m.mv m hE, h.nd, h.sz⟩
theorem Xs.made (w : World) : Xs (w.alloc (.map #[] 0)) w.heap.size [] := ⟨(MapIs.made w).cong fun _ => rfl, List.nodup_nil, fun _ h => by cases h⟩
theorem Xs.look {w : World} {b : Nat} {X : List ByteArray} (h : Xs w b X) {x : ByteArray} (hx : x.size ≤ 1000) : (Instr.lookup 112 (.map (some b)) (.string x) true).run Tryz.prog w = .ok (.tuple #[.agg #[], .bool (memB x X)]) w := by
  rw [h.m.look lawS (t := 112) Tryz.underlying112 (zeroSt w) (a := x) (keyS hx)]
  cases memB x X <;> rfl
theorem Xs.store {w : World} {b : Nat} {X : List ByteArray} (h : Xs w b X) {x : ByteArray} (hx : x.size ≤ 1000) (hn : x ∉ X) (hl : X.length < 1000000) :
    ∃ w', (Instr.mapUpdate 112 (.map (some b)) (.string x) (.agg #[])).run Tryz.prog w = .ok () w' ∧ Xs w' b (x :: X) ∧ Mv (fun k => k = b) w w' := by
  obtain ⟨w', h1, h2, h3⟩ := h.m.store lawS (fun _ _ => eS_inj) klS (t := 112) Tryz.underlying112 (a := x) (keyS hx) (.agg #[]) (by unfold maxLen; omega)
  refine ⟨w', h1, ⟨?_, List.nodup_cons.2 ⟨hn, h.nd⟩, fun y hy => (List.mem_cons.1 hy).elim (fun e => e ▸ hx) (h.sz y)⟩, h3⟩
  have e : upN ((if memB x X then some (Value.agg #[]) else none).isSome) X.length = (x :: X).length := by rw [memB_f hn]; rfl
  rw [← e]
  refine h2.cong fun y => ?_
  by_cases q : y = x
  · subst q; rw [if_pos rfl, memB_t (List.mem_cons_self ..)]; rfl
  · rw [if_neg q]
    by_cases q2 : y ∈ X
    · rw [memB_t q2, memB_t (List.mem_cons_of_mem _ q2)]
    · rw [memB_f q2, memB_f (fun h => (List.mem_cons.1 h).elim q q2)]
theorem En.row {w : World} {eb : Nat} {fb : ByteArray → Option Nat} {C : ByteArray → Ed → Int} {c : Nat} (h : En w eb fb C c) (x : ByteArray) : ∃ xs : List Ed, xs.Nodup ∧ ∀ e, e ∈ xs ↔ C x e ≠ 0 := by
  cases hf : fb x with
  | none => exact ⟨[], List.nodup_nil, fun e => ⟨fun q => (by cases q), fun q => absurd (h.non x hf e) q⟩⟩
  | some b =>
    obtain ⟨n, _, _, hM⟩ := h.sub x b hf
    obtain ⟨T, h1, h2, _, _⟩ := hM.edges
    refine ⟨T.map (·.1), mapNodup h1, fun e => ?_⟩
    rw [List.mem_map]
    exact ⟨fun ⟨d, hd, q⟩ => q ▸ (h2 d).1 hd, fun q => ⟨⟨e, h.ok x e q⟩, (h2 _).2 q, rfl⟩⟩
theorem eg_edges : ∀ args w, (callFunc 149 args).run Tryz.prog w = .ok (.enter 149 args) w := enters_of Tryz.func149 (by kernel_rfl) rfl
set_option maxRecDepth 100000 in
set_option maxHeartbeats 2000000 in
theorem Edges_any (p : Nat) (x : ByteArray) (w : World) : Calls Tryz.prog 116 #[.pointer (some ⟨p, 0, none⟩), .string x] w fun e w' => e = .returned (.func (.func 149) #[] #[.pointer (some ⟨w.heap.size, 0, none⟩), .pointer (some ⟨w.heap.size + 1, 0, none⟩)]) ∧ w' = (w.alloc (.cells #[.pointer (some ⟨p, 0, none⟩)] 24)).alloc (.cells #[.string x] 9) := by
  go_enter Tryz.func116, Tryz.ntmps116
  go_wp2_with fail
  go_ret
  exact ⟨rfl, rfl⟩
set_option maxRecDepth 100000 in
set_option maxHeartbeats 4000000 in
theorem edges_row (S : GS) (L : UL) (W0 : World) (x : ByteArray) (b1 b2 : Nat) (E : Nat → Prop) (h0 : Gs W0 S L) (hc : S.c ≤ 400000) (hx : x.size ≤ 1000) (cb1' : W0.cell? ⟨b1, 0, none⟩ = some (.pointer (some ⟨S.gb, 0, none⟩))) (cb2' : W0.cell? ⟨b2, 0, none⟩ = some (.string x)) (n1 : ¬ E b1) (n2 : ¬ E b2) (nG : ∀ k, hasG S k → ¬ E k) (nU : ∀ p ∈ L, ∀ b, ubk p.1 b → ¬ E b) {xs : List Ed} (hnd : xs.Nodup) (hxs : ∀ e, e ∈ xs ↔ fw (kL L) x e ≠ 0) :
    RowP Tryz.prog 149 #[.pointer (some ⟨b1, 0, none⟩), .pointer (some ⟨b2, 0, none⟩)] Eg.enE xs E W0 := by
  intro l J Jx E1 W m0 gr hJ hJx hpm hY hj0
  have h : Gs W S L := h0.mv m0 nG nU
  have cb1 := m0.cell (a := ⟨b1, 0, none⟩) n1 cb1'
  have cb2 := m0.cell (a := ⟨b2, 0, none⟩) n2 cb2'
  have lJ := hJ.low _ _ _ hj0
  clear h0 cb1' cb2' n1 n2 nG nU
  obtain ⟨gb, hgb⟩ : ∃ gb, S.gb = gb := ⟨_, rfl⟩
  obtain ⟨eb, heb⟩ : ∃ eb, S.eb1 = eb := ⟨_, rfl⟩
  have c1 := h.ed.c1
  rw [hgb] at cb1 c1
  rw [heb] at c1
  have hS : W.drew.cell? ⟨b1, 0, none⟩ = some (.pointer (some ⟨gb, 0, none⟩)) ∧ W.drew.cell? ⟨b2, 0, none⟩ = some (.string x) ∧ W.drew.cell? ⟨gb, 1, none⟩ = some (.map (some eb)) := ⟨cb1, cb2, c1⟩
  have hSo := sorted_any ((h.below (Below.refl _ _).drew).ed.e1) hc x hx
  rw [heb] at hSo
  have hrowH : Hid (∀ e V ys sb vv, Sd S.c W.drew e V (fw (kL L) x) ys sb vv → Calls Tryz.prog 214 #[.func (.yield l) #[] #[], .pointer (some ⟨sb, 0, none⟩)] V fun e V => Hid (Went J Jx E1 W e V)) := by
    intro e V ys sb vv sd
    have hsb := sd.sb
    have hbz := sd.be.size
    have eD : W.drew.heap.size = W.heap.size := rfl
    have bW : Below W.heap.size W V := (Below.refl _ _).drew.trans sd.be
    have hperm : xs.Perm ys := (List.perm_ext_iff_of_nodup hnd sd.nd).2 fun e => (hxs e).trans (sd.mem e).symm
    have hj : J ys E1 V := hpm _ _ _ _ hperm (hJ.keep _ _ _ _ hj0 (Mv.below bW))
    refine (Eg.values_row ys sb vv E1 V sd.c (fun q => by have := lJ _ q; omega) sd.sv (fun k hk q => by have := sd.fr k hk; have := lJ _ q; omega) (by have := sd.len; omega) l J Jx E1 V (Mv.refl _ _) (Gr.refl _ _) (hJ.up (by omega)) (hJx.up (by omega)) hY hj).mono ?_
    rintro e2 V2 ⟨q1, q2, q3⟩
    refine ⟨q1, (Mv.below bW).trans' q2, ?_⟩
    exact q3.imp (fun ⟨E', g, z⟩ => ⟨E', Gr.mono (by omega) g, z⟩) (fun ⟨E', g, z⟩ => ⟨E', Gr.mono (by omega) g, z⟩)
  have hwv : ∀ e V, Went J Jx E1 W e V → Hid (∃ v, e = .returned v) := fun e V q => q.1
  clear cb1 cb2 c1 h hJ hJx hpm hY hj0 gr lJ m0 hxs hnd
  go_enter Tryz.func149, Tryz.ntmps149
  go_wp2_with fail
  refine Zs.region (S := fun W => (W.cell? ⟨b1, 0, none⟩ = some (.pointer (some ⟨gb, 0, none⟩)) ∧ W.cell? ⟨b2, 0, none⟩ = some (.string x) ∧ W.cell? ⟨gb, 1, none⟩ = some (.map (some eb)))) 7 (by kernel_rfl) ?_
  refine Zs.takeC (i := 0) (oi := ⟨some 4, _, _, _, _, _⟩) (v := ?t0) 10 rfl (by kernel_rfl) (by kernel_rfl) (by kernel_rfl) (by decide) (by kernel_rfl) (by kernel_rfl) (by kernel_rfl) (fun _ _ _ h => h) (Or.inl ⟨by rfl, ?hy0⟩) hS ?_
  case hy0 => (intro w hSw; (try dsimp only at hSw); go_simp; try with_reducible rfl)
  simp only [Act.put, List.setIfInBounds_toArray, List.set_cons_zero, List.set_cons_succ]
  refine Zs.pure (i := 1) (oi := ⟨some 5, _, _, _, _, _⟩) (v := ?v1) rfl (by kernel_rfl) (by kernel_rfl) (by kernel_rfl) (by decide) (fun _ _ _ h => h) (Or.inl ⟨by rfl, ?hy1⟩) hS ?_
  case hy1 => (intro w hSw; (try dsimp only at hSw); go_simp; try with_reducible rfl)
  simp only [Act.put, List.setIfInBounds_toArray, List.set_cons_zero, List.set_cons_succ]
  refine Zs.pure (i := 2) (oi := ⟨some 6, _, _, _, _, _⟩) (v := ?v2) rfl (by kernel_rfl) (by kernel_rfl) (by kernel_rfl) (by decide) (fun _ _ _ h => h) (Or.inl ⟨by rfl, ?hy2⟩) hS ?_
  case hy2 => (intro w hSw; (try dsimp only at hSw); go_simp; try with_reducible rfl)
  simp only [Act.put, List.setIfInBounds_toArray, List.set_cons_zero, List.set_cons_succ]
  refine Zs.takeC (i := 3) (oi := ⟨some 7, _, _, _, _, _⟩) (v := ?t3) 10 rfl (by kernel_rfl) (by kernel_rfl) (by kernel_rfl) (by decide) (by kernel_rfl) (by kernel_rfl) (by kernel_rfl) (fun _ _ _ h => h) (Or.inl ⟨by rfl, ?hy3⟩) hS ?_
  case hy3 => (intro w hSw; (try dsimp only at hSw); go_simp; try with_reducible rfl)
  simp only [Act.put, List.setIfInBounds_toArray, List.set_cons_zero, List.set_cons_succ]
  refine Zs.takeC (i := 4) (oi := ⟨some 8, _, _, _, _, _⟩) (v := ?t4) 10 rfl (by kernel_rfl) (by kernel_rfl) (by kernel_rfl) (by decide) (by kernel_rfl) (by kernel_rfl) (by kernel_rfl) (fun _ _ _ h => h) (Or.inl ⟨by rfl, ?hy4⟩) hS ?_
  case hy4 => (intro w hSw; (try dsimp only at hSw); go_simp; try with_reducible rfl)
  simp only [Act.put, List.setIfInBounds_toArray, List.set_cons_zero, List.set_cons_succ]
  refine Zs.pure (i := 6) (oi := ⟨some 10, _, _, _, _, _⟩) (v := ?v6) rfl (by kernel_rfl) (by kernel_rfl) (by kernel_rfl) (by decide) (fun _ _ _ h => h) (Or.inl ⟨by rfl, ?hy6⟩) hS ?_
  case hy6 => (intro w hSw; (try dsimp only at hSw); go_simp; try with_reducible rfl)
  simp only [Act.put, List.setIfInBounds_toArray, List.set_cons_zero, List.set_cons_succ]
  refine Zs.one (i := 5) (oi := ⟨some 9, _, _, _, _, _⟩) (by kernel_rfl) rfl (fun K hK => ?_)
  go_simp
  refine hSo.mono ?_
  rintro e V ⟨ys, sb, sv, sd⟩
  have hSV : V.cell? ⟨b1, 0, none⟩ = some (.pointer (some ⟨gb, 0, none⟩)) ∧ V.cell? ⟨b2, 0, none⟩ = some (.string x) ∧ V.cell? ⟨gb, 1, none⟩ = some (.map (some eb)) := ⟨bcell sd.be (cell_lt hS.1) hS.1, bcell sd.be (cell_lt hS.2.1) hS.2.1, bcell sd.be (cell_lt hS.2.2) hS.2.2⟩
  have hR := hrowH.out e V ys sb sv sd
  obtain rfl := sd.ret
  clear sd hS hrowH hSo
  go_wp2_with fail
  refine hK.out _ _ (fun _ => hSV) ?_
  clear hK K
  try simp only [Act.put, List.setIfInBounds_toArray, List.set_cons_zero, List.set_cons_succ]
  refine Zs.one (i := 7) (oi := ⟨some 11, _, _, _, _, _⟩) (by kernel_rfl) rfl (fun K hK => ?_)
  go_simp
  refine hR.mono ?_
  rintro e V2 hfin
  obtain ⟨v, rfl⟩ := (hwv _ _ hfin.out).out
  clear hR hwv
  go_wp2_with fail
  refine hK.out _ _ (fun q => absurd q (by decide)) ?_
  clear hK K
  try simp only [Act.put, List.setIfInBounds_toArray, List.set_cons_zero, List.set_cons_succ]
  refine Zs.done (by kernel_rfl) ?_ _
  go_wp2_with fail
  go_end0
  exact ⟨⟨_, rfl⟩, hfin.out.2⟩
end Go.Proofs.YtedgnigogkmgkaaGreatDoor
/- Keys of maps by names, sorted; texts in order. -/
namespace Go.Proofs.YtedgnigogkmgkaaGreatDoor
open Go.RowKit Go.Shelf Go.Lib Go.Sort Go.Maps
attribute [local go_sem] Oper.semAt_some
abbrev byt (s : ByteArray) : List UInt8 := s.data.toList
theorem byt_inj {a b : ByteArray} (h : byt a = byt b) : a = b := ByteArray.ext (Array.toList_inj.1 h)
theorem byt_mk (x : List UInt8) : byt ⟨x.toArray⟩ = x := rfl
theorem keys_of {w : World} {b m : Nat} {D : DataW Value} {f : ByteArray → Option Value} (h : w.ownsMap Tryz.prog 9 heldElem b m D) (v : Vw eS D f) {ks : List ByteArray} (hn : ks.Nodup) (hm : ∀ x, (f x).isSome = true ↔ x ∈ ks) : (ks.map byt).Perm (strKeys D) := by
  obtain ⟨es, hD, hpw, _⟩ := h.entries lawS
  obtain ⟨es', hD', hko⟩ := h.keysOf
  obtain rfl : es = es' := by rw [hD] at hD'; simpa using hD'
  subst hD
  refine perm_strKeys hpw (fun p hp => by obtain ⟨v, hv⟩ := hko p hp; obtain ⟨x, _, hx, _⟩ := Maps.keyOf_str Tryz.underlying9 hv; exact ⟨x, hx⟩) ?_ (fun x => ?_)
  · exact List.pairwise_map.2 (hn.imp (fun {a b} q e => q (byt_inj e)))
  · have := v.has ⟨x.toArray⟩
    unfold eS at this
    rw [show (⟨x.toArray⟩ : ByteArray).data.toList = x from rfl] at this
    rw [this, hm]
    constructor
    · intro q
      obtain ⟨p, hp, rfl⟩ := List.mem_map.1 q
      exact hp
    · intro q
      exact List.mem_map.2 ⟨_, q, rfl⟩
theorem str_row {W : World} {base n : Nat} {v : Value} {xs : List (List UInt8)} (hn : xs.length = n) (h : W.ownsRow base 9 1 v n (xs.map encStr)) : ∃ a gk cap, v = .slice a n cap ∧ (0 < n → a = some ⟨gk, 0, none⟩ ∧ base ≤ gk ∧ gk < W.heap.size ∧ n ≤ cap) ∧ ∀ (k : Nat) (x : List UInt8), xs[k]? = some x → W.cell? ⟨gk, k, none⟩ = some (.string ⟨x.toArray⟩) := by
  rcases h.2 with ⟨rfl, h0⟩ | ⟨g, cap, cur, rfl, hb, hg, hcap, _⟩
  · refine ⟨none, 0, 0, by rw [h0], fun q => by omega, fun k x hx => ?_⟩
    have := (List.getElem?_eq_some_iff.1 hx).1
    omega
  · refine ⟨_, g, _, rfl, fun _ => ⟨rfl, hb, (Array.getElem?_eq_some_iff.1 hg).1, hcap⟩, fun k x hx => ?_⟩
    have := h.cells (g := g) rfl k (encStr x) (by rw [List.getElem?_map, hx]; rfl)
    rw [Addr.add_lit, Nat.zero_add] at this
    exact this
/-- Texts in order: the sorted row of what is the same up to order. -/
theorem sorted_is {l ts : List (List UInt8)} (hp : l.Perm ts) (hs : ts.Pairwise (· ≤ ·)) : l.mergeSort (fun x y => decide (x ≤ y)) = ts := by
  have h := List.pairwise_mergeSort (le := fun x y : List UInt8 => decide (x ≤ y)) (fun a b c h1 h2 => by simp only [decide_eq_true_eq] at *; exact List.le_trans h1 h2) (fun a b => by simp only [Bool.or_eq_true, decide_eq_true_eq]; exact List.le_total a b) l
  refine List.Perm.eq_of_pairwise (le := fun x y : List UInt8 => x ≤ y) (fun a b _ _ h1 h2 => List.le_antisymm h1 h2) (h.imp fun h => by simpa using h) hs ((List.mergeSort_perm _ _).trans hp)
/-- A row of texts that is told sorted, as names. -/
theorem names_of {l : List (List UInt8)} {ks ts : List ByteArray} (hl : l.Perm (ks.map byt)) (hp : ks.Perm ts) (hs : (ts.map byt).Pairwise (· ≤ ·)) : l.mergeSort (fun x y => decide (x ≤ y)) = ts.map byt :=
  sorted_is (hl.trans (hp.map _)) hs
theorem MS.keys {w : World} {b m : Nat} {f : ByteArray → Option Value} (h : MS w b m f) {ks : List ByteArray} (hn : ks.Nodup) (hm : ∀ x, (f x).isSome = true ↔ x ∈ ks) (hl : m ≤ 100000) : ∃ (nn : Nat) (D : DataW Value), w.ownsMap Tryz.prog 9 heldElem b nn D ∧ Maps.size D ≤ maxLen ∧ Maps.size D * 16 ≤ 140737488355328 ∧ (strKeys D).Perm (ks.map byt) := by
  obtain ⟨D, d1, d2, d3⟩ := h
  exact ⟨_, D, d1, by rw [d2]; unfold maxLen; omega, by rw [d2]; omega, (keys_of d1 d3 hn hm).symm⟩
theorem Xs.keys {w : World} {b : Nat} {X : List ByteArray} (h : Xs w b X) (hl : X.length ≤ 100000) : ∃ (nn : Nat) (D : DataW Value), w.ownsMap Tryz.prog 9 heldElem b nn D ∧ Maps.size D ≤ maxLen ∧ Maps.size D * 16 ≤ 140737488355328 ∧ (strKeys D).Perm (X.map byt) :=
  h.m.keys h.nd (fun x => by rw [← memB_iff]; cases memB x X <;> simp) hl
theorem Gs.keys {w : World} {S : GS} {L : UL} (h : Gs w S L) (hl : L.length ≤ 100000) : ∃ (nn : Nat) (D : DataW Value), w.ownsMap Tryz.prog 9 heldElem S.ub nn D ∧ Maps.size D ≤ maxLen ∧ Maps.size D * 16 ≤ 140737488355328 ∧ (strKeys D).Perm ((L.map fun p => p.2.nm).map byt) :=
  h.un.keys (List.pairwise_map.2 h.nd) (fun x => by
    rw [Option.isSome_map]
    constructor
    · intro q
      obtain ⟨p, hp⟩ := Option.isSome_iff_exists.1 q
      obtain ⟨h1, h2⟩ := lku_mem hp
      exact List.mem_map.2 ⟨p, h1, h2⟩
    · intro q
      obtain ⟨p, hp, rfl⟩ := List.mem_map.1 q
      cases e : lku L p.2.nm with
      | some r => rfl
      | none =>
        have := List.find?_eq_none.1 e p hp
        simp at this) hl
end Go.Proofs.YtedgnigogkmgkaaGreatDoor
