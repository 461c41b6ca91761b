/- The contract of the reference's Sort. -/
import Derived.Test.YtimmieelpaoncaaDoorS4
import Derived.Test.YtimmieelpaoncaaDoorR6
import Derived.Sort.Walk0
import Derived.Deep.RegionLaw
import Derived.Deep.AppendLies
namespace Go.Proofs.YtimmieelpaoncaaDoor
open Go.RowKit Nam
theorem szS : (Tryd.prog.info? 9).map (·.size) = some 1 := by kernel_rfl
theorem infoS : (Tryd.prog.info? 9).map (fun i => (i.zero, i.size, i.bytes)) = some (some (.string ⟨#[]⟩), 1, 16) := by kernel_rfl
def RefP (w : World) (xs : List L) (e : Ending) (w' : World) : Prop :=
  ∃ a g cap, e = .returned (.slice a xs.length cap) ∧ (0 < xs.length → a = some ⟨g, 0, none⟩) ∧ (∀ j x, xs[j]? = some x → w'.cell? ⟨g, j, none⟩ = some (.string (bs x))) ∧ Below w.heap.size w w'
theorem own_open {w : World} {base : Nat} {t : TypeId} {v : Value} {xs : List L} (h : w.ownsRow base t 1 v xs.length (xs.map encStr)) :
    ∃ a g cap, v = .slice a xs.length cap ∧ (0 < xs.length → a = some ⟨g, 0, none⟩) ∧ (∀ j x, xs[j]? = some x → w.cell? ⟨g, j, none⟩ = some (.string (bs x))) := by
  rcases h.2 with ⟨rfl, h0⟩ | ⟨g, cap, cur, rfl, _⟩
  · have : xs = [] := List.eq_nil_of_length_eq_zero h0
    subst this
    exact ⟨none, 0, 0, rfl, fun h => by simp at h, fun j x hj => by simp at hj⟩
  · refine ⟨_, g, cap, rfl, fun _ => rfl, fun j x hj => ?_⟩
    have := h.cells (g := g) rfl j (encStr x) (by rw [List.getElem?_map, hj]; rfl)
    rw [Go.WideShapes.add_plain] at this
    simpa [bs, encStr] using this
theorem grown_below {w w' : World} (h : Below w.heap.size w w') : w.grownBy w' none := ⟨h.os, h.tape, h.output, h.size, fun k hk _ => h.block k hk⟩
theorem own_below {w w' : World} {base : Nat} {t : TypeId} {v : Value} {n : Nat} {xs : List Value} (h : w.ownsRow base t 1 v n xs) (hb : Below w.heap.size w w') : w'.ownsRow base t 1 v n xs :=
  h.kept (grown_below hb) (by cases hv : v.ownBlock <;> simp)
theorem own_some {w : World} {base : Nat} {t : TypeId} {v : Value} {n : Nat} {xs : List Value} (h : w.ownsRow base t 1 v (n + 1) xs) :
    ∃ g cap, ∃ cur : List Value, v = .slice (some ⟨g, 0, none⟩) (n + 1) cap ∧ base ≤ g ∧ Hid (w.heap[g]? = some (.cells cur.toArray t (0, 0))) ∧ n + 1 ≤ cap ∧ cap ≤ maxLen ∧ Hid (cur.length = cap) ∧ Hid (cur.take (n + 1) = xs) := by
  rcases h.2 with ⟨_, h0⟩ | ⟨g, cap, cur, rfl, hb, hg, hn, hm, hs, ht⟩
  · omega
  · exact ⟨g, cap, cur.toList, rfl, hb, by show _ = _; simpa using hg, hn, hm, by show _ = _; simpa using hs, by show _ = _; simpa using ht⟩
theorem at_splice {w : World} {g m : Nat} {M : List Value} {t : TypeId} (h : w.heap[g]? = some (.cells M.toArray t (0, 0))) (hm : m < M.length) :
    ∃ z, w.cell? ⟨g, m, none⟩ = some z ∧ w.frozen? ⟨g, m, none⟩ = false :=
  ⟨M[m], by simp [World.cell?, h, hm], by simp [World.frozen?, h]⟩
theorem len_ins1 {xs : List L} {x : L} {m p : Nat} (hp : xs.length = p) (hm : m ≤ p) : (xs.take m ++ x :: xs.drop m).length = p + 1 := by simp [hp]; omega
theorem map_ins (xs : List L) (x : ByteArray) (m : Nat) : (xs.take m ++ x.data.toList :: xs.drop m).map encStr = (xs.map encStr).take m ++ .string x :: (xs.map encStr).drop m := by
  simp [List.map_take, List.map_drop, encStr]
theorem copy_facts {w : World} {base g cap m p q : Nat} {t : TypeId} {xs : List L} {cur : List Value} {e : Value} (h : w.ownsRow base t 1 (.slice (some ⟨g, 0, none⟩) (p + 1) cap) (p + 1) (xs.map encStr ++ [e]))
    (hA : (xs.map encStr).length = p) (hm : m ≤ p) (hq : q = m + 1) (hs : cur.length = cap) (hn : p + 1 ≤ cap) :
    ((xs.map encStr).drop m).length = (p + 1 - m).min (p + 1 - q) ∧
    (0 < ((xs.map encStr).drop m).length → some (⟨g, q, none⟩ : Addr) = some ⟨g, m + 1, none⟩ ∧ ∃ ad, some (⟨g, m, none⟩ : Addr) = some ad ∧ ∀ j v, ((xs.map encStr).drop m)[j]? = some v → w.drew.cell? (ad.add j) = some v) ∧
    m + 1 + ((xs.map encStr).drop m).length ≤ cur.length ∧ ∀ v ∈ (xs.map encStr).drop m, v.oneCell' = true := by
  refine ⟨?_, fun _ => ⟨by rw [hq], _, rfl, fun j v hj => ?_⟩, by rw [List.length_drop, hA]; omega, fun v hv => ?_⟩
  · rw [List.length_drop, hA, hq]
    show p - m = min (p + 1 - m) (p + 1 - (m + 1))
    omega
  · rw [List.getElem?_drop] at hj
    have hlt := (List.getElem?_eq_some_iff.1 hj).1
    have := h.cells (g := g) rfl (m + j) v (by rw [List.getElem?_append_left hlt]; exact hj)
    rw [Go.WideShapes.add_plain] at this ⊢
    rw [Nat.zero_add] at this
    exact this
  · obtain ⟨l, _, rfl⟩ := List.mem_map.1 (List.mem_of_mem_drop hv)
    rfl
set_option maxRecDepth 100000 in
set_option maxHeartbeats 400000 in
theorem rsort_any (a : Option Addr) (b o cap : Nat) (zs : List ByteArray) (w : World) (ha : 0 < zs.length → a = some ⟨b, o, none⟩) (hc : ∀ j x, zs[j]? = some x → w.cell? ⟨b, o + j, none⟩ = some (.string x)) (hl : zs.length ≤ 1000) :
    Calls Tryd.prog 33 #[.slice a zs.length cap] w (RefP w (rs (zs.map (·.data.toList)))) := by
  obtain ⟨i0, hinf, hz0, hz1, hz2⟩ := info_parts infoS
  obtain ⟨n, hn⟩ : ∃ n, zs.length = n := ⟨_, rfl⟩
  rw [hn] at ha hl ⊢
  have hN : Hid (zs.length = n) := hn
  have hC : Hid (∀ j x, zs[j]? = some x → w.cell? ⟨b, o + j, none⟩ = some (.string x)) := hc
  clear hn hc
  go_enter Tryd.func33, Tryd.ntmps33
  go_wp2_with fail
  go_loopw [3, 4] (fun v i wr => ∃ (k : Nat) (xs : List L), k ≤ n ∧ i = .int .i64 k ∧ xs.length ≤ k ∧ Hid (xs = rs ((zs.take k).map (·.data.toList))) ∧ Hid (wr.ownsRow w.heap.size 9 1 v xs.length (xs.map encStr)) ∧ Below w.heap.size w wr) (fun _ i _ => n - (intOf i).toNat)
  case atStart => exact ⟨0, [], by omega, rfl, by simp, by show _ = _; simp [rs], World.ownsRow_nil _ _ _ _, Below.refl _ _⟩
  case round =>
    obtain ⟨k, xs, hk, rfl, hxl, hxs, hown, hb⟩ := hrel
    have hwz := hb.size
    obtain ⟨av, g, cp, hv, hav, hcs⟩ := own_open hown.out
    by_cases hkl : k < n
    · obtain ⟨x, hx⟩ : ∃ x, zs[k]? = some x := ⟨_, List.getElem?_eq_getElem (by rw [hN.out]; exact hkl)⟩
      have c0 := hC.out k x hx
      have c1 := (hb.cell (p := ⟨b, o + k, none⟩) (cell_lt c0)).trans c0
      obtain rfl := ha (by omega)
      subst hv
      obtain ⟨p, hp⟩ : ∃ p, xs.length = p := ⟨_, rfl⟩
      have hCS : Hid (∀ j x, xs[j]? = some x → wr.cell? ⟨g, j, none⟩ = some (.string (bs x))) := hcs
      rw [hp] at hav hxl hown
      rw [hp]
      have hP : Hid (xs.length = p) := hp
      clear hp
      have hT : Hid (rs ((zs.take (k + 1)).map (·.data.toList)) = ins x.data.toList xs) := by
        show _ = _
        rw [List.take_add_one, hx, List.map_append, Option.toList_some, List.map_cons, List.map_nil, rs_snoc, ← hxs.out]
      have hc0 : Hid (w.cell? ⟨b, o + k, none⟩ = some (.string x)) := c0
      clear c0 hcs
      go_wp2_with fail
      go_loopw [5] (fun i wq => ∃ m : Nat, m ≤ p ∧ i = .int .i64 m ∧ Hid (∀ j y, j < m → xs[j]? = some y → y < x.data.toList) ∧ Below wr.heap.size wr wq) (fun i _ => p - (intOf i).toNat)
      case atStart => exact ⟨0, by omega, rfl, fun j y hj _ => by omega, Below.refl _ _⟩
      case round =>
        obtain ⟨m, hm, rfl, hlo, hbq⟩ := hrel
        have hqz := hbq.size
        have d1 := (hbq.cell (p := ⟨b, o + k, none⟩) (cell_lt c1)).trans c1
        by_cases hmp : m < p
        · obtain ⟨y, hy⟩ : ∃ y, xs[m]? = some y := ⟨_, List.getElem?_eq_getElem (by rw [hP.out]; exact hmp)⟩
          have e0 := hCS.out m y hy
          have d2 := (hbq.cell (p := ⟨g, m, none⟩) (cell_lt e0)).trans e0
          obtain rfl := hav (by omega)
          have hmi : decide ((m : Int) < (p : Int)) = true := by simp; omega
          clear e0 c1
          by_cases hlt : y < x.data.toList
          · have hbl : Op.bytesLess (bs y).toList x.toList = true := by rw [bytesLess_eq, Lib.toList_data, Lib.toList_data]; simp only [bs]; exact decide_eq_true hlt
            go_wp2_with fail
            go_quiet (fail)
            go_wp2_with fail
            exact ⟨⟨m + 1, by omega, by go_num, fun j z hj hz => by
              by_cases hjm : j = m
              · subst hjm; rw [hy] at hz; cases hz; exact hlt
              · exact hlo.out j z (by omega) hz, below_drewN hbq _⟩, by simp [intOf]; omega⟩
          · have hbl : Op.bytesLess (bs y).toList x.toList = false := by rw [bytesLess_eq, Lib.toList_data, Lib.toList_data]; simp only [bs]; exact decide_eq_false hlt
            have hins := ins_at x.data.toList xs m (by rw [hP.out]; exact hm) (fun j z hj hz => hlo.out j z hj hz) (fun z hz => by rw [hy] at hz; cases hz; exact hlt)
            by_cases heq : y = x.data.toList
            · have hbe : ((bs y).toList == x.toList) = true := by rw [Lib.toList_data, Lib.toList_data, heq]; simp [bs]
              rw [if_pos (by rw [hy, heq])] at hins
              have hI : Hid (ins x.data.toList xs = xs) := hins
              clear hins heq hlt hy
              go_wp2_with fail
              go_quiet (fail)
              go_wp2_with fail
              go_quiet (fail)
              go_wp2_with fail
              exact ⟨⟨k + 1, xs, by omega, by go_num, by rw [hP.out]; omega, by show _ = _; rw [hT.out, hI.out], by rw [hP.out]; exact own_below hown.out (below_drewN hbq _), hb.trans ((below_drewN hbq _).mono hwz)⟩, by simp [intOf]; omega⟩
            · have hbe : ((bs y).toList == x.toList) = false := by rw [Lib.toList_data, Lib.toList_data]; simpa [bs] using heq
              rw [if_neg (by rw [hy]; intro h; cases h; exact heq rfl)] at hins
              have hI : Hid (ins x.data.toList xs = xs.take m ++ x.data.toList :: xs.drop m) := hins
              clear hins heq hlt hy
              go_wp2_with fail
              go_quiet (fail)
              go_wp2_with fail
              go_quiet (fail)
              go_wp2_with (at_builtin; refine wpList_append_own_at _ rfl _ _ 36 rfl w.heap.size 9 i0 (.string ⟨#[]⟩) 1 16 Tryd.underlying36 hinf hz0 hz1 hz2 rfl (by decide) _ p (xs.map encStr) rfl ((own_below hown.out (below_drewN hbq _)).alloc _) ⟨_, 0, none⟩ 1 1 [.string ⟨#[]⟩] rfl rfl (World.news_of_block (cs := #[.string ⟨#[]⟩]) (t := 9) (fr := (0, 0)) (heap_alloc_new _ _)) (fun x hx => by simp at hx; subst hx; rfl) (by unfold maxLen; omega) (by omega) (by simp; omega) ?_; intro v' w3 hown' hgrow _ _)
              have hb3 : Below w.heap.size w w3 := ((hb.trans ((below_drewN hbq _).mono hwz)).alloc (by simp; omega) _).grown hgrow (by simp; omega) (fun k e => (hown.out.lt k e).1)
              obtain ⟨g', cp', cur, rfl, gb, gh, gn, gx, gs, gt⟩ := own_some hown'
              have x1 := (hb3.cell (p := ⟨b, o + k, none⟩) (cell_lt hc0.out)).trans hc0.out
              obtain ⟨q, hq⟩ : ∃ q, q = m + 1 := ⟨_, rfl⟩
              have hQ : Hid (q = m + 1) := hq
              have hwq : IntKind.i64.wrap ((m : Int) + 1) = (q : Int) := by rw [IntKind.wrap_i64]; omega
              have l1 : (q : Int) ≤ (p : Int) + 1 := by omega
              have l2 : ¬ cp' = q := by omega
              have l3 : ¬ cp' = m := by omega
              have l4 : (m : Int) ≤ (p : Int) + 1 := by omega
              clear hq
              have gx' : cp' ≤ 9223372036854775807 := by unfold maxLen at gx; omega
              have gx2 : Hid (cp' ≤ maxLen) := gx
              have hAl : Hid ((xs.map encStr).length = p) := by show _ = _; rw [List.length_map, hP.out]
              have F : Hid _ := copy_facts hown' hAl.out hm hQ.out gs.out gn
              clear hgrow hown' gx
              have gx := gx2
              go_region_law (refine step_copy_splice rfl (.tmp 50) (.tmp 53) 36 36 rfl 9 Tryd.underlying36 szS (some ⟨g', q, none⟩) (some ⟨g', m, none⟩) (p + 1 - q) (cp' - q) (p + 1 - m) (cp' - m) (by simp [Act.eval, Act.put]) (by simp [Act.eval, Act.put]) g' (m + 1) cur 9 (show w3.heap[g']? = _ from gh.out) ((xs.map encStr).drop m) F.out.1 F.out.2.1 F.out.2.2.1 F.out.2.2.2 w.heap.size w hb3.drew gb ?_; intro w4 hg4 hb4)
              have x2 := (hb4.cell (p := ⟨b, o + k, none⟩) (cell_lt hc0.out)).trans hc0.out
              obtain ⟨z, y1, y2⟩ := at_splice hg4.out (show m < _ by rw [length_splice _ _ _ F.out.2.2.1, gs.out]; omega)
              go_wp2_with fail
              have hfin := own_ins (X := .string x) (by rw [hAl.out]; exact hm) gb (by rw [hAl.out]; exact gn) gx.out gs.out (by rw [hAl.out]; exact gt.out) hg4.out
              rw [hAl.out] at hfin
              exact ⟨⟨k + 1, xs.take m ++ x.data.toList :: xs.drop m, by omega, by go_num, by rw [len_ins1 hP.out hm]; omega, by show _ = _; rw [hT.out, hI.out], by show World.ownsRow _ _ _ _ _ _ _; rw [len_ins1 hP.out hm, map_ins]; exact hfin, hb4.setCell (p := ⟨g', m, none⟩) gb _⟩, by simp [intOf]; omega⟩
        · obtain rfl : m = p := by omega
          have hmi : decide ((m : Int) < (m : Int)) = false := by simp
          have hins := ins_at x.data.toList xs m (by rw [hP.out]; exact hm) (fun j z hj hz => hlo.out j z hj hz) (fun z hz => by rw [List.getElem?_eq_none (by rw [hP.out]; exact Nat.le_refl _)] at hz; cases hz)
          rw [if_neg (by rw [List.getElem?_eq_none (by rw [hP.out]; exact Nat.le_refl _)]; simp)] at hins
          have hI : Hid (ins x.data.toList xs = xs.take m ++ x.data.toList :: xs.drop m) := hins
          clear hins hmp
          go_wp2_with fail
          go_quiet (fail)
          go_wp2_with fail
          go_quiet (fail)
          go_wp2_with (at_builtin; refine wpList_append_own_at _ rfl _ _ 36 rfl w.heap.size 9 i0 (.string ⟨#[]⟩) 1 16 Tryd.underlying36 hinf hz0 hz1 hz2 rfl (by decide) _ m (xs.map encStr) rfl ((own_below hown.out (below_drewN hbq _)).alloc _) ⟨_, 0, none⟩ 1 1 [.string ⟨#[]⟩] rfl rfl (World.news_of_block (cs := #[.string ⟨#[]⟩]) (t := 9) (fr := (0, 0)) (heap_alloc_new _ _)) (fun x hx => by simp at hx; subst hx; rfl) (by unfold maxLen; omega) (by omega) (by simp; omega) ?_; intro v' w3 hown' hgrow _ _)
          have hb3 : Below w.heap.size w w3 := ((hb.trans ((below_drewN hbq _).mono hwz)).alloc (by simp; omega) _).grown hgrow (by simp; omega) (fun k e => (hown.out.lt k e).1)
          obtain ⟨g', cp', cur, rfl, gb, gh, gn, gx, gs, gt⟩ := own_some hown'
          have x1 := (hb3.cell (p := ⟨b, o + k, none⟩) (cell_lt hc0.out)).trans hc0.out
          obtain ⟨q, hq⟩ : ∃ q, q = m + 1 := ⟨_, rfl⟩
          have hQ : Hid (q = m + 1) := hq
          have hwq : IntKind.i64.wrap ((m : Int) + 1) = (q : Int) := by rw [IntKind.wrap_i64]; omega
          have l1 : (q : Int) ≤ (m : Int) + 1 := by omega
          have l3 : ¬ cp' = m := by omega
          have l4 : (m : Int) ≤ (m : Int) + 1 := by omega
          clear hq
          have gx' : cp' ≤ 9223372036854775807 := by unfold maxLen at gx; omega
          have gx2 : Hid (cp' ≤ maxLen) := gx
          have hAl : Hid ((xs.map encStr).length = m) := by show _ = _; rw [List.length_map, hP.out]
          have F : Hid _ := copy_facts hown' hAl.out hm hQ.out gs.out gn
          clear hgrow hown' gx
          have gx := gx2
          by_cases l2 : cp' = q
          · subst l2
            go_region_law (refine step_copy_splice rfl (.tmp 50) (.tmp 53) 36 36 rfl 9 Tryd.underlying36 szS (some ⟨g', 0, none⟩) (some ⟨g', m, none⟩) (m + 1 - cp') (cp' - cp') (m + 1 - m) (cp' - m) (by simp [Act.eval, Act.put]; omega) (by simp [Act.eval, Act.put]) g' (m + 1) cur 9 (show w3.heap[g']? = _ from gh.out) ((xs.map encStr).drop m) F.out.1 (fun h => absurd h (by rw [List.length_drop, hAl.out]; omega)) F.out.2.2.1 F.out.2.2.2 w.heap.size w hb3.drew gb ?_; intro w4 hg4 hb4)
            have x2 := (hb4.cell (p := ⟨b, o + k, none⟩) (cell_lt hc0.out)).trans hc0.out
            obtain ⟨z, y1, y2⟩ := at_splice hg4.out (show m < _ by rw [length_splice _ _ _ F.out.2.2.1, gs.out]; omega)
            go_wp2_with fail
            have hfin := own_ins (X := .string x) (by rw [hAl.out]; exact hm) gb (by rw [hAl.out]; exact gn) gx.out gs.out (by rw [hAl.out]; exact gt.out) hg4.out
            rw [hAl.out] at hfin
            exact ⟨⟨k + 1, xs.take m ++ x.data.toList :: xs.drop m, by omega, by go_num, by rw [len_ins1 hP.out hm]; omega, by show _ = _; rw [hT.out, hI.out], by show World.ownsRow _ _ _ _ _ _ _; rw [len_ins1 hP.out hm, map_ins]; exact hfin, hb4.setCell (p := ⟨g', m, none⟩) gb _⟩, by simp [intOf]; omega⟩
          · go_region_law (refine step_copy_splice rfl (.tmp 50) (.tmp 53) 36 36 rfl 9 Tryd.underlying36 szS (some ⟨g', q, none⟩) (some ⟨g', m, none⟩) (m + 1 - q) (cp' - q) (m + 1 - m) (cp' - m) (by simp [Act.eval, Act.put]) (by simp [Act.eval, Act.put]) g' (m + 1) cur 9 (show w3.heap[g']? = _ from gh.out) ((xs.map encStr).drop m) F.out.1 (fun h => absurd h (by rw [List.length_drop, hAl.out]; omega)) F.out.2.2.1 F.out.2.2.2 w.heap.size w hb3.drew gb ?_; intro w4 hg4 hb4)
            have x2 := (hb4.cell (p := ⟨b, o + k, none⟩) (cell_lt hc0.out)).trans hc0.out
            obtain ⟨z, y1, y2⟩ := at_splice hg4.out (show m < _ by rw [length_splice _ _ _ F.out.2.2.1, gs.out]; omega)
            go_wp2_with fail
            have hfin := own_ins (X := .string x) (by rw [hAl.out]; exact hm) gb (by rw [hAl.out]; exact gn) gx.out gs.out (by rw [hAl.out]; exact gt.out) hg4.out
            rw [hAl.out] at hfin
            exact ⟨⟨k + 1, xs.take m ++ x.data.toList :: xs.drop m, by omega, by go_num, by rw [len_ins1 hP.out hm]; omega, by show _ = _; rw [hT.out, hI.out], by show World.ownsRow _ _ _ _ _ _ _; rw [len_ins1 hP.out hm, map_ins]; exact hfin, hb4.setCell (p := ⟨g', m, none⟩) gb _⟩, by simp [intOf]; omega⟩
    · obtain rfl : k = n := by omega
      subst hv
      obtain ⟨p, hp⟩ : ∃ p, xs.length = p := ⟨_, rfl⟩
      have hCS : Hid (∀ j x, xs[j]? = some x → wr.cell? ⟨g, j, none⟩ = some (.string (bs x))) := hcs
      rw [hp] at hav hxl hown
      rw [hp]
      have hP : Hid (xs.length = p) := hp
      clear hp
      clear hcs
      go_wp2_with fail
      go_ret
      have e := hxs.out
      rw [List.take_of_length_le (by rw [hN.out]; exact Nat.le_refl _)] at e
      rw [← e]
      exact ⟨av, g, cp, by rw [hP.out]; rfl, by rw [hP.out]; exact hav, hCS.out, hb⟩
end Go.Proofs.YtimmieelpaoncaaDoor
