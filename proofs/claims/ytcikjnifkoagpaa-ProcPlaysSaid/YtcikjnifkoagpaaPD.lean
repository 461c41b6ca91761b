/- Contracts of package proc's All with the law's closure; the law's all. -/
import Derived.Test.YtcikjnifkoagpaaPC
import Derived.Test.YtcikjnifkoagpaaShelfK
namespace Go.Proofs.Ytcikjnifkoagpaa
open Go.RowKit Go.Shelf
def prsC (l : Ps) : List Value := l.flatMap prC
theorem prsC_snoc (l : Ps) (p : Pr) : prsC (l ++ [p]) = prsC l ++ prC p := by simp [prsC]
theorem prsC_len (l : Ps) : (prsC l).length = l.length * 6 := by
  induction l with
  | nil => rfl
  | cons p r ih => simp only [prsC, List.flatMap_cons, List.length_append] at ih ⊢; rw [ih]; simp [prC]; omega
theorem keys_Dm (l : Ps) : intKeys (Dm l) = l.map (·.pid) := by
  show List.map _ (List.map ent l) = _
  rw [List.map_map]
  rfl
theorem keys_sorted {l : Ps} (hs : Srt l) {ss : List Int} (hp : ss.Perm (intKeys (Dm l))) : ss.mergeSort (fun x y => decide (x ≤ y)) = l.map (·.pid) := by
  rw [keys_Dm] at hp
  rw [mergeSort_of_perm_i hp]
  refine List.mergeSort_of_pairwise ?_
  unfold Srt at hs
  rw [List.pairwise_map]
  exact hs.imp (fun h => by simp only [leI, decide_eq_true_eq]; omega)
theorem infoP : (Try.prog.info? 40).map (fun i => (i.zero, i.size, i.bytes)) = some (some (.agg #[.int .i64 0, .int .i64 0, .string ⟨#[]⟩, .bool false, .int .i64 0, .string ⟨#[]⟩]), 6, 64) := by kernel_rfl
theorem six_new (w : World) (a b c d e f : Value) (t : TypeId) : ∀ j u, [a, b, c, d, e, f][j]? = some u → (w.alloc (.cells #[a, b, c, d, e, f] t)).cell? ((⟨w.heap.size, 0, none⟩ : Addr).add j) = some u := by
  intro j u hj
  match j, hj with
  | 0, hj => simp at hj; subst hj; simp [Addr.add]
  | 1, hj => simp at hj; subst hj; simp [Addr.add]
  | 2, hj => simp at hj; subst hj; simp [Addr.add]
  | 3, hj => simp at hj; subst hj; simp [Addr.add]
  | 4, hj => simp at hj; subst hj; simp [Addr.add]
  | 5, hj => simp at hj; subst hj; simp [Addr.add]
set_option maxRecDepth 100000 in
set_option maxHeartbeats 4000000 in
theorem all1_any (B pa ps : Nat) (st : Int) (p : Pr) (v : Value) (acc : Ps) (W : World) (hB : B ≤ W.heap.size) (hpa : pa < B) (hps : ps < B) (n1 : ps ≠ pa) (ca : Cl pa v W) (cs : W.cell? ⟨ps, 0, none⟩ = some (.int .i64 st)) (ho : W.ownsRow B 40 6 v acc.length (prsC acc)) (hal : acc.length ≤ 190) :
    Calls Try.prog 32 #[prV p, .pointer (some ⟨pa, 0, none⟩), .pointer (some ⟨ps, 0, none⟩)] W fun e W' => e = .returned (.bool (decide (((acc.length + 1 : Nat) : Int) ≠ st))) ∧ ∃ v', Cl pa v' W' ∧ W'.ownsRow B 40 6 v' (acc.length + 1) (prsC (acc ++ [p])) ∧ Mv (fun k => k = pa ∨ v.ownBlock = some k) W W' ∧ (v'.ownBlock = v.ownBlock ∨ ∃ k, v'.ownBlock = some k ∧ W.heap.size ≤ k) := by
  obtain ⟨i0, hinf, hz0, hz1, hz2⟩ := info_parts infoP
  have hcl : Hid (prsC (acc ++ [p]) = prsC acc ++ prC p) := prsC_snoc acc p
  obtain ⟨p0, p1, p2, p3, p4, p5, p6, p7⟩ := p
  obtain ⟨W1, hW1⟩ : ∃ W1, W.alloc (.cells #[.int .i64 p0, .int .i64 p1, .string p2, .bool p3, .int .i64 p4, .string p5] 40) = W1 := ⟨_, rfl⟩
  have m1 : ∀ F, Mv F W W1 := fun F => by rw [← hW1]; exact Mv.alloc _ _ _
  have hBW : B ≤ W1.heap.size := by have := (m1 (fun _ => False)).size; omega
  have x0 : W1.cell? ⟨W.heap.size, 0, none⟩ = some (.int .i64 p0) := by rw [← hW1]; exact cell_at rfl rfl
  have x1 : W1.cell? ⟨W.heap.size, 1, none⟩ = some (.int .i64 p1) := by rw [← hW1]; exact cell_at rfl rfl
  have x2 : W1.cell? ⟨W.heap.size, 2, none⟩ = some (.string p2) := by rw [← hW1]; exact cell_at rfl rfl
  have x3 : W1.cell? ⟨W.heap.size, 3, none⟩ = some (.bool p3) := by rw [← hW1]; exact cell_at rfl rfl
  have x4 : W1.cell? ⟨W.heap.size, 4, none⟩ = some (.int .i64 p4) := by rw [← hW1]; exact cell_at rfl rfl
  have x5 : W1.cell? ⟨W.heap.size, 5, none⟩ = some (.string p5) := by rw [← hW1]; exact cell_at rfl rfl
  have ca1 := ca.mv (m1 (fun _ => False)) (fun h => h)
  have a0 := ca1.c
  have ho1 := own_mv ho (m1 (fun _ => False)) (fun _ _ h => h)
  have hr1 := ho1.alloc (.cells #[.int .i64 p0, .int .i64 p1, .string p2, .bool p3, .int .i64 p4, .string p5] 40)
  simp only [prV]
  go_enter Try.func32, Try.ntmps32
  go_wp2_with (first | rw [hW1] | (at_builtin; refine wpList_append_own_at _ rfl _ _ 51 rfl B 40 i0 (.agg #[.int .i64 0, .int .i64 0, .string ⟨#[]⟩, .bool false, .int .i64 0, .string ⟨#[]⟩]) 6 64 Try.underlying51 hinf hz0 hz1 hz2 rfl (by decide) _ _ _ rfl hr1 ⟨W1.heap.size, 0, none⟩ 1 1 [.int .i64 p0, .int .i64 p1, .string p2, .bool p3, .int .i64 p4, .string p5] rfl rfl (six_new W1 _ _ _ _ _ _ _) (fun x hx => by simp at hx; rcases hx with rfl | rfl | rfl | rfl | rfl | rfl <;> rfl) (by unfold maxLen; omega) (by omega) (by simp; omega) ?_))
  intro v' w4 hown' hgrow _ hat
  have mg : Mv (fun k => v.ownBlock = some k) W w4 := ((m1 _).trans' (Mv.alloc _ _ _)).grown hgrow (fun k e => .inl e)
  have nb : ∀ k, k < B → ¬ v.ownBlock = some k := fun k hk e => by have := (ho.lt k e).1; omega
  have c4 := ca.mv mg (nb _ hpa)
  have s4 := mg.cell (nb _ hps) cs
  have mset : Mv (fun k => k = pa) w4 (w4.setCell ⟨pa, 0, none⟩ v') := Mv.set1 (E := fun k => k = pa) rfl _
  obtain ⟨w5, hw5⟩ : ∃ w5, w4.setCell ⟨pa, 0, none⟩ v' = w5 := ⟨_, rfl⟩
  have c5 := c4.set v'
  rw [hw5] at c5 mset
  have s5 := mset.cell n1 s4
  have h4 : ∀ k, v'.ownBlock = some k → B ≤ k := fun k hk => (hown'.lt k hk).1
  have ho5 := own_mv hown' mset (fun g hg e => by have := h4 g hg; omega)
  have m5 : Mv (fun k => k = pa ∨ v.ownBlock = some k) W w5 := (mg.mono (fun k _ e => .inr e)).trans' (mset.mono (fun k _ e => .inl e))
  have hat' : Hid (v'.ownBlock = v.ownBlock ∨ ∃ k, v'.ownBlock = some k ∧ W.heap.size ≤ k) := by
    rcases hat with h | h
    · exact .inl h
    · exact .inr ⟨_, h, by have := (m1 (fun _ => False)).size; simp; omega⟩
  clear hat
  obtain ⟨gg, cap', rfl⟩ := ownsRow_succ hown'
  have g0 := c4.c
  have g1 := c4.f
  have g2 := c5.c
  have hM2 : (acc.length : Int) + 1 ≤ 200 := by omega
  by_cases hst : ((acc.length : Int) + 1) = st
  · have hst' : (((acc.length : Int) + 1) == st) = true := by simpa using hst
    have hst2 : (((acc.length : Int) + 1) != st) = false := by simpa using hst
    have hfin : Hid (decide (((acc.length + 1 : Nat) : Int) ≠ st) = false) := by show _ = _; simp; omega
    clear hst
    go_wp2_with (rw [hw5])
    go_ret
    exact ⟨ret_bool hfin.out.symm, _, c5, by rw [hcl.out]; exact ho5, m5, hat'.out⟩
  · have hst' : (((acc.length : Int) + 1) == st) = false := by simpa using hst
    have hst2 : (((acc.length : Int) + 1) != st) = true := by simpa using hst
    have hfin : Hid (decide (((acc.length + 1 : Nat) : Int) ≠ st) = true) := by show _ = _; simp; omega
    go_wp2_with (rw [hw5])
    go_ret
    exact ⟨ret_bool hfin.out.symm, _, c5, by rw [hcl.out]; exact ho5, m5, hat'.out⟩
theorem lk_at {l : Ps} (hs : Srt l) {k : Nat} {x : Pr} (h : l[k]? = some x) : lk l x.pid = some x := by
  induction l generalizing k with
  | nil => simp at h
  | cons a r ih =>
    obtain ⟨h1, h2⟩ := List.pairwise_cons.1 hs
    unfold lk
    rw [List.find?_cons]
    cases k with
    | zero => simp at h; subst h; simp
    | succ k =>
      simp at h
      have := h1 x (List.mem_of_getElem? h)
      rw [decide_eq_false (by omega)]
      exact ih h2 h
/-- The keys of a table's map, in their order, in memory. -/
theorem row_keys {w : World} {base : Nat} {l : Ps} {vk : Value} {ss : List Int} (hs : Srt l) (hp : ss.Perm (intKeys (Dm l))) (hrow : w.ownsRow base 3 1 vk ss.length ((ss.mergeSort (fun x y => decide (x ≤ y))).map encZ)) (hnil : vk = .slice none 0 0 ↔ ss = []) :
    ∃ a gk cap, vk = .slice a l.length cap ∧ (0 < l.length → a = some ⟨gk, 0, none⟩ ∧ base ≤ gk) ∧ ∀ (k : Nat) (x : Pr), l[k]? = some x → w.cell? ⟨gk, k, none⟩ = some (.int .i64 x.pid) := by
  have hl : ss.length = l.length := by rw [hp.length_eq, keys_Dm]; simp
  rw [keys_sorted hs hp, hl] at hrow
  cases hn : l.length with
  | zero =>
    have : ss = [] := List.eq_nil_of_length_eq_zero (by omega)
    refine ⟨none, 0, 0, hnil.2 this, fun h => absurd h (by omega), fun k x hx => ?_⟩
    rw [List.eq_nil_of_length_eq_zero hn] at hx
    simp at hx
  | succ m =>
    rw [hn] at hrow
    obtain ⟨g, cap, rfl⟩ := ownsRow_succ hrow
    refine ⟨_, g, cap, rfl, fun _ => ⟨rfl, (hrow.lt g rfl).1⟩, fun k x hx => ?_⟩
    have := hrow.cells (g := g) rfl k (.int .i64 x.pid) (by simp [hx])
    by_cases h : k = 0
    · subst h; simpa [Addr.add] using this
    · simpa [Addr.add, h] using this
/-- The territory of the closure: its own variable, and what is new. -/
def Tc (B pa k : Nat) : Prop := k = pa ∨ B ≤ k
theorem field_pr (p : Pr) (W : World) : (Instr.field 64 (psV p) 0).run Try.prog W = .ok (prV p) W := by
  have ha : ∀ w, (isAgg 40).run Try.prog w = .ok true w := fun w => by kernel_rfl
  have hz : ∀ w, (sizeOf 40).run Try.prog w = .ok 6 w := fun w => by kernel_rfl
  simp [Instr.field, run_underlying Try.underlying64, psV, prV, go_sem, part, ha, hz]
  rfl
theorem take_snoc {l : Ps} {k : Nat} {x : Pr} (h : l[k]? = some x) : l.take (k + 1) = l.take k ++ [x] := by rw [List.take_add_one, h]; rfl
set_option maxRecDepth 100000 in
set_option maxHeartbeats 4000000 in
theorem allf_0 (pa ps pt bt bm : Nat) (room last : Int) (l : Ps) (W0 : World) (hT : Tb W0 bt bm room last l) (hs : Srt l) (hlen : l.length ≤ 150) (hpid : ∀ p ∈ l, -9223372036854775808 ≤ p.pid ∧ p.pid ≤ 9223372036854775807)
    (hpa : pa < W0.heap.size) (hps : ps < W0.heap.size) (n1 : ps ≠ pa) (n2 : bt ≠ pa) (n3 : bm ≠ pa) (n4 : pt ≠ pa) (ca : Cl pa (.slice none 0 0) W0) (cs : W0.cell? ⟨ps, 0, none⟩ = some (.int .i64 0)) (ct : W0.cell? ⟨pt, 0, none⟩ = some (.pointer (some ⟨bt, 0, none⟩))) :
    Calls Try.prog 34 #[.func (.func 32) #[] #[.pointer (some ⟨pa, 0, none⟩), .pointer (some ⟨ps, 0, none⟩)], .pointer (some ⟨pt, 0, none⟩)] W0 fun e W' => e = .returned (.tuple #[]) ∧ ∃ v, Cl pa v W' ∧ W'.ownsRow W0.heap.size 40 6 v (l.length + 1) (prsC (one :: l)) ∧ Mv (Tc W0.heap.size pa) W0 W' := by
  obtain ⟨B, hB⟩ : ∃ B, W0.heap.size = B := ⟨_, rfl⟩
  obtain ⟨n, hn⟩ : ∃ n, l.length = n := ⟨_, rfl⟩
  have hbt := hT.lt
  have hbm := hT.ltm
  have hptl : pt < W0.heap.size := cell_lt ct
  rw [hB] at hpa hps hbt hbm hptl ⊢
  have nB : ∀ k, k < B → k ≠ pa → ¬ Tc B pa k := fun k hk hne h => by rcases h with h | h; exact hne h; omega
  have hcl := all1_any B pa ps 0 one (.slice none 0 0) [] W0 (by omega) hpa hps n1 ca cs (World.ownsRow_nil _ _ _ _) (by simp)
  rw [show decide (((([] : Ps).length + 1 : Nat) : Int) ≠ 0) = true from rfl] at hcl
  simp only [one, prV, List.nil_append] at hcl
  have hclH := hidP hcl
  have hTH := hidP hT
  have hnBH := hidP nB
  have csH := hidP cs
  have hpidH := hidP hpid
  have ctH := hidP ct
  have hsH := hidP hs
  have hN := hidP hn
  have hBH := hidP hB
  have hlenH : Hid (n ≤ 150) := by show _ ≤ _; omega
  clear hcl hT ca cs nB hpid hn hs ct hlen hB
  go_enter Try.func34, Try.ntmps34
  go_wp2_with fail
  refine hclH.out.mono ?_
  rintro e w1 ⟨rfl, v1, ca1, ho1, m1, ha1⟩
  have M1 : Mv (Tc B pa) W0 w1 := m1.mono (fun k _ h => by rcases h with h | h; exact .inl h; simp [Value.ownBlock] at h)
  have hT1 := hTH.out.mv M1 (hnBH.out _ hbt n2) (hnBH.out _ hbm n3)
  have ct1 := M1.cell (hnBH.out _ hptl n4) ctH.out
  have c2 := hT1.c2
  obtain ⟨nn, hnn, ho⟩ := hT1.mp
  have hso := Try.slices_Sorted bm nn (Dm l) heldElem w1 ho (by rw [size_Dm, hN.out]; unfold maxLen; have := hlenH.out; omega) (by rw [size_Dm, hN.out]; have := hlenH.out; omega)
  have hsoH := hidP hso
  have hv1 : Hid (∀ k, v1.ownBlock = some k → k < w1.heap.size) := fun k hk => (ho1.lt k hk).2
  have ho1H := hidP ho1
  have M1H := hidP M1
  have ca1H := hidP ca1
  clear ho1 M1 ca1 ha1 m1 hso ho hT1 hclH
  go_wp2_with fail
  refine (Try.maps_Keys _ _).mono ?_
  rintro e w2 ⟨rfl, rfl⟩
  go_wp2_with fail
  refine hsoH.out.mono ?_
  rintro e w3 ⟨vk, ss, rfl, hp, hrow, hnil, hb3⟩
  obtain ⟨a, gk, cap, rfl, hak, hck⟩ := row_keys hsH.out hp hrow hnil
  rw [hN.out] at hak
  have hs13 : w1.heap.size + 1 ≤ w3.heap.size := by have := hb3.size; simpa using this
  have m13 : Mv (fun _ => False) w1 w3 := (Mv.alloc _ _ _).trans' (Mv.below hb3)
  have M3 : Hid (Mv (Tc B pa) W0 w3) := M1H.out.trans' (m13.mono (fun _ _ h => h.elim))
  have ca3 := ca1H.out.mv m13 (fun h => h)
  have ho3 : Hid (w3.ownsRow B 40 6 v1 (0 + 1) (prsC (one :: l.take 0))) := own_mv ho1H.out m13 (fun _ _ h => h)
  have hv3 : Hid (0 < n → v1.ownBlock ≠ some gk) := fun h0 e => by have := hv1.out _ e; have := (hak h0).2; simp at this; omega
  have hckH := hidP hck
  have hakH := hidP hak
  have hslen : Hid (l.length = n) := hN.out
  have hb1B : Hid (B ≤ w1.heap.size) := by show _ ≤ _; have := M1H.out.size; have := hBH.out; omega
  rw [hN.out]
  clear hp hrow hnil hb3 hck hak hsoH hv1 ho1H ca1H ct1 c2 m13
  go_wp2_with fail
  go_loopw [16] (fun i wr => ∃ (k : Nat) (v : Value), k ≤ n ∧ i = .int .i64 k ∧ Cl pa v wr ∧ Hid (wr.ownsRow B 40 6 v (k + 1) (prsC (one :: l.take k))) ∧ Hid (Mv (Tc B pa) W0 wr) ∧ Hid (0 < n → v.ownBlock ≠ some gk) ∧ Hid (Mv (fun j => j ≠ gk ∧ Tc B pa j) w3 wr)) (fun i _ => n - (intOf i).toNat)
  case atStart => exact ⟨0, v1, by omega, rfl, ca3, ho3, M3, hv3, Mv.refl _ _⟩
  case round =>
    obtain ⟨k, v, hk, rfl, ca, ho, hm, hvg, hm3⟩ := hrel
    by_cases hlt : k < n
    · obtain ⟨x, hx⟩ : ∃ x, l[k]? = some x := ⟨_, List.getElem?_eq_getElem (by rw [hslen.out]; exact hlt)⟩
      obtain ⟨rfl, hgb⟩ := hakH.out (by omega)
      have hgB : B ≤ gk := by have := hb1B.out; simp at hgb; omega
      have hgpa : gk ≠ pa := by omega
      have hcell := hm3.out.cell (fun h => h.1 rfl) (hckH.out k x hx)
      have hTr := hTH.out.mv hm.out (hnBH.out _ hbt n2) (hnBH.out _ hbm n3)
      have ctr := hm.out.cell (hnBH.out _ hptl n4) ctH.out
      have csr := hm.out.cell (hnBH.out _ hps n1) csH.out
      have c2 := hTr.c2
      have hpx := hpidH.out x (List.mem_of_getElem? hx)
      have hlk := hTr.look1 hpx.1 hpx.2
      rw [lk_at hsH.out hx] at hlk
      simp only [Option.getD_some] at hlk
      have hlen : (one :: l.take k).length = k + 1 := by simp [List.length_take, hslen.out]; omega
      have hcl := all1_any B pa ps 0 x v (one :: l.take k) wr (by have := hm.out.size; have := hBH.out; omega) hpa hps n1 ca csr (by rw [hlen]; exact ho.out) (by rw [hlen]; have := hlenH.out; omega)
      rw [hlen, List.cons_append, ← take_snoc hx, show decide (((k + 1 + 1 : Nat) : Int) ≠ 0) = true by simp; omega] at hcl
      have hfd := field_pr x wr
      obtain ⟨p0, p1, p2, p3, p4, p5, p6, p7⟩ := x
      simp only [prV] at hcl hfd
      simp only [psV] at hlk hfd
      have hclH := hidP hcl
      have hkI : (k : Int) < (n : Int) := by omega
      have hn150 : (n : Int) ≤ 150 := by have := hlenH.out; omega
      have hov : Hid (∀ j, v.ownBlock = some j → B ≤ j ∧ j < wr.heap.size) := fun j hj => ho.out.lt j hj
      have hgl : Hid (gk < wr.heap.size) := cell_lt hcell
      clear hcl hlen hx hTr csr ho hpx hgb ca
      simp only at hcell
      go_wp2_with fail
      refine hclH.out.mono ?_
      rintro e w' ⟨rfl, v', hca, hown, hmv, hvv⟩
      have hvv' : Hid (0 < n → v'.ownBlock ≠ some gk) := fun h0 e => by
        rcases hvv with h | ⟨j, hj, hjl⟩
        · exact hvg.out h0 (h ▸ e)
        · rw [hj] at e; cases e; have := hgl.out; omega
      have hmvH := hidP hmv
      have hownH := hidP hown
      clear hvv hmv hown hcell hlk ctr c2
      go_wp2_with fail
      refine ⟨⟨k + 1, v', by omega, by go_num, hca, hownH.out, ?_, hvv', ?_⟩, by simp [intOf]; omega⟩
      · exact hm.out.trans' (hmvH.out.mono (fun j _ h => by rcases h with h | h; exact .inl h; exact .inr (hov.out j h).1))
      · exact hm3.out.trans' (hmvH.out.mono (fun j _ h => by
          rcases h with rfl | h
          · exact ⟨fun e => hgpa e.symm, .inl rfl⟩
          · exact ⟨fun e => hvg.out (by omega) (e ▸ h), .inr (hov.out j h).1⟩))
    · obtain rfl : k = n := by omega
      go_wp2_with fail
      refine bodyPost_end (v := .tuple #[]) (by simp [results, Try.results34, go_sem]) rfl ?_
      refine ⟨rfl, v, ca, ?_, hm.out⟩
      have := ho.out
      rw [List.take_of_length_le (by rw [hslen.out]; omega)] at this
      rw [hslen.out]
      exact this
end Go.Proofs.Ytcikjnifkoagpaa
