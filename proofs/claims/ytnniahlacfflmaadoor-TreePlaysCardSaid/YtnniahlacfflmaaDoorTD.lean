/- The contracts of package tree's New, count, Touch, Make, Remove. -/
import Derived.Test.YtnniahlacfflmaaDoorTC
namespace Go.Proofs.YtnniahlacfflmaaDoor
open Go.RowKit Go.Shelf
attribute [local go_sem] Oper.semAt_some
theorem isP_size {s : ByteArray} (h : isP s = true) : 1 ≤ s.size := by
  obtain ⟨r, hr⟩ := hd_cons (isP_hd h)
  have := congrArg List.length hr
  rw [byt_len, List.length_cons] at this
  omega
set_option maxRecDepth 100000 in
set_option maxHeartbeats 2000000 in
theorem count_any (S : St) (s : ByteArray) (d : Int) (w : World) (h : Ts w S) (hs : s.size ≤ 1000) (h1 : 1 ≤ s.size) (hd1 : -1 ≤ d) (hd2 : d ≤ 1) (hk : fo s ∈ S.p.ks) (hc : S.c ≤ 900001) :
    Calls Tryd.prog 30 #[.pointer (some ⟨S.bt, 0, none⟩), .string s, .int .i64 d] w fun e w' => e = .returned (.tuple #[]) ∧ Goes S w ⟨S.p.ks, bumpN S.p.nd (fo s) d, bump (bump S.p.st s) (fo s)⟩ 3 w' := by
  have hfs : (fo s).size ≤ 1000 := Nat.le_trans (fo_le s) hs
  have hfo := hidP (folderOf_any s w h1 (by omega))
  have c0 := h.c0
  have l0 := h.look1 hfs
  obtain ⟨n, hn⟩ : ∃ n, S.p.nd (fo s) = n := ⟨_, rfl⟩
  rw [hn] at l0
  have b1 := h.b1 (fo s)
  have b2 := h.b2 (fo s)
  rw [hn] at b1 b2
  obtain ⟨V, hV⟩ : ∃ V, w.alloc (.cells #[.bool n.f, .int .i64 (n.ins + d), .bool n.m, .string n.wh, .int .i64 n.un] 61) = V := ⟨_, rfl⟩
  have bV : Below w.heap.size w V := by rw [← hV]; exact (Below.refl _ _).alloc (Nat.le_refl _) _
  have hT := h.below bV
  have hTd : Ts V.drew S := hT.below (Below.refl _ _).drew
  obtain ⟨W2, hrun2, g2⟩ := hTd.put hfs { n with ins := n.ins + d } S.p.ks (fun x => ⟨.inr, fun q => q.elim (fun e => e ▸ hk) id⟩) (by omega) (by simp only; omega) (by simp only; omega)
  have T2 := g2.g
  obtain ⟨W3, hrun3, g3⟩ := T2.mark (s := s) hs (by show S.c + 1 ≤ 1000000; omega)
  have T3 := g3.g
  obtain ⟨W4, hrun4, g4⟩ := T3.mark (s := fo s) hfs (by show S.c + 1 + 1 ≤ 1000000; omega)
  have m2 := T2.stamp (s := s) hs
  have m3 := T3.stamp (s := fo s) hfs
  have s2 := T2.b3 s
  have s3 := T3.b3 (fo s)
  have d0 := hTd.c0
  have d0' := hT.c0
  have e1 := T2.c1
  have e2 := T3.c1
  simp only at e1 e2
  have j0 : V.cell? ⟨w.heap.size, 0, none⟩ = some (.bool n.f) := by rw [← hV]; exact cell_at rfl rfl
  have j1 : V.cell? ⟨w.heap.size, 1, none⟩ = some (.int .i64 (n.ins + d)) := by rw [← hV]; exact cell_at rfl rfl
  have j2 : V.cell? ⟨w.heap.size, 2, none⟩ = some (.bool n.m) := by rw [← hV]; exact cell_at rfl rfl
  have j3 : V.cell? ⟨w.heap.size, 3, none⟩ = some (.string n.wh) := by rw [← hV]; exact cell_at rfl rfl
  have j4 : V.cell? ⟨w.heap.size, 4, none⟩ = some (.int .i64 n.un) := by rw [← hV]; exact cell_at rfl rfl
  have fin : Hid (Goes S w ⟨S.p.ks, bumpN S.p.nd (fo s) d, bump (bump S.p.st s) (fo s)⟩ 3 W4) := by
    have := (g2.trans g3).trans g4
    have e : bumpN S.p.nd (fo s) d = up S.p.nd (fo s) { n with ins := n.ins + d } := by unfold bumpN; rw [hn]
    show Goes S w _ 3 W4
    rw [e]
    exact Goes.ahead bV.drew this
  simp only at m2 m3 s2 s3 hrun3 hrun4
  obtain ⟨u2, hu2⟩ : ∃ u, S.p.st s = u := ⟨_, rfl⟩
  obtain ⟨u3, hu3⟩ : ∃ u, bump S.p.st s (fo s) = u := ⟨_, rfl⟩
  rw [hu2] at m2 s2 hrun3
  rw [hu3] at m3 s3 hrun4
  unfold ndV at l0 hrun2
  obtain ⟨q, hq⟩ : ∃ q, n.ins + d = q := ⟨_, rfl⟩
  have hqw : IntKind.i64.wrap q = q := by rw [IntKind.wrap_i64]; omega
  have hw2 : IntKind.i64.wrap (u2 + 1) = u2 + 1 := wrap_small _ (by omega) (by omega)
  have hw3 : IntKind.i64.wrap (u3 + 1) = u3 + 1 := wrap_small _ (by omega) (by omega)
  simp only [hq] at hrun2 j1 hV
  clear hT hTd T2 T3 g2 g3 g4 h bV hn hu2 hu3 hk h1 hc hs hfs hd1 hd2
  go_enter Tryd.func30, Tryd.ntmps30
  go_wp2_with fail
  refine hfo.out.mono ?_
  rintro e w2 ⟨rfl, rfl⟩
  go_wp2_with (first | rw [hq] | rw [hV])
  go_region
  go_wp2_with fail
  refine bodyPost_end (v := .tuple #[]) (by simp [results, Tryd.results30, go_sem]) rfl ?_
  exact ⟨rfl, fin.out⟩
end Go.Proofs.YtnniahlacfflmaaDoor
