/- Contract of cgroup's unnote, at a place behind the first. -/
import Derived.Test.YtgienkdfodjoiaaGreatGCd
namespace Go.Proofs.YtgienkdfodjoiaaGreat.Cg
open Go.RowKit Go.Shelf
set_option maxRecDepth 100000 in
set_option maxHeartbeats 2000000 in
theorem unnoteI (S : St) (x : ByteArray) (i : Nat) (w : World) (h : Gs w S) (hx : S.ns[i]? = some x) (hi0 : 0 < i) (hs : x.size ≤ 1000) (hc : S.c ≤ 900000) :
    Calls Tryz.prog 86 #[.pointer (some ⟨S.bt, 3, none⟩), .int .i64 i] w fun e w' => e = .returned (.tuple #[]) ∧ ∃ nv, Goes S w { S with nv := nv, ns := S.ns.eraseIdx i } w' 0 := by
  have hi : i < S.ns.length := (List.getElem?_eq_some_iff.1 hx).1
  obtain ⟨m, hm, hn⟩ := h.noted
  have hH := hidP h
  obtain ⟨g, o, cap, hnv, hg, hcap, hmx, hcells, hsp⟩ := h.nts.some (by intro e; rw [e] at hi; simp at hi)
  have c2 := h.c2
  have c3 := h.c3
  rw [hnv] at c2
  have hl2 := h.nl
  have k0 : w.cell? ⟨g, o + i, none⟩ = some (.string x) := hcells i x hx
  have hD : Hid (∀ W, Below w.heap.size w W → Calls Tryz.prog 103 #[.map (some S.bn), .string x] W fun e w' => e = .returned (.tuple #[]) ∧ MS w' S.bn (dnN (setS S.ns x).isSome m) (fun y => if y = x then none else setS S.ns y) ∧ Mv (fun k => k = S.bn) W w') := fun W hb => dropS_any S.bn m _ x W (hn.mv (E := fun _ => False) (Mv.below hb) (fun h => h)) hs
  have hsn := hidP (And.intro hcells hsp)
  have hnvH := hidP hnv
  have hxH := hidP hx
  have hmH := hidP hm
  have hiH := hidP hi
  have hcapH := hidP hcap
  have hmxH := hidP hmx
  have hdel := hidP (fun W => delete_one g o cap i S.ns W)
  obtain ⟨n, hn0⟩ : ∃ n, S.ns.length = n := ⟨_, rfl⟩
  rw [hn0] at c2 hdel hi
  have hn0H := hidP hn0
  have hlt1 : decide ((i : Int) = 0) = false := by simp; omega
  have hn9 : n ≤ 900000 := by omega
  clear hcells hsp h hn hnv hx hm hcap hmx hl2 hn0
  go_enter Tryz.func86, Tryz.ntmps86
  go_wp2_with fail
  go_region_with (go_at_call 103; refine (hD.out _ (Below.refl _ _).drew).mono ?_; rintro e w2 ⟨rfl, hn2, mv2⟩)
  all_goals
    have mw : Mv (fun k => k = S.bn) w w2 := (Mv.drew _ _).trans' mv2
    have hgB := (hH.out.nbs (k := g) (by rw [hnvH.out]; rfl))
    have hne := hH.out.nes
    have d2 := mw.cell (a := ⟨S.bt, 5, none⟩) hne.2.2.1 c2
    have f2 := (mw.froz (a := ⟨S.bt, 5, none⟩) hne.2.2.1 (cell_lt c2)).trans (hH.out.fz 5)
    have hbk := mw.block g hg hgB.2.2.2.1
    have hcl : ∀ j, w2.cell? ⟨g, o + j, none⟩ = w.cell? ⟨g, o + j, none⟩ := fun j => World.cell?_of_block hbk
    have hdl := hdel.out w2 (Nat.lt_of_lt_of_le hg mw.size) (fun j y hy => (hcl j).trans (hsn.out.1 j y hy)) (fun j hj => by
      rw [hcl]; exact ⟨(hsn.out.2 j hj).1, (mw.froz (a := ⟨g, o + j, none⟩) hgB.2.2.2.1 hg).trans (hsn.out.2 j hj).2⟩) (by have := hcapH.out; have := hn0H.out; omega) hmxH.out (by have := hiH.out; have := hn0H.out; omega)
    have hfin : Hid (∀ w4, NS w4 (.slice (some ⟨g, o, none⟩) (n - 1) cap) (S.ns.eraseIdx i) → Mv (fun k => k = g) w2 w4 → Goes S w { S with nv := .slice (some ⟨g, o, none⟩) (n - 1) cap, ns := S.ns.eraseIdx i } (w4.setCell ⟨S.bt, 5, none⟩ (.slice (some ⟨g, o, none⟩) (n - 1) cap)) 0) := fun w4 hv m4 =>
      hH.out.unnoted (i := i) (x := x) hxH.out mw hn2 hmH.out (m4.mono (fun k _ e => by rw [hnvH.out, e]; rfl)) hv (by rw [hnvH.out]; rfl)
    have hbtg : Hid (S.bt ≠ g) := hgB.1.symm
    have hcast : ((i + 1 : Nat) : Int) = (i : Int) + 1 := by omega
    rw [hcast] at hdl
    clear hD hsn hnvH hxH hmH c2 c3 k0 hgB hne mw mv2 hn2 hH hdel hcl hbk hcapH hmxH hiH hn0H hcast
    go_wp2_with fail
    refine hdl.mono ?_
    rintro e w4 ⟨rfl, hv4, m4⟩
    have fin := hidP (hfin.out w4 hv4 m4)
    have d4 := m4.cell (a := ⟨S.bt, 5, none⟩) hbtg.out d2
    have f4 := (m4.froz (a := ⟨S.bt, 5, none⟩) hbtg.out (cell_lt d2)).trans f2
    clear hfin hv4 m4 d2 f2 hdl hbtg
    go_wp2_with fail
    refine bodyPost_end (v := .tuple #[]) (by simp [results, Tryz.results86, go_sem]) rfl ?_
    exact ⟨rfl, _, fin.out⟩
end Go.Proofs.YtgienkdfodjoiaaGreat.Cg
