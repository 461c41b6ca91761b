/- Contracts of cgroup's Make, Of. -/
import Derived.Test.YtgienkdfodjoiaaGreatGF
namespace Go.Proofs.YtgienkdfodjoiaaGreat.Cg
open Go.RowKit Go.Shelf
def noName : ByteArray := ⟨#[]⟩
theorem not_empty {s : ByteArray} (h : s ≠ noName) : s.toList.isEmpty = false := by
  cases e : s.toList.isEmpty with
  | false => rfl
  | true =>
    exfalso
    apply h
    rw [ByteArray.toList_eq, List.isEmpty_iff] at e
    exact ByteArray.ext (Array.toList_inj.1 e)
def makeE (l : Gl) (s : ByteArray) : Int := if s = noName then 90 else if (fnd l s).isSome = true then 91 else 0
set_option maxRecDepth 100000 in
set_option maxHeartbeats 2000000 in
theorem make_nil (S : St) (w : World) :
    Calls Tryz.prog 11 #[.pointer (some ⟨S.bt, 3, none⟩), .string ⟨#[]⟩] w fun e w' => e = .returned (.int .i64 90) ∧ w' = w := by
  go_enter Tryz.func11, Tryz.ntmps11
  go_wp2_with fail
  go_ret
  exact ⟨rfl, rfl⟩
set_option maxRecDepth 100000 in
set_option maxHeartbeats 2000000 in
theorem make_there (S : St) (s : ByteArray) (g : G) (w : World) (h : Gs w S) (hs : s.size ≤ 1000) (hne : s ≠ noName) (hf : fnd S.l s = some g) :
    Calls Tryz.prog 11 #[.pointer (some ⟨S.bt, 3, none⟩), .string s] w fun e w' => e = .returned (.int .i64 91) ∧ Below w.heap.size w w' := by
  obtain ⟨m, hm, ho⟩ := h.held
  have hlk := ho.look lawS (t := 103) Tryz.underlying103 (zeroG w) (keyS hs)
  rw [hf] at hlk
  simp only [Option.map_some, Option.getD_some, Option.isSome_some, gV] at hlk
  have c0 := h.c0
  have hd : s.toList.isEmpty = false := not_empty hne
  clear h hm ho hf hne
  go_enter Tryz.func11, Tryz.ntmps11
  go_wp2_with fail
  go_ret
  exact ⟨rfl, (Below.refl _ _).alloc (Nat.le_refl _) _⟩
set_option maxRecDepth 100000 in
set_option maxHeartbeats 4000000 in
theorem make_new (S : St) (s : ByteArray) (w : World) (h : Gs w S) (hs : s.size ≤ 1000) (hne : s ≠ noName) (hf : fnd S.l s = none) (hc : S.c ≤ 900000) :
    Calls Tryz.prog 11 #[.pointer (some ⟨S.bt, 3, none⟩), .string s] w fun e w' => e = .returned (.int .i64 0) ∧ ∃ b, Goes S w { S with c := S.c + 1, l := insG ⟨s, b, []⟩ S.l } w' 1 := by
  have hmm := @run_makeMap Tryz.prog
  obtain ⟨m, hm0, ho⟩ := h.held
  have hlk := ho.look lawS (t := 103) Tryz.underlying103 (zeroG w) (keyS hs)
  rw [hf] at hlk
  simp only [Option.map_none, Option.getD_none, Option.isSome_none, gzV] at hlk
  have c0 := h.c0
  have hd : s.toList.isEmpty = false := not_empty hne
  obtain ⟨W, hW⟩ : ∃ W, w.alloc (.cells #[.string ⟨#[]⟩, .map none] 131) = W := ⟨_, rfl⟩
  have hbW : Below w.heap.size w W := by rw [← hW]; exact (Below.refl _ _).alloc (Nat.le_refl _) _
  have c0W := (h.below hbW).c0
  obtain ⟨V, hV⟩ : ∃ V, W.alloc (.map #[] 0) = V := ⟨_, rfl⟩
  have hbV : Below w.heap.size w V := by rw [← hV]; exact hbW.alloc hbW.size _
  have hmade : MZ V W.heap.size 0 (setZ []) := by rw [← hV]; exact (MapIs.made W).cong (fun a => by simp [setZ])
  obtain ⟨w4, hrun, ho4, mv4⟩ := ((ho.mv (E := fun _ => False) (Mv.below hbV) (fun h => h)).store lawS (fun _ _ => eS_inj) klS (t := 103) Tryz.underlying103 (a := s) (keyS hs) (gV ⟨s, W.heap.size, []⟩) (by unfold maxLen; omega))
  have mv : Mv (fun k => k = S.bh) w w4 := (Mv.below hbV).trans' mv4
  have hlt : S.bh < w.heap.size := ho.lt
  have fin : Hid (Goes S w { S with c := S.c + 1, l := insG ⟨s, W.heap.size, []⟩ S.l } w4 1) := by
    have hf' : fnd S.l (G.mk s W.heap.size []).name = none := hf
    have := h.turnH mv (fun k e => e) (l := insG ⟨s, W.heap.size, []⟩ S.l) (m := upN ((fnd S.l s).map gV).isSome m) (c := S.c + 1)
      (ho4.cong (fun x => by
        show (fnd (insG ⟨s, W.heap.size, []⟩ S.l) x).map gV = _
        rw [fnd_ins h.wf.names hf' x]
        by_cases e : x = s
        · rw [if_pos e, if_pos e]; rfl
        · rw [if_neg e, if_neg e])) (by unfold upN; split <;> omega) (fun a => hm_ins h.wf rfl a)
      (fun g hg => by
        rcases mem_insG.1 hg with rfl | hg
        · exact .inr ⟨hbW.size, rfl, hmade.mv mv4 (fun e => by have := hbW.size; have e' : W.heap.size = S.bh := e; omega)⟩
        · exact .inl hg)
      (by
        have hp := h.ap
        unfold Bs at hp
        have h4 := (List.pairwise_cons.1 (List.pairwise_cons.1 (List.pairwise_cons.1 (List.pairwise_cons.1 hp).2).2).2).2
        rw [List.pairwise_map] at h4 ⊢
        refine ((insG_perm _ S.l).pairwise_iff (fun {a b} (h : a.blk ≠ b.blk) => h.symm)).2 (List.pairwise_cons.2 ⟨fun q hq => ?_, h4⟩)
        have := h.lt (hasG hq)
        have := hbW.size
        show W.heap.size ≠ q.blk
        omega)
      (h.wf.ins hf' rfl hs) (by omega)
    exact this.mono (by omega)
  unfold gV at hrun
  have hWs : W.heap.size = w.heap.size + 1 := by rw [← hW]; simp
  rw [hWs] at hrun fin
  subst hV
  subst hW
  have qT : ∀ (w : World) (r : Option Nat), (binOp .eql 103 (.map r) (.map none)).run Tryz.prog w = .ok (.bool r.isNone) w := fun w r => run_eql_map_nil w _ _ _ r Tryz.underlying103
  clear h hm0 ho hf hne hbW hbV ho4 mv4 mv hmade hlt hWs
  go_enter Tryz.func11, Tryz.ntmps11
  go_wp2_with fail
  go_ret
  exact ⟨rfl, _, fin.out⟩
theorem make_any (S : St) (s : ByteArray) (w : World) (h : Gs w S) (hs : s.size ≤ 1000) (hc : S.c ≤ 900000) :
    Calls Tryz.prog 11 #[.pointer (some ⟨S.bt, 3, none⟩), .string s] w fun e w' => e = .returned (.int .i64 (makeE S.l s)) ∧ ∃ S' b, Goes S w S' w' 1 ∧ S'.l = (if makeE S.l s = 0 then insG ⟨s, b, []⟩ S.l else S.l) ∧ S'.ns = S.ns := by
  unfold makeE
  by_cases hne : s = noName
  · rw [if_pos hne]
    subst hne
    refine (make_nil S w).mono ?_
    rintro e w' ⟨rfl, rfl⟩
    exact ⟨rfl, S, 0, (Goes.refl h).mono (by omega), rfl, rfl⟩
  · rw [if_neg hne]
    cases hf : fnd S.l s with
    | some g =>
      refine (make_there S s g w h hs hne hf).mono ?_
      rintro e w' ⟨rfl, hb⟩
      exact ⟨rfl, S, 0, (Goes.below h hb).mono (by omega), rfl, rfl⟩
    | none =>
      refine (make_new S s w h hs hne hf hc).mono ?_
      rintro e w' ⟨rfl, b, hg⟩
      exact ⟨rfl, _, b, hg, rfl, rfl⟩
/-- The name of a home. -/
def ofN (l : Gl) (a : Int) : ByteArray := ((hm l a).map G.name).getD noName
set_option maxRecDepth 100000 in
set_option maxHeartbeats 2000000 in
theorem of_any (S : St) (a : Int) (w : World) (h : Gs w S) (h0 : -9223372036854775808 ≤ a) (h1 : a ≤ 9223372036854775807) :
    Calls Tryz.prog 49 #[.pointer (some ⟨S.bt, 3, none⟩), .int .i64 a] w fun e w' => e = .returned (.tuple #[.string (ofN S.l a), .bool (hm S.l a).isSome]) ∧ Below w.heap.size w w' := by
  obtain ⟨m, hmc, ho⟩ := h.homes
  have hlk := ho.look lawZ (t := 104) Tryz.underlying104 (zeroG w) (keyZ h0 h1)
  have hV : Hid (∃ v, ((hm S.l a).map gV).getD gzV = .agg #[.string (ofN S.l a), .map v]) := by
    unfold ofN
    cases hm S.l a with
    | none => exact ⟨_, rfl⟩
    | some g => exact ⟨_, rfl⟩
  obtain ⟨v, hv⟩ := hV.out
  rw [hv, Option.isSome_map] at hlk
  obtain ⟨b, hb⟩ : ∃ b, (hm S.l a).isSome = b := ⟨_, rfl⟩
  obtain ⟨n, hn⟩ : ∃ n, ofN S.l a = n := ⟨_, rfl⟩
  rw [hb, hn] at hlk
  rw [hb, hn]
  have c1 := h.c1
  clear h hmc ho hV hv hb hn
  go_enter Tryz.func49, Tryz.ntmps49
  go_wp2_with fail
  go_ret2
  exact ⟨rfl, (Below.refl _ _).alloc (Nat.le_refl _) _⟩
end Go.Proofs.YtgienkdfodjoiaaGreat.Cg
