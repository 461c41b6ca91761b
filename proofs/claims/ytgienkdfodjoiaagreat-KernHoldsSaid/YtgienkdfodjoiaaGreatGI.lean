/- Contract of cgroup's Emptied. -/
import Derived.Test.YtgienkdfodjoiaaGreatGH
namespace Go.Proofs.YtgienkdfodjoiaaGreat.Cg
open Go.RowKit Go.Shelf
/-- The members of that name. -/
def mOf (l : Gl) (x : ByteArray) : List Int := ((fnd l x).map G.pids).getD []
def empR (l : Gl) : List ByteArray → Option ByteArray × List ByteArray
  | [] => (none, [])
  | x :: r => if mOf l x = [] then (some x, r) else empR l r
def lenNv : Option Value → Nat
  | some (.slice _ n _) => n
  | _ => 0
theorem NS.len {w : World} {v : Value} {xs : List ByteArray} (h : NS w v xs) : lenNv (Option.some v) = xs.length := by
  rcases h with ⟨rfl, rfl⟩ | ⟨g, o, cap, rfl, _⟩
  · rfl
  · rfl
def ifS (o : Option ByteArray) : ByteArray := o.getD noName
theorem lenNv_slice (p : Option Addr) (n c : Nat) : lenNv (some (.slice p n c)) = n := rfl
/-- What a name's lookup tells, and how long its set is. -/
theorem Gs.lookH {w : World} {S : St} (h : Gs w S) {x : ByteArray} (hs : x.size ≤ 1000) : ∃ (n : ByteArray) (p : Option Nat),
    (Instr.lookup 103 (.map (some S.bh)) (.string x) false).run Tryz.prog w = .ok (.agg #[.string n, .map p]) w ∧
    (Builtin.len_ #[129] 3 #[.map p]).run Tryz.prog w = .ok (.int .i64 (mOf S.l x).length) w := by
  obtain ⟨m, hm, ho⟩ := h.held
  have hlk := ho.look1 lawS (t := 103) Tryz.underlying103 (zeroG w) (keyS hs)
  unfold mOf
  cases hf : fnd S.l x with
  | none =>
    rw [hf] at hlk
    exact ⟨_, _, hlk, Maps.len_nil Tryz.underlying129 _⟩
  | some g =>
    rw [hf] at hlk
    exact ⟨_, _, hlk, (h.mem g (fnd_mem hf)).len Tryz.underlying129 _⟩
set_option maxRecDepth 100000 in
set_option maxHeartbeats 4000000 in
theorem emptied_any (S : St) (w : World) (h : Gs w S) (hz : ∀ x ∈ S.ns, x.size ≤ 1000) :
    Calls Tryz.prog 46 #[.pointer (some ⟨S.bt, 3, none⟩)] w fun e w' => e = .returned (.tuple #[.string (ifS (empR S.l S.ns).1), .bool (empR S.l S.ns).1.isSome]) ∧ ∃ S', Goes S w S' w' 0 ∧ S'.l = S.l ∧ S'.ns = (empR S.l S.ns).2 := by
  obtain ⟨R, hR⟩ : ∃ R, empR S.l S.ns = R := ⟨_, rfl⟩
  rw [hR]
  have hRH := hidP hR
  have hzH := hidP hz
  have hH := hidP h
  obtain ⟨bt, hbt⟩ : ∃ bt, S.bt = bt := ⟨_, rfl⟩
  rw [hbt]
  have hbtH := hidP hbt
  clear hR hz h hbt
  go_enter Tryz.func46, Tryz.ntmps46
  go_wp2_with fail
  go_loopw [4] (fun _ wr => ∃ S1 : St, Hid (Goes S w S1 wr 0 ∧ S1.l = S.l ∧ empR S.l S1.ns = R ∧ ∀ x ∈ S1.ns, x ∈ S.ns)) (fun _ wr => lenNv (wr.cell? ⟨bt, 5, none⟩))
  case atStart => exact ⟨S, Goes.refl hH.out, rfl, hRH.out, fun x hx => hx⟩
  case round =>
    obtain ⟨S1, hI⟩ := hrel
    have hb1 : S1.bt = bt := hI.out.1.bt.trans hbtH.out
    have c2 := hI.out.1.g.c2
    rw [hb1] at c2
    have hlen := hidP hI.out.1.g.nts.len
    cases hns : S1.ns with
    | nil =>
      have hnl : nb S1.nv = none ∨ True := .inr trivial
      obtain ⟨p, n, cp, hv⟩ := hI.out.1.g.nts.shape
      have hn0 : n = 0 := by
        have := hlen.out
        rw [hv, hns] at this
        exact this
      subst hn0
      rw [hv] at c2
      have hR0 : Hid (R = (none, [])) := by
        have := hI.out.2.2.1
        rw [hns] at this
        exact this.symm
      have fin : Hid (Goes S w S1 _ 0 ∧ S1.l = S.l ∧ S1.ns = R.2) := ⟨hI.out.1, hI.out.2.1, by rw [hR0.out, hns]⟩
      clear hI hb1 hlen hns hv hnl hRH hzH hH
      go_wp2_with fail
      refine bodyPost_ret (v := .tuple #[.string ⟨#[]⟩, .bool false]) (by simp [results, Tryz.results46, go_sem]) rfl ?_
      exact ⟨by rw [hR0.out]; rfl, S1, fin.out⟩
    | cons x r =>
      obtain ⟨g, o, cap, hv, hg, hcap, hmx, hcells, hsp⟩ := hI.out.1.g.nts.some (by rw [hns]; simp)
      have k0 := hcells 0 x (by rw [hns]; rfl)
      simp only [Nat.add_zero] at k0
      rw [hns] at hv
      simp only [List.length_cons] at hv
      rw [hv] at c2
      have hxs : x.size ≤ 1000 := hzH.out x (hI.out.2.2.2 x (by rw [hns]; simp))
      have hun := unnote0 S1 x r _ hI.out.1.g hns hxs
      rw [hb1, hns] at hun
      have hR1 : Hid ((if mOf S.l x = [] then (some x, r) else empR S.l r) = R) := by
        have := hI.out.2.2.1
        rw [hns] at this
        exact this
      have hsubH : Hid (∀ y ∈ r, y ∈ S.ns) := fun y hy => hI.out.2.2.2 y (by rw [hns]; simp [hy])
      have hl1H := hidP hI.out.2.1
      have hG1H := hidP hI.out.1
      have hlenr : (r.length : Int) + 1 > 0 := by omega
      clear hI hlen hcells hsp hcap hmx hg hv
      go_wp2_with fail
      refine hun.mono ?_
      rintro e w2 ⟨rfl, nv, hg2⟩
      obtain ⟨n, p, hlk, hln⟩ := hg2.g.lookH hxs
      have d0 := hg2.g.c0
      simp only at d0
      simp only at hlk hln
      have hG2H := hidP (hG1H.out.trans hg2)
      have e2 := hg2.g.c2
      simp only at e2
      have hl2 := hidP hg2.g.nts.len
      rw [hl1H.out] at hln
      have c2H := hidP c2
      clear hun hg2 c2 k0 hG1H
      by_cases hm : mOf S.l x = []
      · rw [hm] at hln
        simp only [List.length_nil] at hln
        have hR2 : Hid (R = (some x, r)) := by have := hR1.out; rw [if_pos hm] at this; exact this.symm
        clear hm hR1 hl2 e2
        go_wp2_with fail
        rename_i K1 hK1
        refine hK1 _ _ ?_
        simp only [List.getElem_toArray, List.getElem_cons_succ, List.getElem_cons_zero]
        go_wp2_with fail
        refine bodyPost_ret (v := .tuple #[.string x, .bool true]) (by simp [results, Tryz.results46, go_sem]) rfl ?_
        exact ⟨by rw [hR2.out]; rfl, _, hG2H.out, hl1H.out, by rw [hR2.out]; rfl⟩
      · obtain ⟨q, hq⟩ : ∃ q, (mOf S.l x).length = q := ⟨_, rfl⟩
        have hq0 : q ≠ 0 := fun e => hm (List.eq_nil_of_length_eq_zero (hq.trans e))
        rw [hq] at hln
        have hd : decide ((q : Int) = 0) = false := by simp; omega
        have hR2 : Hid (empR S.l r = R) := by have := hR1.out; rw [if_neg hm] at this; exact this
        clear hm hq hR1
        go_wp2_with fail
        rename_i K1 hK1
        refine hK1 _ _ ?_
        simp only [List.getElem_toArray, List.getElem_cons_succ, List.getElem_cons_zero]
        go_wp2_with fail
        refine ⟨⟨_, hG2H.out, hl1H.out, hR2.out, hsubH.out⟩, ?_⟩
        rw [e2, hl2.out, c2H.out]
        exact Nat.lt_succ_self _
end Go.Proofs.YtgienkdfodjoiaaGreat.Cg
