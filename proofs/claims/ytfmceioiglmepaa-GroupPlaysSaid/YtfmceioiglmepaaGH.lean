/- Contract of cgroup's Remove. -/
import Derived.Test.YtfmceioiglmepaaGG
import Derived.Test.YtfmceioiglmepaaGC2
namespace Go.Proofs.Ytfmceioiglmepaa
open Go.RowKit Go.Shelf
theorem unnote_any (S : St) (x : ByteArray) (i : Nat) (w : World) (h : Gs w S) (hx : S.ns[i]? = some x) (hs : x.size ≤ 1000) (hc : S.c ≤ 900000) :
    Calls Try.prog 27 #[.pointer (some ⟨S.bt, 0, none⟩), .int .i64 i] w fun e w' => e = .returned (.tuple #[]) ∧ ∃ nv, Goes S w { S with nv := nv, ns := S.ns.eraseIdx i } w' 0 := by
  rcases Nat.eq_zero_or_pos i with rfl | hi
  · cases hn : S.ns with
    | nil => rw [hn] at hx; simp at hx
    | cons y r =>
      have e1 : y = x := by rw [hn] at hx; simpa using hx
      have := unnote0 S x r w h (by rw [hn, e1]) hs
      rw [hn] at this
      exact this
  · exact unnoteI S x i w h hx hi hs hc
theorem index_any (v : Value) (xs : List ByteArray) (x : ByteArray) (w : World) (h : NS w v xs) (hl : xs.length ≤ 1000000) :
    Calls Try.prog 28 #[v, .string x] w fun e w' => e = .returned (.int .i64 (Lib.idxOfS xs x)) ∧ w' = w := by
  rcases h with ⟨rfl, rfl⟩ | ⟨g, o, cap, rfl, hg, h1, h2, h3, h4⟩
  · exact Try.slices_Index_string_empty _ _ _ _
  · have := Try.slices_Index_string g o xs.length cap xs x w (Nat.le_refl _) (by omega) (fun j hj => by
      rw [h3 j xs[j] (List.getElem?_eq_getElem hj)]
      simp [hj])
    rw [List.take_length] at this
    exact this
theorem remN_none {ns : List ByteArray} {s : ByteArray} (h : s ∉ ns) : remN ns s = ns := by
  unfold remN
  rw [List.filter_eq_self]
  intro x hx
  simp only [Bool.not_eq_true', decide_eq_false_iff_not]
  rintro rfl
  exact h hx
theorem idx_rem {x : ByteArray} : ∀ {xs : List ByteArray} (k : Nat), xs.Nodup → x ∈ xs → ∃ i, xs[i]? = some x ∧ Lib.idxFromS xs x k = ((k + i : Nat) : Int) ∧ xs.eraseIdx i = remN xs x
  | [], _, _, h => by simp at h
  | y :: r, k, hn, h => by
    obtain ⟨h1, h2⟩ := List.nodup_cons.1 hn
    by_cases e : y = x
    · subst e
      refine ⟨0, rfl, by simp [Lib.idxFromS], ?_⟩
      show r = _
      unfold remN
      rw [List.filter_cons]
      simp only [decide_true, Bool.not_true, Bool.false_eq_true, if_false]
      exact (remN_none h1).symm
    · have hr : x ∈ r := by
        rcases List.mem_cons.1 h with h | h
        · exact absurd h.symm e
        · exact h
      obtain ⟨i, a, b, c⟩ := idx_rem (k + 1) h2 hr
      refine ⟨i + 1, by simpa using a, ?_, ?_⟩
      · unfold Lib.idxFromS
        rw [if_neg e, b]
        omega
      · rw [List.eraseIdx_cons_succ, c]
        unfold remN
        rw [List.filter_cons]
        simp [e]
theorem Wf.rem {l : Gl} {ns : List ByteArray} (w : Wf l ns) (s : ByteArray) : Wf (remG l s) ns :=
  ⟨w.names.sublist List.filter_sublist, fun g hg => w.nd g (List.filter_sublist.subset hg), fun g hg h hh => w.one g (List.filter_sublist.subset hg) h (List.filter_sublist.subset hh), fun g hg => w.rng g (List.filter_sublist.subset hg), fun g hg => w.sz g (List.filter_sublist.subset hg), w.nn⟩
theorem Gs.removed {w w2 : World} {S : St} {g : G} {s : ByteArray} {m : Nat} (h : Gs w S) (hf : fnd S.l s = some g) (hp : g.pids = []) (mv2 : Mv (fun k => k = S.bh) w w2) (hh : MS w2 S.bh (dnN ((fnd S.l s).map gV).isSome m) (fun x => if x = s then none else (fnd S.l x).map gV)) (hmc : m ≤ S.c) :
    Goes S w { S with l := remG S.l s } w2 0 := by
  have := h.turnH mv2 (fun k e => e) (l := remG S.l s) (m := dnN ((fnd S.l s).map gV).isSome m) (c := S.c)
    (hh.cong (fun x => by
      rw [fnd_rem]
      by_cases e : x = s
      · rw [if_pos e, if_pos e]; rfl
      · rw [if_neg e, if_neg e])) (by unfold dnN; split <;> omega)
    (fun a => by rw [← fnd_name hf]; exact hm_rem h.wf (fnd_mem hf) hp a) (fun g hg => .inl (List.filter_sublist.subset hg))
    (by
      have hp := h.ap
      unfold Bs at hp
      have h4 := (List.pairwise_cons.1 (List.pairwise_cons.1 (List.pairwise_cons.1 (List.pairwise_cons.1 hp).2).2).2).2
      exact h4.sublist (List.filter_sublist.map _))
    (h.wf.rem s) (Nat.le_refl _)
  exact this.mono (by omega)
def remE (l : Gl) (s : ByteArray) : Int := match fnd l s with | some g => if g.pids = [] then 0 else 91 | none => 90
def remL (l : Gl) (s : ByteArray) : Gl := if remE l s = 0 then remG l s else l
def remM (l : Gl) (ns : List ByteArray) (s : ByteArray) : List ByteArray := if remE l s = 0 then remN ns s else ns
set_option maxRecDepth 100000 in
set_option maxHeartbeats 2000000 in
theorem remove_none (S : St) (s : ByteArray) (w : World) (h : Gs w S) (hs : s.size ≤ 1000) (hf : fnd S.l s = none) :
    Calls Try.prog 10 #[.pointer (some ⟨S.bt, 0, none⟩), .string s] w fun e w' => e = .returned (.int .i64 90) ∧ Below w.heap.size w w' := by
  obtain ⟨m, hm, ho⟩ := h.held
  have hlk := ho.look lawS (t := 58) Try.underlying58 (zeroG w) (keyS hs)
  rw [hf] at hlk
  simp only [Option.map_none, Option.getD_none, Option.isSome_none, gzV] at hlk
  have c0 := h.c0
  clear h hm ho hf
  go_enter Try.func10, Try.ntmps10
  go_wp2_with fail
  go_ret
  exact ⟨rfl, (Below.refl _ _).alloc (Nat.le_refl _) _⟩
set_option maxRecDepth 100000 in
set_option maxHeartbeats 2000000 in
theorem remove_busy (S : St) (s : ByteArray) (g : G) (w : World) (h : Gs w S) (hs : s.size ≤ 1000) (hf : fnd S.l s = some g) (hp : g.pids ≠ []) :
    Calls Try.prog 10 #[.pointer (some ⟨S.bt, 0, none⟩), .string s] w fun e w' => e = .returned (.int .i64 91) ∧ Below w.heap.size w w' := by
  obtain ⟨m, hm, ho⟩ := h.held
  have hlk := ho.look lawS (t := 58) Try.underlying58 (zeroG w) (keyS hs)
  rw [hf] at hlk
  simp only [Option.map_some, Option.getD_some, Option.isSome_some, gV] at hlk
  have c0 := h.c0
  obtain ⟨W, hW⟩ : ∃ W, w.alloc (.cells #[.string g.name, .map (some g.blk)] 67) = W := ⟨_, rfl⟩
  have hbW : Below w.heap.size w W := by rw [← hW]; exact (Below.refl _ _).alloc (Nat.le_refl _) _
  have e1 : W.cell? ⟨w.heap.size, 1, none⟩ = some (.map (some g.blk)) := by rw [← hW]; exact cell_at rfl rfl
  have hln := ((h.mem g (fnd_mem hf)).mv (E := fun _ => False) (Mv.below hbW) (fun h => h)).len (t := 65) Try.underlying65 3
  obtain ⟨n, hn⟩ : ∃ n, g.pids.length = n := ⟨_, rfl⟩
  rw [hn] at hln
  have hn0 : (0 : Int) < (n : Int) := by
    rcases Nat.eq_zero_or_pos n with e | e
    · exact absurd (List.eq_nil_of_length_eq_zero (hn.trans e)) hp
    · omega
  have fin := hidP hbW
  clear h hm ho hf hp hn hbW
  go_enter Try.func10, Try.ntmps10
  go_wp2_with (rw [hW])
  go_ret
  exact ⟨rfl, fin.out⟩
set_option maxRecDepth 100000 in
set_option maxHeartbeats 4000000 in
theorem remove_ok (S : St) (s : ByteArray) (g : G) (w : World) (h : Gs w S) (hs : s.size ≤ 1000) (hf : fnd S.l s = some g) (hp : g.pids = []) (hc : S.c ≤ 900000) :
    Calls Try.prog 10 #[.pointer (some ⟨S.bt, 0, none⟩), .string s] w fun e w' => e = .returned (.int .i64 0) ∧ ∃ S', Goes S w S' w' 0 ∧ S'.l = remG S.l s ∧ S'.ns = remN S.ns s := by
  obtain ⟨m, hm, ho⟩ := h.held
  have hlk := ho.look lawS (t := 58) Try.underlying58 (zeroG w) (keyS hs)
  rw [hf] at hlk
  simp only [Option.map_some, Option.getD_some, Option.isSome_some, gV] at hlk
  have c0 := h.c0
  obtain ⟨W, hW⟩ : ∃ W, w.alloc (.cells #[.string g.name, .map (some g.blk)] 67) = W := ⟨_, rfl⟩
  have hbW : Below w.heap.size w W := by rw [← hW]; exact (Below.refl _ _).alloc (Nat.le_refl _) _
  have e1 : W.cell? ⟨w.heap.size, 1, none⟩ = some (.map (some g.blk)) := by rw [← hW]; exact cell_at rfl rfl
  have hln := ((h.mem g (fnd_mem hf)).mv (E := fun _ => False) (Mv.below hbW) (fun h => h)).len (t := 65) Try.underlying65 3
  rw [hp] at hln
  simp only [List.length_nil] at hln
  have c0W := (h.below hbW).c0
  obtain ⟨w2, hrun, ho2, mv2⟩ := (ho.mv (E := fun _ => False) (Mv.below hbW) (fun h => h)).drop lawS (fun _ _ => eS_inj) (t := 58) Try.underlying58 (keyS hs) 0
  have hG := h.removed hf hp ((Mv.below hbW).trans' mv2) ho2 hm
  have c3 := hG.g.c3
  have c2 := hG.g.c2
  obtain ⟨m3, _, hn3⟩ := hG.g.noted
  have hhas := hasS_any S.bn m3 _ s w2 hn3 hs (setS_u _ _)
  have hGH := hidP hG
  simp only at c3 c2
  cases hin : inN S.ns s with
  | false =>
    rw [show (setS S.ns s).isSome = false by unfold setS; rw [hin]; rfl] at hhas
    have hrn : remN S.ns s = S.ns := remN_none (fun q => by rw [← inN_iff, hin] at q; cases q)
    rw [hrn]
    clear h hm ho hf hp hbW ho2 mv2 hG c2 hn3 hin hrn
    go_enter Try.func10, Try.ntmps10
    go_wp2_with (rw [hW])
    refine hhas.mono ?_
    rintro e w3 ⟨rfl, hb3⟩
    have fin := hidP (hGH.out.trans (Goes.below hGH.out.g hb3))
    clear hhas hb3
    go_wp2_with fail
    go_ret
    exact ⟨rfl, _, fin.out, rfl, rfl⟩
  | true =>
    rw [show (setS S.ns s).isSome = true by unfold setS; rw [hin]; rfl] at hhas
    obtain ⟨i, hi1, hi2, hi3⟩ := idx_rem 0 h.wf.nn (inN_iff.1 hin)
    have hnl := hidP h.nl
    rw [← hi3]
    have hi1H := hidP hi1
    have hi2H : Hid (Lib.idxOfS S.ns s = (i : Int)) := by show Lib.idxFromS _ _ _ = _; rw [hi2]; simp
    clear h hm ho hf hp hbW ho2 mv2 hG hn3 hin hi1 hi2 hi3
    go_enter Try.func10, Try.ntmps10
    go_wp2_with (rw [hW])
    refine hhas.mono ?_
    rintro e w3 ⟨rfl, hb3⟩
    have hG3 := hGH.out.trans (Goes.below hGH.out.g hb3)
    have d2 := hG3.g.c2
    simp only at d2
    have hidx := index_any _ _ s w3 hG3.g.nts (by have := hnl.out; show S.ns.length ≤ _; omega)
    have hi2o := hi2H.out
    simp only at hidx
    rw [hi2o] at hidx
    have hun := unnote_any { S with l := remG S.l s } s i w3 hG3.g hi1H.out hs hc
    have hG3H := hidP hG3
    clear hhas hb3 hG3 c2 c3 hi2o e1 c0W hln hrun hW hlk c0
    go_wp2_with fail
    refine hidx.mono ?_
    rintro e w4 ⟨rfl, rfl⟩
    clear hidx
    go_wp2_with fail
    refine hun.mono ?_
    rintro e w5 ⟨rfl, nv, hg5⟩
    have fin := hidP (hG3H.out.trans hg5)
    clear hun hg5
    go_wp2_with fail
    go_ret
    exact ⟨rfl, _, fin.out, rfl, rfl⟩
theorem remove_any (S : St) (s : ByteArray) (w : World) (h : Gs w S) (hs : s.size ≤ 1000) (hc : S.c ≤ 900000) :
    Calls Try.prog 10 #[.pointer (some ⟨S.bt, 0, none⟩), .string s] w fun e w' => e = .returned (.int .i64 (remE S.l s)) ∧ ∃ S', Goes S w S' w' 0 ∧ S'.l = remL S.l s ∧ S'.ns = remM S.l S.ns s := by
  unfold remL remM remE
  cases hf : fnd S.l s with
  | none =>
    refine (remove_none S s w h hs hf).mono ?_
    rintro e w' ⟨rfl, hb⟩
    exact ⟨rfl, S, Goes.below h hb, rfl, rfl⟩
  | some g =>
    by_cases hp : g.pids = []
    · refine (remove_ok S s g w h hs hf hp hc).mono ?_
      rintro e w' ⟨rfl, S', q1, q2, q3⟩
      have hq : (if g.pids = [] then (0 : Int) else 91) = 0 := if_pos hp
      refine ⟨by show _ = Ending.returned (.int .i64 (if _ then _ else _)); rw [hq], S', q1, ?_, ?_⟩
      · show _ = if (if g.pids = [] then (0 : Int) else 91) = 0 then _ else _
        rw [hq, if_pos rfl]; exact q2
      · show _ = if (if g.pids = [] then (0 : Int) else 91) = 0 then _ else _
        rw [hq, if_pos rfl]; exact q3
    · refine (remove_busy S s g w h hs hf hp).mono ?_
      rintro e w' ⟨rfl, hb⟩
      have hq : (if g.pids = [] then (0 : Int) else 91) = 91 := if_neg hp
      refine ⟨by show _ = Ending.returned (.int .i64 (if _ then _ else _)); rw [hq], S, Goes.below h hb, ?_, ?_⟩
      · show _ = if (if g.pids = [] then (0 : Int) else 91) = 0 then _ else _
        rw [hq]; rfl
      · show _ = if (if g.pids = [] then (0 : Int) else 91) = 0 then _ else _
        rw [hq]; rfl
end Go.Proofs.Ytfmceioiglmepaa
