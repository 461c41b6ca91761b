/- Contracts of port's functions. -/
import Derived.Test.YtppbdamlhcmlcaaPS
import Derived.Deep.RegionWith
namespace Go.Proofs.Ytppbdamlhcmlcaa
open Go.RowKit Go.Shelf Go.Lib
theorem zeroQ (w : World) : (zeroValue 75).run Try.prog w = .ok (.pointer none) w := by kernel_rfl
def empty (bt bh : Nat) : St := ⟨bt, bh, fun _ => none, .slice none 0 0, [], 0, 0⟩
set_option maxRecDepth 100000 in
set_option maxHeartbeats 2000000 in
theorem new_any (w : World) : Calls Try.prog 8 #[] w fun e w' => e = .returned (.pointer (some ⟨w.heap.size + 1, 0, none⟩)) ∧ Ps w' (empty (w.heap.size + 1) w.heap.size) ∧ Below w.heap.size w w' := by
  have hmm := @run_makeMap Try.prog
  have hm := MapIs.made (κ := ByteArray) (k := 9) (e := eS) w
  obtain ⟨W, hW⟩ : ∃ W, w.alloc (.map #[] 0) = W := ⟨_, rfl⟩
  have hs : W.heap.size = w.heap.size + 1 := by rw [← hW]; simp
  have bl : Below w.heap.size w W := by rw [← hW]; exact (Below.refl _ _).alloc (Nat.le_refl _) _
  rw [hW] at hm
  have fin : Hid (Ps (W.alloc (.cells #[.map (some w.heap.size), .slice none 0 0, .int .i64 0] 74)) (empty (w.heap.size + 1) w.heap.size) ∧ Below w.heap.size w (W.alloc (.cells #[.map (some w.heap.size), .slice none 0 0, .int .i64 0] 74))) := by
    refine ⟨⟨cell_at hs rfl, cell_at hs rfl, cell_at hs rfl, froz_new hs, froz_new hs, ⟨0, Nat.le_refl _, hm.mv (Mv.alloc (fun _ => False) _ _) (fun h => h)⟩, (fun s q e => by cases e), Or.inl ⟨rfl, rfl⟩, Nat.zero_le _, Int.le_refl _, Int.le_refl _, ?_⟩, bl.alloc (by omega) _⟩
    intro a b k ha hb
    cases a <;> cases b <;> first | rfl | skip
    all_goals first | (obtain ⟨q, e, _⟩ := ha; cases e; done) | (obtain ⟨q, e, _⟩ := hb; cases e; done) | (cases ha; done) | (cases hb; done) | (exfalso; have h1 : k = _ := ha; have h2 : k = _ := hb; simp only [empty] at h1 h2; omega)
  clear hm bl
  go_enter Try.func8, Try.ntmps8
  go_wp2_with (rw [hW])
  go_ret
  exact ⟨rfl, fin.out⟩
theorem Ps.look {w : World} {S : St} (h : Ps w S) {s : ByteArray} (hs : s.size ≤ 1000) : (Instr.lookup 70 (.map (some S.bh)) (.string s) true).run Try.prog w = .ok (.tuple #[((S.sock s).map qV).getD (.pointer none), .bool (S.sock s).isSome]) w := by
  obtain ⟨m, _, hm⟩ := h.map
  have := hm.look lawS (t := 70) Try.underlying70 (zeroQ w) (keyS hs)
  rw [this, Option.isSome_map]
theorem Ps.look_none {w : World} {S : St} (h : Ps w S) {s : ByteArray} (hs : s.size ≤ 1000) (hn : S.sock s = none) : (Instr.lookup 70 (.map (some S.bh)) (.string s) true).run Try.prog w = .ok (.tuple #[.pointer none, .bool false]) w := by
  have := h.look hs
  rw [hn] at this
  exact this
theorem Ps.look_some {w : World} {S : St} (h : Ps w S) {s : ByteArray} (hs : s.size ≤ 1000) {q : Sk} (hq : S.sock s = some q) : (Instr.lookup 70 (.map (some S.bh)) (.string s) true).run Try.prog w = .ok (.tuple #[.pointer (some ⟨q.blk, 0, none⟩), .bool true]) w := by
  have := h.look hs
  rw [hq] at this
  exact this
set_option maxRecDepth 100000 in
set_option maxHeartbeats 2000000 in
theorem listen_empty (S : St) (w : World) : Calls Try.prog 9 #[.pointer (some ⟨S.bt, 0, none⟩), .string ⟨#[]⟩] w fun e w' => e = .returned (.int .i64 100) ∧ w' = w := by
  go_enter Try.func9, Try.ntmps9
  go_wp2_with fail
  go_ret
  exact ⟨rfl, rfl⟩
def noName : ByteArray := ⟨#[]⟩
theorem not_empty {s : ByteArray} (h : s ≠ noName) : s.toList.isEmpty = false := by
  cases e : s.toList.isEmpty with
  | false => rfl
  | true =>
    exfalso
    apply h
    rw [ByteArray.toList_eq, List.isEmpty_iff] at e
    exact ByteArray.ext (Array.toList_inj.1 e)
set_option maxRecDepth 100000 in
set_option maxHeartbeats 2000000 in
theorem listen_taken (S : St) (s : ByteArray) (q : Sk) (w : World) (h : Ps w S) (hs : s.size ≤ 1000) (hq : S.sock s = some q) (hne : s ≠ noName) : Calls Try.prog 9 #[.pointer (some ⟨S.bt, 0, none⟩), .string s] w fun e w' => e = .returned (.int .i64 101) ∧ w' = w := by
  have hl := h.look_some hs hq
  have c0 := h.c0
  have hd := not_empty hne
  clear h hq hne
  go_enter Try.func9, Try.ntmps9
  go_wp2_with fail
  go_ret
  exact ⟨rfl, rfl⟩
set_option maxRecDepth 100000 in
set_option maxHeartbeats 2000000 in
theorem listen_ok (S : St) (s : ByteArray) (w : World) (h : Ps w S) (hs : s.size ≤ 1000) (hq : S.sock s = none) (hne : s ≠ noName) (hc : S.c ≤ 900000) : Calls Try.prog 9 #[.pointer (some ⟨S.bt, 0, none⟩), .string s] w fun e w' => e = .returned (.int .i64 0) ∧ ∃ n, Goes S w { S with sock := upd S.sock s (some ⟨n, .slice none 0 0, []⟩), c := S.c + 1 } w' 1 := by
  have hl := h.look_none hs hq
  have c0 := h.c0
  have hd := not_empty hne
  obtain ⟨m, hm, ho⟩ := h.map
  obtain ⟨W, hW⟩ : ∃ W, w.alloc (.cells #[.slice none 0 0] 78) = W := ⟨_, rfl⟩
  have hbW : Below w.heap.size w W := by rw [← hW]; exact (Below.refl _ _).alloc (Nat.le_refl _) _
  obtain ⟨w4, hrun, ho4, mv4⟩ := ((ho.mv (E := fun _ => False) (Mv.below hbW) (fun h => h)).store lawS (fun _ _ => eS_inj) klS (t := 70) Try.underlying70 (a := s) (keyS hs) (.pointer (some ⟨w.heap.size, 0, none⟩)) (by unfold maxLen; omega))
  have fin : Hid (∃ n, Goes S w { S with sock := upd S.sock s (some ⟨n, .slice none 0 0, []⟩), c := S.c + 1 } w4 1) :=
    ⟨w.heap.size, h.turnN hq hbW (Nat.le_refl _) (by rw [← hW]; exact ⟨cell_at rfl rfl, froz_new rfl⟩) mv4 ho4 (by rw [hq]; show m + 1 ≤ S.c + 1; omega)⟩
  have qT : (binOp .eql 70 (.map (some S.bh)) (.map none)).run Try.prog w = .ok (.bool false) w := by kernel_rfl
  clear h hq hne ho ho4 mv4 hbW
  go_enter Try.func9, Try.ntmps9
  go_wp2_with (rw [hW])
  go_ret
  exact ⟨rfl, fin.out⟩
set_option maxRecDepth 100000 in
set_option maxHeartbeats 2000000 in
theorem close_no (S : St) (s : ByteArray) (w : World) (h : Ps w S) (hs : s.size ≤ 1000) (hq : S.sock s = none) : Calls Try.prog 11 #[.pointer (some ⟨S.bt, 0, none⟩), .string s] w fun e w' => e = .returned (.int .i64 100) ∧ w' = w := by
  have hl := h.look_none hs hq
  have c0 := h.c0
  clear h hq
  go_enter Try.func11, Try.ntmps11
  go_wp2_with fail
  go_ret
  exact ⟨rfl, rfl⟩
set_option maxRecDepth 100000 in
set_option maxHeartbeats 2000000 in
theorem close_ok (S : St) (s : ByteArray) (q : Sk) (w : World) (h : Ps w S) (hs : s.size ≤ 1000) (hq : S.sock s = some q) : Calls Try.prog 11 #[.pointer (some ⟨S.bt, 0, none⟩), .string s] w fun e w' => e = .returned (.int .i64 0) ∧ Goes S w { S with sock := upd S.sock s none } w' 0 := by
  have hl := h.look_some hs hq
  have c0 := h.c0
  obtain ⟨m, hm, ho⟩ := h.map
  obtain ⟨w4, hrun, ho4, mv4⟩ := ho.drop lawS (fun _ _ => eS_inj) (t := 70) Try.underlying70 (a := s) (keyS hs) 0
  have fin : Hid (Goes S w { S with sock := upd S.sock s none } w4 0) := h.turnC mv4 ho4 (by unfold dnN; split <;> omega)
  clear h hq ho ho4 mv4
  go_enter Try.func11, Try.ntmps11
  go_wp2_with fail
  exact bodyPost_ret (v := .int .i64 0) (by simp [results, Try.results11, go_sem]) rfl ⟨rfl, fin.out⟩
set_option maxRecDepth 100000 in
set_option maxHeartbeats 2000000 in
theorem connect_none (S : St) (s t : ByteArray) (w : World) (h : Ps w S) (hs : s.size ≤ 1000) (hq : S.sock s = none) : Calls Try.prog 13 #[.pointer (some ⟨S.bt, 0, none⟩), .string s, .string t] w fun e w' => e = .returned (.tuple #[.int .i64 0, .int .i64 100]) ∧ w' = w := by
  have hl := h.look_none hs hq
  have c0 := h.c0
  clear h hq
  go_enter Try.func13, Try.ntmps13
  go_wp2_with fail
  exact bodyPost_ret (v := .tuple #[.int .i64 0, .int .i64 100]) (by simp [results, Try.results13, go_sem]) rfl ⟨rfl, rfl⟩
set_option maxRecDepth 100000 in
set_option maxHeartbeats 2000000 in
theorem connect_long (S : St) (s t : ByteArray) (q : Sk) (w : World) (h : Ps w S) (hs : s.size ≤ 1000) (hq : S.sock s = some q) (ht : 200 < t.size) : Calls Try.prog 13 #[.pointer (some ⟨S.bt, 0, none⟩), .string s, .string t] w fun e w' => e = .returned (.tuple #[.int .i64 0, .int .i64 100]) ∧ w' = w := by
  have hl := h.look_some hs hq
  have c0 := h.c0
  have ht' : (200 : Int) < (t.size : Int) := by omega
  clear h hq ht
  go_enter Try.func13, Try.ntmps13
  go_wp2_with fail
  exact bodyPost_ret (v := .tuple #[.int .i64 0, .int .i64 100]) (by simp [results, Try.results13, go_sem]) rfl ⟨rfl, rfl⟩
theorem Ps.nq {w : World} {S : St} (h : Ps w S) {s : ByteArray} {q : Sk} (hq : S.sock s = some q) : nb q.sv ≠ some q.blk := fun e => by
  have := h.uq (.q s) (.v s) q.blk ⟨q, hq, rfl⟩ ⟨q, hq, e⟩
  cases this
theorem Ps.nm {w : World} {S : St} (h : Ps w S) : nb S.mv ≠ some S.bt := fun e => by
  have := h.uq .t .m S.bt rfl e
  cases this
set_option maxRecDepth 100000 in
set_option maxHeartbeats 2000000 in
theorem connect_full (S : St) (s t : ByteArray) (q : Sk) (w : World) (h : Ps w S) (hs : s.size ≤ 1000) (hq : S.sock s = some q) (ht : t.size ≤ 200) (hl : q.xs.length = 16) (hc : S.c ≤ 900000) : Calls Try.prog 13 #[.pointer (some ⟨S.bt, 0, none⟩), .string s, .string t] w fun e w' => e = .returned (.tuple #[.int .i64 0, .int .i64 102]) ∧ Below w.heap.size w w' := by
  have hlk := h.look_some hs hq
  have c0 := h.c0
  have c2 := h.c2
  have hp := hidP (pushC_full q.blk 0 q.sv q.xs (S.last + 1) t w (h.sk s q hq).1.c (h.sk s q hq).2.1 hl)
  have ht' : ¬ (200 : Int) < (t.size : Int) := by omega
  have l1 : S.last + 1 ≤ 9223372036854775807 := by have := h.l1; omega
  have l0 : -9223372036854775808 ≤ S.last + 1 := by have := h.l0; omega
  clear h hq ht hl hc
  go_enter Try.func13, Try.ntmps13
  go_wp2_with fail
  refine hp.out.mono ?_
  rintro e w2 ⟨rfl, hb⟩
  go_wp2_with fail
  exact bodyPost_ret (v := .tuple #[.int .i64 0, .int .i64 102]) (by simp [results, Try.results13, go_sem]) rfl ⟨rfl, hb⟩
set_option maxRecDepth 100000 in
set_option maxHeartbeats 2000000 in
theorem connect_ok (S : St) (s t : ByteArray) (q : Sk) (w : World) (h : Ps w S) (hs : s.size ≤ 1000) (hq : S.sock s = some q) (ht : t.size ≤ 200) (hl : q.xs.length < 16) (hc : S.c ≤ 900000) : Calls Try.prog 13 #[.pointer (some ⟨S.bt, 0, none⟩), .string s, .string t] w fun e w' => e = .returned (.tuple #[.int .i64 (S.last + 1), .int .i64 0]) ∧ ∃ sv', Goes S w { S with sock := upd S.sock s (some ⟨q.blk, sv', q.xs ++ [(S.last + 1, t)]⟩), last := S.last + 1, c := S.c + 1 } w' 1 := by
  have hlk := h.look_some hs hq
  have c0 := h.c0
  have c2 := h.c2
  have hp := hidP (pushC_ok q.blk 0 q.sv q.xs (S.last + 1) t w (h.sk s q hq).1.c (h.sk s q hq).1.f (h.sk s q hq).2.1 (h.nq hq) hl)
  have ht' : ¬ (200 : Int) < (t.size : Int) := by omega
  have l1 : S.last + 1 ≤ 9223372036854775807 := by have := h.l1; omega
  have l0 : -9223372036854775808 ≤ S.last + 1 := by have := h.l0; omega
  have hH := hidP h
  have hqH := hidP hq
  have hlH := hidP hl
  clear h hq ht hl hc
  go_enter Try.func13, Try.ntmps13
  go_wp2_with fail
  refine hp.out.mono ?_
  rintro e w2 ⟨rfl, sv', T, hqs⟩
  have g1 := hH.out.turnQ hqH.out T hqs (by have := hlH.out; simp; omega)
  have d2 := g1.g.c2
  have f2 := g1.g.f2
  have fin : Hid (∃ sv', Goes S w { S with sock := upd S.sock s (some ⟨q.blk, sv', q.xs ++ [(S.last + 1, t)]⟩), last := S.last + 1, c := S.c + 1 } (w2.setCell ⟨S.bt, 2, none⟩ (.int .i64 (S.last + 1))) 1) := ⟨sv', (g1.trans g1.g.turnL).mono (by omega)⟩
  have e2 : (w2.setCell ⟨S.bt, 2, none⟩ (.int .i64 (S.last + 1))).cell? ⟨S.bt, 2, none⟩ = some (.int .i64 (S.last + 1)) := World.cell?_setCell_same' _ _ _ (by rw [show w2.cell? ⟨S.bt, 2, none⟩ = some (.int .i64 S.last) from d2]; rfl)
  simp only at d2 f2
  clear g1 T hqs hp c0 c2 hlk
  go_wp2_with fail
  exact bodyPost_ret (v := .tuple #[.int .i64 (S.last + 1), .int .i64 0]) (by simp [results, Try.results13, go_sem]) rfl ⟨rfl, fin.out⟩
end Go.Proofs.Ytppbdamlhcmlcaa
