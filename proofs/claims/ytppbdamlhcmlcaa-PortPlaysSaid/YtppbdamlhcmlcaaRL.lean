/- The reference's functions, once: they answer as the code's plain functions do. -/
import Derived.Test.YtppbdamlhcmlcaaRK
import Derived.Test.YtppbdamlhcmlcaaRJ
import Derived.Test.YtppbdamlhcmlcaaPY
namespace Go.Proofs.Ytppbdamlhcmlcaa
open Go.RowKit Go.Shelf Go.Lib Go.Sort
/-- A step of the reference beside one of the plain ports. -/
def Rst (P' : Pl) (R : Rt) (w : World) (w' : World) : Prop := ∃ R', RGoes R w R' w' ∧ Ag P' R' ∧ R'.l.length ≤ R.l.length + 1
theorem Rst.stay {P : Pl} {R : Rt} {w w' : World} (h : Rs w R) (a : Ag P R) (b : Below w.heap.size w w') : Rst P R w w' := ⟨R, RGoes.below h b, a, by omega⟩
theorem rlisten_any (P : Pl) (R : Rt) (s : ByteArray) (w : World) (h : Rs w R) (a : Ag P R) (hl : R.l.length ≤ 1000) :
    Calls Try.prog 10 #[.pointer (some ⟨R.b, 0, none⟩), .string s] w fun e w' => e = .returned (.int .i64 (listenP P s).1) ∧ Rst (listenP P s).2 R w w' := by
  have ht := a.there s
  by_cases hb : rlistenE R.l s = 0
  · have hs : s ≠ noName := fun e => by unfold rlistenE at hb; rw [if_pos e] at hb; cases hb
    have hq : P.q s = none := by
      unfold rlistenE at hb
      rw [if_neg hs, ht] at hb
      cases q : P.q s with
      | none => rfl
      | some x => rw [q] at hb; cases hb
    rw [listen_ok' hq hs]
    refine (rlisten_ok R s w h hl hb).mono ?_
    rintro e w' ⟨rfl, lv, g⟩
    exact ⟨rfl, _, g, a.ins hq _, by simp only [List.length_append, List.length_take, List.length_cons, List.length_drop]; omega⟩
  · have e1 : listenP P s = (rlistenE R.l s, P) := by
      unfold rlistenE listenP
      unfold rlistenE at hb
      rw [ht] at hb ⊢
      by_cases hs : s = noName
      · rw [if_pos hs, if_pos hs]
      · rw [if_neg hs] at hb ⊢
        rw [if_neg hs]
        cases q : (P.q s).isSome with
        | false => rw [q] at hb; exact absurd rfl hb
        | true => rfl
    rw [e1]
    refine (rlisten_bad R s w h hl hb).mono ?_
    rintro e w' ⟨rfl, hb⟩
    exact ⟨rfl, Rst.stay h a hb⟩
theorem rclose_any (P : Pl) (R : Rt) (s : ByteArray) (w : World) (h : Rs w R) (a : Ag P R) (hl : R.l.length ≤ 1000) :
    Calls Try.prog 12 #[.pointer (some ⟨R.b, 0, none⟩), .string s] w fun e w' => e = .returned (.int .i64 (closeP P s).1) ∧ Rst (closeP P s).2 R w w' := by
  cases hq : P.q s with
  | none =>
    rw [show closeP P s = (100, P) by unfold closeP; rw [hq]; rfl]
    refine (rclose_no R s w h hl (a.no hq)).mono ?_
    rintro e w' ⟨rfl, hb⟩
    exact ⟨rfl, Rst.stay h a hb⟩
  | some xs =>
    obtain ⟨ht, x, hx, hn, hp⟩ := a.at hq
    rw [close_ok' hq]
    refine (rclose_ok R s _ x w h hl ht rfl hx).mono ?_
    rintro e w' ⟨rfl, lv, g⟩
    exact ⟨rfl, _, g, a.del hx hn, by have := List.length_eraseIdx_le R.l (atP R.l s); show (R.l.eraseIdx _).length ≤ _; omega⟩
theorem rconnect_any (P : Pl) (R : Rt) (s t : ByteArray) (w : World) (h : Rs w R) (a : Ag P R) (hl : R.l.length ≤ 1000) (n0 : 0 ≤ P.last) (n1 : P.last ≤ 1000000) :
    Calls Try.prog 14 #[.pointer (some ⟨R.b, 0, none⟩), .string s, .string t] w fun e w' => e = .returned (.tuple #[.int .i64 (connectP P s t).1, .int .i64 (connectP P s t).2.1]) ∧ Rst (connectP P s t).2.2 R w w' := by
  cases hq : P.q s with
  | none =>
    rw [show connectP P s t = (0, 100, P) by unfold connectP; rw [hq]]
    refine (rconnect_no R s t w h hl (a.no hq)).mono ?_
    rintro e w' ⟨rfl, hb⟩
    exact ⟨rfl, Rst.stay h a hb⟩
  | some xs =>
    obtain ⟨ht, x, hx, hn, hp⟩ := a.at hq
    have e0 : connectP P s t = if 200 < t.size then (0, 100, P) else if 16 ≤ xs.length then (0, 102, P) else (P.last + 1, 0, ⟨upP P.q s (some (xs ++ [(P.last + 1, t)])), P.ms, P.last + 1⟩) := by unfold connectP; rw [hq]
    by_cases h2 : 200 < t.size
    · rw [e0, if_pos h2]
      refine (rconnect_long R s t w h hl ht h2).mono ?_
      rintro e w' ⟨rfl, hb⟩
      exact ⟨rfl, Rst.stay h a hb⟩
    · by_cases h3 : 16 ≤ xs.length
      · rw [e0, if_neg h2, if_pos h3]
        refine (rconnect_full R s t _ x w h hl ht (by omega) rfl hx (by rw [hp]; exact h3)).mono ?_
        rintro e w' ⟨rfl, hb⟩
        exact ⟨rfl, Rst.stay h a hb⟩
      · rw [e0, if_neg h2, if_neg h3]
        have hlx := a.n
        refine (rconnect_ok R s t _ x w h hl ht (by omega) rfl hx (by rw [hp]; omega) (by omega) (by omega)).mono ?_
        rintro e w' ⟨rfl, v', g⟩
        rw [hp, ← hlx] at g
        refine ⟨by rw [hlx], _, g, a.set hx hn _ _ _, by simp only [List.length_set]; omega⟩
theorem raccept_any (P : Pl) (R : Rt) (s : ByteArray) (w : World) (h : Rs w R) (a : Ag P R) (hl : R.l.length ≤ 1000) :
    Calls Try.prog 16 #[.pointer (some ⟨R.b, 0, none⟩), .string s] w fun e w' => e = .returned (.tuple #[.agg #[.int .i64 (acceptP P s).1.1, .string (acceptP P s).1.2], .int .i64 (acceptP P s).2.1]) ∧ Rst (acceptP P s).2.2 R w w' := by
  cases hq : P.q s with
  | none =>
    rw [show acceptP P s = (zP, 100, P) by unfold acceptP; rw [hq]]
    refine (raccept_no R s w h hl (a.no hq)).mono ?_
    rintro e w' ⟨rfl, hb⟩
    exact ⟨rfl, Rst.stay h a hb⟩
  | some xs =>
    obtain ⟨ht, x, hx, hn, hp⟩ := a.at hq
    cases xs with
    | nil =>
      rw [show acceptP P s = (zP, 100, P) by unfold acceptP; rw [hq]]
      refine (raccept_empty R s _ x w h hl ht rfl hx hp).mono ?_
      rintro e w' ⟨rfl, hb⟩
      exact ⟨rfl, Rst.stay h a hb⟩
    | cons y r =>
      rw [show acceptP P s = (y, 0, ⟨upP P.q s (some r), P.ms, P.last⟩) by unfold acceptP; rw [hq]]
      refine (raccept_ok R s _ x y.1 y.2 r w h hl ht rfl hx hp).mono ?_
      rintro e w' ⟨rfl, v', g⟩
      have := a.set hx hn r v' P.last
      rw [show ({ R with l := R.l.set (atP R.l s) ⟨x.nm, r, v'⟩, nx := P.last } : Rt) = { R with l := R.l.set (atP R.l s) ⟨x.nm, r, v'⟩ } by rw [a.n]] at this
      exact ⟨rfl, _, g, this, by simp only [List.length_set]; omega⟩
theorem rsend_any (P : Pl) (R : Rt) (i : Int) (t : ByteArray) (w : World) (h : Rs w R) (a : Ag P R) :
    Calls Try.prog 18 #[.pointer (some ⟨R.b, 0, none⟩), .int .i64 i, .string t] w fun e w' => e = .returned (.int .i64 (sendP P i t).1) ∧ Rst (sendP P i t).2 R w w' := by
  have e0 : sendP P i t = if 200 < t.size then (100, P) else if 16 ≤ P.ms.length then (102, P) else (0, ⟨P.q, P.ms ++ [(i, t)], P.last⟩) := rfl
  have hm := a.m
  by_cases h2 : 200 < t.size
  · rw [e0, if_pos h2]
    refine (rsend_long R i t w h2).mono ?_
    rintro e w' ⟨rfl, rfl⟩
    exact ⟨rfl, Rst.stay h a (Below.refl _ _)⟩
  · by_cases h3 : 16 ≤ P.ms.length
    · rw [e0, if_neg h2, if_pos h3]
      refine (rsend_full R i t w h (by omega) (by rw [← hm]; exact h3)).mono ?_
      rintro e w' ⟨rfl, rfl⟩
      exact ⟨rfl, Rst.stay h a (Below.refl _ _)⟩
    · rw [e0, if_neg h2, if_neg h3]
      refine (rsend_ok R i t w h (by omega) (by rw [← hm]; omega)).mono ?_
      rintro e w' ⟨rfl, v', g⟩
      exact ⟨rfl, _, g, ⟨a.s, a.q, by show P.ms ++ _ = R.ds ++ _; rw [hm], a.n⟩, by show R.l.length ≤ _; omega⟩
theorem rreceive_any (P : Pl) (R : Rt) (w : World) (h : Rs w R) (a : Ag P R) :
    Calls Try.prog 20 #[.pointer (some ⟨R.b, 0, none⟩)] w fun e w' => e = .returned (.tuple #[.agg #[.int .i64 (recvP P).1.1, .string (recvP P).1.2], .bool (recvP P).2.1]) ∧ Rst (recvP P).2.2 R w w' := by
  have hm := a.m
  cases hq : P.ms with
  | nil =>
    rw [show recvP P = (zP, false, P) by unfold recvP; rw [hq]]
    refine (rreceive_none R w h (by rw [← hm]; exact hq)).mono ?_
    rintro e w' ⟨rfl, hb⟩
    exact ⟨rfl, Rst.stay h a hb⟩
  | cons y r =>
    rw [show recvP P = (y, true, ⟨P.q, r, P.last⟩) by unfold recvP; rw [hq]]
    refine (rreceive_ok R y.1 y.2 r w h (by rw [← hm]; exact hq)).mono ?_
    rintro e w' ⟨rfl, v', g⟩
    exact ⟨rfl, _, g, ⟨a.s, a.q, rfl, a.n⟩, by show R.l.length ≤ _; omega⟩
theorem rwait_any (P : Pl) (R : Rt) (s : ByteArray) (w : World) (h : Rs w R) (a : Ag P R) (hl : R.l.length ≤ 1000) :
    Calls Try.prog 24 #[.pointer (some ⟨R.b, 0, none⟩), .string s] w fun e w' => ∃ v, e = .returned v ∧ QS w' v ((P.q s).getD []) ∧ Below w.heap.size w w' := by
  refine (rwaiting_any R s w h hl).mono ?_
  rintro e w' ⟨v, rfl, hq, _, hb⟩
  refine ⟨v, rfl, ?_, hb⟩
  cases q : P.q s with
  | none => rw [a.no q] at hq; exact hq
  | some xs =>
    obtain ⟨ht, x, hx, hn, hp⟩ := a.at q
    rw [ht, hx] at hq
    rw [← hp]
    exact hq
/-- The names of the reference's ports are those that the code's tell. -/
theorem Ag.nms {S : St} {R : Rt} (a : Ag (pl S) R) : Nms S (R.l.map RG.nm) := by
  refine ⟨List.pairwise_map.2 a.s, fun x => ?_⟩
  rw [a.q]
  constructor
  · intro h
    obtain ⟨y, hy, rfl⟩ := List.mem_map.1 h
    obtain ⟨i, hi, e⟩ := List.getElem_of_mem hy
    rw [lkR_at a.s (List.getElem?_eq_some_iff.2 ⟨hi, e⟩)]; rfl
  · intro h
    obtain ⟨xs, hx⟩ := Option.isSome_iff_exists.1 h
    obtain ⟨i, y, h1, h2, _⟩ := (lkR_of a.s).1 hx
    exact List.mem_map.2 ⟨y, List.mem_of_getElem? h1, h2⟩
end Go.Proofs.Ytppbdamlhcmlcaa
