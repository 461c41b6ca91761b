/- Ports as plain values; each function's contract, once. -/
import Derived.Test.YtppbdamlhcmlcaaPC
namespace Go.Proofs.Ytppbdamlhcmlcaa
open Go.RowKit Go.Shelf Go.Lib
structure Pl where
  q : ByteArray → Option (List Pr)
  ms : List Pr
  last : Int
def pl (S : St) : Pl := ⟨fun s => (S.sock s).map Sk.xs, S.ms, S.last⟩
def upP (f : ByteArray → Option (List Pr)) (s : ByteArray) (v : Option (List Pr)) (x : ByteArray) : Option (List Pr) := if x = s then v else f x
theorem upP_same (f : ByteArray → Option (List Pr)) (s : ByteArray) (v : Option (List Pr)) : upP f s v s = v := if_pos rfl
theorem upP_other (f : ByteArray → Option (List Pr)) {s x : ByteArray} (v : Option (List Pr)) (h : x ≠ s) : upP f s v x = f x := if_neg h
def listenP (P : Pl) (s : ByteArray) : Int × Pl := if s = noName then (100, P) else if (P.q s).isSome = true then (101, P) else (0, { P with q := upP P.q s (some []) })
def closeP (P : Pl) (s : ByteArray) : Int × Pl := if (P.q s).isSome = true then (0, { P with q := upP P.q s none }) else (100, P)
def connectP (P : Pl) (s t : ByteArray) : Int × Int × Pl :=
  match P.q s with
  | none => (0, 100, P)
  | some xs => if 200 < t.size then (0, 100, P) else if 16 ≤ xs.length then (0, 102, P) else (P.last + 1, 0, { P with q := upP P.q s (some (xs ++ [(P.last + 1, t)])), last := P.last + 1 })
def acceptP (P : Pl) (s : ByteArray) : Pr × Int × Pl :=
  match P.q s with
  | some (x :: r) => (x, 0, { P with q := upP P.q s (some r) })
  | _ => (zP, 100, P)
def sendP (P : Pl) (i : Int) (t : ByteArray) : Int × Pl := if 200 < t.size then (100, P) else if 16 ≤ P.ms.length then (102, P) else (0, { P with ms := P.ms ++ [(i, t)] })
def recvP (P : Pl) : Pr × Bool × Pl :=
  match P.ms with
  | x :: r => (x, true, { P with ms := r })
  | [] => (zP, false, P)
theorem pl_upd (S : St) (s : ByteArray) (q : Option Sk) : (fun x => (upd S.sock s q x).map Sk.xs) = upP (fun x => (S.sock x).map Sk.xs) s (q.map Sk.xs) := by
  funext x
  unfold upd upP
  split <;> rfl
theorem pl_q (S : St) (s : ByteArray) : (pl S).q s = (S.sock s).map Sk.xs := rfl
theorem listen_any (S : St) (s : ByteArray) (w : World) (h : Ps w S) (hs : s.size ≤ 1000) (hc : S.c ≤ 900000) : Calls Try.prog 9 #[.pointer (some ⟨S.bt, 0, none⟩), .string s] w fun e w' => e = .returned (.int .i64 (listenP (pl S) s).1) ∧ ∃ S', Goes S w S' w' 1 ∧ pl S' = (listenP (pl S) s).2 := by
  by_cases hn : s = noName
  · subst hn
    refine (listen_empty S w).mono ?_
    rintro e w' ⟨rfl, rfl⟩
    exact ⟨rfl, S, (Goes.refl h).mono (by omega), rfl⟩
  · cases hq : S.sock s with
    | some q =>
      refine (listen_taken S s q w h hs hq hn).mono ?_
      rintro e w' ⟨rfl, rfl⟩
      have : listenP (pl S) s = (101, pl S) := by unfold listenP; rw [if_neg hn, pl_q, hq]; rfl
      rw [this]
      exact ⟨rfl, S, (Goes.refl h).mono (by omega), rfl⟩
    | none =>
      refine (listen_ok S s w h hs hq hn hc).mono ?_
      rintro e w' ⟨rfl, n, g⟩
      have : listenP (pl S) s = (0, { pl S with q := upP (pl S).q s (some []) }) := by unfold listenP; rw [if_neg hn, pl_q, hq]; rfl
      rw [this]
      exact ⟨rfl, _, g, by unfold pl; simp only [pl_upd]; rfl⟩
theorem close_any (S : St) (s : ByteArray) (w : World) (h : Ps w S) (hs : s.size ≤ 1000) : Calls Try.prog 11 #[.pointer (some ⟨S.bt, 0, none⟩), .string s] w fun e w' => e = .returned (.int .i64 (closeP (pl S) s).1) ∧ ∃ S', Goes S w S' w' 1 ∧ pl S' = (closeP (pl S) s).2 := by
  cases hq : S.sock s with
  | none =>
    refine (close_no S s w h hs hq).mono ?_
    rintro e w' ⟨rfl, rfl⟩
    have : closeP (pl S) s = (100, pl S) := by unfold closeP; rw [pl_q, hq]; rfl
    rw [this]
    exact ⟨rfl, S, (Goes.refl h).mono (by omega), rfl⟩
  | some q =>
    refine (close_ok S s q w h hs hq).mono ?_
    rintro e w' ⟨rfl, g⟩
    have : closeP (pl S) s = (0, { pl S with q := upP (pl S).q s none }) := by unfold closeP; rw [pl_q, hq]; rfl
    rw [this]
    exact ⟨rfl, _, g.mono (by omega), by unfold pl; simp only [pl_upd]; rfl⟩
theorem connect_any (S : St) (s t : ByteArray) (w : World) (h : Ps w S) (hs : s.size ≤ 1000) (hc : S.c ≤ 900000) : Calls Try.prog 13 #[.pointer (some ⟨S.bt, 0, none⟩), .string s, .string t] w fun e w' => e = .returned (.tuple #[.int .i64 (connectP (pl S) s t).1, .int .i64 (connectP (pl S) s t).2.1]) ∧ ∃ S', Goes S w S' w' 1 ∧ pl S' = (connectP (pl S) s t).2.2 := by
  cases hq : S.sock s with
  | none =>
    refine (connect_none S s t w h hs hq).mono ?_
    rintro e w' ⟨rfl, rfl⟩
    have : connectP (pl S) s t = (0, 100, pl S) := by unfold connectP; rw [pl_q, hq]; rfl
    rw [this]
    exact ⟨rfl, S, (Goes.refl h).mono (by omega), rfl⟩
  | some q =>
    have e0 : connectP (pl S) s t = if 200 < t.size then (0, 100, pl S) else if 16 ≤ q.xs.length then (0, 102, pl S) else (S.last + 1, 0, { pl S with q := upP (pl S).q s (some (q.xs ++ [(S.last + 1, t)])), last := S.last + 1 }) := by unfold connectP; rw [pl_q, hq]; rfl
    by_cases ht : 200 < t.size
    · rw [if_pos ht] at e0
      refine (connect_long S s t q w h hs hq ht).mono ?_
      rintro e w' ⟨rfl, rfl⟩
      rw [e0]
      exact ⟨rfl, S, (Goes.refl h).mono (by omega), rfl⟩
    · rw [if_neg ht] at e0
      have hl := (h.sk s q hq).2.2
      by_cases hl2 : 16 ≤ q.xs.length
      · rw [if_pos hl2] at e0
        refine (connect_full S s t q w h hs hq (by omega) (by omega) hc).mono ?_
        rintro e w' ⟨rfl, hb⟩
        rw [e0]
        exact ⟨rfl, S, (Goes.below h hb).mono (by omega), rfl⟩
      · rw [if_neg hl2] at e0
        refine (connect_ok S s t q w h hs hq (by omega) (by omega) hc).mono ?_
        rintro e w' ⟨rfl, sv, g⟩
        rw [e0]
        exact ⟨rfl, _, g, by unfold pl; simp only [pl_upd]; rfl⟩
theorem accept_any (S : St) (s : ByteArray) (w : World) (h : Ps w S) (hs : s.size ≤ 1000) : Calls Try.prog 15 #[.pointer (some ⟨S.bt, 0, none⟩), .string s] w fun e w' => e = .returned (.tuple #[.agg #[.int .i64 (acceptP (pl S) s).1.1, .string (acceptP (pl S) s).1.2], .int .i64 (acceptP (pl S) s).2.1]) ∧ ∃ S', Goes S w S' w' 1 ∧ pl S' = (acceptP (pl S) s).2.2 := by
  cases hq : S.sock s with
  | none =>
    refine (accept_none S s w h hs hq).mono ?_
    rintro e w' ⟨rfl, hb⟩
    have : acceptP (pl S) s = (zP, 100, pl S) := by unfold acceptP; rw [pl_q, hq]; rfl
    rw [this]
    exact ⟨rfl, S, (Goes.below h hb).mono (by omega), rfl⟩
  | some q =>
    cases hx : q.xs with
    | nil =>
      refine (accept_empty S s q w h hs hq hx).mono ?_
      rintro e w' ⟨rfl, hb⟩
      have : acceptP (pl S) s = (zP, 100, pl S) := by unfold acceptP; rw [pl_q, hq, Option.map_some, hx]
      rw [this]
      exact ⟨rfl, S, (Goes.below h hb).mono (by omega), rfl⟩
    | cons x r =>
      refine (accept_ok S s q x.1 x.2 r w h hs hq hx).mono ?_
      rintro e w' ⟨rfl, sv, g⟩
      have : acceptP (pl S) s = (x, 0, { pl S with q := upP (pl S).q s (some r) }) := by unfold acceptP; rw [pl_q, hq, Option.map_some, hx]
      rw [this]
      exact ⟨rfl, _, g.mono (by omega), by unfold pl; simp only [pl_upd]; rfl⟩
theorem send_any (S : St) (i : Int) (t : ByteArray) (w : World) (h : Ps w S) : Calls Try.prog 17 #[.pointer (some ⟨S.bt, 0, none⟩), .int .i64 i, .string t] w fun e w' => e = .returned (.int .i64 (sendP (pl S) i t).1) ∧ ∃ S', Goes S w S' w' 1 ∧ pl S' = (sendP (pl S) i t).2 := by
  have e0 : sendP (pl S) i t = if 200 < t.size then (100, pl S) else if 16 ≤ S.ms.length then (102, pl S) else (0, { pl S with ms := S.ms ++ [(i, t)] }) := rfl
  by_cases ht : 200 < t.size
  · rw [if_pos ht] at e0
    refine (send_long S i t w ht).mono ?_
    rintro e w' ⟨rfl, rfl⟩
    rw [e0]
    exact ⟨rfl, S, (Goes.refl h).mono (by omega), rfl⟩
  · rw [if_neg ht] at e0
    have hl := h.mll
    by_cases hl2 : 16 ≤ S.ms.length
    · rw [if_pos hl2] at e0
      refine (send_full S i t w h (by omega) (by omega)).mono ?_
      rintro e w' ⟨rfl, hb⟩
      rw [e0]
      exact ⟨rfl, S, (Goes.below h hb).mono (by omega), rfl⟩
    · rw [if_neg hl2] at e0
      refine (send_ok S i t w h (by omega) (by omega)).mono ?_
      rintro e w' ⟨rfl, sv, g⟩
      rw [e0]
      exact ⟨rfl, _, g.mono (by omega), rfl⟩
theorem receive_any (S : St) (w : World) (h : Ps w S) : Calls Try.prog 19 #[.pointer (some ⟨S.bt, 0, none⟩)] w fun e w' => e = .returned (.tuple #[.agg #[.int .i64 (recvP (pl S)).1.1, .string (recvP (pl S)).1.2], .bool (recvP (pl S)).2.1]) ∧ ∃ S', Goes S w S' w' 1 ∧ pl S' = (recvP (pl S)).2.2 := by
  have e0 : recvP (pl S) = match S.ms with | x :: r => (x, true, { pl S with ms := r }) | [] => (zP, false, pl S) := rfl
  cases hx : S.ms with
  | nil =>
    rw [hx] at e0
    refine (receive_none S w h hx).mono ?_
    rintro e w' ⟨rfl, hb⟩
    rw [e0]
    exact ⟨rfl, S, (Goes.below h hb).mono (by omega), rfl⟩
  | cons x r =>
    rw [hx] at e0
    refine (receive_ok S x.1 x.2 r w h hx).mono ?_
    rintro e w' ⟨rfl, sv, g⟩
    rw [e0]
    exact ⟨rfl, _, g.mono (by omega), rfl⟩
end Go.Proofs.Ytppbdamlhcmlcaa
