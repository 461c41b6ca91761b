/- Processes: plain; the map of a table of processes in memory. -/
import Derived.Test.YtcikjnifkoagpaaZ0
namespace Go.Proofs.Ytcikjnifkoagpaa
open Go.RowKit Go.Shelf
structure Pr where
  pid : Int
  par : Int
  grp : ByteArray
  zom : Bool
  st : Int
  cmd : ByteArray
  term : Bool
  kill : Bool
def one : Pr := ⟨1, 0, ⟨#[]⟩, false, 0, ⟨#[]⟩, false, false⟩
def zPr : Pr := ⟨0, 0, ⟨#[]⟩, false, 0, ⟨#[]⟩, false, false⟩
/-- The cells of an api.Proc, of a process. -/
def prC (p : Pr) : List Value := [.int .i64 p.pid, .int .i64 p.par, .string p.grp, .bool p.zom, .int .i64 p.st, .string p.cmd]
def prV (p : Pr) : Value := .agg #[.int .i64 p.pid, .int .i64 p.par, .string p.grp, .bool p.zom, .int .i64 p.st, .string p.cmd]
def psV (p : Pr) : Value := .agg #[.int .i64 p.pid, .int .i64 p.par, .string p.grp, .bool p.zom, .int .i64 p.st, .string p.cmd, .bool p.term, .bool p.kill]
abbrev Ps := List Pr
def lk (l : Ps) (k : Int) : Option Pr := l.find? fun p => decide (p.pid = k)
def rep (l : Ps) (p : Pr) : Ps := l.map fun q => if q.pid = p.pid then p else q
def del (l : Ps) (k : Int) : Ps := l.filter fun p => !decide (p.pid = k)
def heldElem (v : Value) : Option (DataW Value × List MemPlace) := some (.held v, [])
def ent (p : Pr) : Lit × DataW Value := (.int .i64 p.pid, .held (psV p))
def Dm (l : Ps) : DataW Value := .map (l.map ent)
def Srt (l : Ps) : Prop := l.Pairwise fun p q => p.pid < q.pid
theorem same_int (a b : Int) : (Lit.int .i64 a).sameKey (.int .i64 b) = decide (a = b) := by simp [Lit.sameKey]
theorem before_int (a b : Int) : (Lit.int .i64 a).before (.int .i64 b) = decide (a < b) := by simp [Lit.before]
theorem lk_pid {l : Ps} {k : Int} {p : Pr} (h : lk l k = some p) : p.pid = k := by
  have := List.find?_some h
  simpa using this
theorem lk_mem {l : Ps} {k : Int} {p : Pr} (h : lk l k = some p) : p ∈ l := List.mem_of_find?_eq_some h
theorem lk_none {l : Ps} {k : Int} : lk l k = none ↔ ∀ p ∈ l, p.pid ≠ k := by simp [lk]
theorem find_ent (l : Ps) (k : Int) : (l.map ent).find? (fun p => p.1.sameKey (.int .i64 k)) = (lk l k).map ent := by
  unfold lk
  rw [List.find?_map]
  congr 1
  apply congrFun; apply congrArg
  funext p
  simp [ent, same_int]
theorem atKey_Dm (l : Ps) (k : Int) (z : DataW Value) : (Dm l).atKey (.int .i64 k) z = match lk l k with | some p => .held (psV p) | none => z := by
  unfold Dm DataW.atKey
  simp only [find_ent]
  cases lk l k <;> rfl
theorem has_Dm (l : Ps) (k : Int) : Maps.has (Dm l) (.int .i64 k) = (lk l k).isSome := by
  unfold Dm
  rw [Maps.has_eq, Bool.eq_iff_iff, List.any_eq_true]
  unfold lk
  rw [List.find?_isSome]
  constructor
  · rintro ⟨x, hx, hk⟩
    obtain ⟨p, hp, rfl⟩ := List.mem_map.1 hx
    exact ⟨p, hp, by simpa [ent, same_int] using hk⟩
  · rintro ⟨p, hp, hk⟩
    exact ⟨ent p, List.mem_map_of_mem hp, by simpa [ent, same_int] using hk⟩
theorem size_Dm (l : Ps) : Maps.size (Dm l) = l.length := by unfold Dm; rw [Maps.size_eq]; simp
theorem filt_ent (l : Ps) (k : Int) : (l.map ent).filter (fun p => !p.1.sameKey (.int .i64 k)) = (del l k).map ent := by
  unfold del
  rw [List.filter_map]
  congr 1
  apply congrFun; apply congrArg
  funext p
  simp [ent, same_int]
theorem del_Dm (l : Ps) (k : Int) : (Dm l).del (.int .i64 k) = Dm (del l k) := by
  unfold Dm DataW.del
  simp only [filt_ent]
theorem del_none {l : Ps} {k : Int} (h : ∀ p ∈ l, p.pid ≠ k) : del l k = l := by
  unfold del
  rw [List.filter_eq_self]
  intro p hp
  simp [h p hp]
theorem ins_last (p : Pr) : ∀ l : Ps, (∀ q ∈ l, q.pid < p.pid) → DataW.insert (ent p) (l.map ent) = (l ++ [p]).map ent
  | [], _ => rfl
  | q :: r, h => by
    have hq := h q (by simp)
    show (if _ then _ else _) = _
    rw [show (ent p).1.before (ent q).1 = false by simp only [ent, before_int]; simp; omega]
    simp only [Bool.false_eq_true, if_false, List.cons_append, List.map_cons]
    rw [ins_last p r (fun x hx => h x (by simp [hx])), List.map_append]
theorem put_last {l : Ps} {p : Pr} (h : ∀ q ∈ l, q.pid < p.pid) : (Dm l).put (.int .i64 p.pid) (.held (psV p)) = Dm (l ++ [p]) := by
  unfold Dm DataW.put
  simp only [filt_ent]
  rw [del_none (fun q hq => by have := h q hq; omega)]
  congr 1
  exact ins_last p l h
theorem ins_first (p : Pr) {l : Ps} (h : ∀ q ∈ l, p.pid < q.pid) : DataW.insert (ent p) (l.map ent) = ent p :: l.map ent := by
  cases l with
  | nil => rfl
  | cons q r =>
    have hq := h q (by simp)
    show (if _ then _ else _) = _
    rw [show (ent p).1.before (ent q).1 = true by simp only [ent, before_int]; simp; omega]
    rfl
theorem rep_none {l : Ps} {p : Pr} (h : ∀ q ∈ l, q.pid ≠ p.pid) : rep l p = l := by
  unfold rep
  rw [List.map_congr_left (g := id) (fun q hq => by simp [h q hq])]
  simp
theorem put_ins (p : Pr) : ∀ l : Ps, Srt l → (∃ q ∈ l, q.pid = p.pid) → DataW.insert (ent p) ((del l p.pid).map ent) = (rep l p).map ent
  | [], _, h => by obtain ⟨q, hq, _⟩ := h; simp at hq
  | q :: r, hs, h => by
    obtain ⟨h1, h2⟩ := List.pairwise_cons.1 hs
    by_cases e : q.pid = p.pid
    · have hd : del (q :: r) p.pid = r := by
        show List.filter _ _ = _
        rw [List.filter_cons]; simp only [e, decide_true, Bool.not_true, Bool.false_eq_true, if_false]
        exact del_none (fun x hx => by have := h1 x hx; omega)
      have hr : rep (q :: r) p = p :: r := by
        show List.map _ _ = _
        rw [List.map_cons, if_pos e]
        exact congrArg _ (rep_none (fun x hx => by have := h1 x hx; omega))
      rw [hd, hr, ins_first p (fun x hx => by have := h1 x hx; omega)]
      rfl
    · obtain ⟨x, hx, hxe⟩ := h
      have hxr : x ∈ r := by
        rcases List.mem_cons.1 hx with rfl | hx
        · exact absurd hxe e
        · exact hx
      have hlt := h1 x hxr
      have hd : del (q :: r) p.pid = q :: del r p.pid := by
        show List.filter _ _ = _
        rw [List.filter_cons]; simp only [e, decide_false, Bool.not_false, if_true]; rfl
      have hr : rep (q :: r) p = q :: rep r p := by
        show List.map _ _ = _
        rw [List.map_cons, if_neg e]; rfl
      rw [hd, hr, List.map_cons, List.map_cons, ← put_ins p r h2 ⟨x, hxr, hxe⟩]
      show (if _ then _ else _) = _
      rw [show (ent p).1.before (ent q).1 = false by simp only [ent, before_int]; simp; omega]
      rfl
theorem put_rep {l : Ps} {p : Pr} (hs : Srt l) (h : ∃ q ∈ l, q.pid = p.pid) : (Dm l).put (.int .i64 p.pid) (.held (psV p)) = Dm (rep l p) := by
  unfold Dm DataW.put
  simp only [filt_ent]
  congr 1
  exact put_ins p l hs h
theorem law3k : Maps.Keyed Try.prog 3 := Maps.int_keyed Try.underlying3
theorem key_int {a : Int} (h0 : -9223372036854775808 ≤ a) (h1 : a ≤ 9223372036854775807) : keyOf Try.prog 3 (.int .i64 a) = some (.int .i64 a) :=
  Maps.keyOf_int_mk Try.underlying3 (WalkArith.wf_i64 (by omega))
theorem zeroPs (w : World) : (zeroValue 64).run Try.prog w = .ok (psV zPr) w := by kernel_rfl
/-- Block bt is a table's: its room, the last number given, its map in block bm, with the processes l. -/
structure Tb (w : World) (bt bm : Nat) (room last : Int) (l : Ps) : Prop where
  c0 : w.cell? ⟨bt, 0, none⟩ = some (.int .i64 room)
  c1 : w.cell? ⟨bt, 1, none⟩ = some (.int .i64 last)
  c2 : w.cell? ⟨bt, 2, none⟩ = some (.map (some bm))
  fz : w.frozen? ⟨bt, 1, none⟩ = false
  mp : ∃ n, n ≤ 1000000 ∧ w.ownsMap Try.prog 3 heldElem bm n (Dm l)
theorem ownsMap_mv {H : Type} {P : Program} {k : TypeId} {R : Value → Option (DataW H × List MemPlace)} {w w' : World} {b n : Nat} {D : DataW H} {E : Nat → Prop} (h : w.ownsMap P k R b n D) (m : Mv E w w') (hE : ¬ E b) : w'.ownsMap P k R b n D := by
  obtain ⟨es, c, hb, q⟩ := h
  exact ⟨es, c, (m.block b (Array.getElem?_eq_some_iff.1 hb).1 hE).trans hb, q⟩
theorem Tb.lt {w : World} {bt bm : Nat} {room last : Int} {l : Ps} (h : Tb w bt bm room last l) : bt < w.heap.size := cell_lt h.c0
theorem Tb.ltm {w : World} {bt bm : Nat} {room last : Int} {l : Ps} (h : Tb w bt bm room last l) : bm < w.heap.size := by obtain ⟨n, _, h⟩ := h.mp; exact h.lt
theorem Tb.ne {w : World} {bt bm : Nat} {room last : Int} {l : Ps} (h : Tb w bt bm room last l) : bt ≠ bm := by
  obtain ⟨n, _, es, c, hb, _⟩ := h.mp
  rintro rfl
  have := h.c0
  unfold World.cell? at this
  rw [hb] at this
  cases this
theorem Tb.mv {w w' : World} {bt bm : Nat} {room last : Int} {l : Ps} {E : Nat → Prop} (h : Tb w bt bm room last l) (m : Mv E w w') (ht : ¬ E bt) (hm : ¬ E bm) : Tb w' bt bm room last l := by
  obtain ⟨n, hn, ho⟩ := h.mp
  exact ⟨m.cell ht h.c0, m.cell ht h.c1, m.cell ht h.c2, (m.froz ht h.lt).trans h.fz, n, hn, ownsMap_mv ho m hm⟩
theorem Tb.below {w w' : World} {bt bm : Nat} {room last : Int} {l : Ps} (h : Tb w bt bm room last l) (b : Below w.heap.size w w') : Tb w' bt bm room last l :=
  h.mv (E := fun _ => False) (Mv.below b) (fun h => h) (fun h => h)
/-- What stands at a number. -/
theorem Tb.look {w : World} {bt bm : Nat} {room last : Int} {l : Ps} (h : Tb w bt bm room last l) {k : Int} (h0 : -9223372036854775808 ≤ k) (h1 : k ≤ 9223372036854775807) :
    (Instr.lookup 55 (.map (some bm)) (.int .i64 k) true).run Try.prog w = .ok (.tuple #[psV ((lk l k).getD zPr), .bool (lk l k).isSome]) w := by
  obtain ⟨n, _, ho⟩ := h.mp
  obtain ⟨v, ps, hrun, hv⟩ := ho.look_ok (t := 55) (e := 64) law3k Try.underlying55 (zeroPs w) (zd := .held (psV zPr)) (zp := []) rfl (key_int h0 h1)
  rw [atKey_Dm] at hv
  rw [hrun, has_Dm]
  cases hl : lk l k <;> rw [hl] at hv <;> simp only [heldElem, Option.some.injEq, Prod.mk.injEq, DataW.held.injEq] at hv <;> rw [hv.1] <;> rfl
theorem Tb.look1 {w : World} {bt bm : Nat} {room last : Int} {l : Ps} (h : Tb w bt bm room last l) {k : Int} (h0 : -9223372036854775808 ≤ k) (h1 : k ≤ 9223372036854775807) :
    (Instr.lookup 55 (.map (some bm)) (.int .i64 k) false).run Try.prog w = .ok (psV ((lk l k).getD zPr)) w := by
  obtain ⟨n, _, ho⟩ := h.mp
  obtain ⟨v, ps, hrun, hv⟩ := ho.lookup (t := 55) (e := 64) law3k Try.underlying55 (zeroPs w) (zd := .held (psV zPr)) (zp := []) rfl (key_int h0 h1)
  rw [atKey_Dm] at hv
  rw [hrun]
  cases hl : lk l k <;> rw [hl] at hv <;> simp only [heldElem, Option.some.injEq, Prod.mk.injEq, DataW.held.injEq] at hv <;> rw [hv.1] <;> rfl
theorem Tb.len {w : World} {bt bm : Nat} {room last : Int} {l : Ps} (h : Tb w bt bm room last l) (ty : TypeId) :
    (Builtin.len_ #[55] ty #[.map (some bm)]).run Try.prog w = .ok (.int .i64 l.length) w := by
  obtain ⟨n, _, ho⟩ := h.mp
  have := ho.len (t := 55) (e := 64) Try.underlying55 ty
  rw [size_Dm] at this
  exact this
/-- A process is laid at its number. -/
theorem Tb.store {w : World} {bt bm : Nat} {room last : Int} {l l' : Ps} {p : Pr} (h : Tb w bt bm room last l) (h0 : -9223372036854775808 ≤ p.pid) (h1 : p.pid ≤ 9223372036854775807) (hput : (Dm l).put (.int .i64 p.pid) (.held (psV p)) = Dm l') (hl' : l'.length ≤ 1000) :
    ∃ w', (Instr.mapUpdate 55 (.map (some bm)) (.int .i64 p.pid) (psV p)).run Try.prog w = .ok () w' ∧ Tb w' bt bm room last l' ∧ Mv (fun k => k = bm) w w' := by
  obtain ⟨n, hn, ho⟩ := h.mp
  obtain ⟨w', hrun, ho', hg⟩ := ho.update (t := 55) (e := 64) law3k Try.underlying55 (by unfold maxLen; omega) (key_int h0 h1) (val := psV p) (d := .held (psV p)) (ps := []) rfl
  rw [hput] at ho'
  have m : Mv (fun k => k = bm) w w' := (Mv.refl _ _).grown hg (fun k e => .inl (by cases e; rfl))
  refine ⟨w', hrun, ⟨m.cell h.ne h.c0, m.cell h.ne h.c1, m.cell h.ne h.c2, (m.froz h.ne h.lt).trans h.fz, ?_⟩, m⟩
  obtain ⟨es, c, hb, F, hs, hD⟩ := ho'
  refine ⟨es.size, ?_, es, c, hb, F, Nat.le_refl _, hD⟩
  have := congrArg Maps.size hD
  rw [size_Dm, Maps.size_eq, length_read] at this
  omega
theorem Tb.drop {w : World} {bt bm : Nat} {room last : Int} {l : Ps} (h : Tb w bt bm room last l) {k : Int} (h0 : -9223372036854775808 ≤ k) (h1 : k ≤ 9223372036854775807) (ty : TypeId) :
    ∃ w', (Builtin.delete_ #[55, 3] ty #[.map (some bm), .int .i64 k]).run Try.prog w = .ok (.tuple #[]) w' ∧ Tb w' bt bm room last (del l k) ∧ Mv (fun k => k = bm) w w' := by
  obtain ⟨n, hn, ho⟩ := h.mp
  obtain ⟨w', hrun, ho', hg⟩ := ho.drop (t := 55) (e := 64) law3k Try.underlying55 (key_int h0 h1) ty
  rw [del_Dm] at ho'
  have m : Mv (fun k => k = bm) w w' := (Mv.refl _ _).grown hg.grown (fun k e => .inl (by cases e; rfl))
  exact ⟨w', hrun, ⟨m.cell h.ne h.c0, m.cell h.ne h.c1, m.cell h.ne h.c2, (m.froz h.ne h.lt).trans h.fz, n, hn, ho'⟩, m⟩
end Go.Proofs.Ytcikjnifkoagpaa
