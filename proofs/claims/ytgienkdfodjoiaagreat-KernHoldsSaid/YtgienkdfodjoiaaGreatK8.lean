/- A kernel that a law has made, step by step, by what it is plainly. -/
import Derived.Test.YtgienkdfodjoiaaGreatK7
namespace Go.Proofs.YtgienkdfodjoiaaGreat
open Go.RowKit Go.Shelf
/-- A kernel, plain. -/
structure Pl where
  room : Int
  last : Int
  l : Pc.Ps
  gl : Cg.Gl
  ns : List ByteArray
  mono : Int
  wall : Int
def Kst.pl (K : Kst) : Pl := ⟨K.room, K.last, K.l, K.S.l, K.S.ns, K.mono, K.wall⟩
/-- As it may be; c bounds what grows. -/
structure Pw (c : Nat) (p : Pl) : Prop where
  pw : Pc.Wf p.room p.last p.l
  gs : Cg.srtG p.gl
  la : p.last ≤ c
  gl : p.gl.length ≤ c
theorem Pw.mono {c d : Nat} {p : Pl} (h : Pw c p) (hd : c ≤ d) : Pw d p := ⟨h.pw, h.gs, by have := h.la; omega, by have := h.gl; omega⟩
/-- The kernel of block b, all of which is new since w. -/
structure Kf (w : World) (b c : Nat) (p : Pl) (K : Kst) (W : World) : Prop where
  k : Ks W K
  bl : Below w.heap.size w W
  nw : ∀ k, hasK K k → w.heap.size ≤ k
  bt : K.S.bt = b
  cc : K.S.c ≤ c
  pl : K.pl = p
  pw : Pw c p
/-- What lies beside the kernel, and is left alone by it. -/
structure Fm where
  fm : Kst → World → Prop
  st : ∀ K W K' W' d, Ks W K → fm K W → Kg K W K' W' d → fm K' W'
def F0 : Fm := ⟨fun _ _ => True, fun _ _ _ _ _ _ _ _ => trivial⟩
def Kp (F : Fm) (w : World) (b c : Nat) (p : Pl) (W : World) : Prop := ∃ K, Kf w b c p K W ∧ F.fm K W
variable {F : Fm}
theorem Kf.w {w : World} {b c : Nat} {p : Pl} {K : Kst} {W : World} (h : Kf w b c p K W) (hc : c ≤ 1000) : Kw K := by
  have e := h.pl
  have q := h.pw
  subst e
  exact ⟨q.pw, by have : K.last ≤ c := q.la; omega, q.gs, by have : K.S.l.length ≤ c := q.gl; omega, by have := h.cc; omega⟩
theorem Kf.step {w : World} {b c d : Nat} {p p' : Pl} {K K' : Kst} {W W' : World} (h : Kf w b c p K W) (f : F.fm K W) (k : Kg K W K' W' d) (e : K'.pl = p') (q : Pw (c + d) p') : Kp F w b (c + d) p' W' :=
  ⟨K', ⟨k.k, h.bl.trans (k.mv.toBelow h.bl.size (fun x hx r => by have := h.nw x r; omega)), fun x hx => by
    rcases k.gr x hx with r | r
    · exact h.nw x r
    · exact Nat.le_trans h.bl.size r, k.bt.trans h.bt, by have := k.c; have := h.cc; omega, e, q⟩, F.st _ _ _ _ _ h.k f k⟩
theorem Kp.below {w : World} {b c : Nat} {p : Pl} {W W' : World} (h : Kp F w b c p W) (k : Below W.heap.size W W') : Kp F w b c p W' := by
  obtain ⟨K, h, f⟩ := h
  have := h.step f (Kg.below h.k k) h.pl h.pw
  exact this
theorem Kp.bl {w : World} {b c : Nat} {p : Pl} {W : World} (h : Kp F w b c p W) : Below w.heap.size w W := by obtain ⟨K, h, _⟩ := h; exact h.bl
theorem Kp.pw {w : World} {b c : Nat} {p : Pl} {W : World} (h : Kp F w b c p W) : Pw c p := by obtain ⟨K, h, _⟩ := h; exact h.pw
theorem Kp.mono {w : World} {b c d : Nat} {p : Pl} {W : World} (h : Kp F w b c p W) (hd : c ≤ d) : Kp F w b d p W := by
  obtain ⟨K, h, f⟩ := h
  exact ⟨K, ⟨h.k, h.bl, h.nw, h.bt, by have := h.cc; omega, h.pl, h.pw.mono hd⟩, f⟩
/-- Blocks that are no part of it, and older ones. -/
theorem Kp.old {w : World} {b c : Nat} {p : Pl} {W : World} (h : Kp F w b c p W) {w0 : World} (hb : Below w0.heap.size w0 w) : Kp F w0 b c p W := by
  obtain ⟨K, h, f⟩ := h
  exact ⟨K, ⟨h.k, hb.trans (h.bl.mono hb.size), fun k hk => Nat.le_trans hb.size (h.nw k hk), h.bt, h.cc, h.pl, h.pw⟩, f⟩
/-- Something is laid beside it. -/
theorem Kp.lay {G : Fm} {w : World} {b c : Nat} {p : Pl} {W : World} (h : Kp F w b c p W) (hg : ∀ K, Ks W K → F.fm K W → G.fm K W) : Kp G w b c p W := by
  obtain ⟨K, h, f⟩ := h
  exact ⟨K, h, hg K h.k f⟩
theorem Kp.got {w : World} {b c : Nat} {p : Pl} {W : World} (h : Kp F w b c p W) : ∃ K, Ks W K ∧ F.fm K W := by
  obtain ⟨K, h, f⟩ := h
  exact ⟨K, h.k, f⟩
theorem Kp.gw {w : World} {b c : Nat} {p : Pl} {W : World} (h : Kp F w b c p W) : Cg.Wf p.gl p.ns := by
  obtain ⟨K, h, f⟩ := h
  have e := h.pl
  subst e
  exact h.k.g.wf
/-- A row of numbers beside the kernel. -/
def FI (v : Value) (xs : List Int) : Fm := ⟨fun K W => Cg.IR W v xs ∧ ∀ k, Cg.nb v = some k → k < W.heap.size ∧ ¬ hasK K k, fun K W K' W' d _ f g => ⟨f.1.mv g.mv (fun k hk => (f.2 k hk).2), fun k hk => ⟨Nat.lt_of_lt_of_le (f.2 k hk).1 g.mv.size, fun q => by
  rcases g.gr k q with r | r
  · exact (f.2 k hk).2 r
  · have := (f.2 k hk).1; omega⟩⟩⟩
theorem Kp.row {v : Value} {xs : List Int} {w : World} {b c : Nat} {p : Pl} {W : World} (h : Kp (FI v xs) w b c p W) : Cg.IR W v xs := by
  obtain ⟨K, h, f⟩ := h
  exact f.1
theorem Kv.pl {K K' : Kst} {last : Int} {l : Pc.Ps} {gl : Cg.Gl} {ns : List ByteArray} (v : Kv K K' last l gl ns) : K'.pl = ⟨K.room, last, l, gl, ns, K.mono, K.wall⟩ := by
  unfold Kst.pl
  rw [v.room, v.last, v.l, v.gl, v.ns, v.mono, v.wall]
def p0 (r t : Int) : Pl := ⟨Pc.roomOf r, 1, [], [], [], 0, t⟩
def kptr (b : Nat) : Value := .pointer (some ⟨b, 0, none⟩)
def gptr (b : Nat) : Value := .pointer (some ⟨b, 3, none⟩)
theorem new_p (r t : Int) (w : World) : Calls Tryz.prog 8 #[.int .i64 r, .int .i64 t] w fun e W => ∃ b, e = .returned (kptr b) ∧ w.heap.size ≤ b ∧ Kp F0 w b 1 (p0 r t) W := by
  refine (knew_any r t w).mono ?_
  rintro e W ⟨b, rfl, hk, hb, hB⟩
  refine ⟨b, rfl, hb, k0 w.heap.size b r t, ⟨hk, hB, fun k q => ?_, rfl, Nat.zero_le _, rfl, ⟨Pc.Wf.new r, List.Pairwise.nil, Int.le_refl _, Nat.zero_le _⟩⟩, trivial⟩
  rcases q with q | q | q
  · rw [q]; exact Nat.le_refl _
  · have : k ∈ (b :: (w.heap.size + 2) :: (w.heap.size + 3) :: (w.heap.size + 4) :: []) := q
    simp at this
    omega
  · cases q
theorem groups_p (b : Nat) (W : World) : Calls Tryz.prog 10 #[kptr b] W fun e W' => e = .returned (gptr b) ∧ W' = W := groups_any ⟨0, 0, 0, [], ⟨b, 0, 0, 0, .pointer none, 0, [], [], fun _ => none⟩, 0, 0⟩ W
theorem procs_p (b : Nat) (W : World) : Calls Tryz.prog 34 #[kptr b] W fun e W' => e = .returned (kptr b) ∧ W' = W := procs_any ⟨0, 0, 0, [], ⟨b, 0, 0, 0, .pointer none, 0, [], [], fun _ => none⟩, 0, 0⟩ W
/-- Make. -/
theorem make_p {w : World} {b c : Nat} {p : Pl} {W : World} (h : Kp F w b c p W) (hc : c ≤ 1000) (s : ByteArray) (hs : s.size ≤ 1000) :
    Calls Tryz.prog 11 #[gptr b, .string s] W fun e W' => e = .returned (.int .i64 (Cg.makeE p.gl s)) ∧ ∃ k, Kp F w b (c + 1) { p with gl := if Cg.makeE p.gl s = 0 then Cg.insG ⟨s, k, []⟩ p.gl else p.gl } W' := by
  obtain ⟨K, h, f⟩ := h
  have e := h.pl
  have q := h.pw
  have hb := h.bt
  subst e hb
  refine (Cg.make_any (K.S.at W) s W h.k.g hs (by show K.S.c ≤ _; have := h.cc; omega)).mono ?_
  rintro e W' ⟨rfl, S', k, g, l3, n3⟩
  refine ⟨rfl, k, h.step f (h.k.group g) ?_ ⟨q.pw, ?_, by have := q.la; show K.last ≤ _; have : K.last ≤ c := q.la; omega, ?_⟩⟩
  · unfold Kst.pl
    dsimp only
    rw [l3, n3]
    rfl
  · show Cg.srtG (if Cg.makeE K.S.l s = 0 then Cg.insG ⟨s, k, []⟩ K.S.l else K.S.l)
    split
    · rename_i h0
      refine Cg.srt_ins q.gs ?_
      show Cg.fnd K.S.l s = none
      unfold Cg.makeE at h0
      split at h0
      · cases h0
      · split at h0
        · cases h0
        · rename_i h2; simpa using h2
    · exact q.gs
  · show (if Cg.makeE K.S.l s = 0 then Cg.insG ⟨s, k, []⟩ K.S.l else K.S.l).length ≤ c + 1
    have : K.S.l.length ≤ c := q.gl
    split
    · rw [(Cg.insG_perm _ _).length_eq]; simp; omega
    · omega
/-- Emptied. -/
theorem emptied_p {w : World} {b c : Nat} {p : Pl} {W : World} (h : Kp F w b c p W) (hz : ∀ x ∈ p.ns, x.size ≤ 1000) :
    Calls Tryz.prog 46 #[gptr b] W fun e W' => e = .returned (.tuple #[.string (Cg.ifS (Cg.empR p.gl p.ns).1), .bool (Cg.empR p.gl p.ns).1.isSome]) ∧ Kp F w b c { p with ns := (Cg.empR p.gl p.ns).2 } W' := by
  obtain ⟨K, h, f⟩ := h
  have e := h.pl
  have q := h.pw
  have hb := h.bt
  subst e hb
  refine (Cg.emptied_any (K.S.at W) W h.k.g hz).mono ?_
  rintro e W' ⟨rfl, S', g, l3, n3⟩
  refine ⟨rfl, h.step f (h.k.group g) ?_ ⟨q.pw, q.gs, q.la, q.gl⟩⟩
  unfold Kst.pl
  dsimp only
  rw [l3, n3]
  rfl
theorem members_p {w : World} {b c : Nat} {p : Pl} {W : World} (h : Kp F w b c p W) (hc : c ≤ 1000) (g : ByteArray) (hg : g.size ≤ 1000) :
    Calls Tryz.prog 44 #[gptr b, .string g] W fun e W' => ∃ v, e = .returned v ∧ Cg.IR W' v (Cg.mOf p.gl g) ∧ Kp F w b c p W' ∧ (Cg.mOf p.gl g ≠ [] → Kp (FI v (Cg.mOf p.gl g)) w b c p W') := by
  have hh := h
  obtain ⟨K, h, f⟩ := h
  have e := h.pl
  have hb := h.bt
  subst e hb
  refine (membs_any h.k (by have := h.cc; omega) g hg).mono ?_
  rintro e W' ⟨v, rfl, h1, h2, h3⟩
  have hl : ∀ k, hasK K k → k < W.heap.size := fun k hk => h.k.lt hk
  refine ⟨v, rfl, h1, hh.below h3, fun hne => ?_⟩
  refine ⟨K, ⟨h.k.below h3, h.bl.trans (h3.mono h.bl.size), h.nw, h.bt, h.cc, h.pl, h.pw⟩, h1, fun k hk => ⟨?_, fun q => by have := hl k q; have := h2 k hk; omega⟩⟩
  obtain ⟨p, c, rfl, q⟩ := h1
  rcases q with q | ⟨gk, o, rfl, q⟩
  · exact absurd q hne
  · cases hk
    obtain ⟨x, hx⟩ : ∃ x, (Cg.mOf K.pl.gl g)[0]? = some x := ⟨_, List.getElem?_eq_getElem (List.length_pos_iff.2 hne)⟩
    exact cell_lt (q 0 x hx)
theorem of_p {w : World} {b c : Nat} {p : Pl} {W : World} (h : Kp F w b c p W) (k : Int) (h0 : -9223372036854775808 ≤ k) (h1 : k ≤ 9223372036854775807) :
    Calls Tryz.prog 49 #[gptr b, .int .i64 k] W fun e W' => e = .returned (.tuple #[.string (Cg.ofN p.gl k), .bool (Cg.hm p.gl k).isSome]) ∧ Kp F w b c p W' := by
  have hh := h
  obtain ⟨K, h, f⟩ := h
  have e := h.pl
  have hb := h.bt
  subst e hb
  refine (Cg.of_any (K.S.at W) k W h.k.g h0 h1).mono ?_
  rintro e W' ⟨rfl, h3⟩
  exact ⟨rfl, hh.below h3⟩
theorem get_p {w : World} {b c : Nat} {p : Pl} {W : World} (h : Kp F w b c p W) (k : Int) (h0 : -9223372036854775808 ≤ k) (h1 : k ≤ 9223372036854775807) :
    Calls Tryz.prog 48 #[kptr b, .int .i64 k] W fun e W' => e = .returned (.tuple #[Pc.prV (Pc.getP p.l k), .bool (Pc.thereP p.l k)]) ∧ Kp F w b c p W' := by
  have hh := h
  obtain ⟨K, h, f⟩ := h
  have e := h.pl
  have hb := h.bt
  subst e hb
  refine (Pc.get_any K.S.bt K.bm K.room K.last K.l k W h.k.t h0 h1).mono ?_
  rintro e W' ⟨rfl, h3⟩
  exact ⟨rfl, hh.below h3⟩
theorem sig_p {w : World} {b c : Nat} {p : Pl} {W : World} (h : Kp F w b c p W) (k : Int) (h0 : -9223372036854775808 ≤ k) (h1 : k ≤ 9223372036854775807) :
    Calls Tryz.prog 50 #[kptr b, .int .i64 k] W fun e W' => e = .returned (.tuple #[.bool ((Pc.lk p.l k).getD Pc.zPr).term, .bool (killd p.l k)]) ∧ Kp F w b c p W' := by
  have hh := h
  obtain ⟨K, h, f⟩ := h
  have e := h.pl
  have hb := h.bt
  subst e hb
  refine (Pc.sig_any K.S.bt K.bm K.room K.last K.l k W h.k.t h0 h1).mono ?_
  rintro e W' ⟨rfl, h3⟩
  exact ⟨rfl, hh.below h3⟩
theorem len_put (l : Cg.Gl) (a : Int) (s : ByteArray) : (Cg.putL l a s).length = l.length := by
  unfold Cg.putL
  split
  · split
    · simp [Cg.addL, Cg.gonL]
    · rfl
  · rfl
theorem srt_put {l : Cg.Gl} (h : Cg.srtG l) (a : Int) (s : ByteArray) : Cg.srtG (Cg.putL l a s) := by
  unfold Cg.putL
  split
  · split
    · exact Cg.srt_add (Cg.srt_gon h a) a s
    · exact h
  · exact h
def spQ (p : Pl) (g c : ByteArray) : SpK := spawnK ⟨0, p.room, p.last, p.l, ⟨0, 0, 0, 0, .pointer none, 0, p.gl, p.ns, fun _ => none⟩, p.mono, p.wall⟩ g c
def fkQ (p : Pl) (k : Int) : SpK := forkK ⟨0, p.room, p.last, p.l, ⟨0, 0, 0, 0, .pointer none, 0, p.gl, p.ns, fun _ => none⟩, p.mono, p.wall⟩ k
def Pl.with (p : Pl) (s : SpK) : Pl := { p with last := s.last, l := s.l, gl := s.gl, ns := s.ns }
theorem Pw.spawn {c : Nat} {p : Pl} (h : Pw c p) (g cm : ByteArray) : Pw (c + 2) (p.with (spQ p g cm)) := by
  have hla := h.la
  have hgl := h.gl
  have hsl := Pc.sp_last p.room p.last p.l 1 g cm
  unfold spQ spawnK Pl.with
  dsimp only
  split
  · split
    · exact ⟨h.pw.spawn _ _ _, srt_put h.gs _ _, by dsimp only; omega, by dsimp only; rw [len_put]; omega⟩
    · exact ⟨h.pw.spawn _ _ _, h.gs, by dsimp only; omega, by dsimp only; omega⟩
  · exact ⟨h.pw, h.gs, by dsimp only; omega, by dsimp only; omega⟩
theorem Pw.fork {c : Nat} {p : Pl} (h : Pw c p) (k : Int) : Pw (c + 2) (p.with (fkQ p k)) := by
  have hla := h.la
  have hgl := h.gl
  have hsl := Pc.fk_last p.room p.last p.l k
  unfold fkQ forkK Pl.with
  dsimp only
  split
  · split
    · exact ⟨h.pw.fork _, srt_put h.gs _ _, by dsimp only; omega, by dsimp only; rw [len_put]; omega⟩
    · exact ⟨h.pw.fork _, h.gs, by dsimp only; omega, by dsimp only; omega⟩
  · exact ⟨h.pw.fork _, h.gs, by dsimp only; omega, by dsimp only; omega⟩
theorem spawn_p {w : World} {b c : Nat} {p : Pl} {W : World} (h : Kp F w b c p W) (hc : c ≤ 1000) (g cm : ByteArray) (hg : g.size ≤ 1000) :
    Calls Tryz.prog 13 #[kptr b, .string g, .string cm] W fun e W' => e = .returned (.tuple #[.int .i64 (spQ p g cm).n, .int .i64 (spQ p g cm).e]) ∧ Kp F w b (c + 2) (p.with (spQ p g cm)) W' := by
  obtain ⟨K, h, f⟩ := h
  have e := h.pl
  have q := h.pw
  have hb := h.bt
  subst e hb
  refine (spawn_any h.k (h.w hc) g cm hg).mono ?_
  rintro e W' ⟨rfl, K', k, v⟩
  exact ⟨rfl, h.step f k v.pl (q.spawn g cm)⟩
theorem fork_p {w : World} {b c : Nat} {p : Pl} {W : World} (h : Kp F w b c p W) (hc : c ≤ 1000) (k : Int) (h0 : -9223372036854775808 ≤ k) (h1 : k ≤ 9223372036854775807) :
    Calls Tryz.prog 15 #[kptr b, .int .i64 k] W fun e W' => e = .returned (.tuple #[.int .i64 (fkQ p k).n, .int .i64 (fkQ p k).e]) ∧ Kp F w b (c + 2) (p.with (fkQ p k)) W' := by
  obtain ⟨K, h, f⟩ := h
  have e := h.pl
  have q := h.pw
  have hb := h.bt
  subst e hb
  refine (fork_any h.k (h.w hc) k h0 h1).mono ?_
  rintro e W' ⟨rfl, K', k2, v⟩
  exact ⟨rfl, h.step f k2 v.pl (q.fork k)⟩
def exQ (p : Pl) (k s : Int) : Pl := { p with l := Pc.exL p.l k s, gl := if Pc.exE p.l k = 0 then Cg.gonL p.gl k else p.gl, ns := if Pc.exE p.l k = 0 then Cg.gonN p.gl p.ns k else p.ns }
def dieQ (p : Pl) (k : Int) : Pl := if killd p.l k = true then exQ p k (-9) else p
def dieQE (p : Pl) (k : Int) : Int := if killd p.l k = true then Pc.exE p.l k else 80
theorem Pw.exit {c : Nat} {p : Pl} (h : Pw c p) (k s : Int) : Pw (c + 1) (exQ p k s) := by
  have hla := h.la
  have hgl := h.gl
  unfold exQ
  refine ⟨h.pw.exit k s, ?_, by dsimp only; omega, ?_⟩
  · dsimp only
    split
    · exact Cg.srt_gon h.gs k
    · exact h.gs
  · dsimp only
    split
    · simp [Cg.gonL]; omega
    · omega
theorem exit_p {w : World} {b c : Nat} {p : Pl} {W : World} (h : Kp F w b c p W) (hc : c ≤ 1000) (k s : Int) (h0 : -9223372036854775808 ≤ k) (h1 : k ≤ 9223372036854775807) :
    Calls Tryz.prog 17 #[kptr b, .int .i64 k, .int .i64 s] W fun e W' => e = .returned (.int .i64 (Pc.exE p.l k)) ∧ Kp F w b (c + 1) (exQ p k s) W' := by
  obtain ⟨K, h, f⟩ := h
  have e := h.pl
  have q := h.pw
  have hb := h.bt
  subst e hb
  refine (exit_any h.k (h.w hc) k s h0 h1).mono ?_
  rintro e W' ⟨rfl, K', k2, v⟩
  exact ⟨rfl, h.step f k2 v.pl (q.exit k s)⟩
theorem die_p {w : World} {b c : Nat} {p : Pl} {W : World} (h : Kp F w b c p W) (hc : c ≤ 1000) (k : Int) (h0 : -9223372036854775808 ≤ k) (h1 : k ≤ 9223372036854775807) :
    Calls Tryz.prog 19 #[kptr b, .int .i64 k] W fun e W' => e = .returned (.int .i64 (dieQE p k)) ∧ Kp F w b (c + 1) (dieQ p k) W' := by
  obtain ⟨K, h, f⟩ := h
  have e := h.pl
  have q := h.pw
  have hb := h.bt
  subst e hb
  refine (die_any h.k (h.w hc) k h0 h1).mono ?_
  rintro e W' ⟨rfl, K', k2, v⟩
  refine ⟨rfl, h.step f k2 ?_ ?_⟩
  · rw [v.pl]
    unfold dieQ dieL dieG dieN
    show _ = if killd K.l k = true then _ else _
    split <;> rfl
  · unfold dieQ
    split
    · exact q.exit k (-9)
    · exact q.mono (by omega)
def kgQ (p : Pl) (g : ByteArray) (s : Int) : Pl := { p with l := kgL s p.l (Cg.mOf p.gl g) }
theorem killg_p {w : World} {b c : Nat} {p : Pl} {W : World} (h : Kp F w b c p W) (hc : c ≤ 1000) (g : ByteArray) (hg : g.size ≤ 1000) (s : Int) :
    Calls Tryz.prog 23 #[kptr b, .string g, .int .i64 s] W fun e W' => e = .returned (.int .i64 (kgC s p.l (Cg.mOf p.gl g))) ∧ Kp F w b c (kgQ p g s) W' := by
  obtain ⟨K, h, f⟩ := h
  have e := h.pl
  have q := h.pw
  have hb := h.bt
  subst e hb
  refine (killg_any h.k (h.w hc) g hg s).mono ?_
  rintro e W' ⟨rfl, k2⟩
  exact ⟨rfl, h.step f k2 rfl ⟨q.pw.pids (kgL_pids _ _ _), q.gs, q.la, q.gl⟩⟩
theorem mono_p {w : World} {b c : Nat} {p : Pl} {W : World} (h : Kp F w b c p W) : Calls Tryz.prog 37 #[kptr b] W fun e W' => e = .returned (.int .i64 p.mono) ∧ W' = W := by
  obtain ⟨K, h, f⟩ := h
  have e := h.pl
  have hb := h.bt
  subst e hb
  exact mono_any h.k
theorem wall_p {w : World} {b c : Nat} {p : Pl} {W : World} (h : Kp F w b c p W) : Calls Tryz.prog 38 #[kptr b] W fun e W' => e = .returned (.int .i64 p.wall) ∧ W' = W := by
  obtain ⟨K, h, f⟩ := h
  have e := h.pl
  have hb := h.bt
  subst e hb
  exact wall_any h.k
theorem jump_p {w : World} {b c : Nat} {p : Pl} {W : World} (h : Kp F w b c p W) (x : Int) : Calls Tryz.prog 33 #[kptr b, .int .i64 x] W fun e W' => e = .returned (.tuple #[]) ∧ Kp F w b c { p with wall := x } W' := by
  obtain ⟨K, h, f⟩ := h
  have e := h.pl
  have q := h.pw
  have hb := h.bt
  subst e hb
  refine (jump_any h.k x).mono ?_
  rintro e W' ⟨rfl, k2⟩
  exact ⟨rfl, h.step f k2 rfl ⟨q.pw, q.gs, q.la, q.gl⟩⟩
theorem ticks_p (b : Nat) (W : World) (x : Int) (hx : x < 0) : Calls Tryz.prog 31 #[kptr b, .int .i64 x] W fun e W' => e = .returned (.int .i64 10) ∧ W' = W := tick_no (K := ⟨0, 0, 0, [], ⟨b, 0, 0, 0, .pointer none, 0, [], [], fun _ => none⟩, 0, 0⟩) x hx
theorem tick_p {w : World} {b c : Nat} {p : Pl} {W : World} (h : Kp F w b c p W) (m0 : -9223372036854775808 ≤ p.mono) (m1 : p.mono ≤ 9223372036854775807) (w0 : -9223372036854775808 ≤ p.wall) (w1 : p.wall ≤ 9223372036854775807) (x : Int) (hx : 0 ≤ x) (hx' : x ≤ 9223372036854775807) :
    Calls Tryz.prog 31 #[kptr b, .int .i64 x] W fun e W' => e = .returned (.int .i64 0) ∧ Kp F w b c { p with mono := addS p.mono x, wall := addS p.wall x } W' := by
  obtain ⟨K, h, f⟩ := h
  have e := h.pl
  have q := h.pw
  have hb := h.bt
  subst e hb
  refine (tick_any h.k ⟨m0, m1, w0, w1⟩ x hx hx').mono ?_
  rintro e W' ⟨rfl, k2⟩
  exact ⟨rfl, h.step f k2 rfl ⟨q.pw, q.gs, q.la, q.gl⟩⟩
end Go.Proofs.YtgienkdfodjoiaaGreat
