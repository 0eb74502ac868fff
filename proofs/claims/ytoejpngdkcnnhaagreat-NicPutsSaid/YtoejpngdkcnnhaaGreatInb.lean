/-
  The program's inbox in memory: its block, its ring of packets, its two maps; what a call keeps.
  The program's inbox: what it keeps, as a value; what only reads.
  The program's inbox: how many are in it, may be, wait; a source's next number.
  The program's inbox: of those that wait, which one would be told; a loop over a map in whatever row.
  The program's inbox: a new one; whether one would be told; the first one, told and taken.
  The program's inbox: a new one; one that isn't there: a packet that comes, one that is told.
  The program's inbox: a packet comes.
  The program's inbox: a packet is told.
  A law's inbox since a world, beside the law's other blocks: its calls; one that comes too early.
-/
import Derived.Test.YtoejpngdkcnnhaaGreatRing
import Derived.StillTailTactics

namespace Go.Proofs.YtoejpngdkcnnhaaGreat.I
open Go.RowKit
open Go.Maps (Keyed)

/-- A packet's source and number, as a key; what lies in the maps. -/
abbrev mkv (s q : Int) : Value := .agg #[.int .i64 s, .int .i64 q]
def ent (p : Pk) : Value × Value := (mkv p.s p.q, pkv p)
def nent (x : Int × Int) : Value × Value := (.int .i64 x.1, .int .i64 x.2)
theorem Tryz.markArr : WideMaps.ArrKey Tryz.prog 121 3 2 := ⟨Tryz.underlying121, by kernel_rfl, by kernel_rfl, by kernel_rfl⟩
theorem markLaw : Keyed Tryz.prog 121 := Keyed.of_law Tryz.markArr.law
theorem intLaw : Keyed Tryz.prog 3 := Maps.int_keyed Tryz.underlying3
theorem Tryz.someTypes : ∃ m, Tryz.prog.types.size = m + 1 := ⟨Tryz.prog.types.size - 1, by have : 0 < Tryz.prog.types.size := of_decide_eq_true (by kernel_rfl); omega⟩
theorem wf_small {a : Int} (h0 : -1000000 ≤ a) (h1 : a ≤ 1000000) : (Lit.int .i64 a).wf = true := WalkArith.wf_i64 (by omega)
theorem mark_kd {s q : Int} (hs : (Lit.int .i64 s).wf = true) (hq : (Lit.int .i64 q).wf = true) : Kd Tryz.prog 121 (mkv s q) := ⟨_, WideMaps.keyOf_pair Tryz.markArr Tryz.underlying3 Tryz.someTypes hs hq⟩
theorem int_kd {s : Int} (hs : (Lit.int .i64 s).wf = true) : Kd Tryz.prog 3 (.int .i64 s) := ⟨_, Maps.keyOf_int_mk Tryz.underlying3 hs⟩
theorem inR_kd {p : Pk} (h : inR p) : Kd Tryz.prog 121 (mkv p.s p.q) := by
  obtain ⟨h1, h2, h3, h4⟩ := h
  exact mark_kd (wf_small (by omega) (by omega)) (wf_small (by omega) (by omega))
theorem ents_kd {W : List Pk} (h : ∀ p ∈ W, inR p) : Kds Tryz.prog 121 (W.map ent) := fun x hx => by
  obtain ⟨p, hp, rfl⟩ := List.mem_map.1 hx
  exact inR_kd (h p hp)
theorem nents_kd {N : List (Int × Int)} (h : ∀ x ∈ N, 0 ≤ x.1 ∧ x.1 < 4096) : Kds Tryz.prog 3 (N.map nent) := fun y hy => by
  obtain ⟨x, hx, rfl⟩ := List.mem_map.1 hy
  have := h x hx
  exact int_kd (wf_small (by omega) (by omega))
theorem mkv_inj {s q s' q' : Int} (h : mkv s q = mkv s' q') : s = s' ∧ q = q' := by
  simpa using h
theorem zero_int (w : World) : (zeroValue 3).run Tryz.prog w = .ok (.int .i64 0) w := by kernel_rfl
theorem zero_pk (w : World) : (zeroValue 61).run Tryz.prog w = .ok (pkv zpk) w := by kernel_rfl

section
variable {w : World} {b : Nat}
theorem nents_apart {N : List (Int × Int)} (h : MpAt w b (N.map nent)) : N.Pairwise (fun x y => x.1 ≠ y.1) := by
  have := h.apart
  rw [List.pairwise_map] at this
  exact this.imp fun hne e => hne (by simp only [nent, e])
/-- A source's next number. -/
theorem look_next {N : List (Int × Int)} (h : MpAt w b (N.map nent)) (hk : ∀ x ∈ N, 0 ≤ x.1 ∧ x.1 < 4096) {s : Int} (hs : (Lit.int .i64 s).wf = true) :
    (Instr.lookup 98 (.map (some b)) (.int .i64 s) false).run Tryz.prog w = .ok (.int .i64 (nxL N s)) w := by
  by_cases hin : ∃ x ∈ N, x.1 = s
  · obtain ⟨x, hx, rfl⟩ := hin
    rw [nxL_in (nents_apart h) hx]
    exact h.look_in intLaw Tryz.underlying98 (nents_kd hk) (key := .int .i64 x.1) (v := .int .i64 x.2) (List.mem_map.2 ⟨x, hx, rfl⟩) false
  · have hn : ∀ x ∈ N, x.1 ≠ s := fun x hx e => hin ⟨x, hx, e⟩
    rw [nxL_out hn]
    refine h.look_out intLaw Tryz.underlying98 (nents_kd hk) (int_kd hs) (fun y hy e => ?_) (zero_int w) false
    obtain ⟨x, hx, rfl⟩ := List.mem_map.1 hy
    simp only [nent, Value.int.injEq, true_and] at e
    exact hn x hx e
theorem put_next {N : List (Int × Int)} (h : MpAt w b (N.map nent)) (hk : ∀ x ∈ N, 0 ≤ x.1 ∧ x.1 < 4096) {s q : Int} (h0 : 0 ≤ s) (h1 : s < 4096) :
    ∃ w' N', (Instr.mapUpdate 98 (.map (some b)) (.int .i64 s) (.int .i64 q)).run Tryz.prog w = .ok () w' ∧ MpAt w' b (N'.map nent) ∧ w.mapTurned w' b ∧ (∀ x ∈ N', 0 ≤ x.1 ∧ x.1 < 4096) ∧ ∀ x, nxL N' x = upd (nxL N) s q x := by
  by_cases hin : ∃ x ∈ N, x.1 = s
  · obtain ⟨⟨s', q0⟩, hx, rfl⟩ := hin
    obtain ⟨A, B, rfl⟩ := List.append_of_mem hx
    have hap := nents_apart h
    have hkd := nents_kd hk
    rw [List.map_append, List.map_cons] at h hkd
    obtain ⟨w', r1, r2, r3⟩ := h.put_old (v := .int .i64 q) intLaw Tryz.underlying98 hkd
    refine ⟨w', A ++ (s', q) :: B, r1, by rw [List.map_append, List.map_cons]; exact r2, r3, fun x hx => ?_, fun x => nxL_put hap x⟩
    rcases List.mem_append.1 hx with hx | hx
    · exact hk x (List.mem_append_left _ hx)
    · rcases List.mem_cons.1 hx with rfl | hx
      · exact hk (s', q0) (by simp)
      · exact hk x (by simp [hx])
  · have hn : ∀ x ∈ N, x.1 ≠ s := fun x hx e => hin ⟨x, hx, e⟩
    obtain ⟨w', r1, r2, r3⟩ := h.put_new (v := .int .i64 q) intLaw Tryz.underlying98 (nents_kd hk) (int_kd (wf_small (a := s) (by omega) (by omega))) (fun y hy e => by
      obtain ⟨x, hx, rfl⟩ := List.mem_map.1 hy
      simp only [nent, Value.int.injEq, true_and] at e
      exact hn x hx e)
    refine ⟨w', N ++ [(s, q)], r1, by rw [List.map_append]; exact r2, r3, fun x hx => ?_, fun x => nxL_snoc hn x⟩
    rcases List.mem_append.1 hx with hx | hx
    · exact hk x hx
    · rw [List.mem_singleton.1 hx]; exact ⟨h0, h1⟩
/-- A packet that waits, or none. -/
theorem look_wait {W : List Pk} (h : MpAt w b (W.map ent)) (hr : ∀ p ∈ W, inR p) {p : Pk} (hp : p ∈ W) (c : Bool) :
    (Instr.lookup 97 (.map (some b)) (mkv p.s p.q) c).run Tryz.prog w = .ok (if c then .tuple #[pkv p, .bool true] else pkv p) w :=
  h.look_in markLaw Tryz.underlying97 (ents_kd hr) (List.mem_map.2 ⟨p, hp, rfl⟩) c
theorem look_has {W : List Pk} (h : MpAt w b (W.map ent)) (hr : ∀ p ∈ W, inR p) {p : Pk} (hp : inR p) :
    ∃ x, (Instr.lookup 97 (.map (some b)) (mkv p.s p.q) true).run Tryz.prog w = .ok (.tuple #[pkv x, .bool (has W p)]) w := by
  cases hh : has W p
  · refine ⟨zpk, h.look_out markLaw Tryz.underlying97 (ents_kd hr) (inR_kd hp) (fun y hy e => ?_) (zero_pk w) true⟩
    obtain ⟨x, hx, rfl⟩ := List.mem_map.1 hy
    exact has_not.1 hh x hx (mkv_inj e)
  · obtain ⟨r, h1, h2, h3⟩ := has_iff.1 hh
    refine ⟨r, ?_⟩
    have := look_wait h hr h1 true
    rw [h2, h3] at this
    exact this
theorem put_wait {W : List Pk} (h : MpAt w b (W.map ent)) (hr : ∀ p ∈ W, inR p) {p : Pk} (hp : inR p) (hh : has W p = false) :
    ∃ w', (Instr.mapUpdate 97 (.map (some b)) (mkv p.s p.q) (pkv p)).run Tryz.prog w = .ok () w' ∧ MpAt w' b ((W ++ [p]).map ent) ∧ w.mapTurned w' b := by
  obtain ⟨w', r1, r2, r3⟩ := h.put_new (v := pkv p) markLaw Tryz.underlying97 (ents_kd hr) (inR_kd hp) (fun y hy e => by
    obtain ⟨x, hx, rfl⟩ := List.mem_map.1 hy
    exact has_not.1 hh x hx (mkv_inj e))
  exact ⟨w', r1, by rw [List.map_append]; exact r2, r3⟩
theorem del_wait {W : List Pk} (h : MpAt w b (W.map ent)) (hr : ∀ p ∈ W, inR p) (hW : Apart W) {p : Pk} (hp : p ∈ W) (ty : TypeId) :
    ∃ w', (Builtin.delete_ #[97, 121] ty #[.map (some b), mkv p.s p.q]).run Tryz.prog w = .ok (.tuple #[]) w' ∧ MpAt w' b ((strike W p).map ent) ∧ w.mapTurned w' b := by
  obtain ⟨A, B, e⟩ := List.append_of_mem hp
  have hkd := ents_kd hr
  rw [strike_cut hW e]
  rw [e, List.map_append, List.map_cons] at h hkd
  obtain ⟨w', r1, r2, r3⟩ := h.del (key := mkv p.s p.q) (v0 := pkv p) markLaw Tryz.underlying97 hkd ty
  exact ⟨w', r1, by rw [List.map_append]; exact r2, r3⟩
end

/-- What an inbox keeps, as cells. -/
abbrev sti (r mb nb : Nat) : Array Value := #[.pointer (some ⟨r, 0, none⟩), .map (some mb), .map (some nb)]
abbrev stz : Array Value := #[.pointer none, .map none, .map none]
structure InAt (w : World) (b : Nat) (S : IS) (r pr mr : Nat) (sr : RP.RingSt) (mb nb : Nat) (N : List (Int × Int)) : Prop where
  blk : Bk w b (sti r mb nb) 102
  rg : RP.RingAt w r pr mr sr
  mp : MpAt w mb (S.W.map ent)
  np : MpAt w nb (N.map nent)
  ne : b ≠ r ∧ b ≠ pr
  nm : mb ≠ b ∧ mb ≠ r ∧ mb ≠ pr ∧ mb ≠ nb
  nn : nb ≠ b ∧ nb ≠ r ∧ nb ≠ pr
  room : sr.room = (S.n : Int)
  laid : sr.laid = false
  xs : sr.xs = S.L
  nx : ∀ s, nxL N s = S.nx s
  nk : ∀ x ∈ N, 0 ≤ x.1 ∧ x.1 < 4096
/-- The blocks of an inbox. -/
def fi (b r pr mb nb : Nat) : Nat → Prop := fun g => g = b ∨ g = r ∨ g = pr ∨ g = mb ∨ g = nb
section
variable {w : World} {b : Nat} {S : IS} {r pr mr : Nat} {sr : RP.RingSt} {mb nb : Nat} {N : List (Int × Int)}
theorem InAt.lt (h : InAt w b S r pr mr sr mb nb N) : ∀ g, fi b r pr mb nb g → g < w.heap.size := by
  rintro g (rfl | rfl | rfl | rfl | rfl)
  · exact h.blk.lt
  · exact h.rg.lt.1
  · exact h.rg.lt.2
  · exact h.mp.lt
  · exact h.np.lt
theorem InAt.keep {w' : World} (h : InAt w b S r pr mr sr mb nb N) (key : ∀ g, fi b r pr mb nb g → w'.heap[g]? = w.heap[g]?) : InAt w' b S r pr mr sr mb nb N :=
  { h with
    blk := by unfold Bk; rw [key b (Or.inl rfl)]; exact h.blk
    rg := h.rg.keep (key r (Or.inr (Or.inl rfl))) (key pr (Or.inr (Or.inr (Or.inl rfl))))
    mp := h.mp.keep (key mb (Or.inr (Or.inr (Or.inr (Or.inl rfl)))))
    np := h.np.keep (key nb (Or.inr (Or.inr (Or.inr (Or.inr rfl))))) }
theorem InAt.next {w' : World} (h : InAt w b S r pr mr sr mb nb N) (hb : Below w.heap.size w w') : InAt w' b S r pr mr sr mb nb N := h.keep fun g hg => hb.block g (h.lt g hg)
/-- The ring has turned. -/
theorem InAt.step {w' : World} {sr' : RP.RingSt} {L' : List Pk} (h : InAt w b S r pr mr sr mb nb N) (s : RP.Stp r pr w w' sr') (k1 : sr'.room = sr.room) (k2 : sr'.laid = false) (k3 : sr'.xs = L') :
    ∃ pr' mr', InAt w' b { S with L := L' } r pr' mr' sr' mb nb N ∧ Gr (fi b r pr mb nb) w w' (fi b r pr' mb nb) := by
  obtain ⟨p', m', hr, hf, hp⟩ := s
  have hb := h.blk.lt
  have hm := h.mp.lt
  have hn := h.np.lt
  have off : ∀ g, g < w.heap.size → g ≠ pr → g ≠ p' := fun g h1 h2 => by
    rcases hp with rfl | hp
    · exact h2
    · omega
  refine ⟨p', m', { h with
    blk := ?_
    rg := hr
    mp := h.mp.keep (hf.block mb hm h.nm.2.1 h.nm.2.2.1)
    np := h.np.keep (hf.block nb hn h.nn.2.1 h.nn.2.2)
    ne := ⟨h.ne.1, off b hb h.ne.2⟩
    nm := ⟨h.nm.1, h.nm.2.1, off mb hm h.nm.2.2.1, h.nm.2.2.2⟩
    nn := ⟨h.nn.1, h.nn.2.1, off nb hn h.nn.2.2⟩
    room := k1.trans h.room
    laid := k2
    xs := k3 }, ⟨hf.os, hf.tape, hf.output, hf.size, fun g hg hF => hf.block g hg (fun e => hF (Or.inr (Or.inl e))) (fun e => hF (Or.inr (Or.inr (Or.inl e)))), ?_⟩⟩
  · unfold Bk
    rw [hf.block b hb h.ne.1 h.ne.2]
    exact h.blk
  · rintro g (e | e | e | e | e)
    · exact Or.inl (Or.inl e)
    · exact Or.inl (Or.inr (Or.inl e))
    · rcases hp with hp | hp
      · exact Or.inl (Or.inr (Or.inr (Or.inl (e.trans hp))))
      · exact Or.inr (e ▸ hp)
    · exact Or.inl (Or.inr (Or.inr (Or.inr (Or.inl e))))
    · exact Or.inl (Or.inr (Or.inr (Or.inr (Or.inr e))))
theorem turned_gr {w' : World} {m : Nat} {F : Nat → Prop} (h : w.mapTurned w' m) (hF : F m) : Gr F w w' F := by
  have hg := h.grown
  exact ⟨hg.os, hg.tape, hg.output, hg.size, fun g hlt hn => hg.block g hlt fun e => hn (by cases e; exact hF), fun _ h => Or.inl h⟩
/-- What waits has turned. -/
theorem InAt.wait {w' : World} {W' : List Pk} (h : InAt w b S r pr mr sr mb nb N) (ht : w.mapTurned w' mb) (hm : MpAt w' mb (W'.map ent)) : InAt w' b { S with W := W' } r pr mr sr mb nb N ∧ Gr (fi b r pr mb nb) w w' (fi b r pr mb nb) := by
  have hg := ht.grown
  have key : ∀ g, g < w.heap.size → g ≠ mb → w'.heap[g]? = w.heap[g]? := fun g h1 h2 => hg.block g h1 fun e => h2 (by cases e; rfl)
  refine ⟨{ h with
    blk := ?_
    rg := h.rg.keep (key r h.rg.lt.1 h.nm.2.1.symm) (key pr h.rg.lt.2 h.nm.2.2.1.symm)
    mp := hm
    np := h.np.keep (key nb h.np.lt h.nm.2.2.2.symm) }, turned_gr ht (Or.inr (Or.inr (Or.inr (Or.inl rfl))))⟩
  unfold Bk
  rw [key b h.blk.lt h.nm.1.symm]
  exact h.blk
/-- A next number has turned. -/
theorem InAt.number {w' : World} {N' : List (Int × Int)} {nx' : Int → Int} (h : InAt w b S r pr mr sr mb nb N) (ht : w.mapTurned w' nb) (hm : MpAt w' nb (N'.map nent)) (hx : ∀ s, nxL N' s = nx' s) (hk : ∀ x ∈ N', 0 ≤ x.1 ∧ x.1 < 4096) :
    InAt w' b { S with nx := nx' } r pr mr sr mb nb N' ∧ Gr (fi b r pr mb nb) w w' (fi b r pr mb nb) := by
  have hg := ht.grown
  have key : ∀ g, g < w.heap.size → g ≠ nb → w'.heap[g]? = w.heap[g]? := fun g h1 h2 => hg.block g h1 fun e => h2 (by cases e; rfl)
  refine ⟨{ h with
    blk := ?_
    rg := h.rg.keep (key r h.rg.lt.1 h.nn.2.1.symm) (key pr h.rg.lt.2 h.nn.2.2.symm)
    mp := h.mp.keep (key mb h.mp.lt h.nm.2.2.2)
    np := hm
    nx := hx
    nk := hk }, turned_gr ht (Or.inr (Or.inr (Or.inr (Or.inr rfl))))⟩
  unfold Bk
  rw [key b h.blk.lt h.nn.1.symm]
  exact h.blk
end
/-- An inbox: its block, what it is as lists, its blocks. -/
def In (w : World) (b : Nat) (S : IS) (F : Nat → Prop) : Prop := IOk S ∧ ∃ r pr mr sr mb nb N, InAt w b S r pr mr sr mb nb N ∧ F = fi b r pr mb nb
section
variable {w : World} {b : Nat} {S : IS} {F : Nat → Prop}
theorem In.ok (h : In w b S F) : IOk S := h.1
theorem In.lt (h : In w b S F) : ∀ g, F g → g < w.heap.size := by
  obtain ⟨_, r, pr, mr, sr, mb, nb, N, h, rfl⟩ := h
  exact h.lt
theorem In.own (h : In w b S F) : F b := by
  obtain ⟨_, r, pr, mr, sr, mb, nb, N, h, rfl⟩ := h
  exact Or.inl rfl
theorem In.kept {w' : World} {q : Option Nat} (h : In w b S F) (hg : w.grownBy w' q) (hr : ∀ g, q = some g → ¬ F g) : In w' b S F := by
  obtain ⟨ok, r, pr, mr, sr, mb, nb, N, h, rfl⟩ := h
  exact ⟨ok, r, pr, mr, sr, mb, nb, N, h.keep fun g hf => hg.block g (h.lt g hf) fun e => hr g e.symm hf, rfl⟩
theorem In.next {w' : World} (h : In w b S F) (hb : Below w.heap.size w w') : In w' b S F := h.kept (q := none) ⟨hb.os, hb.tape, hb.output, hb.size, fun k hk _ => hb.block k hk⟩ (fun _ e => by cases e)
theorem In.far {k j : Nat} {x : Value} (h : In w b S F) (hk : ¬ F k) : In (w.setCell ⟨k, j, none⟩ x) b S F := h.kept (q := some k) ⟨rfl, rfl, rfl, by simp, fun i _ hne => Below.heap_setCell w ⟨k, j, none⟩ x i fun e => hne (by rw [e])⟩ (fun _ e => by cases e; exact hk)
theorem In.gr {w' : World} {G G' : Nat → Prop} (h : In w b S F) (hg : Gr G w w' G') (hF : ∀ g, F g → ¬ G g) : In w' b S F := by
  obtain ⟨ok, r, pr, mr, sr, mb, nb, N, h, rfl⟩ := h
  exact ⟨ok, r, pr, mr, sr, mb, nb, N, h.keep fun g hf => hg.block g (h.lt g hf) (hF g hf), rfl⟩
end
end Go.Proofs.YtoejpngdkcnnhaaGreat.I

namespace Go.Proofs.YtoejpngdkcnnhaaGreat.I.RP
open Go.RowKit

theorem rgnil_len (w : World) : Calls Tryz.prog 77 #[.pointer none] w fun e w' => e = .returned (.int .i64 0) ∧ w = w' := by
  go_enter Tryz.func77, Tryz.ntmps77
  go_wp2
  go_ret
  exact ⟨rfl, rfl⟩
theorem rgnil_room (w : World) : Calls Tryz.prog 62 #[.pointer none] w fun e w' => e = .returned (.int .i64 0) ∧ w = w' := by
  go_enter Tryz.func62, Tryz.ntmps62
  go_wp2
  go_ret
  exact ⟨rfl, rfl⟩
theorem rgnil_peek (w : World) : Calls Tryz.prog 81 #[.pointer none] w fun e w' => e = .returned (.tuple #[pkv zc, .int .i64 1]) ∧ Below w.heap.size w w' := by
  obtain ⟨q1, q2, q3⟩ := two_new w 61 #[.int .i64 0, .int .i64 0, .int .i64 0, .string ⟨#[]⟩] #[.int .i64 0, .int .i64 0, .int .i64 0, .string ⟨#[]⟩]
  have y0 := cell_of q1 0
  have y1 := cell_of q1 1
  have y2 := cell_of q1 2
  have y3 := cell_of q1 3
  have z0 := frozen_of q1 0
  have z1 := frozen_of q1 1
  have z2 := frozen_of q1 2
  have z3 := frozen_of q1 3
  have x0 := cell_of q2 0
  have x1 := cell_of q2 1
  have x2 := cell_of q2 2
  have x3 := cell_of q2 3
  simp only [List.getElem?_toArray, List.getElem?_cons_zero, List.getElem?_cons_succ] at y0 y1 y2 y3 x0 x1 x2 x3
  have B0 : Hid (Below w.heap.size w ((w.alloc (.cells #[.int .i64 0, .int .i64 0, .int .i64 0, .string ⟨#[]⟩] 61)).alloc (.cells #[.int .i64 0, .int .i64 0, .int .i64 0, .string ⟨#[]⟩] 61))) := q3
  have yy := heap_set (heap_set (heap_set (heap_set q1 0 (.int .i64 0)) 1 (.int .i64 0)) 2 (.int .i64 0)) 3 (.string ⟨#[]⟩)
  have Y0 := (cell_of yy 0).trans (by simp : _ = some (Value.int .i64 0))
  have Y1 := (cell_of yy 1).trans (by simp : _ = some (Value.int .i64 0))
  have Y2 := (cell_of yy 2).trans (by simp : _ = some (Value.int .i64 0))
  have Y3 := (cell_of yy 3).trans (by simp : _ = some (Value.string ⟨#[]⟩))
  clear q1 q2 q3 yy
  simp only [zc]
  go_enter Tryz.func81, Tryz.ntmps81
  go_upto_region 2 with fail
  generalize (w.alloc (.cells #[.int .i64 0, .int .i64 0, .int .i64 0, .string ⟨#[]⟩] 61)).alloc (.cells #[.int .i64 0, .int .i64 0, .int .i64 0, .string ⟨#[]⟩] 61) = v at *
  go_wp2
  refine bodyPost_ret (v := .tuple #[.agg #[.int .i64 0, .int .i64 0, .int .i64 0, .string ⟨#[]⟩], .int .i64 1]) (by simp [results, Tryz.results81, go_sem, Y0, Y1, Y2, Y3]; try rfl) rfl ⟨rfl, (((B0.out.setCell (Nat.le_refl _) _).setCell (Nat.le_refl _) _).setCell (Nat.le_refl _) _).setCell (Nat.le_refl _) _⟩
end Go.Proofs.YtoejpngdkcnnhaaGreat.I.RP
namespace Go.Proofs.YtoejpngdkcnnhaaGreat.I
open Go.RowKit

theorem inRange_any (n e : Int) (w : World) : Calls Tryz.prog 61 #[.int .i64 n, .int .i64 e] w fun x w' => x = .returned (.bool (decide (0 ≤ n) && decide (n < e))) ∧ w = w' := by
  by_cases h0 : 0 ≤ n <;> by_cases h1 : n < e <;> simp only [h0, h1, decide_true, decide_false, Bool.and_true, Bool.and_false]
  all_goals
    go_enter Tryz.func61, Tryz.ntmps61
    go_wp2
    go_ret
    exact ⟨rfl, rfl⟩
theorem ilook_nil (w : World) : Calls Tryz.prog 60 #[.pointer none] w fun e w' => e = .returned (.agg stz) ∧ Below w.heap.size w w' := by
  have B0 : Hid (Below w.heap.size w (w.alloc (.cells stz 100))) := (Below.refl _ _).alloc (Nat.le_refl _) _
  have N0 : Hid (Bk (w.alloc (.cells stz 100)) w.heap.size stz 100) := Bk.new _ _ _
  simp only [stz] at *
  go_enter Tryz.func60, Tryz.ntmps60
  go_upto_region 1 with fail
  generalize w.alloc (.cells #[.pointer none, .map none, .map none] 100) = v at *
  have d0 := N0.out.cell 0
  have d1 := N0.out.cell 1
  have d2 := N0.out.cell 2
  have z0 := N0.out.free 0
  have z1 := N0.out.free 1
  have z2 := N0.out.free 2
  simp only [List.getElem?_toArray, List.getElem?_cons_zero, List.getElem?_cons_succ] at d0 d1 d2
  have Y := ((N0.out.set 0 (.pointer none)).set 1 (.map none)).set 2 (.map none)
  have y0 := Y.cell 0
  have y1 := Y.cell 1
  have y2 := Y.cell 2
  simp at y0 y1 y2
  clear N0 Y
  go_wp2
  refine bodyPost_ret (v := .agg #[.pointer none, .map none, .map none]) ?_ rfl ?_
  · simp [results, Tryz.results60, go_sem, y0, y1, y2]
  · exact ⟨rfl, ((B0.out.setCell (Nat.le_refl _) _).setCell (Nat.le_refl _) _).setCell (Nat.le_refl _) _⟩
theorem ilook_blk {w : World} {b r mb nb : Nat} (h : Bk w b (sti r mb nb) 102) :
    Calls Tryz.prog 60 #[.pointer (some ⟨b, 0, none⟩)] w fun e w' => e = .returned (.agg (sti r mb nb)) ∧ Below w.heap.size w w' := by
  have B0 : Hid (Below w.heap.size w (w.alloc (.cells stz 100))) := (Below.refl _ _).alloc (Nat.le_refl _) _
  have N0 : Hid (Bk (w.alloc (.cells stz 100)) w.heap.size stz 100) := Bk.new _ _ _
  have h1 := h.alloc (.cells stz 100)
  have hne : b ≠ w.heap.size := by have := h.lt; omega
  clear h
  simp only [stz, sti] at *
  go_enter Tryz.func60, Tryz.ntmps60
  go_upto_region 1 with fail
  generalize w.alloc (.cells #[.pointer none, .map none, .map none] 100) = v at *
  obtain ⟨nb', hnb⟩ : ∃ x, w.heap.size = x := ⟨_, rfl⟩
  have HB : Hid (w.heap.size = nb') := hnb
  rw [hnb] at B0 N0 hne ⊢
  clear hnb
  have c0 := h1.cell 0
  have c1 := h1.cell 1
  have c2 := h1.cell 2
  have d0 := N0.out.cell 0
  have d1 := N0.out.cell 1
  have d2 := N0.out.cell 2
  have z0 := N0.out.free 0
  have z1 := N0.out.free 1
  have z2 := N0.out.free 2
  simp only [List.getElem?_toArray, List.getElem?_cons_zero, List.getElem?_cons_succ] at c0 c1 c2 d0 d1 d2
  have Y := ((N0.out.set 0 (.pointer (some ⟨r, 0, none⟩))).set 1 (.map (some mb))).set 2 (.map (some nb))
  have y0 := Y.cell 0
  have y1 := Y.cell 1
  have y2 := Y.cell 2
  simp at y0 y1 y2
  clear N0 Y h1
  go_wp2
  refine bodyPost_ret (v := .agg #[.pointer (some ⟨r, 0, none⟩), .map (some mb), .map (some nb)]) ?_ rfl ?_
  · simp [results, Tryz.results60, go_sem, y0, y1, y2]
  · exact ⟨rfl, by rw [HB.out]; exact ((B0.out.setCell (Nat.le_refl _) _).setCell (Nat.le_refl _) _).setCell (Nat.le_refl _) _⟩
/-- A part of what is kept. -/
theorem fld0 (a b c : Value) (v : World) : (Instr.field 100 (.agg #[a, b, c]) 0).run Tryz.prog v = .ok a v := by kernel_rfl
theorem fld1 (a b c : Value) (v : World) : (Instr.field 100 (.agg #[a, b, c]) 1).run Tryz.prog v = .ok b v := by kernel_rfl
theorem fld2 (a b c : Value) (v : World) : (Instr.field 100 (.agg #[a, b, c]) 2).run Tryz.prog v = .ok c v := by kernel_rfl
end Go.Proofs.YtoejpngdkcnnhaaGreat.I

namespace Go.Proofs.YtoejpngdkcnnhaaGreat.I
open Go.RowKit

theorem inbox_waits {w : World} {b : Nat} {S : IS} {F : Nat → Prop} (h : In w b S F) : Calls Tryz.prog 40 #[.pointer (some ⟨b, 0, none⟩)] w fun e w' => e = .returned (.int .i64 (S.W.length : Int)) ∧ Below w.heap.size w w' := by
  obtain ⟨ok, r, pr, mr, sr, mb, nb, N, hA, rfl⟩ := h
  have K := ilook_blk hA.blk
  have L : Hid (∀ (V : World) (ty : TypeId), Below w.heap.size w V → (Builtin.len_ #[97] ty #[.map (some mb)]).run Tryz.prog V = .ok (.int .i64 (S.W.length : Int)) V) := show _ from fun V ty hV => by
    have := (hA.next hV).mp.len Tryz.underlying97 ty
    rwa [List.length_map] at this
  obtain ⟨Y, hY⟩ : ∃ Y : Int, Y = S.W.length := ⟨_, rfl⟩
  rw [← hY] at L ⊢
  clear hA hY ok
  simp only [sti] at *
  have f1 := fld1 (.pointer (some ⟨r, 0, none⟩)) (.map (some mb)) (.map (some nb))
  go_enter Tryz.func40, Tryz.ntmps40
  go_wp2_with (first
    | (go_at_call 60; with_reducible refine K.mono ?_; rintro e w1 ⟨rfl, hb1⟩)
    | (at_len; refine wpList_mlen rfl _ _ rfl rfl (L.out _ _ hb1) ?_))
  go_ret
  exact ⟨rfl, hb1⟩
theorem inil_waits (w : World) : Calls Tryz.prog 40 #[.pointer none] w fun e w' => e = .returned (.int .i64 0) ∧ Below w.heap.size w w' := by
  have K := ilook_nil w
  have L : ∀ (V : World) (ty : TypeId), (Builtin.len_ #[97] ty #[.map none]).run Tryz.prog V = .ok (.int .i64 0) V := fun V ty => Maps.len_nil Tryz.underlying97 ty
  simp only [stz] at *
  have f1 := fld1 (.pointer none) (.map none) (.map none)
  go_enter Tryz.func40, Tryz.ntmps40
  go_wp2_with (first
    | (go_at_call 60; with_reducible refine K.mono ?_; rintro e w1 ⟨rfl, hb1⟩)
    | (at_len; refine wpList_mlen rfl _ _ rfl rfl (L _ _) ?_))
  go_ret
  exact ⟨rfl, hb1⟩
end Go.Proofs.YtoejpngdkcnnhaaGreat.I

namespace Go.Proofs.YtoejpngdkcnnhaaGreat.I
open Go.RowKit

def fs (o : Option Pk) : Int := match o with | none => 0 | some p => p.s
def fq (o : Option Pk) : Int := match o with | none => 0 | some p => p.q
abbrev fstV (o : Option Pk) : Value := .tuple #[mkv (fs o) (fq o), .bool o.isSome]
/-- The best of those that have come by. -/
structure Bst (nx : Int → Int) (W left : List Pk) (o : Option Pk) : Prop where
  no : o = none → ∀ p ∈ W, p.q = nx p.s → p ∈ left
  yes : ∀ r, o = some r → r ∈ W ∧ r.q = nx r.s ∧ ∀ p ∈ W, p.q = nx p.s → p ∈ left ∨ r.s ≤ p.s
theorem Bst.start (nx : Int → Int) (W : List Pk) : Bst nx W W none := ⟨fun _ p hp _ => hp, fun _ h => (by cases h)⟩
theorem Bst.done {nx : Int → Int} {W : List Pk} {o : Option Pk} (h : Bst nx W [] o) (hW : Apart W) : pick nx W = o := by
  cases o with
  | none => exact pick_no fun p hp hq => (by have := h.no rfl p hp hq; cases this)
  | some r =>
    obtain ⟨h1, h2, h3⟩ := h.yes r rfl
    exact pick_uniq hW h1 h2 fun p hp hq => (h3 p hp hq).elim (fun c => by cases c) id
theorem Bst.better {nx : Int → Int} {W A B : List Pk} {x : Pk} {o : Option Pk} (h : Bst nx W (A ++ x :: B) o) (hx : x ∈ W) (hq : x.q = nx x.s) (hb : ∀ r, o = some r → x.s < r.s) : Bst nx W (A ++ B) (some x) := by
  refine ⟨fun e => (by cases e), fun r e => ?_⟩
  cases e
  refine ⟨hx, hq, fun p hp hpq => ?_⟩
  have key : p ∈ A ++ x :: B ∨ ∃ r, o = some r ∧ r.s ≤ p.s := by
    cases o with
    | none => exact Or.inl (h.no rfl p hp hpq)
    | some r => exact ((h.yes r rfl).2.2 p hp hpq).imp id fun c => ⟨r, rfl, c⟩
  rcases key with c | ⟨r, hr, c⟩
  · simp only [List.mem_append, List.mem_cons] at c ⊢
    rcases c with c | rfl | c
    · exact Or.inl (Or.inl c)
    · exact Or.inr (Int.le_refl _)
    · exact Or.inl (Or.inr c)
  · have := hb r hr
    exact Or.inr (by omega)
theorem Bst.other {nx : Int → Int} {W A B : List Pk} {x : Pk} {o : Option Pk} (h : Bst nx W (A ++ x :: B) o) (hn : x.q = nx x.s → ∃ r, o = some r ∧ r.s ≤ x.s) : Bst nx W (A ++ B) o := by
  have sub : ∀ p, p ∈ A ++ x :: B → p ∈ A ++ B ∨ p = x := fun p c => by
    simp only [List.mem_append, List.mem_cons] at c ⊢
    rcases c with c | c | c
    · exact Or.inl (Or.inl c)
    · exact Or.inr c
    · exact Or.inl (Or.inr c)
  refine ⟨fun e p hp hq => ?_, fun r e => ?_⟩
  · rcases sub p (h.no e p hp hq) with c | rfl
    · exact c
    · obtain ⟨r, hr, _⟩ := hn hq
      rw [e] at hr
      cases hr
  · obtain ⟨h1, h2, h3⟩ := h.yes r e
    refine ⟨h1, h2, fun p hp hq => ?_⟩
    rcases h3 p hp hq with c | c
    · rcases sub p c with c | rfl
      · exact Or.inl c
      · obtain ⟨r', hr, hl⟩ := hn hq
        rw [e] at hr
        cases hr
        exact Or.inr hl
    · exact Or.inr c
theorem ents_cut {left : List Pk} {A B : List (Value × Value)} {y : Value × Value} (h : left.map ent = A ++ y :: B) : ∃ A' x B', left = A' ++ x :: B' ∧ A = A'.map ent ∧ y = ent x ∧ B = B'.map ent := by
  obtain ⟨A', R, e1, e2, e3⟩ := List.map_eq_append_iff.1 h
  obtain ⟨x, B', e4, e5, e6⟩ := List.map_eq_cons_iff.1 e3
  exact ⟨A', x, B', by rw [e1, e4], e2.symm, e5.symm, e6.symm⟩
theorem Going.left_eq {w : World} {b r : Nat} {M left : List (Value × Value)} (h : Going w b r M left) : w.rangeLeft b r = left.length := by
  obtain ⟨es, clock, since, seen, c0, hb, _, _, hr, _, hl, _⟩ := h
  simp only [World.rangeLeft, hb, hr]
  rw [← hl, List.length_map, Array.length_toList]

set_option maxRecDepth 100000 in
set_option maxHeartbeats 4000000 in
theorem first_any {W : List Pk} {nx : Int → Int} {N : List (Int × Int)} {r mb nb : Nat} (w : World) (hm : MpAt w mb (W.map ent)) (hn : MpAt w nb (N.map nent)) (hr : ∀ p ∈ W, inR p) (hW : Apart W) (hk : ∀ x ∈ N, 0 ≤ x.1 ∧ x.1 < 4096) (hx : ∀ s, nxL N s = nx s) :
    Calls Tryz.prog 63 #[.agg (sti r mb nb)] w fun e w' => e = .returned (fstV (pick nx W)) ∧ Below w.heap.size w w' := by
  have B0 : Hid (Below w.heap.size w ((w.alloc (.cells (sti r mb nb) 100)).alloc (.cells #[.int .i64 0, .int .i64 0] 121))) := ((Below.refl _ _).alloc (Nat.le_refl _) _).alloc (by simp) _
  have S0 : Hid (Bk ((w.alloc (.cells (sti r mb nb) 100)).alloc (.cells #[.int .i64 0, .int .i64 0] 121)) w.heap.size (sti r mb nb) 100) := (Bk.new _ _ _).alloc _
  have L0 : Hid (Bk ((w.alloc (.cells (sti r mb nb) 100)).alloc (.cells #[.int .i64 0, .int .i64 0] 121)) (w.heap.size + 1) #[.int .i64 0, .int .i64 0] 121) := show _ from by
    have := Bk.new (w.alloc (.cells (sti r mb nb) 100)) #[.int .i64 0, .int .i64 0] 121
    rwa [show (w.alloc (.cells (sti r mb nb) 100)).heap.size = w.heap.size + 1 by simp] at this
  have z0 : ((w.alloc (.cells (sti r mb nb) 100)).alloc (.cells #[.int .i64 0, .int .i64 0] 121)).heap.size = w.heap.size + 2 := by simp
  have hm0 : MpAt ((w.alloc (.cells (sti r mb nb) 100)).alloc (.cells #[.int .i64 0, .int .i64 0] 121)) mb (W.map ent) := hm.keep (B0.out.block _ hm.lt)
  have hn0 : Hid (MpAt ((w.alloc (.cells (sti r mb nb) 100)).alloc (.cells #[.int .i64 0, .int .i64 0] 121)) nb (N.map nent)) := hn.keep (B0.out.block _ hn.lt)
  have hml := hm.lt
  have hnl := hn.lt
  simp only [sti] at *
  clear hm hn
  go_enter Tryz.func63, Tryz.ntmps63
  go_upto_region 1 with fail
  generalize (w.alloc (.cells #[.pointer (some ⟨r, 0, none⟩), .map (some mb), .map (some nb)] 100)).alloc (.cells #[.int .i64 0, .int .i64 0] 121) = v at *
  obtain ⟨c, hc⟩ : ∃ c, w.heap.size = c := ⟨_, rfl⟩
  rw [hc] at B0 S0 L0 z0 hml hnl ⊢
  have HC : Hid (w.heap.size = c) := hc
  clear hc
  obtain ⟨v0, hrun0, hG0, hb0, z1⟩ := hm0.range Tryz.underlying97
  have c0 := S0.out.cell 0
  have c1 := S0.out.cell 1
  have c2 := S0.out.cell 2
  simp only [List.getElem?_toArray, List.getElem?_cons_zero, List.getElem?_cons_succ] at c0 c1 c2
  rw [z0] at hrun0 hG0 hb0 z1
  go_wp2_with (first | (at_range; refine wpList_mrange rfl _ _ rfl rfl hrun0 ?_) | go_in)
  try go_frame
  have B1 : Below c w v0 := B0.out.trans (hb0.mono (by omega))
  have S1 : Bk v0 c #[.pointer (some ⟨r, 0, none⟩), .map (some mb), .map (some nb)] 100 := S0.out.below hb0 (by omega)
  have L1 : Bk v0 (c + 1) #[.int .i64 0, .int .i64 0] 121 := L0.out.below hb0 (by omega)
  have N1 : MpAt v0 nb (N.map nent) := hn0.out.keep (hb0.block _ (by omega))
  clear hrun0 hb0 B0 S0 L0 hn0 hm0 c0 c1 c2
  go_loopw [3] (fun s wr => ∃ left o, Going wr mb (c + 2) (W.map ent) (left.map ent) ∧ Bst nx W left o ∧ s = .bool o.isSome ∧ Bk wr (c + 1) #[.int .i64 (fs o), .int .i64 (fq o)] 121 ∧ Bk wr c #[.pointer (some ⟨r, 0, none⟩), .map (some mb), .map (some nb)] 100 ∧ Below c w wr ∧ MpAt wr nb (N.map nent) ∧ (∀ p ∈ left, p ∈ W)) (fun _ wr => wr.rangeLeft mb (c + 2))
  case atStart => exact ⟨W, none, hG0, Bst.start nx W, rfl, L1, S1, B1, N1, fun _ h => h⟩
  case round =>
    clear hG0 L1 S1 B1 N1 z0 z1
    obtain ⟨left, o, hG, hB, rfl, hL, hS, hbel, hN, hsub⟩ := hrel
    have HG : Hid (Going wr mb (c + 2) (W.map ent) (left.map ent)) := hG
    rcases hG.next (P := Tryz.prog) 0 with ⟨hl, hrun⟩ | ⟨A, y, B, w1, hl, hrun, hG1, hg1, hs1, hen⟩
    · have e0 : left = [] := List.map_eq_nil_iff.1 hl
      subst e0
      have e1 := hB.done hW
      have E : Hid (fstV (pick nx W) = .tuple #[.agg #[.int .i64 (fs o), .int .i64 (fq o)], .bool o.isSome]) := show fstV (pick nx W) = .tuple #[.agg #[.int .i64 (fs o), .int .i64 (fq o)], .bool o.isSome] from by rw [e1]
      have l0 := hL.cell 0
      have l1 := hL.cell 1
      have f0 := hL.free 0
      have f1 := hL.free 1
      simp only [List.getElem?_toArray, List.getElem?_cons_zero, List.getElem?_cons_succ] at l0 l1
      have Y := (hL.set 0 (.int .i64 (fs o))).set 1 (.int .i64 (fq o))
      have y0 := Y.cell 0
      have y1 := Y.cell 1
      simp at y0 y1
      have HB : Hid (Below c w ((wr.setCell ⟨c + 1, 0, none⟩ (.int .i64 (fs o))).setCell ⟨c + 1, 1, none⟩ (.int .i64 (fq o)))) := (hbel.setCell (by show c ≤ c + 1; omega) _).setCell (by show c ≤ c + 1; omega) _
      clear hB e1 hG HG hS hN hsub hbel hL Y hl
      generalize fs o = a1 at *
      generalize fq o = a2 at *
      generalize o.isSome = a3 at *
      go_wp2_with (first | (at_next; refine wpList_mnext rfl _ rfl rfl hrun ?_) | go_in)
      refine bodyPost_ret (v := .tuple #[.agg #[.int .i64 a1, .int .i64 a2], .bool a3]) ?_ rfl ?_
      · simp [results, Tryz.results63, go_sem, y0, y1]
      · exact ⟨congrArg Ending.returned E.out.symm, by rw [HC.out]; exact HB.out⟩
    · obtain ⟨A', x, B', e1, rfl, rfl, rfl⟩ := ents_cut hl
      subst e1
      rw [← List.map_append] at hG1
      have hxW : x ∈ W := hsub x (by simp)
      have hsz : c + 2 < wr.heap.size := hG.lt.2
      have kb : ∀ g, g < wr.heap.size → g ≠ c + 2 → w1.heap[g]? = wr.heap[g]? := fun g h1 h2 => hg1.block g h1 (fun e => h2 (by cases e; rfl))
      have L1 : Hid (Bk w1 (c + 1) #[.int .i64 (fs o), .int .i64 (fq o)] 121) := show _ from by unfold Bk; rw [kb _ hL.lt (by omega)]; exact hL
      have S1 : Hid (Bk w1 c #[.pointer (some ⟨r, 0, none⟩), .map (some mb), .map (some nb)] 100) := show _ from by unfold Bk; rw [kb _ hS.lt (by omega)]; exact hS
      have N1 : Hid (MpAt w1 nb (N.map nent)) := hN.keep (kb _ hN.lt (by omega))
      have B1 : Hid (Below c w w1) := hbel.grown hg1 (by omega) (fun k e => by cases e; omega)
      have HG1 : Hid (Going w1 mb (c + 2) (W.map ent) ((A' ++ B').map ent)) := hG1
      have HS1 : Hid (w1.heap.size = wr.heap.size) := hs1
      have wx := hr x hxW
      clear hL hS hN hbel hg1 hG hG1 kb hl hs1
      obtain ⟨xs, xd, xq, xx⟩ := x
      simp only [ent, pkv, pkc, mkv] at hrun hen
      go_upto_region 4 with (first | (at_next; refine wpList_mnext rfl _ rfl rfl hrun ?_) | go_in)
      have L2 : Hid (Bk (w1.alloc (.cells #[.int .i64 xs, .int .i64 xq] 121)) (c + 1) #[.int .i64 (fs o), .int .i64 (fq o)] 121) := L1.out.alloc _
      have S2 : Hid (Bk (w1.alloc (.cells #[.int .i64 xs, .int .i64 xq] 121)) c #[.pointer (some ⟨r, 0, none⟩), .map (some mb), .map (some nb)] 100) := S1.out.alloc _
      have M2 : Hid (Bk (w1.alloc (.cells #[.int .i64 xs, .int .i64 xq] 121)) w1.heap.size #[.int .i64 xs, .int .i64 xq] 121) := Bk.new _ _ _
      have N2 : Hid (MpAt (w1.alloc (.cells #[.int .i64 xs, .int .i64 xq] 121)) nb (N.map nent)) := N1.out.keep (Below.heap_alloc _ _ _ N1.out.lt)
      have B2 : Hid (Below c w (w1.alloc (.cells #[.int .i64 xs, .int .i64 xq] 121))) := B1.out.alloc (by have := HS1.out; omega) _
      have HG2 : Hid (Going (w1.alloc (.cells #[.int .i64 xs, .int .i64 xq] 121)) mb (c + 2) (W.map ent) ((A' ++ B').map ent)) := HG1.out.keep (Below.heap_alloc _ _ _ HG1.out.lt.1) (Below.heap_alloc _ _ _ HG1.out.lt.2)
      clear hrun hen L1 S1 N1 B1 HG1
      generalize w1.alloc (.cells #[.int .i64 xs, .int .i64 xq] 121) = v2 at *
      obtain ⟨d, hd⟩ : ∃ d, w1.heap.size = d := ⟨_, rfl⟩
      have hdc : c + 2 < d := by have := HS1.out; omega
      rw [hd] at M2 ⊢
      clear hd HS1
      have m0 := M2.out.cell 0
      have m1 := M2.out.cell 1
      have s2 := S2.out.cell 2
      have l0 := L2.out.cell 0
      have l1 := L2.out.cell 1
      have f0 := L2.out.free 0
      have f1 := L2.out.free 1
      simp only [List.getElem?_toArray, List.getElem?_cons_zero, List.getElem?_cons_succ] at m0 m1 s2 l0 l1
      have LK := look_next N2.out hk (s := xs) (wf_small (by have := wx.1; simp only at this; omega) (by have := wx.2.1; simp only at this; omega))
      rw [hx xs] at LK
      have SET : Hid (Bk ((v2.setCell ⟨c + 1, 0, none⟩ (.int .i64 xs)).setCell ⟨c + 1, 1, none⟩ (.int .i64 xq)) (c + 1) #[.int .i64 xs, .int .i64 xq] 121) := show Bk ((v2.setCell ⟨c + 1, 0, none⟩ (.int .i64 xs)).setCell ⟨c + 1, 1, none⟩ (.int .i64 xq)) (c + 1) #[.int .i64 xs, .int .i64 xq] 121 from by
        have := (L2.out.set 0 (.int .i64 xs)).set 1 (.int .i64 xq)
        simpa using this
      have FAR : Hid (Bk ((v2.setCell ⟨c + 1, 0, none⟩ (.int .i64 xs)).setCell ⟨c + 1, 1, none⟩ (.int .i64 xq)) c #[.pointer (some ⟨r, 0, none⟩), .map (some mb), .map (some nb)] 100) := (S2.out.far (by omega)).far (by omega)
      have BEL : Hid (Below c w ((v2.setCell ⟨c + 1, 0, none⟩ (.int .i64 xs)).setCell ⟨c + 1, 1, none⟩ (.int .i64 xq))) := (B2.out.setCell (by show c ≤ c + 1; omega) _).setCell (by show c ≤ c + 1; omega) _
      have hset : ∀ g, g ≠ c + 1 → ((v2.setCell ⟨c + 1, 0, none⟩ (.int .i64 xs)).setCell ⟨c + 1, 1, none⟩ (.int .i64 xq)).heap[g]? = v2.heap[g]? := fun g hg => (Below.heap_setCell _ _ _ g hg).trans (Below.heap_setCell _ _ _ g hg)
      have NUM : Hid (MpAt ((v2.setCell ⟨c + 1, 0, none⟩ (.int .i64 xs)).setCell ⟨c + 1, 1, none⟩ (.int .i64 xq)) nb (N.map nent)) := N2.out.keep (hset _ (by omega))
      have END : Hid (Going ((v2.setCell ⟨c + 1, 0, none⟩ (.int .i64 xs)).setCell ⟨c + 1, 1, none⟩ (.int .i64 xq)) mb (c + 2) (W.map ent) ((A' ++ B').map ent)) := HG2.out.keep (hset _ (by omega)) (hset _ (by omega))
      have SUB : Hid (∀ p ∈ A' ++ B', p ∈ W) := show _ from fun p hp => hsub p (by
        simp only [List.mem_append, List.mem_cons] at hp ⊢
        exact hp.elim Or.inl (fun c => Or.inr (Or.inr c)))
      clear hset hsub M2 wx
      obtain ⟨q, hq⟩ : ∃ q, q = nx xs := ⟨_, rfl⟩
      rw [← hq] at LK
      by_cases h1 : xq = q
      · have t1 : (xq == q) = true := beq_iff_eq.2 h1
        cases o with
        | none =>
          have hBB : Bst nx W (A' ++ B') (some ⟨xs, xd, xq, xx⟩) := hB.better hxW (h1.trans hq) (fun r e => by cases e)
          clear hB hxW hq h1
          simp only [fs, fq, Option.isSome_none] at *
          go_wp2_with (first | (at_lookup; refine wpList_mlook rfl _ _ _ _ rfl rfl rfl LK ?_) | go_in)
          go_roundw
          case rel => exact ⟨A' ++ B', some ⟨xs, xd, xq, xx⟩, END.out, hBB, rfl, SET.out, FAR.out, BEL.out, NUM.out, SUB.out⟩
          case measure => rw [END.out.left_eq, HG.out.left_eq]; simp
        | some r0 =>
          obtain ⟨rs, rd, rq, rx⟩ := r0
          by_cases h2 : xs < rs
          · have hBB : Bst nx W (A' ++ B') (some ⟨xs, xd, xq, xx⟩) := hB.better hxW (h1.trans hq) (fun r e => by cases e; exact h2)
            clear hB hxW hq h1
            simp only [fs, fq, Option.isSome_some] at *
            go_wp2_with (first | (at_lookup; refine wpList_mlook rfl _ _ _ _ rfl rfl rfl LK ?_) | go_in)
            go_roundw
            case rel => exact ⟨A' ++ B', some ⟨xs, xd, xq, xx⟩, END.out, hBB, rfl, SET.out, FAR.out, BEL.out, NUM.out, SUB.out⟩
            case measure => rw [END.out.left_eq, HG.out.left_eq]; simp
          · have hBB : Bst nx W (A' ++ B') (some ⟨rs, rd, rq, rx⟩) := hB.other (fun _ => ⟨_, rfl, by show rs ≤ xs; omega⟩)
            clear hB hxW hq h1
            simp only [fs, fq, Option.isSome_some] at *
            go_wp2_with (first | (at_lookup; refine wpList_mlook rfl _ _ _ _ rfl rfl rfl LK ?_) | go_in)
            go_roundw
            case rel => exact ⟨A' ++ B', _, HG2.out, hBB, rfl, L2.out, S2.out, B2.out, N2.out, SUB.out⟩
            case measure => rw [HG2.out.left_eq, HG.out.left_eq]; simp
      · have t1 : (xq == q) = false := beq_eq_false_iff_ne.2 h1
        have hBB : Bst nx W (A' ++ B') o := hB.other (fun e => absurd (e.trans hq.symm) h1)
        clear hB hxW hq h1
        generalize hfs : fs o = a1 at *
        generalize hfq : fq o = a2 at *
        generalize his : o.isSome = a3 at *
        have HFS : Hid (fs o = a1 ∧ fq o = a2 ∧ o.isSome = a3) := ⟨hfs, hfq, his⟩
        clear hfs hfq his
        go_wp2_with (first | (at_lookup; refine wpList_mlook rfl _ _ _ _ rfl rfl rfl LK ?_) | go_in)
        go_roundw
        case rel => exact ⟨A' ++ B', o, HG2.out, hBB, by rw [HFS.out.2.2], by rw [HFS.out.1, HFS.out.2.1]; exact L2.out, S2.out, B2.out, N2.out, SUB.out⟩
        case measure => rw [HG2.out.left_eq, HG.out.left_eq]; simp
end Go.Proofs.YtoejpngdkcnnhaaGreat.I

namespace Go.Proofs.YtoejpngdkcnnhaaGreat.I
open Go.RowKit

set_option maxRecDepth 100000 in
set_option maxHeartbeats 4000000 in
theorem first_nil (w : World) : Calls Tryz.prog 63 #[.agg stz] w fun e w' => e = .returned (.tuple #[mkv 0 0, .bool false]) ∧ Below w.heap.size w w' := by
  have B0 : Hid (Below w.heap.size w ((w.alloc (.cells stz 100)).alloc (.cells #[.int .i64 0, .int .i64 0] 121))) := ((Below.refl _ _).alloc (Nat.le_refl _) _).alloc (by simp) _
  have S0 : Hid (Bk ((w.alloc (.cells stz 100)).alloc (.cells #[.int .i64 0, .int .i64 0] 121)) w.heap.size stz 100) := (Bk.new _ _ _).alloc _
  have L0 : Hid (Bk ((w.alloc (.cells stz 100)).alloc (.cells #[.int .i64 0, .int .i64 0] 121)) (w.heap.size + 1) #[.int .i64 0, .int .i64 0] 121) := show _ from by
    have := Bk.new (w.alloc (.cells stz 100)) #[.int .i64 0, .int .i64 0] 121
    rwa [show (w.alloc (.cells stz 100)).heap.size = w.heap.size + 1 by simp] at this
  simp only [stz] at *
  go_enter Tryz.func63, Tryz.ntmps63
  go_upto_region 1 with fail
  generalize (w.alloc (.cells #[.pointer none, .map none, .map none] 100)).alloc (.cells #[.int .i64 0, .int .i64 0] 121) = v at *
  obtain ⟨c, hc⟩ : ∃ c, w.heap.size = c := ⟨_, rfl⟩
  have HC : Hid (w.heap.size = c) := hc
  rw [hc] at B0 S0 L0 ⊢
  clear hc
  have hrun0 := run_range_nilMap (P := Tryz.prog) v 97 _ _ Tryz.underlying97
  have hnx := fun ty => run_next_nilMap (P := Tryz.prog) v ty 0 0 #[]
  have c1 := S0.out.cell 1
  simp only [List.getElem?_toArray, List.getElem?_cons_zero, List.getElem?_cons_succ] at c1
  have L1 : Bk (v.alloc (.mapIter none 0 #[] 0)) (c + 1) #[.int .i64 0, .int .i64 0] 121 := L0.out.alloc _
  have B1 : Hid (Below c w (v.alloc (.mapIter none 0 #[] 0))) := B0.out.alloc (by have := L0.out.lt; omega) _
  have l0 := L1.cell 0
  have l1 := L1.cell 1
  have f0 := L1.free 0
  have f1 := L1.free 1
  simp only [List.getElem?_toArray, List.getElem?_cons_zero, List.getElem?_cons_succ] at l0 l1
  have Y := (L1.set 0 (.int .i64 0)).set 1 (.int .i64 0)
  have y0 := Y.cell 0
  have y1 := Y.cell 1
  simp at y0 y1
  clear L0 S0 Y L1
  go_wp2_with (first | (at_range; refine wpList_mrange rfl _ _ rfl rfl hrun0 ?_) | go_in)
  try go_frame
  generalize hv : v.alloc (.mapIter none 0 #[] 0) = v1 at *
  clear hrun0 c1 hv
  generalize v.heap.size = rb at *
  refine wp_loop_rounds 1 ?_
  rw [rounds_succ]
  go_wp2_with (first | (at_next; refine wpList_mnext rfl _ rfl rfl (hnx _) ?_) | go_in)
  refine bodyPost_ret (v := .tuple #[.agg #[.int .i64 0, .int .i64 0], .bool false]) ?_ rfl ?_
  · simp [results, Tryz.results63, go_sem, y0, y1]
  · exact ⟨rfl, by rw [HC.out]; exact (B1.out.setCell (by show c ≤ c + 1; omega) _).setCell (by show c ≤ c + 1; omega) _⟩
theorem freed_same (s : RP.RingSt) : (RP.freeS s).room = s.room ∧ (RP.freeS s).laid = s.laid ∧ (RP.freeS s).xs = s.xs.tail := by
  unfold RP.freeS
  by_cases h : s.xs = []
  · rw [if_pos h, h]; exact ⟨rfl, rfl, rfl⟩
  · rw [if_neg h]; exact ⟨rfl, rfl, rfl⟩
theorem peek_v {S : IS} {s : RP.RingSt} (h : s.xs = S.L) : RP.peekV s = recvV S := by unfold RP.peekV recvV; rw [h]; rfl
theorem peek_e {S : IS} {s : RP.RingSt} (h : s.xs = S.L) : RP.peekE s = recvE S := by unfold RP.peekE recvE; rw [h]
namespace RP
set_option maxRecDepth 100000 in
set_option maxHeartbeats 4000000 in
theorem rgnil_pop (w : World) : Calls Tryz.prog 65 #[.pointer none] w fun e w' => e = .returned (.tuple #[pkv zc, .int .i64 1]) ∧ Below w.heap.size w w' := by
  have B0 : Hid (Below w.heap.size w (w.alloc (.cells #[.int .i64 0, .int .i64 0, .int .i64 0, .string ⟨#[]⟩] 61))) := (Below.refl _ _).alloc (Nat.le_refl _) _
  have N0 : Hid (Bk (w.alloc (.cells #[.int .i64 0, .int .i64 0, .int .i64 0, .string ⟨#[]⟩] 61)) w.heap.size #[.int .i64 0, .int .i64 0, .int .i64 0, .string ⟨#[]⟩] 61) := Bk.new _ _ _
  have K := rgnil_peek (w.alloc (.cells #[.int .i64 0, .int .i64 0, .int .i64 0, .string ⟨#[]⟩] 61))
  simp only [zc] at *
  go_enter Tryz.func65, Tryz.ntmps65
  go_upto_region 1 with fail
  generalize w.alloc (.cells #[.int .i64 0, .int .i64 0, .int .i64 0, .string ⟨#[]⟩] 61) = v at *
  obtain ⟨c, hc⟩ : ∃ c, w.heap.size = c := ⟨_, rfl⟩
  have HC : Hid (w.heap.size = c) := hc
  rw [hc] at B0 N0 ⊢
  clear hc
  go_upto_region 2 with (go_at_call 81; refine K.mono ?_; rintro e w1 ⟨rfl, hb1⟩)
  have B2 : Hid (Below c w (w1.alloc (.cells #[.int .i64 0, .int .i64 0, .int .i64 0, .string ⟨#[]⟩] 61))) := (B0.out.trans (hb1.mono (by have := N0.out.lt; omega))).alloc (Nat.le_of_lt (N0.out.next hb1).lt) _
  have N2 : Hid (Bk (w1.alloc (.cells #[.int .i64 0, .int .i64 0, .int .i64 0, .string ⟨#[]⟩] 61)) c #[.int .i64 0, .int .i64 0, .int .i64 0, .string ⟨#[]⟩] 61) := (N0.out.next hb1).alloc _
  have M2 := Bk.new w1 #[.int .i64 0, .int .i64 0, .int .i64 0, .string ⟨#[]⟩] 61
  clear hb1 K B0 N0
  generalize w1.alloc (.cells #[.int .i64 0, .int .i64 0, .int .i64 0, .string ⟨#[]⟩] 61) = v2 at *
  generalize w1.heap.size = nb at *
  have N3 := N2.out
  have d0 := N3.cell 0
  have d1 := N3.cell 1
  have d2 := N3.cell 2
  have d3 := N3.cell 3
  simp only [List.getElem?_toArray, List.getElem?_cons_zero, List.getElem?_cons_succ] at d0 d1 d2 d3
  have g0 := N3.free 0
  have g1 := N3.free 1
  have g2 := N3.free 2
  have g3 := N3.free 3
  have m0 := M2.cell 0
  have m1 := M2.cell 1
  have m2 := M2.cell 2
  have m3 := M2.cell 3
  simp only [List.getElem?_toArray, List.getElem?_cons_zero, List.getElem?_cons_succ] at m0 m1 m2 m3
  have Y := ((((N3.set 0 (.int .i64 0)).set 1 (.int .i64 0)).set 2 (.int .i64 0)).set 3 (.string ⟨#[]⟩))
  have y0 := Y.cell 0
  have y1 := Y.cell 1
  have y2 := Y.cell 2
  have y3 := Y.cell 3
  simp at y0 y1 y2 y3
  clear Y N3 M2
  go_wp2
  refine bodyPost_ret (v := .tuple #[.agg #[.int .i64 0, .int .i64 0, .int .i64 0, .string ⟨#[]⟩], .int .i64 1]) (by simp [results, Tryz.results65, go_sem, y0, y1, y2, y3]; try rfl) rfl ?_
  exact ⟨rfl, by rw [HC.out]; exact (((B2.out.setCell (Nat.le_refl _) _).setCell (Nat.le_refl _) _).setCell (Nat.le_refl _) _).setCell (Nat.le_refl _) _⟩
end RP
set_option maxRecDepth 100000 in
set_option maxHeartbeats 4000000 in
theorem inbox_recv {w : World} {b : Nat} {S : IS} {F : Nat → Prop} (h : In w b S F) : Calls Tryz.prog 42 #[.pointer (some ⟨b, 0, none⟩)] w fun e w' => ∃ F', e = .returned (.tuple #[pkv (recvV S), .int .i64 (recvE S)]) ∧ In w' b (recvS S) F' ∧ Gr F w w' F' := by
  obtain ⟨ok, r, pr, mr, sr, mb, nb, N, hA, rfl⟩ := h
  have B0 : Hid (Below w.heap.size w (w.alloc (.cells #[.int .i64 0, .int .i64 0, .int .i64 0, .string ⟨#[]⟩] 61))) := (Below.refl _ _).alloc (Nat.le_refl _) _
  have N0 : Hid (Bk (w.alloc (.cells #[.int .i64 0, .int .i64 0, .int .i64 0, .string ⟨#[]⟩] 61)) w.heap.size #[.int .i64 0, .int .i64 0, .int .i64 0, .string ⟨#[]⟩] 61) := Bk.new _ _ _
  have K0 : Hid (InAt (w.alloc (.cells #[.int .i64 0, .int .i64 0, .int .i64 0, .string ⟨#[]⟩] 61)) b S r pr mr sr mb nb N) := hA.next B0.out
  have nF : Hid (¬ fi b r pr mb nb w.heap.size) := show ¬ fi b r pr mb nb w.heap.size from fun c => Nat.lt_irrefl _ (hA.lt _ c)
  have K := ilook_blk K0.out.blk
  have L : Hid (∀ V : World, InAt V b S r pr mr sr mb nb N → Calls Tryz.prog 65 #[.pointer (some ⟨r, 0, none⟩)] V fun e w' => e = .returned (.tuple #[pkv (recvV S), .int .i64 (recvE S)]) ∧ RP.RingAt w' r pr mr (RP.freeS sr) ∧ RP.Fr r pr V w') := show _ from fun V hV => by
    have := RP.ring_pop hV.rg
    rw [peek_v hV.xs, peek_e hV.xs] at this
    exact this
  have ST : Hid (∀ v w' : World, InAt v b S r pr mr sr mb nb N → RP.RingAt w' r pr mr (RP.freeS sr) → RP.Fr r pr v w' → ∃ pr' mr', InAt w' b (recvS S) r pr' mr' (RP.freeS sr) mb nb N ∧ Gr (fi b r pr mb nb) v w' (fi b r pr' mb nb)) := show _ from fun v w' hv hR hF =>
    hv.step (L' := S.L.tail) ⟨pr, mr, hR, hF, Or.inl rfl⟩ (freed_same sr).1 ((freed_same sr).2.1.trans hv.laid) (by rw [(freed_same sr).2.2, hv.xs])
  have OK : Hid (IOk (recvS S)) := ok.recv
  clear hA ok
  generalize recvV S = p at *
  generalize recvE S = er at *
  obtain ⟨ps, pd, pq, px⟩ := p
  simp only [sti, pkv, pkc] at *
  have f0 := fld0 (.pointer (some ⟨r, 0, none⟩)) (.map (some mb)) (.map (some nb))
  go_enter Tryz.func42, Tryz.ntmps42
  go_upto_region 1 with fail
  generalize w.alloc (.cells #[.int .i64 0, .int .i64 0, .int .i64 0, .string ⟨#[]⟩] 61) = v at *
  obtain ⟨c, hc⟩ : ∃ c, w.heap.size = c := ⟨_, rfl⟩
  have HC : Hid (w.heap.size = c) := hc
  rw [hc] at B0 N0 nF ⊢
  clear hc
  go_wp2_with (go_at_call 60; with_reducible refine K.mono ?_; rintro e w1 ⟨rfl, hb1⟩)
  go_at_call 65
  refine (L.out _ (K0.out.next hb1)).mono ?_
  rintro e w2 ⟨rfl, hR, hF⟩
  obtain ⟨pr', mr', kk, gg⟩ := ST.out _ _ (K0.out.next hb1) hR hF
  have K2 : Hid (In w2 b (recvS S) (fi b r pr' mb nb)) := ⟨OK.out, r, pr', mr', _, mb, nb, N, kk, rfl⟩
  have G2 : Hid (Gr (fi b r pr mb nb) w w2 (fi b r pr' mb nb)) := gg.after (show Below w.heap.size w w1 by rw [HC.out]; exact B0.out.trans (hb1.mono (by have := N0.out.lt; omega)))
  have N2 := (N0.out.next hb1).gr gg nF.out
  have nF2 : Hid (¬ fi b r pr' mb nb c) := gg.off nF.out (N0.out.next hb1).lt
  clear hR hF kk gg hb1 L K ST K0 nF B0 N0
  have d0 := N2.cell 0
  have d1 := N2.cell 1
  have d2 := N2.cell 2
  have d3 := N2.cell 3
  simp only [List.getElem?_toArray, List.getElem?_cons_zero, List.getElem?_cons_succ] at d0 d1 d2 d3
  have g0 := N2.free 0
  have g1 := N2.free 1
  have g2 := N2.free 2
  have g3 := N2.free 3
  have Y := ((((N2.set 0 (.int .i64 ps)).set 1 (.int .i64 pd)).set 2 (.int .i64 pq)).set 3 (.string px))
  have y0 := Y.cell 0
  have y1 := Y.cell 1
  have y2 := Y.cell 2
  have y3 := Y.cell 3
  simp at y0 y1 y2 y3
  clear Y N2
  go_wp2
  refine bodyPost_ret (v := .tuple #[.agg #[.int .i64 ps, .int .i64 pd, .int .i64 pq, .string px], .int .i64 er]) (by simp [results, Tryz.results42, go_sem, y0, y1, y2, y3]; try rfl) rfl ?_
  exact ⟨_, rfl, (((K2.out.far nF2.out).far nF2.out).far nF2.out).far nF2.out, (((G2.out.setNew (Nat.le_of_eq HC.out)).setNew (Nat.le_of_eq HC.out)).setNew (Nat.le_of_eq HC.out)).setNew (Nat.le_of_eq HC.out)⟩
set_option maxRecDepth 100000 in
set_option maxHeartbeats 4000000 in
theorem inil_recv (w : World) : Calls Tryz.prog 42 #[.pointer none] w fun e w' => e = .returned (.tuple #[pkv zpk, .int .i64 1]) ∧ Below w.heap.size w w' := by
  have B0 : Hid (Below w.heap.size w (w.alloc (.cells #[.int .i64 0, .int .i64 0, .int .i64 0, .string ⟨#[]⟩] 61))) := (Below.refl _ _).alloc (Nat.le_refl _) _
  have N0 : Hid (Bk (w.alloc (.cells #[.int .i64 0, .int .i64 0, .int .i64 0, .string ⟨#[]⟩] 61)) w.heap.size #[.int .i64 0, .int .i64 0, .int .i64 0, .string ⟨#[]⟩] 61) := Bk.new _ _ _
  have K := ilook_nil (w.alloc (.cells #[.int .i64 0, .int .i64 0, .int .i64 0, .string ⟨#[]⟩] 61))
  have L := RP.rgnil_pop
  simp only [stz, pkv, pkc, RP.zc] at *
  have f0 := fld0 (.pointer none) (.map none) (.map none)
  go_enter Tryz.func42, Tryz.ntmps42
  go_upto_region 1 with fail
  generalize w.alloc (.cells #[.int .i64 0, .int .i64 0, .int .i64 0, .string ⟨#[]⟩] 61) = v at *
  obtain ⟨c, hc⟩ : ∃ c, w.heap.size = c := ⟨_, rfl⟩
  have HC : Hid (w.heap.size = c) := hc
  rw [hc] at B0 N0 ⊢
  clear hc
  go_wp2_with (go_at_call 60; with_reducible refine K.mono ?_; rintro e w1 ⟨rfl, hb1⟩)
  go_at_call 65
  refine (L _).mono ?_
  rintro e w2 ⟨rfl, hb2⟩
  have B2 : Hid (Below c w w2) := B0.out.trans ((hb1.trans (hb2.mono hb1.size)).mono (by have := N0.out.lt; omega))
  have N2 := (N0.out.next hb1).next hb2
  have d0 := N2.cell 0
  have d1 := N2.cell 1
  have d2 := N2.cell 2
  have d3 := N2.cell 3
  simp only [List.getElem?_toArray, List.getElem?_cons_zero, List.getElem?_cons_succ] at d0 d1 d2 d3
  have g0 := N2.free 0
  have g1 := N2.free 1
  have g2 := N2.free 2
  have g3 := N2.free 3
  have Y := ((((N2.set 0 (.int .i64 0)).set 1 (.int .i64 0)).set 2 (.int .i64 0)).set 3 (.string ⟨#[]⟩))
  have y0 := Y.cell 0
  have y1 := Y.cell 1
  have y2 := Y.cell 2
  have y3 := Y.cell 3
  simp at y0 y1 y2 y3
  clear Y N2
  go_wp2
  refine bodyPost_ret (v := .tuple #[.agg #[.int .i64 0, .int .i64 0, .int .i64 0, .string ⟨#[]⟩], .int .i64 1]) (by simp [results, Tryz.results42, go_sem, y0, y1, y2, y3]; try rfl) rfl ?_
  exact ⟨rfl, by rw [HC.out]; exact (((B2.out.setCell (Nat.le_refl _) _).setCell (Nat.le_refl _) _).setCell (Nat.le_refl _) _).setCell (Nat.le_refl _) _⟩
end Go.Proofs.YtoejpngdkcnnhaaGreat.I

namespace Go.Proofs.YtoejpngdkcnnhaaGreat.I
open Go.RowKit

def roomN (room : Int) : Nat := (min (max room 1) 64).toNat
theorem roomN_ok (room : Int) : (roomN room : Int) = min (max room 1) 64 ∧ 1 ≤ roomN room ∧ roomN room ≤ 64 := by
  unfold roomN
  omega
/-- Its blocks, as they were laid. -/
theorem made_in {w w1 : World} {n : Nat} {N : Int} (hR : RP.RingAt w1 w.heap.size w.heap.size 0 (RP.ring0 N 0)) (hb : Below w.heap.size w w1) (hlt : w.heap.size < w1.heap.size) (HN : N = (n : Int)) (OK : IOk (newI n)) :
    ∃ F, In (((w1.alloc (.map #[] 0)).alloc (.map #[] 0)).alloc (.cells (sti w.heap.size w1.heap.size (w1.heap.size + 1)) 102)) (w1.heap.size + 2) (newI n) F ∧ Below w.heap.size w (((w1.alloc (.map #[] 0)).alloc (.map #[] 0)).alloc (.cells (sti w.heap.size w1.heap.size (w1.heap.size + 1)) 102)) ∧ ∀ g, F g → w.heap.size ≤ g := by
  have hA : InAt (((w1.alloc (.map #[] 0)).alloc (.map #[] 0)).alloc (.cells (sti w.heap.size w1.heap.size (w1.heap.size + 1)) 102)) (w1.heap.size + 2) (newI n) w.heap.size w.heap.size 0 (RP.ring0 N 0) w1.heap.size (w1.heap.size + 1) [] := by
    have s1 : (w1.alloc (.map #[] 0)).heap.size = w1.heap.size + 1 := by simp
    have s2 : ((w1.alloc (.map #[] 0)).alloc (.map #[] 0)).heap.size = w1.heap.size + 2 := by simp
    have m1 := MpAt.made w1
    have m2 := MpAt.made (w1.alloc (.map #[] 0))
    rw [s1] at m2
    have k1 := (m1.keep (Below.heap_alloc _ (.map #[] 0) _ m1.lt)).keep (Below.heap_alloc ((w1.alloc (.map #[] 0)).alloc (.map #[] 0)) (.cells (sti w.heap.size w1.heap.size (w1.heap.size + 1)) 102) _ (by rw [s2]; omega))
    have k2 := m2.keep (Below.heap_alloc ((w1.alloc (.map #[] 0)).alloc (.map #[] 0)) (.cells (sti w.heap.size w1.heap.size (w1.heap.size + 1)) 102) _ (by rw [s2]; omega))
    have bl : Below w1.heap.size w1 (((w1.alloc (.map #[] 0)).alloc (.map #[] 0)).alloc (.cells (sti w.heap.size w1.heap.size (w1.heap.size + 1)) 102)) := (((Below.refl _ _).alloc (Nat.le_refl _) _).alloc (by rw [s1]; omega) _).alloc (by rw [s2]; omega) _
    refine ⟨?_, hR.below bl (Nat.le_refl _), k1, k2, ⟨by omega, by omega⟩, ⟨by omega, by omega, by omega, by omega⟩, ⟨by omega, by omega, by omega⟩, HN, rfl, rfl, fun _ => rfl, fun _ h => by cases h⟩
    have := Bk.new ((w1.alloc (.map #[] 0)).alloc (.map #[] 0)) (sti w.heap.size w1.heap.size (w1.heap.size + 1)) 102
    rwa [s2] at this
  refine ⟨_, ⟨OK, _, _, _, _, _, _, _, hA, rfl⟩, ((hb.alloc (Nat.le_of_lt hlt) _).alloc (by simp; omega) _).alloc (by simp; omega) _, fun g hg => ?_⟩
  rcases hg with rfl | rfl | rfl | rfl | rfl <;> omega
set_option maxRecDepth 100000 in
theorem inbox_new (room : Int) (w : World) : Calls Tryz.prog 26 #[.int .i64 room] w fun e w' => ∃ b F, e = .returned (.pointer (some ⟨b, 0, none⟩)) ∧ In w' b (newI (roomN room)) F ∧ Below w.heap.size w w' ∧ ∀ g, F g → w.heap.size ≤ g := by
  obtain ⟨e1, n1, n64⟩ := roomN_ok room
  have ok := IOk.new n1 n64
  obtain ⟨n, hn⟩ : ∃ n, n = roomN room := ⟨_, rfl⟩
  rw [← hn] at ok e1 ⊢
  clear n1 n64 hn
  have R : Calls Tryz.prog 45 #[.int .i64 (n : Int), .int .u32 0] w fun e w' => e = .returned (.pointer (some ⟨w.heap.size, 0, none⟩)) ∧ RP.RingAt w' w.heap.size w.heap.size 0 (RP.ring0 (n : Int) 0) ∧ Below w.heap.size w w' ∧ w.heap.size < w'.heap.size := RP.ring_new (n : Int) 0 (by decide) w
  obtain ⟨N, hN⟩ : ∃ N : Int, N = n := ⟨_, rfl⟩
  rw [← hN] at R e1
  have hmm := @run_makeMap Tryz.prog
  have HN : Hid (N = (n : Int)) := hN
  have OK : Hid (IOk (newI n)) := ok
  have E1 : Hid (N = min (max room 1) 64) := e1
  clear ok hN e1
  go_enter Tryz.func26, Tryz.ntmps26
  go_upto_region 2 with fail
  have q : (if 64 < if room < 1 then 1 else room then 64 else if room < 1 then 1 else room) = N := by
    rw [E1.out]
    split <;> split <;> omega
  rw [q]
  clear q
  go_wp2_with (go_at_call 45; with_reducible refine R.mono ?_; rintro e w1 ⟨rfl, hR, hb, hlt⟩)
  all_goals
    go_ret
    obtain ⟨F, h1, h2, h3⟩ := made_in hR hb hlt HN.out OK.out
    exact ⟨w1.heap.size + 2, rfl, F, h1, h2, h3⟩

theorem map_nil_eq (r : Option Nat) (w : World) : (binOp .eql 97 (.map r) (.map none)).run Tryz.prog w = .ok (.bool r.isNone) w := run_eql_map_nil w _ _ _ r Tryz.underlying97
set_option maxRecDepth 100000 in
theorem inil_come (p : Pk) (w : World) : Calls Tryz.prog 38 #[.pointer none, pkv p] w fun e w' => e = .returned (.int .i64 1) ∧ Below w.heap.size w w' := by
  have B0 : Hid (Below w.heap.size w (w.alloc (.cells (pkc p) 61))) := (Below.refl _ _).alloc (Nat.le_refl _) _
  have K := ilook_nil (w.alloc (.cells (pkc p) 61))
  have EQ := map_nil_eq none
  obtain ⟨ps, pd, pq, px⟩ := p
  simp only [stz, pkv, pkc, Option.isNone] at *
  have f1 := fld1 (.pointer none) (.map none) (.map none)
  go_enter Tryz.func38, Tryz.ntmps38
  go_wp2_with (go_at_call 60; with_reducible refine K.mono ?_; rintro e w1 ⟨rfl, hb1⟩)
  go_ret
  exact ⟨rfl, B0.out.trans (hb1.mono (by simp))⟩
set_option maxRecDepth 100000 in
theorem inil_tell (w : World) : Calls Tryz.prog 41 #[.pointer none] w fun e w' => e = .returned (.bool false) ∧ Below w.heap.size w w' := by
  have K := ilook_nil w
  have L := RP.rgnil_room
  simp only [stz] at *
  go_enter Tryz.func41, Tryz.ntmps41
  go_wp2_with (first
    | (go_at_call 60; with_reducible refine K.mono ?_; rintro e w1 ⟨rfl, hb1⟩)
    | (go_at_call 62; with_reducible refine (L _).mono ?_; rintro e w2 ⟨rfl, rfl⟩))
  go_ret
  exact ⟨rfl, hb1.alloc hb1.size _⟩
end Go.Proofs.YtoejpngdkcnnhaaGreat.I

namespace Go.Proofs.YtoejpngdkcnnhaaGreat.I
open Go.RowKit

theorem in_dec (p : Pk) : ((decide (0 ≤ p.s) && decide (p.s < 4096)) && (decide (0 ≤ p.q) && decide (p.q < 65536))) = decide (inR p) := by
  unfold inR
  simp only [← Bool.decide_and]
  exact decide_eq_decide.2 ⟨fun h => ⟨h.1.1, h.1.2, h.2.1, h.2.2⟩, fun h => ⟨⟨h.1, h.2.1⟩, h.2.2⟩⟩
set_option maxRecDepth 100000 in
set_option maxHeartbeats 4000000 in
theorem inbox_come {w : World} {b : Nat} {S : IS} {F : Nat → Prop} (h : In w b S F) (p : Pk) : Calls Tryz.prog 38 #[.pointer (some ⟨b, 0, none⟩), pkv p] w fun e w' => e = .returned (.int .i64 (comeE S p)) ∧ In w' b (comeS S p) F ∧ Gr F w w' F := by
  have okc := h.ok.come p
  obtain ⟨ok, r, pr, mr, sr, mb, nb, N, hA, rfl⟩ := h
  have OK : Hid (IOk S) := ok
  have OKC : Hid (IOk (comeS S p)) := okc
  have B0 : Hid (Below w.heap.size w (w.alloc (.cells (pkc p) 61))) := (Below.refl _ _).alloc (Nat.le_refl _) _
  have N0 : Hid (Bk (w.alloc (.cells (pkc p) 61)) w.heap.size (pkc p) 61) := Bk.new _ _ _
  have K0 : Hid (InAt (w.alloc (.cells (pkc p) 61)) b S r pr mr sr mb nb N) := hA.next B0.out
  have nF : Hid (¬ fi b r pr mb nb w.heap.size) := show ¬ fi b r pr mb nb w.heap.size from fun c => Nat.lt_irrefl _ (hA.lt _ c)
  have K := ilook_blk K0.out.blk
  have EQ := map_nil_eq (some mb)
  have RA := inRange_any p.s 4096
  have RB := inRange_any p.q 65536
  have DEC := in_dec p
  have WT : Hid (∀ V : World, InAt V b S r pr mr sr mb nb N → inR p → ∃ x, (Instr.lookup 97 (.map (some mb)) (mkv p.s p.q) true).run Tryz.prog V = .ok (.tuple #[pkv x, .bool (has S.W p)]) V) := show _ from fun V hV hp => look_has hV.mp OK.out.rng hp
  have PT : Hid (∀ V : World, InAt V b S r pr mr sr mb nb N → inR p → has S.W p = false → ∃ w', (Instr.mapUpdate 97 (.map (some mb)) (mkv p.s p.q) (pkv p)).run Tryz.prog V = .ok () w' ∧ InAt w' b { S with W := S.W ++ [p] } r pr mr sr mb nb N ∧ Gr (fi b r pr mb nb) V w' (fi b r pr mb nb)) := show _ from fun V hV hp hh => by
    obtain ⟨w', r1, r2, r3⟩ := put_wait hV.mp OK.out.rng hp hh
    obtain ⟨k1, k2⟩ := hV.wait r3 r2
    exact ⟨w', r1, k1, k2⟩
  clear hA ok okc
  obtain ⟨R1, hR1⟩ : ∃ R1, R1 = (decide (0 ≤ p.s) && decide (p.s < 4096)) := ⟨_, rfl⟩
  obtain ⟨R2, hR2⟩ : ∃ R2, R2 = (decide (0 ≤ p.q) && decide (p.q < 65536)) := ⟨_, rfl⟩
  rw [← hR1] at RA DEC
  rw [← hR2] at RB DEC
  clear hR1 hR2
  have C1 : inR p ∨ ¬ inR p := Classical.em _
  by_cases hin : inR p
  · have e12 : R1 = true ∧ R2 = true := by simpa [hin] using DEC
    obtain ⟨rfl, rfl⟩ := e12
    cases hh : has S.W p
    · have e1 : comeE S p = 0 := by unfold comeE; rw [if_pos hin, hh]; rfl
      have e2 : comeS S p = { S with W := S.W ++ [p] } := by unfold comeS; rw [if_pos hin, hh]; rfl
      have OKD : Hid (IOk (comeS S p)) := OKC
      rw [e2] at OKD
      rw [e1, e2]
      have WT2 : Hid (∀ V : World, InAt V b S r pr mr sr mb nb N → ∃ x, (Instr.lookup 97 (.map (some mb)) (mkv p.s p.q) true).run Tryz.prog V = .ok (.tuple #[pkv x, .bool false]) V) := show _ from fun V hV => by have := WT.out V hV hin; rw [hh] at this; exact this
      have PT2 : Hid (∀ V : World, InAt V b S r pr mr sr mb nb N → ∃ w', (Instr.mapUpdate 97 (.map (some mb)) (mkv p.s p.q) (pkv p)).run Tryz.prog V = .ok () w' ∧ InAt w' b { S with W := S.W ++ [p] } r pr mr sr mb nb N ∧ Gr (fi b r pr mb nb) V w' (fi b r pr mb nb)) := show _ from fun V hV => PT.out V hV hin hh
      clear WT PT DEC C1 hin hh e1 e2
      generalize hS' : ({ S with W := S.W ++ [p] } : IS) = S' at *
      clear hS'
      obtain ⟨ps, pd, pq, px⟩ := p
      simp only [sti, pkv, pkc, mkv, Option.isNone] at *
      have f1 := fld1 (.pointer (some ⟨r, 0, none⟩)) (.map (some mb)) (.map (some nb))
      go_enter Tryz.func38, Tryz.ntmps38
      go_upto_region 1 with fail
      generalize w.alloc (.cells #[.int .i64 ps, .int .i64 pd, .int .i64 pq, .string px] 61) = v at *
      obtain ⟨c, hc⟩ : ∃ c, w.heap.size = c := ⟨_, rfl⟩
      have HC : Hid (w.heap.size = c) := hc
      rw [hc] at B0 N0 nF ⊢
      clear hc
      go_upto_region 2 with (go_at_call 60; with_reducible refine K.mono ?_; rintro e w1 ⟨rfl, hb1⟩)
      have K1 : Hid (InAt w1 b S r pr mr sr mb nb N) := K0.out.next hb1
      have N1 : Hid (Bk w1 c #[.int .i64 ps, .int .i64 pd, .int .i64 pq, .string px] 61) := N0.out.next hb1
      have B1 : Hid (Below c w w1) := B0.out.trans (hb1.mono (by have := N0.out.lt; omega))
      clear K0 N0 B0 hb1 K
      have n0 := N1.out.cell 0
      have n2 := N1.out.cell 2
      simp only [List.getElem?_toArray, List.getElem?_cons_zero, List.getElem?_cons_succ] at n0 n2
      go_upto_region 5 with (first
        | (go_at_call_of 61 (Value.int IntKind.i64 4096); with_reducible refine (RA _).mono ?_; rintro e w2 ⟨rfl, rfl⟩)
        | (go_at_call_of 61 (Value.int IntKind.i64 65536); with_reducible refine (RB _).mono ?_; rintro e w2 ⟨rfl, rfl⟩))
      have K2 : Hid (InAt (w1.alloc (.cells #[.int .i64 ps, .int .i64 pq] 121)) b S r pr mr sr mb nb N) := K1.out.next ((Below.refl _ _).alloc (Nat.le_refl _) _)
      have N2 : Hid (Bk (w1.alloc (.cells #[.int .i64 ps, .int .i64 pq] 121)) c #[.int .i64 ps, .int .i64 pd, .int .i64 pq, .string px] 61) := N1.out.alloc _
      have M2 : Hid (Bk (w1.alloc (.cells #[.int .i64 ps, .int .i64 pq] 121)) w1.heap.size #[.int .i64 ps, .int .i64 pq] 121) := Bk.new _ _ _
      have B2 : Hid (Below c w (w1.alloc (.cells #[.int .i64 ps, .int .i64 pq] 121))) := B1.out.alloc (Nat.le_of_lt N1.out.lt) _
      clear K1 N1 B1 n0 n2
      generalize w1.alloc (.cells #[.int .i64 ps, .int .i64 pq] 121) = v2 at *
      generalize w1.heap.size = d at *
      obtain ⟨⟨xs, xd, xq, xx⟩, hlk⟩ := WT2.out v2 K2.out
      simp only at hlk
      have m0 := M2.out.cell 0
      have m1 := M2.out.cell 1
      simp only [List.getElem?_toArray, List.getElem?_cons_zero, List.getElem?_cons_succ] at m0 m1
      go_upto_region 8 with (first | (at_lookup; refine wpList_mlook rfl _ _ _ _ rfl rfl rfl hlk ?_) | go_in)
      have K3 : Hid (InAt (v2.alloc (.cells #[.int .i64 xs, .int .i64 xd, .int .i64 xq, .string xx] 61)) b S r pr mr sr mb nb N) := K2.out.next ((Below.refl _ _).alloc (Nat.le_refl _) _)
      have N3 : Hid (Bk (v2.alloc (.cells #[.int .i64 xs, .int .i64 xd, .int .i64 xq, .string xx] 61)) c #[.int .i64 ps, .int .i64 pd, .int .i64 pq, .string px] 61) := N2.out.alloc _
      have M3 : Hid (Bk (v2.alloc (.cells #[.int .i64 xs, .int .i64 xd, .int .i64 xq, .string xx] 61)) d #[.int .i64 ps, .int .i64 pq] 121) := M2.out.alloc _
      have B3 : Hid (Below c w (v2.alloc (.cells #[.int .i64 xs, .int .i64 xd, .int .i64 xq, .string xx] 61))) := B2.out.alloc (Nat.le_of_lt N2.out.lt) _
      clear K2 N2 M2 B2 m0 m1 hlk
      generalize v2.alloc (.cells #[.int .i64 xs, .int .i64 xd, .int .i64 xq, .string xx] 61) = v3 at *
      have m0 := M3.out.cell 0
      have m1 := M3.out.cell 1
      have n0 := N3.out.cell 0
      have n1 := N3.out.cell 1
      have n2 := N3.out.cell 2
      have n3 := N3.out.cell 3
      simp only [List.getElem?_toArray, List.getElem?_cons_zero, List.getElem?_cons_succ] at m0 m1 n0 n1 n2 n3
      obtain ⟨w4, hput, hI, hG⟩ := PT2.out v3 K3.out
      have HI : Hid (InAt w4 b S' r pr mr sr mb nb N) := hI
      have HG : Hid (Gr (fi b r pr mb nb) v3 w4 (fi b r pr mb nb)) := hG
      clear hI hG PT2 WT2
      go_wp2_with (first | (at_mapUpdate; refine wpList_mput rfl _ _ _ _ rfl rfl rfl rfl hput ?_) | go_in)
      go_ret
      exact ⟨rfl, ⟨OKD.out, r, pr, mr, sr, mb, nb, N, HI.out, rfl⟩, HG.out.after (by rw [HC.out]; exact B3.out)⟩
    · have e1 : comeE S p = 13 := by unfold comeE; rw [if_pos hin, hh]; rfl
      have e2 : comeS S p = S := by unfold comeS; rw [if_pos hin, hh]; rfl
      have OKD : Hid (IOk (comeS S p)) := OKC
      rw [e2] at OKD
      rw [e1, e2]
      have WT2 : Hid (∀ V : World, InAt V b S r pr mr sr mb nb N → ∃ x, (Instr.lookup 97 (.map (some mb)) (mkv p.s p.q) true).run Tryz.prog V = .ok (.tuple #[pkv x, .bool true]) V) := show _ from fun V hV => by have := WT.out V hV hin; rw [hh] at this; exact this
      clear WT PT DEC C1 hin hh e1 e2
      obtain ⟨ps, pd, pq, px⟩ := p
      simp only [sti, pkv, pkc, mkv, Option.isNone] at *
      have f1 := fld1 (.pointer (some ⟨r, 0, none⟩)) (.map (some mb)) (.map (some nb))
      go_enter Tryz.func38, Tryz.ntmps38
      go_upto_region 1 with fail
      generalize w.alloc (.cells #[.int .i64 ps, .int .i64 pd, .int .i64 pq, .string px] 61) = v at *
      obtain ⟨c, hc⟩ : ∃ c, w.heap.size = c := ⟨_, rfl⟩
      have HC : Hid (w.heap.size = c) := hc
      rw [hc] at B0 N0 nF ⊢
      clear hc
      go_upto_region 2 with (go_at_call 60; with_reducible refine K.mono ?_; rintro e w1 ⟨rfl, hb1⟩)
      have K1 : Hid (InAt w1 b S r pr mr sr mb nb N) := K0.out.next hb1
      have N1 : Hid (Bk w1 c #[.int .i64 ps, .int .i64 pd, .int .i64 pq, .string px] 61) := N0.out.next hb1
      have B1 : Hid (Below c w w1) := B0.out.trans (hb1.mono (by have := N0.out.lt; omega))
      clear K0 N0 B0 hb1 K
      have n0 := N1.out.cell 0
      have n2 := N1.out.cell 2
      simp only [List.getElem?_toArray, List.getElem?_cons_zero, List.getElem?_cons_succ] at n0 n2
      go_upto_region 5 with (first
        | (go_at_call_of 61 (Value.int IntKind.i64 4096); with_reducible refine (RA _).mono ?_; rintro e w2 ⟨rfl, rfl⟩)
        | (go_at_call_of 61 (Value.int IntKind.i64 65536); with_reducible refine (RB _).mono ?_; rintro e w2 ⟨rfl, rfl⟩))
      have K2 : Hid (InAt (w1.alloc (.cells #[.int .i64 ps, .int .i64 pq] 121)) b S r pr mr sr mb nb N) := K1.out.next ((Below.refl _ _).alloc (Nat.le_refl _) _)
      have N2 : Hid (Bk (w1.alloc (.cells #[.int .i64 ps, .int .i64 pq] 121)) c #[.int .i64 ps, .int .i64 pd, .int .i64 pq, .string px] 61) := N1.out.alloc _
      have M2 : Hid (Bk (w1.alloc (.cells #[.int .i64 ps, .int .i64 pq] 121)) w1.heap.size #[.int .i64 ps, .int .i64 pq] 121) := Bk.new _ _ _
      have B2 : Hid (Below c w (w1.alloc (.cells #[.int .i64 ps, .int .i64 pq] 121))) := B1.out.alloc (Nat.le_of_lt N1.out.lt) _
      clear K1 N1 B1 n0 n2
      generalize w1.alloc (.cells #[.int .i64 ps, .int .i64 pq] 121) = v2 at *
      generalize w1.heap.size = d at *
      obtain ⟨⟨xs, xd, xq, xx⟩, hlk⟩ := WT2.out v2 K2.out
      simp only at hlk
      have m0 := M2.out.cell 0
      have m1 := M2.out.cell 1
      simp only [List.getElem?_toArray, List.getElem?_cons_zero, List.getElem?_cons_succ] at m0 m1
      go_wp2_with (first | (at_lookup; refine wpList_mlook rfl _ _ _ _ rfl rfl rfl hlk ?_) | go_in)
      go_ret
      have bb : Below w.heap.size w (v2.alloc (.cells #[.int .i64 xs, .int .i64 xd, .int .i64 xq, .string xx] 61)) := by rw [HC.out]; exact B2.out.alloc (Nat.le_of_lt N2.out.lt) _
      exact ⟨rfl, ⟨OK.out, r, pr, mr, sr, mb, nb, N, K2.out.next ((Below.refl _ _).alloc (Nat.le_refl _) _), rfl⟩, Gr.of bb⟩
  · have e1 : comeE S p = 1 := by unfold comeE; rw [if_neg hin]
    have e2 : comeS S p = S := by unfold comeS; rw [if_neg hin]
    rw [e1, e2]
    have e12 : R1 = false ∨ R1 = true ∧ R2 = false := by
      have : (R1 && R2) = false := DEC.trans (decide_eq_false hin)
      cases R1
      · exact Or.inl rfl
      · exact Or.inr ⟨rfl, by simpa using this⟩
    clear WT PT DEC C1 hin e1 e2
    obtain ⟨ps, pd, pq, px⟩ := p
    simp only [sti, pkv, pkc, Option.isNone] at *
    have f1 := fld1 (.pointer (some ⟨r, 0, none⟩)) (.map (some mb)) (.map (some nb))
    go_enter Tryz.func38, Tryz.ntmps38
    go_upto_region 1 with fail
    generalize w.alloc (.cells #[.int .i64 ps, .int .i64 pd, .int .i64 pq, .string px] 61) = v at *
    obtain ⟨c, hc⟩ : ∃ c, w.heap.size = c := ⟨_, rfl⟩
    have HC : Hid (w.heap.size = c) := hc
    rw [hc] at B0 N0 nF ⊢
    clear hc
    go_upto_region 2 with (go_at_call 60; with_reducible refine K.mono ?_; rintro e w1 ⟨rfl, hb1⟩)
    have K1 : Hid (InAt w1 b S r pr mr sr mb nb N) := K0.out.next hb1
    have N1 : Hid (Bk w1 c #[.int .i64 ps, .int .i64 pd, .int .i64 pq, .string px] 61) := N0.out.next hb1
    have B1 : Hid (Below c w w1) := B0.out.trans (hb1.mono (by have := N0.out.lt; omega))
    clear K0 N0 B0 hb1 K
    have n0 := N1.out.cell 0
    have n2 := N1.out.cell 2
    simp only [List.getElem?_toArray, List.getElem?_cons_zero, List.getElem?_cons_succ] at n0 n2
    rcases e12 with rfl | ⟨rfl, rfl⟩
    all_goals
      go_wp2_with (first
        | (go_at_call_of 61 (Value.int IntKind.i64 4096); with_reducible refine (RA _).mono ?_; rintro e w2 ⟨rfl, rfl⟩)
        | (go_at_call_of 61 (Value.int IntKind.i64 65536); with_reducible refine (RB _).mono ?_; rintro e w2 ⟨rfl, rfl⟩))
      go_ret
      exact ⟨rfl, ⟨OK.out, r, pr, mr, sr, mb, nb, N, K1.out, rfl⟩, Gr.of (by rw [HC.out]; exact B1.out)⟩
end Go.Proofs.YtoejpngdkcnnhaaGreat.I

namespace Go.Proofs.YtoejpngdkcnnhaaGreat.I
open Go.RowKit

theorem wrap_small {a : Int} (h0 : -1000000 ≤ a) (h1 : a ≤ 1000000) : IntKind.i64.wrap a = a := (IntWalk.i64_left a).trans (IntWalk.wrap64_in a (by omega))
theorem push_rp {S : IS} {s : RP.RingSt} (ok : IOk S) (hr : s.room = (S.n : Int)) (hl : s.laid = false) (hx : s.xs = S.L) (h : S.L.length < S.n) (p : Pk) :
    RP.layE s = 0 ∧ (RP.pushS s p).room = s.room ∧ (RP.pushS s p).laid = false ∧ (RP.pushS s p).xs = S.L ++ [p] := by
  have n1 := ok.n1
  have n64 := ok.n64
  have hfree : s.free = (S.n : Int) - (S.L.length : Int) := by
    rw [RP.RingSt.free, hr, hl, hx]
    simp [RP.one]
    omega
  have e : RP.layE s = 0 := by
    unfold RP.layE
    rw [hl, hfree, if_neg (by decide), if_neg (by omega)]
  unfold RP.pushS
  rw [e, if_pos rfl]
  exact ⟨rfl, rfl, rfl, by show s.xs ++ [p] = S.L ++ [p]; rw [hx]⟩
set_option maxRecDepth 100000 in
set_option maxHeartbeats 4000000 in
/-- None is told: nothing that was there turns. -/
theorem tell_no {w : World} {b : Nat} {S : IS} {F : Nat → Prop} (h : In w b S F) (hno : tellB S = false) : Calls Tryz.prog 41 #[.pointer (some ⟨b, 0, none⟩)] w fun e w' => e = .returned (.bool false) ∧ Below w.heap.size w w' := by
  obtain ⟨ok, r, pr, mr, sr, mb, nb, N, hA, rfl⟩ := h
  have OK : Hid (IOk S) := ok
  have K := ilook_blk hA.blk
  have HA : Hid (InAt w b S r pr mr sr mb nb N) := hA
  obtain ⟨X, hX⟩ : ∃ X : Int, X = (S.n : Int) - (S.L.length : Int) := ⟨_, rfl⟩
  have RM : Hid (∀ V : World, InAt V b S r pr mr sr mb nb N → Calls Tryz.prog 62 #[.pointer (some ⟨r, 0, none⟩)] V fun e w' => e = .returned (.int .i64 X) ∧ ∃ n, w' = V.drewN n) := show _ from fun V hV => by
    have := RP.ring_room hV.rg
    have e : sr.free = X := by
      have h1 := OK.out.n1
      have h2 := OK.out.n64
      rw [RP.RingSt.free, hV.room, hV.laid, hV.xs, hX]
      simp [RP.one]
      omega
    rwa [e] at this
  have L : Hid (∀ V : World, InAt V b S r pr mr sr mb nb N → Calls Tryz.prog 63 #[.agg (sti r mb nb)] V fun e w' => e = .returned (fstV (rdy S)) ∧ Below V.heap.size V w') := show _ from fun V hV => first_any V hV.mp hV.np OK.out.rng OK.out.ap hV.nk hV.nx
  clear hA
  by_cases hroom : S.L.length < S.n
  · have hx0 : (X == 0) = false := by rw [hX]; simp; omega
    have hrd : rdy S = none := by
      cases hc : rdy S with
      | none => rfl
      | some p =>
        unfold tellB at hno
        rw [hc] at hno
        simp [hroom] at hno
    rw [hrd] at L
    clear hno hX ok hroom hrd
    simp only [fstV, fs, fq, Option.isSome_none] at L
    have nF : Hid (∀ g, w.heap.size ≤ g → ¬ fi b r pr mb nb g) := show _ from fun g hg c => by have := HA.out.lt g c; omega
    simp only [sti, mkv] at *
    go_enter Tryz.func41, Tryz.ntmps41
    go_upto_region 2 with (go_at_call 60; with_reducible refine K.mono ?_; rintro e w1 ⟨rfl, hb1⟩)
    have K2 : Hid (InAt (w1.alloc (.cells #[.pointer (some ⟨r, 0, none⟩), .map (some mb), .map (some nb)] 100)) b S r pr mr sr mb nb N) := HA.out.next (hb1.alloc hb1.size _)
    have S2 : Hid (Bk (w1.alloc (.cells #[.pointer (some ⟨r, 0, none⟩), .map (some mb), .map (some nb)] 100)) w1.heap.size #[.pointer (some ⟨r, 0, none⟩), .map (some mb), .map (some nb)] 100) := Bk.new _ _ _
    have B2 : Hid (Below w.heap.size w (w1.alloc (.cells #[.pointer (some ⟨r, 0, none⟩), .map (some mb), .map (some nb)] 100))) := hb1.alloc hb1.size _
    have hcw : w.heap.size ≤ w1.heap.size := hb1.size
    clear HA K hb1
    generalize w1.alloc (.cells #[.pointer (some ⟨r, 0, none⟩), .map (some mb), .map (some nb)] 100) = v at *
    generalize w1.heap.size = c at *
    have s0 := S2.out.cell 0
    simp only [List.getElem?_toArray, List.getElem?_cons_zero] at s0
    go_upto_region 4 with (go_at_call 62; with_reducible refine (RM.out _ K2.out).mono ?_; rintro e w2 ⟨rfl, n, rfl⟩)
    have K3 : Hid (InAt (v.drewN n) b S r pr mr sr mb nb N) := K2.out.next (dn (Below.refl _ _) n)
    have S3 : Hid (Bk (v.drewN n) c #[.pointer (some ⟨r, 0, none⟩), .map (some mb), .map (some nb)] 100) := S2.out.next (dn (Below.refl _ _) n)
    have B3 : Hid (Below w.heap.size w (v.drewN n)) := dn B2.out n
    clear K2 S2 B2 s0 RM
    generalize v.drewN n = v3 at *
    have s0 := S3.out.cell 0
    have s1 := S3.out.cell 1
    have s2 := S3.out.cell 2
    simp only [List.getElem?_toArray, List.getElem?_cons_zero, List.getElem?_cons_succ] at s0 s1 s2
    go_wp2_with (go_at_call 63; with_reducible refine (L.out _ K3.out).mono ?_; rintro e w4 ⟨rfl, hb4⟩)
    go_ret
    have bb := hb4.alloc hb4.size (.cells #[.int .i64 0, .int .i64 0] 121)
    exact ⟨rfl, B3.out.trans (bb.mono B3.out.size)⟩
  · have hx0 : (X == 0) = true := by
      have := OK.out.len
      rw [hX]
      simp
      omega
    clear hno hX ok hroom L
    have nF : Hid (∀ g, w.heap.size ≤ g → ¬ fi b r pr mb nb g) := show _ from fun g hg c => by have := HA.out.lt g c; omega
    simp only [sti] at *
    go_enter Tryz.func41, Tryz.ntmps41
    go_upto_region 2 with (go_at_call 60; with_reducible refine K.mono ?_; rintro e w1 ⟨rfl, hb1⟩)
    have K2 : Hid (InAt (w1.alloc (.cells #[.pointer (some ⟨r, 0, none⟩), .map (some mb), .map (some nb)] 100)) b S r pr mr sr mb nb N) := HA.out.next (hb1.alloc hb1.size _)
    have S2 : Hid (Bk (w1.alloc (.cells #[.pointer (some ⟨r, 0, none⟩), .map (some mb), .map (some nb)] 100)) w1.heap.size #[.pointer (some ⟨r, 0, none⟩), .map (some mb), .map (some nb)] 100) := Bk.new _ _ _
    have B2 : Hid (Below w.heap.size w (w1.alloc (.cells #[.pointer (some ⟨r, 0, none⟩), .map (some mb), .map (some nb)] 100))) := hb1.alloc hb1.size _
    have hcw : w.heap.size ≤ w1.heap.size := hb1.size
    clear HA K hb1
    generalize w1.alloc (.cells #[.pointer (some ⟨r, 0, none⟩), .map (some mb), .map (some nb)] 100) = v at *
    generalize w1.heap.size = c at *
    have s0 := S2.out.cell 0
    simp only [List.getElem?_toArray, List.getElem?_cons_zero] at s0
    go_wp2_with (go_at_call 62; with_reducible refine (RM.out _ K2.out).mono ?_; rintro e w2 ⟨rfl, n, rfl⟩)
    go_ret
    exact ⟨rfl, dn B2.out n⟩
set_option maxRecDepth 100000 in
set_option maxHeartbeats 4000000 in
theorem tell_yes {w : World} {b : Nat} {S : IS} {F : Nat → Prop} (h : In w b S F) (hyes : tellB S = true) : Calls Tryz.prog 41 #[.pointer (some ⟨b, 0, none⟩)] w fun e w' => ∃ F', e = .returned (.bool true) ∧ In w' b (tellS S) F' ∧ Gr F w w' F' := by
  obtain ⟨ok, r, pr, mr, sr, mb, nb, N, hA, rfl⟩ := h
  have OK : Hid (IOk S) := ok
  have K := ilook_blk hA.blk
  have HA : Hid (InAt w b S r pr mr sr mb nb N) := hA
  obtain ⟨X, hX⟩ : ∃ X : Int, X = (S.n : Int) - (S.L.length : Int) := ⟨_, rfl⟩
  have RM : Hid (∀ V : World, InAt V b S r pr mr sr mb nb N → Calls Tryz.prog 62 #[.pointer (some ⟨r, 0, none⟩)] V fun e w' => e = .returned (.int .i64 X) ∧ ∃ n, w' = V.drewN n) := show _ from fun V hV => by
    have := RP.ring_room hV.rg
    have e : sr.free = X := by
      have h1 := OK.out.n1
      have h2 := OK.out.n64
      rw [RP.RingSt.free, hV.room, hV.laid, hV.xs, hX]
      simp [RP.one]
      omega
    rwa [e] at this
  have L : Hid (∀ V : World, InAt V b S r pr mr sr mb nb N → Calls Tryz.prog 63 #[.agg (sti r mb nb)] V fun e w' => e = .returned (fstV (rdy S)) ∧ Below V.heap.size V w') := show _ from fun V hV => first_any V hV.mp hV.np OK.out.rng OK.out.ap hV.nk hV.nx
  clear hA
  have TC := tell_cases S
  have hroom : S.L.length < S.n := by
    unfold tellB at hyes
    simp at hyes
    exact hyes.1
  have hx0 : (X == 0) = false := by rw [hX]; simp; omega
  obtain ⟨p, hrd⟩ : ∃ p, rdy S = some p := by
    unfold tellB at hyes
    simp at hyes
    exact Option.isSome_iff_exists.1 hyes.2
  clear hyes
  have e12 : tellS S = told S p ∧ tellB S = true := by
    rcases TC with ⟨_, ⟨hp, _⟩ | ⟨q, hp, h⟩⟩ | ⟨h, _⟩
    · rw [hrd] at hp; cases hp
    · rw [hrd] at hp; cases hp; exact h
    · exact absurd hroom h
  rw [e12.1]
  rw [hrd] at L
  have pW := (pick_some hrd).1
  have pR := OK.out.rng p pW
  have OKT : Hid (IOk (told S p)) := OK.out.told hroom
  have LW : Hid (∀ V : World, InAt V b S r pr mr sr mb nb N → (Instr.lookup 97 (.map (some mb)) (mkv p.s p.q) false).run Tryz.prog V = .ok (pkv p) V) := show _ from fun V hV => look_wait hV.mp OK.out.rng pW false
  have PU : Hid (∀ V : World, InAt V b S r pr mr sr mb nb N → Calls Tryz.prog 64 #[.pointer (some ⟨r, 0, none⟩), pkv p] V fun e w' => e = .returned (.int .i64 0) ∧ ∃ pr' mr' sr', InAt w' b { S with L := S.L ++ [p] } r pr' mr' sr' mb nb N ∧ Gr (fi b r pr mb nb) V w' (fi b r pr' mb nb)) := show _ from fun V hV => by
    obtain ⟨k1, k2, k3, k4⟩ := push_rp OK.out hV.room hV.laid hV.xs hroom p
    refine (RP.ring_push hV.rg p).mono ?_
    rintro e w' ⟨rfl, hs⟩
    rw [k1]
    obtain ⟨pr', mr', h1, h2⟩ := hV.step hs k2 k3 k4
    exact ⟨rfl, pr', mr', _, h1, h2⟩
  have DE : Hid (∀ (V : World) (pr' mr' : Nat) (sr' : RP.RingSt) (ty : TypeId), InAt V b { S with L := S.L ++ [p] } r pr' mr' sr' mb nb N → ∃ w', (Builtin.delete_ #[97, 121] ty #[.map (some mb), mkv p.s p.q]).run Tryz.prog V = .ok (.tuple #[]) w' ∧ InAt w' b { S with L := S.L ++ [p], W := strike S.W p } r pr' mr' sr' mb nb N ∧ Gr (fi b r pr' mb nb) V w' (fi b r pr' mb nb)) := show _ from fun V pr' mr' sr' ty hV => by
    obtain ⟨w', r1, r2, r3⟩ := del_wait hV.mp OK.out.rng OK.out.ap pW ty
    obtain ⟨h1, h2⟩ := hV.wait r3 r2
    exact ⟨w', r1, h1, h2⟩
  obtain ⟨Q, hQ⟩ : ∃ Q : Int, Q = (p.q + 1) % 65536 := ⟨_, rfl⟩
  have NU : Hid (∀ (V : World) (pr' mr' : Nat) (sr' : RP.RingSt), InAt V b { S with L := S.L ++ [p], W := strike S.W p } r pr' mr' sr' mb nb N → ∃ w' N', (Instr.mapUpdate 98 (.map (some nb)) (.int .i64 p.s) (.int .i64 Q)).run Tryz.prog V = .ok () w' ∧ InAt w' b (told S p) r pr' mr' sr' mb nb N' ∧ Gr (fi b r pr' mb nb) V w' (fi b r pr' mb nb)) := show _ from fun V pr' mr' sr' hV => by
    obtain ⟨w', N', r1, r2, r3, r4, r5⟩ := put_next (q := Q) hV.np hV.nk pR.1 pR.2.1
    obtain ⟨h1, h2⟩ := hV.number (nx' := upd S.nx p.s ((p.q + 1) % 65536)) r3 r2 (fun s => by
      rw [r5 s, hQ]
      unfold upd
      by_cases c : s = p.s
      · rw [if_pos c, if_pos c]
      · rw [if_neg c, if_neg c]; exact hV.nx s) r4
    exact ⟨w', N', r1, h1, h2⟩
  have HQ : Hid (Q = (p.q + 1) % 65536) := hQ
  have HPR : Hid (0 ≤ p.q ∧ p.q < 65536) := ⟨pR.2.2.1, pR.2.2.2⟩
  clear TC e12 hX ok hroom hrd pW pR hQ
  generalize told S p = S' at *
  generalize strike S.W p = W' at *
  have HL : Hid (S.L ++ [p] = S.L ++ [p]) := rfl
  generalize hL' : S.L ++ [p] = L' at *
  clear hL' HL
  obtain ⟨ps, pd, pq, px⟩ := p
  simp only [fstV, fs, fq, Option.isSome_some, pkv, pkc] at *
  have nF : Hid (∀ g, w.heap.size ≤ g → ¬ fi b r pr mb nb g) := show _ from fun g hg c => by have := HA.out.lt g c; omega
  simp only [sti, mkv] at *
  go_enter Tryz.func41, Tryz.ntmps41
  go_upto_region 2 with (go_at_call 60; with_reducible refine K.mono ?_; rintro e w1 ⟨rfl, hb1⟩)
  have K2 : Hid (InAt (w1.alloc (.cells #[.pointer (some ⟨r, 0, none⟩), .map (some mb), .map (some nb)] 100)) b S r pr mr sr mb nb N) := HA.out.next (hb1.alloc hb1.size _)
  have S2 : Hid (Bk (w1.alloc (.cells #[.pointer (some ⟨r, 0, none⟩), .map (some mb), .map (some nb)] 100)) w1.heap.size #[.pointer (some ⟨r, 0, none⟩), .map (some mb), .map (some nb)] 100) := Bk.new _ _ _
  have B2 : Hid (Below w.heap.size w (w1.alloc (.cells #[.pointer (some ⟨r, 0, none⟩), .map (some mb), .map (some nb)] 100))) := hb1.alloc hb1.size _
  have hcw : w.heap.size ≤ w1.heap.size := hb1.size
  clear HA K hb1
  generalize w1.alloc (.cells #[.pointer (some ⟨r, 0, none⟩), .map (some mb), .map (some nb)] 100) = v at *
  generalize w1.heap.size = c at *
  have s0 := S2.out.cell 0
  simp only [List.getElem?_toArray, List.getElem?_cons_zero] at s0
  go_upto_region 4 with (go_at_call 62; with_reducible refine (RM.out _ K2.out).mono ?_; rintro e w2 ⟨rfl, n, rfl⟩)
  have K3 : Hid (InAt (v.drewN n) b S r pr mr sr mb nb N) := K2.out.next (dn (Below.refl _ _) n)
  have S3 : Hid (Bk (v.drewN n) c #[.pointer (some ⟨r, 0, none⟩), .map (some mb), .map (some nb)] 100) := S2.out.next (dn (Below.refl _ _) n)
  have B3 : Hid (Below w.heap.size w (v.drewN n)) := dn B2.out n
  clear K2 S2 B2 s0 RM
  generalize v.drewN n = v3 at *
  have s0 := S3.out.cell 0
  have s1 := S3.out.cell 1
  have s2 := S3.out.cell 2
  simp only [List.getElem?_toArray, List.getElem?_cons_zero, List.getElem?_cons_succ] at s0 s1 s2
  go_upto_region 7 with (go_at_call 63; with_reducible refine (L.out _ K3.out).mono ?_; rintro e w4 ⟨rfl, hb4⟩)
  have K4 : Hid (InAt (w4.alloc (.cells #[.int .i64 ps, .int .i64 pq] 121)) b S r pr mr sr mb nb N) := K3.out.next (hb4.alloc hb4.size _)
  have S4 : Hid (Bk (w4.alloc (.cells #[.int .i64 ps, .int .i64 pq] 121)) c #[.pointer (some ⟨r, 0, none⟩), .map (some mb), .map (some nb)] 100) := S3.out.next (hb4.alloc hb4.size _)
  have M4 : Hid (Bk (w4.alloc (.cells #[.int .i64 ps, .int .i64 pq] 121)) w4.heap.size #[.int .i64 ps, .int .i64 pq] 121) := Bk.new _ _ _
  have B4 : Hid (Below w.heap.size w (w4.alloc (.cells #[.int .i64 ps, .int .i64 pq] 121))) := B3.out.trans ((hb4.alloc hb4.size _).mono B3.out.size)
  have hdw : w.heap.size ≤ w4.heap.size := Nat.le_trans B3.out.size hb4.size
  clear K3 S3 B3 s0 s1 s2 L hb4
  generalize w4.alloc (.cells #[.int .i64 ps, .int .i64 pq] 121) = v4 at *
  generalize w4.heap.size = d at *
  have s0 := S4.out.cell 0
  have s1 := S4.out.cell 1
  have m0 := M4.out.cell 0
  have m1 := M4.out.cell 1
  simp only [List.getElem?_toArray, List.getElem?_cons_zero, List.getElem?_cons_succ] at s0 s1 m0 m1
  have LK := LW.out v4 K4.out
  have LK2 := LW.out v4.drew (K4.out.next (Below.refl _ _).drew)
  go_still_tail 6, (by kernel_rfl)
  change wpList _ _ _ _ _ v4.drew
  have K5 : Hid (InAt v4.drew b S r pr mr sr mb nb N) := K4.out.next (Below.refl _ _).drew
  have S5 : Hid (Bk v4.drew c #[.pointer (some ⟨r, 0, none⟩), .map (some mb), .map (some nb)] 100) := S4.out.next (Below.refl _ _).drew
  have M5 : Hid (Bk v4.drew d #[.int .i64 ps, .int .i64 pq] 121) := M4.out.next (Below.refl _ _).drew
  have B5 : Hid (Below w.heap.size w v4.drew) := B4.out.drew
  clear K4 S4 M4 B4 s0 s1 m0 m1 LK LK2 LW
  generalize v4.drew = v5 at *
  go_upto_region 8 with (go_at_call 64; with_reducible refine (PU.out _ K5.out).mono ?_; rintro e w6 ⟨rfl, pr', mr', sr', K6, G6⟩)
  have HK6 : Hid (InAt w6 b { S with L := L' } r pr' mr' sr' mb nb N) := K6
  have HG6 : Hid (Gr (fi b r pr mb nb) w w6 (fi b r pr' mb nb)) := G6.after B5.out
  have S6 : Hid (Bk w6 c #[.pointer (some ⟨r, 0, none⟩), .map (some mb), .map (some nb)] 100) := S5.out.gr G6 (nF.out c hcw)
  have M6 : Hid (Bk w6 d #[.int .i64 ps, .int .i64 pq] 121) := M5.out.gr G6 (nF.out d hdw)
  have nC : ¬ fi b r pr' mb nb c := G6.off (nF.out c hcw) S5.out.lt
  have nD : ¬ fi b r pr' mb nb d := G6.off (nF.out d hdw) M5.out.lt
  have NC : Hid (¬ fi b r pr' mb nb c) := nC
  have ND : Hid (¬ fi b r pr' mb nb d) := nD
  clear K5 S5 M5 B5 PU K6 G6 nC nD
  have s1 := S6.out.cell 1
  have m0 := M6.out.cell 0
  have m1 := M6.out.cell 1
  simp only [List.getElem?_toArray, List.getElem?_cons_zero, List.getElem?_cons_succ] at s1 m0 m1
  obtain ⟨w7, hdel, K7, G7⟩ := DE.out w6 pr' mr' sr' 0 HK6.out
  have HK7 : Hid (InAt w7 b { S with L := L', W := W' } r pr' mr' sr' mb nb N) := K7
  have HG7 : Hid (Gr (fi b r pr mb nb) w w7 (fi b r pr' mb nb)) := HG6.out.trans G7
  have S7 : Hid (Bk w7 c #[.pointer (some ⟨r, 0, none⟩), .map (some mb), .map (some nb)] 100) := S6.out.gr G7 NC.out
  have M7 : Hid (Bk w7 d #[.int .i64 ps, .int .i64 pq] 121) := M6.out.gr G7 ND.out
  clear HK6 HG6 S6 M6 DE K7 G7
  go_upto_region 9 with (first | (at_delete; refine wpList_mdel rfl _ _ _ _ rfl rfl rfl hdel ?_) | go_in)
  clear s1 m0 m1 hdel
  have s2 := S7.out.cell 2
  have m0 := M7.out.cell 0
  have m1 := M7.out.cell 1
  simp only [List.getElem?_toArray, List.getElem?_cons_zero, List.getElem?_cons_succ] at s2 m0 m1
  obtain ⟨w8, N', hput, K8, G8⟩ := NU.out w7 pr' mr' sr' HK7.out
  have HK8 : Hid (InAt w8 b S' r pr' mr' sr' mb nb N') := K8
  have HG8 : Hid (Gr (fi b r pr mb nb) w w8 (fi b r pr' mb nb)) := HG7.out.trans G8
  obtain ⟨Q1, hQ1⟩ : ∃ Q1, pq + 1 = Q1 := ⟨_, rfl⟩
  have a1 : IntKind.i64.wrap (pq + 1) = Q1 := by
    have := HPR.out
    rw [hQ1]
    exact wrap_small (by omega) (by omega)
  have a2 : Q1.tmod 65536 = Q := by
    have := HPR.out
    rw [HQ.out, ← hQ1]
    exact Int.tmod_eq_emod_of_nonneg (by omega)
  clear hQ1 K8 G8 NU HK7 HG7
  go_wp2_with (first | (at_mapUpdate; refine wpList_mput rfl _ _ _ _ rfl rfl rfl rfl hput ?_) | go_in)
  go_ret
  exact ⟨_, rfl, ⟨OKT.out, r, pr', mr', sr', mb, nb, N', HK8.out, rfl⟩, HG8.out⟩
theorem inbox_tell {w : World} {b : Nat} {S : IS} {F : Nat → Prop} (h : In w b S F) : Calls Tryz.prog 41 #[.pointer (some ⟨b, 0, none⟩)] w fun e w' => ∃ F', e = .returned (.bool (tellB S)) ∧ In w' b (tellS S) F' ∧ Gr F w w' F' := by
  cases hb : tellB S with
  | false =>
    have e : tellS S = S := by
      rcases tell_cases S with ⟨_, ⟨_, h, _⟩ | ⟨p, _, _, h⟩⟩ | ⟨_, h, _⟩
      · exact h
      · rw [hb] at h; cases h
      · exact h
    rw [e]
    refine (tell_no h hb).mono ?_
    rintro e w' ⟨rfl, k⟩
    exact ⟨F, rfl, h.next k, Gr.of k⟩
  | true => exact tell_yes h hb
end Go.Proofs.YtoejpngdkcnnhaaGreat.I

namespace Go.Proofs.YtoejpngdkcnnhaaGreat.I
open Go.RowKit

/-- The law's other blocks are as they were. -/
structure Kp (O : Nat → Prop) (w w' : World) : Prop where
  size : w.heap.size ≤ w'.heap.size
  on : ∀ g, O g → w'.heap[g]? = w.heap[g]?
theorem Kp.refl (O : Nat → Prop) (w : World) : Kp O w w := ⟨Nat.le_refl _, fun _ _ => rfl⟩
theorem Kp.trans {O : Nat → Prop} {w v u : World} (h : Kp O w v) (k : Kp O v u) : Kp O w u := ⟨Nat.le_trans h.size k.size, fun g hg => (k.on g hg).trans (h.on g hg)⟩
theorem Bk.kp {O : Nat → Prop} {w w' : World} {k : Nat} {cs : Array Value} {t : TypeId} (h : Bk w k cs t) (hk : Kp O w w') (ho : O k) : Bk w' k cs t := by
  unfold Bk
  rw [hk.on k ho]
  exact h
theorem OwnK.kp {O : Nat → Prop} {e : TypeId} {k : Nat} {w w' : World} {B n : Nat} {v : Value} {cs : List Value} (h : OwnK e k w B v n cs) (hk : Kp O w w') (ho : ∀ q, v.ownBlock = some q → O q) : OwnK e k w' B v n cs := by
  refine ⟨h.1, ?_⟩
  rcases h.2 with hn | ⟨g, cap, cur, e1, hB, hh, r⟩
  · exact Or.inl hn
  · exact Or.inr ⟨g, cap, cur, e1, hB, by rw [hk.on g (ho g (by rw [e1]; rfl))]; exact hh, r⟩
/-- A law's inbox since w0. -/
structure Ix (w0 w : World) (b : Nat) (S : IS) (O : Nat → Prop) : Prop where
  ex : ∃ F, In w b S F ∧ ∀ g, F g → w0.heap.size ≤ g ∧ ¬ O g
  bl : Below w0.heap.size w0 w
  lt : ∀ g, O g → g < w.heap.size
section
variable {w0 w w' : World} {b : Nat} {S : IS} {O : Nat → Prop}
theorem Ix.ok (h : Ix w0 w b S O) : IOk S := by
  obtain ⟨F, hI, _⟩ := h.ex
  exact hI.ok
theorem Ix.size (h : Ix w0 w b S O) : w0.heap.size ≤ w.heap.size := h.bl.size
theorem Ix.step {F F' : Nat → Prop} {S' : IS} (hF : ∀ g, F g → w0.heap.size ≤ g ∧ ¬ O g) (hb : Below w0.heap.size w0 w) (hO : ∀ g, O g → g < w.heap.size) (h' : In w' b S' F') (hg : Gr F w w' F') : Ix w0 w' b S' O ∧ Kp O w w' := by
  refine ⟨⟨⟨F', h', fun g hgF => ?_⟩, hg.under hb (fun g hgF => (hF g hgF).1) hb.size, fun g ho => Nat.lt_of_lt_of_le (hO g ho) hg.size⟩, ⟨hg.size, fun g ho => hg.block g (hO g ho) fun c => (hF g c).2 ho⟩⟩
  rcases hg.news g hgF with c | c
  · exact hF g c
  · exact ⟨Nat.le_trans hb.size c, fun ho => by have := hO g ho; omega⟩
theorem Ix.next (h : Ix w0 w b S O) (hb : Below w.heap.size w w') : Ix w0 w' b S O ∧ Kp O w w' := by
  obtain ⟨⟨F, hI, hF⟩, bl, lt⟩ := h
  exact Ix.step hF bl lt (hI.next hb) (Gr.of hb)
theorem Ix.drew (h : Ix w0 w b S O) (n : Nat) : Ix w0 (w.drewN n) b S O := (h.next (dn (Below.refl _ _) n)).1
/-- Other blocks beside it; one of them, or a new one, has turned. -/
theorem Ix.grow {O' : Nat → Prop} {r : Option Nat} (h : Ix w0 w b S O) (hg : w.grownBy w' r) (hr : ∀ q, r = some q → O q ∧ w0.heap.size ≤ q) (hO : ∀ g, O' g → (O g ∨ w.heap.size ≤ g) ∧ g < w'.heap.size) : Ix w0 w' b S O' := by
  obtain ⟨⟨F, hI, hF⟩, bl, lt⟩ := h
  refine ⟨⟨F, hI.kept hg fun q hq c => (hF q c).2 (hr q hq).1, fun g hgF => ⟨(hF g hgF).1, fun ho => ?_⟩⟩, bl.grown hg bl.size (fun k e => (hr k e).2), fun g ho => (hO g ho).2⟩
  rcases (hO g ho).1 with c | c
  · exact (hF g hgF).2 c
  · have := hI.lt g hgF
    omega
/-- Fewer blocks to be kept, or others that are none of its. -/
theorem Ix.less {O' : Nat → Prop} (h : Ix w0 w b S O) (hO : ∀ g, O' g → O g) : Ix w0 w b S O' := by
  obtain ⟨⟨F, hI, hF⟩, bl, lt⟩ := h
  exact ⟨⟨F, hI, fun g hgF => ⟨(hF g hgF).1, fun ho => (hF g hgF).2 (hO g ho)⟩⟩, bl, fun g ho => lt g (hO g ho)⟩
theorem Ix.alloc (h : Ix w0 w b S O) (o : Obj) : Ix w0 (w.alloc o) b S fun g => O g ∨ g = w.heap.size := by
  have hg : w.grownBy (w.alloc o) none := ⟨rfl, rfl, rfl, by simp, fun i hi _ => Below.heap_alloc w o i hi⟩
  refine h.grow hg (fun _ e => by cases e) fun g hgO => ?_
  rcases hgO with c | rfl
  · exact ⟨Or.inl c, by have := h.lt g c; simp; omega⟩
  · exact ⟨Or.inr (Nat.le_refl _), by simp⟩
theorem Ix.alloc' (h : Ix w0 w b S O) (o : Obj) : Ix w0 (w.alloc o) b S O := (h.alloc o).less fun _ c => Or.inl c
theorem Ix.set {k j : Nat} {x : Value} (h : Ix w0 w b S O) (hk : O k) (h0 : w0.heap.size ≤ k) : Ix w0 (w.setCell ⟨k, j, none⟩ x) b S O :=
  h.grow (r := some k) ⟨rfl, rfl, rfl, by simp, fun i _ hne => Below.heap_setCell w ⟨k, j, none⟩ x i fun e => hne (by rw [e])⟩ (fun q e => by cases e; exact ⟨hk, h0⟩) (fun g hg => ⟨Or.inl hg, by have := h.lt g hg; simpa using this⟩)
theorem ix_come (h : Ix w0 w b S O) (p : Pk) : Calls Tryz.prog 38 #[.pointer (some ⟨b, 0, none⟩), pkv p] w fun e w' => e = .returned (.int .i64 (comeE S p)) ∧ Ix w0 w' b (comeS S p) O ∧ Kp O w w' := by
  obtain ⟨⟨F, hI, hF⟩, bl, lt⟩ := h
  refine (inbox_come hI p).mono ?_
  rintro e w' ⟨rfl, h2, h3⟩
  exact ⟨rfl, Ix.step hF bl lt h2 h3⟩
theorem ix_tell (h : Ix w0 w b S O)  : Calls Tryz.prog 41 #[.pointer (some ⟨b, 0, none⟩)] w fun e w' => e = .returned (.bool (tellB S)) ∧ Ix w0 w' b (tellS S) O ∧ Kp O w w' := by
  obtain ⟨⟨F, hI, hF⟩, bl, lt⟩ := h
  refine (inbox_tell hI ).mono ?_
  rintro e w' ⟨F', rfl, h2, h3⟩
  exact ⟨rfl, Ix.step hF bl lt h2 h3⟩
theorem ix_recv (h : Ix w0 w b S O)  : Calls Tryz.prog 42 #[.pointer (some ⟨b, 0, none⟩)] w fun e w' => e = .returned (.tuple #[pkv (recvV S), .int .i64 (recvE S)]) ∧ Ix w0 w' b (recvS S) O ∧ Kp O w w' := by
  obtain ⟨⟨F, hI, hF⟩, bl, lt⟩ := h
  refine (inbox_recv hI ).mono ?_
  rintro e w' ⟨F', rfl, h2, h3⟩
  exact ⟨rfl, Ix.step hF bl lt h2 h3⟩
theorem ix_waits (h : Ix w0 w b S O)  : Calls Tryz.prog 40 #[.pointer (some ⟨b, 0, none⟩)] w fun e w' => e = .returned (.int .i64 (S.W.length : Int)) ∧ Ix w0 w' b (S) O ∧ Kp O w w' := by
  obtain ⟨F, hI, _⟩ := h.ex
  refine (inbox_waits hI ).mono ?_
  rintro e w' ⟨rfl, h2⟩
  exact ⟨rfl, h.next h2⟩
end
theorem ix_new {w0 w : World} {O : Nat → Prop} (hb : Below w0.heap.size w0 w) (lt : ∀ g, O g → g < w.heap.size) (room : Int) : Calls Tryz.prog 26 #[.int .i64 room] w fun e w' => ∃ b, e = .returned (.pointer (some ⟨b, 0, none⟩)) ∧ Ix w0 w' b (newI (roomN room)) O ∧ Kp O w w' := by
  refine (inbox_new room w).mono ?_
  rintro e w' ⟨b, F, rfl, h2, h3, h4⟩
  have hs := hb.size
  exact ⟨b, rfl, ⟨⟨F, h2, fun g hg => ⟨Nat.le_trans hs (h4 g hg), fun ho => by have := lt g ho; have := h4 g hg; omega⟩⟩, hb.trans (h3.mono hs), fun g ho => Nat.lt_of_lt_of_le (lt g ho) h3.size⟩, ⟨h3.size, fun g ho => h3.block g (lt g ho)⟩⟩
end Go.Proofs.YtoejpngdkcnnhaaGreat.I
