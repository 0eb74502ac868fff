/-
  The program's inbox in memory: its block, its ring of packets, its two maps; what a call keeps.
-/
import Derived.Test.YtpmkpjnhdehnhaaIPlain
import Derived.Test.YtpmkpjnhdehnhaaMp
import Derived.Test.YtpmkpjnhdehnhaaGrC
import Derived.Test.YtpmkpjnhdehnhaaRpNew
namespace Go.Proofs.Ytpmkpjnhdehnhaa
open Go.RowKit
open Go.Maps (Keyed)

/-- A packet's source and number, as a key; what lies in the maps. -/
abbrev mkv (s q : Int) : Value := .agg #[.int .i64 s, .int .i64 q]
def ent (p : Pk) : Value × Value := (mkv p.s p.q, pkv p)
def nent (x : Int × Int) : Value × Value := (.int .i64 x.1, .int .i64 x.2)
theorem Try.markArr : WideMaps.ArrKey Try.prog 72 3 2 := ⟨Try.underlying72, by kernel_rfl, by kernel_rfl, by kernel_rfl⟩
theorem markLaw : Keyed Try.prog 72 := Keyed.of_law Try.markArr.law
theorem intLaw : Keyed Try.prog 3 := Maps.int_keyed Try.underlying3
theorem Try.someTypes : ∃ m, Try.prog.types.size = m + 1 := ⟨Try.prog.types.size - 1, by have : 0 < Try.prog.types.size := of_decide_eq_true (by kernel_rfl); omega⟩
theorem wf_small {a : Int} (h0 : -1000000 ≤ a) (h1 : a ≤ 1000000) : (Lit.int .i64 a).wf = true := WalkArith.wf_i64 (by omega)
theorem mark_kd {s q : Int} (hs : (Lit.int .i64 s).wf = true) (hq : (Lit.int .i64 q).wf = true) : Kd Try.prog 72 (mkv s q) := ⟨_, WideMaps.keyOf_pair Try.markArr Try.underlying3 Try.someTypes hs hq⟩
theorem int_kd {s : Int} (hs : (Lit.int .i64 s).wf = true) : Kd Try.prog 3 (.int .i64 s) := ⟨_, Maps.keyOf_int_mk Try.underlying3 hs⟩
theorem inR_kd {p : Pk} (h : inR p) : Kd Try.prog 72 (mkv p.s p.q) := by
  obtain ⟨h1, h2, h3, h4⟩ := h
  exact mark_kd (wf_small (by omega) (by omega)) (wf_small (by omega) (by omega))
theorem ents_kd {W : List Pk} (h : ∀ p ∈ W, inR p) : Kds Try.prog 72 (W.map ent) := fun x hx => by
  obtain ⟨p, hp, rfl⟩ := List.mem_map.1 hx
  exact inR_kd (h p hp)
theorem nents_kd {N : List (Int × Int)} (h : ∀ x ∈ N, 0 ≤ x.1 ∧ x.1 < 4096) : Kds Try.prog 3 (N.map nent) := fun y hy => by
  obtain ⟨x, hx, rfl⟩ := List.mem_map.1 hy
  have := h x hx
  exact int_kd (wf_small (by omega) (by omega))
theorem mkv_inj {s q s' q' : Int} (h : mkv s q = mkv s' q') : s = s' ∧ q = q' := by
  simpa using h
theorem zero_int (w : World) : (zeroValue 3).run Try.prog w = .ok (.int .i64 0) w := by kernel_rfl
theorem zero_pk (w : World) : (zeroValue 33).run Try.prog w = .ok (pkv zpk) w := by kernel_rfl

section
variable {w : World} {b : Nat}
theorem nents_apart {N : List (Int × Int)} (h : MpAt w b (N.map nent)) : N.Pairwise (fun x y => x.1 ≠ y.1) := by
  have := h.apart
  rw [List.pairwise_map] at this
  exact this.imp fun hne e => hne (by simp only [nent, e])
/-- A source's next number. -/
theorem look_next {N : List (Int × Int)} (h : MpAt w b (N.map nent)) (hk : ∀ x ∈ N, 0 ≤ x.1 ∧ x.1 < 4096) {s : Int} (hs : (Lit.int .i64 s).wf = true) :
    (Instr.lookup 65 (.map (some b)) (.int .i64 s) false).run Try.prog w = .ok (.int .i64 (nxL N s)) w := by
  by_cases hin : ∃ x ∈ N, x.1 = s
  · obtain ⟨x, hx, rfl⟩ := hin
    rw [nxL_in (nents_apart h) hx]
    exact h.look_in intLaw Try.underlying65 (nents_kd hk) (key := .int .i64 x.1) (v := .int .i64 x.2) (List.mem_map.2 ⟨x, hx, rfl⟩) false
  · have hn : ∀ x ∈ N, x.1 ≠ s := fun x hx e => hin ⟨x, hx, e⟩
    rw [nxL_out hn]
    refine h.look_out intLaw Try.underlying65 (nents_kd hk) (int_kd hs) (fun y hy e => ?_) (zero_int w) false
    obtain ⟨x, hx, rfl⟩ := List.mem_map.1 hy
    simp only [nent, Value.int.injEq, true_and] at e
    exact hn x hx e
theorem put_next {N : List (Int × Int)} (h : MpAt w b (N.map nent)) (hk : ∀ x ∈ N, 0 ≤ x.1 ∧ x.1 < 4096) {s q : Int} (h0 : 0 ≤ s) (h1 : s < 4096) :
    ∃ w' N', (Instr.mapUpdate 65 (.map (some b)) (.int .i64 s) (.int .i64 q)).run Try.prog w = .ok () w' ∧ MpAt w' b (N'.map nent) ∧ w.mapTurned w' b ∧ (∀ x ∈ N', 0 ≤ x.1 ∧ x.1 < 4096) ∧ ∀ x, nxL N' x = upd (nxL N) s q x := by
  by_cases hin : ∃ x ∈ N, x.1 = s
  · obtain ⟨⟨s', q0⟩, hx, rfl⟩ := hin
    obtain ⟨A, B, rfl⟩ := List.append_of_mem hx
    have hap := nents_apart h
    have hkd := nents_kd hk
    rw [List.map_append, List.map_cons] at h hkd
    obtain ⟨w', r1, r2, r3⟩ := h.put_old (v := .int .i64 q) intLaw Try.underlying65 hkd
    refine ⟨w', A ++ (s', q) :: B, r1, by rw [List.map_append, List.map_cons]; exact r2, r3, fun x hx => ?_, fun x => nxL_put hap x⟩
    rcases List.mem_append.1 hx with hx | hx
    · exact hk x (List.mem_append_left _ hx)
    · rcases List.mem_cons.1 hx with rfl | hx
      · exact hk (s', q0) (by simp)
      · exact hk x (by simp [hx])
  · have hn : ∀ x ∈ N, x.1 ≠ s := fun x hx e => hin ⟨x, hx, e⟩
    obtain ⟨w', r1, r2, r3⟩ := h.put_new (v := .int .i64 q) intLaw Try.underlying65 (nents_kd hk) (int_kd (wf_small (a := s) (by omega) (by omega))) (fun y hy e => by
      obtain ⟨x, hx, rfl⟩ := List.mem_map.1 hy
      simp only [nent, Value.int.injEq, true_and] at e
      exact hn x hx e)
    refine ⟨w', N ++ [(s, q)], r1, by rw [List.map_append]; exact r2, r3, fun x hx => ?_, fun x => nxL_snoc hn x⟩
    rcases List.mem_append.1 hx with hx | hx
    · exact hk x hx
    · rw [List.mem_singleton.1 hx]; exact ⟨h0, h1⟩
/-- A packet that waits, or none. -/
theorem look_wait {W : List Pk} (h : MpAt w b (W.map ent)) (hr : ∀ p ∈ W, inR p) {p : Pk} (hp : p ∈ W) (c : Bool) :
    (Instr.lookup 64 (.map (some b)) (mkv p.s p.q) c).run Try.prog w = .ok (if c then .tuple #[pkv p, .bool true] else pkv p) w :=
  h.look_in markLaw Try.underlying64 (ents_kd hr) (List.mem_map.2 ⟨p, hp, rfl⟩) c
theorem look_has {W : List Pk} (h : MpAt w b (W.map ent)) (hr : ∀ p ∈ W, inR p) {p : Pk} (hp : inR p) :
    ∃ x, (Instr.lookup 64 (.map (some b)) (mkv p.s p.q) true).run Try.prog w = .ok (.tuple #[pkv x, .bool (has W p)]) w := by
  cases hh : has W p
  · refine ⟨zpk, h.look_out markLaw Try.underlying64 (ents_kd hr) (inR_kd hp) (fun y hy e => ?_) (zero_pk w) true⟩
    obtain ⟨x, hx, rfl⟩ := List.mem_map.1 hy
    exact has_not.1 hh x hx (mkv_inj e)
  · obtain ⟨r, h1, h2, h3⟩ := has_iff.1 hh
    refine ⟨r, ?_⟩
    have := look_wait h hr h1 true
    rw [h2, h3] at this
    exact this
theorem put_wait {W : List Pk} (h : MpAt w b (W.map ent)) (hr : ∀ p ∈ W, inR p) {p : Pk} (hp : inR p) (hh : has W p = false) :
    ∃ w', (Instr.mapUpdate 64 (.map (some b)) (mkv p.s p.q) (pkv p)).run Try.prog w = .ok () w' ∧ MpAt w' b ((W ++ [p]).map ent) ∧ w.mapTurned w' b := by
  obtain ⟨w', r1, r2, r3⟩ := h.put_new (v := pkv p) markLaw Try.underlying64 (ents_kd hr) (inR_kd hp) (fun y hy e => by
    obtain ⟨x, hx, rfl⟩ := List.mem_map.1 hy
    exact has_not.1 hh x hx (mkv_inj e))
  exact ⟨w', r1, by rw [List.map_append]; exact r2, r3⟩
theorem del_wait {W : List Pk} (h : MpAt w b (W.map ent)) (hr : ∀ p ∈ W, inR p) (hW : Apart W) {p : Pk} (hp : p ∈ W) (ty : TypeId) :
    ∃ w', (Builtin.delete_ #[64, 72] ty #[.map (some b), mkv p.s p.q]).run Try.prog w = .ok (.tuple #[]) w' ∧ MpAt w' b ((strike W p).map ent) ∧ w.mapTurned w' b := by
  obtain ⟨A, B, e⟩ := List.append_of_mem hp
  have hkd := ents_kd hr
  rw [strike_cut hW e]
  rw [e, List.map_append, List.map_cons] at h hkd
  obtain ⟨w', r1, r2, r3⟩ := h.del (key := mkv p.s p.q) (v0 := pkv p) markLaw Try.underlying64 hkd ty
  exact ⟨w', r1, by rw [List.map_append]; exact r2, r3⟩
end

/-- What an inbox keeps, as cells. -/
abbrev sti (r mb nb : Nat) : Array Value := #[.pointer (some ⟨r, 0, none⟩), .map (some mb), .map (some nb)]
abbrev stz : Array Value := #[.pointer none, .map none, .map none]
structure InAt (w : World) (b : Nat) (S : IS) (r pr mr : Nat) (sr : RP.RingSt) (mb nb : Nat) (N : List (Int × Int)) : Prop where
  blk : Bk w b (sti r mb nb) 69
  rg : RP.RingAt w r pr mr sr
  mp : MpAt w mb (S.W.map ent)
  np : MpAt w nb (N.map nent)
  ne : b ≠ r ∧ b ≠ pr
  nm : mb ≠ b ∧ mb ≠ r ∧ mb ≠ pr ∧ mb ≠ nb
  nn : nb ≠ b ∧ nb ≠ r ∧ nb ≠ pr
  room : sr.room = (S.n : Int)
  laid : sr.laid = false
  xs : sr.xs = S.L
  nx : ∀ s, nxL N s = S.nx s
  nk : ∀ x ∈ N, 0 ≤ x.1 ∧ x.1 < 4096
/-- The blocks of an inbox. -/
def fi (b r pr mb nb : Nat) : Nat → Prop := fun g => g = b ∨ g = r ∨ g = pr ∨ g = mb ∨ g = nb
section
variable {w : World} {b : Nat} {S : IS} {r pr mr : Nat} {sr : RP.RingSt} {mb nb : Nat} {N : List (Int × Int)}
theorem InAt.lt (h : InAt w b S r pr mr sr mb nb N) : ∀ g, fi b r pr mb nb g → g < w.heap.size := by
  rintro g (rfl | rfl | rfl | rfl | rfl)
  · exact h.blk.lt
  · exact h.rg.lt.1
  · exact h.rg.lt.2
  · exact h.mp.lt
  · exact h.np.lt
theorem InAt.keep {w' : World} (h : InAt w b S r pr mr sr mb nb N) (key : ∀ g, fi b r pr mb nb g → w'.heap[g]? = w.heap[g]?) : InAt w' b S r pr mr sr mb nb N :=
  { h with
    blk := by unfold Bk; rw [key b (Or.inl rfl)]; exact h.blk
    rg := h.rg.keep (key r (Or.inr (Or.inl rfl))) (key pr (Or.inr (Or.inr (Or.inl rfl))))
    mp := h.mp.keep (key mb (Or.inr (Or.inr (Or.inr (Or.inl rfl)))))
    np := h.np.keep (key nb (Or.inr (Or.inr (Or.inr (Or.inr rfl))))) }
theorem InAt.next {w' : World} (h : InAt w b S r pr mr sr mb nb N) (hb : Below w.heap.size w w') : InAt w' b S r pr mr sr mb nb N := h.keep fun g hg => hb.block g (h.lt g hg)
/-- The ring has turned. -/
theorem InAt.step {w' : World} {sr' : RP.RingSt} {L' : List Pk} (h : InAt w b S r pr mr sr mb nb N) (s : RP.Stp r pr w w' sr') (k1 : sr'.room = sr.room) (k2 : sr'.laid = false) (k3 : sr'.xs = L') :
    ∃ pr' mr', InAt w' b { S with L := L' } r pr' mr' sr' mb nb N ∧ Gr (fi b r pr mb nb) w w' (fi b r pr' mb nb) := by
  obtain ⟨p', m', hr, hf, hp⟩ := s
  have hb := h.blk.lt
  have hm := h.mp.lt
  have hn := h.np.lt
  have off : ∀ g, g < w.heap.size → g ≠ pr → g ≠ p' := fun g h1 h2 => by
    rcases hp with rfl | hp
    · exact h2
    · omega
  refine ⟨p', m', { h with
    blk := ?_
    rg := hr
    mp := h.mp.keep (hf.block mb hm h.nm.2.1 h.nm.2.2.1)
    np := h.np.keep (hf.block nb hn h.nn.2.1 h.nn.2.2)
    ne := ⟨h.ne.1, off b hb h.ne.2⟩
    nm := ⟨h.nm.1, h.nm.2.1, off mb hm h.nm.2.2.1, h.nm.2.2.2⟩
    nn := ⟨h.nn.1, h.nn.2.1, off nb hn h.nn.2.2⟩
    room := k1.trans h.room
    laid := k2
    xs := k3 }, ⟨hf.os, hf.tape, hf.output, hf.size, fun g hg hF => hf.block g hg (fun e => hF (Or.inr (Or.inl e))) (fun e => hF (Or.inr (Or.inr (Or.inl e)))), ?_⟩⟩
  · unfold Bk
    rw [hf.block b hb h.ne.1 h.ne.2]
    exact h.blk
  · rintro g (e | e | e | e | e)
    · exact Or.inl (Or.inl e)
    · exact Or.inl (Or.inr (Or.inl e))
    · rcases hp with hp | hp
      · exact Or.inl (Or.inr (Or.inr (Or.inl (e.trans hp))))
      · exact Or.inr (e ▸ hp)
    · exact Or.inl (Or.inr (Or.inr (Or.inr (Or.inl e))))
    · exact Or.inl (Or.inr (Or.inr (Or.inr (Or.inr e))))
theorem turned_gr {w' : World} {m : Nat} {F : Nat → Prop} (h : w.mapTurned w' m) (hF : F m) : Gr F w w' F := by
  have hg := h.grown
  exact ⟨hg.os, hg.tape, hg.output, hg.size, fun g hlt hn => hg.block g hlt fun e => hn (by cases e; exact hF), fun _ h => Or.inl h⟩
/-- What waits has turned. -/
theorem InAt.wait {w' : World} {W' : List Pk} (h : InAt w b S r pr mr sr mb nb N) (ht : w.mapTurned w' mb) (hm : MpAt w' mb (W'.map ent)) : InAt w' b { S with W := W' } r pr mr sr mb nb N ∧ Gr (fi b r pr mb nb) w w' (fi b r pr mb nb) := by
  have hg := ht.grown
  have key : ∀ g, g < w.heap.size → g ≠ mb → w'.heap[g]? = w.heap[g]? := fun g h1 h2 => hg.block g h1 fun e => h2 (by cases e; rfl)
  refine ⟨{ h with
    blk := ?_
    rg := h.rg.keep (key r h.rg.lt.1 h.nm.2.1.symm) (key pr h.rg.lt.2 h.nm.2.2.1.symm)
    mp := hm
    np := h.np.keep (key nb h.np.lt h.nm.2.2.2.symm) }, turned_gr ht (Or.inr (Or.inr (Or.inr (Or.inl rfl))))⟩
  unfold Bk
  rw [key b h.blk.lt h.nm.1.symm]
  exact h.blk
/-- A next number has turned. -/
theorem InAt.number {w' : World} {N' : List (Int × Int)} {nx' : Int → Int} (h : InAt w b S r pr mr sr mb nb N) (ht : w.mapTurned w' nb) (hm : MpAt w' nb (N'.map nent)) (hx : ∀ s, nxL N' s = nx' s) (hk : ∀ x ∈ N', 0 ≤ x.1 ∧ x.1 < 4096) :
    InAt w' b { S with nx := nx' } r pr mr sr mb nb N' ∧ Gr (fi b r pr mb nb) w w' (fi b r pr mb nb) := by
  have hg := ht.grown
  have key : ∀ g, g < w.heap.size → g ≠ nb → w'.heap[g]? = w.heap[g]? := fun g h1 h2 => hg.block g h1 fun e => h2 (by cases e; rfl)
  refine ⟨{ h with
    blk := ?_
    rg := h.rg.keep (key r h.rg.lt.1 h.nn.2.1.symm) (key pr h.rg.lt.2 h.nn.2.2.symm)
    mp := h.mp.keep (key mb h.mp.lt h.nm.2.2.2)
    np := hm
    nx := hx
    nk := hk }, turned_gr ht (Or.inr (Or.inr (Or.inr (Or.inr rfl))))⟩
  unfold Bk
  rw [key b h.blk.lt h.nn.1.symm]
  exact h.blk
end
/-- An inbox: its block, what it is as lists, its blocks. -/
def In (w : World) (b : Nat) (S : IS) (F : Nat → Prop) : Prop := IOk S ∧ ∃ r pr mr sr mb nb N, InAt w b S r pr mr sr mb nb N ∧ F = fi b r pr mb nb
section
variable {w : World} {b : Nat} {S : IS} {F : Nat → Prop}
theorem In.ok (h : In w b S F) : IOk S := h.1
theorem In.lt (h : In w b S F) : ∀ g, F g → g < w.heap.size := by
  obtain ⟨_, r, pr, mr, sr, mb, nb, N, h, rfl⟩ := h
  exact h.lt
theorem In.own (h : In w b S F) : F b := by
  obtain ⟨_, r, pr, mr, sr, mb, nb, N, h, rfl⟩ := h
  exact Or.inl rfl
theorem In.kept {w' : World} {q : Option Nat} (h : In w b S F) (hg : w.grownBy w' q) (hr : ∀ g, q = some g → ¬ F g) : In w' b S F := by
  obtain ⟨ok, r, pr, mr, sr, mb, nb, N, h, rfl⟩ := h
  exact ⟨ok, r, pr, mr, sr, mb, nb, N, h.keep fun g hf => hg.block g (h.lt g hf) fun e => hr g e.symm hf, rfl⟩
theorem In.next {w' : World} (h : In w b S F) (hb : Below w.heap.size w w') : In w' b S F := h.kept (q := none) ⟨hb.os, hb.tape, hb.output, hb.size, fun k hk _ => hb.block k hk⟩ (fun _ e => by cases e)
theorem In.far {k j : Nat} {x : Value} (h : In w b S F) (hk : ¬ F k) : In (w.setCell ⟨k, j, none⟩ x) b S F := h.kept (q := some k) ⟨rfl, rfl, rfl, by simp, fun i _ hne => Below.heap_setCell w ⟨k, j, none⟩ x i fun e => hne (by rw [e])⟩ (fun _ e => by cases e; exact hk)
theorem In.gr {w' : World} {G G' : Nat → Prop} (h : In w b S F) (hg : Gr G w w' G') (hF : ∀ g, F g → ¬ G g) : In w' b S F := by
  obtain ⟨ok, r, pr, mr, sr, mb, nb, N, h, rfl⟩ := h
  exact ⟨ok, r, pr, mr, sr, mb, nb, N, h.keep fun g hf => hg.block g (h.lt g hf) (hF g hf), rfl⟩
end
end Go.Proofs.Ytpmkpjnhdehnhaa
