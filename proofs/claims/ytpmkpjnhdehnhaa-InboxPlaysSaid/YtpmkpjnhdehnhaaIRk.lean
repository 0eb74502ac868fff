/-
  A law's inbox beside the document's: what both are at a step. (Written by gen_irk.py.)
-/
import Derived.Test.YtpmkpjnhdehnhaaIRj
import Derived.Laws.StructEq
namespace Go.Proofs.Ytpmkpjnhdehnhaa
open Go.RowKit

theorem Try.pkFields : Try.prog.underlying 33 = some (.struct (Try.prog.fieldsOf 33)) := by kernel_rfl
theorem Try.pkHeld : Try.prog.stoodInHeld 33 = false := by kernel_rfl
theorem Try.pkGuard : Try.prog.eqGuardType Try.prog.depth 33 = false := by kernel_rfl
theorem run_equal_pk (s d q : Int) (x : ByteArray) (w : World) : (Op.equalIn 10000 33 (.agg #[.int .i64 s, .int .i64 d, .int .i64 q, .string x]) (.agg #[.int .i64 s, .int .i64 d, .int .i64 q, .string x])).run Try.prog w = .ok true w := by
  have u3 := Try.underlying3
  have u9 := Try.underlying9
  have a3 := Try.isAgg3
  have z3 := Try.sizeOf3
  have a9 := Try.isAgg9
  have z9 := Try.sizeOf9
  rw [show (10000 : Nat) = 9999 + 1 from rfl, run_equalIn_agg w 9999 33 _ _ Try.pkFields Try.pkHeld]
  simp only [Program.fieldsOf, Try.underlying33]
  go_simp
theorem run_eq_pk (s d q : Int) (x : ByteArray) (w : World) : (binOp .eql 33 (.agg #[.int .i64 s, .int .i64 d, .int .i64 q, .string x]) (.agg #[.int .i64 s, .int .i64 d, .int .i64 q, .string x])).run Try.prog w = .ok (.bool true) w := by
  rw [run_eql_struct, run_equal_pk]
  rfl
theorem run_ne_pk (s d q : Int) (x : ByteArray) (w : World) : (binOp .neq 33 (.agg #[.int .i64 s, .int .i64 d, .int .i64 q, .string x]) (.agg #[.int .i64 s, .int .i64 d, .int .i64 q, .string x])).run Try.prog w = .ok (.bool false) w := by
  rw [run_neq_struct, run_equal_pk]
  rfl
set_option maxRecDepth 100000 in
theorem rnew_any (room : Int) (w : World) : Calls Try.prog 12 #[.int .i64 room] w fun e w' => e = .returned (bvv (roomN room) (.slice none 0 0) (.slice none 0 0) (.slice none 0 0)) ∧ Below w.heap.size w w' := by
  obtain ⟨e1, _, _⟩ := roomN_ok room
  generalize (roomN room : Int) = N at *
  have key : (room < 1 ∧ N = 1) ∨ (¬ room < 1 ∧ ¬ 64 < room ∧ N = room) ∨ (¬ room < 1 ∧ 64 < room ∧ N = 64) := by omega
  clear e1
  rcases key with ⟨h1, rfl⟩ | ⟨h1, h2, rfl⟩ | ⟨h1, h2, rfl⟩
  · have DR : Hid (Bk (w.alloc (.cells #[.int .i64 1, .slice none 0 0, .slice none 0 0, .slice none 0 0] 29)) w.heap.size #[.int .i64 1, .slice none 0 0, .slice none 0 0, .slice none 0 0] 29) := Bk.new w _ _
    have BR : Hid (Below w.heap.size w (w.alloc (.cells #[.int .i64 1, .slice none 0 0, .slice none 0 0, .slice none 0 0] 29))) := (Below.refl _ _).alloc (Nat.le_refl _) _
    simp only [bvv]
    go_enter Try.func12, Try.ntmps12
    go_wp2
    generalize (w.alloc (.cells #[.int .i64 1, .slice none 0 0, .slice none 0 0, .slice none 0 0] 29)) = v9 at *
    have Y0 := DR.out.cell 0
    have Y1 := DR.out.cell 1
    have Y2 := DR.out.cell 2
    have Y3 := DR.out.cell 3
    simp only [List.getElem?_toArray, List.getElem?_cons_zero, List.getElem?_cons_succ] at Y0 Y1 Y2 Y3
    exact bodyPost_ret (v := .agg #[.int .i64 1, .slice none 0 0, .slice none 0 0, .slice none 0 0]) (by simp [results, Try.results12, go_sem, Y0, Y1, Y2, Y3]; try rfl) rfl ⟨rfl, BR.out⟩
  · have DR : Hid (Bk (w.alloc (.cells #[.int .i64 N, .slice none 0 0, .slice none 0 0, .slice none 0 0] 29)) w.heap.size #[.int .i64 N, .slice none 0 0, .slice none 0 0, .slice none 0 0] 29) := Bk.new w _ _
    have BR : Hid (Below w.heap.size w (w.alloc (.cells #[.int .i64 N, .slice none 0 0, .slice none 0 0, .slice none 0 0] 29))) := (Below.refl _ _).alloc (Nat.le_refl _) _
    simp only [bvv]
    go_enter Try.func12, Try.ntmps12
    go_wp2
    generalize (w.alloc (.cells #[.int .i64 N, .slice none 0 0, .slice none 0 0, .slice none 0 0] 29)) = v9 at *
    have Y0 := DR.out.cell 0
    have Y1 := DR.out.cell 1
    have Y2 := DR.out.cell 2
    have Y3 := DR.out.cell 3
    simp only [List.getElem?_toArray, List.getElem?_cons_zero, List.getElem?_cons_succ] at Y0 Y1 Y2 Y3
    exact bodyPost_ret (v := .agg #[.int .i64 N, .slice none 0 0, .slice none 0 0, .slice none 0 0]) (by simp [results, Try.results12, go_sem, Y0, Y1, Y2, Y3]; try rfl) rfl ⟨rfl, BR.out⟩
  · have DR : Hid (Bk (w.alloc (.cells #[.int .i64 64, .slice none 0 0, .slice none 0 0, .slice none 0 0] 29)) w.heap.size #[.int .i64 64, .slice none 0 0, .slice none 0 0, .slice none 0 0] 29) := Bk.new w _ _
    have BR : Hid (Below w.heap.size w (w.alloc (.cells #[.int .i64 64, .slice none 0 0, .slice none 0 0, .slice none 0 0] 29))) := (Below.refl _ _).alloc (Nat.le_refl _) _
    simp only [bvv]
    go_enter Try.func12, Try.ntmps12
    go_wp2
    generalize (w.alloc (.cells #[.int .i64 64, .slice none 0 0, .slice none 0 0, .slice none 0 0] 29)) = v9 at *
    have Y0 := DR.out.cell 0
    have Y1 := DR.out.cell 1
    have Y2 := DR.out.cell 2
    have Y3 := DR.out.cell 3
    simp only [List.getElem?_toArray, List.getElem?_cons_zero, List.getElem?_cons_succ] at Y0 Y1 Y2 Y3
    exact bodyPost_ret (v := .agg #[.int .i64 64, .slice none 0 0, .slice none 0 0, .slice none 0 0]) (by simp [results, Try.results12, go_sem, Y0, Y1, Y2, Y3]; try rfl) rfl ⟨rfl, BR.out⟩
theorem apart_idx {W : List Pk} (h : Apart W) {i j : Nat} {p : Pk} (hi : W[i]? = some p) (hj : W[j]? = some p) : i = j := by
  obtain ⟨h1, e1⟩ := List.getElem?_eq_some_iff.1 hi
  obtain ⟨h2, e2⟩ := List.getElem?_eq_some_iff.1 hj
  have hp := List.pairwise_iff_getElem.1 h
  rcases Nat.lt_trichotomy i j with c | c | c
  · exact absurd ⟨by rw [e1, e2], by rw [e1, e2]⟩ (hp i j h1 h2 c)
  · exact c
  · exact absurd ⟨by rw [e1, e2], by rw [e1, e2]⟩ (hp j i h2 h1 c)
/-- What Ready comes to, in every later world alike. -/
theorem rready_one {w : World} {S : IS} {N : List (Int × Int)} {sl sw sn : Value} (h : RB w S N sl sw sn) (ok : IOk S) (hW : S.W.length ≤ 1000) : ∃ z : Int, ((0 ≤ z ∧ (rdy S).isSome = true) ∨ (¬ 0 ≤ z ∧ (rdy S).isSome = false)) ∧ ∀ v, Below w.heap.size w v → Calls Try.prog 28 #[bvv S.n sl sw sn] v fun e w' => e = .returned (.int .i64 z) ∧ Below v.heap.size v w' := by
  cases hr : rdy S with
  | none =>
    refine ⟨-1, Or.inr ⟨by decide, rfl⟩, fun v hv => (rready_any (h.next hv) hW).mono ?_⟩
    rintro e w' ⟨z, rfl, hz, hb⟩
    rcases hz.out ok with ⟨rfl, _⟩ | ⟨a, p, _, _, h3⟩
    · exact ⟨rfl, hb⟩
    · rw [hr] at h3; cases h3
  | some p =>
    obtain ⟨i, hi, e⟩ := List.mem_iff_getElem.1 (pick_some hr).1
    refine ⟨(i : Int), Or.inl ⟨by omega, rfl⟩, fun v hv => (rready_any (h.next hv) hW).mono ?_⟩
    rintro e' w' ⟨z, rfl, hz, hb⟩
    rcases hz.out ok with ⟨_, h2⟩ | ⟨a, p', h1, h2, h3⟩
    · rw [hr] at h2; cases h2
    · rw [hr] at h3
      cases h3
      rw [h1, apart_idx ok.ap h2 (List.getElem?_eq_some_iff.2 ⟨hi, e⟩)]
      exact ⟨rfl, hb⟩
/-- Other blocks may be kept beside it from now on. -/
theorem Ix.move {w0 w w' : World} {b : Nat} {S : IS} {O O' : Nat → Prop} (h : Ix w0 w b S O) (hb : Below w.heap.size w w') (hO : ∀ g, O' g → (O g ∨ w.heap.size ≤ g) ∧ g < w'.heap.size) : Ix w0 w' b S O' := by
  obtain ⟨⟨F, hI, hF⟩, bl, lt⟩ := h
  refine ⟨⟨F, hI.next hb, fun g hgF => ⟨(hF g hgF).1, fun ho => ?_⟩⟩, bl.trans (hb.mono bl.size), fun g ho => (hO g ho).2⟩
  rcases (hO g ho).1 with c | c
  · exact (hF g hgF).2 c
  · have := hI.lt g hgF
    omega
abbrev own3 (sl sw sn : Value) : Nat → Prop := fun g => sl.ownBlock = some g ∨ sw.ownBlock = some g ∨ sn.ownBlock = some g
theorem RB.lt {w : World} {S : IS} {N : List (Int × Int)} {sl sw sn : Value} (h : RB w S N sl sw sn) {g : Nat} (hg : own3 sl sw sn g) : g < w.heap.size := by
  rcases hg with c | c | c
  · exact h.l.lt g c
  · exact h.k.lt g c
  · exact h.n.lt g c
theorem RB.kp {w w' : World} {S : IS} {N : List (Int × Int)} {sl sw sn : Value} {O : Nat → Prop} (h : RB w S N sl sw sn) (k : Kp O w w') (ho : ∀ g, own3 sl sw sn g → O g) : RB w' S N sl sw sn :=
  ⟨h.l.kp k fun g hg => ho g (Or.inl hg), h.k.kp k fun g hg => ho g (Or.inr (Or.inl hg)), h.n.kp k fun g hg => ho g (Or.inr (Or.inr hg)), h.nx⟩
theorem RB.grown {w w' : World} {S : IS} {N : List (Int × Int)} {sl sw sn : Value} {r : Option Nat} (h : RB w S N sl sw sn) (g : w.grownBy w' r) (hr : ∀ q, own3 sl sw sn q → r ≠ some q) : RB w' S N sl sw sn :=
  ⟨h.l.grown g fun q hq => hr q (Or.inl hq), h.k.grown g fun q hq => hr q (Or.inr (Or.inl hq)), h.n.grown g fun q hq => hr q (Or.inr (Or.inr hq)), h.nx⟩
/-- The law's inbox; the document's, in a box of the law's; the law's packet. -/
structure Px (w0 v : World) (b rb pb : Nat) (S T : IS) (N : List (Int × Int)) (sl sw sn : Value) (p : Pk) : Prop where
  ex : ∃ O, Ix w0 v b S O ∧ O rb ∧ O pb ∧ ∀ g, own3 sl sw sn g → O g
  r : Bk v rb #[.int .i64 (T.n : Int), sl, sw, sn] 29
  k : Bk v pb #[.int .i64 p.s, .int .i64 p.d, .int .i64 p.q, .string p.x] 33
  m : RB v T N sl sw sn
  nr : ∀ g, own3 sl sw sn g → g ≠ rb ∧ g ≠ pb
  ne : rb ≠ pb
  h : w0.heap.size ≤ rb
  hp : w0.heap.size ≤ pb
section
variable {w0 v v' : World} {b rb pb : Nat} {S S' T T' : IS} {N N' : List (Int × Int)} {sl sw sn sl' sw' sn' : Value} {p p' : Pk}
theorem Px.ok (h : Px w0 v b rb pb S T N sl sw sn p) : IOk S := by
  obtain ⟨O, hx, _⟩ := h.ex
  exact hx.ok
theorem Px.bl (h : Px w0 v b rb pb S T N sl sw sn p) : Below w0.heap.size w0 v := by
  obtain ⟨O, hx, _⟩ := h.ex
  exact hx.bl
theorem Px.next (h : Px w0 v b rb pb S T N sl sw sn p) (hb : Below v.heap.size v v') : Px w0 v' b rb pb S T N sl sw sn p := by
  obtain ⟨O, hx, h1, h2, h3⟩ := h.ex
  exact ⟨⟨O, (hx.next hb).1, h1, h2, h3⟩, h.r.next hb, h.k.next hb, h.m.next hb, h.nr, h.ne, h.h, h.hp⟩
/-- A call of the program's. -/
theorem Px.step {f : FuncId} {args : Array Value} {ret : Value} (h : Px w0 v b rb pb S T N sl sw sn p) (C : ∀ O, Ix w0 v b S O → Calls Try.prog f args v fun e w' => e = .returned ret ∧ Ix w0 w' b S' O ∧ Kp O v w') : Calls Try.prog f args v fun e w' => e = .returned ret ∧ Px w0 w' b rb pb S' T N sl sw sn p := by
  obtain ⟨O, hx, h1, h2, h3⟩ := h.ex
  refine (C O hx).mono ?_
  rintro e w' ⟨he, q1, q2⟩
  exact ⟨he, ⟨O, q1, h1, h2, h3⟩, h.r.kp q2 h1, h.k.kp q2 h2, h.m.kp q2 h3, h.nr, h.ne, h.h, h.hp⟩
/-- The packet's number is turned. -/
theorem Px.seq (h : Px w0 v b rb pb S T N sl sw sn p) (q : Int) : Px w0 (v.setCell ⟨pb, 2, none⟩ (.int .i64 q)) b rb pb S T N sl sw sn ⟨p.s, p.d, q, p.x⟩ := by
  obtain ⟨O, hx, h1, h2, h3⟩ := h.ex
  refine ⟨⟨O, hx.set h2 h.hp, h1, h2, h3⟩, h.r.far h.ne, h.k.set 2 _, h.m.grown (grown_set _ _ _ _) fun g hg c => (h.nr g hg).2 (by cases c; rfl), h.nr, h.ne, h.h, h.hp⟩
/-- A call of the document's; its answer is laid in the box. -/
theorem Px.doc {v1 : World} (h : Px w0 v b rb pb S T N sl sw sn p) (hb : Below v.heap.size v v1) (m' : RB v1 T' N' sl' sw' sn') (hn : ∀ g, own3 sl' sw' sn' g → own3 sl sw sn g ∨ v.heap.size ≤ g) : Px w0 ((((v1.setCell ⟨rb, 0, none⟩ (.int .i64 (T'.n : Int))).setCell ⟨rb, 1, none⟩ sl').setCell ⟨rb, 2, none⟩ sw').setCell ⟨rb, 3, none⟩ sn') b rb pb S T' N' sl' sw' sn' p := by
  obtain ⟨O, hx, h1, h2, h3⟩ := h.ex
  have n' : ∀ g, own3 sl' sw' sn' g → g ≠ rb ∧ g ≠ pb := fun g hg => by
    rcases hn g hg with c | c
    · exact h.nr g c
    · have := h.r.lt
      have := h.k.lt
      omega
  have x1 : Ix w0 v1 b S (fun g => (g = rb ∨ g = pb) ∨ own3 sl' sw' sn' g) := hx.move hb fun g hg => by
    rcases hg with (c | c) | c
    · rw [c]; exact ⟨Or.inl h1, Nat.lt_of_lt_of_le h.r.lt hb.size⟩
    · rw [c]; exact ⟨Or.inl h2, Nat.lt_of_lt_of_le h.k.lt hb.size⟩
    · refine ⟨?_, m'.lt c⟩
      rcases hn g c with c' | c'
      · exact Or.inl (h3 g c')
      · exact Or.inr c'
  have gf := grown_four v1 rb (.int .i64 (T'.n : Int)) sl' sw' sn'
  refine ⟨⟨_, (((x1.set (Or.inl (Or.inl rfl)) h.h).set (Or.inl (Or.inl rfl)) h.h).set (Or.inl (Or.inl rfl)) h.h).set (Or.inl (Or.inl rfl)) h.h, Or.inl (Or.inl rfl), Or.inl (Or.inr rfl), fun g hg => Or.inr hg⟩, set_four (h.r.next hb) _ _ _ _, (h.k.next hb).kept gf fun c => h.ne (by cases c; rfl), m'.grown gf fun g hg c => (n' g hg).1 (by cases c; rfl), n', h.ne, h.h, h.hp⟩
end
end Go.Proofs.Ytpmkpjnhdehnhaa
