/-
  The walks of join's object: New, Begun, Has, begin, add.
-/
import Derived.Test.YtockjijhckkicaaTakeR
import Derived.Test.YtockjijhckkicaaRead
namespace Go.Proofs.Ytockjijhckkicaa
open Go.RowKit

/-- The object's cells, by what has begun. -/
abbrev pj (j : JS) : Array Value := #[.bool j.b, .int .i64 j.n, .int .i64 j.s, .int .i64 j.d, .int .i64 j.q, .string j.x]
/-- Of the elder blocks only this one may have turned. -/
def Gb (b : Nat) (w w' : World) : Prop := w.grownBy w' (some b)
theorem Gb.out {b : Nat} {w w' : World} (h : Gb b w w') : w.grownBy w' (some b) := h
theorem Gb.refl (b : Nat) (w : World) : Gb b w w := ⟨rfl, rfl, rfl, Nat.le_refl _, fun _ _ _ => rfl⟩
theorem Gb.size {b : Nat} {w w' : World} (h : Gb b w w') : w.heap.size ≤ w'.heap.size := h.out.size
theorem Gb.trans {b : Nat} {w v u : World} (h : Gb b w v) (k : Gb b v u) : Gb b w u :=
  ⟨k.out.os.trans h.out.os, k.out.tape.trans h.out.tape, k.out.output.trans h.out.output, Nat.le_trans h.size k.size, fun i hi hne => (k.out.block i (Nat.lt_of_lt_of_le hi h.size) hne).trans (h.out.block i hi hne)⟩
theorem Gb.of {b : Nat} {w v : World} (k : Below w.heap.size w v) : Gb b w v := ⟨k.os, k.tape, k.output, k.size, fun i hi _ => k.block i hi⟩
theorem Gb.below {b : Nat} {w v u : World} (h : Gb b w v) (k : Below v.heap.size v u) : Gb b w u := h.trans (Gb.of k)
theorem Gb.alloc {b : Nat} {w v : World} (h : Gb b w v) (o : Obj) : Gb b w (v.alloc o) := h.below ((Below.refl _ _).alloc (Nat.le_refl _) o)
theorem Gb.drew {b : Nat} {w v : World} (h : Gb b w v) : Gb b w v.drew := h.below (Below.refl _ _).drew
theorem Gb.set {b j : Nat} {w v : World} (h : Gb b w v) (x : Value) : Gb b w (v.setCell ⟨b, j, none⟩ x) :=
  h.trans ⟨rfl, rfl, rfl, by simp, fun k _ hne => Below.heap_setCell v ⟨b, j, none⟩ x k fun e => hne (by rw [e])⟩
theorem Gb.setNew {b c j : Nat} {w v : World} (h : Gb b w v) (hc : w.heap.size ≤ c) (x : Value) : Gb b w (v.setCell ⟨c, j, none⟩ x) :=
  ⟨h.out.os, h.out.tape, h.out.output, by simpa using h.size, fun k hk hne => (Below.heap_setCell v ⟨c, j, none⟩ x k (by show k ≠ c; omega)).trans (h.out.block k hk hne)⟩
theorem Gb.six {b : Nat} {w v : World} (h : Gb b w v) (x0 x1 x2 x3 x4 x5 : Value) : Gb b w ((((((v.setCell ⟨b, 0, none⟩ x0).setCell ⟨b, 1, none⟩ x1).setCell ⟨b, 2, none⟩ x2).setCell ⟨b, 3, none⟩ x3).setCell ⟨b, 4, none⟩ x4).setCell ⟨b, 5, none⟩ x5) :=
  (((((h.set _).set _).set _).set _).set _).set _
theorem Gb.four {b c : Nat} {w v : World} (h : Gb b w v) (hc : w.heap.size ≤ c) (x0 x1 x2 x3 : Value) : Gb b w ((((v.setCell ⟨c, 0, none⟩ x0).setCell ⟨c, 1, none⟩ x1).setCell ⟨c, 2, none⟩ x2).setCell ⟨c, 3, none⟩ x3) :=
  (((h.setNew hc _).setNew hc _).setNew hc _).setNew hc _
theorem below_gb {B b : Nat} {a w w' : World} (h : Below B a w) (hg : Gb b w w') (hb : B ≤ b) (hB : B ≤ w.heap.size) : Below B a w' :=
  h.grown hg.out hB fun k e => by
    injection e with e
    omega
theorem Bk.gb {v v' : World} {b k : Nat} {cs : Array Value} {t : TypeId} (h : Bk v b cs t) (hg : Gb k v v') (hne : ¬ b = k) : Bk v' b cs t := h.kept hg.out fun e => hne (Option.some.inj e).symm
theorem OwnK.gb {e : TypeId} {k : Nat} {w w' : World} {B n b : Nat} {v : Value} {cs : List Value} (h : OwnK e k w B v n cs) (hg : Gb b w w') (hne : v.ownBlock ≠ some b) : OwnK e k w' B v n cs := World.ownsRow.kept h hg.out (Or.inr hne)

theorem Bk.drewN {w : World} {b : Nat} {cs : Array Value} {t : TypeId} (h : Bk w b cs t) (n : Nat) : Bk (w.drewN n) b cs t := by
  unfold Bk
  rw [World.heap_drewN]
  exact h
theorem Gb.drewN {b : Nat} {w v : World} (h : Gb b w v) (n : Nat) : Gb b w (v.drewN n) := h.below ⟨rfl, rfl, rfl, Nat.le_refl _, fun _ _ => rfl⟩

theorem dn {B : Nat} {a w : World} (h : Below B a w) (n : Nat) : Below B a (w.drewN n) := h.trans ⟨rfl, rfl, rfl, Nat.le_refl _, fun _ _ => rfl⟩
theorem new_any (w : World) : Calls Try.prog 10 #[] w fun e w' => e = .returned (.pointer (some ⟨w.heap.size, 0, none⟩)) ∧ w' = w.alloc (.cells (pj zjs) 64) := by
  simp only [pj]
  go_enter Try.func10, Try.ntmps10
  go_wp2
  go_ret
  exact ⟨rfl, rfl⟩

section
variable {w : World} {b : Nat} {j : JS}
theorem begun_any (h : Bk w b (pj j) 64) : Calls Try.prog 13 #[.pointer (some ⟨b, 0, none⟩)] w fun e w' => e = .returned (.bool j.b) ∧ w = w' := by
  have c0 := h.cell 0
  simp only [pj, List.getElem?_toArray, List.getElem?_cons_zero] at c0
  clear h
  generalize j.b = jb at *
  go_enter Try.func13, Try.ntmps13
  go_wp2
  go_ret
  exact ⟨rfl, rfl⟩
theorem begun_nil (w : World) : Calls Try.prog 13 #[.pointer none] w fun e w' => e = .returned (.bool false) ∧ w = w' := by
  go_enter Try.func13, Try.ntmps13
  go_wp2
  go_ret
  exact ⟨rfl, rfl⟩
theorem has_any (h : Bk w b (pj j) 64) : Calls Try.prog 14 #[.pointer (some ⟨b, 0, none⟩)] w fun e w' => e = .returned (.int .i64 (j.x.size : Int)) ∧ w = w' := by
  have c0 := h.cell 5
  simp only [pj, List.getElem?_toArray, List.getElem?_cons_zero, List.getElem?_cons_succ] at c0
  clear h
  generalize j.x = jx at *
  go_enter Try.func14, Try.ntmps14
  go_wp2
  go_ret
  exact ⟨rfl, rfl⟩
theorem has_nil (w : World) : Calls Try.prog 14 #[.pointer none] w fun e w' => e = .returned (.int .i64 0) ∧ w = w' := by
  go_enter Try.func14, Try.ntmps14
  go_wp2
  go_ret
  exact ⟨rfl, rfl⟩

set_option maxRecDepth 100000 in
set_option maxHeartbeats 4000000 in
theorem begin_any (f : Fl) (h : Bk w b (pj j) 64) : Calls Try.prog 22 #[.pointer (some ⟨b, 0, none⟩), flv f] w fun e w' => e = .returned (.tuple #[]) ∧ Bk w' b (pj ⟨true, f.s, f.d, f.q, ByteArray.empty, f.l⟩) 64 ∧ Gb b w w' := by
  obtain ⟨fk, fs, fd, fq, fl, fm, fc, fx⟩ := f
  obtain ⟨jb, js, jd, jq, jx, jn⟩ := j
  simp only [flv, flc, pj] at *
  have H1 : Hid (Bk (w.alloc (.cells #[.int .i64 fk, .int .i64 fs, .int .i64 fd, .int .i64 fq, .int .i64 fl, .bool fm, .bool fc, .string fx] 48)) b #[.bool jb, .int .i64 jn, .int .i64 js, .int .i64 jd, .int .i64 jq, .string jx] 64) := h.alloc _
  have F1 : Hid (Bk (w.alloc (.cells #[.int .i64 fk, .int .i64 fs, .int .i64 fd, .int .i64 fq, .int .i64 fl, .bool fm, .bool fc, .string fx] 48)) w.heap.size #[.int .i64 fk, .int .i64 fs, .int .i64 fd, .int .i64 fq, .int .i64 fl, .bool fm, .bool fc, .string fx] 48) := Bk.new _ _ _
  have G1 : Hid (Gb b w (w.alloc (.cells #[.int .i64 fk, .int .i64 fs, .int .i64 fd, .int .i64 fq, .int .i64 fl, .bool fm, .bool fc, .string fx] 48))) := (Gb.refl _ _).alloc _
  have hlt := h.lt
  have hne : ¬ w.heap.size = b := by omega
  have hne2 : ¬ b = w.heap.size := by omega
  clear h
  go_enter Try.func22, Try.ntmps22
  go_upto_region 1 with fail
  generalize w.alloc (.cells #[.int .i64 fk, .int .i64 fs, .int .i64 fd, .int .i64 fq, .int .i64 fl, .bool fm, .bool fc, .string fx] 48) = v at *
  obtain ⟨bf, hbf⟩ : ∃ bf, w.heap.size = bf := ⟨_, rfl⟩
  rw [hbf] at F1 hne hne2 ⊢
  clear hbf hlt
  have c0 := H1.out.cell 0
  have c1 := H1.out.cell 1
  have c2 := H1.out.cell 2
  have c3 := H1.out.cell 3
  have c4 := H1.out.cell 4
  have c5 := H1.out.cell 5
  have z0 := H1.out.free 0
  have z1 := H1.out.free 1
  have z2 := H1.out.free 2
  have z3 := H1.out.free 3
  have z4 := H1.out.free 4
  have z5 := H1.out.free 5
  have d1 := F1.out.cell 1
  have d2 := F1.out.cell 2
  have d3 := F1.out.cell 3
  have d4 := F1.out.cell 4
  simp only [List.getElem?_toArray, List.getElem?_cons_zero, List.getElem?_cons_succ] at c0 c1 c2 c3 c4 c5 d1 d2 d3 d4
  go_wp2
  go_end0
  exact ⟨rfl, six_at H1.out, G1.out.six _ _ _ _ _ _⟩

set_option maxRecDepth 100000 in
set_option maxHeartbeats 4000000 in
theorem add_no (x : ByteArray) (h : Bk w b (pj j) 64) (h1 : j.x.size ≤ 1000000) (h2 : x.size ≤ 1000000) (hlt : j.n < (j.x.size : Int) + (x.size : Int)) : Calls Try.prog 23 #[.pointer (some ⟨b, 0, none⟩), .string x] w fun e w' => e = .returned (.int .i64 4) ∧ ∃ m, w' = w.drewN m := by
  have HC0 := fun m => has_any (h.drewN m)
  obtain ⟨jb, js, jd, jq, jx, jn⟩ := j
  simp only [pj] at *
  have H : Hid (Bk w b #[.bool jb, .int .i64 jn, .int .i64 js, .int .i64 jd, .int .i64 jq, .string jx] 64) := h
  have c1 := h.cell 1
  simp only [List.getElem?_toArray, List.getElem?_cons_zero, List.getElem?_cons_succ] at c1
  clear h
  have s1 : (jx.size : Int) ≤ 1000000 := by omega
  have s2 : (x.size : Int) ≤ 1000000 := by omega
  have s3 : (0 : Int) ≤ jx.size := by omega
  have s4 : (0 : Int) ≤ x.size := by omega
  go_enter Try.func23, Try.ntmps23
  go_wp2_with fail
  go_quiet ((go_at_call 14; exact Calls.quiet_of_same ((HC0 _).mono fun _ _ h => ⟨h.1, h.2.symm⟩)))
  go_wp2
  go_ret
  exact ⟨rfl, _, rfl⟩

set_option maxRecDepth 100000 in
set_option maxHeartbeats 4000000 in
theorem add_yes (x : ByteArray) (h : Bk w b (pj j) 64) (h1 : j.x.size ≤ 1000000) (h2 : x.size ≤ 1000000) (hlt : ¬ j.n < (j.x.size : Int) + (x.size : Int)) : Calls Try.prog 23 #[.pointer (some ⟨b, 0, none⟩), .string x] w fun e w' => e = .returned (.int .i64 0) ∧ Bk w' b (pj ⟨j.b, j.s, j.d, j.q, j.x ++ x, j.n⟩) 64 ∧ Gb b w w' := by
  have HC0 := fun m => has_any (h.drewN m)
  obtain ⟨jb, js, jd, jq, jx, jn⟩ := j
  simp only [pj] at *
  have H : Hid (Bk w b #[.bool jb, .int .i64 jn, .int .i64 js, .int .i64 jd, .int .i64 jq, .string jx] 64) := h
  have c1 := h.cell 1
  have c5 := h.cell 5
  have z5 := h.free 5
  simp only [List.getElem?_toArray, List.getElem?_cons_zero, List.getElem?_cons_succ] at c1 c5
  clear h
  have s1 : (jx.size : Int) ≤ 1000000 := by omega
  have s2 : (x.size : Int) ≤ 1000000 := by omega
  have s3 : (0 : Int) ≤ jx.size := by omega
  have s4 : (0 : Int) ≤ x.size := by omega
  have sx : (jx ++ x).size ≤ 9223372036854775807 := by rw [ByteArray.size_append]; omega
  have sx2 : jx.size + x.size ≤ 9223372036854775807 := by omega
  go_enter Try.func23, Try.ntmps23
  go_wp2_with fail
  go_quiet ((go_at_call 14; exact Calls.quiet_of_same ((HC0 _).mono fun _ _ h => ⟨h.1, h.2.symm⟩)))
  go_wp2
  go_ret
  refine ⟨rfl, ?_, ((Gb.refl _ _).drewN _).set _⟩
  have := (H.out.drewN nq).set 5 (.string (jx ++ x))
  simpa using this
end
end Go.Proofs.Ytockjijhckkicaa
