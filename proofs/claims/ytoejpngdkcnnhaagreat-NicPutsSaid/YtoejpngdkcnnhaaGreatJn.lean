/-
  Packets by value, rows of packets; append of a row of structs. No function in it.
  The walk of the document's Take: words as a packet.
  The walks of join's object: New, Begun, Has, begin, add.
  The walks of join's end and Take.
  The walk of join's Take.
  The walk of words: of parcels that may be, one behind the other.
  Words put together, one by one, as plain mathematics (layer 11).
  Words of a list, taken one by one: plain mathematics; the walk of a Take of nil.
-/
import Derived.Test.YtoejpngdkcnnhaaGreatGoodR
import Derived.Test.YtoejpngdkcnnhaaGreatCut

namespace Go.Proofs.YtoejpngdkcnnhaaGreat
open Go.RowKit

/-- A packet by value. -/
structure Pk where
  s : Int
  d : Int
  q : Int
  x : ByteArray
abbrev zpk : Pk := ⟨0, 0, 0, ByteArray.empty⟩
abbrev pkc (p : Pk) : Array Value := #[.int .i64 p.s, .int .i64 p.d, .int .i64 p.q, .string p.x]
abbrev pkv (p : Pk) : Value := .agg (pkc p)
/-- A row of packets, cell by cell. -/
def kcs (l : List Pk) : List Value := l.flatMap fun p => [.int .i64 p.s, .int .i64 p.d, .int .i64 p.q, .string p.x]
theorem kcs_len (l : List Pk) : (kcs l).length = l.length * 4 := by
  induction l with
  | nil => rfl
  | cons x l ih => simp only [kcs, List.flatMap_cons] at ih ⊢; rw [List.length_append, ih]; simp; omega
theorem kcs_app (l m : List Pk) : kcs (l ++ m) = kcs l ++ kcs m := by unfold kcs; rw [List.flatMap_append]
theorem kcs_one (l : List Pk) : ∀ u ∈ kcs l, u.oneCell' = true := by
  intro u hu
  unfold kcs at hu
  obtain ⟨p, _, hp⟩ := List.mem_flatMap.1 hu
  simp at hp
  rcases hp with rfl | rfl | rfl | rfl <;> rfl
theorem kcs_at : ∀ (l : List Pk) (k : Nat) (p : Pk), l[k]? = some p → (kcs l)[k * 4]? = some (.int .i64 p.s) ∧ (kcs l)[k * 4 + 1]? = some (.int .i64 p.d) ∧ (kcs l)[k * 4 + 2]? = some (.int .i64 p.q) ∧ (kcs l)[k * 4 + 3]? = some (.string p.x) := by
  intro l
  induction l with
  | nil => intro k p h; simp at h
  | cons h l ih =>
    intro k p hk
    cases k with
    | zero => simp at hk; subst hk; simp [kcs]
    | succ k =>
      have := ih k p (by simpa using hk)
      have e : kcs (h :: l) = .int .i64 h.s :: .int .i64 h.d :: .int .i64 h.q :: .string h.x :: kcs l := by simp [kcs]
      rw [e, show (k + 1) * 4 = k * 4 + 1 + 1 + 1 + 1 by omega, show k * 4 + 1 + 1 + 1 + 1 + 1 = (k * 4 + 1) + 1 + 1 + 1 + 1 by omega, show k * 4 + 1 + 1 + 1 + 1 + 2 = (k * 4 + 2) + 1 + 1 + 1 + 1 by omega, show k * 4 + 1 + 1 + 1 + 1 + 3 = (k * 4 + 3) + 1 + 1 + 1 + 1 by omega]
      simp only [List.getElem?_cons_succ]
      exact this
/-- One packet of a row that is read. -/
theorem Rd.pk {w : World} {a : Option Addr} {l : List Pk} {k : Nat} {p : Pk} (h : Rd w a (kcs l)) (hk : l[k]? = some p) : ∃ g o, a = some ⟨g, o, none⟩ ∧ g < w.heap.size ∧ w.cell? ⟨g, o + k * 4, none⟩ = some (.int .i64 p.s) ∧ w.cell? ⟨g, o + k * 4 + 1, none⟩ = some (.int .i64 p.d) ∧ w.cell? ⟨g, o + k * 4 + 2, none⟩ = some (.int .i64 p.q) ∧ w.cell? ⟨g, o + k * 4 + 3, none⟩ = some (.string p.x) := by
  obtain ⟨h0, h1, h2, h3⟩ := kcs_at l k p hk
  obtain ⟨g, o, rfl, hg, c0⟩ := h _ _ h0
  obtain ⟨g', o', e, _, c1⟩ := h _ _ h1
  simp only [Option.some.injEq, Addr.mk.injEq] at e
  obtain ⟨rfl, rfl, _⟩ := e
  obtain ⟨g', o', e, _, c2⟩ := h _ _ h2
  simp only [Option.some.injEq, Addr.mk.injEq] at e
  obtain ⟨rfl, rfl, _⟩ := e
  obtain ⟨g', o', e, _, c3⟩ := h _ _ h3
  simp only [Option.some.injEq, Addr.mk.injEq] at e
  obtain ⟨rfl, rfl, _⟩ := e
  exact ⟨g, o, rfl, hg, c0, by rw [Nat.add_assoc]; exact c1, by rw [Nat.add_assoc]; exact c2, by rw [Nat.add_assoc]; exact c3⟩
/-- A parcel's packets. -/
def pks (P : Pc) : List Pk := P.hs.map fun h => ⟨P.s, h.1, h.2, P.x⟩
theorem kc_kcs (P : Pc) : kc P.s P.x P.hs = kcs (pks P) := by
  unfold kc kcs pks
  rw [List.flatMap_map]
theorem pks_len (P : Pc) : (pks P).length = P.hs.length := by unfold pks; rw [List.length_map]

/-- append of a row of structs that is read. -/
theorem wpList_app_rowk {P : Program} {ops : Array Oper} {rest : List Oper} {o : Oper} {a : Act} {Q : Exit → Act → World → Prop} (hgd : o.guard = none) (s x : Operand) (t e : TypeId) (i : TypeInfo) (z : Value) (k bytes : Nat)
    (ho : o.op = .call { callee := .builtin .append, args := #[s, x], argTypes := #[t, t] })
    (ht : P.underlying t = some (.slice e)) (hi : P.info? e = some i) (hz : i.zero = some z) (h1 : i.size = k) (hby : i.bytes = bytes) (hzs : z.cells.size = k) (hk0 : 0 < k) (hb8 : bytes ≤ 64)
    (B : Nat) (w : World) (v : Value) (n : Nat) (xs : List Value) (hs : a.eval s = v) (hown : OwnK e k w B v n xs) (g q m c : Nat) (hx : a.eval x = .slice (some ⟨g, q, none⟩) m c) (ys : List Value) (hm : ys.length = m * k) (hr : Rd w (some ⟨g, q, none⟩) ys) (hone : ∀ u ∈ ys, u.oneCell' = true)
    (hlen : n + m ≤ 1000000) (hbase : B ≤ w.heap.size)
    (h : ∀ v' w', OwnK e k w' B v' (n + m) (xs ++ ys) → w.grownBy w' v.ownBlock → wpList P ops Q rest (a.put o.dst v') w') : wpList P ops Q (o :: rest) a w := by
  refine wpList_append_own _ hgd s x t ho B e i z k bytes ht hi hz h1 hby hzs hk0 v n xs hs hown ⟨g, q, none⟩ m c ys hx hm ?_ hone ?_ ?_ hbase ?_
  · intro j u hj
    obtain ⟨g', o', e1, _, h3⟩ := hr j u hj
    simp only [Option.some.injEq, Addr.mk.injEq] at e1
    obtain ⟨rfl, rfl, _⟩ := e1
    rw [WideShapes.add_plain]
    exact h3
  · unfold maxLen; omega
  · have : (n + m) * bytes ≤ (n + m) * 64 := Nat.mul_le_mul_left _ hb8
    omega
  · intro v' w' hown' hgrow _
    exact h v' w' hown' hgrow
/-- Where a row that is not empty lies. -/
theorem Rd.at0 {w : World} {a : Option Addr} {l : List Value} (h : Rd w a l) (hl : 0 < l.length) : ∃ g o, a = some ⟨g, o, none⟩ := by
  obtain ⟨g, o, e, _⟩ := h 0 _ (List.getElem?_eq_getElem hl)
  exact ⟨g, o, e⟩

/-- Parcels that came in, as a row. -/
def PsRd (w : World) (a : Option Addr) (ps : List Pc) : Prop := ∀ j p, ps[j]? = some p → ∃ g o, a = some ⟨g, o, none⟩ ∧ g < w.heap.size ∧
  w.cell? ⟨g, o + j * 4, none⟩ = some (.int .i64 p.s) ∧ w.cell? ⟨g, o + j * 4 + 1, none⟩ = some (.bool p.c) ∧ w.cell? ⟨g, o + j * 4 + 3, none⟩ = some (.string p.x) ∧
  ∃ a' cap', w.cell? ⟨g, o + j * 4 + 2, none⟩ = some (.slice a' p.hs.length cap') ∧ p.hs.length ≤ maxLen ∧ p.x.size ≤ maxLen ∧ Rd w a' (pc p.hs)
theorem PsRd.below {w w' : World} {a : Option Addr} {ps : List Pc} (h : PsRd w a ps) (hb : Below w.heap.size w w') : PsRd w' a ps := fun j p hj => by
  obtain ⟨g, o, rfl, hg, c0, c1, c3, a', cap', c2, h1, h2, h3⟩ := h j p hj
  exact ⟨g, o, rfl, Nat.lt_of_lt_of_le hg hb.size, (hb.cell (p := ⟨g, _, none⟩) hg).trans c0, (hb.cell (p := ⟨g, _, none⟩) hg).trans c1, (hb.cell (p := ⟨g, _, none⟩) hg).trans c3, a', cap', (hb.cell (p := ⟨g, _, none⟩) hg).trans c2, h1, h2, h3.below hb⟩
end Go.Proofs.YtoejpngdkcnnhaaGreat

namespace Go.Proofs.YtoejpngdkcnnhaaGreat
open Go.RowKit

/-- What has begun, by value. -/
structure JS where
  b : Bool
  s : Int
  d : Int
  q : Int
  x : ByteArray
  n : Int
abbrev zjs : JS := ⟨false, 0, 0, 0, ByteArray.empty, 0⟩
abbrev jc (j : JS) : Array Value := #[.bool j.b, .int .i64 j.s, .int .i64 j.d, .int .i64 j.q, .string j.x, .int .i64 j.n]
abbrev jv (j : JS) : Value := .agg (jc j)
/-- A word comes: what has begun then, the packet that is whole, whether one is, the error. -/
def takeF (j : JS) (f : Fl) (e : Int) : JS × Pk × Bool × Int :=
  if ¬ e = 0 then (j, zpk, false, e)
  else if decide (f.k = 1) = j.b then (j, zpk, false, 13)
  else if f.k = 1 then (⟨true, f.s, f.d, f.q, ByteArray.empty, f.l⟩, zpk, false, 0)
  else if f.k = 3 then
    if ¬ ((j.x ++ f.x).size : Int) = j.n then (zjs, zpk, false, 4) else (zjs, ⟨j.s, j.d, j.q, j.x ++ f.x⟩, true, 0)
  else if j.n < ((j.x ++ f.x).size : Int) then (j, zpk, false, 4) else (⟨j.b, j.s, j.d, j.q, j.x ++ f.x, j.n⟩, zpk, false, 0)
def takeR (j : JS) (W : Nat) : JS × Pk × Bool × Int := takeF j (readR W).1 (readR W).2

theorem six_at {v : World} {b : Nat} {c0 c1 c2 c3 c4 c5 x0 x1 x2 x3 x4 x5 : Value} {t : TypeId} (h : Bk v b #[c0, c1, c2, c3, c4, c5] t) : Bk ((((((v.setCell ⟨b, 0, none⟩ x0).setCell ⟨b, 1, none⟩ x1).setCell ⟨b, 2, none⟩ x2).setCell ⟨b, 3, none⟩ x3).setCell ⟨b, 4, none⟩ x4).setCell ⟨b, 5, none⟩ x5) b #[x0, x1, x2, x3, x4, x5] t := by
  have := (((((h.set 0 x0).set 1 x1).set 2 x2).set 3 x3).set 4 x4).set 5 x5
  simpa using this
theorem six_far {v : World} {b b' : Nat} {cs : Array Value} {t : TypeId} {x0 x1 x2 x3 x4 x5 : Value} (h : Bk v b' cs t) (hne : ¬ b' = b) : Bk ((((((v.setCell ⟨b, 0, none⟩ x0).setCell ⟨b, 1, none⟩ x1).setCell ⟨b, 2, none⟩ x2).setCell ⟨b, 3, none⟩ x3).setCell ⟨b, 4, none⟩ x4).setCell ⟨b, 5, none⟩ x5) b' cs t := (((((h.far hne).far hne).far hne).far hne).far hne).far hne
theorem fourp_at {v : World} {b : Nat} {c0 c1 c2 c3 x0 x1 x2 x3 : Value} {t : TypeId} (h : Bk v b #[c0, c1, c2, c3] t) : Bk ((((v.setCell ⟨b, 0, none⟩ x0).setCell ⟨b, 1, none⟩ x1).setCell ⟨b, 2, none⟩ x2).setCell ⟨b, 3, none⟩ x3) b #[x0, x1, x2, x3] t := by
  have := (((h.set 0 x0).set 1 x1).set 2 x2).set 3 x3
  simpa using this
theorem below_6 {w v : World} {B b : Nat} (h : Below B w v) (hb : B ≤ b) (x0 x1 x2 x3 x4 x5 : Value) : Below B w ((((((v.setCell ⟨b, 0, none⟩ x0).setCell ⟨b, 1, none⟩ x1).setCell ⟨b, 2, none⟩ x2).setCell ⟨b, 3, none⟩ x3).setCell ⟨b, 4, none⟩ x4).setCell ⟨b, 5, none⟩ x5) :=
  (((((h.setCell hb _).setCell hb _).setCell hb _).setCell hb _).setCell hb _).setCell hb _
/-- Four blocks, one behind the other. -/
theorem blocks4 (w : World) (A B C D : Array Value) (t u r s : TypeId) :
    Hid (Bk ((((w.alloc (.cells A t)).alloc (.cells B u)).alloc (.cells C r)).alloc (.cells D s)) w.heap.size A t ∧ Bk ((((w.alloc (.cells A t)).alloc (.cells B u)).alloc (.cells C r)).alloc (.cells D s)) (w.heap.size + 1) B u ∧ Bk ((((w.alloc (.cells A t)).alloc (.cells B u)).alloc (.cells C r)).alloc (.cells D s)) (w.heap.size + 1 + 1) C r ∧ Bk ((((w.alloc (.cells A t)).alloc (.cells B u)).alloc (.cells C r)).alloc (.cells D s)) (w.heap.size + 1 + 1 + 1) D s ∧
      Below w.heap.size w ((((w.alloc (.cells A t)).alloc (.cells B u)).alloc (.cells C r)).alloc (.cells D s)) ∧ w.heap.size + 4 ≤ ((((w.alloc (.cells A t)).alloc (.cells B u)).alloc (.cells C r)).alloc (.cells D s)).heap.size) := by
  obtain ⟨h1, h2, h3, h4, h5⟩ := (three_blocks w A B C t u r).out
  have e3 : (((w.alloc (.cells A t)).alloc (.cells B u)).alloc (.cells C r)).heap.size = w.heap.size + 1 + 1 + 1 := by simp
  refine ⟨h1.alloc _, h2.alloc _, h3.alloc _, ?_, h4.alloc (by rw [e3]; omega) _, by simp⟩
  have := Bk.new (((w.alloc (.cells A t)).alloc (.cells B u)).alloc (.cells C r)) D s
  rw [e3] at this
  exact this

end Go.Proofs.YtoejpngdkcnnhaaGreat

namespace Go.Proofs.YtoejpngdkcnnhaaGreat
open Go.RowKit

/-- The object's cells, by what has begun. -/
abbrev pj (j : JS) : Array Value := #[.bool j.b, .int .i64 j.n, .int .i64 j.s, .int .i64 j.d, .int .i64 j.q, .string j.x]
/-- Of the elder blocks only this one may have turned. -/
def Gb (b : Nat) (w w' : World) : Prop := w.grownBy w' (some b)
theorem Gb.out {b : Nat} {w w' : World} (h : Gb b w w') : w.grownBy w' (some b) := h
theorem Gb.refl (b : Nat) (w : World) : Gb b w w := ⟨rfl, rfl, rfl, Nat.le_refl _, fun _ _ _ => rfl⟩
theorem Gb.size {b : Nat} {w w' : World} (h : Gb b w w') : w.heap.size ≤ w'.heap.size := h.out.size
theorem Gb.trans {b : Nat} {w v u : World} (h : Gb b w v) (k : Gb b v u) : Gb b w u :=
  ⟨k.out.os.trans h.out.os, k.out.tape.trans h.out.tape, k.out.output.trans h.out.output, Nat.le_trans h.size k.size, fun i hi hne => (k.out.block i (Nat.lt_of_lt_of_le hi h.size) hne).trans (h.out.block i hi hne)⟩
theorem Gb.of {b : Nat} {w v : World} (k : Below w.heap.size w v) : Gb b w v := ⟨k.os, k.tape, k.output, k.size, fun i hi _ => k.block i hi⟩
theorem Gb.below {b : Nat} {w v u : World} (h : Gb b w v) (k : Below v.heap.size v u) : Gb b w u := h.trans (Gb.of k)
theorem Gb.alloc {b : Nat} {w v : World} (h : Gb b w v) (o : Obj) : Gb b w (v.alloc o) := h.below ((Below.refl _ _).alloc (Nat.le_refl _) o)
theorem Gb.drew {b : Nat} {w v : World} (h : Gb b w v) : Gb b w v.drew := h.below (Below.refl _ _).drew
theorem Gb.set {b j : Nat} {w v : World} (h : Gb b w v) (x : Value) : Gb b w (v.setCell ⟨b, j, none⟩ x) :=
  h.trans ⟨rfl, rfl, rfl, by simp, fun k _ hne => Below.heap_setCell v ⟨b, j, none⟩ x k fun e => hne (by rw [e])⟩
theorem Gb.setNew {b c j : Nat} {w v : World} (h : Gb b w v) (hc : w.heap.size ≤ c) (x : Value) : Gb b w (v.setCell ⟨c, j, none⟩ x) :=
  ⟨h.out.os, h.out.tape, h.out.output, by simpa using h.size, fun k hk hne => (Below.heap_setCell v ⟨c, j, none⟩ x k (by show k ≠ c; omega)).trans (h.out.block k hk hne)⟩
theorem Gb.six {b : Nat} {w v : World} (h : Gb b w v) (x0 x1 x2 x3 x4 x5 : Value) : Gb b w ((((((v.setCell ⟨b, 0, none⟩ x0).setCell ⟨b, 1, none⟩ x1).setCell ⟨b, 2, none⟩ x2).setCell ⟨b, 3, none⟩ x3).setCell ⟨b, 4, none⟩ x4).setCell ⟨b, 5, none⟩ x5) :=
  (((((h.set _).set _).set _).set _).set _).set _
theorem Gb.four {b c : Nat} {w v : World} (h : Gb b w v) (hc : w.heap.size ≤ c) (x0 x1 x2 x3 : Value) : Gb b w ((((v.setCell ⟨c, 0, none⟩ x0).setCell ⟨c, 1, none⟩ x1).setCell ⟨c, 2, none⟩ x2).setCell ⟨c, 3, none⟩ x3) :=
  (((h.setNew hc _).setNew hc _).setNew hc _).setNew hc _
theorem below_gb {B b : Nat} {a w w' : World} (h : Below B a w) (hg : Gb b w w') (hb : B ≤ b) (hB : B ≤ w.heap.size) : Below B a w' :=
  h.grown hg.out hB fun k e => by
    injection e with e
    omega
theorem Bk.gb {v v' : World} {b k : Nat} {cs : Array Value} {t : TypeId} (h : Bk v b cs t) (hg : Gb k v v') (hne : ¬ b = k) : Bk v' b cs t := h.kept hg.out fun e => hne (Option.some.inj e).symm
theorem OwnK.gb {e : TypeId} {k : Nat} {w w' : World} {B n b : Nat} {v : Value} {cs : List Value} (h : OwnK e k w B v n cs) (hg : Gb b w w') (hne : v.ownBlock ≠ some b) : OwnK e k w' B v n cs := World.ownsRow.kept h hg.out (Or.inr hne)

theorem Bk.drewN {w : World} {b : Nat} {cs : Array Value} {t : TypeId} (h : Bk w b cs t) (n : Nat) : Bk (w.drewN n) b cs t := by
  unfold Bk
  rw [World.heap_drewN]
  exact h
theorem Gb.drewN {b : Nat} {w v : World} (h : Gb b w v) (n : Nat) : Gb b w (v.drewN n) := h.below ⟨rfl, rfl, rfl, Nat.le_refl _, fun _ _ => rfl⟩

theorem dn {B : Nat} {a w : World} (h : Below B a w) (n : Nat) : Below B a (w.drewN n) := h.trans ⟨rfl, rfl, rfl, Nat.le_refl _, fun _ _ => rfl⟩
theorem new_any (w : World) : Calls Tryz.prog 27 #[] w fun e w' => e = .returned (.pointer (some ⟨w.heap.size, 0, none⟩)) ∧ w' = w.alloc (.cells (pj zjs) 104) := by
  simp only [pj]
  go_enter Tryz.func27, Tryz.ntmps27
  go_wp2
  go_ret
  exact ⟨rfl, rfl⟩

section
variable {w : World} {b : Nat} {j : JS}
theorem begun_any (h : Bk w b (pj j) 104) : Calls Tryz.prog 39 #[.pointer (some ⟨b, 0, none⟩)] w fun e w' => e = .returned (.bool j.b) ∧ w = w' := by
  have c0 := h.cell 0
  simp only [pj, List.getElem?_toArray, List.getElem?_cons_zero] at c0
  clear h
  generalize j.b = jb at *
  go_enter Tryz.func39, Tryz.ntmps39
  go_wp2
  go_ret
  exact ⟨rfl, rfl⟩
theorem begun_nil (w : World) : Calls Tryz.prog 39 #[.pointer none] w fun e w' => e = .returned (.bool false) ∧ w = w' := by
  go_enter Tryz.func39, Tryz.ntmps39
  go_wp2
  go_ret
  exact ⟨rfl, rfl⟩
theorem jhas_any (h : Bk w b (pj j) 104) : Calls Tryz.prog 76 #[.pointer (some ⟨b, 0, none⟩)] w fun e w' => e = .returned (.int .i64 (j.x.size : Int)) ∧ w = w' := by
  have c0 := h.cell 5
  simp only [pj, List.getElem?_toArray, List.getElem?_cons_zero, List.getElem?_cons_succ] at c0
  clear h
  generalize j.x = jx at *
  go_enter Tryz.func76, Tryz.ntmps76
  go_wp2
  go_ret
  exact ⟨rfl, rfl⟩
theorem jhas_nil (w : World) : Calls Tryz.prog 76 #[.pointer none] w fun e w' => e = .returned (.int .i64 0) ∧ w = w' := by
  go_enter Tryz.func76, Tryz.ntmps76
  go_wp2
  go_ret
  exact ⟨rfl, rfl⟩

set_option maxRecDepth 100000 in
set_option maxHeartbeats 4000000 in
theorem begin_any (f : Fl) (h : Bk w b (pj j) 104) : Calls Tryz.prog 57 #[.pointer (some ⟨b, 0, none⟩), flv f] w fun e w' => e = .returned (.tuple #[]) ∧ Bk w' b (pj ⟨true, f.s, f.d, f.q, ByteArray.empty, f.l⟩) 104 ∧ Gb b w w' := by
  obtain ⟨fk, fs, fd, fq, fl, fm, fc, fx⟩ := f
  obtain ⟨jb, js, jd, jq, jx, jn⟩ := j
  simp only [flv, flc, pj] at *
  have H1 : Hid (Bk (w.alloc (.cells #[.int .i64 fk, .int .i64 fs, .int .i64 fd, .int .i64 fq, .int .i64 fl, .bool fm, .bool fc, .string fx] 87)) b #[.bool jb, .int .i64 jn, .int .i64 js, .int .i64 jd, .int .i64 jq, .string jx] 104) := h.alloc _
  have F1 : Hid (Bk (w.alloc (.cells #[.int .i64 fk, .int .i64 fs, .int .i64 fd, .int .i64 fq, .int .i64 fl, .bool fm, .bool fc, .string fx] 87)) w.heap.size #[.int .i64 fk, .int .i64 fs, .int .i64 fd, .int .i64 fq, .int .i64 fl, .bool fm, .bool fc, .string fx] 87) := Bk.new _ _ _
  have G1 : Hid (Gb b w (w.alloc (.cells #[.int .i64 fk, .int .i64 fs, .int .i64 fd, .int .i64 fq, .int .i64 fl, .bool fm, .bool fc, .string fx] 87))) := (Gb.refl _ _).alloc _
  have hlt := h.lt
  have hne : ¬ w.heap.size = b := by omega
  have hne2 : ¬ b = w.heap.size := by omega
  clear h
  go_enter Tryz.func57, Tryz.ntmps57
  go_upto_region 1 with fail
  generalize w.alloc (.cells #[.int .i64 fk, .int .i64 fs, .int .i64 fd, .int .i64 fq, .int .i64 fl, .bool fm, .bool fc, .string fx] 87) = v at *
  obtain ⟨bf, hbf⟩ : ∃ bf, w.heap.size = bf := ⟨_, rfl⟩
  rw [hbf] at F1 hne hne2 ⊢
  clear hbf hlt
  have c0 := H1.out.cell 0
  have c1 := H1.out.cell 1
  have c2 := H1.out.cell 2
  have c3 := H1.out.cell 3
  have c4 := H1.out.cell 4
  have c5 := H1.out.cell 5
  have z0 := H1.out.free 0
  have z1 := H1.out.free 1
  have z2 := H1.out.free 2
  have z3 := H1.out.free 3
  have z4 := H1.out.free 4
  have z5 := H1.out.free 5
  have d1 := F1.out.cell 1
  have d2 := F1.out.cell 2
  have d3 := F1.out.cell 3
  have d4 := F1.out.cell 4
  simp only [List.getElem?_toArray, List.getElem?_cons_zero, List.getElem?_cons_succ] at c0 c1 c2 c3 c4 c5 d1 d2 d3 d4
  go_wp2
  go_end0
  exact ⟨rfl, six_at H1.out, G1.out.six _ _ _ _ _ _⟩

set_option maxRecDepth 100000 in
set_option maxHeartbeats 4000000 in
theorem add_no (x : ByteArray) (h : Bk w b (pj j) 104) (h1 : j.x.size ≤ 1000000) (h2 : x.size ≤ 1000000) (hlt : j.n < (j.x.size : Int) + (x.size : Int)) : Calls Tryz.prog 58 #[.pointer (some ⟨b, 0, none⟩), .string x] w fun e w' => e = .returned (.int .i64 4) ∧ ∃ m, w' = w.drewN m := by
  have HC0 := fun m => jhas_any (h.drewN m)
  obtain ⟨jb, js, jd, jq, jx, jn⟩ := j
  simp only [pj] at *
  have H : Hid (Bk w b #[.bool jb, .int .i64 jn, .int .i64 js, .int .i64 jd, .int .i64 jq, .string jx] 104) := h
  have c1 := h.cell 1
  simp only [List.getElem?_toArray, List.getElem?_cons_zero, List.getElem?_cons_succ] at c1
  clear h
  have s1 : (jx.size : Int) ≤ 1000000 := by omega
  have s2 : (x.size : Int) ≤ 1000000 := by omega
  have s3 : (0 : Int) ≤ jx.size := by omega
  have s4 : (0 : Int) ≤ x.size := by omega
  go_enter Tryz.func58, Tryz.ntmps58
  go_wp2_with fail
  go_quiet ((go_at_call 76; exact Calls.quiet_of_same ((HC0 _).mono fun _ _ h => ⟨h.1, h.2.symm⟩)))
  go_wp2
  go_ret
  exact ⟨rfl, _, rfl⟩

set_option maxRecDepth 100000 in
set_option maxHeartbeats 4000000 in
theorem add_yes (x : ByteArray) (h : Bk w b (pj j) 104) (h1 : j.x.size ≤ 1000000) (h2 : x.size ≤ 1000000) (hlt : ¬ j.n < (j.x.size : Int) + (x.size : Int)) : Calls Tryz.prog 58 #[.pointer (some ⟨b, 0, none⟩), .string x] w fun e w' => e = .returned (.int .i64 0) ∧ Bk w' b (pj ⟨j.b, j.s, j.d, j.q, j.x ++ x, j.n⟩) 104 ∧ Gb b w w' := by
  have HC0 := fun m => jhas_any (h.drewN m)
  obtain ⟨jb, js, jd, jq, jx, jn⟩ := j
  simp only [pj] at *
  have H : Hid (Bk w b #[.bool jb, .int .i64 jn, .int .i64 js, .int .i64 jd, .int .i64 jq, .string jx] 104) := h
  have c1 := h.cell 1
  have c5 := h.cell 5
  have z5 := h.free 5
  simp only [List.getElem?_toArray, List.getElem?_cons_zero, List.getElem?_cons_succ] at c1 c5
  clear h
  have s1 : (jx.size : Int) ≤ 1000000 := by omega
  have s2 : (x.size : Int) ≤ 1000000 := by omega
  have s3 : (0 : Int) ≤ jx.size := by omega
  have s4 : (0 : Int) ≤ x.size := by omega
  have sx : (jx ++ x).size ≤ 9223372036854775807 := by rw [ByteArray.size_append]; omega
  have sx2 : jx.size + x.size ≤ 9223372036854775807 := by omega
  go_enter Tryz.func58, Tryz.ntmps58
  go_wp2_with fail
  go_quiet ((go_at_call 76; exact Calls.quiet_of_same ((HC0 _).mono fun _ _ h => ⟨h.1, h.2.symm⟩)))
  go_wp2
  go_ret
  refine ⟨rfl, ?_, ((Gb.refl _ _).drewN _).set _⟩
  have := (H.out.drewN nq).set 5 (.string (jx ++ x))
  simpa using this
end
end Go.Proofs.YtoejpngdkcnnhaaGreat

namespace Go.Proofs.YtoejpngdkcnnhaaGreat
open Go.RowKit

/-- Bytes come behind: what has begun then, and the error. -/
def addS (j : JS) (x : ByteArray) : JS := if j.n < (j.x.size : Int) + (x.size : Int) then j else ⟨j.b, j.s, j.d, j.q, j.x ++ x, j.n⟩
def addE (j : JS) (x : ByteArray) : Int := if j.n < (j.x.size : Int) + (x.size : Int) then 4 else 0
/-- The Tail's: the packet, whether it is one, the error. -/
def endR (j : JS) (x : ByteArray) : Pk × Bool × Int := if ¬ ((j.x ++ x).size : Int) = j.n then (zpk, false, 4) else (⟨j.s, j.d, j.q, j.x ++ x⟩, true, 0)

section
variable {w : World} {b : Nat} {j : JS}
theorem add_any (x : ByteArray) (h : Bk w b (pj j) 104) (h1 : j.x.size ≤ 1000000) (h2 : x.size ≤ 1000000) : Calls Tryz.prog 58 #[.pointer (some ⟨b, 0, none⟩), .string x] w fun e w' => e = .returned (.int .i64 (addE j x)) ∧ Bk w' b (pj (addS j x)) 104 ∧ Gb b w w' := by
  by_cases hlt : j.n < (j.x.size : Int) + (x.size : Int)
  · unfold addE addS
    rw [if_pos hlt, if_pos hlt]
    refine (add_no x h h1 h2 hlt).mono ?_
    rintro e w' ⟨rfl, m, rfl⟩
    exact ⟨rfl, h.drewN m, (Gb.refl _ _).drewN m⟩
  · unfold addE addS
    rw [if_neg hlt, if_neg hlt]
    exact add_yes x h h1 h2 hlt

set_option maxRecDepth 100000 in
set_option maxHeartbeats 8000000 in
theorem end_any (x : ByteArray) (h : Bk w b (pj j) 104) (h1 : j.x.size ≤ 1000000) (h2 : x.size ≤ 1000000) : Calls Tryz.prog 59 #[.pointer (some ⟨b, 0, none⟩), .string x] w fun e w' => e = .returned (.tuple #[pkv (endR j x).1, .bool (endR j x).2.1, .int .i64 (endR j x).2.2]) ∧ Bk w' b (pj zjs) 104 ∧ Gb b w w' := by
  have AC := add_any (w := w.alloc (.cells #[.int .i64 0, .int .i64 0, .int .i64 0, .string ⟨#[]⟩] 61)) x (h.alloc _) h1 h2
  have hcase : (addE j x = 4 ∧ endR j x = (zpk, false, 4)) ∨ (addE j x = 0 ∧ ((addS j x).x.size : Int) < (addS j x).n ∧ endR j x = (zpk, false, 4)) ∨ (addE j x = 0 ∧ ¬ ((addS j x).x.size : Int) < (addS j x).n ∧ endR j x = (⟨(addS j x).s, (addS j x).d, (addS j x).q, (addS j x).x⟩, true, 0)) := by
    unfold addE addS endR
    by_cases hlt : j.n < (j.x.size : Int) + (x.size : Int)
    · rw [if_pos hlt, if_pos (by rw [ByteArray.size_append]; omega)]
      exact Or.inl ⟨rfl, rfl⟩
    · rw [if_neg hlt, if_neg hlt]
      by_cases he : ((j.x ++ x).size : Int) = j.n
      · rw [if_neg (fun h => h he)]
        exact Or.inr (Or.inr ⟨rfl, by simp only; omega, rfl⟩)
      · rw [if_pos he]
        exact Or.inr (Or.inl ⟨rfl, by simp only; rw [ByteArray.size_append] at he ⊢; omega, rfl⟩)
  have hlt := h.lt
  have hsz : (addS j x).x.size ≤ 2000000 := by
    unfold addS
    split
    · omega
    · show (j.x ++ x).size ≤ 2000000
      rw [ByteArray.size_append]; omega
  generalize endR j x = R at *
  generalize addE j x = er at *
  generalize addS j x = k at *
  obtain ⟨kb, ks, kd, kq, kx, kn⟩ := k
  have R0 : Bk (w.alloc (.cells #[.int .i64 0, .int .i64 0, .int .i64 0, .string ⟨#[]⟩] 61)) w.heap.size #[.int .i64 0, .int .i64 0, .int .i64 0, .string ⟨#[]⟩] 61 := Bk.new _ _ _
  have G0 : Gb b w (w.alloc (.cells #[.int .i64 0, .int .i64 0, .int .i64 0, .string ⟨#[]⟩] 61)) := (Gb.refl _ _).alloc _
  simp only [pj] at *
  clear h h1 h2
  go_enter Tryz.func59, Tryz.ntmps59
  go_upto_region 2 with (go_at_call 58; (with_reducible refine AC.mono ?_); rintro e v ⟨rfl, hk, hg⟩)
  have hne : ¬ w.heap.size = b := by omega
  have hne2 : ¬ b = w.heap.size := by omega
  have HK : Hid (Bk v b #[.bool kb, .int .i64 kn, .int .i64 ks, .int .i64 kd, .int .i64 kq, .string kx] 104) := hk
  have HR : Hid (Bk v w.heap.size #[.int .i64 0, .int .i64 0, .int .i64 0, .string ⟨#[]⟩] 61) := R0.gb hg hne
  have HG : Hid (Gb b w v) := G0.trans hg
  have hv := R0.gb hg hne |>.lt
  clear AC R0 G0 hk hg
  have c1 := HK.out.cell 1
  have c2 := HK.out.cell 2
  have c3 := HK.out.cell 3
  have c4 := HK.out.cell 4
  have c5 := HK.out.cell 5
  simp only [List.getElem?_toArray, List.getElem?_cons_zero, List.getElem?_cons_succ] at c1 c2 c3 c4 c5
  have hbv : b < v.heap.size := HK.out.lt
  have hnv : ¬ b = v.heap.size := by omega
  obtain ⟨r0, hr0⟩ : ∃ r, w.heap.size = r := ⟨_, rfl⟩
  rw [hr0] at HR hne hne2 hv ⊢
  go_region_held3 (fun V => V.cell? ⟨b, 1, none⟩ = some (.int .i64 kn) ∧ V.cell? ⟨b, 2, none⟩ = some (.int .i64 ks) ∧ V.cell? ⟨b, 3, none⟩ = some (.int .i64 kd) ∧ V.cell? ⟨b, 4, none⟩ = some (.int .i64 kq) ∧ V.cell? ⟨b, 5, none⟩ = some (.string kx))
    (first | go_keep) (first | fail)
  have HN : Hid (Bk (v.alloc (.cells #[.int .i64 ks, .int .i64 kd, .int .i64 kq, .string kx] 61)).drew v.heap.size #[.int .i64 ks, .int .i64 kd, .int .i64 kq, .string kx] 61) := (Bk.new v _ _).drew
  have HK2 : Hid (Bk (v.alloc (.cells #[.int .i64 ks, .int .i64 kd, .int .i64 kq, .string kx] 61)).drew b #[.bool kb, .int .i64 kn, .int .i64 ks, .int .i64 kd, .int .i64 kq, .string kx] 104) := (HK.out.alloc _).drew
  have HR2 : Hid (Bk (v.alloc (.cells #[.int .i64 ks, .int .i64 kd, .int .i64 kq, .string kx] 61)).drew r0 #[.int .i64 0, .int .i64 0, .int .i64 0, .string ⟨#[]⟩] 61) := (HR.out.alloc _).drew
  have HG2 : Hid (Gb b w (v.alloc (.cells #[.int .i64 ks, .int .i64 kd, .int .i64 kq, .string kx] 61)).drew) := (HG.out.alloc _).drew
  have hcv : r0 < v.heap.size := HR.out.lt
  have hwz : w.heap.size ≤ r0 := by omega
  clear HK HR HG c1 c2 c3 c4 c5 hv hlt
  go_upto_region 3 with fail
  generalize (v.alloc (.cells #[.int .i64 ks, .int .i64 kd, .int .i64 kq, .string kx] 61)).drew = v2 at *
  generalize v.heap.size = c at *
  have hnc : ¬ r0 = c := by omega
  have hnc2 : ¬ c = r0 := by omega
  have hnv2 : ¬ c = b := by omega
  have c0 := HK2.out.cell 0
  have c1 := HK2.out.cell 1
  have c2 := HK2.out.cell 2
  have c3 := HK2.out.cell 3
  have c4 := HK2.out.cell 4
  have c5 := HK2.out.cell 5
  have z0 := HK2.out.free 0
  have z1 := HK2.out.free 1
  have z2 := HK2.out.free 2
  have z3 := HK2.out.free 3
  have z4 := HK2.out.free 4
  have z5 := HK2.out.free 5
  simp only [List.getElem?_toArray, List.getElem?_cons_zero, List.getElem?_cons_succ] at c0 c1 c2 c3 c4 c5
  go_upto_region 4 with fail
  have XK := six_at (x0 := .bool false) (x1 := .int .i64 0) (x2 := .int .i64 0) (x3 := .int .i64 0) (x4 := .int .i64 0) (x5 := .string ⟨#[]⟩) HK2.out
  have XN := six_far (x0 := .bool false) (x1 := .int .i64 0) (x2 := .int .i64 0) (x3 := .int .i64 0) (x4 := .int .i64 0) (x5 := .string ⟨#[]⟩) HN.out hnv2
  have XR := six_far (x0 := .bool false) (x1 := .int .i64 0) (x2 := .int .i64 0) (x3 := .int .i64 0) (x4 := .int .i64 0) (x5 := .string ⟨#[]⟩) HR2.out hne
  have XG := HG2.out.six (.bool false) (.int .i64 0) (.int .i64 0) (.int .i64 0) (.int .i64 0) (.string ⟨#[]⟩)
  clear c0 c1 c2 c3 c4 c5 z0 z1 z2 z3 z4 z5 HK2 HN HR2 HG2
  generalize (((((v2.setCell ⟨b, 0, none⟩ (.bool false)).setCell ⟨b, 1, none⟩ (.int .i64 0)).setCell ⟨b, 2, none⟩ (.int .i64 0)).setCell ⟨b, 3, none⟩ (.int .i64 0)).setCell ⟨b, 4, none⟩ (.int .i64 0)).setCell ⟨b, 5, none⟩ (.string ⟨#[]⟩) = v3 at *
  have HXK : Hid (Bk v3 b #[.bool false, .int .i64 0, .int .i64 0, .int .i64 0, .int .i64 0, .string ⟨#[]⟩] 104) := XK
  have HXG : Hid (Gb b w v3) := XG
  have HXR : Hid (Bk v3 r0 #[.int .i64 0, .int .i64 0, .int .i64 0, .string ⟨#[]⟩] 61) := XR
  have d0 := XN.cell 0
  have d1 := XN.cell 1
  have d2 := XN.cell 2
  have d3 := XN.cell 3
  have r_0 := XR.cell 0
  have r_1 := XR.cell 1
  have r_2 := XR.cell 2
  have r_3 := XR.cell 3
  have f_0 := XR.free 0
  have f_1 := XR.free 1
  have f_2 := XR.free 2
  have f_3 := XR.free 3
  simp only [List.getElem?_toArray, List.getElem?_cons_zero, List.getElem?_cons_succ] at d0 d1 d2 d3 r_0 r_1 r_2 r_3
  clear XK XN XR XG
  rcases hcase with ⟨rfl, rfl⟩ | ⟨rfl, hq, rfl⟩ | ⟨rfl, hq, rfl⟩
  · go_wp2
    have Y := fourp_at (x0 := .int .i64 0) (x1 := .int .i64 0) (x2 := .int .i64 0) (x3 := .string ⟨#[]⟩) HXR.out
    have Y0 := Y.cell 0
    have Y1 := Y.cell 1
    have Y2 := Y.cell 2
    have Y3 := Y.cell 3
    simp only [List.getElem?_toArray, List.getElem?_cons_zero, List.getElem?_cons_succ] at Y0 Y1 Y2 Y3
    clear Y
    refine bodyPost_ret (v := .tuple #[.agg #[.int .i64 0, .int .i64 0, .int .i64 0, .string ⟨#[]⟩], .bool false, .int .i64 4]) (by simp [results, Tryz.results59, go_sem, Y0, Y1, Y2, Y3]; try rfl) rfl ⟨rfl, four_far HXK.out hne2, HXG.out.four hwz _ _ _ _⟩
  · go_wp2
    have Y := fourp_at (x0 := .int .i64 0) (x1 := .int .i64 0) (x2 := .int .i64 0) (x3 := .string ⟨#[]⟩) HXR.out
    have Y0 := Y.cell 0
    have Y1 := Y.cell 1
    have Y2 := Y.cell 2
    have Y3 := Y.cell 3
    simp only [List.getElem?_toArray, List.getElem?_cons_zero, List.getElem?_cons_succ] at Y0 Y1 Y2 Y3
    clear Y
    refine bodyPost_ret (v := .tuple #[.agg #[.int .i64 0, .int .i64 0, .int .i64 0, .string ⟨#[]⟩], .bool false, .int .i64 4]) (by simp [results, Tryz.results59, go_sem, Y0, Y1, Y2, Y3]; try rfl) rfl ⟨rfl, four_far HXK.out hne2, HXG.out.four hwz _ _ _ _⟩
  · go_wp2
    have Y := fourp_at (x0 := .int .i64 ks) (x1 := .int .i64 kd) (x2 := .int .i64 kq) (x3 := .string kx) HXR.out
    have Y0 := Y.cell 0
    have Y1 := Y.cell 1
    have Y2 := Y.cell 2
    have Y3 := Y.cell 3
    simp only [List.getElem?_toArray, List.getElem?_cons_zero, List.getElem?_cons_succ] at Y0 Y1 Y2 Y3
    clear Y
    refine bodyPost_ret (v := .tuple #[.agg #[.int .i64 ks, .int .i64 kd, .int .i64 kq, .string kx], .bool true, .int .i64 0]) (by simp [results, Tryz.results59, go_sem, Y0, Y1, Y2, Y3]; try rfl) rfl ⟨rfl, four_far HXK.out hne2, HXG.out.four hwz _ _ _ _⟩
end
end Go.Proofs.YtoejpngdkcnnhaaGreat

namespace Go.Proofs.YtoejpngdkcnnhaaGreat
open Go.RowKit

set_option maxRecDepth 100000 in
set_option maxHeartbeats 8000000 in
theorem take_any (j : JS) (W : Nat) (hW : W < 18446744073709551616) (hx : j.x.size ≤ 900000) (b : Nat) (w : World) (h : Bk w b (pj j) 104) :
    Calls Tryz.prog 37 #[.pointer (some ⟨b, 0, none⟩), .int .u64 (W : Int)] w fun e w' => e = .returned (.tuple #[pkv (takeR j W).2.1, .bool (takeR j W).2.2.1, .int .i64 (takeR j W).2.2.2]) ∧ Bk w' b (pj (takeR j W).1) 104 ∧ Gb b w w' := by
  have RC := fun w => fread_any W hW w
  have HX : (readR W).2 = 0 → (readR W).1.x.size ≤ 6 ∧ ((readR W).1.k = 1 ∨ (readR W).1.k = 2 ∨ (readR W).1.k = 3) := fun h => by
    obtain ⟨_, hr⟩ := readR_ok h
    rcases right_forms hr with ⟨h1, _, _, _, _, _, _, _, _, hx⟩ | ⟨h2, _, _, _, _, _, _, h3⟩
    · rw [hx]
      exact ⟨by decide, Or.inl h1⟩
    · exact ⟨h3, Or.inr h2⟩
  unfold takeR
  obtain ⟨F, hF⟩ : ∃ F, (readR W).1 = F := ⟨_, rfl⟩
  obtain ⟨er, hE⟩ : ∃ E, (readR W).2 = E := ⟨_, rfl⟩
  rw [hF, hE] at RC HX ⊢
  clear hF hE hW
  obtain ⟨rs, hrs⟩ : ∃ rs, takeF j F er = rs := ⟨_, rfl⟩
  have HRS0 : Hid (takeF j F er = rs) := hrs
  rw [hrs]
  clear hrs
  obtain ⟨jb, js, jd, jq, jx, jn⟩ := j
  obtain ⟨fk, fs, fd, fq, fl, fm, fc, fx⟩ := F
  simp only [flv, flc, pkv, pkc, pj] at *
  have hlt := h.lt
  have A0 : Hid (Bk (w.alloc (.cells #[.int .i64 0, .int .i64 0, .int .i64 0, .string ⟨#[]⟩] 61)) b #[.bool jb, .int .i64 jn, .int .i64 js, .int .i64 jd, .int .i64 jq, .string jx] 104) := h.alloc _
  have A1 : Hid (Bk (w.alloc (.cells #[.int .i64 0, .int .i64 0, .int .i64 0, .string ⟨#[]⟩] 61)) w.heap.size #[.int .i64 0, .int .i64 0, .int .i64 0, .string ⟨#[]⟩] 61) := Bk.new _ _ _
  have A2 : Hid (Gb b w (w.alloc (.cells #[.int .i64 0, .int .i64 0, .int .i64 0, .string ⟨#[]⟩] 61))) := (Gb.refl _ _).alloc _
  clear h
  go_enter Tryz.func37, Tryz.ntmps37
  go_upto_region 4 with (go_at_call 56; (with_reducible refine (RC _).mono ?_); rintro e w2 ⟨rfl, hb2⟩)
  have HXK : Hid (Bk (w2.alloc (.cells #[.int .i64 fk, .int .i64 fs, .int .i64 fd, .int .i64 fq, .int .i64 fl, .bool fm, .bool fc, .string fx] 87)) b #[.bool jb, .int .i64 jn, .int .i64 js, .int .i64 jd, .int .i64 jq, .string jx] 104) := (A0.out.next hb2).alloc _
  have HXR : Hid (Bk (w2.alloc (.cells #[.int .i64 fk, .int .i64 fs, .int .i64 fd, .int .i64 fq, .int .i64 fl, .bool fm, .bool fc, .string fx] 87)) w.heap.size #[.int .i64 0, .int .i64 0, .int .i64 0, .string ⟨#[]⟩] 61) := (A1.out.next hb2).alloc _
  have HXF : Hid (Bk (w2.alloc (.cells #[.int .i64 fk, .int .i64 fs, .int .i64 fd, .int .i64 fq, .int .i64 fl, .bool fm, .bool fc, .string fx] 87)) w2.heap.size #[.int .i64 fk, .int .i64 fs, .int .i64 fd, .int .i64 fq, .int .i64 fl, .bool fm, .bool fc, .string fx] 87) := Bk.new _ _ _
  have HXG : Hid (Gb b w (w2.alloc (.cells #[.int .i64 fk, .int .i64 fs, .int .i64 fd, .int .i64 fq, .int .i64 fl, .bool fm, .bool fc, .string fx] 87))) := (A2.out.below hb2).alloc _
  have hbf : w.heap.size < w2.heap.size := (A1.out.next hb2).lt
  have hne : ¬ w.heap.size = b := by omega
  have hne2 : ¬ b = w.heap.size := by omega
  have hne3 : ¬ w2.heap.size = b := by omega
  have hne4 : ¬ w2.heap.size = w.heap.size := by omega
  have hwz : w.heap.size ≤ w.heap.size := Nat.le_refl _
  clear RC hb2 A0 A1 A2 hlt
  generalize w2.alloc (.cells #[.int .i64 fk, .int .i64 fs, .int .i64 fd, .int .i64 fq, .int .i64 fl, .bool fm, .bool fc, .string fx] 87) = v at *
  generalize w2.heap.size = bf at *
  obtain ⟨r0, hr0⟩ : ∃ r, w.heap.size = r := ⟨_, rfl⟩
  rw [hr0] at HXR hne hne2 hne4 hbf ⊢
  have hwz : w.heap.size ≤ r0 := by omega
  clear hr0
  have c0 := HXK.out.cell 0
  have d0 := HXF.out.cell 0
  have d1 := HXF.out.cell 1
  have d2 := HXF.out.cell 2
  have d3 := HXF.out.cell 3
  have d4 := HXF.out.cell 4
  have d5 := HXF.out.cell 5
  have d6 := HXF.out.cell 6
  have d7 := HXF.out.cell 7
  have r_0 := HXR.out.cell 0
  have r_1 := HXR.out.cell 1
  have r_2 := HXR.out.cell 2
  have r_3 := HXR.out.cell 3
  have f_0 := HXR.out.free 0
  have f_1 := HXR.out.free 1
  have f_2 := HXR.out.free 2
  have f_3 := HXR.out.free 3
  simp only [List.getElem?_toArray, List.getElem?_cons_zero, List.getElem?_cons_succ] at c0 d0 d1 d2 d3 d4 d5 d6 d7 r_0 r_1 r_2 r_3
  by_cases he : er = 0
  case neg =>
    have e9 : rs = (⟨jb, js, jd, jq, jx, jn⟩, zpk, false, er) := by rw [← HRS0.out]; unfold takeF; rw [if_pos he]
    subst e9
    clear HRS0
    go_wp2
    have Y := fourp_at (x0 := .int .i64 0) (x1 := .int .i64 0) (x2 := .int .i64 0) (x3 := .string ⟨#[]⟩) HXR.out
    have Y0 := Y.cell 0
    have Y1 := Y.cell 1
    have Y2 := Y.cell 2
    have Y3 := Y.cell 3
    simp only [List.getElem?_toArray, List.getElem?_cons_zero, List.getElem?_cons_succ] at Y0 Y1 Y2 Y3
    clear Y
    refine bodyPost_ret (v := .tuple #[.agg #[.int .i64 0, .int .i64 0, .int .i64 0, .string ⟨#[]⟩], .bool false, .int .i64 er]) (by simp [results, Tryz.results37, go_sem, Y0, Y1, Y2, Y3]; try rfl) rfl ⟨rfl, four_far HXK.out hne2, HXG.out.four hwz _ _ _ _⟩
  subst he
  obtain ⟨hx6, hk⟩ := HX rfl
  clear HX
  by_cases hbk : decide (fk = 1) = jb
  · have e9 : rs = (⟨jb, js, jd, jq, jx, jn⟩, zpk, false, 13) := by rw [← HRS0.out]; unfold takeF; rw [if_neg (by simp), if_pos hbk]
    subst e9
    clear HRS0
    by_cases h1 : fk = 1
    · subst h1
      obtain rfl : jb = true := by rw [← hbk]; rfl
      go_wp2
      have Y := fourp_at (x0 := .int .i64 0) (x1 := .int .i64 0) (x2 := .int .i64 0) (x3 := .string ⟨#[]⟩) HXR.out
      have Y0 := Y.cell 0
      have Y1 := Y.cell 1
      have Y2 := Y.cell 2
      have Y3 := Y.cell 3
      simp only [List.getElem?_toArray, List.getElem?_cons_zero, List.getElem?_cons_succ] at Y0 Y1 Y2 Y3
      clear Y
      refine bodyPost_ret (v := .tuple #[.agg #[.int .i64 0, .int .i64 0, .int .i64 0, .string ⟨#[]⟩], .bool false, .int .i64 13]) (by simp [results, Tryz.results37, go_sem, Y0, Y1, Y2, Y3]; try rfl) rfl ⟨rfl, four_far HXK.out hne2, HXG.out.four hwz _ _ _ _⟩
    · obtain rfl : jb = false := by rw [← hbk]; exact decide_eq_false h1
      have h1b : (fk == 1) = false := by simpa using h1
      clear hbk hk
      go_wp2
      have Y := fourp_at (x0 := .int .i64 0) (x1 := .int .i64 0) (x2 := .int .i64 0) (x3 := .string ⟨#[]⟩) HXR.out
      have Y0 := Y.cell 0
      have Y1 := Y.cell 1
      have Y2 := Y.cell 2
      have Y3 := Y.cell 3
      simp only [List.getElem?_toArray, List.getElem?_cons_zero, List.getElem?_cons_succ] at Y0 Y1 Y2 Y3
      clear Y
      refine bodyPost_ret (v := .tuple #[.agg #[.int .i64 0, .int .i64 0, .int .i64 0, .string ⟨#[]⟩], .bool false, .int .i64 13]) (by simp [results, Tryz.results37, go_sem, Y0, Y1, Y2, Y3]; try rfl) rfl ⟨rfl, four_far HXK.out hne2, HXG.out.four hwz _ _ _ _⟩
  by_cases h1 : fk = 1
  · subst h1
    obtain rfl : jb = false := by
      cases jb
      · rfl
      · exact absurd rfl hbk
    have e9 : rs = (⟨true, fs, fd, fq, ByteArray.empty, fl⟩, zpk, false, 0) := by rw [← HRS0.out]; unfold takeF; rw [if_neg (by simp), if_neg (by simp), if_pos rfl]
    subst e9
    clear HRS0 hbk hk
    have CC := begin_any (j := ⟨false, js, jd, jq, jx, jn⟩) ⟨1, fs, fd, fq, fl, fm, fc, fx⟩ HXK.out
    simp only [pj, flv, flc] at CC
    go_upto_region 11 with (go_at_call 57; (with_reducible refine CC.mono ?_); rintro e v3 ⟨rfl, hk3, hg3⟩)
    have HK3 : Hid (Bk v3 b _ 104) := hk3
    have HR3 : Hid (Bk v3 r0 #[.int .i64 0, .int .i64 0, .int .i64 0, .string ⟨#[]⟩] 61) := HXR.out.gb hg3 hne
    have HG3 : Hid (Gb b w v3) := HXG.out.trans hg3
    clear CC HXK HXR HXG hk3 hg3 r_0 r_1 r_2 r_3 f_0 f_1 f_2 f_3 c0
    have HXK := HK3
    have HXG := HG3
    have HXR := HR3
    have r_0 := HXR.out.cell 0
    have r_1 := HXR.out.cell 1
    have r_2 := HXR.out.cell 2
    have r_3 := HXR.out.cell 3
    have f_0 := HXR.out.free 0
    have f_1 := HXR.out.free 1
    have f_2 := HXR.out.free 2
    have f_3 := HXR.out.free 3
    simp only [List.getElem?_toArray, List.getElem?_cons_zero, List.getElem?_cons_succ] at r_0 r_1 r_2 r_3
    go_wp2
    have Y := fourp_at (x0 := .int .i64 0) (x1 := .int .i64 0) (x2 := .int .i64 0) (x3 := .string ⟨#[]⟩) HXR.out
    have Y0 := Y.cell 0
    have Y1 := Y.cell 1
    have Y2 := Y.cell 2
    have Y3 := Y.cell 3
    simp only [List.getElem?_toArray, List.getElem?_cons_zero, List.getElem?_cons_succ] at Y0 Y1 Y2 Y3
    clear Y
    refine bodyPost_ret (v := .tuple #[.agg #[.int .i64 0, .int .i64 0, .int .i64 0, .string ⟨#[]⟩], .bool false, .int .i64 0]) (by simp [results, Tryz.results37, go_sem, Y0, Y1, Y2, Y3]; try rfl) rfl ⟨rfl, four_far HXK.out hne2, HXG.out.four hwz _ _ _ _⟩
  obtain rfl : jb = true := by
    cases jb
    · exact absurd (decide_eq_false h1) hbk
    · rfl
  have h1b : (fk == 1) = false := by simpa using h1
  rcases hk with hk | rfl | rfl
  · exact absurd hk h1
  · have e9 : rs = (addS ⟨true, js, jd, jq, jx, jn⟩ fx, zpk, false, addE ⟨true, js, jd, jq, jx, jn⟩ fx) := by
      rw [← HRS0.out]
      unfold takeF addS addE
      rw [if_neg (by simp), if_neg (by simp), if_neg (by simp), if_neg (by simp)]
      simp only [ByteArray.size_append]
      by_cases hs : jn < (jx.size : Int) + (fx.size : Int)
      · rw [if_pos hs, if_pos hs, if_pos (by omega)]
      · rw [if_neg hs, if_neg hs, if_neg (by omega)]
    have CC := add_any (j := ⟨true, js, jd, jq, jx, jn⟩) fx HXK.out (Nat.le_trans hx (by decide)) (by omega)
    obtain ⟨js2, hj2⟩ : ∃ z, addS ⟨true, js, jd, jq, jx, jn⟩ fx = z := ⟨_, rfl⟩
    obtain ⟨er2, he2⟩ : ∃ z, addE ⟨true, js, jd, jq, jx, jn⟩ fx = z := ⟨_, rfl⟩
    rw [hj2, he2] at CC e9
    clear hj2 he2 HRS0 hbk
    subst e9
    simp only [pj] at CC
    go_upto_region 13 with fail
    clear c0 d0 d1 d2 d3 d4 d5 d6
    go_wp2_with fail
    go_at_call 58
    with_reducible refine CC.mono ?_
    rintro e v3 ⟨rfl, hk3, hg3⟩
    have HXK3 : Hid (Bk v3 b _ 104) := hk3
    have HXR3 : Hid (Bk v3 r0 #[.int .i64 0, .int .i64 0, .int .i64 0, .string ⟨#[]⟩] 61) := HXR.out.gb hg3 hne
    have HXG3 : Hid (Gb b w v3) := HXG.out.trans hg3
    clear CC hk3 hg3 HXK HXR HXG r_0 r_1 r_2 r_3 f_0 f_1 f_2 f_3
    have r_0 := HXR3.out.cell 0
    have r_1 := HXR3.out.cell 1
    have r_2 := HXR3.out.cell 2
    have r_3 := HXR3.out.cell 3
    have f_0 := HXR3.out.free 0
    have f_1 := HXR3.out.free 1
    have f_2 := HXR3.out.free 2
    have f_3 := HXR3.out.free 3
    simp only [List.getElem?_toArray, List.getElem?_cons_zero, List.getElem?_cons_succ] at r_0 r_1 r_2 r_3
    go_wp2
    have HXK := HXK3
    have HXR := HXR3
    have HXG := HXG3
    have Y := fourp_at (x0 := .int .i64 0) (x1 := .int .i64 0) (x2 := .int .i64 0) (x3 := .string ⟨#[]⟩) HXR.out
    have Y0 := Y.cell 0
    have Y1 := Y.cell 1
    have Y2 := Y.cell 2
    have Y3 := Y.cell 3
    simp only [List.getElem?_toArray, List.getElem?_cons_zero, List.getElem?_cons_succ] at Y0 Y1 Y2 Y3
    clear Y
    refine bodyPost_ret (v := .tuple #[.agg #[.int .i64 0, .int .i64 0, .int .i64 0, .string ⟨#[]⟩], .bool false, .int .i64 er2]) (by simp [results, Tryz.results37, go_sem, Y0, Y1, Y2, Y3]; try rfl) rfl ⟨rfl, four_far HXK.out hne2, HXG.out.four hwz _ _ _ _⟩
  · have e9 : rs = (zjs, (endR ⟨true, js, jd, jq, jx, jn⟩ fx).1, (endR ⟨true, js, jd, jq, jx, jn⟩ fx).2.1, (endR ⟨true, js, jd, jq, jx, jn⟩ fx).2.2) := by
      rw [← HRS0.out]
      unfold takeF endR
      rw [if_neg (by simp), if_neg (by simp), if_neg (by simp), if_pos rfl]
      split <;> rfl
    have CC := end_any (j := ⟨true, js, jd, jq, jx, jn⟩) fx HXK.out (Nat.le_trans hx (by decide)) (by omega)
    obtain ⟨R, hR⟩ : ∃ z, endR ⟨true, js, jd, jq, jx, jn⟩ fx = z := ⟨_, rfl⟩
    rw [hR] at CC e9
    clear hR HRS0 hbk
    subst e9
    obtain ⟨⟨Rs, Rd, Rq, Rx⟩, Rb, Re⟩ := R
    simp only [pj, pkv, pkc] at CC ⊢
    go_upto_region 14 with fail
    clear c0 d0 d1 d2 d3 d4 d5 d6
    go_wp2_with fail
    go_at_call 59
    with_reducible refine CC.mono ?_
    rintro e v3 ⟨rfl, hk3, hg3⟩
    have HXK3 : Hid (Bk v3 b _ 104) := hk3
    have HXR3 : Hid (Bk v3 r0 #[.int .i64 0, .int .i64 0, .int .i64 0, .string ⟨#[]⟩] 61) := HXR.out.gb hg3 hne
    have HXG3 : Hid (Gb b w v3) := HXG.out.trans hg3
    clear CC hk3 hg3 HXK HXR HXG r_0 r_1 r_2 r_3 f_0 f_1 f_2 f_3
    have r_0 := HXR3.out.cell 0
    have r_1 := HXR3.out.cell 1
    have r_2 := HXR3.out.cell 2
    have r_3 := HXR3.out.cell 3
    have f_0 := HXR3.out.free 0
    have f_1 := HXR3.out.free 1
    have f_2 := HXR3.out.free 2
    have f_3 := HXR3.out.free 3
    simp only [List.getElem?_toArray, List.getElem?_cons_zero, List.getElem?_cons_succ] at r_0 r_1 r_2 r_3
    go_wp2
    have HXK := HXK3
    have HXR := HXR3
    have HXG := HXG3
    have Y := fourp_at (x0 := .int .i64 Rs) (x1 := .int .i64 Rd) (x2 := .int .i64 Rq) (x3 := .string Rx) HXR.out
    have Y0 := Y.cell 0
    have Y1 := Y.cell 1
    have Y2 := Y.cell 2
    have Y3 := Y.cell 3
    simp only [List.getElem?_toArray, List.getElem?_cons_zero, List.getElem?_cons_succ] at Y0 Y1 Y2 Y3
    clear Y
    refine bodyPost_ret (v := .tuple #[.agg #[.int .i64 Rs, .int .i64 Rd, .int .i64 Rq, .string Rx], .bool Rb, .int .i64 Re]) (by simp [results, Tryz.results37, go_sem, Y0, Y1, Y2, Y3]; try rfl) rfl ⟨rfl, four_far HXK.out hne2, HXG.out.four hwz _ _ _ _⟩
end Go.Proofs.YtoejpngdkcnnhaaGreat

namespace Go.Proofs.YtoejpngdkcnnhaaGreat
open Go.RowKit

/-- A parcel for one that may be, made of any; words and packets of the first k. -/
def g8 (p : Pc) : Pc := gd ⟨p.s, false, p.hs, p.x⟩
def wj (ps : List Pc) (k : Nat) : List Nat := (ps.take k).flatMap fun p => (g8 p).ws
def kj (ps : List Pc) (k : Nat) : List Pk := (ps.take k).flatMap fun p => pks (g8 p)
theorem take_one {α : Type} {l : List α} {k : Nat} {p : α} (h : l[k]? = some p) : l.take (k + 1) = l.take k ++ [p] := by
  rw [List.take_add_one, h]
  rfl
theorem wj_step {ps : List Pc} {k : Nat} {p : Pc} (h : ps[k]? = some p) : wj ps (k + 1) = wj ps k ++ (g8 p).ws := by
  unfold wj
  rw [take_one h, List.flatMap_append]
  simp
theorem kj_step {ps : List Pc} {k : Nat} {p : Pc} (h : ps[k]? = some p) : kj ps (k + 1) = kj ps k ++ pks (g8 p) := by
  unfold kj
  rw [take_one h, List.flatMap_append]
  simp
theorem wj_small (ps : List Pc) : ∀ k, (wj ps k).length ≤ 17 * k ∧ (kj ps k).length ≤ 6 * k := by
  intro k
  induction k with
  | zero => simp [wj, kj]
  | succ k ih =>
    cases h : ps[k]? with
    | none =>
      have e : ps.take (k + 1) = ps.take k := by rw [List.take_add_one, h]; simp
      unfold wj kj at ih ⊢
      rw [e]
      omega
    | some p =>
      rw [wj_step h, kj_step h, List.length_append, List.length_append, pks_len]
      have := (fine ⟨p.s, false, p.hs, p.x⟩).ws_small.1
      have h6 := (fine ⟨p.s, false, p.hs, p.x⟩).l6
      unfold g8
      omega
theorem wj_all {ps : List Pc} {k : Nat} (h : k = ps.length ∨ k = 8) (h1 : k ≤ ps.length) (h2 : k ≤ 8) : wj ps k = wj ps 8 ∧ kj ps k = kj ps 8 := by
  rcases h with rfl | rfl
  · unfold wj kj
    rw [List.take_length, List.take_of_length_le h2]
    exact ⟨rfl, rfl⟩
  · exact ⟨rfl, rfl⟩

end Go.Proofs.YtoejpngdkcnnhaaGreat

namespace Go.Proofs.YtoejpngdkcnnhaaGreat

/-- How a word is taken: what has begun then, a packet, whether it is one, the error. -/
abbrev TakeFn := JS → Nat → JS × Pk × Bool × Int
/-- .. by its flit. -/
def Tells (T : TakeFn) : Prop := ∀ (j : JS) (f : Fl), f.rightB = true → T j f.word = takeF j f 0
def stp (T : TakeFn) (j : JS) (w : Nat) : JS := (T j w).1
def pkt (T : TakeFn) (j : JS) (w : Nat) : List Pk := if (T j w).2.2.1 = true then [(T j w).2.1] else []
def ok1 (T : TakeFn) (j : JS) (w : Nat) : Prop := (T j w).2.2.2 = 0
def run (T : TakeFn) : JS → List Nat → JS
  | j, [] => j
  | j, w :: l => run T (stp T j w) l
def pcks (T : TakeFn) : JS → List Nat → List Pk
  | _, [] => []
  | j, w :: l => pkt T j w ++ pcks T (stp T j w) l
def okR (T : TakeFn) : JS → List Nat → Prop
  | _, [] => True
  | j, w :: l => ok1 T j w ∧ okR T (stp T j w) l

section
variable {T : TakeFn}
theorem run_app : ∀ (l m : List Nat) (j : JS), run T j (l ++ m) = run T (run T j l) m
  | [], _, _ => rfl
  | w :: l, m, j => run_app l m (stp T j w)
theorem pcks_app : ∀ (l m : List Nat) (j : JS), pcks T j (l ++ m) = pcks T j l ++ pcks T (run T j l) m
  | [], _, _ => rfl
  | w :: l, m, j => by
    show pkt T j w ++ pcks T (stp T j w) (l ++ m) = (pkt T j w ++ pcks T (stp T j w) l) ++ pcks T (run T (stp T j w) l) m
    rw [pcks_app l m (stp T j w), List.append_assoc]
theorem okR_app : ∀ (l m : List Nat) (j : JS), okR T j (l ++ m) ↔ okR T j l ∧ okR T (run T j l) m
  | [], m, j => by
    show okR T j m ↔ True ∧ okR T j m
    simp
  | w :: l, m, j => by
    show (ok1 T j w ∧ okR T (stp T j w) (l ++ m)) ↔ (ok1 T j w ∧ okR T (stp T j w) l) ∧ okR T (run T (stp T j w) l) m
    rw [okR_app l m (stp T j w), and_assoc]

theorem run_one (j : JS) (w : Nat) : run T j [w] = stp T j w := rfl
theorem pcks_one (j : JS) (w : Nat) : pcks T j [w] = pkt T j w := List.append_nil _
theorem okR_one (j : JS) (w : Nat) : okR T j [w] ↔ ok1 T j w := by
  show ok1 T j w ∧ True ↔ ok1 T j w
  rw [and_true]
theorem stp_of {j : JS} {w : Nat} {a : JS} {b : Pk} {c : Bool} {e : Int} (h : T j w = (a, b, c, e)) : stp T j w = a ∧ pkt T j w = (if c = true then [b] else []) ∧ (ok1 T j w ↔ e = 0) := by
  unfold stp pkt ok1
  rw [h]
  exact ⟨rfl, rfl, Iff.rfl⟩

theorem head_step (HT : Tells T) {P : Pc} (h : P.okB = true) (h1 : 0 < P.hs.length) : T zjs (hdF P 0).word = (⟨true, P.s, (P.hs.getD 0 (0, 0)).1, (P.hs.getD 0 (0, 0)).2, ByteArray.empty, P.x.size⟩, zpk, false, 0) := by
  rw [HT _ _ (hd_right h h1)]
  rfl
theorem body_step (HT : Tells T) {x : ByteArray} {i : Nat} (hi : i < nb x.size) (s d q n : Int) (y : ByteArray) (hn : ((y ++ x.extract (6 * i) (6 * i + 6)).size : Int) ≤ n) :
    T ⟨true, s, d, q, y, n⟩ (bdF x i).word = (⟨true, s, d, q, y ++ x.extract (6 * i) (6 * i + 6), n⟩, zpk, false, 0) := by
  rw [HT _ _ (bd_right hi)]
  unfold takeF
  rw [if_neg (by simp), if_neg (by simp [bdF]), if_neg (by simp [bdF]), if_neg (by simp [bdF]), if_neg (by show ¬ n < _; have := hn; simp only [bdF]; omega)]
  rfl
theorem tail_step (HT : Tells T) {x : ByteArray} (s d q : Int) (y : ByteArray) (hy : y ++ restX x (nb x.size) = x) :
    T ⟨true, s, d, q, y, x.size⟩ (tlF x).word = (zjs, ⟨s, d, q, x⟩, true, 0) := by
  rw [HT _ _ (tl_right x)]
  unfold takeF
  have e : y ++ (tlF x).x = x := hy
  rw [if_neg (by simp), if_neg (by simp [tlF]), if_neg (by simp [tlF]), if_pos (by rfl), if_neg (by show ¬ ¬ (((y ++ (tlF x).x).size : Nat) : Int) = _; rw [e]; simp)]
  rw [e]

theorem pieces (x : ByteArray) (i : Nat) : x.extract 0 (6 * i) ++ x.extract (6 * i) (6 * i + 6) = x.extract 0 (6 * (i + 1)) := by
  apply ba_ext
  rw [app_data, ext_data, ext_data, ext_data, List.drop_zero, List.drop_zero, show 6 * (i + 1) = 6 * i + 6 by omega]
  have : x.data.toList.take (6 * i + 6) = (x.data.toList.take (6 * i + 6)).take (6 * i) ++ (x.data.toList.take (6 * i + 6)).drop (6 * i) := (List.take_append_drop _ _).symm
  rw [List.take_take, Nat.min_eq_left (by omega)] at this
  exact this.symm
theorem last_piece (x : ByteArray) (i : Nat) : x.extract 0 (6 * i) ++ restX x i = x := by
  apply ba_ext
  unfold restX
  rw [app_data, ext_data, ext_data, List.drop_zero, ba_size, List.take_length, List.take_append_drop]

theorem bodies_run (HT : Tells T) (s d q : Int) (x : ByteArray) : ∀ i, i ≤ nb x.size → okR T ⟨true, s, d, q, ByteArray.empty, x.size⟩ (bw x i) ∧ run T ⟨true, s, d, q, ByteArray.empty, x.size⟩ (bw x i) = ⟨true, s, d, q, x.extract 0 (6 * i), x.size⟩ ∧ pcks T ⟨true, s, d, q, ByteArray.empty, x.size⟩ (bw x i) = [] := by
  intro i
  induction i with
  | zero =>
    intro _
    refine ⟨trivial, ?_, rfl⟩
    rw [show x.extract 0 (6 * 0) = ByteArray.empty from ba_ext (by rw [ext_data]; rfl)]
    rfl
  | succ i ih =>
    intro hi
    obtain ⟨i1, i2, i3⟩ := ih (by omega)
    have hstep := body_step HT (x := x) (i := i) (by omega) s d q x.size (x.extract 0 (6 * i)) (by
      rw [pieces, ByteArray.size_extract]
      omega)
    rw [pieces] at hstep
    obtain ⟨t1, t2, t3⟩ := stp_of hstep
    rw [← bw_snoc, okR_app, run_app, pcks_app, i2, i3, okR_one, run_one, pcks_one, t1, t2, t3]
    exact ⟨⟨i1, rfl⟩, rfl, rfl⟩

/-- P11.2, of one parcel: its words are put together as its packet, and nothing is begun any more. -/
theorem ws_run (HT : Tells T) {P : Pc} (h : P.okB = true) (h1 : P.hs.length = 1) : okR T zjs P.ws ∧ run T zjs P.ws = zjs ∧ pcks T zjs P.ws = pks P := by
  have hh := head_step HT h (by omega)
  obtain ⟨b1, b2, b3⟩ := bodies_run HT P.s (P.hs.getD 0 (0, 0)).1 (P.hs.getD 0 (0, 0)).2 P.x (nb P.x.size) (Nat.le_refl _)
  have ht := tail_step HT (x := P.x) P.s (P.hs.getD 0 (0, 0)).1 (P.hs.getD 0 (0, 0)).2 (P.x.extract 0 (6 * nb P.x.size)) (last_piece _ _)
  have hw1 : hw P P.hs.length = [(hdF P 0).word] := by
    rw [h1]
    rfl
  obtain ⟨t1, t2, t3⟩ := stp_of hh
  obtain ⟨u1, u2, u3⟩ := stp_of ht
  rw [ws_parts, hw1]
  simp only [okR_app, run_app, pcks_app, okR_one, run_one, pcks_one, t1, t2, t3, b2, b3, u1, u2, u3, and_true, true_and]
  refine ⟨b1, ?_⟩
  obtain ⟨s, c, hs, x⟩ := P
  match hs, h1 with
  | [z], _ => rfl

/-- .. and of several, one behind the other. -/
theorem wj_run (HT : Tells T) (ps : List Pc) : ∀ k, okR T zjs (wj ps k) ∧ run T zjs (wj ps k) = zjs ∧ pcks T zjs (wj ps k) = kj ps k := by
  intro k
  induction k with
  | zero => exact ⟨trivial, rfl, rfl⟩
  | succ k ih =>
    obtain ⟨i1, i2, i3⟩ := ih
    cases hp : ps[k]? with
    | none =>
      have e : ps.take (k + 1) = ps.take k := by rw [List.take_add_one, hp]; simp
      have e1 : wj ps (k + 1) = wj ps k := by unfold wj; rw [e]
      have e2 : kj ps (k + 1) = kj ps k := by unfold kj; rw [e]
      rw [e1, e2]
      exact ⟨i1, i2, i3⟩
    | some p =>
      have h1 : (g8 p).hs.length = 1 := by
        have := (gH_len false p.hs).2.2
        show (gH false p.hs).length = 1
        simpa using this
      obtain ⟨j1, j2, j3⟩ := ws_run HT (gd_ok ⟨p.s, false, p.hs, p.x⟩) h1
      rw [wj_step hp, kj_step hp, okR_app, run_app, pcks_app, i2, i3]
      exact ⟨⟨i1, j1⟩, j2, congrArg _ j3⟩
/-- One word that is taken: whether one has begun then, and how many packets are told. -/
theorem ok_step {f : Fl} {e : Int} {j : JS} {w : Nat} (HT : T j w = takeF j f e) (h : ok1 T j w) : (stp T j w).b = decide (¬ f.k = 3) ∧ (pkt T j w).length = if f.k = 3 then 1 else 0 := by
  unfold ok1 at h
  unfold stp pkt
  rw [HT] at h ⊢
  unfold takeF at h ⊢
  by_cases he : ¬ e = 0
  · rw [if_pos he] at h
    exact absurd h he
  rw [if_neg he] at h ⊢
  by_cases h1 : decide (f.k = 1) = j.b
  · rw [if_pos h1] at h
    cases h
  rw [if_neg h1] at h ⊢
  by_cases h2 : f.k = 1
  · rw [if_pos h2]
    simp [h2]
  rw [if_neg h2] at h ⊢
  have hb : j.b = true := by
    cases hb : j.b
    · simp [h2, hb] at h1
    · rfl
  by_cases h3 : f.k = 3
  · rw [if_pos h3] at h ⊢
    by_cases h4 : ¬ ((j.x ++ f.x).size : Int) = j.n
    · rw [if_pos h4] at h
      cases h
    · rw [if_neg h4]
      simp [h3]
  · rw [if_neg h3] at h ⊢
    by_cases h4 : j.n < ((j.x ++ f.x).size : Int)
    · rw [if_pos h4] at h
      cases h
    · rw [if_neg h4]
      simp [h3, hb]
end
theorem takeR_tells : Tells takeR := fun j f h => by
  unfold takeR
  rw [readR_word h]
end Go.Proofs.YtoejpngdkcnnhaaGreat

namespace Go.Proofs.YtoejpngdkcnnhaaGreat
open Go.RowKit

section
variable (T : TakeFn) (L : List Nat)
/-- What has begun, and the packets, behind the first k words. -/
def sj (k : Nat) : JS := run T zjs (L.take k)
def kp (k : Nat) : List Pk := pcks T zjs (L.take k)
variable {T L}
theorem sj_zero : sj T L 0 = zjs := rfl
theorem kp_zero : kp T L 0 = [] := rfl
theorem sj_step {k W : Nat} (h : L[k]? = some W) : sj T L (k + 1) = (T (sj T L k) W).1 ∧ kp T L (k + 1) = kp T L k ++ (if (T (sj T L k) W).2.2.1 = true then [(T (sj T L k) W).2.1] else []) := by
  unfold sj kp
  rw [take_one h, run_app, pcks_app, run_one, pcks_one]
  exact ⟨rfl, rfl⟩
theorem sj_all : sj T L L.length = run T zjs L ∧ kp T L L.length = pcks T zjs L := by
  unfold sj kp
  rw [List.take_length]
  exact ⟨rfl, rfl⟩
theorem split_at {k W : Nat} (h : L[k]? = some W) : L = L.take k ++ ([W] ++ L.drop (k + 1)) := by
  have hk := (List.getElem?_eq_some_iff.mp h).1
  have e := (List.getElem?_eq_some_iff.mp h).2
  calc L = L.take k ++ L.drop k := (List.take_append_drop k L).symm
    _ = _ := by rw [List.drop_eq_getElem_cons hk, e]; rfl
theorem ok_at (h : okR T zjs L) {k W : Nat} (hk : L[k]? = some W) : (T (sj T L k) W).2.2.2 = 0 := by
  rw [split_at hk, okR_app, okR_app, okR_one] at h
  exact h.2.1
theorem ok_take (h : okR T zjs L) (k : Nat) : okR T zjs (L.take k) := by
  rw [← List.take_append_drop k L, okR_app] at h
  exact h.1
theorem kp_small : ∀ k, (kp T L k).length ≤ k := by
  intro k
  induction k with
  | zero => exact Nat.le_refl _
  | succ k ih =>
    cases h : L[k]? with
    | none =>
      have e : L.take (k + 1) = L.take k := by rw [List.take_add_one, h]; simp
      unfold kp at ih ⊢
      rw [e]
      omega
    | some W =>
      rw [(sj_step h).2, List.length_append]
      split
      · simp only [List.length_singleton]; omega
      · simp only [List.length_nil]; omega
/-- Where a word tells its bytes. -/
def Small6 (T : TakeFn) : Prop := ∀ j W, (T j W).1.x.size ≤ j.x.size + 6
theorem sj_x (hT : Small6 T) : ∀ k, (sj T L k).x.size ≤ 6 * k := by
  intro k
  induction k with
  | zero => exact Nat.le_refl _
  | succ k ih =>
    cases h : L[k]? with
    | none =>
      have e : L.take (k + 1) = L.take k := by rw [List.take_add_one, h]; simp
      unfold sj at ih ⊢
      rw [e]
      omega
    | some W =>
      rw [(sj_step h).1]
      have := hT (sj T L k) W
      omega
end
theorem takeF_six (j : JS) (f : Fl) (e : Int) (h : e = 0 → f.x.size ≤ 6) : (takeF j f e).1.x.size ≤ j.x.size + 6 := by
  unfold takeF
  by_cases he : ¬ e = 0
  · rw [if_pos he]
    exact Nat.le_add_right _ _
  rw [if_neg he]
  have h6 := h (by omega)
  by_cases h1 : decide (f.k = 1) = j.b
  · rw [if_pos h1]
    exact Nat.le_add_right _ _
  rw [if_neg h1]
  by_cases h2 : f.k = 1
  · rw [if_pos h2]
    exact Nat.zero_le _
  rw [if_neg h2]
  by_cases h3 : f.k = 3
  · rw [if_pos h3]
    by_cases h4 : ¬ ((j.x ++ f.x).size : Int) = j.n
    · rw [if_pos h4]
      exact Nat.zero_le _
    · rw [if_neg h4]
      exact Nat.zero_le _
  · rw [if_neg h3]
    by_cases h4 : j.n < ((j.x ++ f.x).size : Int)
    · rw [if_pos h4]
      exact Nat.le_add_right _ _
    · rw [if_neg h4]
      show (j.x ++ f.x).size ≤ _
      rw [ByteArray.size_append]
      omega
theorem takeR_six : Small6 takeR := fun j W => by
  unfold takeR
  refine takeF_six j _ _ fun h => ?_
  obtain ⟨_, hr⟩ := readR_ok h
  rcases right_forms hr with ⟨_, _, _, _, _, _, _, _, _, hx⟩ | ⟨_, _, _, _, _, _, _, h3⟩
  · rw [hx]; decide
  · exact h3

theorem take_nil (W : Nat) (w : World) : Calls Tryz.prog 37 #[.pointer none, .int .u64 (W : Int)] w fun e w' => e = .returned (.tuple #[pkv zpk, .bool false, .int .i64 1]) ∧ Below w.heap.size w w' := by
  have A1 : Hid (Bk (w.alloc (.cells #[.int .i64 0, .int .i64 0, .int .i64 0, .string ⟨#[]⟩] 61)) w.heap.size #[.int .i64 0, .int .i64 0, .int .i64 0, .string ⟨#[]⟩] 61) := Bk.new _ _ _
  have A2 : Hid (Below w.heap.size w (w.alloc (.cells #[.int .i64 0, .int .i64 0, .int .i64 0, .string ⟨#[]⟩] 61))) := (Below.refl _ _).alloc (Nat.le_refl _) _
  go_enter Tryz.func37, Tryz.ntmps37
  go_upto_region 1 with fail
  generalize w.alloc (.cells #[.int .i64 0, .int .i64 0, .int .i64 0, .string ⟨#[]⟩] 61) = v at *
  have r_0 := A1.out.cell 0
  have r_1 := A1.out.cell 1
  have r_2 := A1.out.cell 2
  have r_3 := A1.out.cell 3
  have f_0 := A1.out.free 0
  have f_1 := A1.out.free 1
  have f_2 := A1.out.free 2
  have f_3 := A1.out.free 3
  simp only [List.getElem?_toArray, List.getElem?_cons_zero, List.getElem?_cons_succ] at r_0 r_1 r_2 r_3
  go_wp2
  have Y := fourp_at (x0 := .int .i64 0) (x1 := .int .i64 0) (x2 := .int .i64 0) (x3 := .string ⟨#[]⟩) A1.out
  have Y0 := Y.cell 0
  have Y1 := Y.cell 1
  have Y2 := Y.cell 2
  have Y3 := Y.cell 3
  simp only [List.getElem?_toArray, List.getElem?_cons_zero, List.getElem?_cons_succ] at Y0 Y1 Y2 Y3
  clear Y
  refine bodyPost_ret (v := .tuple #[.agg #[.int .i64 0, .int .i64 0, .int .i64 0, .string ⟨#[]⟩], .bool false, .int .i64 1]) (by simp [results, Tryz.results37, go_sem, Y0, Y1, Y2, Y3]; try rfl) rfl ⟨rfl, below_four A2.out (Nat.le_refl _) _ _ _ _⟩
end Go.Proofs.YtoejpngdkcnnhaaGreat
