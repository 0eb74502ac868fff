/-
  What the second half of the law of what is put in keeps.
-/
import Derived.Test.YtoejpngdkcnnhaaGreatNcPutP
import Derived.Test.YtoejpngdkcnnhaaGreatNcPt
namespace Go.Proofs.YtoejpngdkcnnhaaGreat
open Go.RowKit

theorem OwnK.rd2 {t : TypeId} {w : World} {B n : Nat} {v : Value} {cs : List Value} (h : OwnK t 1 w B v n cs) : ∃ a cap, v = .slice a n cap ∧ n ≤ cap ∧ Rd w a cs ∧ ∀ x, a = some x → B ≤ x.block ∧ ∃ cur, Bk w x.block cur t := by
  have hq : ∀ x, v.ownBlock = some x → B ≤ x ∧ ∃ cur, Bk w x cur t := fun x hx => ⟨(h.lt hx).1, h.bk hx⟩
  obtain ⟨a, cap, rfl, h1, -, h2⟩ := h.rd (by decide)
  refine ⟨a, cap, rfl, h1, h2, fun x hx => ?_⟩
  subst hx
  exact hq x.block rfl
def rem : List En → Nat → List (Int × List Nat)
  | [], _ => []
  | x :: R, j => (x.ln, x.ws.drop j) :: lns R
theorem rem_zero (R : List En) : rem R 0 = lns R := by cases R <;> rfl
def rok : List En → Nat → Int → Prop
  | [], j, _ => j = 0
  | x :: _, j, lane => j < x.ws.length ∧ (0 < j → lane = x.ln)
theorem rok_zero {c : G.Cf} {R : List En} (h : ∀ x ∈ R, enOk c x) (lane : Int) : rok R 0 lane := by
  cases R with
  | nil => rfl
  | cons x R => exact ⟨Nat.lt_of_lt_of_le Nat.zero_lt_one (h x List.mem_cons_self).1, fun h => absurd h (Nat.lt_irrefl 0)⟩
theorem flat_at (e1 R : List En) (x : En) {j : Nat} (hj : j < x.ws.length) : (wdl (e1 ++ x :: R))[(wdl e1).length + j]? = x.ws[j]? ∧ (ftl (e1 ++ x :: R))[(wdl e1).length + j]? = some (j == 0) ∧ (csl (e1 ++ x :: R))[(wdl e1).length + j]? = some x.cs := by
  have w1 : wdl (e1 ++ x :: R) = wdl e1 ++ (x.ws ++ wdl R) := by unfold wdl; rw [List.flatMap_append, List.flatMap_cons]
  have w2 : ftl (e1 ++ x :: R) = ftl e1 ++ (fst0 x.ws.length ++ ftl R) := by unfold ftl; rw [List.flatMap_append, List.flatMap_cons]
  have w3 : csl (e1 ++ x :: R) = csl e1 ++ (List.replicate x.ws.length x.cs ++ csl R) := by unfold csl; rw [List.flatMap_append, List.flatMap_cons]
  obtain ⟨n1, n2⟩ := wdl_len e1
  have e2 : (fst0 x.ws.length)[j]? = some (j == 0) := by
    unfold fst0
    rw [List.getElem?_map, List.getElem?_range hj]
    rfl
  refine ⟨?_, ?_, ?_⟩
  · rw [w1, List.getElem?_append_right (Nat.le_add_right _ _), Nat.add_sub_cancel_left, List.getElem?_append_left hj]
  · rw [w2, ← n1, List.getElem?_append_right (Nat.le_add_right _ _), Nat.add_sub_cancel_left, List.getElem?_append_left (by unfold fst0; simpa using hj)]
    exact e2
  · rw [w3, ← n2, List.getElem?_append_right (Nat.le_add_right _ _), Nat.add_sub_cancel_left, List.getElem?_append_left (by simpa using hj), List.getElem?_replicate, if_pos hj]
theorem wdl_at {es e1 R : List En} (h : es = e1 ++ R) : (wdl es).length = (wdl e1).length + (wdl R).length := by
  subst h
  unfold wdl
  rw [List.flatMap_append, List.length_append]
structure Qt (w0 v : World) (A b ib : Nat) (c : G.Cf) (S : Nc) (J : Nat → Value) (B g : Nat) (L : List (Int × List Nat)) (a8 a9 aa : Option Addr) (es : List En) : Prop where
  bl : Below w0.heap.size w0 v
  nb : ∃ cu, Nb v b ib S cu J ∧ (L ≠ [] → Puts v B b g cu L)
  cA : Bk v A (G.cfc c) 23
  r8 : Rd v a8 (vw (wdl es))
  r9 : Rd v a9 (vt (ftl es))
  ra : Rd v aa (vt (csl es))
  o8 : ∀ x, a8 = some x → x.block ≠ b ∧ x.block ≠ g
  o9 : ∀ x, a9 = some x → x.block ≠ b ∧ x.block ≠ g
  oa : ∀ x, aa = some x → x.block ≠ b ∧ x.block ≠ g
  oA : A ≠ b ∧ A ≠ g
  ob : w0.heap.size ≤ b ∧ w0.heap.size ≤ g
  hB : B ≤ v.heap.size
section
variable {w0 v v' : World} {A b ib : Nat} {c : G.Cf} {S : Nc} {J : Nat → Value} {B g : Nat} {L : List (Int × List Nat)} {a8 a9 aa : Option Addr} {es : List En}
theorem Qt.next (h : Qt w0 v A b ib c S J B g L a8 a9 aa es) (hb : Below v.heap.size v v') : Qt w0 v' A b ib c S J B g L a8 a9 aa es := by
  obtain ⟨cu, h1, h2⟩ := h.nb
  exact ⟨h.bl.trans (hb.mono h.bl.size), ⟨cu, h1.next hb, fun hl => (h2 hl).next hb⟩, h.cA.next hb, h.r8.below hb, h.r9.below hb, h.ra.below hb, h.o8, h.o9, h.oa, h.oA, h.ob, Nat.le_trans h.hB hb.size⟩
theorem Qt.drop {S' : Nc} {L' : List (Int × List Nat)} (h : Qt w0 v A b ib c S J B g L a8 a9 aa es) {cu' : Value} (hn : Nb v' b ib S' cu' J) (hp : L' ≠ [] → Puts v' B b g cu' L') (ht : Tn (fun x => x = b ∨ x = g) v v') : Qt w0 v' A b ib c S' J B g L' a8 a9 aa es := by
  have off : ∀ {a : Option Addr}, (∀ x, a = some x → x.block ≠ b ∧ x.block ≠ g) → ∀ x, a = some x → ¬ (x.block = b ∨ x.block = g) := fun ho x hx hc => hc.elim (ho x hx).1 (ho x hx).2
  refine ⟨ht.under h.bl (fun z hz => ?_) h.bl.size, ⟨cu', hn, hp⟩, ?_, h.r8.tn ht (off h.o8), h.r9.tn ht (off h.o9), h.ra.tn ht (off h.oa), h.o8, h.o9, h.oa, h.oA, h.ob, Nat.le_trans h.hB ht.size⟩
  · rcases hz with e | e
    · rw [e]; exact h.ob.1
    · rw [e]; exact h.ob.2
  · have := h.cA
    unfold Bk at this ⊢
    rw [ht.block A (lt_of_heap this) fun hc => hc.elim h.oA.1 h.oA.2]
    exact this
theorem Pt.qt {cu : Value} {H : Nat → Prop} {v8 v9 v10 : Value} (h : Pt w0 v A b ib c S cu J B (lns es) H v8 v9 v10 (wdl es) (ftl es) (csl es)) : ∃ g a8 c8 a9 c9 aa ca, v8 = .slice a8 (wdl es).length c8 ∧ v9 = .slice a9 (ftl es).length c9 ∧ v10 = .slice aa (csl es).length ca ∧ ((wdl es).length ≤ c8 ∧ (ftl es).length ≤ c9 ∧ (csl es).length ≤ ca) ∧ Qt w0 v A b ib c S J v.heap.size g (lns es) a8 a9 aa es := by
  obtain ⟨a8, c8, rfl, l8, r8, q8⟩ := h.r8.rd2
  obtain ⟨a9, c9, rfl, l9, r9, q9⟩ := h.r9.rd2
  obtain ⟨aa, ca, rfl, la, ra, qa⟩ := h.ra.rd2
  have hob : w0.heap.size ≤ b := Nat.le_of_lt (Nat.lt_of_le_of_lt h.o1 h.o2)
  have n3 := h.o3
  have n2 := h.o2
  by_cases hl : lns es = []
  · refine ⟨b, a8, c8, a9, c9, aa, ca, rfl, rfl, rfl, ⟨l8, l9, la⟩, ⟨h.bl, ⟨cu, h.nb, fun hc => absurd hl hc⟩, h.cA, r8, r9, ra, fun x hx => ?_, fun x hx => ?_, fun x hx => ?_, ⟨by omega, by omega⟩, ⟨hob, hob⟩, Nat.le_refl _⟩⟩
    · have := (q8 x hx).1; omega
    · have := (q9 x hx).1; omega
    · have := (qa x hx).1; omega
  · obtain ⟨g, hp, hg, hcu⟩ := h.sn.puts h.nb hl
    obtain ⟨⟨cells, hc, -⟩, -⟩ := h.sn
    refine ⟨g, a8, c8, a9, c9, aa, ca, rfl, rfl, rfl, ⟨l8, l9, la⟩, ⟨h.bl, ⟨cu, h.nb, fun _ => hp⟩, h.cA, r8, r9, ra, fun x hx => ?_, fun x hx => ?_, fun x hx => ?_, ⟨by omega, by omega⟩, ⟨hob, by omega⟩, Nat.le_refl _⟩⟩
    · obtain ⟨h1, cur, h2⟩ := q8 x hx
      exact ⟨by omega, fun e => hc.ne h2 (by decide) (by rw [hcu, e])⟩
    · obtain ⟨h1, cur, h2⟩ := q9 x hx
      exact ⟨by omega, fun e => hc.ne h2 (by decide) (by rw [hcu, e])⟩
    · obtain ⟨h1, cur, h2⟩ := qa x hx
      exact ⟨by omega, fun e => hc.ne h2 (by decide) (by rw [hcu, e])⟩
/-- One word is put in. -/
theorem Qt.put {nd st : Int} {M k j : Nat} {e1 R : List En} {x : En} {W : Nat} (h : Qt w0 v A b ib c ⟨c, nd, st, (M : Int) - (k : Int)⟩ J B g (rem (x :: R) j) a8 a9 aa es) (hM : M ≤ 1000000) (hk : k < M) (hW : x.ws[j]? = some W) (he : es = e1 ++ x :: R) (hkj : k = (wdl e1).length + j) (hok : ∀ y ∈ es, enOk c y) :
    Calls Tryz.prog 13 #[.pointer (some ⟨b, 0, none⟩)] v fun e v' => e = .returned (.tuple #[.agg #[.int .i64 x.ln, .int .u64 (W : Int)], .int .i64 0]) ∧ ∃ e2 R2 j2, es = e2 ++ R2 ∧ k + 1 = (wdl e2).length + j2 ∧ rok R2 j2 x.ln ∧ Qt w0 v' A b ib c ⟨c, nd, st, (M : Int) - ((k + 1 : Nat) : Int)⟩ J B g (rem R2 j2) a8 a9 aa es := by
  obtain ⟨cu, h1, h2⟩ := h.nb
  have hjl := (List.getElem?_eq_some_iff.1 hW).1
  have hd : x.ws.drop j = W :: x.ws.drop (j + 1) := by
    rw [List.drop_eq_getElem_cons hjl, (List.getElem?_eq_some_iff.1 hW).2]
  have hr : rem (x :: R) j = (x.ln, W :: x.ws.drop (j + 1)) :: lns R := by
    show (x.ln, x.ws.drop j) :: lns R = _
    rw [hd]
  rw [hr] at h2
  refine (nic_put h1 h.hB (by show 1 ≤ (M : Int) - (k : Int); omega) (by show (M : Int) - (k : Int) ≤ 1000000; omega) (h2 (by simp))).mono ?_
  rintro e v' ⟨rfl, cu', n1, p1, t1⟩
  have hlf : ((M : Int) - (k : Int)) - 1 = (M : Int) - ((k + 1 : Nat) : Int) := by omega
  have n2 : Nb v' b ib ⟨c, nd, st, (M : Int) - ((k + 1 : Nat) : Int)⟩ cu' J := by rw [← hlf]; exact n1
  refine ⟨rfl, ?_⟩
  by_cases hz : x.ws.drop (j + 1) = []
  · rw [if_pos hz] at p1
    have hl : x.ws.length = j + 1 := by
      have := List.drop_eq_nil_iff.1 hz
      omega
    refine ⟨e1 ++ [x], R, 0, by rw [he, List.append_assoc]; rfl, ?_, rok_zero (fun y hy => hok y (by rw [he]; simp [hy])) _, ?_⟩
    · rw [wdl_snoc, List.length_append]
      omega
    · rw [rem_zero]
      exact h.drop n2 (fun _ => p1) t1
  · rw [if_neg hz] at p1
    have hl : j + 1 < x.ws.length := by
      rw [List.drop_eq_nil_iff] at hz
      omega
    exact ⟨e1, x :: R, j + 1, he, by omega, ⟨hl, fun _ => rfl⟩, h.drop n2 (fun _ => p1) t1⟩
end
end Go.Proofs.YtoejpngdkcnnhaaGreat
