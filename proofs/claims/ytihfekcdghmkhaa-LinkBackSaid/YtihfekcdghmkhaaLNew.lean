/-
  The program's link: a new one; is it idle?
-/
import Derived.Test.YtihfekcdghmkhaaLRead
import Derived.Test.YtihfekcdghmkhaaRiNew
import Derived.Test.YtihfekcdghmkhaaRcNew
namespace Go.Proofs.Ytihfekcdghmkhaa
open Go.RowKit
open RC (Cl cc cv zc)
theorem Try.info70 : (Try.prog.info? 70).map (fun i => (i.zero, i.size, i.bytes)) = some (some (.agg #[.int .i64 0, .int .i64 0, .int .i64 0, .int .i64 0]), 4, 32) := by kernel_rfl
def pl4 (d : Nat) : List Value := [.int .i64 (d : Int), .int .i64 0, .int .i64 0, .int .i64 0]
def pl4s (d i : Nat) : List Value := (List.replicate i (pl4 d)).flatten
theorem pl4s_succ (d i : Nat) : pl4s d (i + 1) = pl4s d i ++ pl4 d := by unfold pl4s; rw [List.replicate_succ']; simp
theorem pl4s_at (d : Nat) : ∀ (n p j : Nat), p < n → j < 4 → (pl4s d n)[p * 4 + j]? = (pl4 d)[j]?
  | 0, _, _, h, _ => by omega
  | n + 1, p, j, h, hj => by
    have hl : ∀ m, (pl4s d m).length = m * 4 := fun m => by unfold pl4s; simp [pl4]
    rw [pl4s_succ]
    by_cases e : p < n
    · rw [List.getElem?_append_left (by rw [hl]; omega), pl4s_at d n p j e hj]
    · obtain rfl : p = n := by omega
      rw [List.getElem?_append_right (by rw [hl]; omega), hl, Nat.add_sub_cancel_left]
/-- A link that is being made: i of its lanes are there. -/
structure NewAt (w wr : World) (R I : Int) (d b bw bi B i : Nat) (v : Value) : Prop where
  blk : Bk wr b #[.pointer (some ⟨bw, 0, none⟩), .pointer (some ⟨bi, 0, none⟩), v] 67
  row : OwnK 70 4 wr B v i (pl4s d i)
  rc : RC.RingAt wr bw bw 0 (RC.ring0 R 0)
  ri : RI.RingAt wr bi bi 0 (RI.ring0 I 0)
  below : Below w.heap.size w wr
  lo : w.heap.size ≤ bw ∧ bw < b ∧ b < bi ∧ bi < B ∧ B ≤ wr.heap.size
theorem NewAt.next {w wr w' : World} {R I : Int} {d b bw bi B i : Nat} {v v' : Value} {o : Obj} (h : NewAt w wr R I d b bw bi B i v) (ho : OwnK 70 4 w' B v' (i + 1) (pl4s d i ++ pl4 d)) (hg : (wr.alloc o).grownBy w' v.ownBlock) :
    NewAt w (w'.setCell ⟨b, 2, none⟩ v') R I d b bw bi B (i + 1) v' := by
  obtain ⟨l1, l2, l3, l4, l5⟩ := h.lo
  have hs : wr.heap.size < w'.heap.size := by have := hg.size; simp at this; omega
  have key : ∀ g, g < B → w'.heap[g]? = wr.heap[g]? := fun g hgB => by
    rw [hg.block g (by simp; omega) (fun e => by have := (h.row.lt e.symm).1; omega), Below.heap_alloc _ _ _ (by omega)]
  have K1 : Bk w' b #[.pointer (some ⟨bw, 0, none⟩), .pointer (some ⟨bi, 0, none⟩), v] 67 := by unfold Bk; rw [key b (by omega)]; exact h.blk
  refine ⟨by simpa using K1.set 2 v', ?_, ?_, ?_, ?_, l1, l2, l3, l4, by simp; omega⟩
  · rw [pl4s_succ]
    exact ho.far (by omega)
  · exact h.rc.keep ((Below.heap_setCell w' ⟨b, 2, none⟩ v' bw (by show bw ≠ b; omega)).trans (key bw (by omega))) ((Below.heap_setCell w' ⟨b, 2, none⟩ v' bw (by show bw ≠ b; omega)).trans (key bw (by omega)))
  · exact h.ri.keep ((Below.heap_setCell w' ⟨b, 2, none⟩ v' bi (by show bi ≠ b; omega)).trans (key bi (by omega))) ((Below.heap_setCell w' ⟨b, 2, none⟩ v' bi (by show bi ≠ b; omega)).trans (key bi (by omega)))
  · have h1 : Below w.heap.size w (wr.alloc o) := h.below.alloc h.below.size _
    exact (h1.grown hg (by simp; omega) (fun q hq => by have := (h.row.lt hq).1; omega)).setCell (by show w.heap.size ≤ b; omega) _
theorem NewAt.pre {w wr w' : World} {R I : Int} {d b bw bi B i : Nat} {v v' : Value} {o : Obj} (h : NewAt w wr R I d b bw bi B i v) (_ho : OwnK 70 4 w' B v' (i + 1) (pl4s d i ++ pl4 d)) (hg : (wr.alloc o).grownBy w' v.ownBlock) :
    Bk w' b #[.pointer (some ⟨bw, 0, none⟩), .pointer (some ⟨bi, 0, none⟩), v] 67 := by
  obtain ⟨l1, l2, l3, l4, l5⟩ := h.lo
  unfold Bk
  rw [hg.block b (by simp; omega) (fun e => by have := (h.row.lt e.symm).1; omega), Below.heap_alloc _ _ _ (by omega)]
  exact h.blk
theorem newS_n (x y z : Int) : (newS x y z).n = cl1 x 8 := rfl
theorem NewAt.done {w wr : World} {x y z : Int} {b bw bi B : Nat} {v : Value} (h : NewAt w wr (cl1 z 64 : Nat) ((cl1 x 8 * cl1 y 64 : Nat) : Int) (cl1 y 64) b bw bi B (cl1 x 8) v) :
    ∃ F, Lk wr b (newS x y z) F ∧ (∀ g, F g → w.heap.size ≤ g) := by
  obtain ⟨l1, l2, l3, l40, l5⟩ := h.lo
  have hn := (cl1_in x (m := 8) (by decide)).1
  rcases h.row.2 with ⟨_, e⟩ | ⟨q, cap, cur, rfl, hq, hh, k1, k2, k3, k4⟩
  · omega
  · have hql := lt_of_heap hh
    refine ⟨fp bi bi bw bw (Xo b q), ⟨Ok.new x y z, q, cap, cur, bi, bi, 0, _, bw, bw, 0, _, ⟨⟨h.ri, h.rc, ⟨by omega, by omega, by omega, by omega⟩, ⟨?_, ?_⟩, ⟨?_, ?_⟩, ?_⟩, by omega, k1, k2, h.blk, hh, ?_, rfl, rfl, rfl, rfl, rfl, rfl⟩, rfl⟩, ?_⟩
    · rintro (e | e) <;> omega
    · rintro (e | e) <;> omega
    · rintro (e | e) <;> omega
    · rintro (e | e) <;> omega
    · rintro g (e | e) <;> omega
    · intro p hp j hj
      have hp' : p < cl1 x 8 := hp
      have e1 : cur[p * 4 + j]? = (cur.toList.take (cl1 x 8 * 4))[p * 4 + j]? := by
        rw [List.getElem?_take_of_lt (by omega)]
        simp
      rw [e1, k4, pl4s_at _ _ _ _ hp' hj]
      unfold Go.Proofs.Ytihfekcdghmkhaa.l4 newS
      rcases (show j = 0 ∨ j = 1 ∨ j = 2 ∨ j = 3 by omega) with rfl | rfl | rfl | rfl
      · simp only [getD_rep _ _ _ hp']
        rfl
      · rfl
      · simp only [getD_rep _ _ _ hp']
        rfl
      · rfl
    · rintro g (e | e | e | e | e | e) <;> omega
set_option maxHeartbeats 4000000 in
theorem link_new (x y z : Int) (w : World) : Calls Try.prog 11 #[.int .i64 x, .int .i64 y, .int .i64 z] w fun e w' => ∃ p F, e = .returned (.pointer (some ⟨p, 0, none⟩)) ∧ Lk w' p (newS x y z) F ∧ (∀ g, F g → w.heap.size ≤ g) ∧ Below w.heap.size w w' := by
  obtain ⟨i0, ki, hz0, hz1, hz2⟩ := info_parts Try.info70
  have W1 : ∀ v : World, Calls Try.prog 31 #[.int .i64 x, .int .i64 8] v fun e w' => e = .returned (.int .i64 (cl1 x 8 : Int)) ∧ v = w' := fun v => within_any x 8 (by decide) v
  have W2 : ∀ v : World, Calls Try.prog 31 #[.int .i64 y, .int .i64 64] v fun e w' => e = .returned (.int .i64 (cl1 y 64 : Int)) ∧ v = w' := fun v => within_any y 64 (by decide) v
  have W3 : ∀ v : World, Calls Try.prog 31 #[.int .i64 z, .int .i64 64] v fun e w' => e = .returned (.int .i64 (cl1 z 64 : Int)) ∧ v = w' := fun v => within_any z 64 (by decide) v
  obtain ⟨a1, a2, -⟩ := cl1_in x (m := 8) (by decide)
  obtain ⟨b1, b2, -⟩ := cl1_in y (m := 64) (by decide)
  obtain ⟨c1, c2, -⟩ := cl1_in z (m := 64) (by decide)
  have hnd : cl1 x 8 * cl1 y 64 ≤ 8 * 64 := Nat.mul_le_mul a2 b2
  have DN : Hid (∀ wr b bw bi B v, NewAt w wr (cl1 z 64 : Nat) ((cl1 x 8 * cl1 y 64 : Nat) : Int) (cl1 y 64) b bw bi B (cl1 x 8) v → ∃ F, Lk wr b (newS x y z) F ∧ (∀ g, F g → w.heap.size ≤ g)) := show _ from fun _ _ _ _ _ _ h => h.done
  generalize newS x y z = SS at *
  generalize cl1 x 8 = n at *
  generalize cl1 y 64 = d at *
  generalize cl1 z 64 = r at *
  have em : IntKind.i64.wrap ((n : Int) * (d : Int)) = ((n * d : Nat) : Int) := by rw [← Int.natCast_mul]; exact IntWalk.i64_in _ (by omega)
  generalize n * d = nd at *
  have C1 := RC.ring_new (r : Int) 0 (by decide) w
  go_enter Try.func11, Try.ntmps11
  go_upto_region 2 with (first
    | (go_at_call_of 31 x; with_reducible refine (W1 _).mono ?_; rintro e w1 ⟨rfl, rfl⟩)
    | (go_at_call_of 31 y; with_reducible refine (W2 _).mono ?_; rintro e w1 ⟨rfl, rfl⟩)
    | (go_at_call_of 31 z; with_reducible refine (W3 _).mono ?_; rintro e w1 ⟨rfl, rfl⟩))
  clear W1 W2 W3
  have C1' : Calls Try.prog 32 #[.int .i64 (r : Int), .int .u32 0] w fun e w' => e = .returned (.pointer (some ⟨w.heap.size, 0, none⟩)) ∧ RC.RingAt w' w.heap.size w.heap.size 0 (RC.ring0 (r : Int) 0) ∧ Below w.heap.size w w' ∧ w.heap.size < w'.heap.size := C1
  clear C1
  go_upto_region 3 with (go_at_call 32; with_reducible refine C1'.mono ?_; rintro e w1 ⟨rfl, hR, hb, hs⟩)
  have B2 : Hid (Below w.heap.size w (w1.alloc (.cells #[.pointer (some ⟨w.heap.size, 0, none⟩), .pointer none, .slice none 0 0] 67))) := hb.alloc hb.size _
  have R2 : Hid (RC.RingAt (w1.alloc (.cells #[.pointer (some ⟨w.heap.size, 0, none⟩), .pointer none, .slice none 0 0] 67)) w.heap.size w.heap.size 0 (RC.ring0 (r : Int) 0)) := hR.below ((Below.refl _ _).alloc (Nat.le_refl _) _) (Nat.le_refl _)
  have N2 : Hid (Bk (w1.alloc (.cells #[.pointer (some ⟨w.heap.size, 0, none⟩), .pointer none, .slice none 0 0] 67)) w1.heap.size #[.pointer (some ⟨w.heap.size, 0, none⟩), .pointer none, .slice none 0 0] 67) := Bk.new _ _ _
  clear hR hb C1'
  generalize w1.alloc (.cells #[.pointer (some ⟨w.heap.size, 0, none⟩), .pointer none, .slice none 0 0] 67) = w2 at *
  generalize w1.heap.size = b at *
  have C2 : Calls Try.prog 33 #[.int .i64 (nd : Int), .int .u32 0] w2 fun e w' => e = .returned (.pointer (some ⟨w2.heap.size, 0, none⟩)) ∧ RI.RingAt w' w2.heap.size w2.heap.size 0 (RI.ring0 (nd : Int) 0) ∧ Below w2.heap.size w2 w' ∧ w2.heap.size < w'.heap.size := RI.ring_new (nd : Int) 0 (by decide) w2
  go_wp2_with fail
  go_at_call 33
  with_reducible refine C2.mono ?_
  rintro e w3 ⟨rfl, hI, hb3, hs3⟩
  have R3 := R2.out.below hb3 (Nat.le_refl _)
  have N3 := N2.out.next hb3
  have hbl := N2.out.lt
  have z1 := N3.free 1
  have d1 := N3.cell 1
  simp only [List.getElem?_toArray, List.getElem?_cons_zero, List.getElem?_cons_succ] at d1
  have NA : Hid (NewAt w (w3.setCell ⟨b, 1, none⟩ (.pointer (some ⟨w2.heap.size, 0, none⟩))) (r : Int) (nd : Int) d b w.heap.size w2.heap.size w3.heap.size 0 (.slice none 0 0)) := show NewAt _ _ _ _ _ _ _ _ _ _ _ from by
    refine ⟨by simpa using N3.set 1 (.pointer (some ⟨w2.heap.size, 0, none⟩)), OwnK.nil _ _ _ _, ?_, ?_, ?_, Nat.le_refl _, hs, hbl, hs3, by simp⟩
    · exact R3.keep (Below.heap_setCell w3 ⟨b, 1, none⟩ _ _ (by show w.heap.size ≠ b; omega)) (Below.heap_setCell w3 ⟨b, 1, none⟩ _ _ (by show w.heap.size ≠ b; omega))
    · exact hI.keep (Below.heap_setCell w3 ⟨b, 1, none⟩ _ _ (by show w2.heap.size ≠ b; omega)) (Below.heap_setCell w3 ⟨b, 1, none⟩ _ _ (by show w2.heap.size ≠ b; omega))
    · exact (B2.out.trans (hb3.mono (by have := B2.out.size; omega))).setCell (by show w.heap.size ≤ b; omega) _
  have hbw : w.heap.size < b := hs
  clear R3 N3 hI hb3 C2 R2 N2 B2 hs
  go_upto_region 4 with fail
  clear z1 d1
  generalize w3.setCell ⟨b, 1, none⟩ (.pointer (some ⟨w2.heap.size, 0, none⟩)) = w4 at *
  generalize w2.heap.size = bi at *
  generalize w3.heap.size = B at *
  have HB0 : Hid (∃ bw, bw = w.heap.size) := ⟨_, rfl⟩
  clear em hbl hs3 hbw
  go_wp2_with fail
  go_loopw [27] (fun x wr => ∃ (i : Nat) (v : Value), i ≤ n ∧ x = .int .i64 i ∧ NewAt w wr (r : Int) (nd : Int) d b w.heap.size bi B i v) (fun x _ => n - (RowKit.intOf x).toNat)
  case atStart => exact ⟨0, _, Nat.zero_le _, rfl, NA.out⟩
  case round =>
    obtain ⟨i, v, hi, rfl, na⟩ := hrel
    clear NA
    by_cases hex : i < n
    case neg =>
      obtain rfl : i = n := by omega
      have e1 : ¬ (i : Int) < (i : Int) := by omega
      obtain ⟨F, k1, k2⟩ := DN.out _ _ _ _ _ _ na
      have KK : Hid (Lk wr b SS F ∧ (∀ g, F g → w.heap.size ≤ g) ∧ Below w.heap.size w wr) := ⟨k1, k2, na.below⟩
      clear na k1 k2
      go_wp2
      go_ret
      exact ⟨b, rfl, F, KK.out⟩
    have e1 : (i : Int) < (n : Int) := by omega
    obtain ⟨al, cal, rfl, h1, h2, -⟩ := na.row.rd (by decide)
    have c2 := na.blk.cell 2
    simp only [List.getElem?_toArray, List.getElem?_cons_zero, List.getElem?_cons_succ] at c2
    have own := na.row
    have HN : Hid (NewAt w wr (r : Int) (nd : Int) d b w.heap.size bi B i (.slice al i cal)) := na
    have hlen : i ≤ 1000000 := by omega
    have hB : B ≤ wr.heap.size := na.lo.2.2.2.2
    have hone : ∀ u ∈ pl4 d, u.oneCell' = true := by
      intro u hu
      simp only [pl4, List.mem_cons, List.not_mem_nil, or_false] at hu
      rcases hu with rfl | rfl | rfl | rfl <;> rfl
    clear na h1 h2
    go_upto_region 7 with (at_builtin; go_loud (refine wpList_app_k rfl (.tmp 34) (.tmp 37) 63 70 i0 _ 4 32 rfl Try.underlying63 ki hz0 hz1 hz2 rfl (by decide) (by decide) B wr (.slice al i cal) i (pl4s d i) (pl4 d) rfl own rfl rfl hone hlen hB ?_; intro v1 w1 o1 g1; have NX := HN.out.next o1 g1; have KB := HN.out.pre o1 g1; obtain ⟨al1, cal1, rfl, -, -, -⟩ := o1.rd (by decide); have HX : Hid (NewAt w (w1.setCell ⟨b, 2, none⟩ (.slice al1 (i + 1) cal1)) (r : Int) (nd : Int) d b w.heap.size bi B (i + 1) (.slice al1 (i + 1) cal1)) := NX; have x2 := KB.cell 2; have z2 := KB.free 2; simp only [List.getElem?_toArray, List.getElem?_cons_zero, List.getElem?_cons_succ] at x2; clear KB NX o1 g1 own))
    generalize w1.setCell ⟨b, 2, none⟩ (.slice al1 (i + 1) cal1) = w5 at *
    have e2 : IntKind.i64.wrap ((i : Int) + 1) = ((i + 1 : Nat) : Int) := by rw [IntWalk.i64_in _ (by omega)]; omega
    clear c2 x2 z2
    go_wp2
    go_roundw
    case rel => exact ⟨i + 1, _, by omega, by go_num, HX.out⟩
    case measure => simp [RowKit.intOf]; omega
end Go.Proofs.Ytihfekcdghmkhaa
