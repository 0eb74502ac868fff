/-
  The walks of Unpack, the program's and the document's, and of Same.
-/
import Derived.Test.YtockjijhckkicaaPack
namespace Go.Proofs.Ytockjijhckkicaa
open Go.RowKit

theorem Try.info72 : (Try.prog.info? 72).map (fun i => (i.zero, i.size, i.bytes)) = some (some (.int .u32 0), 1, 4) := by kernel_rfl

/-- The slice value v is the call's own (blocks from B on) and holds l. -/
def U32s (w : World) (B : Nat) (v : Value) (l : List Nat) : Prop := w.ownsRow B 72 1 v l.length (vu l)

theorem U32s.rd {w : World} {B : Nat} {v : Value} {l : List Nat} (h : U32s w B v l) : ∃ a cap, v = .slice a l.length cap ∧ l.length ≤ cap ∧ cap ≤ maxLen ∧ Rd w a (vu l) := by
  obtain ⟨h1, h2⟩ := h
  rcases h2 with ⟨rfl, h2⟩ | ⟨g, cap, cur, rfl, hg, hh, hc1, hc2, hc3, hc4⟩
  · refine ⟨none, 0, by rw [h2], by omega, by simp [maxLen], fun j v hj => ?_⟩
    have : l = [] := List.eq_nil_of_length_eq_zero h2
    subst this
    cases hj
  · refine ⟨_, _, rfl, hc1, hc2, fun j v hj => ⟨g, 0, rfl, lt_of_heap hh, ?_⟩⟩
    have hlt : j < l.length * 1 := by
      have := (List.getElem?_eq_some_iff.mp hj).1
      rw [← h1]; exact this
    rw [Nat.zero_add, cell_of hh]
    have : cur[j]? = (List.take (l.length * 1) cur.toList)[j]? := by rw [List.getElem?_take_of_lt hlt]; simp
    rw [this, hc4]; exact hj

theorem U32s.drewN {w : World} {B : Nat} {v : Value} {l : List Nat} (h : U32s w B v l) (n : Nat) : U32s (w.drewN n) B v l := h
theorem U32s.nil (w : World) (B : Nat) : U32s w B (.slice none 0 0) [] := World.ownsRow_nil _ _ _ _
theorem U32s.snoc {w : World} {B : Nat} {v : Value} {ys : List Nat} {x : Nat} (h : w.ownsRow B 72 1 v (ys.length + 1) (vu ys ++ [.int .u32 (x : Int)])) : U32s w B v (ys ++ [x]) := by
  unfold U32s vu
  simpa [vu] using h

theorem vals_step {l : List Int} {k : Nat} (h1 : k < l.length) (W : Nat) (q s : Int) (hs : s = l.getD k 0) :
    vals W q (l.drop k) = getV W q s :: vals W (q + s) (l.drop (k + 1)) ∧ roomF q (l.drop k) = (fldB q s && roomF (q + s) (l.drop (k + 1))) := by
  rw [dropi h1, ← hs]
  exact ⟨rfl, rfl⟩

def UPost (w : World) (L : List Nat) (E : Int) (e : Ending) (w' : World) : Prop :=
  ∃ v, e = .returned (.tuple #[v, .int .i64 E]) ∧ U32s w' w.heap.size v L ∧ Below w.heap.size w w'

set_option maxHeartbeats 800000 in
theorem unpack_yes (W : Nat) (hW : W < 18446744073709551616) (w : World) (a1 : Option Addr) (n c1 : Nat) (l : List Int) (hn : n = l.length) (hr : Rd w a1 (vi l)) (h : roomF 0 l = true) :
    Calls Try.prog 50 #[.int .u64 W, .slice a1 n c1] w (UPost w (vals W 0 l) 0) := by
  obtain ⟨i0, hi, hz0, hz1, hz2⟩ := info_parts Try.info72
  have hl := room_len l 0 (by omega) h
  have hl2 : n ≤ 64 := by omega
  have K := room_any w a1 n c1 l hn (by omega) hr
  rw [h] at K
  obtain ⟨R, hR⟩ : ∃ R, R = vals W 0 l := ⟨_, rfl⟩
  rw [← hR]
  obtain ⟨B, hB⟩ : ∃ B, B = w.heap.size := ⟨_, rfl⟩
  have HR : Hid (R = vals W 0 l) := hR
  have HN : Hid (n = l.length) := hn
  have H1 : Hid (Rd w a1 (vi l)) := hr
  have HB : Hid (B = w.heap.size) := hB
  have HF : Hid (roomF 0 l = true) := h
  clear hn hr h hR hl hB
  go_enter Try.func50, Try.ntmps50
  go_wp2_with (first
    | (go_at_call 58; refine K.mono ?_; rintro e w' ⟨rfl, rfl⟩)
    | (at_make; refine wpList_make_own _ rfl _ _ 68 rfl w.heap.size 72 i0 (.int .u32 0) 1 Try.underlying68 hi hz0 hz1 .i64 .i64 _ n rfl rfl (by omega) ?b2 ?b3 (Nat.le_refl _) ?_))
  case b2 => rw [hz2]; omega
  case b3 => unfold maxLen; omega
  intro w0 hown0 hgrow0
  go_wp2
  go_loopw [6, 7, 20] (fun v y i wr => ∃ (k : Nat) (q : Int) (ys : List Nat), k ≤ n ∧ 0 ≤ q ∧ q ≤ 64 ∧ i = .int .i64 k ∧ y = .int .i64 q ∧ Hid (ys.length = k) ∧ U32s wr B v ys ∧ Below B w wr ∧ Hid (R = ys ++ vals W q (l.drop k)) ∧ Hid (roomF q (l.drop k) = true)) (fun _ _ i _ => n - (intOf i).toNat)
  case atStart => exact ⟨0, 0, [], Nat.zero_le _, by omega, by omega, rfl, rfl, (rfl : _ = _), by rw [HB.out]; exact hown0, by rw [HB.out]; exact (Below.refl _ _).grown hgrow0 (Nat.le_refl _) (fun k h => by cases h), HR, HF⟩
  case round =>
    obtain ⟨k, q, ys, hk, hq0, hq1, rfl, rfl, hy, hown, hbel, hst, hro⟩ := hrel
    by_cases hlt : k < n
    · have h1 : k < l.length := by have := HN.out; omega
      have hsz : B ≤ wr.heap.size := by have := hbel.size; have := HB.out; omega
      have hRd : Rd wr a1 (vi l) := H1.out.below (by rw [← HB.out]; exact hbel)
      obtain ⟨g, off, rfl, hc⟩ := hRd.cell (vi_at h1)
      obtain ⟨s, hs⟩ : ∃ s, s = l.getD k 0 := ⟨_, rfl⟩
      rw [← hs] at hc
      obtain ⟨e1, e2⟩ := vals_step h1 W q s hs
      have hst2 := hst.out
      have hro2 := hro.out
      rw [e1] at hst2
      rw [e2, Bool.and_eq_true] at hro2
      have hf := fld_of hro2.1
      have G := get_any W q s hW wr
      have hE : getE q s = 0 := by unfold getE; rw [if_pos hro2.1]
      have hv := getV_lt W q s
      rw [hE] at G
      generalize getV W q s = x at *
      have hst3 : Hid (R = (ys ++ [x]) ++ vals W (q + s) (l.drop (k + 1))) := by rw [hst2]; show _ = _; simp
      have hro3 : Hid (roomF (q + s) (l.drop (k + 1)) = true) := hro2.2
      have b1 : 0 ≤ q + s := by omega
      obtain ⟨_, _, _, b2⟩ := hf
      clear hs e1 e2 hst hst2 hro hro2 hE hRd
      go_wp2_with (first
        | (go_at_call 49; refine G.mono ?_; rintro e w' ⟨rfl, n2, rfl⟩)
        | (at_builtin; refine wpList_append_own _ rfl _ _ 68 rfl B 72 i0 (.int .u32 0) 1 4 Try.underlying68 hi hz0 hz1 hz2 rfl (by decide) _ _ _ rfl ((hown.drewN _).alloc _) ⟨wr.heap.size, 0, none⟩ 1 1 [.int .u32 (x : Int)] rfl rfl ?c1 ?c2 ?c3 ?c4 ?c5 ?_))
      case c1 =>
        intro j u hj
        match j, hj with
        | 0, hj => simp at hj; subst hj; exact (World.cell?_alloc_at _ _ _ _ rfl).trans rfl
      case c2 => intro u hu; simp at hu; subst hu; rfl
      case c3 => have := hy.out; unfold maxLen; omega
      case c4 => have := hy.out; omega
      case c5 => simp; omega
      · intro v' w1 hown' hgrow _
        have hown2 : U32s w1 B v' (ys ++ [x]) := U32s.snoc hown'
        have hbel2 : Below B w w1 := Below.grown ((below_drewN hbel n2).alloc (by simpa using hsz) _) hgrow (by simp; omega) (fun q hq => (hown.lt q hq).1)
        have hy2 : Hid ((ys ++ [x]).length = k + 1) := by have := hy.out; show _ = _; simp [this]
        clear hown' hgrow hown hbel hc hy
        go_wp2
        go_roundw
        case rel => exact ⟨k + 1, q + s, _, by omega, b1, b2, by go_num, rfl, hy2, hown2, hbel2, hst3, hro3⟩
        case measure => simp [intOf]; omega
    · obtain rfl : k = n := by omega
      have h5 : Hid (R = ys) := by
        have := hst.out
        rw [HN.out, List.drop_length, vals, List.append_nil] at this
        exact this
      clear hst hro
      go_wp2
      go_ret2
      rw [h5.out]
      exact ⟨_, rfl, by rw [← HB.out]; exact hown, by rw [← HB.out]; exact hbel⟩

theorem unpack_no (W : Nat) (w : World) (a1 : Option Addr) (n c1 : Nat) (l : List Int) (hn : n = l.length) (hl : n ≤ 1000000) (hr : Rd w a1 (vi l)) (h : roomF 0 l = false) :
    Calls Try.prog 50 #[.int .u64 W, .slice a1 n c1] w (UPost w [] 1) := by
  have K := room_any w a1 n c1 l hn hl hr
  rw [h] at K
  clear hn hr h
  go_enter Try.func50, Try.ntmps50
  go_wp2_with (go_at_call 58; refine K.mono ?_; rintro e w' ⟨rfl, rfl⟩)
  go_ret2
  exact ⟨_, rfl, U32s.nil _ _, Below.refl _ _⟩

theorem unpack_any (W : Nat) (hW : W < 18446744073709551616) (w : World) (a1 : Option Addr) (n c1 : Nat) (l : List Int) (hn : n = l.length) (hl : n ≤ 1000000) (hr : Rd w a1 (vi l)) :
    Calls Try.prog 50 #[.int .u64 W, .slice a1 n c1] w (UPost w (unpackR W l).1 (unpackR W l).2) := by
  unfold unpackR
  by_cases h : roomF 0 l = true
  · rw [if_pos h]; exact unpack_yes W hW w a1 n c1 l hn hr h
  · rw [if_neg h]; exact unpack_no W w a1 n c1 l hn hl hr (by simpa using h)

set_option maxHeartbeats 800000 in
theorem runpack_any (W : Nat) (hW : W < 18446744073709551616) (w : World) (a1 : Option Addr) (n c1 : Nat) (l : List Int) (hn : n = l.length) (hl : n ≤ 1000000) (hr : Rd w a1 (vi l)) :
    Calls Try.prog 26 #[.int .u64 W, .slice a1 n c1] w (UPost w (unpackR W l).1 (unpackR W l).2) := by
  obtain ⟨i0, hi, hz0, hz1, hz2⟩ := info_parts Try.info72
  obtain ⟨R, hR⟩ : ∃ R, R = unpackR W l := ⟨_, rfl⟩
  rw [← hR]
  obtain ⟨B, hB⟩ : ∃ B, B = w.heap.size := ⟨_, rfl⟩
  have HR : Hid (R = unpackR W l) := hR
  have HN : Hid (n = l.length) := hn
  have H1 : Hid (Rd w a1 (vi l)) := hr
  have HB : Hid (B = w.heap.size) := hB
  clear hn hr hR hB
  go_enter Try.func26, Try.ntmps26
  go_wp2
  go_loopw [6, 7, 8] (fun v y i wr => ∃ (k : Nat) (q : Int) (ys : List Nat), k ≤ n ∧ 0 ≤ q ∧ q ≤ 64 ∧ i = .int .i64 k ∧ y = .int .i64 q ∧ Hid (ys.length = k) ∧ U32s wr B v ys ∧ Below B w wr ∧ Hid (vals W 0 l = ys ++ vals W q (l.drop k)) ∧ Hid (roomF 0 l = roomF q (l.drop k))) (fun _ _ i _ => n - (intOf i).toNat)
  case atStart => exact ⟨0, 0, [], Nat.zero_le _, by omega, by omega, rfl, rfl, (rfl : _ = _), U32s.nil _ _, Below.refl _ _, (rfl : _ = _), (rfl : _ = _)⟩
  case round =>
    obtain ⟨k, q, ys, hk, hq0, hq1, rfl, rfl, hy, hown, hbel, hst, hro⟩ := hrel
    by_cases hlt : k < n
    · have h1 : k < l.length := by have := HN.out; omega
      have hsz : B ≤ wr.heap.size := by have := hbel.size; have := HB.out; omega
      have hRd : Rd wr a1 (vi l) := H1.out.below (by rw [← HB.out]; exact hbel)
      obtain ⟨g, off, hg, hgl, hc⟩ := hRd k _ (vi_at h1)
      subst hg
      obtain ⟨s, hs⟩ : ∃ s, s = l.getD k 0 := ⟨_, rfl⟩
      rw [← hs] at hc
      obtain ⟨e1, e2⟩ := vals_step h1 W q s hs
      have hst2 := hst.out
      have hro2 := hro.out
      rw [e1] at hst2
      rw [e2] at hro2
      have G := rget_any W q s hW wr
      have hv := getV_lt W q s
      have hgB : g < B := by obtain ⟨g', off', e, hl, _⟩ := H1.out k _ (vi_at h1); simp at e; have := HB.out; omega
      by_cases hf' : fldB q s = true
      · have hE : getE q s = 0 := by unfold getE; rw [if_pos hf']
        rw [hE] at G
        have hf := fld_of hf'
        rw [hf', Bool.true_and] at hro2
        generalize getV W q s = x at *
        have hst3 : Hid (vals W 0 l = (ys ++ [x]) ++ vals W (q + s) (l.drop (k + 1))) := by rw [hst2]; show _ = _; simp
        have hro3 : Hid (roomF 0 l = roomF (q + s) (l.drop (k + 1))) := hro2
        have b1 : 0 ≤ q + s := by omega
        obtain ⟨_, _, _, b2⟩ := hf
        clear hs e1 e2 hst hst2 hro hro2 hE hRd hf'
        go_wp2_with (first
          | (go_at_call 27; refine G.mono ?_; rintro e w' ⟨rfl, rfl⟩)
          | (at_builtin; refine wpList_append_own _ rfl _ _ 68 rfl B 72 i0 (.int .u32 0) 1 4 Try.underlying68 hi hz0 hz1 hz2 rfl (by decide) _ _ _ rfl (hown.alloc _) ⟨wr.heap.size, 0, none⟩ 1 1 [.int .u32 (x : Int)] rfl rfl ?c1 ?c2 ?c3 ?c4 ?c5 ?_))
        case c1 =>
          intro j u hj
          match j, hj with
          | 0, hj => simp at hj; subst hj; exact (World.cell?_alloc_at _ _ _ _ rfl).trans rfl
        case c2 => intro u hu; simp at hu; subst hu; rfl
        case c3 => have := hy.out; unfold maxLen; omega
        case c4 => have := hy.out; omega
        case c5 => simp; omega
        · intro v' w1 hown' hgrow _
          have hown2 : U32s w1 B v' (ys ++ [x]) := U32s.snoc hown'
          have hbel2 : Below B w w1 := Below.grown (hbel.alloc (by simpa using hsz) _) hgrow (by simp; omega) (fun q hq => (hown.lt q hq).1)
          have hy2 : Hid ((ys ++ [x]).length = k + 1) := by have := hy.out; show _ = _; simp [this]
          have hc9 : w1.cell? ⟨g, off + k, none⟩ = some (.int .i64 s) := by
            have z1 := hbel.cell (p := ⟨g, off + k, none⟩) hgB
            have z2 := hbel2.cell (p := ⟨g, off + k, none⟩) hgB
            rw [z2, ← z1]; exact hc
          clear hown' hgrow hown hbel hc hy
          go_wp2
          go_roundw
          case rel => exact ⟨k + 1, q + s, _, by omega, b1, b2, by go_num, rfl, hy2, hown2, hbel2, hst3, hro3⟩
          case measure => simp [intOf]; omega
      · have hE : getE q s = 1 := by unfold getE; rw [if_neg hf']
        have hf : fldB q s = false := by simpa using hf'
        rw [hE] at G
        rw [hf, Bool.false_and] at hro2
        have h5 : Hid (R = ([], 1)) := by rw [HR.out, unpackR, if_neg (by rw [hro2]; simp)]; exact rfl
        generalize getV W q s = x at *
        clear hs e1 e2 hst hst2 hro hro2 hE hRd hf hf'
        go_wp2_with (go_at_call 27; refine G.mono ?_; rintro e w' ⟨rfl, rfl⟩)
        go_ret2
        rw [h5.out]
        exact ⟨_, rfl, U32s.nil _ _, by rw [← HB.out]; exact hbel⟩
    · obtain rfl : k = n := by omega
      have h5 : Hid (R = (ys, 0)) := by
        have h6 := hst.out
        have h7 := hro.out
        rw [HN.out, List.drop_length] at h6 h7
        rw [vals, List.append_nil] at h6
        rw [HR.out, unpackR, if_pos (by rw [h7]; rfl), h6]; exact rfl
      clear hst hro
      go_wp2
      go_ret2
      rw [h5.out]
      exact ⟨_, rfl, by rw [← HB.out]; exact hown, by rw [← HB.out]; exact hbel⟩

end Go.Proofs.Ytockjijhckkicaa
