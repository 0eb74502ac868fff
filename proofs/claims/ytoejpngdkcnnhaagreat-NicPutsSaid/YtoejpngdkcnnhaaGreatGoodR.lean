/-
  The walk of the document's Right.
  A row of words. No function in it.
  The walk of the document's Words.
  For the walk of the document's Read: a parcel read flit by flit (plain mathematics), an append of a pair in a region of the text's order.
  append of one struct to a row of the call's own, and of a text's bytes: what each leaves of other rows and blocks. No function in it.
  append of a row that is read; rows of words. No function in it.
  A parcel answered, and blocks one behind the other. No function in it.
  The walk of back: a parcel as the program has it.
  The walk of the document's Packets.
  Parcels that may be, made of any (plain); the document's calls on one.
  Four cells stored in a block: what it holds, and what stays. No function in it.
-/
import Derived.Test.YtoejpngdkcnnhaaGreatCut
import Derived.Lib.AppendStr

namespace Go.Proofs.YtoejpngdkcnnhaaGreat
open Go.RowKit

theorem no_ok {p : Pc} (h : ¬ ((0 ≤ p.s ∧ p.s ≤ 4095) ∧ (1 ≤ p.hs.length ∧ p.hs.length ≤ 4096 ∧ (p.c = true ∨ p.hs.length = 1)) ∧ p.x.size ≤ 64 ∧ ∀ h ∈ p.hs, headOk h = true)) : p.okB = false := by
  rw [← Bool.not_eq_true, ok_iff]
  exact h
theorem head_bad {hs : List (Int × Int)} {k : Nat} (hk : k < hs.length) (h : ¬ (0 ≤ (hs.getD k (0, 0)).1 ∧ (hs.getD k (0, 0)).1 ≤ 4095 ∧ 0 ≤ (hs.getD k (0, 0)).2 ∧ (hs.getD k (0, 0)).2 ≤ 65535)) : ¬ ∀ h ∈ hs, headOk h = true := by
  intro hall
  have hm : hs.getD k (0, 0) ∈ hs := by rw [List.getD_eq_getElem?_getD, List.getElem?_eq_getElem hk]; exact List.getElem_mem _
  exact h ((headOk_iff _).1 (hall _ hm))
theorem all_heads {hs : List (Int × Int)} (h : ∀ j, j < hs.length → headOk (hs.getD j (0, 0)) = true) : ∀ h ∈ hs, headOk h = true := by
  intro g hg
  obtain ⟨j, hj, rfl⟩ := List.getElem_of_mem hg
  have := h j hj
  rw [List.getD_eq_getElem?_getD, List.getElem?_eq_getElem hj] at this
  exact this

set_option maxRecDepth 100000 in
set_option maxHeartbeats 4000000 in
theorem rok_any (s : Int) (c : Bool) (a : Option Addr) (cap : Nat) (x : ByteArray) (hs : List (Int × Int)) (w : World) (hl : hs.length ≤ 1000000) (hx : x.size ≤ maxLen) (hr : Rd w a (pc hs)) :
    Calls Tryz.prog 32 #[pcv s c (.slice a hs.length cap) x] w fun e w' => e = .returned (.bool (Pc.okB ⟨s, c, hs, x⟩)) ∧ Below w.heap.size w w' := by
  obtain ⟨r, hk⟩ : ∃ r, Pc.okB ⟨s, c, hs, x⟩ = r := ⟨_, rfl⟩
  have HK : Hid (Pc.okB ⟨s, c, hs, x⟩ = r) := hk
  rw [hk]
  clear hk
  have HR : Hid (Rd w a (pc hs)) := hr
  unfold maxLen at hx
  obtain ⟨n, hn⟩ : ∃ n, hs.length = n := ⟨_, rfl⟩
  have HN : Hid (hs.length = n) := hn
  rw [hn] at hl ⊢
  clear hr hn
  simp only [pcv] at *
  have HB : Hid (Below w.heap.size w (w.alloc (.cells (pcc s c (.slice a n cap) x) 34))) := (Below.refl _ _).alloc (Nat.le_refl _) _
  have H0 : Hid (Bk (w.alloc (.cells (pcc s c (.slice a n cap) x) 34)) w.heap.size (pcc s c (.slice a n cap) x) 34) := Bk.new _ _ _
  have D0 : (w.alloc (.cells (pcc s c (.slice a n cap) x) 34)).cell? ⟨w.heap.size, 0, none⟩ = some (.int .i64 s) := H0.out.cell 0
  have D1 : (w.alloc (.cells (pcc s c (.slice a n cap) x) 34)).cell? ⟨w.heap.size, 1, none⟩ = some (.bool c) := H0.out.cell 1
  have D2 : (w.alloc (.cells (pcc s c (.slice a n cap) x) 34)).cell? ⟨w.heap.size, 2, none⟩ = some (.slice a n cap) := H0.out.cell 2
  have D3 : (w.alloc (.cells (pcc s c (.slice a n cap) x) 34)).cell? ⟨w.heap.size, 3, none⟩ = some (.string x) := H0.out.cell 3
  have XS : ∀ (k : Nat), k < n → ∃ g o, a = some ⟨g, o, none⟩ ∧ (w.alloc (.cells (pcc s c (.slice a n cap) x) 34)).cell? ⟨g, o + k * 2, none⟩ = some (.int .i64 (hs.getD k (0, 0)).1) ∧ (w.alloc (.cells (pcc s c (.slice a n cap) x) 34)).cell? ⟨g, o + k * 2 + 1, none⟩ = some (.int .i64 (hs.getD k (0, 0)).2) := fun k hk => by
    obtain ⟨g, o, e, hg, c3, c4⟩ := HR.out.pair (k := k) (by rw [HN.out]; exact hk)
    exact ⟨g, o, e, (HB.out.cell (p := ⟨g, o + k * 2, none⟩) hg).trans c3, (HB.out.cell (p := ⟨g, o + k * 2 + 1, none⟩) hg).trans c4⟩
  have HX : Hid (∀ (k : Nat), k < n → ∃ g o, a = some ⟨g, o, none⟩ ∧ (w.alloc (.cells (pcc s c (.slice a n cap) x) 34)).cell? ⟨g, o + k * 2, none⟩ = some (.int .i64 (hs.getD k (0, 0)).1) ∧ (w.alloc (.cells (pcc s c (.slice a n cap) x) 34)).cell? ⟨g, o + k * 2 + 1, none⟩ = some (.int .i64 (hs.getD k (0, 0)).2)) := XS
  clear XS H0 HR
  simp only [pcc] at *
  go_enter Tryz.func32, Tryz.ntmps32
  go_wp2_with fail
  generalize hW1 : w.alloc (.cells #[.int .i64 s, .bool c, .slice a n cap, .string x] 34) = w1 at *
  go_loopw [3] (fun i wr => ∃ k : Nat, k ≤ n ∧ i = .int .i64 k ∧ (∀ j, j < k → headOk (hs.getD j (0, 0)) = true) ∧ wr = w1) (fun i _ => n - (RowKit.intOf i).toNat)
  case atStart => exact ⟨0, Nat.zero_le _, rfl, fun j hj => absurd hj (Nat.not_lt_zero _), rfl⟩
  case round =>
    obtain ⟨k, hk, rfl, hs1, rfl⟩ := hrel
    have HS : Hid (∀ j, j < k → headOk (hs.getD j (0, 0)) = true) := hs1
    clear hs1
    by_cases hlt : k < n
    · have e1 : (k : Int) < n := by omega
      have e0 : (0 : Int) ≤ k := by omega
      obtain ⟨g, o, rfl, c3, c4⟩ := HX.out k hlt
      have HBAD : Hid (¬ (0 ≤ (hs.getD k (0, 0)).1 ∧ (hs.getD k (0, 0)).1 ≤ 4095 ∧ 0 ≤ (hs.getD k (0, 0)).2 ∧ (hs.getD k (0, 0)).2 ≤ 65535) → ¬ ∀ h ∈ hs, headOk h = true) := head_bad (by rw [HN.out]; exact hlt)
      have HGOOD : Hid (0 ≤ (hs.getD k (0, 0)).1 ∧ (hs.getD k (0, 0)).1 ≤ 4095 ∧ 0 ≤ (hs.getD k (0, 0)).2 ∧ (hs.getD k (0, 0)).2 ≤ 65535 → headOk (hs.getD k (0, 0)) = true) := (headOk_iff _).2
      obtain ⟨z, hz⟩ : ∃ z, hs.getD k (0, 0) = z := ⟨_, rfl⟩
      have HZ : Hid (hs.getD k (0, 0) = z) := hz
      rw [hz] at c3 c4 HBAD HGOOD
      clear hz
      obtain ⟨p, q⟩ := z
      simp only at c3 c4 HBAD HGOOD
      by_cases b0 : 0 ≤ p
      case neg =>
        have e9 : r = false := by
          rw [← HK.out]
          exact no_ok fun h => HBAD.out (fun e => by omega) h.2.2.2
        subst e9
        go_wp2
        go_ret
        exact ⟨rfl, HB.out⟩
      by_cases b1 : p ≤ 4095
      case neg =>
        have e9 : r = false := by
          rw [← HK.out]
          exact no_ok fun h => HBAD.out (fun e => by omega) h.2.2.2
        subst e9
        go_wp2
        go_ret
        exact ⟨rfl, HB.out⟩
      by_cases b2 : 0 ≤ q
      case neg =>
        have e9 : r = false := by
          rw [← HK.out]
          exact no_ok fun h => HBAD.out (fun e => by omega) h.2.2.2
        subst e9
        go_wp2
        go_ret
        exact ⟨rfl, HB.out⟩
      by_cases b3 : q ≤ 65535
      case neg =>
        have e9 : r = false := by
          rw [← HK.out]
          exact no_ok fun h => HBAD.out (fun e => by omega) h.2.2.2
        subst e9
        go_wp2
        go_ret
        exact ⟨rfl, HB.out⟩
      go_wp2
      go_roundw
      case rel =>
        refine ⟨k + 1, by omega, by go_num, ?_, by first | rfl | trivial⟩
        intro j hj
        rcases Nat.lt_or_ge j k with h | h
        · exact HS.out j h
        · obtain rfl : j = k := by omega
          rw [HZ.out]
          exact HGOOD.out ⟨b0, b1, b2, b3⟩
      case measure => simp [RowKit.intOf]; omega
    · obtain rfl : k = n := by omega
      have e1 : ¬ (k : Int) < (k : Int) := by omega
      have HA : Hid (∀ h ∈ hs, headOk h = true) := all_heads fun j hj => HS.out j (by rw [HN.out] at hj; exact hj)
      clear HX HS
      by_cases a0 : 0 ≤ s
      case neg =>
        have e9 : r = false := by
          rw [← HK.out]
          exact no_ok fun h => (show False by have := h.1.1; simp only at this; omega)
        subst e9
        go_wp2
        go_ret
        exact ⟨rfl, HB.out⟩
      by_cases a1 : s ≤ 4095
      case neg =>
        have e9 : r = false := by
          rw [← HK.out]
          exact no_ok fun h => (show False by have := h.1.2; simp only at this; omega)
        subst e9
        go_wp2
        go_ret
        exact ⟨rfl, HB.out⟩
      by_cases a2 : (1 : Int) ≤ (k : Int)
      case neg =>
        have e9 : r = false := by
          rw [← HK.out]
          exact no_ok fun h => (show False by have := h.2.1.1; simp only [HN.out] at this; omega)
        subst e9
        go_wp2
        go_ret
        exact ⟨rfl, HB.out⟩
      by_cases a3 : (k : Int) ≤ 4096
      case neg =>
        have e9 : r = false := by
          rw [← HK.out]
          exact no_ok fun h => (show False by have := h.2.1.2.1; simp only [HN.out] at this; omega)
        subst e9
        go_wp2
        go_ret
        exact ⟨rfl, HB.out⟩
      by_cases a5 : (x.size : Int) ≤ 64
      case neg =>
        have e9 : r = false := by
          rw [← HK.out]
          exact no_ok fun h => (show False by have := h.2.2.1; simp only at this; omega)
        subst e9
        cases c <;> by_cases a4 : (k : Int) = 1
        all_goals
          go_wp2
          go_ret
          exact ⟨rfl, HB.out⟩
      have HT : Hid ((c = true ∨ k = 1) → r = true) := show (c = true ∨ k = 1) → r = true from fun h => by
        rw [← HK.out, ok_iff]
        exact ⟨⟨a0, a1⟩, ⟨by simp only [HN.out]; omega, by simp only [HN.out]; omega, by simp only [HN.out]; exact h⟩, by simp only; omega, HA.out⟩
      cases c with
      | true =>
        have e9 : r = true := HT.out (Or.inl rfl)
        subst e9
        go_wp2
        go_ret
        exact ⟨rfl, HB.out⟩
      | false =>
        by_cases a4 : (k : Int) = 1
        case neg =>
          have e9 : r = false := by
            rw [← HK.out]
            exact no_ok fun h => (show False by have := h.2.1.2.2; simp only [HN.out] at this; rcases this with h | h; cases h; omega)
          subst e9
          go_wp2
          go_ret
          exact ⟨rfl, HB.out⟩
        have e9 : r = true := HT.out (Or.inr (by omega))
        subst e9
        go_wp2
        go_ret
        exact ⟨rfl, HB.out⟩
end Go.Proofs.YtoejpngdkcnnhaaGreat

namespace Go.Proofs.YtoejpngdkcnnhaaGreat
open Go.RowKit

/-- A row of words. -/
def vw (l : List Nat) : List Value := l.map fun (n : Nat) => .int .u64 (n : Int)
theorem vw_at {l : List Nat} {k : Nat} (h : k < l.length) : (vw l)[k]? = some (.int .u64 ((l.getD k 0 : Nat) : Int)) := by
  unfold vw
  rw [List.getElem?_map, List.getD_eq_getElem?_getD, List.getElem?_eq_getElem h]
  rfl
theorem same_upto {l m : List Nat} (h : l.length = m.length) (h2 : ∀ j, j < l.length → l.getD j 0 = m.getD j 0) : l = m := by
  refine List.ext_getElem h fun j h3 h4 => ?_
  have := h2 j h3
  rw [List.getD_eq_getElem?_getD, List.getD_eq_getElem?_getD, List.getElem?_eq_getElem h3, List.getElem?_eq_getElem h4] at this
  exact this

end Go.Proofs.YtoejpngdkcnnhaaGreat

namespace Go.Proofs.YtoejpngdkcnnhaaGreat
open Go.RowKit

theorem Tryz.info46 : (Tryz.prog.info? 46).map (fun i => (i.zero, i.size, i.bytes)) = some (some (.int .u64 0), 1, 8) := by kernel_rfl
theorem own_next {e : TypeId} {w w' : World} {B : Nat} {v : Value} {l : List Value} (h : Own e w B v l) (hb : Below w.heap.size w w') : Own e w' B v l := OwnK.below (k := 1) h hb
/-- A flit's word. -/
theorem wc {f : Fl} (h : f.rightB = true) (w : World) : Calls Tryz.prog 33 #[flv f] w fun e w' => e = .returned (.tuple #[.int .u64 ((f.word : Nat) : Int), .int .i64 0]) ∧ Below w.heap.size w w' := by
  have := rwrite_any f w
  have e : f.wordR = (f.word, 0) := by unfold Fl.wordR; rw [if_pos h]
  rw [e] at this
  exact this
/-- The first words. -/
def hw (p : Pc) (k : Nat) : List Nat := ((List.range k).map (hdF p)).map Fl.word
def bw (x : ByteArray) (j : Nat) : List Nat := ((List.range j).map (bdF x)).map Fl.word
theorem hw_len (p : Pc) (k : Nat) : (hw p k).length = k := by unfold hw; rw [List.length_map, List.length_map, List.length_range]
theorem bw_len (x : ByteArray) (j : Nat) : (bw x j).length = j := by unfold bw; rw [List.length_map, List.length_map, List.length_range]
theorem vw_len (l : List Nat) : (vw l).length = l.length := by unfold vw; rw [List.length_map]
theorem vw_snoc (l : List Nat) (m : Nat) : vw l ++ [.int .u64 (m : Int)] = vw (l ++ [m]) := by unfold vw; rw [List.map_append]; rfl
theorem hw_snoc (p : Pc) (k : Nat) : hw p k ++ [(hdF p k).word] = hw p (k + 1) := by
  unfold hw
  rw [List.range_succ, List.map_append, List.map_append, List.map_cons, List.map_nil, List.map_cons, List.map_nil]
theorem bw_snoc (x : ByteArray) (k : Nat) : bw x k ++ [(bdF x k).word] = bw x (k + 1) := by
  unfold bw
  rw [List.range_succ, List.map_append, List.map_append, List.map_cons, List.map_nil, List.map_cons, List.map_nil]
theorem ws_parts (p : Pc) : p.ws = (hw p p.hs.length ++ bw p.x (nb p.x.size)) ++ [(tlF p.x).word] := by
  unfold Pc.ws Pc.fls hw bw
  rw [List.map_append, List.map_append, List.append_assoc]
  exact congrArg _ (congrArg _ (List.map_cons ..))
def lenOf : Value → Nat
  | .string b => b.size
  | _ => 0

set_option maxRecDepth 100000 in
set_option maxHeartbeats 16000000 in
theorem rwords_ok (s : Int) (c : Bool) (a : Option Addr) (cap : Nat) (x : ByteArray) (hs : List (Int × Int)) (w : World) (hok : Pc.okB ⟨s, c, hs, x⟩ = true) (hr : Rd w a (pc hs)) :
    Calls Tryz.prog 12 #[pcv s c (.slice a hs.length cap) x] w fun e w' => ∃ a' cap', e = .returned (.tuple #[.slice a' (Pc.ws ⟨s, c, hs, x⟩).length cap', .int .i64 0]) ∧ (Pc.ws ⟨s, c, hs, x⟩).length ≤ cap' ∧ Rd w' a' (vw (Pc.ws ⟨s, c, hs, x⟩)) ∧ Below w.heap.size w w' ∧ ∀ q, a' = some q → w.heap.size ≤ q.block := by
  obtain ⟨i0, ki, hz0, hz1, hz2⟩ := info_parts Tryz.info46
  obtain ⟨⟨-, -⟩, ⟨-, ok2, -⟩, ok3, -⟩ := (ok_iff _).1 hok
  simp only at ok2 ok3
  have HOK : Hid (Pc.okB ⟨s, c, hs, x⟩ = true) := hok
  have CR : ∀ w', Rd w' a (pc hs) → Calls Tryz.prog 32 #[pcv s c (.slice a hs.length cap) x] w' fun e w2 => e = .returned (.bool true) ∧ Below w'.heap.size w' w2 := fun w' h => by
    have := rok_any s c a cap x hs w' (by omega) (by unfold maxLen; omega) h
    rw [hok] at this
    exact this
  have HR : Hid (Rd w a (pc hs)) := hr
  have CH : Hid (∀ k, k < hs.length → ∀ w, Calls Tryz.prog 33 #[.agg #[.int .i64 1, .int .i64 s, .int .i64 (hs.getD k (0, 0)).1, .int .i64 (hs.getD k (0, 0)).2, .int .i64 (x.size : Int), .bool (decide (k + 1 < hs.length)), .bool c, .string ⟨#[]⟩]] w fun e w' => e = .returned (.tuple #[.int .u64 (((hdF ⟨s, c, hs, x⟩ k).word : Nat) : Int), .int .i64 0]) ∧ Below w.heap.size w w') := show _ from fun k hk w => wc (hd_right hok hk) w
  have CB : Hid (∀ j, j < nb x.size → ∀ w, Calls Tryz.prog 33 #[.agg #[.int .i64 2, .int .i64 0, .int .i64 0, .int .i64 0, .int .i64 0, .bool false, .bool false, .string ((restX x j).extract 0 6)]] w fun e w' => e = .returned (.tuple #[.int .u64 (((bdF x j).word : Nat) : Int), .int .i64 0]) ∧ Below w.heap.size w w') := show _ from fun j hj w => by
    rw [restX_head]
    exact wc (bd_right hj) w
  have CT : Hid (∀ w, Calls Tryz.prog 33 #[.agg #[.int .i64 3, .int .i64 0, .int .i64 0, .int .i64 0, .int .i64 0, .bool false, .bool false, .string (restX x (nb x.size))]] w fun e w' => e = .returned (.tuple #[.int .u64 (((tlF x).word : Nat) : Int), .int .i64 0]) ∧ Below w.heap.size w w') := show _ from fun w => wc (tl_right x) w
  have HWS : Hid (Pc.ws ⟨s, c, hs, x⟩ = (hw ⟨s, c, hs, x⟩ hs.length ++ bw x (nb x.size)) ++ [(tlF x).word]) := ws_parts _
  have HH : Hid (∀ k, vw (hw ⟨s, c, hs, x⟩ k) ++ [.int .u64 (((hdF ⟨s, c, hs, x⟩ k).word : Nat) : Int)] = vw (hw ⟨s, c, hs, x⟩ (k + 1))) := show _ from fun k => by rw [vw_snoc, hw_snoc]
  have HZ0 : Hid (hw ⟨s, c, hs, x⟩ 0 = []) := rfl
  have HLF : ∀ k, (vw (hw ⟨s, c, hs, x⟩ k)).length = k := fun k => by rw [vw_len, hw_len]
  generalize hPW : Pc.ws ⟨s, c, hs, x⟩ = WS at *
  generalize hw ⟨s, c, hs, x⟩ = HWf at *
  obtain ⟨n, hn⟩ : ∃ n, hs.length = n := ⟨_, rfl⟩
  have HN : Hid (hs.length = n) := hn
  rw [hn] at ok2 CR CH HWS ⊢
  clear hr hn hok hPW
  simp only [pcv] at *
  have HB1 : Hid (Below w.heap.size w (w.alloc (.cells #[.int .i64 s, .bool c, .slice a n cap, .string x] 34))) := (Below.refl _ _).alloc (Nat.le_refl _) _
  have H01 : Hid (Bk (w.alloc (.cells #[.int .i64 s, .bool c, .slice a n cap, .string x] 34)) w.heap.size (pcc s c (.slice a n cap) x) 34) := Bk.new _ _ _
  have CR1 := CR (w.alloc (.cells #[.int .i64 s, .bool c, .slice a n cap, .string x] 34)) (HR.out.alloc _)
  clear CR
  have x1 : ¬ (64 : Int) < (x.size : Int) := by omega
  simp only [pcc] at *
  go_enter Tryz.func12, Tryz.ntmps12
  go_wp2_with (go_at_call 32; (with_reducible refine CR1.mono ?_); rintro e w2 ⟨rfl, hb2⟩)
  have K0 : Hid (Bk w2 w.heap.size (pcc s c (.slice a n cap) x) 34) := H01.out.next hb2
  have KB : Hid (Below w.heap.size w w2) := HB1.out.trans (hb2.mono HB1.out.size)
  have hz2' : w.heap.size + 1 ≤ w2.heap.size := by have := hb2.size; simp at this; omega
  have VL : Hid (∀ k, (vw (HWf k)).length = k) := HLF
  clear HLF CR1 H01 HB1 hb2
  go_loopw [4, 5] (fun v i wr => ∃ (k : Nat), k ≤ n ∧ i = .int .i64 k ∧ Bk wr w.heap.size (pcc s c (.slice a n cap) x) 34 ∧ Own 46 wr w.heap.size v (vw (HWf k)) ∧ Below w.heap.size w wr ∧ w.heap.size + 1 ≤ wr.heap.size) (fun _ i _ => n - (RowKit.intOf i).toNat)
  case atStart => exact ⟨0, Nat.zero_le _, rfl, K0.out, by rw [HZ0.out]; exact World.ownsRow_nil _ _ _ _, KB.out, hz2'⟩
  case round =>
    obtain ⟨k, hk, rfl, h0, own, hb, hsz⟩ := hrel
    obtain ⟨v, rfl⟩ : ∃ v, v = u4 := ⟨_, rfl⟩
    have HB : Hid (Below w.heap.size w wr) := hb
    have H0 : Hid (Bk wr w.heap.size (pcc s c (.slice a n cap) x) 34) := h0
    have HO : Hid (Own 46 wr w.heap.size v (vw (HWf k))) := own
    have c2 : wr.cell? ⟨w.heap.size, 2, none⟩ = some (.slice a n cap) := h0.cell 2
    have c5 : wr.cell? ⟨w.heap.size, 3, none⟩ = some (.string x) := h0.cell 3
    clear h0 K0 KB hb own hz2'
    by_cases hlt : k < n
    · have e1 : (k : Int) < (n : Int) := by omega
      have e2 : (0 : Int) ≤ (k : Int) := by omega
      obtain ⟨g, o, rfl, hg, c3, c4⟩ := HR.out.pair (k := k) (by rw [HN.out]; exact hlt)
      have hst := HH.out k
      have hcw := CH.out k hlt
      have hll : (vw (HWf k)).length ≤ 1000000 := by rw [VL.out]; omega
      clear HH CH
      generalize (hdF ⟨s, c, hs, x⟩ k).word = W at *
      generalize (hs.getD k (0, 0)).1 = p at *
      generalize (hs.getD k (0, 0)).2 = q at *
      have HST : Hid (vw (HWf k) ++ [.int .u64 (W : Int)] = vw (HWf (k + 1))) := hst
      clear hst
      generalize vw (HWf k) = L at *
      have SS : ∀ V, Bk V w.heap.size (pcc s c (.slice (some ⟨g, o, none⟩) n cap) x) 34 → Below w.heap.size w V → V.cell? ⟨w.heap.size, 0, none⟩ = some (.int .i64 s) ∧ V.cell? ⟨w.heap.size, 1, none⟩ = some (.bool c) ∧ V.cell? ⟨w.heap.size, 2, none⟩ = some (.slice (some ⟨g, o, none⟩) n cap) ∧ V.cell? ⟨w.heap.size, 3, none⟩ = some (.string x) ∧ V.cell? ⟨g, o + k * 2, none⟩ = some (.int .i64 p) ∧ V.cell? ⟨g, o + k * 2 + 1, none⟩ = some (.int .i64 q) :=
        fun V h hb => ⟨h.cell 0, h.cell 1, h.cell 2, h.cell 3, (hb.cell (p := ⟨g, o + k * 2, none⟩) hg).trans c3, (hb.cell (p := ⟨g, o + k * 2 + 1, none⟩) hg).trans c4⟩
      have S0 : (fun V : World => V.cell? ⟨w.heap.size, 0, none⟩ = some (.int .i64 s) ∧ V.cell? ⟨w.heap.size, 1, none⟩ = some (.bool c) ∧ V.cell? ⟨w.heap.size, 2, none⟩ = some (.slice (some ⟨g, o, none⟩) n cap) ∧ V.cell? ⟨w.heap.size, 3, none⟩ = some (.string x) ∧ V.cell? ⟨g, o + k * 2, none⟩ = some (.int .i64 p) ∧ V.cell? ⟨g, o + k * 2 + 1, none⟩ = some (.int .i64 q)) wr.drew := SS wr.drew H0.out.drew HB.out.drew
      have hwr : IntKind.i64.wrap ((k : Int) + 1) = (k : Int) + 1 := by first | exact IntWalk.i64_in _ (by omega) | (rw [IntKind.wrap_i64]; omega)
      rw [show decide (k + 1 < n) = decide (IntKind.i64.wrap ((k : Int) + 1) < (n : Int)) by rw [hwr]; exact decide_eq_decide.2 (by omega)] at hcw
      have CW : Hid (∀ w, Calls Tryz.prog 33 #[.agg #[.int .i64 1, .int .i64 s, .int .i64 p, .int .i64 q, .int .i64 (x.size : Int), .bool (decide (IntKind.i64.wrap ((k : Int) + 1) < (n : Int))), .bool c, .string ⟨#[]⟩]] w fun e w' => e = .returned (.tuple #[.int .u64 (W : Int), .int .i64 0]) ∧ Below w.heap.size w w') := hcw
      clear hcw hwr
      go_wp2_with fail
      refine wp_region_G (fun V : World => V.cell? ⟨w.heap.size, 0, none⟩ = some (.int .i64 s) ∧ V.cell? ⟨w.heap.size, 1, none⟩ = some (.bool c) ∧ V.cell? ⟨w.heap.size, 2, none⟩ = some (.slice (some ⟨g, o, none⟩) n cap) ∧ V.cell? ⟨w.heap.size, 3, none⟩ = some (.string x) ∧ V.cell? ⟨g, o + k * 2, none⟩ = some (.int .i64 p) ∧ V.cell? ⟨g, o + k * 2 + 1, none⟩ = some (.int .i64 q)) 31 (by kernel_rfl) ?_
      refine wpAnyG_take [31] (some 28) (i := 0) (v := ?vr0) rfl rfl (by kernel_rfl) (by kernel_rfl) (by kernel_rfl) (by kernel_rfl) (fun _ _ _ h => h) (Or.inl ⟨by rfl, ?yr0⟩) S0 ?rr0
      case yr0 => (intro V hSV; obtain ⟨d0, d1, d2, d3, d4, d5⟩ := hSV; go_simp; try with_reducible rfl)
      simp only [Act.put, List.setIfInBounds_toArray, List.set_cons_zero, List.set_cons_succ]
      refine wpAnyG_take [31] (some 29) (i := 1) (v := ?vr1) rfl rfl (by kernel_rfl) (by kernel_rfl) (by kernel_rfl) (by kernel_rfl) (fun _ _ _ h => h) (Or.inl ⟨by rfl, ?yr1⟩) S0 ?rr1
      case yr1 => (intro V hSV; obtain ⟨d0, d1, d2, d3, d4, d5⟩ := hSV; go_simp; try with_reducible rfl)
      simp only [Act.put, List.setIfInBounds_toArray, List.set_cons_zero, List.set_cons_succ]
      refine wpAnyG_take [31] (some 30) (i := 2) (v := ?vr2) rfl rfl (by kernel_rfl) (by kernel_rfl) (by kernel_rfl) (by kernel_rfl) (fun _ _ _ h => h) (Or.inl ⟨by rfl, ?yr2⟩) S0 ?rr2
      case yr2 => (intro V hSV; obtain ⟨d0, d1, d2, d3, d4, d5⟩ := hSV; go_simp; try with_reducible rfl)
      simp only [Act.put, List.setIfInBounds_toArray, List.set_cons_zero, List.set_cons_succ]
      refine wpAnyG_take [31] (some 31) (i := 3) (v := ?vr3) rfl rfl (by kernel_rfl) (by kernel_rfl) (by kernel_rfl) (by kernel_rfl) (fun _ _ _ h => h) (Or.inl ⟨by rfl, ?yr3⟩) S0 ?rr3
      case yr3 => (intro V hSV; obtain ⟨d0, d1, d2, d3, d4, d5⟩ := hSV; go_simp; try with_reducible rfl)
      simp only [Act.put, List.setIfInBounds_toArray, List.set_cons_zero, List.set_cons_succ]
      refine wpAnyG_take [31] (some 32) (i := 4) (v := ?vr4) rfl rfl (by kernel_rfl) (by kernel_rfl) (by kernel_rfl) (by kernel_rfl) (fun _ _ _ h => h) (Or.inl ⟨by rfl, ?yr4⟩) S0 ?rr4
      case yr4 => (intro V hSV; obtain ⟨d0, d1, d2, d3, d4, d5⟩ := hSV; go_simp; try with_reducible rfl)
      simp only [Act.put, List.setIfInBounds_toArray, List.set_cons_zero, List.set_cons_succ]
      refine wpAnyG_take [31] (some 33) (i := 5) (v := ?vr5) rfl rfl (by kernel_rfl) (by kernel_rfl) (by kernel_rfl) (by kernel_rfl) (fun _ _ _ h => h) (Or.inl ⟨by rfl, ?yr5⟩) S0 ?rr5
      case yr5 => (intro V hSV; obtain ⟨d0, d1, d2, d3, d4, d5⟩ := hSV; go_simp; try with_reducible rfl)
      simp only [Act.put, List.setIfInBounds_toArray, List.set_cons_zero, List.set_cons_succ]
      refine wpAnyG_take [31] (some 34) (i := 6) (v := ?vr6) rfl rfl (by kernel_rfl) (by kernel_rfl) (by kernel_rfl) (by kernel_rfl) (fun _ _ _ h => h) (Or.inl ⟨by rfl, ?yr6⟩) S0 ?rr6
      case yr6 => (intro V hSV; obtain ⟨d0, d1, d2, d3, d4, d5⟩ := hSV; go_simp; try with_reducible rfl)
      simp only [Act.put, List.setIfInBounds_toArray, List.set_cons_zero, List.set_cons_succ]
      refine wpAnyG_take [31] (some 35) (i := 7) (v := ?vr7) rfl rfl (by kernel_rfl) (by kernel_rfl) (by kernel_rfl) (by kernel_rfl) (fun _ _ _ h => h) (Or.inl ⟨by rfl, ?yr7⟩) S0 ?rr7
      case yr7 => (intro V hSV; obtain ⟨d0, d1, d2, d3, d4, d5⟩ := hSV; go_simp; try with_reducible rfl)
      simp only [Act.put, List.setIfInBounds_toArray, List.set_cons_zero, List.set_cons_succ]
      refine wpAnyG_take [31] (some 36) (i := 8) (v := ?vr8) rfl rfl (by kernel_rfl) (by kernel_rfl) (by kernel_rfl) (by kernel_rfl) (fun _ _ _ h => h) (Or.inl ⟨by rfl, ?yr8⟩) S0 ?rr8
      case yr8 => (intro V hSV; obtain ⟨d0, d1, d2, d3, d4, d5⟩ := hSV; go_simp; try with_reducible rfl)
      simp only [Act.put, List.setIfInBounds_toArray, List.set_cons_zero, List.set_cons_succ]
      refine wpAnyG_take [31] (some 37) (i := 9) (v := ?vr9) rfl rfl (by kernel_rfl) (by kernel_rfl) (by kernel_rfl) (by kernel_rfl) (fun _ _ _ h => h) (Or.inl ⟨by rfl, ?yr9⟩) S0 ?rr9
      case yr9 => (intro V hSV; obtain ⟨d0, d1, d2, d3, d4, d5⟩ := hSV; go_simp; try with_reducible rfl)
      simp only [Act.put, List.setIfInBounds_toArray, List.set_cons_zero, List.set_cons_succ]
      refine wpAnyG_take [31] (some 38) (i := 10) (v := ?vr10) rfl rfl (by kernel_rfl) (by kernel_rfl) (by kernel_rfl) (by kernel_rfl) (fun _ _ _ h => h) (Or.inl ⟨by rfl, ?yr10⟩) S0 ?rr10
      case yr10 => (intro V hSV; obtain ⟨d0, d1, d2, d3, d4, d5⟩ := hSV; go_simp; try with_reducible rfl)
      simp only [Act.put, List.setIfInBounds_toArray, List.set_cons_zero, List.set_cons_succ]
      refine wpAnyG_take [31] (some 39) (i := 11) (v := ?vr11) rfl rfl (by kernel_rfl) (by kernel_rfl) (by kernel_rfl) (by kernel_rfl) (fun _ _ _ h => h) (Or.inl ⟨by rfl, ?yr11⟩) S0 ?rr11
      case yr11 => (intro V hSV; obtain ⟨d0, d1, d2, d3, d4, d5⟩ := hSV; go_simp; try with_reducible rfl)
      simp only [Act.put, List.setIfInBounds_toArray, List.set_cons_zero, List.set_cons_succ]
      refine wpAnyG_take [31] (some 40) (i := 12) (v := ?vr12) rfl rfl (by kernel_rfl) (by kernel_rfl) (by kernel_rfl) (by kernel_rfl) (fun _ _ _ h => h) (Or.inl ⟨by rfl, ?yr12⟩) S0 ?rr12
      case yr12 => (intro V hSV; obtain ⟨d0, d1, d2, d3, d4, d5⟩ := hSV; go_simp; try with_reducible rfl)
      simp only [Act.put, List.setIfInBounds_toArray, List.set_cons_zero, List.set_cons_succ]
      refine wpAnyG_take [31] (some 41) (i := 13) (v := ?vr13) rfl rfl (by kernel_rfl) (by kernel_rfl) (by kernel_rfl) (by kernel_rfl) (fun _ _ _ h => h) (Or.inl ⟨by rfl, ?yr13⟩) S0 ?rr13
      case yr13 => (intro V hSV; obtain ⟨d0, d1, d2, d3, d4, d5⟩ := hSV; go_simp; try with_reducible rfl)
      simp only [Act.put, List.setIfInBounds_toArray, List.set_cons_zero, List.set_cons_succ]
      refine wpAnyG_take [31] (some 42) (i := 14) (v := ?vr14) rfl rfl (by kernel_rfl) (by kernel_rfl) (by kernel_rfl) (by kernel_rfl) (fun _ _ _ h => h) (Or.inl ⟨by rfl, ?yr14⟩) S0 ?rr14
      case yr14 => (intro V hSV; obtain ⟨d0, d1, d2, d3, d4, d5⟩ := hSV; go_simp; try with_reducible rfl)
      simp only [Act.put, List.setIfInBounds_toArray, List.set_cons_zero, List.set_cons_succ]
      refine wpAnyG_take [31] (some 43) (i := 15) (v := ?vr15) rfl rfl (by kernel_rfl) (by kernel_rfl) (by kernel_rfl) (by kernel_rfl) (fun _ _ _ h => h) (Or.inl ⟨by rfl, ?yr15⟩) S0 ?rr15
      case yr15 => (intro V hSV; obtain ⟨d0, d1, d2, d3, d4, d5⟩ := hSV; go_simp; try with_reducible rfl)
      simp only [Act.put, List.setIfInBounds_toArray, List.set_cons_zero, List.set_cons_succ]
      refine wpAnyG_take [31] (some 44) (i := 16) (v := ?vr16) rfl rfl (by kernel_rfl) (by kernel_rfl) (by kernel_rfl) (by kernel_rfl) (fun _ _ _ h => h) (Or.inl ⟨by rfl, ?yr16⟩) S0 ?rr16
      case yr16 => (intro V hSV; obtain ⟨d0, d1, d2, d3, d4, d5⟩ := hSV; go_simp; try with_reducible rfl)
      simp only [Act.put, List.setIfInBounds_toArray, List.set_cons_zero, List.set_cons_succ]
      refine wpAnyG_take [31] (some 45) (i := 17) (v := ?vr17) rfl rfl (by kernel_rfl) (by kernel_rfl) (by kernel_rfl) (by kernel_rfl) (fun _ _ _ h => h) (Or.inl ⟨by rfl, ?yr17⟩) S0 ?rr17
      case yr17 => (intro V hSV; obtain ⟨d0, d1, d2, d3, d4, d5⟩ := hSV; go_simp; try with_reducible rfl)
      simp only [Act.put, List.setIfInBounds_toArray, List.set_cons_zero, List.set_cons_succ]
      refine wpAnyG_take [31] (some 46) (i := 18) (v := ?vr18) rfl rfl (by kernel_rfl) (by kernel_rfl) (by kernel_rfl) (by kernel_rfl) (fun _ _ _ h => h) (Or.inl ⟨by rfl, ?yr18⟩) S0 ?rr18
      case yr18 => (intro V hSV; obtain ⟨d0, d1, d2, d3, d4, d5⟩ := hSV; go_simp; try with_reducible rfl)
      simp only [Act.put, List.setIfInBounds_toArray, List.set_cons_zero, List.set_cons_succ]
      refine wpAnyG_take [31] (some 47) (i := 19) (v := ?vr19) rfl rfl (by kernel_rfl) (by kernel_rfl) (by kernel_rfl) (by kernel_rfl) (fun _ _ _ h => h) (Or.inl ⟨by rfl, ?yr19⟩) S0 ?rr19
      case yr19 => (intro V hSV; obtain ⟨d0, d1, d2, d3, d4, d5⟩ := hSV; go_simp; try with_reducible rfl)
      simp only [Act.put, List.setIfInBounds_toArray, List.set_cons_zero, List.set_cons_succ]
      refine wpAnyG_take [31] (some 48) (i := 20) (v := ?vr20) rfl rfl (by kernel_rfl) (by kernel_rfl) (by kernel_rfl) (by kernel_rfl) (fun _ _ _ h => h) (Or.inl ⟨by rfl, ?yr20⟩) S0 ?rr20
      case yr20 => (intro V hSV; obtain ⟨d0, d1, d2, d3, d4, d5⟩ := hSV; go_simp; try with_reducible rfl)
      simp only [Act.put, List.setIfInBounds_toArray, List.set_cons_zero, List.set_cons_succ]
      refine wpAnyG_take [31] (some 49) (i := 21) (v := ?vr21) rfl rfl (by kernel_rfl) (by kernel_rfl) (by kernel_rfl) (by kernel_rfl) (fun _ _ _ h => h) (Or.inl ⟨by rfl, ?yr21⟩) S0 ?rr21
      case yr21 => (intro V hSV; obtain ⟨d0, d1, d2, d3, d4, d5⟩ := hSV; go_simp; try with_reducible rfl)
      simp only [Act.put, List.setIfInBounds_toArray, List.set_cons_zero, List.set_cons_succ]
      refine wpAnyG_take [31] (some 50) (i := 22) (v := ?vr22) rfl rfl (by kernel_rfl) (by kernel_rfl) (by kernel_rfl) (by kernel_rfl) (fun _ _ _ h => h) (Or.inl ⟨by rfl, ?yr22⟩) S0 ?rr22
      case yr22 => (intro V hSV; obtain ⟨d0, d1, d2, d3, d4, d5⟩ := hSV; go_simp; try with_reducible rfl)
      simp only [Act.put, List.setIfInBounds_toArray, List.set_cons_zero, List.set_cons_succ]
      refine wpAnyG_take [31] (some 51) (i := 23) (v := ?vr23) rfl rfl (by kernel_rfl) (by kernel_rfl) (by kernel_rfl) (by kernel_rfl) (fun _ _ _ h => h) (Or.inl ⟨by rfl, ?yr23⟩) S0 ?rr23
      case yr23 => (intro V hSV; obtain ⟨d0, d1, d2, d3, d4, d5⟩ := hSV; go_simp; try with_reducible rfl)
      simp only [Act.put, List.setIfInBounds_toArray, List.set_cons_zero, List.set_cons_succ]
      refine wpAnyG_take [31] (some 52) (i := 24) (v := ?vr24) rfl rfl (by kernel_rfl) (by kernel_rfl) (by kernel_rfl) (by kernel_rfl) (fun _ _ _ h => h) (Or.inl ⟨by rfl, ?yr24⟩) S0 ?rr24
      case yr24 => (intro V hSV; obtain ⟨d0, d1, d2, d3, d4, d5⟩ := hSV; go_simp; try with_reducible rfl)
      simp only [Act.put, List.setIfInBounds_toArray, List.set_cons_zero, List.set_cons_succ]
      refine wpAnyG_take [31] (some 53) (i := 25) (v := ?vr25) rfl rfl (by kernel_rfl) (by kernel_rfl) (by kernel_rfl) (by kernel_rfl) (fun _ _ _ h => h) (Or.inl ⟨by rfl, ?yr25⟩) S0 ?rr25
      case yr25 => (intro V hSV; obtain ⟨d0, d1, d2, d3, d4, d5⟩ := hSV; go_simp; try with_reducible rfl)
      simp only [Act.put, List.setIfInBounds_toArray, List.set_cons_zero, List.set_cons_succ]
      refine wpAnyG_one (i := 26) (by kernel_rfl) rfl (fun K hK => ?_)
      go_simp
      with_reducible refine (CW.out _).mono ?_
      rintro e wa ⟨rfl, hba⟩
      have F0 := H0.out.drew.next hba
      have FB := HB.out.drew.trans (hba.mono HB.out.drew.size)
      have S3 : (fun V : World => V.cell? ⟨w.heap.size, 0, none⟩ = some (.int .i64 s) ∧ V.cell? ⟨w.heap.size, 1, none⟩ = some (.bool c) ∧ V.cell? ⟨w.heap.size, 2, none⟩ = some (.slice (some ⟨g, o, none⟩) n cap) ∧ V.cell? ⟨w.heap.size, 3, none⟩ = some (.string x) ∧ V.cell? ⟨g, o + k * 2, none⟩ = some (.int .i64 p) ∧ V.cell? ⟨g, o + k * 2 + 1, none⟩ = some (.int .i64 q)) wa := SS wa F0 FB
      refine hK.out _ _ (Or.inr S3) ?_
      clear hK K
      try simp only [Act.put, List.setIfInBounds_toArray, List.set_cons_zero, List.set_cons_succ]
      refine wpAnyG_take [31] (some 27) (i := 27) (v := ?vr27) rfl rfl (by kernel_rfl) (by kernel_rfl) (by kernel_rfl) (by kernel_rfl) (fun _ _ _ h => h) (Or.inl ⟨by rfl, ?yr27⟩) S3 ?rr27
      case yr27 => (intro V hSV; obtain ⟨d0, d1, d2, d3, d4, d5⟩ := hSV; go_simp; try with_reducible rfl)
      simp only [Act.put, List.setIfInBounds_toArray, List.set_cons_zero, List.set_cons_succ]
      refine wpAnyG_take [31] (some 55) (i := 28) (v := ?vr28) rfl rfl (by kernel_rfl) (by kernel_rfl) (by kernel_rfl) (by kernel_rfl) (fun _ _ _ h => h) (Or.inl ⟨by rfl, ?yr28⟩) S3 ?rr28
      case yr28 => (intro V hSV; obtain ⟨d0, d1, d2, d3, d4, d5⟩ := hSV; go_simp; try with_reducible rfl)
      simp only [Act.put, List.setIfInBounds_toArray, List.set_cons_zero, List.set_cons_succ]
      refine wpAnyG_take [31] (some 56) (i := 29) (v := ?vr29) rfl rfl (by kernel_rfl) (by kernel_rfl) (by kernel_rfl) (by kernel_rfl) (fun _ _ _ h => h) (Or.inl ⟨by rfl, ?yr29⟩) S3 ?rr29
      case yr29 => (intro V hSV; obtain ⟨d0, d1, d2, d3, d4, d5⟩ := hSV; go_simp; try with_reducible rfl)
      simp only [Act.put, List.setIfInBounds_toArray, List.set_cons_zero, List.set_cons_succ]
      refine wpAnyG_one (i := 30) (by kernel_rfl) rfl (fun K hK => ?_)
      go_simp
      refine hK.out _ _ (Or.inr S3) ?_
      clear hK K
      refine wpAnyG_one (i := 31) (by kernel_rfl) rfl (fun K hK => ?_)
      go_simp
      refine hK.out _ _ (Or.inl (by kernel_rfl)) ?_
      clear hK K
      refine wpAnyG_done (by kernel_rfl) ?_ _
      have own : Own 46 wa w.heap.size v L := own_next HO.out ((Below.drew (Below.refl _ _)).trans hba)
      have hsa : w.heap.size + 1 ≤ wa.heap.size := Nat.le_trans hsz hba.size
      have hbl : Below w.heap.size w wa := FB
      have hbk : wa.heap[w.heap.size]? = some (.cells (pcc s c (.slice (some ⟨g, o, none⟩) n cap) x) 34 (0, 0)) := F0
      clear S3 F0 FB hba S0 SS HO H0 HB c3 c4
      go_wp2_with (at_builtin; go_loud (refine wpList_app_one rfl (.tmp 57) (.tmp 59) 30 46 i0 (.int .u64 0) 8 rfl Tryz.underlying30 ki hz0 hz1 hz2 rfl (by decide) w.heap.size wa _ _ (.int .u64 ((W : Nat) : Int)) rfl own rfl rfl hll (Nat.le_of_succ_le hsa) ?_; intro v1' wb o1 kb; have ab := kb.2.1 _ hbl; have bb := kb.2.2.2 _ _ _ _ (show 34 ≠ 46 by decide) hbk; have zb := kb.1; clear kb own hbl hbk))
      rw [HST.out] at o1
      go_roundw
      case rel => exact ⟨k + 1, by omega, by go_num, bb, o1, ab, Nat.le_trans hsa zb⟩
      case measure => simp [RowKit.intOf]; omega
    · obtain rfl : k = n := by omega
      have e1 : ¬ (k : Int) < (k : Int) := by omega
      clear HH CH
      have WN : Hid (WS = HWf k ++ bw x (nb x.size) ++ [(tlF x).word]) := HWS.out
      have BS : Hid (∀ j, vw (HWf k ++ bw x j) ++ [.int .u64 (((bdF x j).word : Nat) : Int)] = vw (HWf k ++ bw x (j + 1))) := show _ from fun j => by rw [vw_snoc, List.append_assoc, bw_snoc]
      have LH : Hid (∀ j, (vw (HWf k ++ bw x j)).length = k + j) := show _ from fun j => by
        have := VL.out k
        rw [vw_len] at this
        rw [vw_len, List.length_append, this, bw_len]
      have O0 : Hid (Own 46 wr w.heap.size v (vw (HWf k ++ bw x 0))) := by
        rw [show bw x 0 = [] from rfl, List.append_nil]
        exact HO.out
      have NB : Hid (nb x.size ≤ 10) := show nb x.size ≤ 10 by unfold nb; omega
      clear HWS HO VL HZ0 HR
      go_wp2_with fail
      go_loopw [4, 8] (fun v r wr => ∃ (j : Nat), j ≤ nb x.size ∧ r = .string (restX x j) ∧ Bk wr w.heap.size (pcc s c (.slice a k cap) x) 34 ∧ Own 46 wr w.heap.size v (vw (HWf k ++ bw x j)) ∧ Below w.heap.size w wr ∧ w.heap.size + 1 ≤ wr.heap.size) (fun _ r _ => lenOf r)
      case atStart => exact ⟨0, Nat.zero_le _, by rw [restX_zero], H0.out, O0.out, HB.out, hsz⟩
      case round =>
      obtain ⟨j, hj, rfl, h0, own, hb, hsz2⟩ := hrel
      obtain ⟨v2, rfl⟩ : ∃ v2, v2 = u4 := ⟨_, rfl⟩
      have HO2 : Hid (Own 46 _ w.heap.size v2 (vw (HWf k ++ bw x j))) := own
      have H2 : Hid (Bk _ w.heap.size (pcc s c (.slice a k cap) x) 34) := h0
      have HB2 : Hid (Below w.heap.size w _) := hb
      clear h0 own hb H0 HB O0 c2 c5
      have hll : (vw (HWf k ++ bw x j)).length ≤ 1000000 := by rw [LH.out]; have := NB.out; omega
      by_cases hjn : j < nb x.size
      · have h6 : 6 < (restX x j).size := nb_more.1 hjn
        have h64 : (restX x j).size ≤ 64 := by rw [restX_size]; omega
        have HRT : Hid ((restX x j).extract 6 (restX x j).size = restX x (j + 1)) := restX_tail x j
        have hcb := CB.out j hjn
        have hst := BS.out j
        clear CB CT BS WN
        generalize restX x j = R at *
        generalize (bdF x j).word = W at *
        have HST : Hid (vw (HWf k ++ bw x j) ++ [.int .u64 (W : Int)] = vw (HWf k ++ bw x (j + 1))) := hst
        clear hst
        generalize vw (HWf k ++ bw x j) = L at *
        have f1 : (6 : Int) < (R.size : Int) := by omega
        have f2 : (6 : Int) ≤ (R.size : Int) := by omega
        have f3 : 6 ≤ R.size := by omega
        go_wp2_with (first
          | (go_at_call 33; (with_reducible refine (hcb _).mono ?_); rintro e wa ⟨rfl, hba⟩; have own : Own 46 wa w.heap.size v2 L := own_next HO2.out hba; have hsa : w.heap.size + 1 ≤ wa.heap.size := Nat.le_trans hsz2 hba.size; have hbl : Below w.heap.size w wa := HB2.out.trans (hba.mono HB2.out.size); have hbk : wa.heap[w.heap.size]? = some (.cells (pcc s c (.slice a k cap) x) 34 (0, 0)) := H2.out.next hba; clear hba HO2 HB2 H2)
          | (at_builtin; go_loud (refine wpList_app_one rfl (.tmp 73) (.tmp 75) 30 46 i0 (.int .u64 0) 8 rfl Tryz.underlying30 ki hz0 hz1 hz2 rfl (by decide) w.heap.size wa _ _ (.int .u64 ((W : Nat) : Int)) rfl own rfl rfl hll (Nat.le_of_succ_le hsa) ?_; intro v1' wb o1 kb; have ab := kb.2.1 _ hbl; have bb := kb.2.2.2 _ _ _ _ (show 34 ≠ 46 by decide) hbk; have zb := kb.1; clear kb own hbl hbk)))
        rw [HST.out] at o1
        go_roundw
        case rel => exact ⟨j + 1, by omega, by rw [HRT.out], bb, o1, ab, Nat.le_trans hsa zb⟩
        case measure =>
          simp [lenOf]
          omega
      · obtain rfl : j = nb x.size := by omega
        have h6 : (restX x (nb x.size)).size ≤ 6 := nb_end
        have hct := CT.out
        have hst : vw (HWf k ++ bw x (nb x.size)) ++ [.int .u64 (((tlF x).word : Nat) : Int)] = vw WS := by rw [vw_snoc, ← WN.out]
        clear CB CT BS WN
        generalize restX x (nb x.size) = R at *
        generalize (tlF x).word = W at *
        have HST : Hid (vw (HWf k ++ bw x (nb x.size)) ++ [.int .u64 (W : Int)] = vw WS) := hst
        clear hst
        generalize vw (HWf k ++ bw x (nb x.size)) = L at *
        have f1 : ¬ (6 : Int) < (R.size : Int) := by omega
        go_wp2_with (first
          | (go_at_call 33; (with_reducible refine (hct _).mono ?_); rintro e wa ⟨rfl, hba⟩; have own : Own 46 wa w.heap.size v2 L := own_next HO2.out hba; have hsa : w.heap.size + 1 ≤ wa.heap.size := Nat.le_trans hsz2 hba.size; have hbl : Below w.heap.size w wa := HB2.out.trans (hba.mono HB2.out.size); have hbk : wa.heap[w.heap.size]? = some (.cells (pcc s c (.slice a k cap) x) 34 (0, 0)) := H2.out.next hba; clear hba HO2 HB2 H2)
          | (at_builtin; go_loud (refine wpList_app_one rfl (.tmp 85) (.tmp 87) 30 46 i0 (.int .u64 0) 8 rfl Tryz.underlying30 ki hz0 hz1 hz2 rfl (by decide) w.heap.size wa _ _ (.int .u64 ((W : Nat) : Int)) rfl own rfl rfl hll (Nat.le_of_succ_le hsa) ?_; intro v1' wb o1 kb; have ab := kb.2.1 _ hbl; have bb := kb.2.2.2 _ _ _ _ (show 34 ≠ 46 by decide) hbk; have zb := kb.1; clear kb own hbl hbk)))
        rw [HST.out] at o1
        obtain ⟨ra, za, rfl, hcz, _, rr⟩ := o1.rd
        rw [vw_len] at hcz ⊢
        refine bodyPost_ret (v := .tuple #[.slice ra WS.length za, .int .i64 0]) (by simp [results, Tryz.results12, go_sem]) rfl ⟨ra, za, rfl, hcz, rr, ab, fun q hq => ((show OwnK 46 1 _ w.heap.size _ _ _ from o1).lt (q := q.block) (by rw [hq]; rfl)).1⟩

set_option maxRecDepth 100000 in
set_option maxHeartbeats 1600000 in
theorem rwords_new (s : Int) (c : Bool) (a : Option Addr) (cap : Nat) (x : ByteArray) (hs : List (Int × Int)) (w : World) (hl : hs.length ≤ 1000000) (hx : x.size ≤ maxLen) (hr : Rd w a (pc hs)) :
    Calls Tryz.prog 12 #[pcv s c (.slice a hs.length cap) x] w fun e w' => ∃ a' cap', e = .returned (.tuple #[.slice a' (Pc.wordsR ⟨s, c, hs, x⟩).1.length cap', .int .i64 (Pc.wordsR ⟨s, c, hs, x⟩).2]) ∧ (Pc.wordsR ⟨s, c, hs, x⟩).1.length ≤ cap' ∧ Rd w' a' (vw (Pc.wordsR ⟨s, c, hs, x⟩).1) ∧ Below w.heap.size w w' ∧ ∀ q, a' = some q → w.heap.size ≤ q.block := by
  have RN : ∀ w', Rd w' none (vw []) := fun w' j v hj => by simp [vw] at hj
  by_cases h64 : 64 < x.size
  · rw [show Pc.wordsR ⟨s, c, hs, x⟩ = ([], 4) by unfold Pc.wordsR; rw [if_pos h64]]
    have f1 : (64 : Int) < (x.size : Int) := by omega
    simp only [pcv, pcc] at *
    go_enter Tryz.func12, Tryz.ntmps12
    go_wp2_with fail
    exact bodyPost_ret (v := .tuple #[.slice none 0 0, .int .i64 4]) (by simp [results, Tryz.results12, go_sem]) rfl ⟨none, 0, rfl, Nat.le_refl _, RN _, (Below.refl _ _).alloc (Nat.le_refl _) _, fun _ h => by cases h⟩
  by_cases hok : Pc.okB ⟨s, c, hs, x⟩ = true
  · rw [show Pc.wordsR ⟨s, c, hs, x⟩ = (Pc.ws ⟨s, c, hs, x⟩, 0) by unfold Pc.wordsR; rw [if_neg h64, if_pos hok]]
    exact rwords_ok s c a cap x hs w hok hr
  rw [show Pc.wordsR ⟨s, c, hs, x⟩ = ([], 1) by unfold Pc.wordsR; rw [if_neg h64, if_neg hok]]
  have CR : ∀ w', Rd w' a (pc hs) → Calls Tryz.prog 32 #[pcv s c (.slice a hs.length cap) x] w' fun e w2 => e = .returned (.bool false) ∧ Below w'.heap.size w' w2 := fun w' h => by
    have := rok_any s c a cap x hs w' hl hx h
    rw [show Pc.okB ⟨s, c, hs, x⟩ = false by simpa using hok] at this
    exact this
  have f1 : ¬ (64 : Int) < (x.size : Int) := by omega
  simp only [pcv, pcc] at *
  obtain ⟨n, hn⟩ : ∃ n, hs.length = n := ⟨_, rfl⟩
  rw [hn] at CR ⊢
  have HB1 : Hid (Below w.heap.size w (w.alloc (.cells #[.int .i64 s, .bool c, .slice a n cap, .string x] 34))) := (Below.refl _ _).alloc (Nat.le_refl _) _
  have CR1 := CR (w.alloc (.cells #[.int .i64 s, .bool c, .slice a n cap, .string x] 34)) (hr.alloc _)
  clear CR hr hn hok
  go_enter Tryz.func12, Tryz.ntmps12
  go_wp2_with (go_at_call 32; (with_reducible refine CR1.mono ?_); rintro e w2 ⟨rfl, hb2⟩)
  exact bodyPost_ret (v := .tuple #[.slice none 0 0, .int .i64 1]) (by simp [results, Tryz.results12, go_sem]) rfl ⟨none, 0, rfl, Nat.le_refl _, RN _, HB1.out.trans (hb2.mono HB1.out.size), fun _ h => by cases h⟩
theorem rwords_any (s : Int) (c : Bool) (a : Option Addr) (cap : Nat) (x : ByteArray) (hs : List (Int × Int)) (w : World) (hl : hs.length ≤ 1000000) (hx : x.size ≤ maxLen) (hr : Rd w a (pc hs)) :
    Calls Tryz.prog 12 #[pcv s c (.slice a hs.length cap) x] w fun e w' => ∃ a' cap', e = .returned (.tuple #[.slice a' (Pc.wordsR ⟨s, c, hs, x⟩).1.length cap', .int .i64 (Pc.wordsR ⟨s, c, hs, x⟩).2]) ∧ (Pc.wordsR ⟨s, c, hs, x⟩).1.length ≤ cap' ∧ Rd w' a' (vw (Pc.wordsR ⟨s, c, hs, x⟩).1) ∧ Below w.heap.size w w' :=
  (rwords_new s c a cap x hs w hl hx hr).mono fun _ _ ⟨a', cap', h1, h2, h3, h4, _⟩ => ⟨a', cap', h1, h2, h3, h4⟩
end Go.Proofs.YtoejpngdkcnnhaaGreat

namespace Go.Proofs.YtoejpngdkcnnhaaGreat
open Go.RowKit

/-- What the first k words tell. -/
def pk (l : List Nat) (k : Nat) : Pc := coll ((l.take k).map fun w => (readR w).1)
theorem pk_succ {l : List Nat} {k : Nat} (h : k < l.length) : pk l (k + 1) = (pk l k).add (readR (l.getD k 0)).1 := by
  unfold pk
  have e : l.take (k + 1) = l.take k ++ [l.getD k 0] := by
    rw [List.take_add_one, List.getElem?_eq_getElem h, List.getD_eq_getElem?_getD, List.getElem?_eq_getElem h]
    rfl
  rw [e, List.map_append, List.map_cons, List.map_nil, coll_snoc]
theorem pk_zero (l : List Nat) : pk l 0 = zp := by
  unfold pk
  rw [List.take_zero]
  rfl
theorem add_one (P : Pc) (s d q l : Int) (m c : Bool) (x : ByteArray) : P.add ⟨1, s, d, q, l, m, c, x⟩ = ⟨s, c, P.hs ++ [(d, q)], P.x ++ x⟩ := rfl
theorem add_other (P : Pc) {k : Int} (h : ¬ k = 1) (s d q l : Int) (m c : Bool) (x : ByteArray) : P.add ⟨k, s, d, q, l, m, c, x⟩ = ⟨P.s, P.c, P.hs, P.x ++ x⟩ := by
  unfold Pc.add
  exact if_neg h
theorem pk_all (l : List Nat) : pk l l.length = coll (l.map fun w => (readR w).1) := by unfold pk; rw [List.take_length]
theorem pk_small {l : List Nat} : ∀ k, k ≤ l.length → (∀ j, j < k → (readR (l.getD j 0)).2 = 0) → (pk l k).hs.length ≤ k ∧ (pk l k).x.size ≤ 6 * k := by
  intro k
  induction k with
  | zero => intro _ _; exact ⟨Nat.le_refl _, by show ByteArray.empty.size ≤ 0; simp⟩
  | succ k ih =>
    intro hk h
    obtain ⟨i1, i2⟩ := ih (by omega) fun j hj => h j (by omega)
    obtain ⟨_, hr⟩ := readR_ok (h k (by omega))
    rw [pk_succ (by omega)]
    unfold Pc.add
    by_cases h1 : (readR (l.getD k 0)).1.k = 1
    · rw [if_pos h1]
      rcases right_forms hr with ⟨_, _, _, _, _, _, _, _, _, hx⟩ | ⟨h2, _⟩
      · refine ⟨by simp only [List.length_append, List.length_singleton]; omega, ?_⟩
        simp only [hx, ByteArray.size_append]
        show _ + 0 ≤ _
        omega
      · omega
    · rw [if_neg h1]
      have := right_size hr h1
      refine ⟨by simp only; omega, ?_⟩
      simp only [ByteArray.size_append]
      omega
theorem errR_no : ∀ (l : List Nat) (k : Nat), k < l.length → (∀ j, j < k → (readR (l.getD j 0)).2 = 0) → (readR (l.getD k 0)).2 ≠ 0 → errR l = (readR (l.getD k 0)).2
  | [], _, h, _, _ => absurd h (Nat.not_lt_zero _)
  | w :: l, 0, _, _, h => by
    unfold errR
    simp only [List.getD_cons_zero] at h ⊢
    rw [if_pos h]
  | w :: l, k + 1, hk, hj, h => by
    have h0 := hj 0 (by omega)
    simp only [List.getD_cons_zero] at h0
    unfold errR
    rw [if_neg (by simpa using h0)]
    simp only [List.getD_cons_succ] at h ⊢
    exact errR_no l k (by simpa using hk) (fun j hlt => by have := hj (j + 1) (by omega); simpa using this) h
theorem errR_all : ∀ (l : List Nat), (∀ j, j < l.length → (readR (l.getD j 0)).2 = 0) → errR l = 0
  | [], _ => rfl
  | w :: l, h => by
    have h0 := h 0 (by simp)
    simp only [List.getD_cons_zero] at h0
    unfold errR
    rw [if_neg (by simpa using h0)]
    exact errR_all l fun j hj => by have := h (j + 1) (by simpa using hj); simpa using this

theorem readPc_err {l : List Nat} {e : Int} (h : errR l = e) (h2 : ¬ e = 0) : readPc l = (zp, e) := by
  subst h
  unfold readPc
  exact if_pos h2
theorem readPc_bad {l : List Nat} (h : ∀ j, j < l.length → (readR (l.getD j 0)).2 = 0) (h2 : ¬ (pk l l.length).wordsR = (l, 0)) : readPc l = (zp, 2) := by
  rw [pk_all] at h2
  unfold readPc
  exact (if_neg (by rw [errR_all l h]; simp)).trans (if_neg h2)
theorem readPc_good {l : List Nat} (h : ∀ j, j < l.length → (readR (l.getD j 0)).2 = 0) (h2 : (pk l l.length).wordsR = (l, 0)) : readPc l = (pk l l.length, 0) := by
  rw [pk_all] at h2 ⊢
  unfold readPc
  exact (if_neg (by rw [errR_all l h]; simp)).trans (if_pos h2)

theorem Bk.set {v : World} {b : Nat} {cs : Array Value} {t : TypeId} (h : Bk v b cs t) (j : Nat) (u : Value) : Bk (v.setCell ⟨b, j, none⟩ u) b (cs.setIfInBounds j u) t := by
  unfold Bk at h ⊢
  simp [World.setCell, Array.getElem?_modify, h]

theorem wpList_app_two {P : Program} {ops : Array Oper} {rest : List Oper} {o : Oper} {a : Act} {Q : Exit → Act → World → Prop} (hgd : o.guard = none) (s x : Operand) (t e : TypeId) (i : TypeInfo) (z : Value) (bytes : Nat)
    (ho : o.op = .call { callee := .builtin .append, args := #[s, x], argTypes := #[t, t] })
    (ht : P.underlying t = some (.slice e)) (hi : P.info? e = some i) (hz : i.zero = some z) (h1 : i.size = 2) (hby : i.bytes = bytes) (hzs : z.cells.size = 2) (hb8 : bytes ≤ 64)
    (B : Nat) (w : World) (v : Value) (n : Nat) (L : List Value) (p q : Int) (hs : a.eval s = v) (hown : OwnK e 2 w B v n L) (hx : a.eval x = .slice (some ⟨w.heap.size, 0, none⟩) 1 1)
    (hlen : n ≤ 1000000) (hbase : B ≤ w.heap.size)
    (h : ∀ v' w', OwnK e 2 w' B v' (n + 1) (L ++ [.int .i64 p, .int .i64 q]) → (w.alloc (.cells #[.int .i64 p, .int .i64 q] e)).grownBy w' v.ownBlock → wpList P ops Q rest (a.put o.dst v') w') :
    wpList P ops Q (o :: rest) a (w.alloc (.cells #[.int .i64 p, .int .i64 q] e)) := by
  refine wpList_append_own _ hgd s x t ho B e i z 2 bytes ht hi hz h1 hby hzs (by decide) v n L hs (World.ownsRow.alloc hown _) ⟨w.heap.size, 0, none⟩ 1 1 [.int .i64 p, .int .i64 q] hx rfl ?_ ?_ ?_ ?_ ?_ ?_
  · intro j y hj
    match j, hj with
    | 0, hj => simp at hj; subst hj; exact (World.cell?_alloc_at _ _ _ _ rfl).trans rfl
    | 1, hj => simp at hj; subst hj; exact (World.cell?_alloc_at _ _ _ _ rfl).trans rfl
  · intro y hy
    simp at hy
    rcases hy with rfl | rfl <;> rfl
  · unfold maxLen; omega
  · have : (n + 1) * bytes ≤ (n + 1) * 64 := Nat.mul_le_mul_left _ hb8
    omega
  · simp; omega
  · intro v' w' hown' hgrow _
    exact h v' w' hown' hgrow
end Go.Proofs.YtoejpngdkcnnhaaGreat

namespace Go.Proofs.YtoejpngdkcnnhaaGreat
open Go.RowKit Go.Lib

theorem wpList_app_k {P : Program} {ops : Array Oper} {rest : List Oper} {o : Oper} {a : Act} {Q : Exit → Act → World → Prop} (hgd : o.guard = none) (s x : Operand) (t e : TypeId) (i : TypeInfo) (z : Value) (k bytes : Nat)
    (ho : o.op = .call { callee := .builtin .append, args := #[s, x], argTypes := #[t, t] })
    (ht : P.underlying t = some (.slice e)) (hi : P.info? e = some i) (hz : i.zero = some z) (h1 : i.size = k) (hby : i.bytes = bytes) (hzs : z.cells.size = k) (hk0 : 0 < k) (hb8 : bytes ≤ 64)
    (B : Nat) (w : World) (v : Value) (n : Nat) (L news : List Value) (hs : a.eval s = v) (hown : OwnK e k w B v n L) (hx : a.eval x = .slice (some ⟨w.heap.size, 0, none⟩) 1 1)
    (hl : news.length = k) (hone : ∀ u ∈ news, u.oneCell' = true) (hlen : n ≤ 1000000) (hbase : B ≤ w.heap.size)
    (h : ∀ v' w', OwnK e k w' B v' (n + 1) (L ++ news) → (w.alloc (.cells news.toArray e)).grownBy w' v.ownBlock → wpList P ops Q rest (a.put o.dst v') w') :
    wpList P ops Q (o :: rest) a (w.alloc (.cells news.toArray e)) := by
  refine wpList_append_own _ hgd s x t ho B e i z k bytes ht hi hz h1 hby hzs hk0 v n L hs (World.ownsRow.alloc hown _) ⟨w.heap.size, 0, none⟩ 1 1 news hx (by rw [hl, Nat.one_mul]) ?_ hone ?_ ?_ ?_ ?_
  · intro j y hj
    rw [WideShapes.add_plain, Nat.zero_add, cell_of (heap_alloc_new w (.cells news.toArray e)) j]
    simpa using hj
  · unfold maxLen; omega
  · have : (n + 1) * bytes ≤ (n + 1) * 64 := Nat.mul_le_mul_left _ hb8
    omega
  · simp; omega
  · intro v' w' hown' hgrow _
    exact h v' w' hown' hgrow

/-- Rows of unlike elements don't share a block. -/
theorem own_twoK {w : World} {B B' : Nat} {e t : TypeId} {k k' n n' : Nat} {v u : Value} {l m : List Value} (h : OwnK e k w B v n l) (h' : OwnK t k' w B' u n' m) (hne : e ≠ t) : u.ownBlock = none ∨ u.ownBlock ≠ v.ownBlock := by
  rcases h'.2 with ⟨rfl, _⟩ | ⟨g', cap, cur, rfl, _, hh, _⟩
  · exact Or.inl rfl
  · refine Or.inr fun c => ?_
    exact h.ne hh hne (by rw [← c]; rfl)
theorem OwnK.kept {w w' : World} {B B' : Nat} {e t : TypeId} {k k' n n' : Nat} {v u : Value} {l m : List Value} (h : OwnK e k w B v n l) (h' : OwnK t k' w B' u n' m) (hne : e ≠ t) (hg : w.grownBy w' v.ownBlock) : OwnK t k' w' B' u n' m :=
  World.ownsRow.kept h' hg (own_twoK h h' hne)

/-- 'append(b, s...)' of a text. -/
theorem wpList_app_text {P : Program} {ops : Array Oper} {rest : List Oper} {o : Oper} {a : Act} {Q : Exit → Act → World → Prop} (hgd : o.guard = none) (sl x : Operand) (t u : TypeId)
    (ho : o.op = .call { callee := .builtin .append, args := #[sl, x], argTypes := #[t, u] })
    (e : TypeId) (i : TypeInfo) (ht : P.underlying t = some (.slice e)) (hu : P.underlying u = some .string) (hi : P.info? e = some i) (hz : i.zero = some (.int .u8 0)) (hsize : i.size = 1) (hby : i.bytes = 1)
    (B : Nat) (w : World) (v : Value) (L S : ByteArray) (hs : a.eval sl = v) (hown : OwnK e 1 w B v L.size (strCells L)) (hx : a.eval x = .string S) (hlen : L.size + S.size ≤ 100000000) (hbase : B ≤ w.heap.size)
    (h : ∀ v' w', OwnK e 1 w' B v' (L ++ S).size (strCells (L ++ S)) → w.grownBy w' v.ownBlock → wpList P ops Q rest (a.put o.dst v') w') :
    wpList P ops Q (o :: rest) a w := by
  refine wpList_append_own_string w hgd sl x t u ho B e i ht hu hi hz hsize hby v L.size (strCells L) hs hown S hx (by unfold maxLen; omega) (by omega) hbase ?_
  intro v' w' h1 h2 _
  refine h v' w' ?_ h2
  have e1 : strCells (L ++ S) = strCells L ++ strCells S := by unfold strCells; rw [app_data, List.map_append]
  rw [e1, ByteArray.size_append]
  exact h1

theorem strCells_vb (x : ByteArray) : strCells x = vb (bytes x) := by
  unfold strCells vb bytes
  rw [List.map_map]
  rfl
/-- 'string(b)' of a text's bytes, of the call's own. -/
theorem text_of {w : World} {B : Nat} {v : Value} {x : ByteArray} (h : OwnK 5 1 w B v x.size (strCells x)) : (convert 136 9 v).run Tryz.prog w = .ok (.string x) w := by
  have hl : ∀ y ∈ bytes x, y < 256 := fun y hy => by
    unfold bytes at hy
    obtain ⟨b, _, rfl⟩ := List.mem_map.1 hy
    exact b.toNat_lt
  have : Own 5 w B v (vb (bytes x)) := by
    unfold Own
    rw [show (vb (bytes x)).length = x.size by unfold vb; rw [List.length_map, bytes_len], ← strCells_vb]
    exact h
  have := own_string this hl
  rw [ofB_bytes] at this
  exact this
end Go.Proofs.YtoejpngdkcnnhaaGreat

namespace Go.Proofs.YtoejpngdkcnnhaaGreat
open Go.RowKit

theorem vw_one (l : List Nat) : ∀ u ∈ vw l, u.oneCell' = true := by
  intro u hu
  obtain ⟨n, _, rfl⟩ := List.mem_map.1 hu
  rfl
/-- append of a row that is read. -/
theorem wpList_app_row {P : Program} {ops : Array Oper} {rest : List Oper} {o : Oper} {a : Act} {Q : Exit → Act → World → Prop} (hgd : o.guard = none) (s x : Operand) (t e : TypeId) (i : TypeInfo) (z : Value) (bytes : Nat)
    (ho : o.op = .call { callee := .builtin .append, args := #[s, x], argTypes := #[t, t] })
    (ht : P.underlying t = some (.slice e)) (hi : P.info? e = some i) (hz : i.zero = some z) (h1 : i.size = 1) (hby : i.bytes = bytes) (hzs : z.cells.size = 1) (hb8 : bytes ≤ 64)
    (B : Nat) (w : World) (v : Value) (xs : List Value) (hs : a.eval s = v) (hown : Own e w B v xs) (g q m c : Nat) (hx : a.eval x = .slice (some ⟨g, q, none⟩) m c) (ys : List Value) (hm : ys.length = m) (hr : Rd w (some ⟨g, q, none⟩) ys) (hone : ∀ u ∈ ys, u.oneCell' = true)
    (hlen : xs.length + m ≤ 1000000) (hbase : B ≤ w.heap.size)
    (h : ∀ v' w', Own e w' B v' (xs ++ ys) → w.grownBy w' v.ownBlock → wpList P ops Q rest (a.put o.dst v') w') : wpList P ops Q (o :: rest) a w := by
  refine wpList_append_own _ hgd s x t ho B e i z 1 bytes ht hi hz h1 hby hzs (by decide) v xs.length xs hs hown ⟨g, q, none⟩ m c ys hx (by rw [hm, Nat.mul_one]) ?_ hone ?_ ?_ hbase ?_
  · intro j u hj
    obtain ⟨g', o', e1, _, h3⟩ := hr j u hj
    simp only [Option.some.injEq, Addr.mk.injEq] at e1
    obtain ⟨rfl, rfl, _⟩ := e1
    rw [WideShapes.add_plain]
    exact h3
  · unfold maxLen; omega
  · have : (xs.length + m) * bytes ≤ (xs.length + m) * 64 := Nat.mul_le_mul_left _ hb8
    omega
  · intro v' w' hown' hgrow _
    refine h v' w' ?_ hgrow
    unfold Own
    rw [List.length_append, hm]
    exact hown'
theorem vw_take (l : List Nat) (k : Nat) : vw (l.take k) = (vw l).take k := by unfold vw; rw [List.map_take]
theorem vw_drop (l : List Nat) (k : Nat) : vw (l.drop k) = (vw l).drop k := by unfold vw; rw [List.map_drop]
theorem vw_app (l m : List Nat) : vw (l ++ m) = vw l ++ vw m := by unfold vw; rw [List.map_append]
theorem Rd.off0 {w : World} {g o o' : Nat} {l : List Value} (h : l = []) (_ : Rd w (some ⟨g, o, none⟩) l) : Rd w (some ⟨g, o', none⟩) l := by
  subst h
  intro j v hj
  simp at hj
theorem Rd.rdrop {w : World} {g o : Nat} {l : List Value} (h : Rd w (some ⟨g, o, none⟩) l) (k : Nat) : Rd w (some ⟨g, o + k, none⟩) (l.drop k) := by
  intro j v hj
  rw [List.getElem?_drop] at hj
  obtain ⟨g', o', e, hg, hc⟩ := h _ v hj
  simp only [Option.some.injEq, Addr.mk.injEq] at e
  obtain ⟨rfl, rfl, _⟩ := e
  exact ⟨g, o + k, rfl, hg, by rw [Nat.add_assoc]; exact hc⟩
theorem Rd.lies {w : World} {a : Option Addr} {l : List Value} (h : Rd w a l) (hl : 0 < l.length) : ∃ g o, a = some ⟨g, o, none⟩ := by
  obtain ⟨g, o, e, _⟩ := h 0 _ (List.getElem?_eq_getElem hl)
  exact ⟨g, o, e⟩
end Go.Proofs.YtoejpngdkcnnhaaGreat

namespace Go.Proofs.YtoejpngdkcnnhaaGreat
open Go.RowKit

theorem Tryz.info37 : (Tryz.prog.info? 37).map (fun i => (i.zero, i.size, i.bytes)) = some (some (.agg #[.int .i64 0, .int .i64 0]), 2, 16) := by kernel_rfl

/-- A parcel is answered, its Heads in new memory. -/
def PcR (w : World) (p : Pc) (e : Ending) (w' : World) : Prop := ∃ a cap, e = .returned (pcv p.s p.c (.slice a p.hs.length cap) p.x) ∧ p.hs.length ≤ cap ∧ Rd w' a (pc p.hs) ∧ Below w.heap.size w w'
/-- .. and they lie in a block that is new, and may be written. -/
def PcN (w : World) (p : Pc) (e : Ending) (w' : World) : Prop := ∃ a cap, e = .returned (pcv p.s p.c (.slice a p.hs.length cap) p.x) ∧ p.hs.length ≤ cap ∧ Rd w' a (pc p.hs) ∧ Below w.heap.size w w' ∧ ∀ x, a = some x → w.heap.size ≤ x.block ∧ ∃ cs t, Bk w' x.block cs t
theorem PcN.pcr {w : World} {p : Pc} {e : Ending} {w' : World} (h : PcN w p e w') : PcR w p e w' := by
  obtain ⟨a, cap, h1, h2, h3, h4, _⟩ := h
  exact ⟨a, cap, h1, h2, h3, h4⟩
theorem pc_take (l : List (Int × Int)) (k : Nat) (h : k < l.length) : pc (l.take k) ++ [.int .i64 (l.getD k (0, 0)).1, .int .i64 (l.getD k (0, 0)).2] = pc (l.take (k + 1)) := by
  have e : l.take (k + 1) = l.take k ++ [((l.getD k (0, 0)).1, (l.getD k (0, 0)).2)] := by
    rw [List.take_add_one, List.getElem?_eq_getElem h, List.getD_eq_getElem?_getD, List.getElem?_eq_getElem h]
    rfl
  rw [e, pc_snoc]

/-- Three blocks, one behind the other. -/
theorem three_blocks (w : World) (A B C : Array Value) (t u r : TypeId) :
    Hid (Bk (((w.alloc (.cells A t)).alloc (.cells B u)).alloc (.cells C r)) w.heap.size A t ∧ Bk (((w.alloc (.cells A t)).alloc (.cells B u)).alloc (.cells C r)) (w.heap.size + 1) B u ∧ Bk (((w.alloc (.cells A t)).alloc (.cells B u)).alloc (.cells C r)) (w.heap.size + 1 + 1) C r ∧
      Below w.heap.size w (((w.alloc (.cells A t)).alloc (.cells B u)).alloc (.cells C r)) ∧ w.heap.size + 3 ≤ (((w.alloc (.cells A t)).alloc (.cells B u)).alloc (.cells C r)).heap.size) := by
  have e1 : (w.alloc (.cells A t)).heap.size = w.heap.size + 1 := by simp
  have e2 : ((w.alloc (.cells A t)).alloc (.cells B u)).heap.size = w.heap.size + 1 + 1 := by simp
  refine ⟨((Bk.new w A t).alloc _).alloc _, ?_, ?_, (((Below.refl _ _).alloc (Nat.le_refl _) _).alloc (by simp) _).alloc (by simp; omega) _, by simp⟩
  · have := (Bk.new (w.alloc (.cells A t)) B u).alloc (.cells C r)
    rw [e1] at this
    exact this
  · have := Bk.new ((w.alloc (.cells A t)).alloc (.cells B u)) C r
    rw [e2] at this
    exact this

theorem two_blocks (w : World) (A B : Array Value) (t u : TypeId) :
    Hid (Bk ((w.alloc (.cells A t)).alloc (.cells B u)) w.heap.size A t ∧ Bk ((w.alloc (.cells A t)).alloc (.cells B u)) (w.heap.size + 1) B u ∧ Below w.heap.size w ((w.alloc (.cells A t)).alloc (.cells B u)) ∧ ((w.alloc (.cells A t)).alloc (.cells B u)).heap.size = w.heap.size + 1 + 1) := by
  have e1 : (w.alloc (.cells A t)).heap.size = w.heap.size + 1 := by simp
  refine ⟨(Bk.new w A t).alloc _, ?_, ((Below.refl _ _).alloc (Nat.le_refl _) _).alloc (by simp) _, by simp⟩
  have := Bk.new (w.alloc (.cells A t)) B u
  rw [e1] at this
  exact this

end Go.Proofs.YtoejpngdkcnnhaaGreat

namespace Go.Proofs.YtoejpngdkcnnhaaGreat
open Go.RowKit

/-- The first 64 bytes, and the first 12 Heads. -/
def gx (x : ByteArray) : ByteArray := if x.size ≤ 64 then x else x.extract 0 64

/-- A number within bounds, of any. -/
abbrev md (n m : Int) : Int := IntKind.i64.wrap ((IntKind.u64.wrap n).tmod m)
/-- A Head that may be, of any; how many at most. -/
def gh (h : Int × Int) : Int × Int := (md h.1 4096, md h.2 65536)
def gL (c : Bool) : Nat := if c = true then 6 else 1
def gH (c : Bool) (hs : List (Int × Int)) : List (Int × Int) := if hs.length = 0 then [(1, 0)] else (hs.map gh).take (gL c)
theorem gh_take (l : List (Int × Int)) (k : Nat) (h : k < l.length) : pc ((l.map gh).take k) ++ [.int .i64 (md (l.getD k (0, 0)).1 4096), .int .i64 (md (l.getD k (0, 0)).2 65536)] = pc ((l.map gh).take (k + 1)) := by
  have e : (l.map gh).getD k (0, 0) = gh (l.getD k (0, 0)) := by
    rw [List.getD_eq_getElem?_getD, List.getD_eq_getElem?_getD, List.getElem?_map, List.getElem?_eq_getElem h]
    rfl
  have := pc_take (l.map gh) k (by rw [List.length_map]; exact h)
  rw [e] at this
  exact this
set_option maxRecDepth 100000 in
set_option maxHeartbeats 16000000 in
theorem good_new (s : Int) (c : Bool) (a : Option Addr) (cap : Nat) (x : ByteArray) (hs : List (Int × Int)) (w : World) (hm : hs.length ≤ maxLen) (hx : x.size ≤ maxLen) (hr : Rd w a (pc hs)) :
    Calls Tryz.prog 9 #[pcv s c (.slice a hs.length cap) x] w (PcN w ⟨md s 4096, c, gH c hs, gx x⟩) := by
  obtain ⟨i0, ki, hz0, hz1, hz2⟩ := info_parts Tryz.info37
  have HR : Hid (Rd w a (pc hs)) := hr
  unfold maxLen at hm hx
  have ST : Hid (∀ k, k < hs.length → pc ((hs.map gh).take k) ++ [.int .i64 (md (hs.getD k (0, 0)).1 4096), .int .i64 (md (hs.getD k (0, 0)).2 65536)] = pc ((hs.map gh).take (k + 1))) := gh_take hs
  have EN : Hid (∀ k, k ≤ hs.length → k ≤ gL c → k = hs.length ∨ k = gL c → (hs.length = 0 → gH c hs = [(1, 0)]) ∧ (¬ hs.length = 0 → (hs.map gh).take k = gH c hs ∧ (gH c hs).length = k ∧ ¬ k = 0)) := show _ from fun k h1 h2 h3 => by
    refine ⟨fun h => by unfold gH; rw [if_pos h], fun h => ?_⟩
    have e : gH c hs = (hs.map gh).take (gL c) := by unfold gH; rw [if_neg h]
    have hg : 1 ≤ gL c := by unfold gL; split <;> omega
    rw [e, List.length_take, List.length_map]
    rcases h3 with rfl | rfl
    · refine ⟨?_, by omega, h⟩
      rw [List.take_of_length_le (by rw [List.length_map]; exact Nat.le_refl _), List.take_of_length_le (by rw [List.length_map]; exact h2)]
    · exact ⟨rfl, by omega, by omega⟩
  generalize gH c hs = GH at *
  unfold PcN
  simp only
  obtain ⟨X, hX⟩ : ∃ X, gx x = X := ⟨_, rfl⟩
  rw [hX]
  obtain ⟨n, hn⟩ : ∃ n, hs.length = n := ⟨_, rfl⟩
  have HN : Hid (hs.length = n) := hn
  rw [hn] at hm ST EN ⊢
  clear hr hn
  simp only [pcv, pcc] at *
  go_enter Tryz.func9, Tryz.ntmps9
  have B0 := two_blocks w #[.int .i64 s, .bool c, .slice a n cap, .string x] #[.int .i64 0, .bool false, .slice none 0 0, .string ByteArray.empty] 34 34
  go_upto_region 1 with fail
  go_cut [3] from 5 to 19 (fun vp wc => vp = .pointer (some ⟨w.heap.size + 1 + 1, 0, none⟩) ∧ Bk wc w.heap.size (pcc s c (.slice a n cap) x) 34 ∧ Bk wc (w.heap.size + 1) (pcc 0 false (.slice none 0 0) ByteArray.empty) 34 ∧ Bk wc (w.heap.size + 1 + 1) (pcc (md s 4096) c (.slice none 0 0) X) 34 ∧ Below w.heap.size w wc ∧ w.heap.size + 3 ≤ wc.heap.size)
  case first =>
    clear HR ST EN
    have S1 : ((w.alloc (.cells #[.int .i64 s, .bool c, .slice a n cap, .string x] 34)).alloc (.cells #[.int .i64 0, .bool false, .slice none 0 0, .string ByteArray.empty] 34)).drew.cell? ⟨w.heap.size, 0, none⟩ = some (.int .i64 s) ∧ ((w.alloc (.cells #[.int .i64 s, .bool c, .slice a n cap, .string x] 34)).alloc (.cells #[.int .i64 0, .bool false, .slice none 0 0, .string ByteArray.empty] 34)).drew.cell? ⟨w.heap.size, 1, none⟩ = some (.bool c) ∧ ((w.alloc (.cells #[.int .i64 s, .bool c, .slice a n cap, .string x] 34)).alloc (.cells #[.int .i64 0, .bool false, .slice none 0 0, .string ByteArray.empty] 34)).drew.cell? ⟨w.heap.size, 3, none⟩ = some (.string x) := ⟨B0.out.1.cell 0, B0.out.1.cell 1, B0.out.1.cell 3⟩
    have B3 := three_blocks w #[.int .i64 s, .bool c, .slice a n cap, .string x] #[.int .i64 0, .bool false, .slice none 0 0, .string ByteArray.empty] #[.int .i64 (md s 4096), .bool c, .slice none 0 0, .string X] 34 34 34
    clear B0
    by_cases hx64 : x.size ≤ 64
    · have hX2 : X = x := by rw [← hX]; unfold gx; rw [if_pos hx64]
      subst hX2
      have c1 : ¬ (64 : Int) < (X.size : Int) := by omega
      have c2 : (X.size : Int) ≤ 64 := by omega
      go_region_held3 (fun V => V.cell? ⟨w.heap.size, 0, none⟩ = some (.int .i64 s) ∧ V.cell? ⟨w.heap.size, 1, none⟩ = some (.bool c) ∧ V.cell? ⟨w.heap.size, 3, none⟩ = some (.string X)) (first | exact S1 | go_keep) (fail)
      all_goals
        go_wp2_with fail
        go_meet
        exact ⟨rfl, B3.out.1, B3.out.2.1, B3.out.2.2.1, B3.out.2.2.2.1.drew, B3.out.2.2.2.2⟩
    · have hX2 : X = x.extract 0 64 := by rw [← hX]; unfold gx; rw [if_neg hx64]
      have c1 : (64 : Int) < (x.size : Int) := by omega
      have c2 : ¬ (x.size : Int) ≤ 64 := by omega
      have c3 : (64 : Int) ≤ (x.size : Int) := by omega
      have c4 : 64 ≤ x.size := by omega
      subst hX2
      clear hX
      go_region_held3 (fun V => V.cell? ⟨w.heap.size, 0, none⟩ = some (.int .i64 s) ∧ V.cell? ⟨w.heap.size, 1, none⟩ = some (.bool c) ∧ V.cell? ⟨w.heap.size, 3, none⟩ = some (.string x)) (first | exact S1 | go_keep) (fail)
      all_goals
        go_wp2_with fail
        go_meet
        exact ⟨rfl, B3.out.1, B3.out.2.1, B3.out.2.2.1, B3.out.2.2.2.1.drew, B3.out.2.2.2.2⟩
  case rest =>
    obtain ⟨rfl, k0, k1, k2, k3, k4⟩ := hcut
    clear B0
    have K0 : Hid (Bk wc w.heap.size (pcc s c (.slice a n cap) x) 34) := k0
    have K1 : Hid (Bk wc (w.heap.size + 1) (pcc 0 false (.slice none 0 0) ByteArray.empty) 34) := k1
    have K2 : Hid (Bk wc (w.heap.size + 1 + 1) (pcc (md s 4096) c (.slice none 0 0) X) 34) := k2
    have K3 : Hid (Below w.heap.size w wc) := k3
    clear k0 k1 k2 k3
    go_wp2_with fail
    go_loopw [4] (fun i wr => ∃ (k : Nat) (v : Value), k ≤ n ∧ k ≤ gL c ∧ i = .int .i64 k ∧ Bk wr w.heap.size (pcc s c (.slice a n cap) x) 34 ∧ Bk wr (w.heap.size + 1) (pcc 0 false (.slice none 0 0) ByteArray.empty) 34 ∧ Bk wr (w.heap.size + 1 + 1) (pcc (md s 4096) c v X) 34 ∧ OwnK 37 2 wr (w.heap.size + 3) v k (pc ((hs.map gh).take k)) ∧ Below w.heap.size w wr ∧ w.heap.size + 3 ≤ wr.heap.size) (fun i _ => n - (RowKit.intOf i).toNat)
    case atStart => exact ⟨0, .slice none 0 0, Nat.zero_le _, Nat.zero_le _, rfl, K0.out, K1.out, K2.out, OwnK.nil _ _ _ _, K3.out, k4⟩
    case round =>
    obtain ⟨k, v, hk, hk12, rfl, h0, h1, h2, own, hb, hsz⟩ := hrel
    have HB : Hid (Below w.heap.size w wr) := hb
    have H0 : Hid (Bk wr w.heap.size (pcc s c (.slice a n cap) x) 34) := h0
    have H1 : Hid (Bk wr (w.heap.size + 1) (pcc 0 false (.slice none 0 0) ByteArray.empty) 34) := h1
    have H2 : Hid (Bk wr (w.heap.size + 1 + 1) (pcc (md s 4096) c v X) 34) := h2
    have HO : Hid (OwnK 37 2 wr (w.heap.size + 3) v k (pc ((hs.map gh).take k))) := own
    have c2 : wr.cell? ⟨w.heap.size, 2, none⟩ = some (.slice a n cap) := h0.cell 2
    have c1 : wr.cell? ⟨w.heap.size, 1, none⟩ = some (.bool c) := h0.cell 1
    clear h0 h1 h2 hb own K0 K1 K2 K3 k4
    have e2 : (0 : Int) ≤ (k : Int) := by omega
    cases c with
    | true =>
      have hk6' : k ≤ 6 := hk12
      by_cases hlt : k < n
      · have e1 : (k : Int) < (n : Int) := by omega
        by_cases hl12 : k < 6
        · have e3 : (k : Int) < 6 := by omega
          obtain ⟨g, o, rfl, hg, c3, c4⟩ := HR.out.pair (k := k) (by rw [HN.out]; exact hlt)
          have hst := ST.out k hlt
          obtain ⟨p, hp⟩ : ∃ p, (hs.getD k (0, 0)).1 = p := ⟨_, rfl⟩
          obtain ⟨q, hq⟩ : ∃ q, (hs.getD k (0, 0)).2 = q := ⟨_, rfl⟩
          rw [hp] at c3 hst
          rw [hq] at c4 hst
          clear hp hq
          have HST : Hid (pc ((hs.map gh).take k) ++ [.int .i64 (md p 4096), .int .i64 (md q 65536)] = pc ((hs.map gh).take (k + 1))) := hst
          have SS : ∀ V, Bk V w.heap.size (pcc s true (.slice (some ⟨g, o, none⟩) n cap) x) 34 → Below w.heap.size w V → V.cell? ⟨w.heap.size, 2, none⟩ = some (.slice (some ⟨g, o, none⟩) n cap) ∧ V.cell? ⟨g, o + k * 2, none⟩ = some (.int .i64 p) ∧ V.cell? ⟨g, o + k * 2 + 1, none⟩ = some (.int .i64 q) :=
            fun V h hb => ⟨h.cell 2, (hb.cell (p := ⟨g, o + k * 2, none⟩) hg).trans c3, (hb.cell (p := ⟨g, o + k * 2 + 1, none⟩) hg).trans c4⟩
          have S1 := SS wr.drew H0.out.drew HB.out.drew
          have A1 : Below wr.heap.size wr ((wr.alloc (.cells #[.int .i64 (md p 4096), .int .i64 (md q 65536)] 37)).drew) := ((Below.refl _ _).alloc (Nat.le_refl _) _).drew
          have S2 := SS ((wr.alloc (.cells #[.int .i64 (md p 4096), .int .i64 (md q 65536)] 37)).drew) (H0.out.next A1) (HB.out.trans (A1.mono HB.out.size))
          have O1 : wr.drew.cell? ⟨w.heap.size + 1 + 1, 2, none⟩ = some v := H2.out.cell 2
          have O2 : ((wr.alloc (.cells #[.int .i64 (md p 4096), .int .i64 (md q 65536)] 37)).drew).cell? ⟨w.heap.size + 1 + 1, 2, none⟩ = some v := (H2.out.next A1).cell 2
          have OW : OwnK 37 2 ((wr.alloc (.cells #[.int .i64 (md p 4096), .int .i64 (md q 65536)] 37)).drew) (w.heap.size + 3) v k (pc ((hs.map gh).take k)) := HO.out.below A1
          have NW : ∀ (j : Nat) (u : Value), ([.int .i64 (md p 4096), .int .i64 (md q 65536)] : List Value)[j]? = some u → ((wr.alloc (.cells #[.int .i64 (md p 4096), .int .i64 (md q 65536)] 37)).drew).cell? ⟨wr.heap.size, j, none⟩ = some u := fun j u hj => by
            have := cell_of (heap_alloc_new wr (.cells #[.int .i64 (md p 4096), .int .i64 (md q 65536)] 37)) j
            exact this.trans (by simpa using hj)
          have ON : ∀ u ∈ ([.int .i64 (md p 4096), .int .i64 (md q 65536)] : List Value), u.oneCell' = true := fun u hu => by
            simp at hu
            rcases hu with rfl | rfl <;> rfl
          have hk6 : k ≤ 1000000 := by omega
          have hbs : w.heap.size + 3 ≤ ((wr.alloc (.cells #[.int .i64 (md p 4096), .int .i64 (md q 65536)] 37)).drew).heap.size := Nat.le_trans hsz A1.size
          have F0 := H0.out.next A1
          have F1 := H1.out.next A1
          have F2 := H2.out.next A1
          have FB := HB.out.trans (A1.mono HB.out.size)
          have n0 : v.ownBlock ≠ some w.heap.size := OW.ne F0 (by decide)
          have n1 : v.ownBlock ≠ some (w.heap.size + 1) := OW.ne F1 (by decide)
          have n2 : v.ownBlock ≠ some (w.heap.size + 1 + 1) := OW.ne F2 (by decide)
          have nl : ∀ r, v.ownBlock = some r → w.heap.size + 3 ≤ r := fun r hr => (OW.lt hr).1
          have nl2 : ∀ r, v.ownBlock = some r → w.heap.size ≤ r := fun r hr => Nat.le_trans (by omega) (nl r hr)
          have hbs2 : w.heap.size ≤ w.heap.size + 1 + 1 := by omega
          have hne2 : w.heap.size ≠ w.heap.size + 1 + 1 := by omega
          have hne3 : w.heap.size + 1 ≠ w.heap.size + 1 + 1 := by omega
          clear c3 c4 hst A1 hg
          go_wp2_with fail
          refine wp_region_G (fun V : World => V.cell? ⟨w.heap.size, 2, none⟩ = some (.slice (some ⟨g, o, none⟩) n cap) ∧ V.cell? ⟨g, o + k * 2, none⟩ = some (.int .i64 p) ∧ V.cell? ⟨g, o + k * 2 + 1, none⟩ = some (.int .i64 q) ∧ V.cell? ⟨w.heap.size + 1 + 1, 2, none⟩ = some v) 24 (by kernel_rfl) ?_
          have S0 : (fun V : World => V.cell? ⟨w.heap.size, 2, none⟩ = some (.slice (some ⟨g, o, none⟩) n cap) ∧ V.cell? ⟨g, o + k * 2, none⟩ = some (.int .i64 p) ∧ V.cell? ⟨g, o + k * 2 + 1, none⟩ = some (.int .i64 q) ∧ V.cell? ⟨w.heap.size + 1 + 1, 2, none⟩ = some v) wr.drew := ⟨S1.1, S1.2.1, S1.2.2, O1⟩
          refine wpAnyG_take [23, 24] (some 39) (i := 0) (v := ?va0) rfl rfl (by kernel_rfl) (by kernel_rfl) (by kernel_rfl) (by kernel_rfl) (fun _ _ _ h => h) (Or.inl ⟨by rfl, ?ya0⟩) S0 ?ra0
          case ya0 => (intro V hSV; obtain ⟨d0, d1, d2, d3⟩ := hSV; go_simp; try with_reducible rfl)
          simp only [Act.put, List.setIfInBounds_toArray, List.set_cons_zero, List.set_cons_succ]
          refine wpAnyG_take [23, 24] (some 40) (i := 1) (v := ?va1) rfl rfl (by kernel_rfl) (by kernel_rfl) (by kernel_rfl) (by kernel_rfl) (fun _ _ _ h => h) (Or.inl ⟨by rfl, ?ya1⟩) S0 ?ra1
          case ya1 => (intro V hSV; obtain ⟨d0, d1, d2, d3⟩ := hSV; go_simp; try with_reducible rfl)
          simp only [Act.put, List.setIfInBounds_toArray, List.set_cons_zero, List.set_cons_succ]
          refine wpAnyG_take [23, 24] (some 41) (i := 2) (v := ?va2) rfl rfl (by kernel_rfl) (by kernel_rfl) (by kernel_rfl) (by kernel_rfl) (fun _ _ _ h => h) (Or.inl ⟨by rfl, ?ya2⟩) S0 ?ra2
          case ya2 => (intro V hSV; obtain ⟨d0, d1, d2, d3⟩ := hSV; go_simp; try with_reducible rfl)
          simp only [Act.put, List.setIfInBounds_toArray, List.set_cons_zero, List.set_cons_succ]
          refine wpAnyG_take [23, 24] (some 42) (i := 3) (v := ?va3) rfl rfl (by kernel_rfl) (by kernel_rfl) (by kernel_rfl) (by kernel_rfl) (fun _ _ _ h => h) (Or.inl ⟨by rfl, ?ya3⟩) S0 ?ra3
          case ya3 => (intro V hSV; obtain ⟨d0, d1, d2, d3⟩ := hSV; go_simp; try with_reducible rfl)
          simp only [Act.put, List.setIfInBounds_toArray, List.set_cons_zero, List.set_cons_succ]
          refine wpAnyG_take [23, 24] (some 43) (i := 4) (v := ?va4) rfl rfl (by kernel_rfl) (by kernel_rfl) (by kernel_rfl) (by kernel_rfl) (fun _ _ _ h => h) (Or.inl ⟨by rfl, ?ya4⟩) S0 ?ra4
          case ya4 => (intro V hSV; obtain ⟨d0, d1, d2, d3⟩ := hSV; go_simp; try with_reducible rfl)
          simp only [Act.put, List.setIfInBounds_toArray, List.set_cons_zero, List.set_cons_succ]
          refine wpAnyG_take [23, 24] (some 44) (i := 5) (v := ?va5) rfl rfl (by kernel_rfl) (by kernel_rfl) (by kernel_rfl) (by kernel_rfl) (fun _ _ _ h => h) (Or.inl ⟨by rfl, ?ya5⟩) S0 ?ra5
          case ya5 => (intro V hSV; obtain ⟨d0, d1, d2, d3⟩ := hSV; go_simp; try with_reducible rfl)
          simp only [Act.put, List.setIfInBounds_toArray, List.set_cons_zero, List.set_cons_succ]
          refine wpAnyG_take [23, 24] (some 45) (i := 6) (v := ?va6) rfl rfl (by kernel_rfl) (by kernel_rfl) (by kernel_rfl) (by kernel_rfl) (fun _ _ _ h => h) (Or.inl ⟨by rfl, ?ya6⟩) S0 ?ra6
          case ya6 => (intro V hSV; obtain ⟨d0, d1, d2, d3⟩ := hSV; go_simp; try with_reducible rfl)
          simp only [Act.put, List.setIfInBounds_toArray, List.set_cons_zero, List.set_cons_succ]
          refine wpAnyG_take [23, 24] (some 46) (i := 7) (v := ?va7) rfl rfl (by kernel_rfl) (by kernel_rfl) (by kernel_rfl) (by kernel_rfl) (fun _ _ _ h => h) (Or.inl ⟨by rfl, ?ya7⟩) S0 ?ra7
          case ya7 => (intro V hSV; obtain ⟨d0, d1, d2, d3⟩ := hSV; go_simp; try with_reducible rfl)
          simp only [Act.put, List.setIfInBounds_toArray, List.set_cons_zero, List.set_cons_succ]
          refine wpAnyG_take [23, 24] (some 47) (i := 8) (v := ?va8) rfl rfl (by kernel_rfl) (by kernel_rfl) (by kernel_rfl) (by kernel_rfl) (fun _ _ _ h => h) (Or.inl ⟨by rfl, ?ya8⟩) S0 ?ra8
          case ya8 => (intro V hSV; obtain ⟨d0, d1, d2, d3⟩ := hSV; go_simp; try with_reducible rfl)
          simp only [Act.put, List.setIfInBounds_toArray, List.set_cons_zero, List.set_cons_succ]
          refine wpAnyG_take [23, 24] (some 48) (i := 9) (v := ?va9) rfl rfl (by kernel_rfl) (by kernel_rfl) (by kernel_rfl) (by kernel_rfl) (fun _ _ _ h => h) (Or.inl ⟨by rfl, ?ya9⟩) S0 ?ra9
          case ya9 => (intro V hSV; obtain ⟨d0, d1, d2, d3⟩ := hSV; go_simp; try with_reducible rfl)
          simp only [Act.put, List.setIfInBounds_toArray, List.set_cons_zero, List.set_cons_succ]
          refine wpAnyG_take [23, 24] (some 49) (i := 10) (v := ?va10) rfl rfl (by kernel_rfl) (by kernel_rfl) (by kernel_rfl) (by kernel_rfl) (fun _ _ _ h => h) (Or.inl ⟨by rfl, ?ya10⟩) S0 ?ra10
          case ya10 => (intro V hSV; obtain ⟨d0, d1, d2, d3⟩ := hSV; go_simp; try with_reducible rfl)
          simp only [Act.put, List.setIfInBounds_toArray, List.set_cons_zero, List.set_cons_succ]
          refine wpAnyG_take [23, 24] (some 50) (i := 11) (v := ?va11) rfl rfl (by kernel_rfl) (by kernel_rfl) (by kernel_rfl) (by kernel_rfl) (fun _ _ _ h => h) (Or.inl ⟨by rfl, ?ya11⟩) S0 ?ra11
          case ya11 => (intro V hSV; obtain ⟨d0, d1, d2, d3⟩ := hSV; go_simp; try with_reducible rfl)
          simp only [Act.put, List.setIfInBounds_toArray, List.set_cons_zero, List.set_cons_succ]
          refine wpAnyG_take [23, 24] (some 51) (i := 12) (v := ?va12) rfl rfl (by kernel_rfl) (by kernel_rfl) (by kernel_rfl) (by kernel_rfl) (fun _ _ _ h => h) (Or.inl ⟨by rfl, ?ya12⟩) S0 ?ra12
          case ya12 => (intro V hSV; obtain ⟨d0, d1, d2, d3⟩ := hSV; go_simp; try with_reducible rfl)
          simp only [Act.put, List.setIfInBounds_toArray, List.set_cons_zero, List.set_cons_succ]
          refine wpAnyG_take [23, 24] (some 52) (i := 13) (v := ?va13) rfl rfl (by kernel_rfl) (by kernel_rfl) (by kernel_rfl) (by kernel_rfl) (fun _ _ _ h => h) (Or.inl ⟨by rfl, ?ya13⟩) S0 ?ra13
          case ya13 => (intro V hSV; obtain ⟨d0, d1, d2, d3⟩ := hSV; go_simp; try with_reducible rfl)
          simp only [Act.put, List.setIfInBounds_toArray, List.set_cons_zero, List.set_cons_succ]
          refine wpAnyG_take [23, 24] (some 53) (i := 14) (v := ?va14) rfl rfl (by kernel_rfl) (by kernel_rfl) (by kernel_rfl) (by kernel_rfl) (fun _ _ _ h => h) (Or.inl ⟨by rfl, ?ya14⟩) S0 ?ra14
          case ya14 => (intro V hSV; obtain ⟨d0, d1, d2, d3⟩ := hSV; go_simp; try with_reducible rfl)
          simp only [Act.put, List.setIfInBounds_toArray, List.set_cons_zero, List.set_cons_succ]
          refine wpAnyG_take [23, 24] (some 54) (i := 15) (v := ?va15) rfl rfl (by kernel_rfl) (by kernel_rfl) (by kernel_rfl) (by kernel_rfl) (fun _ _ _ h => h) (Or.inl ⟨by rfl, ?ya15⟩) S0 ?ra15
          case ya15 => (intro V hSV; obtain ⟨d0, d1, d2, d3⟩ := hSV; go_simp; try with_reducible rfl)
          simp only [Act.put, List.setIfInBounds_toArray, List.set_cons_zero, List.set_cons_succ]
          refine wpAnyG_take [23, 24] (some 55) (i := 16) (v := ?va16) rfl rfl (by kernel_rfl) (by kernel_rfl) (by kernel_rfl) (by kernel_rfl) (fun _ _ _ h => h) (Or.inl ⟨by rfl, ?ya16⟩) S0 ?ra16
          case ya16 => (intro V hSV; obtain ⟨d0, d1, d2, d3⟩ := hSV; go_simp; try with_reducible rfl)
          simp only [Act.put, List.setIfInBounds_toArray, List.set_cons_zero, List.set_cons_succ]
          refine wpAnyG_take [23, 24] (some 56) (i := 17) (v := ?va17) rfl rfl (by kernel_rfl) (by kernel_rfl) (by kernel_rfl) (by kernel_rfl) (fun _ _ _ h => h) (Or.inl ⟨by rfl, ?ya17⟩) S0 ?ra17
          case ya17 => (intro V hSV; obtain ⟨d0, d1, d2, d3⟩ := hSV; go_simp; try with_reducible rfl)
          simp only [Act.put, List.setIfInBounds_toArray, List.set_cons_zero, List.set_cons_succ]
          refine wpAnyG_take [23, 24] (some 57) (i := 18) (v := ?va18) rfl rfl (by kernel_rfl) (by kernel_rfl) (by kernel_rfl) (by kernel_rfl) (fun _ _ _ h => h) (Or.inl ⟨by rfl, ?ya18⟩) S0 ?ra18
          case ya18 => (intro V hSV; obtain ⟨d0, d1, d2, d3⟩ := hSV; go_simp; try with_reducible rfl)
          simp only [Act.put, List.setIfInBounds_toArray, List.set_cons_zero, List.set_cons_succ]
          refine wpAnyG_take [23, 24] (some 58) (i := 19) (v := ?va19) rfl rfl (by kernel_rfl) (by kernel_rfl) (by kernel_rfl) (by kernel_rfl) (fun _ _ _ h => h) (Or.inl ⟨by rfl, ?ya19⟩) S0 ?ra19
          case ya19 => (intro V hSV; obtain ⟨d0, d1, d2, d3⟩ := hSV; go_simp; try with_reducible rfl)
          simp only [Act.put, List.setIfInBounds_toArray, List.set_cons_zero, List.set_cons_succ]
          refine wpAnyG_take [23, 24] (some 59) (i := 20) (v := ?va20) rfl rfl (by kernel_rfl) (by kernel_rfl) (by kernel_rfl) (by kernel_rfl) (fun _ _ _ h => h) (Or.inl ⟨by rfl, ?ya20⟩) S0 ?ra20
          case ya20 => (intro V hSV; obtain ⟨d0, d1, d2, d3⟩ := hSV; go_simp; try with_reducible rfl)
          simp only [Act.put, List.setIfInBounds_toArray, List.set_cons_zero, List.set_cons_succ]
          refine wpAnyG_one (i := 21) (by kernel_rfl) rfl (fun K hK => ?_)
          go_simp
          refine hK.out _ _ (Or.inr ⟨S2.1, S2.2.1, S2.2.2, O2⟩) ?_
          clear hK K
          refine wpAnyG_one (i := 22) (by kernel_rfl) rfl (fun K hK => ?_)
          refine step_app_k (by rfl) _ _ 32 37 i0 (.agg #[.int .i64 0, .int .i64 0]) 2 16 (by rfl) Tryz.underlying32 ki hz0 hz1 hz2 rfl (by decide) (by decide) (w.heap.size + 3) _ v k (pc ((hs.map gh).take k)) [.int .i64 (md p 4096), .int .i64 (md q 65536)] wr.heap.size (by rfl) OW (by rfl) rfl NW ON hk6 hbs ?_
          intro v1' wb ow gw
          obtain ⟨ra, za, rfl, -, -, -⟩ := ow.rd (by decide)
          have G0 := F0.kept gw n0
          have G1 := F1.kept gw n1
          have G2 := F2.kept gw n2
          have GB := Below.grown FB gw (Nat.le_of_lt F0.lt) nl2
          have GS := Nat.le_trans hbs gw.size
          have C3 := G2.cell 2
          have Z3 := G2.free 2
          have S3 := SS wb G0 GB
          have S4 : (fun V : World => V.cell? ⟨w.heap.size, 2, none⟩ = some (.slice (some ⟨g, o, none⟩) n cap) ∧ V.cell? ⟨g, o + k * 2, none⟩ = some (.int .i64 p) ∧ V.cell? ⟨g, o + k * 2 + 1, none⟩ = some (.int .i64 q) ∧ V.cell? ⟨w.heap.size + 1 + 1, 2, none⟩ = some v) wb := ⟨S3.1, S3.2.1, S3.2.2, C3⟩
          refine hK.out _ _ (Or.inr S4) ?_
          clear hK K
          simp only [Act.put, List.setIfInBounds_toArray]
          refine wpAnyG_take [24] (some 62) (i := 23) (v := ?va23) rfl rfl (by kernel_rfl) (by kernel_rfl) (by kernel_rfl) (by kernel_rfl) (fun _ _ _ h => h) (Or.inl ⟨by rfl, ?ya23⟩) S4 ?ra23
          case ya23 => (intro V hSV; obtain ⟨d0, d1, d2, d3⟩ := hSV; go_simp; try with_reducible rfl)
          simp only [Act.put]
          refine wpAnyG_one (i := 24) (by kernel_rfl) rfl (fun K hK => ?_)
          go_simp
          refine hK.out _ _ (Or.inl (by kernel_rfl)) ?_
          clear hK K
          refine wpAnyG_done (by kernel_rfl) ?_ _
          have X0 : Hid (Bk (wb.setCell ⟨w.heap.size + 1 + 1, 2, none⟩ (.slice ra (k + 1) za)) w.heap.size (pcc s true (.slice (some ⟨g, o, none⟩) n cap) x) 34) := G0.far hne2
          have X1 : Hid (Bk (wb.setCell ⟨w.heap.size + 1 + 1, 2, none⟩ (.slice ra (k + 1) za)) (w.heap.size + 1) (pcc 0 false (.slice none 0 0) ByteArray.empty) 34) := G1.far hne3
          have X2 : Hid (Bk (wb.setCell ⟨w.heap.size + 1 + 1, 2, none⟩ (.slice ra (k + 1) za)) (w.heap.size + 1 + 1) (pcc (md s 4096) true (.slice ra (k + 1) za) X) 34) := G2.two _
          have XB : Hid (Below w.heap.size w (wb.setCell ⟨w.heap.size + 1 + 1, 2, none⟩ (.slice ra (k + 1) za))) := GB.setCell hbs2 _
          have XS : Hid (w.heap.size + 3 ≤ (wb.setCell ⟨w.heap.size + 1 + 1, 2, none⟩ (.slice ra (k + 1) za)).heap.size) := by unfold Hid; simpa using GS
          have XO : Hid (OwnK 37 2 (wb.setCell ⟨w.heap.size + 1 + 1, 2, none⟩ (.slice ra (k + 1) za)) (w.heap.size + 3) (.slice ra (k + 1) za) (k + 1) (pc ((hs.map gh).take (k + 1)))) := by
            rw [HST.out] at ow
            exact ow.far (by omega)
          clear G0 G1 G2 GB GS C3 Z3 S3 S4 ow gw S1 S2 O1 O2 OW NW ON F0 F1 F2 FB n0 n1 n2 nl nl2 SS S0 HB H0 H1 H2 HO c2
          go_wp2
          go_roundw
          case rel => exact ⟨k + 1, .slice ra (k + 1) za, by omega, by simp [gL]; omega, by go_num, X0.out, X1.out, X2.out, XO.out, XB.out, XS.out⟩
          case measure => simp [RowKit.intOf]; omega
        · have e3 : ¬ (k : Int) < 6 := by omega
          have D0 := H2.out.cell 0
          have D1 := H2.out.cell 1
          have D2 := H2.out.cell 2
          have D3 := H2.out.cell 3
          have U2 := H2.out.free 2
          have Z0 := H1.out.free 0
          have Z1 := H1.out.free 1
          have Z2 := H1.out.free 2
          have Z3 := H1.out.free 3
          have Y0 := H1.out.cell 0
          have Y1 := H1.out.cell 1
          have Y2 := H1.out.cell 2
          have Y3 := H1.out.cell 3
          simp at D0 D1 D2 D3 Y0 Y1 Y2 Y3
          have hz : w.heap.size + 1 < wr.heap.size := by omega
          have hz3 : w.heap.size + 1 + 1 < wr.heap.size := by omega
          by_cases hn0 : n = 0
          · omega
          · obtain ⟨E1, E2, E3⟩ := (EN.out k hk hk12 (by first | omega | (right; simp [gL]; omega))).2 hn0
            have f3 : ¬ (k : Int) = 0 := by omega
            obtain ⟨ra, za, rfl, hcz, _, rr⟩ := HO.out.rd (by decide)
            clear rr
            go_wp2
            refine bodyPost_ret (v := pcv (md s 4096) true (.slice ra k za) X) (by simp [results, Tryz.results9, go_sem, Y0, Y1, Y2, Y3]) rfl ⟨ra, za, by first | rfl | rw [E2], by first | exact hcz | (rw [E2]; exact hcz), ?_, below_four HB.out (Nat.le_succ _) _ _ _ _, ?_⟩
            rotate_left
            · rintro y rfl
              have h9 := HO.out
              rcases h9.2 with ⟨h8, _⟩ | ⟨g9, c9, u9, h8, h7, h6, _⟩
              · simp at h8
              · simp only [Value.slice.injEq, Option.some.injEq] at h8
                rw [h8.1]
                exact ⟨by show w.heap.size ≤ g9; omega, u9, _, ((((show Bk _ g9 u9 _ from h6).far (by omega)).far (by omega)).far (by omega)).far (by omega)⟩
            have own : OwnK 37 2 _ (w.heap.size + 3) (.slice ra k za) k (pc ((hs.map gh).take k)) := (((HO.out.far (b := w.heap.size + 1) (j := 0) (x := .int .i64 (md s 4096)) (by omega)).far (b := w.heap.size + 1) (j := 1) (x := .bool true) (by omega)).far (b := w.heap.size + 1) (j := 2) (x := .slice ra k za) (by omega)).far (b := w.heap.size + 1) (j := 3) (x := .string X) (by omega)
            obtain ⟨a', c', e', _, _, rd⟩ := own.rd (by decide)
            simp only [Value.slice.injEq] at e'
            obtain ⟨rfl, _, _⟩ := e'
            rw [E1] at rd
            exact rd
      · have e1 : ¬ (k : Int) < (n : Int) := by omega
        have D0 := H2.out.cell 0
        have D1 := H2.out.cell 1
        have D2 := H2.out.cell 2
        have D3 := H2.out.cell 3
        have U2 := H2.out.free 2
        have Z0 := H1.out.free 0
        have Z1 := H1.out.free 1
        have Z2 := H1.out.free 2
        have Z3 := H1.out.free 3
        have Y0 := H1.out.cell 0
        have Y1 := H1.out.cell 1
        have Y2 := H1.out.cell 2
        have Y3 := H1.out.cell 3
        simp at D0 D1 D2 D3 Y0 Y1 Y2 Y3
        have hz : w.heap.size + 1 < wr.heap.size := by omega
        have hz3 : w.heap.size + 1 + 1 < wr.heap.size := by omega
        by_cases hn0 : n = 0
        · have hk0 : k = 0 := by omega
          have f3 : (k : Int) = 0 := by omega
          have eG : GH = [(1, 0)] := (EN.out k hk hk12 (by left; omega)).1 hn0
          subst eG
          obtain ⟨ra, za, rfl, _, _, rr⟩ := HO.out.rd (by decide)
          clear rr
          have hz4 : ¬ wr.heap.size = w.heap.size + 1 := by omega
          have hz5 : ¬ wr.heap.size = w.heap.size + 1 + 1 := by omega
          have hz6 : ¬ w.heap.size + 1 = w.heap.size + 1 + 1 := by omega
          have hz7 : ¬ w.heap.size + 1 + 1 = w.heap.size + 1 := by omega
          have eS : (wr.setCell ⟨w.heap.size + 1 + 1, 2, none⟩ (.slice (some ⟨wr.heap.size, 0, none⟩) 1 1)).heap.size = wr.heap.size := by simp
          have XB : Hid (Below w.heap.size w ((wr.setCell ⟨w.heap.size + 1 + 1, 2, none⟩ (.slice (some ⟨wr.heap.size, 0, none⟩) 1 1)).alloc (.cells #[.int .i64 1, .int .i64 0] 37))) := (HB.out.setCell (by simp; omega) _).alloc (by simp; omega) _
          have XN : Hid (Bk ((wr.setCell ⟨w.heap.size + 1 + 1, 2, none⟩ (.slice (some ⟨wr.heap.size, 0, none⟩) 1 1)).alloc (.cells #[.int .i64 1, .int .i64 0] 37)) wr.heap.size #[.int .i64 1, .int .i64 0] 37) := by
            have := Bk.new (wr.setCell ⟨w.heap.size + 1 + 1, 2, none⟩ (.slice (some ⟨wr.heap.size, 0, none⟩) 1 1)) #[.int .i64 1, .int .i64 0] 37
            rw [eS] at this
            exact this
          have X1 : Bk ((wr.setCell ⟨w.heap.size + 1 + 1, 2, none⟩ (.slice (some ⟨wr.heap.size, 0, none⟩) 1 1)).alloc (.cells #[.int .i64 1, .int .i64 0] 37)) (w.heap.size + 1) (pcc 0 false (.slice none 0 0) ByteArray.empty) 34 := (H1.out.far hz6).alloc _
          have X2 : Bk ((wr.setCell ⟨w.heap.size + 1 + 1, 2, none⟩ (.slice (some ⟨wr.heap.size, 0, none⟩) 1 1)).alloc (.cells #[.int .i64 1, .int .i64 0] 37)) (w.heap.size + 1 + 1) (pcc (md s 4096) true (.slice (some ⟨wr.heap.size, 0, none⟩) 1 1) X) 34 := (H2.out.two _).alloc _
          have hz8 : w.heap.size + 1 < ((wr.setCell ⟨w.heap.size + 1 + 1, 2, none⟩ (.slice (some ⟨wr.heap.size, 0, none⟩) 1 1)).alloc (.cells #[.int .i64 1, .int .i64 0] 37)).heap.size := X1.lt
          have hz9 : w.heap.size + 1 + 1 < ((wr.setCell ⟨w.heap.size + 1 + 1, 2, none⟩ (.slice (some ⟨wr.heap.size, 0, none⟩) 1 1)).alloc (.cells #[.int .i64 1, .int .i64 0] 37)).heap.size := X2.lt
          go_upto_region 8 with fail
          clear eS
          generalize (wr.setCell ⟨w.heap.size + 1 + 1, 2, none⟩ (.slice (some ⟨wr.heap.size, 0, none⟩) 1 1)).alloc (.cells #[.int .i64 1, .int .i64 0] 37) = wf at *
          clear Z0 Z1 Z2 Z3 Y0 Y1 Y2 Y3 D0 D1 D2 D3
          have D0 := X2.cell 0
          have D1 := X2.cell 1
          have D2 := X2.cell 2
          have D3 := X2.cell 3
          have Z0 := X1.free 0
          have Z1 := X1.free 1
          have Z2 := X1.free 2
          have Z3 := X1.free 3
          have Y0 := X1.cell 0
          have Y1 := X1.cell 1
          have Y2 := X1.cell 2
          have Y3 := X1.cell 3
          clear X1 X2
          simp at D0 D1 D2 D3 Y0 Y1 Y2 Y3
          go_wp2
          have nw := (((XN.out.far (k := w.heap.size + 1) (j := 0) (x := .int .i64 (md s 4096)) hz4).far (k := w.heap.size + 1) (j := 1) (x := .bool true) hz4).far (k := w.heap.size + 1) (j := 2) (x := .slice (some ⟨wr.heap.size, 0, none⟩) 1 1) hz4).far (k := w.heap.size + 1) (j := 3) (x := .string X) hz4
          refine bodyPost_ret (v := pcv (md s 4096) true (.slice (some ⟨wr.heap.size, 0, none⟩) 1 1) X) (by simp [results, Tryz.results9, go_sem, Y0, Y1, Y2, Y3]) rfl ⟨some ⟨wr.heap.size, 0, none⟩, 1, rfl, Nat.le_refl _, ?_, below_four XB.out (Nat.le_succ _) _ _ _ _, fun y hy => by have h9 := HB.out.size; cases hy; exact ⟨h9, _, _, nw⟩⟩
          intro j u hj
          refine ⟨wr.heap.size, 0, rfl, nw.lt, ?_⟩
          rw [Nat.zero_add, nw.cell]
          simpa [pc] using hj
        · obtain ⟨E1, E2, E3⟩ := (EN.out k hk hk12 (by first | omega | (right; simp [gL]; omega))).2 hn0
          have f3 : ¬ (k : Int) = 0 := by omega
          obtain ⟨ra, za, rfl, hcz, _, rr⟩ := HO.out.rd (by decide)
          clear rr
          go_wp2
          refine bodyPost_ret (v := pcv (md s 4096) true (.slice ra k za) X) (by simp [results, Tryz.results9, go_sem, Y0, Y1, Y2, Y3]) rfl ⟨ra, za, by first | rfl | rw [E2], by first | exact hcz | (rw [E2]; exact hcz), ?_, below_four HB.out (Nat.le_succ _) _ _ _ _, ?_⟩
          rotate_left
          · rintro y rfl
            have h9 := HO.out
            rcases h9.2 with ⟨h8, _⟩ | ⟨g9, c9, u9, h8, h7, h6, _⟩
            · simp at h8
            · simp only [Value.slice.injEq, Option.some.injEq] at h8
              rw [h8.1]
              exact ⟨by show w.heap.size ≤ g9; omega, u9, _, ((((show Bk _ g9 u9 _ from h6).far (by omega)).far (by omega)).far (by omega)).far (by omega)⟩
          have own : OwnK 37 2 _ (w.heap.size + 3) (.slice ra k za) k (pc ((hs.map gh).take k)) := (((HO.out.far (b := w.heap.size + 1) (j := 0) (x := .int .i64 (md s 4096)) (by omega)).far (b := w.heap.size + 1) (j := 1) (x := .bool true) (by omega)).far (b := w.heap.size + 1) (j := 2) (x := .slice ra k za) (by omega)).far (b := w.heap.size + 1) (j := 3) (x := .string X) (by omega)
          obtain ⟨a', c', e', _, _, rd⟩ := own.rd (by decide)
          simp only [Value.slice.injEq] at e'
          obtain ⟨rfl, _, _⟩ := e'
          rw [E1] at rd
          exact rd
    | false =>
      have hk6' : k ≤ 1 := hk12
      have e3 : (k : Int) < 6 := by omega
      by_cases hlt : k < n
      · have e1 : (k : Int) < (n : Int) := by omega
        by_cases hl12 : k < 1
        · have e4 : (k : Int) < 1 := by omega
          obtain ⟨g, o, rfl, hg, c3, c4⟩ := HR.out.pair (k := k) (by rw [HN.out]; exact hlt)
          have hst := ST.out k hlt
          obtain ⟨p, hp⟩ : ∃ p, (hs.getD k (0, 0)).1 = p := ⟨_, rfl⟩
          obtain ⟨q, hq⟩ : ∃ q, (hs.getD k (0, 0)).2 = q := ⟨_, rfl⟩
          rw [hp] at c3 hst
          rw [hq] at c4 hst
          clear hp hq
          have HST : Hid (pc ((hs.map gh).take k) ++ [.int .i64 (md p 4096), .int .i64 (md q 65536)] = pc ((hs.map gh).take (k + 1))) := hst
          have SS : ∀ V, Bk V w.heap.size (pcc s false (.slice (some ⟨g, o, none⟩) n cap) x) 34 → Below w.heap.size w V → V.cell? ⟨w.heap.size, 2, none⟩ = some (.slice (some ⟨g, o, none⟩) n cap) ∧ V.cell? ⟨g, o + k * 2, none⟩ = some (.int .i64 p) ∧ V.cell? ⟨g, o + k * 2 + 1, none⟩ = some (.int .i64 q) :=
            fun V h hb => ⟨h.cell 2, (hb.cell (p := ⟨g, o + k * 2, none⟩) hg).trans c3, (hb.cell (p := ⟨g, o + k * 2 + 1, none⟩) hg).trans c4⟩
          have S1 := SS wr.drew H0.out.drew HB.out.drew
          have A1 : Below wr.heap.size wr ((wr.alloc (.cells #[.int .i64 (md p 4096), .int .i64 (md q 65536)] 37)).drew) := ((Below.refl _ _).alloc (Nat.le_refl _) _).drew
          have S2 := SS ((wr.alloc (.cells #[.int .i64 (md p 4096), .int .i64 (md q 65536)] 37)).drew) (H0.out.next A1) (HB.out.trans (A1.mono HB.out.size))
          have O1 : wr.drew.cell? ⟨w.heap.size + 1 + 1, 2, none⟩ = some v := H2.out.cell 2
          have O2 : ((wr.alloc (.cells #[.int .i64 (md p 4096), .int .i64 (md q 65536)] 37)).drew).cell? ⟨w.heap.size + 1 + 1, 2, none⟩ = some v := (H2.out.next A1).cell 2
          have OW : OwnK 37 2 ((wr.alloc (.cells #[.int .i64 (md p 4096), .int .i64 (md q 65536)] 37)).drew) (w.heap.size + 3) v k (pc ((hs.map gh).take k)) := HO.out.below A1
          have NW : ∀ (j : Nat) (u : Value), ([.int .i64 (md p 4096), .int .i64 (md q 65536)] : List Value)[j]? = some u → ((wr.alloc (.cells #[.int .i64 (md p 4096), .int .i64 (md q 65536)] 37)).drew).cell? ⟨wr.heap.size, j, none⟩ = some u := fun j u hj => by
            have := cell_of (heap_alloc_new wr (.cells #[.int .i64 (md p 4096), .int .i64 (md q 65536)] 37)) j
            exact this.trans (by simpa using hj)
          have ON : ∀ u ∈ ([.int .i64 (md p 4096), .int .i64 (md q 65536)] : List Value), u.oneCell' = true := fun u hu => by
            simp at hu
            rcases hu with rfl | rfl <;> rfl
          have hk6 : k ≤ 1000000 := by omega
          have hbs : w.heap.size + 3 ≤ ((wr.alloc (.cells #[.int .i64 (md p 4096), .int .i64 (md q 65536)] 37)).drew).heap.size := Nat.le_trans hsz A1.size
          have F0 := H0.out.next A1
          have F1 := H1.out.next A1
          have F2 := H2.out.next A1
          have FB := HB.out.trans (A1.mono HB.out.size)
          have n0 : v.ownBlock ≠ some w.heap.size := OW.ne F0 (by decide)
          have n1 : v.ownBlock ≠ some (w.heap.size + 1) := OW.ne F1 (by decide)
          have n2 : v.ownBlock ≠ some (w.heap.size + 1 + 1) := OW.ne F2 (by decide)
          have nl : ∀ r, v.ownBlock = some r → w.heap.size + 3 ≤ r := fun r hr => (OW.lt hr).1
          have nl2 : ∀ r, v.ownBlock = some r → w.heap.size ≤ r := fun r hr => Nat.le_trans (by omega) (nl r hr)
          have hbs2 : w.heap.size ≤ w.heap.size + 1 + 1 := by omega
          have hne2 : w.heap.size ≠ w.heap.size + 1 + 1 := by omega
          have hne3 : w.heap.size + 1 ≠ w.heap.size + 1 + 1 := by omega
          clear c3 c4 hst A1 hg
          go_wp2_with fail
          refine wp_region_G (fun V : World => V.cell? ⟨w.heap.size, 2, none⟩ = some (.slice (some ⟨g, o, none⟩) n cap) ∧ V.cell? ⟨g, o + k * 2, none⟩ = some (.int .i64 p) ∧ V.cell? ⟨g, o + k * 2 + 1, none⟩ = some (.int .i64 q) ∧ V.cell? ⟨w.heap.size + 1 + 1, 2, none⟩ = some v) 24 (by kernel_rfl) ?_
          have S0 : (fun V : World => V.cell? ⟨w.heap.size, 2, none⟩ = some (.slice (some ⟨g, o, none⟩) n cap) ∧ V.cell? ⟨g, o + k * 2, none⟩ = some (.int .i64 p) ∧ V.cell? ⟨g, o + k * 2 + 1, none⟩ = some (.int .i64 q) ∧ V.cell? ⟨w.heap.size + 1 + 1, 2, none⟩ = some v) wr.drew := ⟨S1.1, S1.2.1, S1.2.2, O1⟩
          refine wpAnyG_take [23, 24] (some 39) (i := 0) (v := ?vb0) rfl rfl (by kernel_rfl) (by kernel_rfl) (by kernel_rfl) (by kernel_rfl) (fun _ _ _ h => h) (Or.inl ⟨by rfl, ?yb0⟩) S0 ?rb0
          case yb0 => (intro V hSV; obtain ⟨d0, d1, d2, d3⟩ := hSV; go_simp; try with_reducible rfl)
          simp only [Act.put, List.setIfInBounds_toArray, List.set_cons_zero, List.set_cons_succ]
          refine wpAnyG_take [23, 24] (some 40) (i := 1) (v := ?vb1) rfl rfl (by kernel_rfl) (by kernel_rfl) (by kernel_rfl) (by kernel_rfl) (fun _ _ _ h => h) (Or.inl ⟨by rfl, ?yb1⟩) S0 ?rb1
          case yb1 => (intro V hSV; obtain ⟨d0, d1, d2, d3⟩ := hSV; go_simp; try with_reducible rfl)
          simp only [Act.put, List.setIfInBounds_toArray, List.set_cons_zero, List.set_cons_succ]
          refine wpAnyG_take [23, 24] (some 41) (i := 2) (v := ?vb2) rfl rfl (by kernel_rfl) (by kernel_rfl) (by kernel_rfl) (by kernel_rfl) (fun _ _ _ h => h) (Or.inl ⟨by rfl, ?yb2⟩) S0 ?rb2
          case yb2 => (intro V hSV; obtain ⟨d0, d1, d2, d3⟩ := hSV; go_simp; try with_reducible rfl)
          simp only [Act.put, List.setIfInBounds_toArray, List.set_cons_zero, List.set_cons_succ]
          refine wpAnyG_take [23, 24] (some 42) (i := 3) (v := ?vb3) rfl rfl (by kernel_rfl) (by kernel_rfl) (by kernel_rfl) (by kernel_rfl) (fun _ _ _ h => h) (Or.inl ⟨by rfl, ?yb3⟩) S0 ?rb3
          case yb3 => (intro V hSV; obtain ⟨d0, d1, d2, d3⟩ := hSV; go_simp; try with_reducible rfl)
          simp only [Act.put, List.setIfInBounds_toArray, List.set_cons_zero, List.set_cons_succ]
          refine wpAnyG_take [23, 24] (some 43) (i := 4) (v := ?vb4) rfl rfl (by kernel_rfl) (by kernel_rfl) (by kernel_rfl) (by kernel_rfl) (fun _ _ _ h => h) (Or.inl ⟨by rfl, ?yb4⟩) S0 ?rb4
          case yb4 => (intro V hSV; obtain ⟨d0, d1, d2, d3⟩ := hSV; go_simp; try with_reducible rfl)
          simp only [Act.put, List.setIfInBounds_toArray, List.set_cons_zero, List.set_cons_succ]
          refine wpAnyG_take [23, 24] (some 44) (i := 5) (v := ?vb5) rfl rfl (by kernel_rfl) (by kernel_rfl) (by kernel_rfl) (by kernel_rfl) (fun _ _ _ h => h) (Or.inl ⟨by rfl, ?yb5⟩) S0 ?rb5
          case yb5 => (intro V hSV; obtain ⟨d0, d1, d2, d3⟩ := hSV; go_simp; try with_reducible rfl)
          simp only [Act.put, List.setIfInBounds_toArray, List.set_cons_zero, List.set_cons_succ]
          refine wpAnyG_take [23, 24] (some 45) (i := 6) (v := ?vb6) rfl rfl (by kernel_rfl) (by kernel_rfl) (by kernel_rfl) (by kernel_rfl) (fun _ _ _ h => h) (Or.inl ⟨by rfl, ?yb6⟩) S0 ?rb6
          case yb6 => (intro V hSV; obtain ⟨d0, d1, d2, d3⟩ := hSV; go_simp; try with_reducible rfl)
          simp only [Act.put, List.setIfInBounds_toArray, List.set_cons_zero, List.set_cons_succ]
          refine wpAnyG_take [23, 24] (some 46) (i := 7) (v := ?vb7) rfl rfl (by kernel_rfl) (by kernel_rfl) (by kernel_rfl) (by kernel_rfl) (fun _ _ _ h => h) (Or.inl ⟨by rfl, ?yb7⟩) S0 ?rb7
          case yb7 => (intro V hSV; obtain ⟨d0, d1, d2, d3⟩ := hSV; go_simp; try with_reducible rfl)
          simp only [Act.put, List.setIfInBounds_toArray, List.set_cons_zero, List.set_cons_succ]
          refine wpAnyG_take [23, 24] (some 47) (i := 8) (v := ?vb8) rfl rfl (by kernel_rfl) (by kernel_rfl) (by kernel_rfl) (by kernel_rfl) (fun _ _ _ h => h) (Or.inl ⟨by rfl, ?yb8⟩) S0 ?rb8
          case yb8 => (intro V hSV; obtain ⟨d0, d1, d2, d3⟩ := hSV; go_simp; try with_reducible rfl)
          simp only [Act.put, List.setIfInBounds_toArray, List.set_cons_zero, List.set_cons_succ]
          refine wpAnyG_take [23, 24] (some 48) (i := 9) (v := ?vb9) rfl rfl (by kernel_rfl) (by kernel_rfl) (by kernel_rfl) (by kernel_rfl) (fun _ _ _ h => h) (Or.inl ⟨by rfl, ?yb9⟩) S0 ?rb9
          case yb9 => (intro V hSV; obtain ⟨d0, d1, d2, d3⟩ := hSV; go_simp; try with_reducible rfl)
          simp only [Act.put, List.setIfInBounds_toArray, List.set_cons_zero, List.set_cons_succ]
          refine wpAnyG_take [23, 24] (some 49) (i := 10) (v := ?vb10) rfl rfl (by kernel_rfl) (by kernel_rfl) (by kernel_rfl) (by kernel_rfl) (fun _ _ _ h => h) (Or.inl ⟨by rfl, ?yb10⟩) S0 ?rb10
          case yb10 => (intro V hSV; obtain ⟨d0, d1, d2, d3⟩ := hSV; go_simp; try with_reducible rfl)
          simp only [Act.put, List.setIfInBounds_toArray, List.set_cons_zero, List.set_cons_succ]
          refine wpAnyG_take [23, 24] (some 50) (i := 11) (v := ?vb11) rfl rfl (by kernel_rfl) (by kernel_rfl) (by kernel_rfl) (by kernel_rfl) (fun _ _ _ h => h) (Or.inl ⟨by rfl, ?yb11⟩) S0 ?rb11
          case yb11 => (intro V hSV; obtain ⟨d0, d1, d2, d3⟩ := hSV; go_simp; try with_reducible rfl)
          simp only [Act.put, List.setIfInBounds_toArray, List.set_cons_zero, List.set_cons_succ]
          refine wpAnyG_take [23, 24] (some 51) (i := 12) (v := ?vb12) rfl rfl (by kernel_rfl) (by kernel_rfl) (by kernel_rfl) (by kernel_rfl) (fun _ _ _ h => h) (Or.inl ⟨by rfl, ?yb12⟩) S0 ?rb12
          case yb12 => (intro V hSV; obtain ⟨d0, d1, d2, d3⟩ := hSV; go_simp; try with_reducible rfl)
          simp only [Act.put, List.setIfInBounds_toArray, List.set_cons_zero, List.set_cons_succ]
          refine wpAnyG_take [23, 24] (some 52) (i := 13) (v := ?vb13) rfl rfl (by kernel_rfl) (by kernel_rfl) (by kernel_rfl) (by kernel_rfl) (fun _ _ _ h => h) (Or.inl ⟨by rfl, ?yb13⟩) S0 ?rb13
          case yb13 => (intro V hSV; obtain ⟨d0, d1, d2, d3⟩ := hSV; go_simp; try with_reducible rfl)
          simp only [Act.put, List.setIfInBounds_toArray, List.set_cons_zero, List.set_cons_succ]
          refine wpAnyG_take [23, 24] (some 53) (i := 14) (v := ?vb14) rfl rfl (by kernel_rfl) (by kernel_rfl) (by kernel_rfl) (by kernel_rfl) (fun _ _ _ h => h) (Or.inl ⟨by rfl, ?yb14⟩) S0 ?rb14
          case yb14 => (intro V hSV; obtain ⟨d0, d1, d2, d3⟩ := hSV; go_simp; try with_reducible rfl)
          simp only [Act.put, List.setIfInBounds_toArray, List.set_cons_zero, List.set_cons_succ]
          refine wpAnyG_take [23, 24] (some 54) (i := 15) (v := ?vb15) rfl rfl (by kernel_rfl) (by kernel_rfl) (by kernel_rfl) (by kernel_rfl) (fun _ _ _ h => h) (Or.inl ⟨by rfl, ?yb15⟩) S0 ?rb15
          case yb15 => (intro V hSV; obtain ⟨d0, d1, d2, d3⟩ := hSV; go_simp; try with_reducible rfl)
          simp only [Act.put, List.setIfInBounds_toArray, List.set_cons_zero, List.set_cons_succ]
          refine wpAnyG_take [23, 24] (some 55) (i := 16) (v := ?vb16) rfl rfl (by kernel_rfl) (by kernel_rfl) (by kernel_rfl) (by kernel_rfl) (fun _ _ _ h => h) (Or.inl ⟨by rfl, ?yb16⟩) S0 ?rb16
          case yb16 => (intro V hSV; obtain ⟨d0, d1, d2, d3⟩ := hSV; go_simp; try with_reducible rfl)
          simp only [Act.put, List.setIfInBounds_toArray, List.set_cons_zero, List.set_cons_succ]
          refine wpAnyG_take [23, 24] (some 56) (i := 17) (v := ?vb17) rfl rfl (by kernel_rfl) (by kernel_rfl) (by kernel_rfl) (by kernel_rfl) (fun _ _ _ h => h) (Or.inl ⟨by rfl, ?yb17⟩) S0 ?rb17
          case yb17 => (intro V hSV; obtain ⟨d0, d1, d2, d3⟩ := hSV; go_simp; try with_reducible rfl)
          simp only [Act.put, List.setIfInBounds_toArray, List.set_cons_zero, List.set_cons_succ]
          refine wpAnyG_take [23, 24] (some 57) (i := 18) (v := ?vb18) rfl rfl (by kernel_rfl) (by kernel_rfl) (by kernel_rfl) (by kernel_rfl) (fun _ _ _ h => h) (Or.inl ⟨by rfl, ?yb18⟩) S0 ?rb18
          case yb18 => (intro V hSV; obtain ⟨d0, d1, d2, d3⟩ := hSV; go_simp; try with_reducible rfl)
          simp only [Act.put, List.setIfInBounds_toArray, List.set_cons_zero, List.set_cons_succ]
          refine wpAnyG_take [23, 24] (some 58) (i := 19) (v := ?vb19) rfl rfl (by kernel_rfl) (by kernel_rfl) (by kernel_rfl) (by kernel_rfl) (fun _ _ _ h => h) (Or.inl ⟨by rfl, ?yb19⟩) S0 ?rb19
          case yb19 => (intro V hSV; obtain ⟨d0, d1, d2, d3⟩ := hSV; go_simp; try with_reducible rfl)
          simp only [Act.put, List.setIfInBounds_toArray, List.set_cons_zero, List.set_cons_succ]
          refine wpAnyG_take [23, 24] (some 59) (i := 20) (v := ?vb20) rfl rfl (by kernel_rfl) (by kernel_rfl) (by kernel_rfl) (by kernel_rfl) (fun _ _ _ h => h) (Or.inl ⟨by rfl, ?yb20⟩) S0 ?rb20
          case yb20 => (intro V hSV; obtain ⟨d0, d1, d2, d3⟩ := hSV; go_simp; try with_reducible rfl)
          simp only [Act.put, List.setIfInBounds_toArray, List.set_cons_zero, List.set_cons_succ]
          refine wpAnyG_one (i := 21) (by kernel_rfl) rfl (fun K hK => ?_)
          go_simp
          refine hK.out _ _ (Or.inr ⟨S2.1, S2.2.1, S2.2.2, O2⟩) ?_
          clear hK K
          refine wpAnyG_one (i := 22) (by kernel_rfl) rfl (fun K hK => ?_)
          refine step_app_k (by rfl) _ _ 32 37 i0 (.agg #[.int .i64 0, .int .i64 0]) 2 16 (by rfl) Tryz.underlying32 ki hz0 hz1 hz2 rfl (by decide) (by decide) (w.heap.size + 3) _ v k (pc ((hs.map gh).take k)) [.int .i64 (md p 4096), .int .i64 (md q 65536)] wr.heap.size (by rfl) OW (by rfl) rfl NW ON hk6 hbs ?_
          intro v1' wb ow gw
          obtain ⟨ra, za, rfl, -, -, -⟩ := ow.rd (by decide)
          have G0 := F0.kept gw n0
          have G1 := F1.kept gw n1
          have G2 := F2.kept gw n2
          have GB := Below.grown FB gw (Nat.le_of_lt F0.lt) nl2
          have GS := Nat.le_trans hbs gw.size
          have C3 := G2.cell 2
          have Z3 := G2.free 2
          have S3 := SS wb G0 GB
          have S4 : (fun V : World => V.cell? ⟨w.heap.size, 2, none⟩ = some (.slice (some ⟨g, o, none⟩) n cap) ∧ V.cell? ⟨g, o + k * 2, none⟩ = some (.int .i64 p) ∧ V.cell? ⟨g, o + k * 2 + 1, none⟩ = some (.int .i64 q) ∧ V.cell? ⟨w.heap.size + 1 + 1, 2, none⟩ = some v) wb := ⟨S3.1, S3.2.1, S3.2.2, C3⟩
          refine hK.out _ _ (Or.inr S4) ?_
          clear hK K
          simp only [Act.put, List.setIfInBounds_toArray]
          refine wpAnyG_take [24] (some 62) (i := 23) (v := ?vb23) rfl rfl (by kernel_rfl) (by kernel_rfl) (by kernel_rfl) (by kernel_rfl) (fun _ _ _ h => h) (Or.inl ⟨by rfl, ?yb23⟩) S4 ?rb23
          case yb23 => (intro V hSV; obtain ⟨d0, d1, d2, d3⟩ := hSV; go_simp; try with_reducible rfl)
          simp only [Act.put]
          refine wpAnyG_one (i := 24) (by kernel_rfl) rfl (fun K hK => ?_)
          go_simp
          refine hK.out _ _ (Or.inl (by kernel_rfl)) ?_
          clear hK K
          refine wpAnyG_done (by kernel_rfl) ?_ _
          have X0 : Hid (Bk (wb.setCell ⟨w.heap.size + 1 + 1, 2, none⟩ (.slice ra (k + 1) za)) w.heap.size (pcc s false (.slice (some ⟨g, o, none⟩) n cap) x) 34) := G0.far hne2
          have X1 : Hid (Bk (wb.setCell ⟨w.heap.size + 1 + 1, 2, none⟩ (.slice ra (k + 1) za)) (w.heap.size + 1) (pcc 0 false (.slice none 0 0) ByteArray.empty) 34) := G1.far hne3
          have X2 : Hid (Bk (wb.setCell ⟨w.heap.size + 1 + 1, 2, none⟩ (.slice ra (k + 1) za)) (w.heap.size + 1 + 1) (pcc (md s 4096) false (.slice ra (k + 1) za) X) 34) := G2.two _
          have XB : Hid (Below w.heap.size w (wb.setCell ⟨w.heap.size + 1 + 1, 2, none⟩ (.slice ra (k + 1) za))) := GB.setCell hbs2 _
          have XS : Hid (w.heap.size + 3 ≤ (wb.setCell ⟨w.heap.size + 1 + 1, 2, none⟩ (.slice ra (k + 1) za)).heap.size) := by unfold Hid; simpa using GS
          have XO : Hid (OwnK 37 2 (wb.setCell ⟨w.heap.size + 1 + 1, 2, none⟩ (.slice ra (k + 1) za)) (w.heap.size + 3) (.slice ra (k + 1) za) (k + 1) (pc ((hs.map gh).take (k + 1)))) := by
            rw [HST.out] at ow
            exact ow.far (by omega)
          clear G0 G1 G2 GB GS C3 Z3 S3 S4 ow gw S1 S2 O1 O2 OW NW ON F0 F1 F2 FB n0 n1 n2 nl nl2 SS S0 HB H0 H1 H2 HO c2
          go_wp2
          go_roundw
          case rel => exact ⟨k + 1, .slice ra (k + 1) za, by omega, by simp [gL]; omega, by go_num, X0.out, X1.out, X2.out, XO.out, XB.out, XS.out⟩
          case measure => simp [RowKit.intOf]; omega
        · have e4 : ¬ (k : Int) < 1 := by omega
          have D0 := H2.out.cell 0
          have D1 := H2.out.cell 1
          have D2 := H2.out.cell 2
          have D3 := H2.out.cell 3
          have U2 := H2.out.free 2
          have Z0 := H1.out.free 0
          have Z1 := H1.out.free 1
          have Z2 := H1.out.free 2
          have Z3 := H1.out.free 3
          have Y0 := H1.out.cell 0
          have Y1 := H1.out.cell 1
          have Y2 := H1.out.cell 2
          have Y3 := H1.out.cell 3
          simp at D0 D1 D2 D3 Y0 Y1 Y2 Y3
          have hz : w.heap.size + 1 < wr.heap.size := by omega
          have hz3 : w.heap.size + 1 + 1 < wr.heap.size := by omega
          by_cases hn0 : n = 0
          · omega
          · obtain ⟨E1, E2, E3⟩ := (EN.out k hk hk12 (by first | omega | (right; simp [gL]; omega))).2 hn0
            have f3 : ¬ (k : Int) = 0 := by omega
            obtain ⟨ra, za, rfl, hcz, _, rr⟩ := HO.out.rd (by decide)
            clear rr
            go_wp2
            refine bodyPost_ret (v := pcv (md s 4096) false (.slice ra k za) X) (by simp [results, Tryz.results9, go_sem, Y0, Y1, Y2, Y3]) rfl ⟨ra, za, by first | rfl | rw [E2], by first | exact hcz | (rw [E2]; exact hcz), ?_, below_four HB.out (Nat.le_succ _) _ _ _ _, ?_⟩
            rotate_left
            · rintro y rfl
              have h9 := HO.out
              rcases h9.2 with ⟨h8, _⟩ | ⟨g9, c9, u9, h8, h7, h6, _⟩
              · simp at h8
              · simp only [Value.slice.injEq, Option.some.injEq] at h8
                rw [h8.1]
                exact ⟨by show w.heap.size ≤ g9; omega, u9, _, ((((show Bk _ g9 u9 _ from h6).far (by omega)).far (by omega)).far (by omega)).far (by omega)⟩
            have own : OwnK 37 2 _ (w.heap.size + 3) (.slice ra k za) k (pc ((hs.map gh).take k)) := (((HO.out.far (b := w.heap.size + 1) (j := 0) (x := .int .i64 (md s 4096)) (by omega)).far (b := w.heap.size + 1) (j := 1) (x := .bool false) (by omega)).far (b := w.heap.size + 1) (j := 2) (x := .slice ra k za) (by omega)).far (b := w.heap.size + 1) (j := 3) (x := .string X) (by omega)
            obtain ⟨a', c', e', _, _, rd⟩ := own.rd (by decide)
            simp only [Value.slice.injEq] at e'
            obtain ⟨rfl, _, _⟩ := e'
            rw [E1] at rd
            exact rd
      · have e1 : ¬ (k : Int) < (n : Int) := by omega
        have D0 := H2.out.cell 0
        have D1 := H2.out.cell 1
        have D2 := H2.out.cell 2
        have D3 := H2.out.cell 3
        have U2 := H2.out.free 2
        have Z0 := H1.out.free 0
        have Z1 := H1.out.free 1
        have Z2 := H1.out.free 2
        have Z3 := H1.out.free 3
        have Y0 := H1.out.cell 0
        have Y1 := H1.out.cell 1
        have Y2 := H1.out.cell 2
        have Y3 := H1.out.cell 3
        simp at D0 D1 D2 D3 Y0 Y1 Y2 Y3
        have hz : w.heap.size + 1 < wr.heap.size := by omega
        have hz3 : w.heap.size + 1 + 1 < wr.heap.size := by omega
        by_cases hn0 : n = 0
        · have hk0 : k = 0 := by omega
          have f3 : (k : Int) = 0 := by omega
          have eG : GH = [(1, 0)] := (EN.out k hk hk12 (by left; omega)).1 hn0
          subst eG
          obtain ⟨ra, za, rfl, _, _, rr⟩ := HO.out.rd (by decide)
          clear rr
          have hz4 : ¬ wr.heap.size = w.heap.size + 1 := by omega
          have hz5 : ¬ wr.heap.size = w.heap.size + 1 + 1 := by omega
          have hz6 : ¬ w.heap.size + 1 = w.heap.size + 1 + 1 := by omega
          have hz7 : ¬ w.heap.size + 1 + 1 = w.heap.size + 1 := by omega
          have eS : (wr.setCell ⟨w.heap.size + 1 + 1, 2, none⟩ (.slice (some ⟨wr.heap.size, 0, none⟩) 1 1)).heap.size = wr.heap.size := by simp
          have XB : Hid (Below w.heap.size w ((wr.setCell ⟨w.heap.size + 1 + 1, 2, none⟩ (.slice (some ⟨wr.heap.size, 0, none⟩) 1 1)).alloc (.cells #[.int .i64 1, .int .i64 0] 37))) := (HB.out.setCell (by simp; omega) _).alloc (by simp; omega) _
          have XN : Hid (Bk ((wr.setCell ⟨w.heap.size + 1 + 1, 2, none⟩ (.slice (some ⟨wr.heap.size, 0, none⟩) 1 1)).alloc (.cells #[.int .i64 1, .int .i64 0] 37)) wr.heap.size #[.int .i64 1, .int .i64 0] 37) := by
            have := Bk.new (wr.setCell ⟨w.heap.size + 1 + 1, 2, none⟩ (.slice (some ⟨wr.heap.size, 0, none⟩) 1 1)) #[.int .i64 1, .int .i64 0] 37
            rw [eS] at this
            exact this
          have X1 : Bk ((wr.setCell ⟨w.heap.size + 1 + 1, 2, none⟩ (.slice (some ⟨wr.heap.size, 0, none⟩) 1 1)).alloc (.cells #[.int .i64 1, .int .i64 0] 37)) (w.heap.size + 1) (pcc 0 false (.slice none 0 0) ByteArray.empty) 34 := (H1.out.far hz6).alloc _
          have X2 : Bk ((wr.setCell ⟨w.heap.size + 1 + 1, 2, none⟩ (.slice (some ⟨wr.heap.size, 0, none⟩) 1 1)).alloc (.cells #[.int .i64 1, .int .i64 0] 37)) (w.heap.size + 1 + 1) (pcc (md s 4096) false (.slice (some ⟨wr.heap.size, 0, none⟩) 1 1) X) 34 := (H2.out.two _).alloc _
          have hz8 : w.heap.size + 1 < ((wr.setCell ⟨w.heap.size + 1 + 1, 2, none⟩ (.slice (some ⟨wr.heap.size, 0, none⟩) 1 1)).alloc (.cells #[.int .i64 1, .int .i64 0] 37)).heap.size := X1.lt
          have hz9 : w.heap.size + 1 + 1 < ((wr.setCell ⟨w.heap.size + 1 + 1, 2, none⟩ (.slice (some ⟨wr.heap.size, 0, none⟩) 1 1)).alloc (.cells #[.int .i64 1, .int .i64 0] 37)).heap.size := X2.lt
          go_upto_region 8 with fail
          clear eS
          generalize (wr.setCell ⟨w.heap.size + 1 + 1, 2, none⟩ (.slice (some ⟨wr.heap.size, 0, none⟩) 1 1)).alloc (.cells #[.int .i64 1, .int .i64 0] 37) = wf at *
          clear Z0 Z1 Z2 Z3 Y0 Y1 Y2 Y3 D0 D1 D2 D3
          have D0 := X2.cell 0
          have D1 := X2.cell 1
          have D2 := X2.cell 2
          have D3 := X2.cell 3
          have Z0 := X1.free 0
          have Z1 := X1.free 1
          have Z2 := X1.free 2
          have Z3 := X1.free 3
          have Y0 := X1.cell 0
          have Y1 := X1.cell 1
          have Y2 := X1.cell 2
          have Y3 := X1.cell 3
          clear X1 X2
          simp at D0 D1 D2 D3 Y0 Y1 Y2 Y3
          go_wp2
          have nw := (((XN.out.far (k := w.heap.size + 1) (j := 0) (x := .int .i64 (md s 4096)) hz4).far (k := w.heap.size + 1) (j := 1) (x := .bool false) hz4).far (k := w.heap.size + 1) (j := 2) (x := .slice (some ⟨wr.heap.size, 0, none⟩) 1 1) hz4).far (k := w.heap.size + 1) (j := 3) (x := .string X) hz4
          refine bodyPost_ret (v := pcv (md s 4096) false (.slice (some ⟨wr.heap.size, 0, none⟩) 1 1) X) (by simp [results, Tryz.results9, go_sem, Y0, Y1, Y2, Y3]) rfl ⟨some ⟨wr.heap.size, 0, none⟩, 1, rfl, Nat.le_refl _, ?_, below_four XB.out (Nat.le_succ _) _ _ _ _, fun y hy => by have h9 := HB.out.size; cases hy; exact ⟨h9, _, _, nw⟩⟩
          intro j u hj
          refine ⟨wr.heap.size, 0, rfl, nw.lt, ?_⟩
          rw [Nat.zero_add, nw.cell]
          simpa [pc] using hj
        · obtain ⟨E1, E2, E3⟩ := (EN.out k hk hk12 (by first | omega | (right; simp [gL]; omega))).2 hn0
          have f3 : ¬ (k : Int) = 0 := by omega
          obtain ⟨ra, za, rfl, hcz, _, rr⟩ := HO.out.rd (by decide)
          clear rr
          go_wp2
          refine bodyPost_ret (v := pcv (md s 4096) false (.slice ra k za) X) (by simp [results, Tryz.results9, go_sem, Y0, Y1, Y2, Y3]) rfl ⟨ra, za, by first | rfl | rw [E2], by first | exact hcz | (rw [E2]; exact hcz), ?_, below_four HB.out (Nat.le_succ _) _ _ _ _, ?_⟩
          rotate_left
          · rintro y rfl
            have h9 := HO.out
            rcases h9.2 with ⟨h8, _⟩ | ⟨g9, c9, u9, h8, h7, h6, _⟩
            · simp at h8
            · simp only [Value.slice.injEq, Option.some.injEq] at h8
              rw [h8.1]
              exact ⟨by show w.heap.size ≤ g9; omega, u9, _, ((((show Bk _ g9 u9 _ from h6).far (by omega)).far (by omega)).far (by omega)).far (by omega)⟩
          have own : OwnK 37 2 _ (w.heap.size + 3) (.slice ra k za) k (pc ((hs.map gh).take k)) := (((HO.out.far (b := w.heap.size + 1) (j := 0) (x := .int .i64 (md s 4096)) (by omega)).far (b := w.heap.size + 1) (j := 1) (x := .bool false) (by omega)).far (b := w.heap.size + 1) (j := 2) (x := .slice ra k za) (by omega)).far (b := w.heap.size + 1) (j := 3) (x := .string X) (by omega)
          obtain ⟨a', c', e', _, _, rd⟩ := own.rd (by decide)
          simp only [Value.slice.injEq] at e'
          obtain ⟨rfl, _, _⟩ := e'
          rw [E1] at rd
          exact rd
theorem good_any (s : Int) (c : Bool) (a : Option Addr) (cap : Nat) (x : ByteArray) (hs : List (Int × Int)) (w : World) (hm : hs.length ≤ maxLen) (hx : x.size ≤ maxLen) (hr : Rd w a (pc hs)) :
    Calls Tryz.prog 9 #[pcv s c (.slice a hs.length cap) x] w (PcR w ⟨md s 4096, c, gH c hs, gx x⟩) := (good_new s c a cap x hs w hm hx hr).mono fun _ _ h => h.pcr
end Go.Proofs.YtoejpngdkcnnhaaGreat

namespace Go.Proofs.YtoejpngdkcnnhaaGreat
open Go.RowKit

theorem Tryz.info61 : (Tryz.prog.info? 61).map (fun i => (i.zero, i.size, i.bytes)) = some (some (.agg #[.int .i64 0, .int .i64 0, .int .i64 0, .string ⟨#[]⟩]), 4, 40) := by kernel_rfl
/-- The packets' cells. -/
def kc (s : Int) (x : ByteArray) (l : List (Int × Int)) : List Value := l.flatMap fun h => [.int .i64 s, .int .i64 h.1, .int .i64 h.2, .string x]
theorem kc_take (s : Int) (x : ByteArray) (l : List (Int × Int)) (k : Nat) (h : k < l.length) : kc s x (l.take k) ++ [.int .i64 s, .int .i64 (l.getD k (0, 0)).1, .int .i64 (l.getD k (0, 0)).2, .string x] = kc s x (l.take (k + 1)) := by
  have e : l.take (k + 1) = l.take k ++ [((l.getD k (0, 0)).1, (l.getD k (0, 0)).2)] := by
    rw [List.take_add_one, List.getElem?_eq_getElem h, List.getD_eq_getElem?_getD, List.getElem?_eq_getElem h]
    rfl
  rw [e]
  simp [kc]

end Go.Proofs.YtoejpngdkcnnhaaGreat

namespace Go.Proofs.YtoejpngdkcnnhaaGreat
open Go.RowKit

/-- A parcel that may be, made of any. -/
def gd (p : Pc) : Pc := ⟨md p.s 4096, p.c, gH p.c p.hs, gx p.x⟩
theorem md_in (n : Int) {m : Int} (h0 : 0 < m) (h1 : m ≤ 65536) : 0 ≤ md n m ∧ md n m < m := by
  have a0 : 0 ≤ IntKind.u64.wrap n := by rw [IntKind.wrap_u64]; exact Int.emod_nonneg _ (by decide)
  have e : (IntKind.u64.wrap n).tmod m = IntKind.u64.wrap n % m := Int.tmod_eq_emod_of_nonneg a0
  have a1 := Int.emod_nonneg (IntKind.u64.wrap n) (show m ≠ 0 by omega)
  have a2 := Int.emod_lt_of_pos (IntKind.u64.wrap n) h0
  unfold md
  rw [e, IntWalk.i64_in _ (by omega)]
  exact ⟨a1, a2⟩
theorem gH_len (c : Bool) (hs : List (Int × Int)) : 1 ≤ (gH c hs).length ∧ (gH c hs).length ≤ 6 ∧ (c = true ∨ (gH c hs).length = 1) := by
  unfold gH gL
  split
  · simp
  · rw [List.length_take, List.length_map]
    cases c
    · simp; omega
    · simp; omega
theorem gx_size (x : ByteArray) : (gx x).size ≤ 64 := by
  unfold gx
  split
  · assumption
  · rw [ByteArray.size_extract]; omega
theorem gd_len (p : Pc) : 1 ≤ (gd p).hs.length ∧ (gd p).hs.length ≤ 6 := ⟨(gH_len p.c p.hs).1, (gH_len p.c p.hs).2.1⟩
theorem gd_size (p : Pc) : (gd p).x.size ≤ 64 := gx_size p.x
theorem gh_ok (h : Int × Int) : headOk (gh h) = true := by
  rw [headOk_iff]
  have a := md_in h.1 (m := 4096) (by decide) (by decide)
  have b := md_in h.2 (m := 65536) (by decide) (by decide)
  unfold gh
  simp only
  omega
theorem gd_ok (p : Pc) : (gd p).okB = true := by
  obtain ⟨a1, a2, a3⟩ := gH_len p.c p.hs
  have b := md_in p.s (m := 4096) (by decide) (by decide)
  rw [ok_iff]
  refine ⟨by show 0 ≤ md p.s 4096 ∧ md p.s 4096 ≤ 4095; omega, ⟨a1, by show (gH p.c p.hs).length ≤ 4096; omega, a3⟩, gx_size p.x, fun h hh => ?_⟩
  replace hh : h ∈ gH p.c p.hs := hh
  unfold gH at hh
  split at hh
  · simp only [List.mem_singleton] at hh
    subst hh
    rfl
  · obtain ⟨h', _, rfl⟩ := List.mem_map.1 (List.mem_of_mem_take hh)
    exact gh_ok h'
theorem ws_lt (p : Pc) : ∀ x ∈ p.ws, x < 18446744073709551616 := by
  intro x hx
  unfold Pc.ws at hx
  obtain ⟨f, _, rfl⟩ := List.mem_map.1 hx
  exact word_lt f
theorem wordsR_ok {p : Pc} (h : p.okB = true) : p.wordsR = (p.ws, 0) := by
  obtain ⟨_, _, h2, _⟩ := (ok_iff p).1 h
  unfold Pc.wordsR
  rw [if_neg (by omega), if_pos h]
theorem kc_at (s : Int) (x : ByteArray) : ∀ (l : List (Int × Int)) (k : Nat), k < l.length → (kc s x l)[k * 4]? = some (.int .i64 s) ∧ (kc s x l)[k * 4 + 1]? = some (.int .i64 (l.getD k (0, 0)).1) ∧ (kc s x l)[k * 4 + 2]? = some (.int .i64 (l.getD k (0, 0)).2) ∧ (kc s x l)[k * 4 + 3]? = some (.string x) := by
  intro l
  induction l with
  | nil => intro k h; simp at h
  | cons h l ih =>
    intro k hk
    cases k with
    | zero => simp [kc]
    | succ k =>
      have := ih k (by simpa using hk)
      have e : kc s x (h :: l) = .int .i64 s :: .int .i64 h.1 :: .int .i64 h.2 :: .string x :: kc s x l := by simp [kc]
      rw [e, show (k + 1) * 4 = k * 4 + 1 + 1 + 1 + 1 by omega, show k * 4 + 1 + 1 + 1 + 1 + 1 = (k * 4 + 1) + 1 + 1 + 1 + 1 by omega, show k * 4 + 1 + 1 + 1 + 1 + 2 = (k * 4 + 2) + 1 + 1 + 1 + 1 by omega, show k * 4 + 1 + 1 + 1 + 1 + 3 = (k * 4 + 3) + 1 + 1 + 1 + 1 by omega]
      simp only [List.getElem?_cons_succ, List.getD_cons_succ]
      exact this
/-- One packet of a row that is read. -/
theorem Rd.packet {w : World} {a : Option Addr} {s : Int} {x : ByteArray} {l : List (Int × Int)} {k : Nat} (h : Rd w a (kc s x l)) (hk : k < l.length) : ∃ g o, a = some ⟨g, o, none⟩ ∧ g < w.heap.size ∧ w.cell? ⟨g, o + k * 4, none⟩ = some (.int .i64 s) ∧ w.cell? ⟨g, o + k * 4 + 1, none⟩ = some (.int .i64 (l.getD k (0, 0)).1) ∧ w.cell? ⟨g, o + k * 4 + 2, none⟩ = some (.int .i64 (l.getD k (0, 0)).2) ∧ w.cell? ⟨g, o + k * 4 + 3, none⟩ = some (.string x) := by
  obtain ⟨h0, h1, h2, h3⟩ := kc_at s x l k hk
  obtain ⟨g, o, rfl, hg, c0⟩ := h _ _ h0
  obtain ⟨g', o', e, _, c1⟩ := h _ _ h1
  simp only [Option.some.injEq, Addr.mk.injEq] at e
  obtain ⟨rfl, rfl, _⟩ := e
  obtain ⟨g', o', e, _, c2⟩ := h _ _ h2
  simp only [Option.some.injEq, Addr.mk.injEq] at e
  obtain ⟨rfl, rfl, _⟩ := e
  obtain ⟨g', o', e, _, c3⟩ := h _ _ h3
  simp only [Option.some.injEq, Addr.mk.injEq] at e
  obtain ⟨rfl, rfl, _⟩ := e
  exact ⟨g, o, rfl, hg, c0, by rw [Nat.add_assoc]; exact c1, by rw [Nat.add_assoc]; exact c2, by rw [Nat.add_assoc]; exact c3⟩

/-- The calls on a parcel that may be. -/
structure Fine (P : Pc) : Prop where
  ok : P.okB = true
  l1 : 1 ≤ P.hs.length
  l6 : P.hs.length ≤ 6
  x64 : P.x.size ≤ 64
theorem fine (p : Pc) : Fine (gd p) := ⟨gd_ok p, (gd_len p).1, (gd_len p).2, gd_size p⟩

theorem Fine.rwords {P : Pc} (F : Fine P) (a : Option Addr) (cap : Nat) (w : World) (hr : Rd w a (pc P.hs)) : Calls Tryz.prog 12 #[pcv P.s P.c (.slice a P.hs.length cap) P.x] w fun e w' => ∃ a' cap', e = .returned (.tuple #[.slice a' P.ws.length cap', .int .i64 0]) ∧ P.ws.length ≤ cap' ∧ Rd w' a' (vw P.ws) ∧ Below w.heap.size w w' := by
  have := rwords_any P.s P.c a cap P.x P.hs w (by have := F.l6; omega) (by have := F.x64; unfold maxLen; omega) hr
  rw [show (⟨P.s, P.c, P.hs, P.x⟩ : Pc) = P from rfl, wordsR_ok F.ok] at this
  exact this
theorem Fine.ws_small {P : Pc} (F : Fine P) : P.ws.length ≤ 17 ∧ P.ws.length = P.hs.length + (nb P.x.size + 1) := by
  have h1 := F.l6
  have h2 := F.x64
  rw [ws_len]
  unfold nb
  omega
end Go.Proofs.YtoejpngdkcnnhaaGreat

namespace Go.Proofs.YtoejpngdkcnnhaaGreat
open Go.RowKit

/-- A row of pairs doesn't lie in a parcel's block. -/
theorem Rd.off {w : World} {a : Option Addr} {l : List (Int × Int)} {b : Nat} {s : Int} {c : Bool} {p : Option Addr} {m k : Nat} {x : ByteArray} {t : TypeId} (h : Rd w a (pc l)) (hb : Bk w b (pcc s c (.slice p m k) x) t) (w' : World) (hz : w.heap.size ≤ w'.heap.size) (hw : ∀ g, g ≠ b → w'.heap[g]? = w.heap[g]?) : Rd w' a (pc l) := by
  intro j v hj
  obtain ⟨g, o, rfl, hg, hc⟩ := h j v hj
  have hl : 0 < l.length := by
    have := (List.getElem?_eq_some_iff.mp hj).1
    rw [pc_len] at this
    omega
  obtain ⟨g', o', e, _, c1, c2⟩ := h.pair (k := 0) hl
  simp only [Option.some.injEq, Addr.mk.injEq] at e
  obtain ⟨rfl, rfl, _⟩ := e
  have hne : g ≠ b := by
    rintro rfl
    rw [hb.cell] at c1 c2
    match o, c1, c2 with
    | 0, _, c2 => simp at c2
    | 1, c1, _ => simp at c1
    | 2, c1, _ => simp at c1
    | 3, c1, _ => simp at c1
    | n + 4, c1, _ => simp at c1
  exact ⟨g, o, rfl, Nat.lt_of_lt_of_le hg hz, by rw [World.cell?_of_block (hw g hne)]; exact hc⟩

theorem four_at {v : World} {b : Nat} {s : Int} {c : Bool} {u : Value} {x : ByteArray} {t : TypeId} {x0 x1 x2 x3 : Value} (h : Bk v b (pcc s c u x) t) : Bk ((((v.setCell ⟨b, 0, none⟩ x0).setCell ⟨b, 1, none⟩ x1).setCell ⟨b, 2, none⟩ x2).setCell ⟨b, 3, none⟩ x3) b #[x0, x1, x2, x3] t := by
  have := (((h.set 0 x0).set 1 x1).set 2 x2).set 3 x3
  simpa using this
theorem four_far {v : World} {b b' : Nat} {cs : Array Value} {t : TypeId} {x0 x1 x2 x3 : Value} (h : Bk v b' cs t) (hne : b' ≠ b) : Bk ((((v.setCell ⟨b, 0, none⟩ x0).setCell ⟨b, 1, none⟩ x1).setCell ⟨b, 2, none⟩ x2).setCell ⟨b, 3, none⟩ x3) b' cs t := (((h.far hne).far hne).far hne).far hne
theorem four_rd {v : World} {b : Nat} {s : Int} {c : Bool} {p : Option Addr} {m k : Nat} {x : ByteArray} {t : TypeId} {a : Option Addr} {l : List (Int × Int)} {x0 x1 x2 x3 : Value} (h : Rd v a (pc l)) (hb : Bk v b (pcc s c (.slice p m k) x) t) : Rd ((((v.setCell ⟨b, 0, none⟩ x0).setCell ⟨b, 1, none⟩ x1).setCell ⟨b, 2, none⟩ x2).setCell ⟨b, 3, none⟩ x3) a (pc l) :=
  Rd.off h hb _ (by simp) fun g hg => by
    rw [Below.heap_setCell _ _ _ g hg, Below.heap_setCell _ _ _ g hg, Below.heap_setCell _ _ _ g hg, Below.heap_setCell _ _ _ g hg]
/-- A store into another block than a row's own. -/
theorem OwnK.set {e : TypeId} {k : Nat} {w : World} {B n b j : Nat} {v x : Value} {cs : List Value} (h : OwnK e k w B v n cs) (hb : v.ownBlock ≠ some b) : OwnK e k (w.setCell ⟨b, j, none⟩ x) B v n cs := by
  refine ⟨h.1, ?_⟩
  rcases h.2 with hn | ⟨g, cap, cur, e, hg, hh, r⟩
  · exact Or.inl hn
  · refine Or.inr ⟨g, cap, cur, e, hg, ?_, r⟩
    have hne : g ≠ b := by
      rintro rfl
      exact hb (by rw [e]; rfl)
    rw [Below.heap_setCell w ⟨b, j, none⟩ _ g hne]
    exact hh
theorem four_own {e : TypeId} {k : Nat} {w : World} {B n b : Nat} {v x0 x1 x2 x3 : Value} {cs : List Value} (h : OwnK e k w B v n cs) (hb : v.ownBlock ≠ some b) : OwnK e k ((((w.setCell ⟨b, 0, none⟩ x0).setCell ⟨b, 1, none⟩ x1).setCell ⟨b, 2, none⟩ x2).setCell ⟨b, 3, none⟩ x3) B v n cs := (((h.set hb).set hb).set hb).set hb
end Go.Proofs.YtoejpngdkcnnhaaGreat
