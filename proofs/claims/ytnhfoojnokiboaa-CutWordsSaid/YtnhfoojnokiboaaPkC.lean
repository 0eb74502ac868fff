/-
  The walk of the program's Packets.
-/
import Derived.Test.YtnhfoojnokiboaaAppK
import Derived.Test.YtnhfoojnokiboaaRpk
namespace Go.Proofs.Ytnhfoojnokiboaa
open Go.RowKit

set_option maxRecDepth 100000 in
set_option maxHeartbeats 8000000 in
theorem cpk_any (s : Int) (c : Bool) (a : Option Addr) (cap : Nat) (x : ByteArray) (hs : List (Int × Int)) (w : World) (hl : hs.length ≤ 5000) (hr : Rd w a (pc hs)) :
    Calls Try.prog 13 #[pcv s c (.slice a hs.length cap) x] w fun e w' => ∃ a' cap', e = .returned (.slice a' hs.length cap') ∧ hs.length ≤ cap' ∧ Rd w' a' (kc s x hs) ∧ Below w.heap.size w w' := by
  obtain ⟨i0, ki, hz0, hz1, hz2⟩ := info_parts Try.info40
  have HR : Hid (Rd w a (pc hs)) := hr
  have ST : Hid (∀ k, k < hs.length → kc s x (hs.take k) ++ [.int .i64 s, .int .i64 (hs.getD k (0, 0)).1, .int .i64 (hs.getD k (0, 0)).2, .string x] = kc s x (hs.take (k + 1))) := kc_take s x hs
  obtain ⟨n, hn⟩ : ∃ n, hs.length = n := ⟨_, rfl⟩
  have HN : Hid (hs.length = n) := hn
  rw [hn] at hl ST ⊢
  clear hr hn
  have B0 : Hid (Bk (w.alloc (.cells (pcc s c (.slice a n cap) x) 28)) w.heap.size (pcc s c (.slice a n cap) x) 28 ∧ Below w.heap.size w (w.alloc (.cells (pcc s c (.slice a n cap) x) 28)) ∧ w.heap.size + 1 ≤ (w.alloc (.cells (pcc s c (.slice a n cap) x) 28)).heap.size) := ⟨Bk.new _ _ _, (Below.refl _ _).alloc (Nat.le_refl _) _, by simp⟩
  simp only [pcv, pcc] at *
  go_enter Try.func13, Try.ntmps13
  go_wp2_with fail
  go_loopw [3, 9] (fun v i wr => ∃ (k : Nat), k ≤ n ∧ i = .int .i64 k ∧ Bk wr w.heap.size (pcc s c (.slice a n cap) x) 28 ∧ OwnK 40 4 wr (w.heap.size + 1) v k (kc s x (hs.take k)) ∧ Below w.heap.size w wr ∧ w.heap.size + 1 ≤ wr.heap.size) (fun _ i _ => n - (RowKit.intOf i).toNat)
  case atStart => exact ⟨0, Nat.zero_le _, rfl, B0.out.1, OwnK.nil _ _ _ _, B0.out.2.1, B0.out.2.2⟩
  case round =>
    obtain ⟨k, hk, rfl, h0, own, hb, hsz⟩ := hrel
    obtain ⟨v, rfl⟩ : ∃ v, v = u3 := ⟨_, rfl⟩
    have HB : Hid (Below w.heap.size w wr) := hb
    have H0 : Hid (Bk wr w.heap.size (pcc s c (.slice a n cap) x) 28) := h0
    have HO : Hid (OwnK 40 4 wr (w.heap.size + 1) v k (kc s x (hs.take k))) := own
    have c0 : wr.cell? ⟨w.heap.size, 0, none⟩ = some (.int .i64 s) := h0.cell 0
    have c5 : wr.cell? ⟨w.heap.size, 3, none⟩ = some (.string x) := h0.cell 3
    clear h0 B0 hb own
    by_cases hlt : k < n
    · have e1 : (k : Int) < (n : Int) := by omega
      have e2 : (0 : Int) ≤ (k : Int) := by omega
      obtain ⟨g, o, rfl, hg, c3', c4'⟩ := HR.out.pair (k := k) (by rw [HN.out]; exact hlt)
      have c3 := (HB.out.cell (p := ⟨g, o + k * 2, none⟩) hg).trans c3'
      have c4 := (HB.out.cell (p := ⟨g, o + k * 2 + 1, none⟩) hg).trans c4'
      have hst := ST.out k hlt
      clear c3' c4' hg
      generalize (hs.getD k (0, 0)).1 = p at *
      generalize (hs.getD k (0, 0)).2 = q at *
      have HST : Hid (kc s x (hs.take k) ++ [.int .i64 s, .int .i64 p, .int .i64 q, .string x] = kc s x (hs.take (k + 1))) := hst
      clear hst
      have A1 : Below wr.heap.size wr (wr.alloc (.cells #[.int .i64 p, .int .i64 q] 55)) := (Below.refl _ _).alloc (Nat.le_refl _) _
      have OW : OwnK 40 4 (wr.alloc (.cells #[.int .i64 p, .int .i64 q] 55)) (w.heap.size + 1) v k (kc s x (hs.take k)) := HO.out.below A1
      have A2 : Below wr.heap.size wr ((wr.alloc (.cells #[.int .i64 p, .int .i64 q] 55)).alloc (.cells #[.int .i64 s, .int .i64 p, .int .i64 q, .string x] 40)) := A1.alloc (by simp) _
      have ON : ∀ u ∈ ([.int .i64 s, .int .i64 p, .int .i64 q, .string x] : List Value), u.oneCell' = true := fun u hu => by
        simp at hu
        rcases hu with rfl | rfl | rfl | rfl <;> rfl
      have hk6 : k ≤ 1000000 := by omega
      have hbs : w.heap.size + 1 ≤ (wr.alloc (.cells #[.int .i64 p, .int .i64 q] 55)).heap.size := Nat.le_trans hsz A1.size
      have F0 : Hid (Bk ((wr.alloc (.cells #[.int .i64 p, .int .i64 q] 55)).alloc (.cells #[.int .i64 s, .int .i64 p, .int .i64 q, .string x] 40)) w.heap.size (pcc s c (.slice (some ⟨g, o, none⟩) n cap) x) 28) := H0.out.next A2
      have FB : Hid (Below w.heap.size w ((wr.alloc (.cells #[.int .i64 p, .int .i64 q] 55)).alloc (.cells #[.int .i64 s, .int .i64 p, .int .i64 q, .string x] 40))) := HB.out.trans (A2.mono HB.out.size)
      have FS : Hid (w.heap.size + 1 ≤ ((wr.alloc (.cells #[.int .i64 p, .int .i64 q] 55)).alloc (.cells #[.int .i64 s, .int .i64 p, .int .i64 q, .string x] 40)).heap.size) := Nat.le_trans hsz A2.size
      have FO : OwnK 40 4 ((wr.alloc (.cells #[.int .i64 p, .int .i64 q] 55)).alloc (.cells #[.int .i64 s, .int .i64 p, .int .i64 q, .string x] 40)) (w.heap.size + 1) v k (kc s x (hs.take k)) := HO.out.below A2
      have n0 : v.ownBlock ≠ some w.heap.size := FO.ne F0.out (by decide)
      have nl2 : ∀ r, v.ownBlock = some r → w.heap.size ≤ r := fun r hr => Nat.le_trans (by omega) (FO.lt hr).1
      have hz3 : w.heap.size < wr.heap.size := by omega
      clear FO A1 A2 HB H0 HO hsz
      go_wp2_with (at_builtin; go_loud (refine wpList_app_k rfl (.tmp 13) (.tmp 23) 36 40 i0 (.agg #[.int .i64 0, .int .i64 0, .int .i64 0, .string ⟨#[]⟩]) 4 40 rfl Try.underlying36 ki hz0 hz1 hz2 rfl (by decide) (by decide) (w.heap.size + 1) (wr.alloc (.cells #[.int .i64 p, .int .i64 q] 55)) v k (kc s x (hs.take k)) [.int .i64 s, .int .i64 p, .int .i64 q, .string x] rfl OW (by first | rfl | go_simp) rfl ON hk6 hbs ?_; intro v1' wb ow gw))
      have X0 : Hid (Bk wb w.heap.size (pcc s c (.slice (some ⟨g, o, none⟩) n cap) x) 28) := F0.out.kept gw n0
      have XB : Hid (Below w.heap.size w wb) := Below.grown FB.out gw (Nat.le_of_lt F0.out.lt) nl2
      have XS : Hid (w.heap.size + 1 ≤ wb.heap.size) := Nat.le_trans FS.out gw.size
      have XO : Hid (OwnK 40 4 wb (w.heap.size + 1) v1' (k + 1) (kc s x (hs.take (k + 1)))) := by
        rw [HST.out] at ow
        exact ow
      clear ow gw F0 FB FS OW ON n0 nl2 c0 c5 c3 c4
      go_roundw
      case rel => exact ⟨k + 1, by omega, by go_num, X0.out, XO.out, XB.out, XS.out⟩
      case measure => simp [RowKit.intOf]; omega
    · obtain rfl : k = n := by omega
      have e1 : ¬ (k : Int) < (k : Int) := by omega
      obtain ⟨ra, za, rfl, hcz, _, rr⟩ := HO.out.rd (by decide)
      rw [show hs.take k = hs by rw [← HN.out, List.take_length]] at rr
      have RR : Hid (Rd wr ra (kc s x hs)) := rr
      clear rr
      go_wp2
      go_ret
      exact ⟨ra, za, rfl, hcz, RR.out, HB.out⟩
end Go.Proofs.Ytnhfoojnokiboaa
