/-
  The walk of JoinRow.
-/
import Derived.Test.YtockjijhckkicaaStep
namespace Go.Proofs.Ytockjijhckkicaa
open Go.RowKit

set_option maxRecDepth 100000 in
set_option maxHeartbeats 8000000 in
theorem row_law (ps : List Pc) (a : Option Addr) (cap : Nat) (w : World) (hr : PsRd w a ps) :
    Calls Try.prog 4 #[.slice a ps.length cap] w fun e w' => e = .returned (.bool true) ∧ Below w.heap.size w w' := by
  obtain ⟨o1, o2, o3⟩ := wj_run takeR_tells ps 8
  have hs := wj_small ps 8
  have WJ := fun w' h => wordsj_any ps a cap w' h
  have AC := fun a cap w' h => all_any (wj ps 8) o1 (by omega) (wj_lt ps 8) a cap w' h
  rw [o3] at AC
  have HR : Hid (PsRd w a ps) := hr
  generalize wj ps 8 = L at *
  generalize kj ps 8 = KK at *
  obtain ⟨n, hn⟩ : ∃ n, L.length = n := ⟨_, rfl⟩
  have HN : Hid (L.length = n) := hn
  rw [hn] at AC hs
  obtain ⟨m, hm⟩ : ∃ n, KK.length = n := ⟨_, rfl⟩
  have HM : Hid (KK.length = m) := hm
  have SC := fun a b x y w' h1 h2 => samep_any true KK KK a b x y w' (by omega) (by omega) (by simp) h1 h2
  rw [hm] at SC AC WJ hs
  clear o1 o2 o3 hr hn hm
  have LV := lives_any w
  go_enter Try.func4, Try.ntmps4
  go_wp2_with fail
  go_at_call 8
  with_reducible refine LV.mono ?_
  rintro e w1 ⟨rfl, hb1⟩
  have HB1 : Hid (Below w.heap.size w w1) := hb1
  have WJ1 := WJ w1 (HR.out.below hb1)
  clear LV hb1 WJ HR
  go_wp2_with fail
  go_at_call 9
  with_reducible refine WJ1.mono ?_
  rintro e w2 ⟨v1, v2, rfl, ow, ok, hb2⟩
  have HB2 : Hid (Below w.heap.size w w2) := HB1.out.trans (hb2.mono HB1.out.size)
  obtain ⟨a1, cap1, rfl, hc1, hm1, rd1⟩ := OwnK.rd (k := 1) ow (by decide)
  obtain ⟨a2, cap2, rfl, hc2, hm2, rd2⟩ := ok.rd (by decide)
  have hvl : (vw L).length = n := by rw [vw_len]; exact HN.out
  rw [hvl] at hc1 ⊢
  have HW : Hid (Rd w2 a1 (vw L)) := rd1
  have HK : Hid (Rd w2 a2 (kcs KK)) := rd2
  have AC1 := AC a1 cap1 w2 rd1
  clear WJ1 HB1 hb2 ow ok rd1 rd2 AC hvl
  go_wp2_with fail
  go_at_call 15
  with_reducible refine AC1.mono ?_
  rintro e w3 ⟨v3, rfl, o3, hb3⟩
  have HB3 : Hid (Below w.heap.size w w3) := HB2.out.trans (hb3.mono HB2.out.size)
  obtain ⟨a3, cap3, rfl, hc3, hm3, rd3⟩ := o3.rd (by decide)
  have SC1 := SC a3 a2 cap3 cap2 w3 rd3 (HK.out.below hb3)
  clear AC1 HB2 hb3 o3 rd3 SC
  go_wp2_with fail
  go_at_call 16
  with_reducible refine SC1.mono ?_
  rintro e w4 ⟨rfl, q, rfl⟩
  clear SC1
  go_wp2
  go_ret
  exact ⟨rfl, dn HB3.out _⟩
end Go.Proofs.Ytockjijhckkicaa
