/-
  The walks of join's end and Take.
-/
import Derived.Test.YtockjijhckkicaaJObj
namespace Go.Proofs.Ytockjijhckkicaa
open Go.RowKit

/-- Bytes come behind: what has begun then, and the error. -/
def addS (j : JS) (x : ByteArray) : JS := if j.n < (j.x.size : Int) + (x.size : Int) then j else ⟨j.b, j.s, j.d, j.q, j.x ++ x, j.n⟩
def addE (j : JS) (x : ByteArray) : Int := if j.n < (j.x.size : Int) + (x.size : Int) then 4 else 0
/-- The Tail's: the packet, whether it is one, the error. -/
def endR (j : JS) (x : ByteArray) : Pk × Bool × Int := if ¬ ((j.x ++ x).size : Int) = j.n then (zpk, false, 4) else (⟨j.s, j.d, j.q, j.x ++ x⟩, true, 0)

section
variable {w : World} {b : Nat} {j : JS}
theorem add_any (x : ByteArray) (h : Bk w b (pj j) 64) (h1 : j.x.size ≤ 1000000) (h2 : x.size ≤ 1000000) : Calls Try.prog 23 #[.pointer (some ⟨b, 0, none⟩), .string x] w fun e w' => e = .returned (.int .i64 (addE j x)) ∧ Bk w' b (pj (addS j x)) 64 ∧ Gb b w w' := by
  by_cases hlt : j.n < (j.x.size : Int) + (x.size : Int)
  · unfold addE addS
    rw [if_pos hlt, if_pos hlt]
    refine (add_no x h h1 h2 hlt).mono ?_
    rintro e w' ⟨rfl, m, rfl⟩
    exact ⟨rfl, h.drewN m, (Gb.refl _ _).drewN m⟩
  · unfold addE addS
    rw [if_neg hlt, if_neg hlt]
    exact add_yes x h h1 h2 hlt

set_option maxRecDepth 100000 in
set_option maxHeartbeats 8000000 in
theorem end_any (x : ByteArray) (h : Bk w b (pj j) 64) (h1 : j.x.size ≤ 1000000) (h2 : x.size ≤ 1000000) : Calls Try.prog 24 #[.pointer (some ⟨b, 0, none⟩), .string x] w fun e w' => e = .returned (.tuple #[pkv (endR j x).1, .bool (endR j x).2.1, .int .i64 (endR j x).2.2]) ∧ Bk w' b (pj zjs) 64 ∧ Gb b w w' := by
  have AC := add_any (w := w.alloc (.cells #[.int .i64 0, .int .i64 0, .int .i64 0, .string ⟨#[]⟩] 33)) x (h.alloc _) h1 h2
  have hcase : (addE j x = 4 ∧ endR j x = (zpk, false, 4)) ∨ (addE j x = 0 ∧ ((addS j x).x.size : Int) < (addS j x).n ∧ endR j x = (zpk, false, 4)) ∨ (addE j x = 0 ∧ ¬ ((addS j x).x.size : Int) < (addS j x).n ∧ endR j x = (⟨(addS j x).s, (addS j x).d, (addS j x).q, (addS j x).x⟩, true, 0)) := by
    unfold addE addS endR
    by_cases hlt : j.n < (j.x.size : Int) + (x.size : Int)
    · rw [if_pos hlt, if_pos (by rw [ByteArray.size_append]; omega)]
      exact Or.inl ⟨rfl, rfl⟩
    · rw [if_neg hlt, if_neg hlt]
      by_cases he : ((j.x ++ x).size : Int) = j.n
      · rw [if_neg (fun h => h he)]
        exact Or.inr (Or.inr ⟨rfl, by simp only; omega, rfl⟩)
      · rw [if_pos he]
        exact Or.inr (Or.inl ⟨rfl, by simp only; rw [ByteArray.size_append] at he ⊢; omega, rfl⟩)
  have hlt := h.lt
  have hsz : (addS j x).x.size ≤ 2000000 := by
    unfold addS
    split
    · omega
    · show (j.x ++ x).size ≤ 2000000
      rw [ByteArray.size_append]; omega
  generalize endR j x = R at *
  generalize addE j x = er at *
  generalize addS j x = k at *
  obtain ⟨kb, ks, kd, kq, kx, kn⟩ := k
  have R0 : Bk (w.alloc (.cells #[.int .i64 0, .int .i64 0, .int .i64 0, .string ⟨#[]⟩] 33)) w.heap.size #[.int .i64 0, .int .i64 0, .int .i64 0, .string ⟨#[]⟩] 33 := Bk.new _ _ _
  have G0 : Gb b w (w.alloc (.cells #[.int .i64 0, .int .i64 0, .int .i64 0, .string ⟨#[]⟩] 33)) := (Gb.refl _ _).alloc _
  simp only [pj] at *
  clear h h1 h2
  go_enter Try.func24, Try.ntmps24
  go_upto_region 2 with (go_at_call 23; (with_reducible refine AC.mono ?_); rintro e v ⟨rfl, hk, hg⟩)
  have hne : ¬ w.heap.size = b := by omega
  have hne2 : ¬ b = w.heap.size := by omega
  have HK : Hid (Bk v b #[.bool kb, .int .i64 kn, .int .i64 ks, .int .i64 kd, .int .i64 kq, .string kx] 64) := hk
  have HR : Hid (Bk v w.heap.size #[.int .i64 0, .int .i64 0, .int .i64 0, .string ⟨#[]⟩] 33) := R0.gb hg hne
  have HG : Hid (Gb b w v) := G0.trans hg
  have hv := R0.gb hg hne |>.lt
  clear AC R0 G0 hk hg
  have c1 := HK.out.cell 1
  have c2 := HK.out.cell 2
  have c3 := HK.out.cell 3
  have c4 := HK.out.cell 4
  have c5 := HK.out.cell 5
  simp only [List.getElem?_toArray, List.getElem?_cons_zero, List.getElem?_cons_succ] at c1 c2 c3 c4 c5
  have hbv : b < v.heap.size := HK.out.lt
  have hnv : ¬ b = v.heap.size := by omega
  obtain ⟨r0, hr0⟩ : ∃ r, w.heap.size = r := ⟨_, rfl⟩
  rw [hr0] at HR hne hne2 hv ⊢
  go_region_held3 (fun V => V.cell? ⟨b, 1, none⟩ = some (.int .i64 kn) ∧ V.cell? ⟨b, 2, none⟩ = some (.int .i64 ks) ∧ V.cell? ⟨b, 3, none⟩ = some (.int .i64 kd) ∧ V.cell? ⟨b, 4, none⟩ = some (.int .i64 kq) ∧ V.cell? ⟨b, 5, none⟩ = some (.string kx))
    (first | go_keep) (first | fail)
  have HN : Hid (Bk (v.alloc (.cells #[.int .i64 ks, .int .i64 kd, .int .i64 kq, .string kx] 33)).drew v.heap.size #[.int .i64 ks, .int .i64 kd, .int .i64 kq, .string kx] 33) := (Bk.new v _ _).drew
  have HK2 : Hid (Bk (v.alloc (.cells #[.int .i64 ks, .int .i64 kd, .int .i64 kq, .string kx] 33)).drew b #[.bool kb, .int .i64 kn, .int .i64 ks, .int .i64 kd, .int .i64 kq, .string kx] 64) := (HK.out.alloc _).drew
  have HR2 : Hid (Bk (v.alloc (.cells #[.int .i64 ks, .int .i64 kd, .int .i64 kq, .string kx] 33)).drew r0 #[.int .i64 0, .int .i64 0, .int .i64 0, .string ⟨#[]⟩] 33) := (HR.out.alloc _).drew
  have HG2 : Hid (Gb b w (v.alloc (.cells #[.int .i64 ks, .int .i64 kd, .int .i64 kq, .string kx] 33)).drew) := (HG.out.alloc _).drew
  have hcv : r0 < v.heap.size := HR.out.lt
  have hwz : w.heap.size ≤ r0 := by omega
  clear HK HR HG c1 c2 c3 c4 c5 hv hlt
  go_upto_region 3 with fail
  generalize (v.alloc (.cells #[.int .i64 ks, .int .i64 kd, .int .i64 kq, .string kx] 33)).drew = v2 at *
  generalize v.heap.size = c at *
  have hnc : ¬ r0 = c := by omega
  have hnc2 : ¬ c = r0 := by omega
  have hnv2 : ¬ c = b := by omega
  have c0 := HK2.out.cell 0
  have c1 := HK2.out.cell 1
  have c2 := HK2.out.cell 2
  have c3 := HK2.out.cell 3
  have c4 := HK2.out.cell 4
  have c5 := HK2.out.cell 5
  have z0 := HK2.out.free 0
  have z1 := HK2.out.free 1
  have z2 := HK2.out.free 2
  have z3 := HK2.out.free 3
  have z4 := HK2.out.free 4
  have z5 := HK2.out.free 5
  simp only [List.getElem?_toArray, List.getElem?_cons_zero, List.getElem?_cons_succ] at c0 c1 c2 c3 c4 c5
  go_upto_region 4 with fail
  have XK := six_at (x0 := .bool false) (x1 := .int .i64 0) (x2 := .int .i64 0) (x3 := .int .i64 0) (x4 := .int .i64 0) (x5 := .string ⟨#[]⟩) HK2.out
  have XN := six_far (x0 := .bool false) (x1 := .int .i64 0) (x2 := .int .i64 0) (x3 := .int .i64 0) (x4 := .int .i64 0) (x5 := .string ⟨#[]⟩) HN.out hnv2
  have XR := six_far (x0 := .bool false) (x1 := .int .i64 0) (x2 := .int .i64 0) (x3 := .int .i64 0) (x4 := .int .i64 0) (x5 := .string ⟨#[]⟩) HR2.out hne
  have XG := HG2.out.six (.bool false) (.int .i64 0) (.int .i64 0) (.int .i64 0) (.int .i64 0) (.string ⟨#[]⟩)
  clear c0 c1 c2 c3 c4 c5 z0 z1 z2 z3 z4 z5 HK2 HN HR2 HG2
  generalize (((((v2.setCell ⟨b, 0, none⟩ (.bool false)).setCell ⟨b, 1, none⟩ (.int .i64 0)).setCell ⟨b, 2, none⟩ (.int .i64 0)).setCell ⟨b, 3, none⟩ (.int .i64 0)).setCell ⟨b, 4, none⟩ (.int .i64 0)).setCell ⟨b, 5, none⟩ (.string ⟨#[]⟩) = v3 at *
  have HXK : Hid (Bk v3 b #[.bool false, .int .i64 0, .int .i64 0, .int .i64 0, .int .i64 0, .string ⟨#[]⟩] 64) := XK
  have HXG : Hid (Gb b w v3) := XG
  have HXR : Hid (Bk v3 r0 #[.int .i64 0, .int .i64 0, .int .i64 0, .string ⟨#[]⟩] 33) := XR
  have d0 := XN.cell 0
  have d1 := XN.cell 1
  have d2 := XN.cell 2
  have d3 := XN.cell 3
  have r_0 := XR.cell 0
  have r_1 := XR.cell 1
  have r_2 := XR.cell 2
  have r_3 := XR.cell 3
  have f_0 := XR.free 0
  have f_1 := XR.free 1
  have f_2 := XR.free 2
  have f_3 := XR.free 3
  simp only [List.getElem?_toArray, List.getElem?_cons_zero, List.getElem?_cons_succ] at d0 d1 d2 d3 r_0 r_1 r_2 r_3
  clear XK XN XR XG
  rcases hcase with ⟨rfl, rfl⟩ | ⟨rfl, hq, rfl⟩ | ⟨rfl, hq, rfl⟩
  · go_wp2
    have Y := fourp_at (x0 := .int .i64 0) (x1 := .int .i64 0) (x2 := .int .i64 0) (x3 := .string ⟨#[]⟩) HXR.out
    have Y0 := Y.cell 0
    have Y1 := Y.cell 1
    have Y2 := Y.cell 2
    have Y3 := Y.cell 3
    simp only [List.getElem?_toArray, List.getElem?_cons_zero, List.getElem?_cons_succ] at Y0 Y1 Y2 Y3
    clear Y
    refine bodyPost_ret (v := .tuple #[.agg #[.int .i64 0, .int .i64 0, .int .i64 0, .string ⟨#[]⟩], .bool false, .int .i64 4]) (by simp [results, Try.results24, go_sem, Y0, Y1, Y2, Y3]; try rfl) rfl ⟨rfl, four_far HXK.out hne2, HXG.out.four hwz _ _ _ _⟩
  · go_wp2
    have Y := fourp_at (x0 := .int .i64 0) (x1 := .int .i64 0) (x2 := .int .i64 0) (x3 := .string ⟨#[]⟩) HXR.out
    have Y0 := Y.cell 0
    have Y1 := Y.cell 1
    have Y2 := Y.cell 2
    have Y3 := Y.cell 3
    simp only [List.getElem?_toArray, List.getElem?_cons_zero, List.getElem?_cons_succ] at Y0 Y1 Y2 Y3
    clear Y
    refine bodyPost_ret (v := .tuple #[.agg #[.int .i64 0, .int .i64 0, .int .i64 0, .string ⟨#[]⟩], .bool false, .int .i64 4]) (by simp [results, Try.results24, go_sem, Y0, Y1, Y2, Y3]; try rfl) rfl ⟨rfl, four_far HXK.out hne2, HXG.out.four hwz _ _ _ _⟩
  · go_wp2
    have Y := fourp_at (x0 := .int .i64 ks) (x1 := .int .i64 kd) (x2 := .int .i64 kq) (x3 := .string kx) HXR.out
    have Y0 := Y.cell 0
    have Y1 := Y.cell 1
    have Y2 := Y.cell 2
    have Y3 := Y.cell 3
    simp only [List.getElem?_toArray, List.getElem?_cons_zero, List.getElem?_cons_succ] at Y0 Y1 Y2 Y3
    clear Y
    refine bodyPost_ret (v := .tuple #[.agg #[.int .i64 ks, .int .i64 kd, .int .i64 kq, .string kx], .bool true, .int .i64 0]) (by simp [results, Try.results24, go_sem, Y0, Y1, Y2, Y3]; try rfl) rfl ⟨rfl, four_far HXK.out hne2, HXG.out.four hwz _ _ _ _⟩
end
end Go.Proofs.Ytockjijhckkicaa
