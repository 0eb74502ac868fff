/-
  The walk of the document's Take: words as a packet.
-/
import Derived.Test.YtockjijhckkicaaPk
import Derived.Test.YtockjijhckkicaaFour
import Derived.Test.YtockjijhckkicaaStage
namespace Go.Proofs.Ytockjijhckkicaa
open Go.RowKit

/-- What has begun, by value. -/
structure JS where
  b : Bool
  s : Int
  d : Int
  q : Int
  x : ByteArray
  n : Int
abbrev zjs : JS := ⟨false, 0, 0, 0, ByteArray.empty, 0⟩
abbrev jc (j : JS) : Array Value := #[.bool j.b, .int .i64 j.s, .int .i64 j.d, .int .i64 j.q, .string j.x, .int .i64 j.n]
abbrev jv (j : JS) : Value := .agg (jc j)
/-- A word comes: what has begun then, the packet that is whole, whether one is, the error. -/
def takeF (j : JS) (f : Fl) (e : Int) : JS × Pk × Bool × Int :=
  if ¬ e = 0 then (j, zpk, false, e)
  else if decide (f.k = 1) = j.b then (j, zpk, false, 13)
  else if f.k = 1 then (⟨true, f.s, f.d, f.q, ByteArray.empty, f.l⟩, zpk, false, 0)
  else if f.k = 3 then
    if ¬ ((j.x ++ f.x).size : Int) = j.n then (zjs, zpk, false, 4) else (zjs, ⟨j.s, j.d, j.q, j.x ++ f.x⟩, true, 0)
  else if j.n < ((j.x ++ f.x).size : Int) then (j, zpk, false, 4) else (⟨j.b, j.s, j.d, j.q, j.x ++ f.x, j.n⟩, zpk, false, 0)
def takeR (j : JS) (W : Nat) : JS × Pk × Bool × Int := takeF j (readR W).1 (readR W).2

theorem six_at {v : World} {b : Nat} {c0 c1 c2 c3 c4 c5 x0 x1 x2 x3 x4 x5 : Value} {t : TypeId} (h : Bk v b #[c0, c1, c2, c3, c4, c5] t) : Bk ((((((v.setCell ⟨b, 0, none⟩ x0).setCell ⟨b, 1, none⟩ x1).setCell ⟨b, 2, none⟩ x2).setCell ⟨b, 3, none⟩ x3).setCell ⟨b, 4, none⟩ x4).setCell ⟨b, 5, none⟩ x5) b #[x0, x1, x2, x3, x4, x5] t := by
  have := (((((h.set 0 x0).set 1 x1).set 2 x2).set 3 x3).set 4 x4).set 5 x5
  simpa using this
theorem six_far {v : World} {b b' : Nat} {cs : Array Value} {t : TypeId} {x0 x1 x2 x3 x4 x5 : Value} (h : Bk v b' cs t) (hne : ¬ b' = b) : Bk ((((((v.setCell ⟨b, 0, none⟩ x0).setCell ⟨b, 1, none⟩ x1).setCell ⟨b, 2, none⟩ x2).setCell ⟨b, 3, none⟩ x3).setCell ⟨b, 4, none⟩ x4).setCell ⟨b, 5, none⟩ x5) b' cs t := (((((h.far hne).far hne).far hne).far hne).far hne).far hne
theorem fourp_at {v : World} {b : Nat} {c0 c1 c2 c3 x0 x1 x2 x3 : Value} {t : TypeId} (h : Bk v b #[c0, c1, c2, c3] t) : Bk ((((v.setCell ⟨b, 0, none⟩ x0).setCell ⟨b, 1, none⟩ x1).setCell ⟨b, 2, none⟩ x2).setCell ⟨b, 3, none⟩ x3) b #[x0, x1, x2, x3] t := by
  have := (((h.set 0 x0).set 1 x1).set 2 x2).set 3 x3
  simpa using this
theorem below_6 {w v : World} {B b : Nat} (h : Below B w v) (hb : B ≤ b) (x0 x1 x2 x3 x4 x5 : Value) : Below B w ((((((v.setCell ⟨b, 0, none⟩ x0).setCell ⟨b, 1, none⟩ x1).setCell ⟨b, 2, none⟩ x2).setCell ⟨b, 3, none⟩ x3).setCell ⟨b, 4, none⟩ x4).setCell ⟨b, 5, none⟩ x5) :=
  (((((h.setCell hb _).setCell hb _).setCell hb _).setCell hb _).setCell hb _).setCell hb _
/-- Four blocks, one behind the other. -/
theorem blocks4 (w : World) (A B C D : Array Value) (t u r s : TypeId) :
    Hid (Bk ((((w.alloc (.cells A t)).alloc (.cells B u)).alloc (.cells C r)).alloc (.cells D s)) w.heap.size A t ∧ Bk ((((w.alloc (.cells A t)).alloc (.cells B u)).alloc (.cells C r)).alloc (.cells D s)) (w.heap.size + 1) B u ∧ Bk ((((w.alloc (.cells A t)).alloc (.cells B u)).alloc (.cells C r)).alloc (.cells D s)) (w.heap.size + 1 + 1) C r ∧ Bk ((((w.alloc (.cells A t)).alloc (.cells B u)).alloc (.cells C r)).alloc (.cells D s)) (w.heap.size + 1 + 1 + 1) D s ∧
      Below w.heap.size w ((((w.alloc (.cells A t)).alloc (.cells B u)).alloc (.cells C r)).alloc (.cells D s)) ∧ w.heap.size + 4 ≤ ((((w.alloc (.cells A t)).alloc (.cells B u)).alloc (.cells C r)).alloc (.cells D s)).heap.size) := by
  obtain ⟨h1, h2, h3, h4, h5⟩ := (three_blocks w A B C t u r).out
  have e3 : (((w.alloc (.cells A t)).alloc (.cells B u)).alloc (.cells C r)).heap.size = w.heap.size + 1 + 1 + 1 := by simp
  refine ⟨h1.alloc _, h2.alloc _, h3.alloc _, ?_, h4.alloc (by rw [e3]; omega) _, by simp⟩
  have := Bk.new (((w.alloc (.cells A t)).alloc (.cells B u)).alloc (.cells C r)) D s
  rw [e3] at this
  exact this

set_option maxRecDepth 100000 in
set_option maxHeartbeats 16000000 in
theorem rtake_any (j : JS) (W : Nat) (hW : W < 18446744073709551616) (hx : j.x.size ≤ 1000000) (w : World) :
    Calls Try.prog 12 #[jv j, .int .u64 (W : Int)] w fun e w' => e = .returned (.tuple #[jv (takeR j W).1, pkv (takeR j W).2.1, .bool (takeR j W).2.2.1, .int .i64 (takeR j W).2.2.2]) ∧ Below w.heap.size w w' := by
  have RC := fun w => rread_any W hW w
  have HX : Hid ((readR W).2 = 0 → (readR W).1.x.size ≤ 6) := show _ from fun h => by
    obtain ⟨_, hr⟩ := readR_ok h
    rcases right_forms hr with ⟨_, _, _, _, _, _, _, _, _, hx⟩ | ⟨h2, _, _, _, _, _, _, h3⟩
    · rw [hx]; decide
    · exact h3
  unfold takeR
  obtain ⟨F, hF⟩ : ∃ F, (readR W).1 = F := ⟨_, rfl⟩
  obtain ⟨er, hE⟩ : ∃ E, (readR W).2 = E := ⟨_, rfl⟩
  rw [hF, hE] at RC HX ⊢
  clear hF hE
  obtain ⟨rs, hrs⟩ : ∃ rs, takeF j F er = rs := ⟨_, rfl⟩
  have HRS0 : Hid (takeF j F er = rs) := hrs
  rw [hrs]
  clear hrs
  obtain ⟨jb, js, jd, jq, jx, jn⟩ := j
  obtain ⟨fk, fs, fd, fq, fl, fm, fc, fx⟩ := F
  simp only [jv, jc, flv, flc, pkv, pkc] at *
  have B0 := blocks4 w #[.bool jb, .int .i64 js, .int .i64 jd, .int .i64 jq, .string jx, .int .i64 jn] #[.bool false, .int .i64 0, .int .i64 0, .int .i64 0, .string ⟨#[]⟩, .int .i64 0] #[.int .i64 0, .int .i64 0, .int .i64 0, .string ⟨#[]⟩] #[.int .i64 0, .int .i64 0, .int .i64 0, .string ⟨#[]⟩] 35 35 33 33
  go_enter Try.func12, Try.ntmps12
  go_upto_region 3 with (go_at_call 17; (with_reducible refine (RC _).mono ?_); rintro e w2 ⟨rfl, hb2⟩)
  have H0 : Hid (Bk (w2.alloc (.cells #[.int .i64 fk, .int .i64 fs, .int .i64 fd, .int .i64 fq, .int .i64 fl, .bool fm, .bool fc, .string fx] 48)) w.heap.size #[.bool jb, .int .i64 js, .int .i64 jd, .int .i64 jq, .string jx, .int .i64 jn] 35) := (B0.out.1.next hb2).alloc _
  have H1 : Hid (Bk (w2.alloc (.cells #[.int .i64 fk, .int .i64 fs, .int .i64 fd, .int .i64 fq, .int .i64 fl, .bool fm, .bool fc, .string fx] 48)) (w.heap.size + 1) #[.bool false, .int .i64 0, .int .i64 0, .int .i64 0, .string ⟨#[]⟩, .int .i64 0] 35) := (B0.out.2.1.next hb2).alloc _
  have H2 : Hid (Bk (w2.alloc (.cells #[.int .i64 fk, .int .i64 fs, .int .i64 fd, .int .i64 fq, .int .i64 fl, .bool fm, .bool fc, .string fx] 48)) (w.heap.size + 1 + 1) #[.int .i64 0, .int .i64 0, .int .i64 0, .string ⟨#[]⟩] 33) := (B0.out.2.2.1.next hb2).alloc _
  have H3 : Hid (Bk (w2.alloc (.cells #[.int .i64 fk, .int .i64 fs, .int .i64 fd, .int .i64 fq, .int .i64 fl, .bool fm, .bool fc, .string fx] 48)) (w.heap.size + 1 + 1 + 1) #[.int .i64 0, .int .i64 0, .int .i64 0, .string ⟨#[]⟩] 33) := (B0.out.2.2.2.1.next hb2).alloc _
  have HFF : Hid (Bk (w2.alloc (.cells #[.int .i64 fk, .int .i64 fs, .int .i64 fd, .int .i64 fq, .int .i64 fl, .bool fm, .bool fc, .string fx] 48)) w2.heap.size #[.int .i64 fk, .int .i64 fs, .int .i64 fd, .int .i64 fq, .int .i64 fl, .bool fm, .bool fc, .string fx] 48) := Bk.new _ _ _
  have hbz : w.heap.size + 4 ≤ w2.heap.size := Nat.le_trans B0.out.2.2.2.2.2 hb2.size
  have HB : Hid (Below w.heap.size w (w2.alloc (.cells #[.int .i64 fk, .int .i64 fs, .int .i64 fd, .int .i64 fq, .int .i64 fl, .bool fm, .bool fc, .string fx] 48))) := (B0.out.2.2.2.2.1.trans (hb2.mono B0.out.2.2.2.2.1.size)).alloc (by omega) _
  clear RC hb2 B0
  generalize w2.alloc (.cells #[.int .i64 fk, .int .i64 fs, .int .i64 fd, .int .i64 fq, .int .i64 fl, .bool fm, .bool fc, .string fx] 48) = v at *
  generalize w2.heap.size = bf at *
  have q1 : ¬ w.heap.size = w.heap.size + 1 := by omega
  have q2 : ¬ w.heap.size = w.heap.size + 1 + 1 := by omega
  have q3 : ¬ w.heap.size + 1 + 1 + 1 = w.heap.size + 1 := by omega
  have q4 : ¬ w.heap.size + 1 + 1 + 1 = w.heap.size + 1 + 1 := by omega
  have q5 : ¬ w.heap.size + 1 = w.heap.size + 1 + 1 := by omega
  have q6 : ¬ w.heap.size + 1 + 1 = w.heap.size + 1 := by omega
  have q7 : ¬ bf = w.heap.size + 1 := by omega
  have q8 : ¬ bf = w.heap.size + 1 + 1 := by omega
  by_cases he : er = 0
  case neg =>
    have HRS : Hid (rs = (⟨jb, js, jd, jq, jx, jn⟩, zpk, false, er)) := show _ = _ by rw [← HRS0.out]; unfold takeF; rw [if_pos he]
    clear HRS0
    have e9 : rs = (⟨jb, js, jd, jq, jx, jn⟩, zpk, false, er) := HRS.out
    subst e9
    clear HRS
    go_upto_region 4 with fail
    refine wp_region_G (fun V : World => V.cell? ⟨w.heap.size, 0, none⟩ = some (.bool jb) ∧ V.cell? ⟨w.heap.size, 1, none⟩ = some (.int .i64 js) ∧ V.cell? ⟨w.heap.size, 2, none⟩ = some (.int .i64 jd) ∧ V.cell? ⟨w.heap.size, 3, none⟩ = some (.int .i64 jq) ∧ V.cell? ⟨w.heap.size, 4, none⟩ = some (.string jx) ∧ V.cell? ⟨w.heap.size, 5, none⟩ = some (.int .i64 jn) ∧ V.cell? ⟨w.heap.size + 1 + 1 + 1, 0, none⟩ = some (.int .i64 0) ∧ V.cell? ⟨w.heap.size + 1 + 1 + 1, 1, none⟩ = some (.int .i64 0) ∧ V.cell? ⟨w.heap.size + 1 + 1 + 1, 2, none⟩ = some (.int .i64 0) ∧ V.cell? ⟨w.heap.size + 1 + 1 + 1, 3, none⟩ = some (.string ⟨#[]⟩)) 6 (by kernel_rfl) ?_
    have D0 : Hid (Bk v.drew w.heap.size #[.bool jb, .int .i64 js, .int .i64 jd, .int .i64 jq, .string jx, .int .i64 jn] 35) := H0.out.drew
    have D1 : Hid (Bk v.drew (w.heap.size + 1) #[.bool false, .int .i64 0, .int .i64 0, .int .i64 0, .string ⟨#[]⟩, .int .i64 0] 35) := H1.out.drew
    have D2 : Hid (Bk v.drew (w.heap.size + 1 + 1) #[.int .i64 0, .int .i64 0, .int .i64 0, .string ⟨#[]⟩] 33) := H2.out.drew
    have D3 : Hid (Bk v.drew (w.heap.size + 1 + 1 + 1) #[.int .i64 0, .int .i64 0, .int .i64 0, .string ⟨#[]⟩] 33) := H3.out.drew
    have D4 : Hid (Bk v.drew bf #[.int .i64 fk, .int .i64 fs, .int .i64 fd, .int .i64 fq, .int .i64 fl, .bool fm, .bool fc, .string fx] 48) := HFF.out.drew
    have D5 : Hid (Below w.heap.size w v.drew) := HB.out.drew
    clear H0 H1 H2 H3 HFF HB
    generalize v.drew = vd at *
    have H0 := D0
    have H1 := D1
    have H2 := D2
    have H3 := D3
    have HFF := D4
    have HB := D5
    clear D0 D1 D2 D3 D4 D5
    have S0 : (fun V : World => V.cell? ⟨w.heap.size, 0, none⟩ = some (.bool jb) ∧ V.cell? ⟨w.heap.size, 1, none⟩ = some (.int .i64 js) ∧ V.cell? ⟨w.heap.size, 2, none⟩ = some (.int .i64 jd) ∧ V.cell? ⟨w.heap.size, 3, none⟩ = some (.int .i64 jq) ∧ V.cell? ⟨w.heap.size, 4, none⟩ = some (.string jx) ∧ V.cell? ⟨w.heap.size, 5, none⟩ = some (.int .i64 jn) ∧ V.cell? ⟨w.heap.size + 1 + 1 + 1, 0, none⟩ = some (.int .i64 0) ∧ V.cell? ⟨w.heap.size + 1 + 1 + 1, 1, none⟩ = some (.int .i64 0) ∧ V.cell? ⟨w.heap.size + 1 + 1 + 1, 2, none⟩ = some (.int .i64 0) ∧ V.cell? ⟨w.heap.size + 1 + 1 + 1, 3, none⟩ = some (.string ⟨#[]⟩)) vd := ⟨H0.out.cell 0, H0.out.cell 1, H0.out.cell 2, H0.out.cell 3, H0.out.cell 4, H0.out.cell 5, H3.out.cell 0, H3.out.cell 1, H3.out.cell 2, H3.out.cell 3⟩
    refine wpAnyG_take [6] (some 19) (i := 0) (v := ?vt10) rfl rfl (by kernel_rfl) (by kernel_rfl) (by kernel_rfl) (by kernel_rfl) (fun _ _ _ h => h) (Or.inl ⟨by rfl, ?yt10⟩) S0 ?rt10
    case yt10 => (intro V hSV; obtain ⟨d0, d1, d2, d3, d4, d5, d6, d7, d8, d9⟩ := hSV; go_simp; try with_reducible rfl)
    simp only [Act.put, List.setIfInBounds_toArray, List.set_cons_zero, List.set_cons_succ]
    refine wpAnyG_take [6] (some 20) (i := 1) (v := ?vt11) rfl rfl (by kernel_rfl) (by kernel_rfl) (by kernel_rfl) (by kernel_rfl) (fun _ _ _ h => h) (Or.inl ⟨by rfl, ?yt11⟩) S0 ?rt11
    case yt11 => (intro V hSV; obtain ⟨d0, d1, d2, d3, d4, d5, d6, d7, d8, d9⟩ := hSV; go_simp; try with_reducible rfl)
    simp only [Act.put, List.setIfInBounds_toArray, List.set_cons_zero, List.set_cons_succ]
    refine wpAnyG_take [6] (some 21) (i := 2) (v := ?vt12) rfl rfl (by kernel_rfl) (by kernel_rfl) (by kernel_rfl) (by kernel_rfl) (fun _ _ _ h => h) (Or.inl ⟨by rfl, ?yt12⟩) S0 ?rt12
    case yt12 => (intro V hSV; obtain ⟨d0, d1, d2, d3, d4, d5, d6, d7, d8, d9⟩ := hSV; go_simp; try with_reducible rfl)
    simp only [Act.put, List.setIfInBounds_toArray, List.set_cons_zero, List.set_cons_succ]
    have A0 : vd.cell? ⟨w.heap.size + 1, 0, none⟩ = some (.bool false) := H1.out.cell 0
    have A1 : vd.cell? ⟨w.heap.size + 1, 1, none⟩ = some (.int .i64 0) := H1.out.cell 1
    have A2 : vd.cell? ⟨w.heap.size + 1, 2, none⟩ = some (.int .i64 0) := H1.out.cell 2
    have A3 : vd.cell? ⟨w.heap.size + 1, 3, none⟩ = some (.int .i64 0) := H1.out.cell 3
    have A4 : vd.cell? ⟨w.heap.size + 1, 4, none⟩ = some (.string ⟨#[]⟩) := H1.out.cell 4
    have A5 : vd.cell? ⟨w.heap.size + 1, 5, none⟩ = some (.int .i64 0) := H1.out.cell 5
    have Z0 : vd.frozen? ⟨w.heap.size + 1, 0, none⟩ = false := H1.out.free 0
    have Z1 : vd.frozen? ⟨w.heap.size + 1, 1, none⟩ = false := H1.out.free 1
    have Z2 : vd.frozen? ⟨w.heap.size + 1, 2, none⟩ = false := H1.out.free 2
    have Z3 : vd.frozen? ⟨w.heap.size + 1, 3, none⟩ = false := H1.out.free 3
    have Z4 : vd.frozen? ⟨w.heap.size + 1, 4, none⟩ = false := H1.out.free 4
    have Z5 : vd.frozen? ⟨w.heap.size + 1, 5, none⟩ = false := H1.out.free 5
    refine wpAnyG_one (i := 3) (by kernel_rfl) rfl (fun K hK => ?_)
    go_simp
    have YH0 := six_far (x0 := .bool jb) (x1 := .int .i64 js) (x2 := .int .i64 jd) (x3 := .int .i64 jq) (x4 := .string jx) (x5 := .int .i64 jn) H0.out q1
    have YH3 := six_far (x0 := .bool jb) (x1 := .int .i64 js) (x2 := .int .i64 jd) (x3 := .int .i64 jq) (x4 := .string jx) (x5 := .int .i64 jn) H3.out q3
    have YJ := six_at (x0 := .bool jb) (x1 := .int .i64 js) (x2 := .int .i64 jd) (x3 := .int .i64 jq) (x4 := .string jx) (x5 := .int .i64 jn) H1.out
    have YP := six_far (x0 := .bool jb) (x1 := .int .i64 js) (x2 := .int .i64 jd) (x3 := .int .i64 jq) (x4 := .string jx) (x5 := .int .i64 jn) H2.out q6
    have YB := below_6 HB.out (Nat.le_succ w.heap.size) (.bool jb) (.int .i64 js) (.int .i64 jd) (.int .i64 jq) (.string jx) (.int .i64 jn)
    refine hK.out _ _ (Or.inr ?st1) ?_
    case st1 => exact ⟨YH0.cell 0, YH0.cell 1, YH0.cell 2, YH0.cell 3, YH0.cell 4, YH0.cell 5, YH3.cell 0, YH3.cell 1, YH3.cell 2, YH3.cell 3⟩
    clear hK K A0 A1 A2 A3 A4 A5 Z0 Z1 Z2 Z3 Z4 Z5 S0 H1 H2 HB
    clear H0
    clear H3
    generalize (((((vd.setCell ⟨w.heap.size + 1, 0, none⟩ (.bool jb)).setCell ⟨w.heap.size + 1, 1, none⟩ (.int .i64 js)).setCell ⟨w.heap.size + 1, 2, none⟩ (.int .i64 jd)).setCell ⟨w.heap.size + 1, 3, none⟩ (.int .i64 jq)).setCell ⟨w.heap.size + 1, 4, none⟩ (.string jx)).setCell ⟨w.heap.size + 1, 5, none⟩ (.int .i64 jn) = v2 at *
    have WH0 := four_far (x0 := .int .i64 0) (x1 := .int .i64 0) (x2 := .int .i64 0) (x3 := .string ⟨#[]⟩) YH0 q2
    have WH3 := four_far (x0 := .int .i64 0) (x1 := .int .i64 0) (x2 := .int .i64 0) (x3 := .string ⟨#[]⟩) YH3 q4
    have WJ := four_far (x0 := .int .i64 0) (x1 := .int .i64 0) (x2 := .int .i64 0) (x3 := .string ⟨#[]⟩) YJ q5
    have WP := fourp_at (x0 := .int .i64 0) (x1 := .int .i64 0) (x2 := .int .i64 0) (x3 := .string ⟨#[]⟩) YP
    have WB := below_four YB (Nat.le_add_right w.heap.size 2) (.int .i64 0) (.int .i64 0) (.int .i64 0) (.string ⟨#[]⟩)
    have HWH0 : Hid (Bk ((((v2.setCell ⟨w.heap.size + 1 + 1, 0, none⟩ (.int .i64 0)).setCell ⟨w.heap.size + 1 + 1, 1, none⟩ (.int .i64 0)).setCell ⟨w.heap.size + 1 + 1, 2, none⟩ (.int .i64 0)).setCell ⟨w.heap.size + 1 + 1, 3, none⟩ (.string ⟨#[]⟩)) (w.heap.size) #[.bool jb, .int .i64 js, .int .i64 jd, .int .i64 jq, .string jx, .int .i64 jn] 35) := WH0
    clear WH0
    have HWH3 : Hid (Bk ((((v2.setCell ⟨w.heap.size + 1 + 1, 0, none⟩ (.int .i64 0)).setCell ⟨w.heap.size + 1 + 1, 1, none⟩ (.int .i64 0)).setCell ⟨w.heap.size + 1 + 1, 2, none⟩ (.int .i64 0)).setCell ⟨w.heap.size + 1 + 1, 3, none⟩ (.string ⟨#[]⟩)) (w.heap.size + 1 + 1 + 1) #[.int .i64 0, .int .i64 0, .int .i64 0, .string ⟨#[]⟩] 33) := WH3
    clear WH3
    have HWJ : Hid (Bk ((((v2.setCell ⟨w.heap.size + 1 + 1, 0, none⟩ (.int .i64 0)).setCell ⟨w.heap.size + 1 + 1, 1, none⟩ (.int .i64 0)).setCell ⟨w.heap.size + 1 + 1, 2, none⟩ (.int .i64 0)).setCell ⟨w.heap.size + 1 + 1, 3, none⟩ (.string ⟨#[]⟩)) (w.heap.size + 1) #[.bool jb, .int .i64 js, .int .i64 jd, .int .i64 jq, .string jx, .int .i64 jn] 35) := WJ
    clear WJ
    have HWP : Hid (Bk ((((v2.setCell ⟨w.heap.size + 1 + 1, 0, none⟩ (.int .i64 0)).setCell ⟨w.heap.size + 1 + 1, 1, none⟩ (.int .i64 0)).setCell ⟨w.heap.size + 1 + 1, 2, none⟩ (.int .i64 0)).setCell ⟨w.heap.size + 1 + 1, 3, none⟩ (.string ⟨#[]⟩)) (w.heap.size + 1 + 1) #[.int .i64 0, .int .i64 0, .int .i64 0, .string ⟨#[]⟩] 33) := WP
    clear WP
    have HWB : Hid (Below w.heap.size w ((((v2.setCell ⟨w.heap.size + 1 + 1, 0, none⟩ (.int .i64 0)).setCell ⟨w.heap.size + 1 + 1, 1, none⟩ (.int .i64 0)).setCell ⟨w.heap.size + 1 + 1, 2, none⟩ (.int .i64 0)).setCell ⟨w.heap.size + 1 + 1, 3, none⟩ (.string ⟨#[]⟩))) := WB
    clear WB
    have A0 : v2.cell? ⟨w.heap.size + 1 + 1, 0, none⟩ = some (.int .i64 0) := YP.cell 0
    have A1 : v2.cell? ⟨w.heap.size + 1 + 1, 1, none⟩ = some (.int .i64 0) := YP.cell 1
    have A2 : v2.cell? ⟨w.heap.size + 1 + 1, 2, none⟩ = some (.int .i64 0) := YP.cell 2
    have A3 : v2.cell? ⟨w.heap.size + 1 + 1, 3, none⟩ = some (.string ⟨#[]⟩) := YP.cell 3
    have Z0 : v2.frozen? ⟨w.heap.size + 1 + 1, 0, none⟩ = false := YP.free 0
    have Z1 : v2.frozen? ⟨w.heap.size + 1 + 1, 1, none⟩ = false := YP.free 1
    have Z2 : v2.frozen? ⟨w.heap.size + 1 + 1, 2, none⟩ = false := YP.free 2
    have Z3 : v2.frozen? ⟨w.heap.size + 1 + 1, 3, none⟩ = false := YP.free 3
    clear YH0
    clear YH3
    clear YJ YP YB
    refine wpAnyG_one (i := 4) (by kernel_rfl) rfl (fun K hK => ?_)
    go_simp
    refine hK.out _ _ (Or.inr ?s2t1) ?_
    case s2t1 => exact ⟨HWH0.out.cell 0, HWH0.out.cell 1, HWH0.out.cell 2, HWH0.out.cell 3, HWH0.out.cell 4, HWH0.out.cell 5, HWH3.out.cell 0, HWH3.out.cell 1, HWH3.out.cell 2, HWH3.out.cell 3⟩
    clear hK K A0 A1 A2 A3 Z0 Z1 Z2 Z3
    generalize (((v2.setCell ⟨w.heap.size + 1 + 1, 0, none⟩ (.int .i64 0)).setCell ⟨w.heap.size + 1 + 1, 1, none⟩ (.int .i64 0)).setCell ⟨w.heap.size + 1 + 1, 2, none⟩ (.int .i64 0)).setCell ⟨w.heap.size + 1 + 1, 3, none⟩ (.string ⟨#[]⟩) = v3 at *
    refine wpAnyG_one (i := 5) (by kernel_rfl) rfl (fun K hK => ?_)
    go_simp
    refine hK.out _ _ (Or.inr ?s3t1) ?_
    case s3t1 => exact ⟨HWH0.out.cell 0, HWH0.out.cell 1, HWH0.out.cell 2, HWH0.out.cell 3, HWH0.out.cell 4, HWH0.out.cell 5, HWH3.out.cell 0, HWH3.out.cell 1, HWH3.out.cell 2, HWH3.out.cell 3⟩
    clear hK K
    refine wpAnyG_one (i := 6) (by kernel_rfl) rfl (fun K hK => ?_)
    go_simp
    refine hK.out _ _ (Or.inl (by kernel_rfl)) ?_
    clear hK K
    refine wpAnyG_done (by kernel_rfl) ?_ _
    have Y0 := HWJ.out.cell 0
    have Y1 := HWJ.out.cell 1
    have Y2 := HWJ.out.cell 2
    have Y3 := HWJ.out.cell 3
    have Y4 := HWJ.out.cell 4
    have Y5 := HWJ.out.cell 5
    have Y6 := HWP.out.cell 0
    have Y7 := HWP.out.cell 1
    have Y8 := HWP.out.cell 2
    have Y9 := HWP.out.cell 3
    simp only [List.getElem?_toArray, List.getElem?_cons_zero, List.getElem?_cons_succ] at Y0 Y1 Y2 Y3 Y4 Y5 Y6 Y7 Y8 Y9
    go_wp2
    refine bodyPost_ret (v := .tuple #[.agg #[.bool jb, .int .i64 js, .int .i64 jd, .int .i64 jq, .string jx, .int .i64 jn], .agg #[.int .i64 0, .int .i64 0, .int .i64 0, .string ⟨#[]⟩], .bool false, .int .i64 er]) (by simp [results, Try.results12, go_sem, Y0, Y1, Y2, Y3, Y4, Y5, Y6, Y7, Y8, Y9]; try rfl) rfl ⟨rfl, HWB.out⟩
  subst he
  have fx6 : fx.size ≤ 6 := HX.out rfl
  clear HX
  by_cases h1 : fk = 1
  · subst h1
    cases jb with
    | true =>
      have g0 := HFF.out.cell 0
      have j0 := H0.out.cell 0
      simp only [List.getElem?_toArray, List.getElem?_cons_zero] at g0 j0
      have HRS : Hid (rs = (⟨true, js, jd, jq, jx, jn⟩, zpk, false, 13)) := show _ = _ by rw [← HRS0.out]; rfl
      clear HRS0
      have e9 : rs = (⟨true, js, jd, jq, jx, jn⟩, zpk, false, 13) := HRS.out
      subst e9
      clear HRS
      go_upto_region 6 with fail
      refine wp_region_G (fun V : World => V.cell? ⟨w.heap.size, 0, none⟩ = some (.bool true) ∧ V.cell? ⟨w.heap.size, 1, none⟩ = some (.int .i64 js) ∧ V.cell? ⟨w.heap.size, 2, none⟩ = some (.int .i64 jd) ∧ V.cell? ⟨w.heap.size, 3, none⟩ = some (.int .i64 jq) ∧ V.cell? ⟨w.heap.size, 4, none⟩ = some (.string jx) ∧ V.cell? ⟨w.heap.size, 5, none⟩ = some (.int .i64 jn) ∧ V.cell? ⟨w.heap.size + 1 + 1 + 1, 0, none⟩ = some (.int .i64 0) ∧ V.cell? ⟨w.heap.size + 1 + 1 + 1, 1, none⟩ = some (.int .i64 0) ∧ V.cell? ⟨w.heap.size + 1 + 1 + 1, 2, none⟩ = some (.int .i64 0) ∧ V.cell? ⟨w.heap.size + 1 + 1 + 1, 3, none⟩ = some (.string ⟨#[]⟩)) 5 (by kernel_rfl) ?_
      have D0 : Hid (Bk v.drew w.heap.size #[.bool true, .int .i64 js, .int .i64 jd, .int .i64 jq, .string jx, .int .i64 jn] 35) := H0.out.drew
      have D1 : Hid (Bk v.drew (w.heap.size + 1) #[.bool false, .int .i64 0, .int .i64 0, .int .i64 0, .string ⟨#[]⟩, .int .i64 0] 35) := H1.out.drew
      have D2 : Hid (Bk v.drew (w.heap.size + 1 + 1) #[.int .i64 0, .int .i64 0, .int .i64 0, .string ⟨#[]⟩] 33) := H2.out.drew
      have D3 : Hid (Bk v.drew (w.heap.size + 1 + 1 + 1) #[.int .i64 0, .int .i64 0, .int .i64 0, .string ⟨#[]⟩] 33) := H3.out.drew
      have D4 : Hid (Bk v.drew bf #[.int .i64 1, .int .i64 fs, .int .i64 fd, .int .i64 fq, .int .i64 fl, .bool fm, .bool fc, .string fx] 48) := HFF.out.drew
      have D5 : Hid (Below w.heap.size w v.drew) := HB.out.drew
      clear H0 H1 H2 H3 HFF HB
      generalize v.drew = vd at *
      have H0 := D0
      have H1 := D1
      have H2 := D2
      have H3 := D3
      have HFF := D4
      have HB := D5
      clear D0 D1 D2 D3 D4 D5
      have S0 : (fun V : World => V.cell? ⟨w.heap.size, 0, none⟩ = some (.bool true) ∧ V.cell? ⟨w.heap.size, 1, none⟩ = some (.int .i64 js) ∧ V.cell? ⟨w.heap.size, 2, none⟩ = some (.int .i64 jd) ∧ V.cell? ⟨w.heap.size, 3, none⟩ = some (.int .i64 jq) ∧ V.cell? ⟨w.heap.size, 4, none⟩ = some (.string jx) ∧ V.cell? ⟨w.heap.size, 5, none⟩ = some (.int .i64 jn) ∧ V.cell? ⟨w.heap.size + 1 + 1 + 1, 0, none⟩ = some (.int .i64 0) ∧ V.cell? ⟨w.heap.size + 1 + 1 + 1, 1, none⟩ = some (.int .i64 0) ∧ V.cell? ⟨w.heap.size + 1 + 1 + 1, 2, none⟩ = some (.int .i64 0) ∧ V.cell? ⟨w.heap.size + 1 + 1 + 1, 3, none⟩ = some (.string ⟨#[]⟩)) vd := ⟨H0.out.cell 0, H0.out.cell 1, H0.out.cell 2, H0.out.cell 3, H0.out.cell 4, H0.out.cell 5, H3.out.cell 0, H3.out.cell 1, H3.out.cell 2, H3.out.cell 3⟩
      refine wpAnyG_take [5] (some 28) (i := 0) (v := ?vt20) rfl rfl (by kernel_rfl) (by kernel_rfl) (by kernel_rfl) (by kernel_rfl) (fun _ _ _ h => h) (Or.inl ⟨by rfl, ?yt20⟩) S0 ?rt20
      case yt20 => (intro V hSV; obtain ⟨d0, d1, d2, d3, d4, d5, d6, d7, d8, d9⟩ := hSV; go_simp; try with_reducible rfl)
      simp only [Act.put, List.setIfInBounds_toArray, List.set_cons_zero, List.set_cons_succ]
      refine wpAnyG_take [5] (some 29) (i := 1) (v := ?vt21) rfl rfl (by kernel_rfl) (by kernel_rfl) (by kernel_rfl) (by kernel_rfl) (fun _ _ _ h => h) (Or.inl ⟨by rfl, ?yt21⟩) S0 ?rt21
      case yt21 => (intro V hSV; obtain ⟨d0, d1, d2, d3, d4, d5, d6, d7, d8, d9⟩ := hSV; go_simp; try with_reducible rfl)
      simp only [Act.put, List.setIfInBounds_toArray, List.set_cons_zero, List.set_cons_succ]
      have A0 : vd.cell? ⟨w.heap.size + 1, 0, none⟩ = some (.bool false) := H1.out.cell 0
      have A1 : vd.cell? ⟨w.heap.size + 1, 1, none⟩ = some (.int .i64 0) := H1.out.cell 1
      have A2 : vd.cell? ⟨w.heap.size + 1, 2, none⟩ = some (.int .i64 0) := H1.out.cell 2
      have A3 : vd.cell? ⟨w.heap.size + 1, 3, none⟩ = some (.int .i64 0) := H1.out.cell 3
      have A4 : vd.cell? ⟨w.heap.size + 1, 4, none⟩ = some (.string ⟨#[]⟩) := H1.out.cell 4
      have A5 : vd.cell? ⟨w.heap.size + 1, 5, none⟩ = some (.int .i64 0) := H1.out.cell 5
      have Z0 : vd.frozen? ⟨w.heap.size + 1, 0, none⟩ = false := H1.out.free 0
      have Z1 : vd.frozen? ⟨w.heap.size + 1, 1, none⟩ = false := H1.out.free 1
      have Z2 : vd.frozen? ⟨w.heap.size + 1, 2, none⟩ = false := H1.out.free 2
      have Z3 : vd.frozen? ⟨w.heap.size + 1, 3, none⟩ = false := H1.out.free 3
      have Z4 : vd.frozen? ⟨w.heap.size + 1, 4, none⟩ = false := H1.out.free 4
      have Z5 : vd.frozen? ⟨w.heap.size + 1, 5, none⟩ = false := H1.out.free 5
      refine wpAnyG_one (i := 2) (by kernel_rfl) rfl (fun K hK => ?_)
      go_simp
      have YH0 := six_far (x0 := .bool true) (x1 := .int .i64 js) (x2 := .int .i64 jd) (x3 := .int .i64 jq) (x4 := .string jx) (x5 := .int .i64 jn) H0.out q1
      have YH3 := six_far (x0 := .bool true) (x1 := .int .i64 js) (x2 := .int .i64 jd) (x3 := .int .i64 jq) (x4 := .string jx) (x5 := .int .i64 jn) H3.out q3
      have YJ := six_at (x0 := .bool true) (x1 := .int .i64 js) (x2 := .int .i64 jd) (x3 := .int .i64 jq) (x4 := .string jx) (x5 := .int .i64 jn) H1.out
      have YP := six_far (x0 := .bool true) (x1 := .int .i64 js) (x2 := .int .i64 jd) (x3 := .int .i64 jq) (x4 := .string jx) (x5 := .int .i64 jn) H2.out q6
      have YB := below_6 HB.out (Nat.le_succ w.heap.size) (.bool true) (.int .i64 js) (.int .i64 jd) (.int .i64 jq) (.string jx) (.int .i64 jn)
      refine hK.out _ _ (Or.inr ?st2) ?_
      case st2 => exact ⟨YH0.cell 0, YH0.cell 1, YH0.cell 2, YH0.cell 3, YH0.cell 4, YH0.cell 5, YH3.cell 0, YH3.cell 1, YH3.cell 2, YH3.cell 3⟩
      clear hK K A0 A1 A2 A3 A4 A5 Z0 Z1 Z2 Z3 Z4 Z5 S0 H1 H2 HB
      clear H0
      clear H3
      generalize (((((vd.setCell ⟨w.heap.size + 1, 0, none⟩ (.bool true)).setCell ⟨w.heap.size + 1, 1, none⟩ (.int .i64 js)).setCell ⟨w.heap.size + 1, 2, none⟩ (.int .i64 jd)).setCell ⟨w.heap.size + 1, 3, none⟩ (.int .i64 jq)).setCell ⟨w.heap.size + 1, 4, none⟩ (.string jx)).setCell ⟨w.heap.size + 1, 5, none⟩ (.int .i64 jn) = v2 at *
      have WH0 := four_far (x0 := .int .i64 0) (x1 := .int .i64 0) (x2 := .int .i64 0) (x3 := .string ⟨#[]⟩) YH0 q2
      have WH3 := four_far (x0 := .int .i64 0) (x1 := .int .i64 0) (x2 := .int .i64 0) (x3 := .string ⟨#[]⟩) YH3 q4
      have WJ := four_far (x0 := .int .i64 0) (x1 := .int .i64 0) (x2 := .int .i64 0) (x3 := .string ⟨#[]⟩) YJ q5
      have WP := fourp_at (x0 := .int .i64 0) (x1 := .int .i64 0) (x2 := .int .i64 0) (x3 := .string ⟨#[]⟩) YP
      have WB := below_four YB (Nat.le_add_right w.heap.size 2) (.int .i64 0) (.int .i64 0) (.int .i64 0) (.string ⟨#[]⟩)
      have HWH0 : Hid (Bk ((((v2.setCell ⟨w.heap.size + 1 + 1, 0, none⟩ (.int .i64 0)).setCell ⟨w.heap.size + 1 + 1, 1, none⟩ (.int .i64 0)).setCell ⟨w.heap.size + 1 + 1, 2, none⟩ (.int .i64 0)).setCell ⟨w.heap.size + 1 + 1, 3, none⟩ (.string ⟨#[]⟩)) (w.heap.size) #[.bool true, .int .i64 js, .int .i64 jd, .int .i64 jq, .string jx, .int .i64 jn] 35) := WH0
      clear WH0
      have HWH3 : Hid (Bk ((((v2.setCell ⟨w.heap.size + 1 + 1, 0, none⟩ (.int .i64 0)).setCell ⟨w.heap.size + 1 + 1, 1, none⟩ (.int .i64 0)).setCell ⟨w.heap.size + 1 + 1, 2, none⟩ (.int .i64 0)).setCell ⟨w.heap.size + 1 + 1, 3, none⟩ (.string ⟨#[]⟩)) (w.heap.size + 1 + 1 + 1) #[.int .i64 0, .int .i64 0, .int .i64 0, .string ⟨#[]⟩] 33) := WH3
      clear WH3
      have HWJ : Hid (Bk ((((v2.setCell ⟨w.heap.size + 1 + 1, 0, none⟩ (.int .i64 0)).setCell ⟨w.heap.size + 1 + 1, 1, none⟩ (.int .i64 0)).setCell ⟨w.heap.size + 1 + 1, 2, none⟩ (.int .i64 0)).setCell ⟨w.heap.size + 1 + 1, 3, none⟩ (.string ⟨#[]⟩)) (w.heap.size + 1) #[.bool true, .int .i64 js, .int .i64 jd, .int .i64 jq, .string jx, .int .i64 jn] 35) := WJ
      clear WJ
      have HWP : Hid (Bk ((((v2.setCell ⟨w.heap.size + 1 + 1, 0, none⟩ (.int .i64 0)).setCell ⟨w.heap.size + 1 + 1, 1, none⟩ (.int .i64 0)).setCell ⟨w.heap.size + 1 + 1, 2, none⟩ (.int .i64 0)).setCell ⟨w.heap.size + 1 + 1, 3, none⟩ (.string ⟨#[]⟩)) (w.heap.size + 1 + 1) #[.int .i64 0, .int .i64 0, .int .i64 0, .string ⟨#[]⟩] 33) := WP
      clear WP
      have HWB : Hid (Below w.heap.size w ((((v2.setCell ⟨w.heap.size + 1 + 1, 0, none⟩ (.int .i64 0)).setCell ⟨w.heap.size + 1 + 1, 1, none⟩ (.int .i64 0)).setCell ⟨w.heap.size + 1 + 1, 2, none⟩ (.int .i64 0)).setCell ⟨w.heap.size + 1 + 1, 3, none⟩ (.string ⟨#[]⟩))) := WB
      clear WB
      have A0 : v2.cell? ⟨w.heap.size + 1 + 1, 0, none⟩ = some (.int .i64 0) := YP.cell 0
      have A1 : v2.cell? ⟨w.heap.size + 1 + 1, 1, none⟩ = some (.int .i64 0) := YP.cell 1
      have A2 : v2.cell? ⟨w.heap.size + 1 + 1, 2, none⟩ = some (.int .i64 0) := YP.cell 2
      have A3 : v2.cell? ⟨w.heap.size + 1 + 1, 3, none⟩ = some (.string ⟨#[]⟩) := YP.cell 3
      have Z0 : v2.frozen? ⟨w.heap.size + 1 + 1, 0, none⟩ = false := YP.free 0
      have Z1 : v2.frozen? ⟨w.heap.size + 1 + 1, 1, none⟩ = false := YP.free 1
      have Z2 : v2.frozen? ⟨w.heap.size + 1 + 1, 2, none⟩ = false := YP.free 2
      have Z3 : v2.frozen? ⟨w.heap.size + 1 + 1, 3, none⟩ = false := YP.free 3
      clear YH0
      clear YH3
      clear YJ YP YB
      refine wpAnyG_one (i := 3) (by kernel_rfl) rfl (fun K hK => ?_)
      go_simp
      refine hK.out _ _ (Or.inr ?s2t2) ?_
      case s2t2 => exact ⟨HWH0.out.cell 0, HWH0.out.cell 1, HWH0.out.cell 2, HWH0.out.cell 3, HWH0.out.cell 4, HWH0.out.cell 5, HWH3.out.cell 0, HWH3.out.cell 1, HWH3.out.cell 2, HWH3.out.cell 3⟩
      clear hK K A0 A1 A2 A3 Z0 Z1 Z2 Z3
      generalize (((v2.setCell ⟨w.heap.size + 1 + 1, 0, none⟩ (.int .i64 0)).setCell ⟨w.heap.size + 1 + 1, 1, none⟩ (.int .i64 0)).setCell ⟨w.heap.size + 1 + 1, 2, none⟩ (.int .i64 0)).setCell ⟨w.heap.size + 1 + 1, 3, none⟩ (.string ⟨#[]⟩) = v3 at *
      refine wpAnyG_one (i := 4) (by kernel_rfl) rfl (fun K hK => ?_)
      go_simp
      refine hK.out _ _ (Or.inr ?s3t2) ?_
      case s3t2 => exact ⟨HWH0.out.cell 0, HWH0.out.cell 1, HWH0.out.cell 2, HWH0.out.cell 3, HWH0.out.cell 4, HWH0.out.cell 5, HWH3.out.cell 0, HWH3.out.cell 1, HWH3.out.cell 2, HWH3.out.cell 3⟩
      clear hK K
      refine wpAnyG_one (i := 5) (by kernel_rfl) rfl (fun K hK => ?_)
      go_simp
      refine hK.out _ _ (Or.inl (by kernel_rfl)) ?_
      clear hK K
      refine wpAnyG_done (by kernel_rfl) ?_ _
      have Y0 := HWJ.out.cell 0
      have Y1 := HWJ.out.cell 1
      have Y2 := HWJ.out.cell 2
      have Y3 := HWJ.out.cell 3
      have Y4 := HWJ.out.cell 4
      have Y5 := HWJ.out.cell 5
      have Y6 := HWP.out.cell 0
      have Y7 := HWP.out.cell 1
      have Y8 := HWP.out.cell 2
      have Y9 := HWP.out.cell 3
      simp only [List.getElem?_toArray, List.getElem?_cons_zero, List.getElem?_cons_succ] at Y0 Y1 Y2 Y3 Y4 Y5 Y6 Y7 Y8 Y9
      go_wp2
      refine bodyPost_ret (v := .tuple #[.agg #[.bool true, .int .i64 js, .int .i64 jd, .int .i64 jq, .string jx, .int .i64 jn], .agg #[.int .i64 0, .int .i64 0, .int .i64 0, .string ⟨#[]⟩], .bool false, .int .i64 13]) (by simp [results, Try.results12, go_sem, Y0, Y1, Y2, Y3, Y4, Y5, Y6, Y7, Y8, Y9]; try rfl) rfl ⟨rfl, HWB.out⟩
    | false =>
      have g0 := HFF.out.cell 0
      have j0 := H0.out.cell 0
      simp only [List.getElem?_toArray, List.getElem?_cons_zero] at g0 j0
      have HRS : Hid (rs = (⟨true, fs, fd, fq, ByteArray.empty, fl⟩, zpk, false, 0)) := show _ = _ by rw [← HRS0.out]; rfl
      clear HRS0
      have e9 : rs = (⟨true, fs, fd, fq, ByteArray.empty, fl⟩, zpk, false, 0) := HRS.out
      subst e9
      clear HRS
      go_upto_region 8 with fail
      refine wp_region_G (fun V : World => V.cell? ⟨bf, 0, none⟩ = some (.int .i64 1) ∧ V.cell? ⟨bf, 1, none⟩ = some (.int .i64 fs) ∧ V.cell? ⟨bf, 2, none⟩ = some (.int .i64 fd) ∧ V.cell? ⟨bf, 3, none⟩ = some (.int .i64 fq) ∧ V.cell? ⟨bf, 4, none⟩ = some (.int .i64 fl) ∧ V.cell? ⟨w.heap.size + 1 + 1 + 1, 0, none⟩ = some (.int .i64 0) ∧ V.cell? ⟨w.heap.size + 1 + 1 + 1, 1, none⟩ = some (.int .i64 0) ∧ V.cell? ⟨w.heap.size + 1 + 1 + 1, 2, none⟩ = some (.int .i64 0) ∧ V.cell? ⟨w.heap.size + 1 + 1 + 1, 3, none⟩ = some (.string ⟨#[]⟩)) 14 (by kernel_rfl) ?_
      have D0 : Hid (Bk v.drew w.heap.size #[.bool false, .int .i64 js, .int .i64 jd, .int .i64 jq, .string jx, .int .i64 jn] 35) := H0.out.drew
      have D1 : Hid (Bk v.drew (w.heap.size + 1) #[.bool false, .int .i64 0, .int .i64 0, .int .i64 0, .string ⟨#[]⟩, .int .i64 0] 35) := H1.out.drew
      have D2 : Hid (Bk v.drew (w.heap.size + 1 + 1) #[.int .i64 0, .int .i64 0, .int .i64 0, .string ⟨#[]⟩] 33) := H2.out.drew
      have D3 : Hid (Bk v.drew (w.heap.size + 1 + 1 + 1) #[.int .i64 0, .int .i64 0, .int .i64 0, .string ⟨#[]⟩] 33) := H3.out.drew
      have D4 : Hid (Bk v.drew bf #[.int .i64 1, .int .i64 fs, .int .i64 fd, .int .i64 fq, .int .i64 fl, .bool fm, .bool fc, .string fx] 48) := HFF.out.drew
      have D5 : Hid (Below w.heap.size w v.drew) := HB.out.drew
      clear H0 H1 H2 H3 HFF HB
      generalize v.drew = vd at *
      have H0 := D0
      have H1 := D1
      have H2 := D2
      have H3 := D3
      have HFF := D4
      have HB := D5
      clear D0 D1 D2 D3 D4 D5
      have S0 : (fun V : World => V.cell? ⟨bf, 0, none⟩ = some (.int .i64 1) ∧ V.cell? ⟨bf, 1, none⟩ = some (.int .i64 fs) ∧ V.cell? ⟨bf, 2, none⟩ = some (.int .i64 fd) ∧ V.cell? ⟨bf, 3, none⟩ = some (.int .i64 fq) ∧ V.cell? ⟨bf, 4, none⟩ = some (.int .i64 fl) ∧ V.cell? ⟨w.heap.size + 1 + 1 + 1, 0, none⟩ = some (.int .i64 0) ∧ V.cell? ⟨w.heap.size + 1 + 1 + 1, 1, none⟩ = some (.int .i64 0) ∧ V.cell? ⟨w.heap.size + 1 + 1 + 1, 2, none⟩ = some (.int .i64 0) ∧ V.cell? ⟨w.heap.size + 1 + 1 + 1, 3, none⟩ = some (.string ⟨#[]⟩)) vd := ⟨HFF.out.cell 0, HFF.out.cell 1, HFF.out.cell 2, HFF.out.cell 3, HFF.out.cell 4, H3.out.cell 0, H3.out.cell 1, H3.out.cell 2, H3.out.cell 3⟩
      refine wpAnyG_take [14] (some 33) (i := 0) (v := ?vt30) rfl rfl (by kernel_rfl) (by kernel_rfl) (by kernel_rfl) (by kernel_rfl) (fun _ _ _ h => h) (Or.inl ⟨by rfl, ?yt30⟩) S0 ?rt30
      case yt30 => (intro V hSV; obtain ⟨d0, d1, d2, d3, d4, d5, d6, d7, d8⟩ := hSV; go_simp; try with_reducible rfl)
      simp only [Act.put, List.setIfInBounds_toArray, List.set_cons_zero, List.set_cons_succ]
      refine wpAnyG_take [14] (some 34) (i := 1) (v := ?vt31) rfl rfl (by kernel_rfl) (by kernel_rfl) (by kernel_rfl) (by kernel_rfl) (fun _ _ _ h => h) (Or.inl ⟨by rfl, ?yt31⟩) S0 ?rt31
      case yt31 => (intro V hSV; obtain ⟨d0, d1, d2, d3, d4, d5, d6, d7, d8⟩ := hSV; go_simp; try with_reducible rfl)
      simp only [Act.put, List.setIfInBounds_toArray, List.set_cons_zero, List.set_cons_succ]
      refine wpAnyG_take [14] (some 35) (i := 2) (v := ?vt32) rfl rfl (by kernel_rfl) (by kernel_rfl) (by kernel_rfl) (by kernel_rfl) (fun _ _ _ h => h) (Or.inl ⟨by rfl, ?yt32⟩) S0 ?rt32
      case yt32 => (intro V hSV; obtain ⟨d0, d1, d2, d3, d4, d5, d6, d7, d8⟩ := hSV; go_simp; try with_reducible rfl)
      simp only [Act.put, List.setIfInBounds_toArray, List.set_cons_zero, List.set_cons_succ]
      refine wpAnyG_take [14] (some 36) (i := 3) (v := ?vt33) rfl rfl (by kernel_rfl) (by kernel_rfl) (by kernel_rfl) (by kernel_rfl) (fun _ _ _ h => h) (Or.inl ⟨by rfl, ?yt33⟩) S0 ?rt33
      case yt33 => (intro V hSV; obtain ⟨d0, d1, d2, d3, d4, d5, d6, d7, d8⟩ := hSV; go_simp; try with_reducible rfl)
      simp only [Act.put, List.setIfInBounds_toArray, List.set_cons_zero, List.set_cons_succ]
      refine wpAnyG_take [14] (some 37) (i := 4) (v := ?vt34) rfl rfl (by kernel_rfl) (by kernel_rfl) (by kernel_rfl) (by kernel_rfl) (fun _ _ _ h => h) (Or.inl ⟨by rfl, ?yt34⟩) S0 ?rt34
      case yt34 => (intro V hSV; obtain ⟨d0, d1, d2, d3, d4, d5, d6, d7, d8⟩ := hSV; go_simp; try with_reducible rfl)
      simp only [Act.put, List.setIfInBounds_toArray, List.set_cons_zero, List.set_cons_succ]
      refine wpAnyG_take [14] (some 38) (i := 5) (v := ?vt35) rfl rfl (by kernel_rfl) (by kernel_rfl) (by kernel_rfl) (by kernel_rfl) (fun _ _ _ h => h) (Or.inl ⟨by rfl, ?yt35⟩) S0 ?rt35
      case yt35 => (intro V hSV; obtain ⟨d0, d1, d2, d3, d4, d5, d6, d7, d8⟩ := hSV; go_simp; try with_reducible rfl)
      simp only [Act.put, List.setIfInBounds_toArray, List.set_cons_zero, List.set_cons_succ]
      refine wpAnyG_take [14] (some 39) (i := 6) (v := ?vt36) rfl rfl (by kernel_rfl) (by kernel_rfl) (by kernel_rfl) (by kernel_rfl) (fun _ _ _ h => h) (Or.inl ⟨by rfl, ?yt36⟩) S0 ?rt36
      case yt36 => (intro V hSV; obtain ⟨d0, d1, d2, d3, d4, d5, d6, d7, d8⟩ := hSV; go_simp; try with_reducible rfl)
      simp only [Act.put, List.setIfInBounds_toArray, List.set_cons_zero, List.set_cons_succ]
      refine wpAnyG_take [14] (some 40) (i := 7) (v := ?vt37) rfl rfl (by kernel_rfl) (by kernel_rfl) (by kernel_rfl) (by kernel_rfl) (fun _ _ _ h => h) (Or.inl ⟨by rfl, ?yt37⟩) S0 ?rt37
      case yt37 => (intro V hSV; obtain ⟨d0, d1, d2, d3, d4, d5, d6, d7, d8⟩ := hSV; go_simp; try with_reducible rfl)
      simp only [Act.put, List.setIfInBounds_toArray, List.set_cons_zero, List.set_cons_succ]
      refine wpAnyG_take [14] (some 41) (i := 8) (v := ?vt38) rfl rfl (by kernel_rfl) (by kernel_rfl) (by kernel_rfl) (by kernel_rfl) (fun _ _ _ h => h) (Or.inl ⟨by rfl, ?yt38⟩) S0 ?rt38
      case yt38 => (intro V hSV; obtain ⟨d0, d1, d2, d3, d4, d5, d6, d7, d8⟩ := hSV; go_simp; try with_reducible rfl)
      simp only [Act.put, List.setIfInBounds_toArray, List.set_cons_zero, List.set_cons_succ]
      refine wpAnyG_take [14] (some 42) (i := 9) (v := ?vt39) rfl rfl (by kernel_rfl) (by kernel_rfl) (by kernel_rfl) (by kernel_rfl) (fun _ _ _ h => h) (Or.inl ⟨by rfl, ?yt39⟩) S0 ?rt39
      case yt39 => (intro V hSV; obtain ⟨d0, d1, d2, d3, d4, d5, d6, d7, d8⟩ := hSV; go_simp; try with_reducible rfl)
      simp only [Act.put, List.setIfInBounds_toArray, List.set_cons_zero, List.set_cons_succ]
      refine wpAnyG_take [14] (some 43) (i := 10) (v := ?vt310) rfl rfl (by kernel_rfl) (by kernel_rfl) (by kernel_rfl) (by kernel_rfl) (fun _ _ _ h => h) (Or.inl ⟨by rfl, ?yt310⟩) S0 ?rt310
      case yt310 => (intro V hSV; obtain ⟨d0, d1, d2, d3, d4, d5, d6, d7, d8⟩ := hSV; go_simp; try with_reducible rfl)
      simp only [Act.put, List.setIfInBounds_toArray, List.set_cons_zero, List.set_cons_succ]
      have A0 : vd.cell? ⟨w.heap.size + 1, 0, none⟩ = some (.bool false) := H1.out.cell 0
      have A1 : vd.cell? ⟨w.heap.size + 1, 1, none⟩ = some (.int .i64 0) := H1.out.cell 1
      have A2 : vd.cell? ⟨w.heap.size + 1, 2, none⟩ = some (.int .i64 0) := H1.out.cell 2
      have A3 : vd.cell? ⟨w.heap.size + 1, 3, none⟩ = some (.int .i64 0) := H1.out.cell 3
      have A4 : vd.cell? ⟨w.heap.size + 1, 4, none⟩ = some (.string ⟨#[]⟩) := H1.out.cell 4
      have A5 : vd.cell? ⟨w.heap.size + 1, 5, none⟩ = some (.int .i64 0) := H1.out.cell 5
      have Z0 : vd.frozen? ⟨w.heap.size + 1, 0, none⟩ = false := H1.out.free 0
      have Z1 : vd.frozen? ⟨w.heap.size + 1, 1, none⟩ = false := H1.out.free 1
      have Z2 : vd.frozen? ⟨w.heap.size + 1, 2, none⟩ = false := H1.out.free 2
      have Z3 : vd.frozen? ⟨w.heap.size + 1, 3, none⟩ = false := H1.out.free 3
      have Z4 : vd.frozen? ⟨w.heap.size + 1, 4, none⟩ = false := H1.out.free 4
      have Z5 : vd.frozen? ⟨w.heap.size + 1, 5, none⟩ = false := H1.out.free 5
      refine wpAnyG_one (i := 11) (by kernel_rfl) rfl (fun K hK => ?_)
      go_simp
      have YHFF := six_far (x0 := .bool true) (x1 := .int .i64 fs) (x2 := .int .i64 fd) (x3 := .int .i64 fq) (x4 := .string ⟨#[]⟩) (x5 := .int .i64 fl) HFF.out q7
      have YH3 := six_far (x0 := .bool true) (x1 := .int .i64 fs) (x2 := .int .i64 fd) (x3 := .int .i64 fq) (x4 := .string ⟨#[]⟩) (x5 := .int .i64 fl) H3.out q3
      have YJ := six_at (x0 := .bool true) (x1 := .int .i64 fs) (x2 := .int .i64 fd) (x3 := .int .i64 fq) (x4 := .string ⟨#[]⟩) (x5 := .int .i64 fl) H1.out
      have YP := six_far (x0 := .bool true) (x1 := .int .i64 fs) (x2 := .int .i64 fd) (x3 := .int .i64 fq) (x4 := .string ⟨#[]⟩) (x5 := .int .i64 fl) H2.out q6
      have YB := below_6 HB.out (Nat.le_succ w.heap.size) (.bool true) (.int .i64 fs) (.int .i64 fd) (.int .i64 fq) (.string ⟨#[]⟩) (.int .i64 fl)
      refine hK.out _ _ (Or.inr ?st3) ?_
      case st3 => exact ⟨YHFF.cell 0, YHFF.cell 1, YHFF.cell 2, YHFF.cell 3, YHFF.cell 4, YH3.cell 0, YH3.cell 1, YH3.cell 2, YH3.cell 3⟩
      clear hK K A0 A1 A2 A3 A4 A5 Z0 Z1 Z2 Z3 Z4 Z5 S0 H1 H2 HB
      clear HFF
      clear H3
      generalize (((((vd.setCell ⟨w.heap.size + 1, 0, none⟩ (.bool true)).setCell ⟨w.heap.size + 1, 1, none⟩ (.int .i64 fs)).setCell ⟨w.heap.size + 1, 2, none⟩ (.int .i64 fd)).setCell ⟨w.heap.size + 1, 3, none⟩ (.int .i64 fq)).setCell ⟨w.heap.size + 1, 4, none⟩ (.string ⟨#[]⟩)).setCell ⟨w.heap.size + 1, 5, none⟩ (.int .i64 fl) = v2 at *
      have WHFF := four_far (x0 := .int .i64 0) (x1 := .int .i64 0) (x2 := .int .i64 0) (x3 := .string ⟨#[]⟩) YHFF q8
      have WH3 := four_far (x0 := .int .i64 0) (x1 := .int .i64 0) (x2 := .int .i64 0) (x3 := .string ⟨#[]⟩) YH3 q4
      have WJ := four_far (x0 := .int .i64 0) (x1 := .int .i64 0) (x2 := .int .i64 0) (x3 := .string ⟨#[]⟩) YJ q5
      have WP := fourp_at (x0 := .int .i64 0) (x1 := .int .i64 0) (x2 := .int .i64 0) (x3 := .string ⟨#[]⟩) YP
      have WB := below_four YB (Nat.le_add_right w.heap.size 2) (.int .i64 0) (.int .i64 0) (.int .i64 0) (.string ⟨#[]⟩)
      have HWHFF : Hid (Bk ((((v2.setCell ⟨w.heap.size + 1 + 1, 0, none⟩ (.int .i64 0)).setCell ⟨w.heap.size + 1 + 1, 1, none⟩ (.int .i64 0)).setCell ⟨w.heap.size + 1 + 1, 2, none⟩ (.int .i64 0)).setCell ⟨w.heap.size + 1 + 1, 3, none⟩ (.string ⟨#[]⟩)) (bf) #[.int .i64 1, .int .i64 fs, .int .i64 fd, .int .i64 fq, .int .i64 fl, .bool fm, .bool fc, .string fx] 48) := WHFF
      clear WHFF
      have HWH3 : Hid (Bk ((((v2.setCell ⟨w.heap.size + 1 + 1, 0, none⟩ (.int .i64 0)).setCell ⟨w.heap.size + 1 + 1, 1, none⟩ (.int .i64 0)).setCell ⟨w.heap.size + 1 + 1, 2, none⟩ (.int .i64 0)).setCell ⟨w.heap.size + 1 + 1, 3, none⟩ (.string ⟨#[]⟩)) (w.heap.size + 1 + 1 + 1) #[.int .i64 0, .int .i64 0, .int .i64 0, .string ⟨#[]⟩] 33) := WH3
      clear WH3
      have HWJ : Hid (Bk ((((v2.setCell ⟨w.heap.size + 1 + 1, 0, none⟩ (.int .i64 0)).setCell ⟨w.heap.size + 1 + 1, 1, none⟩ (.int .i64 0)).setCell ⟨w.heap.size + 1 + 1, 2, none⟩ (.int .i64 0)).setCell ⟨w.heap.size + 1 + 1, 3, none⟩ (.string ⟨#[]⟩)) (w.heap.size + 1) #[.bool true, .int .i64 fs, .int .i64 fd, .int .i64 fq, .string ⟨#[]⟩, .int .i64 fl] 35) := WJ
      clear WJ
      have HWP : Hid (Bk ((((v2.setCell ⟨w.heap.size + 1 + 1, 0, none⟩ (.int .i64 0)).setCell ⟨w.heap.size + 1 + 1, 1, none⟩ (.int .i64 0)).setCell ⟨w.heap.size + 1 + 1, 2, none⟩ (.int .i64 0)).setCell ⟨w.heap.size + 1 + 1, 3, none⟩ (.string ⟨#[]⟩)) (w.heap.size + 1 + 1) #[.int .i64 0, .int .i64 0, .int .i64 0, .string ⟨#[]⟩] 33) := WP
      clear WP
      have HWB : Hid (Below w.heap.size w ((((v2.setCell ⟨w.heap.size + 1 + 1, 0, none⟩ (.int .i64 0)).setCell ⟨w.heap.size + 1 + 1, 1, none⟩ (.int .i64 0)).setCell ⟨w.heap.size + 1 + 1, 2, none⟩ (.int .i64 0)).setCell ⟨w.heap.size + 1 + 1, 3, none⟩ (.string ⟨#[]⟩))) := WB
      clear WB
      have A0 : v2.cell? ⟨w.heap.size + 1 + 1, 0, none⟩ = some (.int .i64 0) := YP.cell 0
      have A1 : v2.cell? ⟨w.heap.size + 1 + 1, 1, none⟩ = some (.int .i64 0) := YP.cell 1
      have A2 : v2.cell? ⟨w.heap.size + 1 + 1, 2, none⟩ = some (.int .i64 0) := YP.cell 2
      have A3 : v2.cell? ⟨w.heap.size + 1 + 1, 3, none⟩ = some (.string ⟨#[]⟩) := YP.cell 3
      have Z0 : v2.frozen? ⟨w.heap.size + 1 + 1, 0, none⟩ = false := YP.free 0
      have Z1 : v2.frozen? ⟨w.heap.size + 1 + 1, 1, none⟩ = false := YP.free 1
      have Z2 : v2.frozen? ⟨w.heap.size + 1 + 1, 2, none⟩ = false := YP.free 2
      have Z3 : v2.frozen? ⟨w.heap.size + 1 + 1, 3, none⟩ = false := YP.free 3
      clear YHFF
      clear YH3
      clear YJ YP YB
      refine wpAnyG_one (i := 12) (by kernel_rfl) rfl (fun K hK => ?_)
      go_simp
      refine hK.out _ _ (Or.inr ?s2t3) ?_
      case s2t3 => exact ⟨HWHFF.out.cell 0, HWHFF.out.cell 1, HWHFF.out.cell 2, HWHFF.out.cell 3, HWHFF.out.cell 4, HWH3.out.cell 0, HWH3.out.cell 1, HWH3.out.cell 2, HWH3.out.cell 3⟩
      clear hK K A0 A1 A2 A3 Z0 Z1 Z2 Z3
      generalize (((v2.setCell ⟨w.heap.size + 1 + 1, 0, none⟩ (.int .i64 0)).setCell ⟨w.heap.size + 1 + 1, 1, none⟩ (.int .i64 0)).setCell ⟨w.heap.size + 1 + 1, 2, none⟩ (.int .i64 0)).setCell ⟨w.heap.size + 1 + 1, 3, none⟩ (.string ⟨#[]⟩) = v3 at *
      refine wpAnyG_one (i := 13) (by kernel_rfl) rfl (fun K hK => ?_)
      go_simp
      refine hK.out _ _ (Or.inr ?s3t3) ?_
      case s3t3 => exact ⟨HWHFF.out.cell 0, HWHFF.out.cell 1, HWHFF.out.cell 2, HWHFF.out.cell 3, HWHFF.out.cell 4, HWH3.out.cell 0, HWH3.out.cell 1, HWH3.out.cell 2, HWH3.out.cell 3⟩
      clear hK K
      refine wpAnyG_one (i := 14) (by kernel_rfl) rfl (fun K hK => ?_)
      go_simp
      refine hK.out _ _ (Or.inl (by kernel_rfl)) ?_
      clear hK K
      refine wpAnyG_done (by kernel_rfl) ?_ _
      have Y0 := HWJ.out.cell 0
      have Y1 := HWJ.out.cell 1
      have Y2 := HWJ.out.cell 2
      have Y3 := HWJ.out.cell 3
      have Y4 := HWJ.out.cell 4
      have Y5 := HWJ.out.cell 5
      have Y6 := HWP.out.cell 0
      have Y7 := HWP.out.cell 1
      have Y8 := HWP.out.cell 2
      have Y9 := HWP.out.cell 3
      simp only [List.getElem?_toArray, List.getElem?_cons_zero, List.getElem?_cons_succ] at Y0 Y1 Y2 Y3 Y4 Y5 Y6 Y7 Y8 Y9
      go_wp2
      refine bodyPost_ret (v := .tuple #[.agg #[.bool true, .int .i64 fs, .int .i64 fd, .int .i64 fq, .string ⟨#[]⟩, .int .i64 fl], .agg #[.int .i64 0, .int .i64 0, .int .i64 0, .string ⟨#[]⟩], .bool false, .int .i64 0]) (by simp [results, Try.results12, go_sem, Y0, Y1, Y2, Y3, Y4, Y5, Y6, Y7, Y8, Y9]; try rfl) rfl ⟨rfl, HWB.out⟩
  have b1 : (fk == 1) = false := by simp [h1]
  have g0 := HFF.out.cell 0
  have g7 := HFF.out.cell 7
  have j0 := H0.out.cell 0
  have j1 := H0.out.cell 1
  have j2 := H0.out.cell 2
  have j3 := H0.out.cell 3
  have j4 := H0.out.cell 4
  have j5 := H0.out.cell 5
  simp only [List.getElem?_toArray, List.getElem?_cons_zero, List.getElem?_cons_succ] at g0 g7 j0 j1 j2 j3 j4 j5
  cases jb with
  | false =>
    have HRS : Hid (rs = (⟨false, js, jd, jq, jx, jn⟩, zpk, false, 13)) := show _ = _ by
      rw [← HRS0.out]
      unfold takeF
      rw [if_neg (by simp), if_pos (by simp [h1])]
    clear HRS0
    have e9 : rs = (⟨false, js, jd, jq, jx, jn⟩, zpk, false, 13) := HRS.out
    subst e9
    clear HRS
    go_upto_region 6 with fail
    refine wp_region_G (fun V : World => V.cell? ⟨w.heap.size, 0, none⟩ = some (.bool false) ∧ V.cell? ⟨w.heap.size, 1, none⟩ = some (.int .i64 js) ∧ V.cell? ⟨w.heap.size, 2, none⟩ = some (.int .i64 jd) ∧ V.cell? ⟨w.heap.size, 3, none⟩ = some (.int .i64 jq) ∧ V.cell? ⟨w.heap.size, 4, none⟩ = some (.string jx) ∧ V.cell? ⟨w.heap.size, 5, none⟩ = some (.int .i64 jn) ∧ V.cell? ⟨w.heap.size + 1 + 1 + 1, 0, none⟩ = some (.int .i64 0) ∧ V.cell? ⟨w.heap.size + 1 + 1 + 1, 1, none⟩ = some (.int .i64 0) ∧ V.cell? ⟨w.heap.size + 1 + 1 + 1, 2, none⟩ = some (.int .i64 0) ∧ V.cell? ⟨w.heap.size + 1 + 1 + 1, 3, none⟩ = some (.string ⟨#[]⟩)) 5 (by kernel_rfl) ?_
    have D0 : Hid (Bk v.drew w.heap.size #[.bool false, .int .i64 js, .int .i64 jd, .int .i64 jq, .string jx, .int .i64 jn] 35) := H0.out.drew
    have D1 : Hid (Bk v.drew (w.heap.size + 1) #[.bool false, .int .i64 0, .int .i64 0, .int .i64 0, .string ⟨#[]⟩, .int .i64 0] 35) := H1.out.drew
    have D2 : Hid (Bk v.drew (w.heap.size + 1 + 1) #[.int .i64 0, .int .i64 0, .int .i64 0, .string ⟨#[]⟩] 33) := H2.out.drew
    have D3 : Hid (Bk v.drew (w.heap.size + 1 + 1 + 1) #[.int .i64 0, .int .i64 0, .int .i64 0, .string ⟨#[]⟩] 33) := H3.out.drew
    have D4 : Hid (Bk v.drew bf #[.int .i64 fk, .int .i64 fs, .int .i64 fd, .int .i64 fq, .int .i64 fl, .bool fm, .bool fc, .string fx] 48) := HFF.out.drew
    have D5 : Hid (Below w.heap.size w v.drew) := HB.out.drew
    clear H0 H1 H2 H3 HFF HB
    generalize v.drew = vd at *
    have H0 := D0
    have H1 := D1
    have H2 := D2
    have H3 := D3
    have HFF := D4
    have HB := D5
    clear D0 D1 D2 D3 D4 D5
    have S0 : (fun V : World => V.cell? ⟨w.heap.size, 0, none⟩ = some (.bool false) ∧ V.cell? ⟨w.heap.size, 1, none⟩ = some (.int .i64 js) ∧ V.cell? ⟨w.heap.size, 2, none⟩ = some (.int .i64 jd) ∧ V.cell? ⟨w.heap.size, 3, none⟩ = some (.int .i64 jq) ∧ V.cell? ⟨w.heap.size, 4, none⟩ = some (.string jx) ∧ V.cell? ⟨w.heap.size, 5, none⟩ = some (.int .i64 jn) ∧ V.cell? ⟨w.heap.size + 1 + 1 + 1, 0, none⟩ = some (.int .i64 0) ∧ V.cell? ⟨w.heap.size + 1 + 1 + 1, 1, none⟩ = some (.int .i64 0) ∧ V.cell? ⟨w.heap.size + 1 + 1 + 1, 2, none⟩ = some (.int .i64 0) ∧ V.cell? ⟨w.heap.size + 1 + 1 + 1, 3, none⟩ = some (.string ⟨#[]⟩)) vd := ⟨H0.out.cell 0, H0.out.cell 1, H0.out.cell 2, H0.out.cell 3, H0.out.cell 4, H0.out.cell 5, H3.out.cell 0, H3.out.cell 1, H3.out.cell 2, H3.out.cell 3⟩
    refine wpAnyG_take [5] (some 28) (i := 0) (v := ?vt40) rfl rfl (by kernel_rfl) (by kernel_rfl) (by kernel_rfl) (by kernel_rfl) (fun _ _ _ h => h) (Or.inl ⟨by rfl, ?yt40⟩) S0 ?rt40
    case yt40 => (intro V hSV; obtain ⟨d0, d1, d2, d3, d4, d5, d6, d7, d8, d9⟩ := hSV; go_simp; try with_reducible rfl)
    simp only [Act.put, List.setIfInBounds_toArray, List.set_cons_zero, List.set_cons_succ]
    refine wpAnyG_take [5] (some 29) (i := 1) (v := ?vt41) rfl rfl (by kernel_rfl) (by kernel_rfl) (by kernel_rfl) (by kernel_rfl) (fun _ _ _ h => h) (Or.inl ⟨by rfl, ?yt41⟩) S0 ?rt41
    case yt41 => (intro V hSV; obtain ⟨d0, d1, d2, d3, d4, d5, d6, d7, d8, d9⟩ := hSV; go_simp; try with_reducible rfl)
    simp only [Act.put, List.setIfInBounds_toArray, List.set_cons_zero, List.set_cons_succ]
    have A0 : vd.cell? ⟨w.heap.size + 1, 0, none⟩ = some (.bool false) := H1.out.cell 0
    have A1 : vd.cell? ⟨w.heap.size + 1, 1, none⟩ = some (.int .i64 0) := H1.out.cell 1
    have A2 : vd.cell? ⟨w.heap.size + 1, 2, none⟩ = some (.int .i64 0) := H1.out.cell 2
    have A3 : vd.cell? ⟨w.heap.size + 1, 3, none⟩ = some (.int .i64 0) := H1.out.cell 3
    have A4 : vd.cell? ⟨w.heap.size + 1, 4, none⟩ = some (.string ⟨#[]⟩) := H1.out.cell 4
    have A5 : vd.cell? ⟨w.heap.size + 1, 5, none⟩ = some (.int .i64 0) := H1.out.cell 5
    have Z0 : vd.frozen? ⟨w.heap.size + 1, 0, none⟩ = false := H1.out.free 0
    have Z1 : vd.frozen? ⟨w.heap.size + 1, 1, none⟩ = false := H1.out.free 1
    have Z2 : vd.frozen? ⟨w.heap.size + 1, 2, none⟩ = false := H1.out.free 2
    have Z3 : vd.frozen? ⟨w.heap.size + 1, 3, none⟩ = false := H1.out.free 3
    have Z4 : vd.frozen? ⟨w.heap.size + 1, 4, none⟩ = false := H1.out.free 4
    have Z5 : vd.frozen? ⟨w.heap.size + 1, 5, none⟩ = false := H1.out.free 5
    refine wpAnyG_one (i := 2) (by kernel_rfl) rfl (fun K hK => ?_)
    go_simp
    have YH0 := six_far (x0 := .bool false) (x1 := .int .i64 js) (x2 := .int .i64 jd) (x3 := .int .i64 jq) (x4 := .string jx) (x5 := .int .i64 jn) H0.out q1
    have YH3 := six_far (x0 := .bool false) (x1 := .int .i64 js) (x2 := .int .i64 jd) (x3 := .int .i64 jq) (x4 := .string jx) (x5 := .int .i64 jn) H3.out q3
    have YJ := six_at (x0 := .bool false) (x1 := .int .i64 js) (x2 := .int .i64 jd) (x3 := .int .i64 jq) (x4 := .string jx) (x5 := .int .i64 jn) H1.out
    have YP := six_far (x0 := .bool false) (x1 := .int .i64 js) (x2 := .int .i64 jd) (x3 := .int .i64 jq) (x4 := .string jx) (x5 := .int .i64 jn) H2.out q6
    have YB := below_6 HB.out (Nat.le_succ w.heap.size) (.bool false) (.int .i64 js) (.int .i64 jd) (.int .i64 jq) (.string jx) (.int .i64 jn)
    refine hK.out _ _ (Or.inr ?st4) ?_
    case st4 => exact ⟨YH0.cell 0, YH0.cell 1, YH0.cell 2, YH0.cell 3, YH0.cell 4, YH0.cell 5, YH3.cell 0, YH3.cell 1, YH3.cell 2, YH3.cell 3⟩
    clear hK K A0 A1 A2 A3 A4 A5 Z0 Z1 Z2 Z3 Z4 Z5 S0 H1 H2 HB
    clear H0
    clear H3
    generalize (((((vd.setCell ⟨w.heap.size + 1, 0, none⟩ (.bool false)).setCell ⟨w.heap.size + 1, 1, none⟩ (.int .i64 js)).setCell ⟨w.heap.size + 1, 2, none⟩ (.int .i64 jd)).setCell ⟨w.heap.size + 1, 3, none⟩ (.int .i64 jq)).setCell ⟨w.heap.size + 1, 4, none⟩ (.string jx)).setCell ⟨w.heap.size + 1, 5, none⟩ (.int .i64 jn) = v2 at *
    have WH0 := four_far (x0 := .int .i64 0) (x1 := .int .i64 0) (x2 := .int .i64 0) (x3 := .string ⟨#[]⟩) YH0 q2
    have WH3 := four_far (x0 := .int .i64 0) (x1 := .int .i64 0) (x2 := .int .i64 0) (x3 := .string ⟨#[]⟩) YH3 q4
    have WJ := four_far (x0 := .int .i64 0) (x1 := .int .i64 0) (x2 := .int .i64 0) (x3 := .string ⟨#[]⟩) YJ q5
    have WP := fourp_at (x0 := .int .i64 0) (x1 := .int .i64 0) (x2 := .int .i64 0) (x3 := .string ⟨#[]⟩) YP
    have WB := below_four YB (Nat.le_add_right w.heap.size 2) (.int .i64 0) (.int .i64 0) (.int .i64 0) (.string ⟨#[]⟩)
    have HWH0 : Hid (Bk ((((v2.setCell ⟨w.heap.size + 1 + 1, 0, none⟩ (.int .i64 0)).setCell ⟨w.heap.size + 1 + 1, 1, none⟩ (.int .i64 0)).setCell ⟨w.heap.size + 1 + 1, 2, none⟩ (.int .i64 0)).setCell ⟨w.heap.size + 1 + 1, 3, none⟩ (.string ⟨#[]⟩)) (w.heap.size) #[.bool false, .int .i64 js, .int .i64 jd, .int .i64 jq, .string jx, .int .i64 jn] 35) := WH0
    clear WH0
    have HWH3 : Hid (Bk ((((v2.setCell ⟨w.heap.size + 1 + 1, 0, none⟩ (.int .i64 0)).setCell ⟨w.heap.size + 1 + 1, 1, none⟩ (.int .i64 0)).setCell ⟨w.heap.size + 1 + 1, 2, none⟩ (.int .i64 0)).setCell ⟨w.heap.size + 1 + 1, 3, none⟩ (.string ⟨#[]⟩)) (w.heap.size + 1 + 1 + 1) #[.int .i64 0, .int .i64 0, .int .i64 0, .string ⟨#[]⟩] 33) := WH3
    clear WH3
    have HWJ : Hid (Bk ((((v2.setCell ⟨w.heap.size + 1 + 1, 0, none⟩ (.int .i64 0)).setCell ⟨w.heap.size + 1 + 1, 1, none⟩ (.int .i64 0)).setCell ⟨w.heap.size + 1 + 1, 2, none⟩ (.int .i64 0)).setCell ⟨w.heap.size + 1 + 1, 3, none⟩ (.string ⟨#[]⟩)) (w.heap.size + 1) #[.bool false, .int .i64 js, .int .i64 jd, .int .i64 jq, .string jx, .int .i64 jn] 35) := WJ
    clear WJ
    have HWP : Hid (Bk ((((v2.setCell ⟨w.heap.size + 1 + 1, 0, none⟩ (.int .i64 0)).setCell ⟨w.heap.size + 1 + 1, 1, none⟩ (.int .i64 0)).setCell ⟨w.heap.size + 1 + 1, 2, none⟩ (.int .i64 0)).setCell ⟨w.heap.size + 1 + 1, 3, none⟩ (.string ⟨#[]⟩)) (w.heap.size + 1 + 1) #[.int .i64 0, .int .i64 0, .int .i64 0, .string ⟨#[]⟩] 33) := WP
    clear WP
    have HWB : Hid (Below w.heap.size w ((((v2.setCell ⟨w.heap.size + 1 + 1, 0, none⟩ (.int .i64 0)).setCell ⟨w.heap.size + 1 + 1, 1, none⟩ (.int .i64 0)).setCell ⟨w.heap.size + 1 + 1, 2, none⟩ (.int .i64 0)).setCell ⟨w.heap.size + 1 + 1, 3, none⟩ (.string ⟨#[]⟩))) := WB
    clear WB
    have A0 : v2.cell? ⟨w.heap.size + 1 + 1, 0, none⟩ = some (.int .i64 0) := YP.cell 0
    have A1 : v2.cell? ⟨w.heap.size + 1 + 1, 1, none⟩ = some (.int .i64 0) := YP.cell 1
    have A2 : v2.cell? ⟨w.heap.size + 1 + 1, 2, none⟩ = some (.int .i64 0) := YP.cell 2
    have A3 : v2.cell? ⟨w.heap.size + 1 + 1, 3, none⟩ = some (.string ⟨#[]⟩) := YP.cell 3
    have Z0 : v2.frozen? ⟨w.heap.size + 1 + 1, 0, none⟩ = false := YP.free 0
    have Z1 : v2.frozen? ⟨w.heap.size + 1 + 1, 1, none⟩ = false := YP.free 1
    have Z2 : v2.frozen? ⟨w.heap.size + 1 + 1, 2, none⟩ = false := YP.free 2
    have Z3 : v2.frozen? ⟨w.heap.size + 1 + 1, 3, none⟩ = false := YP.free 3
    clear YH0
    clear YH3
    clear YJ YP YB
    refine wpAnyG_one (i := 3) (by kernel_rfl) rfl (fun K hK => ?_)
    go_simp
    refine hK.out _ _ (Or.inr ?s2t4) ?_
    case s2t4 => exact ⟨HWH0.out.cell 0, HWH0.out.cell 1, HWH0.out.cell 2, HWH0.out.cell 3, HWH0.out.cell 4, HWH0.out.cell 5, HWH3.out.cell 0, HWH3.out.cell 1, HWH3.out.cell 2, HWH3.out.cell 3⟩
    clear hK K A0 A1 A2 A3 Z0 Z1 Z2 Z3
    generalize (((v2.setCell ⟨w.heap.size + 1 + 1, 0, none⟩ (.int .i64 0)).setCell ⟨w.heap.size + 1 + 1, 1, none⟩ (.int .i64 0)).setCell ⟨w.heap.size + 1 + 1, 2, none⟩ (.int .i64 0)).setCell ⟨w.heap.size + 1 + 1, 3, none⟩ (.string ⟨#[]⟩) = v3 at *
    refine wpAnyG_one (i := 4) (by kernel_rfl) rfl (fun K hK => ?_)
    go_simp
    refine hK.out _ _ (Or.inr ?s3t4) ?_
    case s3t4 => exact ⟨HWH0.out.cell 0, HWH0.out.cell 1, HWH0.out.cell 2, HWH0.out.cell 3, HWH0.out.cell 4, HWH0.out.cell 5, HWH3.out.cell 0, HWH3.out.cell 1, HWH3.out.cell 2, HWH3.out.cell 3⟩
    clear hK K
    refine wpAnyG_one (i := 5) (by kernel_rfl) rfl (fun K hK => ?_)
    go_simp
    refine hK.out _ _ (Or.inl (by kernel_rfl)) ?_
    clear hK K
    refine wpAnyG_done (by kernel_rfl) ?_ _
    have Y0 := HWJ.out.cell 0
    have Y1 := HWJ.out.cell 1
    have Y2 := HWJ.out.cell 2
    have Y3 := HWJ.out.cell 3
    have Y4 := HWJ.out.cell 4
    have Y5 := HWJ.out.cell 5
    have Y6 := HWP.out.cell 0
    have Y7 := HWP.out.cell 1
    have Y8 := HWP.out.cell 2
    have Y9 := HWP.out.cell 3
    simp only [List.getElem?_toArray, List.getElem?_cons_zero, List.getElem?_cons_succ] at Y0 Y1 Y2 Y3 Y4 Y5 Y6 Y7 Y8 Y9
    go_wp2
    refine bodyPost_ret (v := .tuple #[.agg #[.bool false, .int .i64 js, .int .i64 jd, .int .i64 jq, .string jx, .int .i64 jn], .agg #[.int .i64 0, .int .i64 0, .int .i64 0, .string ⟨#[]⟩], .bool false, .int .i64 13]) (by simp [results, Try.results12, go_sem, Y0, Y1, Y2, Y3, Y4, Y5, Y6, Y7, Y8, Y9]; try rfl) rfl ⟨rfl, HWB.out⟩
  | true =>
  have sx : (jx ++ fx).size ≤ 9223372036854775807 := by rw [ByteArray.size_append]; omega
  have sx2 : jx.size + fx.size ≤ 9223372036854775807 := by omega
  have hz9 : w.heap.size < v.heap.size := H0.out.lt
  have hz8 : bf < v.heap.size := HFF.out.lt
  have L0 : Hid (Bk (v.alloc (.cells #[.bool true, .int .i64 js, .int .i64 jd, .int .i64 jq, .string (jx ++ fx), .int .i64 jn] 35)) w.heap.size #[.bool true, .int .i64 js, .int .i64 jd, .int .i64 jq, .string jx, .int .i64 jn] 35) := H0.out.alloc _
  have L1 : Hid (Bk (v.alloc (.cells #[.bool true, .int .i64 js, .int .i64 jd, .int .i64 jq, .string (jx ++ fx), .int .i64 jn] 35)) (w.heap.size + 1) #[.bool false, .int .i64 0, .int .i64 0, .int .i64 0, .string ⟨#[]⟩, .int .i64 0] 35) := H1.out.alloc _
  have L2 : Hid (Bk (v.alloc (.cells #[.bool true, .int .i64 js, .int .i64 jd, .int .i64 jq, .string (jx ++ fx), .int .i64 jn] 35)) (w.heap.size + 1 + 1) #[.int .i64 0, .int .i64 0, .int .i64 0, .string ⟨#[]⟩] 33) := H2.out.alloc _
  have L3 : Hid (Bk (v.alloc (.cells #[.bool true, .int .i64 js, .int .i64 jd, .int .i64 jq, .string (jx ++ fx), .int .i64 jn] 35)) (w.heap.size + 1 + 1 + 1) #[.int .i64 0, .int .i64 0, .int .i64 0, .string ⟨#[]⟩] 33) := H3.out.alloc _
  have LF : Hid (Bk (v.alloc (.cells #[.bool true, .int .i64 js, .int .i64 jd, .int .i64 jq, .string (jx ++ fx), .int .i64 jn] 35)) bf #[.int .i64 fk, .int .i64 fs, .int .i64 fd, .int .i64 fq, .int .i64 fl, .bool fm, .bool fc, .string fx] 48) := HFF.out.alloc _
  have LN : Hid (Bk (v.alloc (.cells #[.bool true, .int .i64 js, .int .i64 jd, .int .i64 jq, .string (jx ++ fx), .int .i64 jn] 35)) v.heap.size #[.bool true, .int .i64 js, .int .i64 jd, .int .i64 jq, .string (jx ++ fx), .int .i64 jn] 35) := Bk.new _ _ _
  have LB : Hid (Below w.heap.size w (v.alloc (.cells #[.bool true, .int .i64 js, .int .i64 jd, .int .i64 jq, .string (jx ++ fx), .int .i64 jn] 35))) := HB.out.alloc HB.out.size _
  have q9 : ¬ v.heap.size = w.heap.size + 1 := by have := H1.out.lt; omega
  have q10 : ¬ v.heap.size = w.heap.size + 1 + 1 := by have := H2.out.lt; omega
  go_upto_region 11 with fail
  clear H0 H1 H2 H3 HFF HB g0 g7 j0 j1 j2 j3 j4 j5 hz9 hz8
  generalize v.alloc (.cells #[.bool true, .int .i64 js, .int .i64 jd, .int .i64 jq, .string (jx ++ fx), .int .i64 jn] 35) = v9 at *
  generalize v.heap.size = c at *
  have H0 := L0
  have H1 := L1
  have H2 := L2
  have H3 := L3
  have HFF := LF
  have HNX := LN
  have HB := LB
  clear L0 L1 L2 L3 LF LN LB
  have g0 := HFF.out.cell 0
  have x4 := HNX.out.cell 4
  have j5 := H0.out.cell 5
  simp only [List.getElem?_toArray, List.getElem?_cons_zero, List.getElem?_cons_succ] at g0 x4 j5
  have hsz : ((jx ++ fx).size : Int) = (jx.size : Int) + (fx.size : Int) := by rw [ByteArray.size_append]; omega
  have HSZ : Hid (((jx ++ fx).size : Int) = (jx.size : Int) + (fx.size : Int)) := hsz
  clear hsz
  by_cases h3 : fk = 3
  · subst h3
    by_cases hn : (jx.size : Int) + (fx.size : Int) = jn
    case neg =>
      have HRS : Hid (rs = (zjs, zpk, false, 4)) := show _ = _ by
        rw [← HRS0.out]
        unfold takeF
        rw [if_neg (by simp), if_neg (by simp), if_neg (by simp), if_pos rfl, if_pos (by show ¬ (((jx ++ fx).size : Nat) : Int) = jn; rw [HSZ.out]; exact hn)]
      clear HRS0
      have e9 : rs = (zjs, zpk, false, 4) := HRS.out
      subst e9
      clear HRS
      go_upto_region 13 with fail
      refine wp_region_G (fun V : World => V.cell? ⟨w.heap.size + 1 + 1 + 1, 0, none⟩ = some (.int .i64 0) ∧ V.cell? ⟨w.heap.size + 1 + 1 + 1, 1, none⟩ = some (.int .i64 0) ∧ V.cell? ⟨w.heap.size + 1 + 1 + 1, 2, none⟩ = some (.int .i64 0) ∧ V.cell? ⟨w.heap.size + 1 + 1 + 1, 3, none⟩ = some (.string ⟨#[]⟩)) 5 (by kernel_rfl) ?_
      have D0 : Hid (Bk v9.drew w.heap.size #[.bool true, .int .i64 js, .int .i64 jd, .int .i64 jq, .string jx, .int .i64 jn] 35) := H0.out.drew
      have D1 : Hid (Bk v9.drew (w.heap.size + 1) #[.bool false, .int .i64 0, .int .i64 0, .int .i64 0, .string ⟨#[]⟩, .int .i64 0] 35) := H1.out.drew
      have D2 : Hid (Bk v9.drew (w.heap.size + 1 + 1) #[.int .i64 0, .int .i64 0, .int .i64 0, .string ⟨#[]⟩] 33) := H2.out.drew
      have D3 : Hid (Bk v9.drew (w.heap.size + 1 + 1 + 1) #[.int .i64 0, .int .i64 0, .int .i64 0, .string ⟨#[]⟩] 33) := H3.out.drew
      have D4 : Hid (Bk v9.drew bf #[.int .i64 3, .int .i64 fs, .int .i64 fd, .int .i64 fq, .int .i64 fl, .bool fm, .bool fc, .string fx] 48) := HFF.out.drew
      have D5 : Hid (Below w.heap.size w v9.drew) := HB.out.drew
      have D6 : Hid (Bk v9.drew c #[.bool true, .int .i64 js, .int .i64 jd, .int .i64 jq, .string (jx ++ fx), .int .i64 jn] 35) := HNX.out.drew
      clear H0 H1 H2 H3 HFF HB HNX
      generalize v9.drew = vd at *
      have HNX := D6
      clear D6
      have H0 := D0
      have H1 := D1
      have H2 := D2
      have H3 := D3
      have HFF := D4
      have HB := D5
      clear D0 D1 D2 D3 D4 D5
      have S0 : (fun V : World => V.cell? ⟨w.heap.size + 1 + 1 + 1, 0, none⟩ = some (.int .i64 0) ∧ V.cell? ⟨w.heap.size + 1 + 1 + 1, 1, none⟩ = some (.int .i64 0) ∧ V.cell? ⟨w.heap.size + 1 + 1 + 1, 2, none⟩ = some (.int .i64 0) ∧ V.cell? ⟨w.heap.size + 1 + 1 + 1, 3, none⟩ = some (.string ⟨#[]⟩)) vd := ⟨H3.out.cell 0, H3.out.cell 1, H3.out.cell 2, H3.out.cell 3⟩
      refine wpAnyG_take [5] (some 63) (i := 0) (v := ?vt50) rfl rfl (by kernel_rfl) (by kernel_rfl) (by kernel_rfl) (by kernel_rfl) (fun _ _ _ h => h) (Or.inl ⟨by rfl, ?yt50⟩) S0 ?rt50
      case yt50 => (intro V hSV; obtain ⟨d0, d1, d2, d3⟩ := hSV; go_simp; try with_reducible rfl)
      simp only [Act.put, List.setIfInBounds_toArray, List.set_cons_zero, List.set_cons_succ]
      refine wpAnyG_take [5] (some 64) (i := 1) (v := ?vt51) rfl rfl (by kernel_rfl) (by kernel_rfl) (by kernel_rfl) (by kernel_rfl) (fun _ _ _ h => h) (Or.inl ⟨by rfl, ?yt51⟩) S0 ?rt51
      case yt51 => (intro V hSV; obtain ⟨d0, d1, d2, d3⟩ := hSV; go_simp; try with_reducible rfl)
      simp only [Act.put, List.setIfInBounds_toArray, List.set_cons_zero, List.set_cons_succ]
      have A0 : vd.cell? ⟨w.heap.size + 1, 0, none⟩ = some (.bool false) := H1.out.cell 0
      have A1 : vd.cell? ⟨w.heap.size + 1, 1, none⟩ = some (.int .i64 0) := H1.out.cell 1
      have A2 : vd.cell? ⟨w.heap.size + 1, 2, none⟩ = some (.int .i64 0) := H1.out.cell 2
      have A3 : vd.cell? ⟨w.heap.size + 1, 3, none⟩ = some (.int .i64 0) := H1.out.cell 3
      have A4 : vd.cell? ⟨w.heap.size + 1, 4, none⟩ = some (.string ⟨#[]⟩) := H1.out.cell 4
      have A5 : vd.cell? ⟨w.heap.size + 1, 5, none⟩ = some (.int .i64 0) := H1.out.cell 5
      have Z0 : vd.frozen? ⟨w.heap.size + 1, 0, none⟩ = false := H1.out.free 0
      have Z1 : vd.frozen? ⟨w.heap.size + 1, 1, none⟩ = false := H1.out.free 1
      have Z2 : vd.frozen? ⟨w.heap.size + 1, 2, none⟩ = false := H1.out.free 2
      have Z3 : vd.frozen? ⟨w.heap.size + 1, 3, none⟩ = false := H1.out.free 3
      have Z4 : vd.frozen? ⟨w.heap.size + 1, 4, none⟩ = false := H1.out.free 4
      have Z5 : vd.frozen? ⟨w.heap.size + 1, 5, none⟩ = false := H1.out.free 5
      refine wpAnyG_one (i := 2) (by kernel_rfl) rfl (fun K hK => ?_)
      go_simp
      have YH3 := six_far (x0 := .bool false) (x1 := .int .i64 0) (x2 := .int .i64 0) (x3 := .int .i64 0) (x4 := .string ⟨#[]⟩) (x5 := .int .i64 0) H3.out q3
      have YJ := six_at (x0 := .bool false) (x1 := .int .i64 0) (x2 := .int .i64 0) (x3 := .int .i64 0) (x4 := .string ⟨#[]⟩) (x5 := .int .i64 0) H1.out
      have YP := six_far (x0 := .bool false) (x1 := .int .i64 0) (x2 := .int .i64 0) (x3 := .int .i64 0) (x4 := .string ⟨#[]⟩) (x5 := .int .i64 0) H2.out q6
      have YB := below_6 HB.out (Nat.le_succ w.heap.size) (.bool false) (.int .i64 0) (.int .i64 0) (.int .i64 0) (.string ⟨#[]⟩) (.int .i64 0)
      refine hK.out _ _ (Or.inr ?st5) ?_
      case st5 => exact ⟨YH3.cell 0, YH3.cell 1, YH3.cell 2, YH3.cell 3⟩
      clear hK K A0 A1 A2 A3 A4 A5 Z0 Z1 Z2 Z3 Z4 Z5 S0 H1 H2 HB
      clear H3
      generalize (((((vd.setCell ⟨w.heap.size + 1, 0, none⟩ (.bool false)).setCell ⟨w.heap.size + 1, 1, none⟩ (.int .i64 0)).setCell ⟨w.heap.size + 1, 2, none⟩ (.int .i64 0)).setCell ⟨w.heap.size + 1, 3, none⟩ (.int .i64 0)).setCell ⟨w.heap.size + 1, 4, none⟩ (.string ⟨#[]⟩)).setCell ⟨w.heap.size + 1, 5, none⟩ (.int .i64 0) = v2 at *
      have WH3 := four_far (x0 := .int .i64 0) (x1 := .int .i64 0) (x2 := .int .i64 0) (x3 := .string ⟨#[]⟩) YH3 q4
      have WJ := four_far (x0 := .int .i64 0) (x1 := .int .i64 0) (x2 := .int .i64 0) (x3 := .string ⟨#[]⟩) YJ q5
      have WP := fourp_at (x0 := .int .i64 0) (x1 := .int .i64 0) (x2 := .int .i64 0) (x3 := .string ⟨#[]⟩) YP
      have WB := below_four YB (Nat.le_add_right w.heap.size 2) (.int .i64 0) (.int .i64 0) (.int .i64 0) (.string ⟨#[]⟩)
      have HWH3 : Hid (Bk ((((v2.setCell ⟨w.heap.size + 1 + 1, 0, none⟩ (.int .i64 0)).setCell ⟨w.heap.size + 1 + 1, 1, none⟩ (.int .i64 0)).setCell ⟨w.heap.size + 1 + 1, 2, none⟩ (.int .i64 0)).setCell ⟨w.heap.size + 1 + 1, 3, none⟩ (.string ⟨#[]⟩)) (w.heap.size + 1 + 1 + 1) #[.int .i64 0, .int .i64 0, .int .i64 0, .string ⟨#[]⟩] 33) := WH3
      clear WH3
      have HWJ : Hid (Bk ((((v2.setCell ⟨w.heap.size + 1 + 1, 0, none⟩ (.int .i64 0)).setCell ⟨w.heap.size + 1 + 1, 1, none⟩ (.int .i64 0)).setCell ⟨w.heap.size + 1 + 1, 2, none⟩ (.int .i64 0)).setCell ⟨w.heap.size + 1 + 1, 3, none⟩ (.string ⟨#[]⟩)) (w.heap.size + 1) #[.bool false, .int .i64 0, .int .i64 0, .int .i64 0, .string ⟨#[]⟩, .int .i64 0] 35) := WJ
      clear WJ
      have HWP : Hid (Bk ((((v2.setCell ⟨w.heap.size + 1 + 1, 0, none⟩ (.int .i64 0)).setCell ⟨w.heap.size + 1 + 1, 1, none⟩ (.int .i64 0)).setCell ⟨w.heap.size + 1 + 1, 2, none⟩ (.int .i64 0)).setCell ⟨w.heap.size + 1 + 1, 3, none⟩ (.string ⟨#[]⟩)) (w.heap.size + 1 + 1) #[.int .i64 0, .int .i64 0, .int .i64 0, .string ⟨#[]⟩] 33) := WP
      clear WP
      have HWB : Hid (Below w.heap.size w ((((v2.setCell ⟨w.heap.size + 1 + 1, 0, none⟩ (.int .i64 0)).setCell ⟨w.heap.size + 1 + 1, 1, none⟩ (.int .i64 0)).setCell ⟨w.heap.size + 1 + 1, 2, none⟩ (.int .i64 0)).setCell ⟨w.heap.size + 1 + 1, 3, none⟩ (.string ⟨#[]⟩))) := WB
      clear WB
      have A0 : v2.cell? ⟨w.heap.size + 1 + 1, 0, none⟩ = some (.int .i64 0) := YP.cell 0
      have A1 : v2.cell? ⟨w.heap.size + 1 + 1, 1, none⟩ = some (.int .i64 0) := YP.cell 1
      have A2 : v2.cell? ⟨w.heap.size + 1 + 1, 2, none⟩ = some (.int .i64 0) := YP.cell 2
      have A3 : v2.cell? ⟨w.heap.size + 1 + 1, 3, none⟩ = some (.string ⟨#[]⟩) := YP.cell 3
      have Z0 : v2.frozen? ⟨w.heap.size + 1 + 1, 0, none⟩ = false := YP.free 0
      have Z1 : v2.frozen? ⟨w.heap.size + 1 + 1, 1, none⟩ = false := YP.free 1
      have Z2 : v2.frozen? ⟨w.heap.size + 1 + 1, 2, none⟩ = false := YP.free 2
      have Z3 : v2.frozen? ⟨w.heap.size + 1 + 1, 3, none⟩ = false := YP.free 3
      clear YH3
      clear YJ YP YB
      refine wpAnyG_one (i := 3) (by kernel_rfl) rfl (fun K hK => ?_)
      go_simp
      refine hK.out _ _ (Or.inr ?s2t5) ?_
      case s2t5 => exact ⟨HWH3.out.cell 0, HWH3.out.cell 1, HWH3.out.cell 2, HWH3.out.cell 3⟩
      clear hK K A0 A1 A2 A3 Z0 Z1 Z2 Z3
      generalize (((v2.setCell ⟨w.heap.size + 1 + 1, 0, none⟩ (.int .i64 0)).setCell ⟨w.heap.size + 1 + 1, 1, none⟩ (.int .i64 0)).setCell ⟨w.heap.size + 1 + 1, 2, none⟩ (.int .i64 0)).setCell ⟨w.heap.size + 1 + 1, 3, none⟩ (.string ⟨#[]⟩) = v3 at *
      refine wpAnyG_one (i := 4) (by kernel_rfl) rfl (fun K hK => ?_)
      go_simp
      refine hK.out _ _ (Or.inr ?s3t5) ?_
      case s3t5 => exact ⟨HWH3.out.cell 0, HWH3.out.cell 1, HWH3.out.cell 2, HWH3.out.cell 3⟩
      clear hK K
      refine wpAnyG_one (i := 5) (by kernel_rfl) rfl (fun K hK => ?_)
      go_simp
      refine hK.out _ _ (Or.inl (by kernel_rfl)) ?_
      clear hK K
      refine wpAnyG_done (by kernel_rfl) ?_ _
      have Y0 := HWJ.out.cell 0
      have Y1 := HWJ.out.cell 1
      have Y2 := HWJ.out.cell 2
      have Y3 := HWJ.out.cell 3
      have Y4 := HWJ.out.cell 4
      have Y5 := HWJ.out.cell 5
      have Y6 := HWP.out.cell 0
      have Y7 := HWP.out.cell 1
      have Y8 := HWP.out.cell 2
      have Y9 := HWP.out.cell 3
      simp only [List.getElem?_toArray, List.getElem?_cons_zero, List.getElem?_cons_succ] at Y0 Y1 Y2 Y3 Y4 Y5 Y6 Y7 Y8 Y9
      go_wp2
      refine bodyPost_ret (v := .tuple #[.agg #[.bool false, .int .i64 0, .int .i64 0, .int .i64 0, .string ⟨#[]⟩, .int .i64 0], .agg #[.int .i64 0, .int .i64 0, .int .i64 0, .string ⟨#[]⟩], .bool false, .int .i64 4]) (by simp [results, Try.results12, go_sem, Y0, Y1, Y2, Y3, Y4, Y5, Y6, Y7, Y8, Y9]; try rfl) rfl ⟨rfl, HWB.out⟩
    have HRS : Hid (rs = (zjs, ⟨js, jd, jq, jx ++ fx⟩, true, 0)) := show _ = _ by
      rw [← HRS0.out]
      unfold takeF
      rw [if_neg (by simp), if_neg (by simp), if_neg (by simp), if_pos rfl, if_neg (by show ¬ ¬ (((jx ++ fx).size : Nat) : Int) = jn; rw [HSZ.out]; exact fun h => h hn)]
    clear HRS0
    have e9 : rs = (zjs, ⟨js, jd, jq, jx ++ fx⟩, true, 0) := HRS.out
    subst e9
    clear HRS
    go_upto_region 14 with fail
    refine wp_region_G (fun V : World => V.cell? ⟨c, 0, none⟩ = some (.bool true) ∧ V.cell? ⟨c, 1, none⟩ = some (.int .i64 js) ∧ V.cell? ⟨c, 2, none⟩ = some (.int .i64 jd) ∧ V.cell? ⟨c, 3, none⟩ = some (.int .i64 jq) ∧ V.cell? ⟨c, 4, none⟩ = some (.string (jx ++ fx))) 6 (by kernel_rfl) ?_
    have D0 : Hid (Bk v9.drew w.heap.size #[.bool true, .int .i64 js, .int .i64 jd, .int .i64 jq, .string jx, .int .i64 jn] 35) := H0.out.drew
    have D1 : Hid (Bk v9.drew (w.heap.size + 1) #[.bool false, .int .i64 0, .int .i64 0, .int .i64 0, .string ⟨#[]⟩, .int .i64 0] 35) := H1.out.drew
    have D2 : Hid (Bk v9.drew (w.heap.size + 1 + 1) #[.int .i64 0, .int .i64 0, .int .i64 0, .string ⟨#[]⟩] 33) := H2.out.drew
    have D3 : Hid (Bk v9.drew (w.heap.size + 1 + 1 + 1) #[.int .i64 0, .int .i64 0, .int .i64 0, .string ⟨#[]⟩] 33) := H3.out.drew
    have D4 : Hid (Bk v9.drew bf #[.int .i64 3, .int .i64 fs, .int .i64 fd, .int .i64 fq, .int .i64 fl, .bool fm, .bool fc, .string fx] 48) := HFF.out.drew
    have D5 : Hid (Below w.heap.size w v9.drew) := HB.out.drew
    have D6 : Hid (Bk v9.drew c #[.bool true, .int .i64 js, .int .i64 jd, .int .i64 jq, .string (jx ++ fx), .int .i64 jn] 35) := HNX.out.drew
    clear H0 H1 H2 H3 HFF HB HNX
    generalize v9.drew = vd at *
    have HNX := D6
    clear D6
    have H0 := D0
    have H1 := D1
    have H2 := D2
    have H3 := D3
    have HFF := D4
    have HB := D5
    clear D0 D1 D2 D3 D4 D5
    have S0 : (fun V : World => V.cell? ⟨c, 0, none⟩ = some (.bool true) ∧ V.cell? ⟨c, 1, none⟩ = some (.int .i64 js) ∧ V.cell? ⟨c, 2, none⟩ = some (.int .i64 jd) ∧ V.cell? ⟨c, 3, none⟩ = some (.int .i64 jq) ∧ V.cell? ⟨c, 4, none⟩ = some (.string (jx ++ fx))) vd := ⟨HNX.out.cell 0, HNX.out.cell 1, HNX.out.cell 2, HNX.out.cell 3, HNX.out.cell 4⟩
    refine wpAnyG_take [6] (some 65) (i := 0) (v := ?vt60) rfl rfl (by kernel_rfl) (by kernel_rfl) (by kernel_rfl) (by kernel_rfl) (fun _ _ _ h => h) (Or.inl ⟨by rfl, ?yt60⟩) S0 ?rt60
    case yt60 => (intro V hSV; obtain ⟨d0, d1, d2, d3, d4⟩ := hSV; go_simp; try with_reducible rfl)
    simp only [Act.put, List.setIfInBounds_toArray, List.set_cons_zero, List.set_cons_succ]
    refine wpAnyG_take [6] (some 66) (i := 1) (v := ?vt61) rfl rfl (by kernel_rfl) (by kernel_rfl) (by kernel_rfl) (by kernel_rfl) (fun _ _ _ h => h) (Or.inl ⟨by rfl, ?yt61⟩) S0 ?rt61
    case yt61 => (intro V hSV; obtain ⟨d0, d1, d2, d3, d4⟩ := hSV; go_simp; try with_reducible rfl)
    simp only [Act.put, List.setIfInBounds_toArray, List.set_cons_zero, List.set_cons_succ]
    refine wpAnyG_take [6] (some 67) (i := 2) (v := ?vt62) rfl rfl (by kernel_rfl) (by kernel_rfl) (by kernel_rfl) (by kernel_rfl) (fun _ _ _ h => h) (Or.inl ⟨by rfl, ?yt62⟩) S0 ?rt62
    case yt62 => (intro V hSV; obtain ⟨d0, d1, d2, d3, d4⟩ := hSV; go_simp; try with_reducible rfl)
    simp only [Act.put, List.setIfInBounds_toArray, List.set_cons_zero, List.set_cons_succ]
    have A0 : vd.cell? ⟨w.heap.size + 1, 0, none⟩ = some (.bool false) := H1.out.cell 0
    have A1 : vd.cell? ⟨w.heap.size + 1, 1, none⟩ = some (.int .i64 0) := H1.out.cell 1
    have A2 : vd.cell? ⟨w.heap.size + 1, 2, none⟩ = some (.int .i64 0) := H1.out.cell 2
    have A3 : vd.cell? ⟨w.heap.size + 1, 3, none⟩ = some (.int .i64 0) := H1.out.cell 3
    have A4 : vd.cell? ⟨w.heap.size + 1, 4, none⟩ = some (.string ⟨#[]⟩) := H1.out.cell 4
    have A5 : vd.cell? ⟨w.heap.size + 1, 5, none⟩ = some (.int .i64 0) := H1.out.cell 5
    have Z0 : vd.frozen? ⟨w.heap.size + 1, 0, none⟩ = false := H1.out.free 0
    have Z1 : vd.frozen? ⟨w.heap.size + 1, 1, none⟩ = false := H1.out.free 1
    have Z2 : vd.frozen? ⟨w.heap.size + 1, 2, none⟩ = false := H1.out.free 2
    have Z3 : vd.frozen? ⟨w.heap.size + 1, 3, none⟩ = false := H1.out.free 3
    have Z4 : vd.frozen? ⟨w.heap.size + 1, 4, none⟩ = false := H1.out.free 4
    have Z5 : vd.frozen? ⟨w.heap.size + 1, 5, none⟩ = false := H1.out.free 5
    refine wpAnyG_one (i := 3) (by kernel_rfl) rfl (fun K hK => ?_)
    go_simp
    have YHNX := six_far (x0 := .bool false) (x1 := .int .i64 0) (x2 := .int .i64 0) (x3 := .int .i64 0) (x4 := .string ⟨#[]⟩) (x5 := .int .i64 0) HNX.out q9
    have YJ := six_at (x0 := .bool false) (x1 := .int .i64 0) (x2 := .int .i64 0) (x3 := .int .i64 0) (x4 := .string ⟨#[]⟩) (x5 := .int .i64 0) H1.out
    have YP := six_far (x0 := .bool false) (x1 := .int .i64 0) (x2 := .int .i64 0) (x3 := .int .i64 0) (x4 := .string ⟨#[]⟩) (x5 := .int .i64 0) H2.out q6
    have YB := below_6 HB.out (Nat.le_succ w.heap.size) (.bool false) (.int .i64 0) (.int .i64 0) (.int .i64 0) (.string ⟨#[]⟩) (.int .i64 0)
    refine hK.out _ _ (Or.inr ?st6) ?_
    case st6 => exact ⟨YHNX.cell 0, YHNX.cell 1, YHNX.cell 2, YHNX.cell 3, YHNX.cell 4⟩
    clear hK K A0 A1 A2 A3 A4 A5 Z0 Z1 Z2 Z3 Z4 Z5 S0 H1 H2 HB
    clear HNX
    generalize (((((vd.setCell ⟨w.heap.size + 1, 0, none⟩ (.bool false)).setCell ⟨w.heap.size + 1, 1, none⟩ (.int .i64 0)).setCell ⟨w.heap.size + 1, 2, none⟩ (.int .i64 0)).setCell ⟨w.heap.size + 1, 3, none⟩ (.int .i64 0)).setCell ⟨w.heap.size + 1, 4, none⟩ (.string ⟨#[]⟩)).setCell ⟨w.heap.size + 1, 5, none⟩ (.int .i64 0) = v2 at *
    have WHNX := four_far (x0 := .int .i64 js) (x1 := .int .i64 jd) (x2 := .int .i64 jq) (x3 := .string (jx ++ fx)) YHNX q10
    have WJ := four_far (x0 := .int .i64 js) (x1 := .int .i64 jd) (x2 := .int .i64 jq) (x3 := .string (jx ++ fx)) YJ q5
    have WP := fourp_at (x0 := .int .i64 js) (x1 := .int .i64 jd) (x2 := .int .i64 jq) (x3 := .string (jx ++ fx)) YP
    have WB := below_four YB (Nat.le_add_right w.heap.size 2) (.int .i64 js) (.int .i64 jd) (.int .i64 jq) (.string (jx ++ fx))
    have HWHNX : Hid (Bk ((((v2.setCell ⟨w.heap.size + 1 + 1, 0, none⟩ (.int .i64 js)).setCell ⟨w.heap.size + 1 + 1, 1, none⟩ (.int .i64 jd)).setCell ⟨w.heap.size + 1 + 1, 2, none⟩ (.int .i64 jq)).setCell ⟨w.heap.size + 1 + 1, 3, none⟩ (.string (jx ++ fx))) (c) #[.bool true, .int .i64 js, .int .i64 jd, .int .i64 jq, .string (jx ++ fx), .int .i64 jn] 35) := WHNX
    clear WHNX
    have HWJ : Hid (Bk ((((v2.setCell ⟨w.heap.size + 1 + 1, 0, none⟩ (.int .i64 js)).setCell ⟨w.heap.size + 1 + 1, 1, none⟩ (.int .i64 jd)).setCell ⟨w.heap.size + 1 + 1, 2, none⟩ (.int .i64 jq)).setCell ⟨w.heap.size + 1 + 1, 3, none⟩ (.string (jx ++ fx))) (w.heap.size + 1) #[.bool false, .int .i64 0, .int .i64 0, .int .i64 0, .string ⟨#[]⟩, .int .i64 0] 35) := WJ
    clear WJ
    have HWP : Hid (Bk ((((v2.setCell ⟨w.heap.size + 1 + 1, 0, none⟩ (.int .i64 js)).setCell ⟨w.heap.size + 1 + 1, 1, none⟩ (.int .i64 jd)).setCell ⟨w.heap.size + 1 + 1, 2, none⟩ (.int .i64 jq)).setCell ⟨w.heap.size + 1 + 1, 3, none⟩ (.string (jx ++ fx))) (w.heap.size + 1 + 1) #[.int .i64 js, .int .i64 jd, .int .i64 jq, .string (jx ++ fx)] 33) := WP
    clear WP
    have HWB : Hid (Below w.heap.size w ((((v2.setCell ⟨w.heap.size + 1 + 1, 0, none⟩ (.int .i64 js)).setCell ⟨w.heap.size + 1 + 1, 1, none⟩ (.int .i64 jd)).setCell ⟨w.heap.size + 1 + 1, 2, none⟩ (.int .i64 jq)).setCell ⟨w.heap.size + 1 + 1, 3, none⟩ (.string (jx ++ fx)))) := WB
    clear WB
    have A0 : v2.cell? ⟨w.heap.size + 1 + 1, 0, none⟩ = some (.int .i64 0) := YP.cell 0
    have A1 : v2.cell? ⟨w.heap.size + 1 + 1, 1, none⟩ = some (.int .i64 0) := YP.cell 1
    have A2 : v2.cell? ⟨w.heap.size + 1 + 1, 2, none⟩ = some (.int .i64 0) := YP.cell 2
    have A3 : v2.cell? ⟨w.heap.size + 1 + 1, 3, none⟩ = some (.string ⟨#[]⟩) := YP.cell 3
    have Z0 : v2.frozen? ⟨w.heap.size + 1 + 1, 0, none⟩ = false := YP.free 0
    have Z1 : v2.frozen? ⟨w.heap.size + 1 + 1, 1, none⟩ = false := YP.free 1
    have Z2 : v2.frozen? ⟨w.heap.size + 1 + 1, 2, none⟩ = false := YP.free 2
    have Z3 : v2.frozen? ⟨w.heap.size + 1 + 1, 3, none⟩ = false := YP.free 3
    clear YHNX
    clear YJ YP YB
    refine wpAnyG_one (i := 4) (by kernel_rfl) rfl (fun K hK => ?_)
    go_simp
    refine hK.out _ _ (Or.inr ?s2t6) ?_
    case s2t6 => exact ⟨HWHNX.out.cell 0, HWHNX.out.cell 1, HWHNX.out.cell 2, HWHNX.out.cell 3, HWHNX.out.cell 4⟩
    clear hK K A0 A1 A2 A3 Z0 Z1 Z2 Z3
    generalize (((v2.setCell ⟨w.heap.size + 1 + 1, 0, none⟩ (.int .i64 js)).setCell ⟨w.heap.size + 1 + 1, 1, none⟩ (.int .i64 jd)).setCell ⟨w.heap.size + 1 + 1, 2, none⟩ (.int .i64 jq)).setCell ⟨w.heap.size + 1 + 1, 3, none⟩ (.string (jx ++ fx)) = v3 at *
    refine wpAnyG_one (i := 5) (by kernel_rfl) rfl (fun K hK => ?_)
    go_simp
    refine hK.out _ _ (Or.inr ?s3t6) ?_
    case s3t6 => exact ⟨HWHNX.out.cell 0, HWHNX.out.cell 1, HWHNX.out.cell 2, HWHNX.out.cell 3, HWHNX.out.cell 4⟩
    clear hK K
    refine wpAnyG_one (i := 6) (by kernel_rfl) rfl (fun K hK => ?_)
    go_simp
    refine hK.out _ _ (Or.inl (by kernel_rfl)) ?_
    clear hK K
    refine wpAnyG_done (by kernel_rfl) ?_ _
    have Y0 := HWJ.out.cell 0
    have Y1 := HWJ.out.cell 1
    have Y2 := HWJ.out.cell 2
    have Y3 := HWJ.out.cell 3
    have Y4 := HWJ.out.cell 4
    have Y5 := HWJ.out.cell 5
    have Y6 := HWP.out.cell 0
    have Y7 := HWP.out.cell 1
    have Y8 := HWP.out.cell 2
    have Y9 := HWP.out.cell 3
    simp only [List.getElem?_toArray, List.getElem?_cons_zero, List.getElem?_cons_succ] at Y0 Y1 Y2 Y3 Y4 Y5 Y6 Y7 Y8 Y9
    go_wp2
    refine bodyPost_ret (v := .tuple #[.agg #[.bool false, .int .i64 0, .int .i64 0, .int .i64 0, .string ⟨#[]⟩, .int .i64 0], .agg #[.int .i64 js, .int .i64 jd, .int .i64 jq, .string (jx ++ fx)], .bool true, .int .i64 0]) (by simp [results, Try.results12, go_sem, Y0, Y1, Y2, Y3, Y4, Y5, Y6, Y7, Y8, Y9]; try rfl) rfl ⟨rfl, HWB.out⟩
  have b3 : (fk == 3) = false := by simp [h3]
  by_cases hn : jn < (jx.size : Int) + (fx.size : Int)
  · have HRS : Hid (rs = (⟨true, js, jd, jq, jx, jn⟩, zpk, false, 4)) := show _ = _ by
      rw [← HRS0.out]
      unfold takeF
      rw [if_neg (by simp), if_neg (by simp [h1]), if_neg h1, if_neg h3, if_pos (by show jn < (((jx ++ fx).size : Nat) : Int); rw [HSZ.out]; exact hn)]
    clear HRS0
    have e9 : rs = (⟨true, js, jd, jq, jx, jn⟩, zpk, false, 4) := HRS.out
    subst e9
    clear HRS
    go_upto_region 16 with fail
    refine wp_region_G (fun V : World => V.cell? ⟨w.heap.size, 0, none⟩ = some (.bool true) ∧ V.cell? ⟨w.heap.size, 1, none⟩ = some (.int .i64 js) ∧ V.cell? ⟨w.heap.size, 2, none⟩ = some (.int .i64 jd) ∧ V.cell? ⟨w.heap.size, 3, none⟩ = some (.int .i64 jq) ∧ V.cell? ⟨w.heap.size, 4, none⟩ = some (.string jx) ∧ V.cell? ⟨w.heap.size, 5, none⟩ = some (.int .i64 jn) ∧ V.cell? ⟨w.heap.size + 1 + 1 + 1, 0, none⟩ = some (.int .i64 0) ∧ V.cell? ⟨w.heap.size + 1 + 1 + 1, 1, none⟩ = some (.int .i64 0) ∧ V.cell? ⟨w.heap.size + 1 + 1 + 1, 2, none⟩ = some (.int .i64 0) ∧ V.cell? ⟨w.heap.size + 1 + 1 + 1, 3, none⟩ = some (.string ⟨#[]⟩)) 5 (by kernel_rfl) ?_
    have D0 : Hid (Bk v9.drew w.heap.size #[.bool true, .int .i64 js, .int .i64 jd, .int .i64 jq, .string jx, .int .i64 jn] 35) := H0.out.drew
    have D1 : Hid (Bk v9.drew (w.heap.size + 1) #[.bool false, .int .i64 0, .int .i64 0, .int .i64 0, .string ⟨#[]⟩, .int .i64 0] 35) := H1.out.drew
    have D2 : Hid (Bk v9.drew (w.heap.size + 1 + 1) #[.int .i64 0, .int .i64 0, .int .i64 0, .string ⟨#[]⟩] 33) := H2.out.drew
    have D3 : Hid (Bk v9.drew (w.heap.size + 1 + 1 + 1) #[.int .i64 0, .int .i64 0, .int .i64 0, .string ⟨#[]⟩] 33) := H3.out.drew
    have D4 : Hid (Bk v9.drew bf #[.int .i64 fk, .int .i64 fs, .int .i64 fd, .int .i64 fq, .int .i64 fl, .bool fm, .bool fc, .string fx] 48) := HFF.out.drew
    have D5 : Hid (Below w.heap.size w v9.drew) := HB.out.drew
    have D6 : Hid (Bk v9.drew c #[.bool true, .int .i64 js, .int .i64 jd, .int .i64 jq, .string (jx ++ fx), .int .i64 jn] 35) := HNX.out.drew
    clear H0 H1 H2 H3 HFF HB HNX
    generalize v9.drew = vd at *
    have HNX := D6
    clear D6
    have H0 := D0
    have H1 := D1
    have H2 := D2
    have H3 := D3
    have HFF := D4
    have HB := D5
    clear D0 D1 D2 D3 D4 D5
    have S0 : (fun V : World => V.cell? ⟨w.heap.size, 0, none⟩ = some (.bool true) ∧ V.cell? ⟨w.heap.size, 1, none⟩ = some (.int .i64 js) ∧ V.cell? ⟨w.heap.size, 2, none⟩ = some (.int .i64 jd) ∧ V.cell? ⟨w.heap.size, 3, none⟩ = some (.int .i64 jq) ∧ V.cell? ⟨w.heap.size, 4, none⟩ = some (.string jx) ∧ V.cell? ⟨w.heap.size, 5, none⟩ = some (.int .i64 jn) ∧ V.cell? ⟨w.heap.size + 1 + 1 + 1, 0, none⟩ = some (.int .i64 0) ∧ V.cell? ⟨w.heap.size + 1 + 1 + 1, 1, none⟩ = some (.int .i64 0) ∧ V.cell? ⟨w.heap.size + 1 + 1 + 1, 2, none⟩ = some (.int .i64 0) ∧ V.cell? ⟨w.heap.size + 1 + 1 + 1, 3, none⟩ = some (.string ⟨#[]⟩)) vd := ⟨H0.out.cell 0, H0.out.cell 1, H0.out.cell 2, H0.out.cell 3, H0.out.cell 4, H0.out.cell 5, H3.out.cell 0, H3.out.cell 1, H3.out.cell 2, H3.out.cell 3⟩
    refine wpAnyG_take [5] (some 75) (i := 0) (v := ?vt70) rfl rfl (by kernel_rfl) (by kernel_rfl) (by kernel_rfl) (by kernel_rfl) (fun _ _ _ h => h) (Or.inl ⟨by rfl, ?yt70⟩) S0 ?rt70
    case yt70 => (intro V hSV; obtain ⟨d0, d1, d2, d3, d4, d5, d6, d7, d8, d9⟩ := hSV; go_simp; try with_reducible rfl)
    simp only [Act.put, List.setIfInBounds_toArray, List.set_cons_zero, List.set_cons_succ]
    refine wpAnyG_take [5] (some 76) (i := 1) (v := ?vt71) rfl rfl (by kernel_rfl) (by kernel_rfl) (by kernel_rfl) (by kernel_rfl) (fun _ _ _ h => h) (Or.inl ⟨by rfl, ?yt71⟩) S0 ?rt71
    case yt71 => (intro V hSV; obtain ⟨d0, d1, d2, d3, d4, d5, d6, d7, d8, d9⟩ := hSV; go_simp; try with_reducible rfl)
    simp only [Act.put, List.setIfInBounds_toArray, List.set_cons_zero, List.set_cons_succ]
    have A0 : vd.cell? ⟨w.heap.size + 1, 0, none⟩ = some (.bool false) := H1.out.cell 0
    have A1 : vd.cell? ⟨w.heap.size + 1, 1, none⟩ = some (.int .i64 0) := H1.out.cell 1
    have A2 : vd.cell? ⟨w.heap.size + 1, 2, none⟩ = some (.int .i64 0) := H1.out.cell 2
    have A3 : vd.cell? ⟨w.heap.size + 1, 3, none⟩ = some (.int .i64 0) := H1.out.cell 3
    have A4 : vd.cell? ⟨w.heap.size + 1, 4, none⟩ = some (.string ⟨#[]⟩) := H1.out.cell 4
    have A5 : vd.cell? ⟨w.heap.size + 1, 5, none⟩ = some (.int .i64 0) := H1.out.cell 5
    have Z0 : vd.frozen? ⟨w.heap.size + 1, 0, none⟩ = false := H1.out.free 0
    have Z1 : vd.frozen? ⟨w.heap.size + 1, 1, none⟩ = false := H1.out.free 1
    have Z2 : vd.frozen? ⟨w.heap.size + 1, 2, none⟩ = false := H1.out.free 2
    have Z3 : vd.frozen? ⟨w.heap.size + 1, 3, none⟩ = false := H1.out.free 3
    have Z4 : vd.frozen? ⟨w.heap.size + 1, 4, none⟩ = false := H1.out.free 4
    have Z5 : vd.frozen? ⟨w.heap.size + 1, 5, none⟩ = false := H1.out.free 5
    refine wpAnyG_one (i := 2) (by kernel_rfl) rfl (fun K hK => ?_)
    go_simp
    have YH0 := six_far (x0 := .bool true) (x1 := .int .i64 js) (x2 := .int .i64 jd) (x3 := .int .i64 jq) (x4 := .string jx) (x5 := .int .i64 jn) H0.out q1
    have YH3 := six_far (x0 := .bool true) (x1 := .int .i64 js) (x2 := .int .i64 jd) (x3 := .int .i64 jq) (x4 := .string jx) (x5 := .int .i64 jn) H3.out q3
    have YJ := six_at (x0 := .bool true) (x1 := .int .i64 js) (x2 := .int .i64 jd) (x3 := .int .i64 jq) (x4 := .string jx) (x5 := .int .i64 jn) H1.out
    have YP := six_far (x0 := .bool true) (x1 := .int .i64 js) (x2 := .int .i64 jd) (x3 := .int .i64 jq) (x4 := .string jx) (x5 := .int .i64 jn) H2.out q6
    have YB := below_6 HB.out (Nat.le_succ w.heap.size) (.bool true) (.int .i64 js) (.int .i64 jd) (.int .i64 jq) (.string jx) (.int .i64 jn)
    refine hK.out _ _ (Or.inr ?st7) ?_
    case st7 => exact ⟨YH0.cell 0, YH0.cell 1, YH0.cell 2, YH0.cell 3, YH0.cell 4, YH0.cell 5, YH3.cell 0, YH3.cell 1, YH3.cell 2, YH3.cell 3⟩
    clear hK K A0 A1 A2 A3 A4 A5 Z0 Z1 Z2 Z3 Z4 Z5 S0 H1 H2 HB
    clear H0
    clear H3
    generalize (((((vd.setCell ⟨w.heap.size + 1, 0, none⟩ (.bool true)).setCell ⟨w.heap.size + 1, 1, none⟩ (.int .i64 js)).setCell ⟨w.heap.size + 1, 2, none⟩ (.int .i64 jd)).setCell ⟨w.heap.size + 1, 3, none⟩ (.int .i64 jq)).setCell ⟨w.heap.size + 1, 4, none⟩ (.string jx)).setCell ⟨w.heap.size + 1, 5, none⟩ (.int .i64 jn) = v2 at *
    have WH0 := four_far (x0 := .int .i64 0) (x1 := .int .i64 0) (x2 := .int .i64 0) (x3 := .string ⟨#[]⟩) YH0 q2
    have WH3 := four_far (x0 := .int .i64 0) (x1 := .int .i64 0) (x2 := .int .i64 0) (x3 := .string ⟨#[]⟩) YH3 q4
    have WJ := four_far (x0 := .int .i64 0) (x1 := .int .i64 0) (x2 := .int .i64 0) (x3 := .string ⟨#[]⟩) YJ q5
    have WP := fourp_at (x0 := .int .i64 0) (x1 := .int .i64 0) (x2 := .int .i64 0) (x3 := .string ⟨#[]⟩) YP
    have WB := below_four YB (Nat.le_add_right w.heap.size 2) (.int .i64 0) (.int .i64 0) (.int .i64 0) (.string ⟨#[]⟩)
    have HWH0 : Hid (Bk ((((v2.setCell ⟨w.heap.size + 1 + 1, 0, none⟩ (.int .i64 0)).setCell ⟨w.heap.size + 1 + 1, 1, none⟩ (.int .i64 0)).setCell ⟨w.heap.size + 1 + 1, 2, none⟩ (.int .i64 0)).setCell ⟨w.heap.size + 1 + 1, 3, none⟩ (.string ⟨#[]⟩)) (w.heap.size) #[.bool true, .int .i64 js, .int .i64 jd, .int .i64 jq, .string jx, .int .i64 jn] 35) := WH0
    clear WH0
    have HWH3 : Hid (Bk ((((v2.setCell ⟨w.heap.size + 1 + 1, 0, none⟩ (.int .i64 0)).setCell ⟨w.heap.size + 1 + 1, 1, none⟩ (.int .i64 0)).setCell ⟨w.heap.size + 1 + 1, 2, none⟩ (.int .i64 0)).setCell ⟨w.heap.size + 1 + 1, 3, none⟩ (.string ⟨#[]⟩)) (w.heap.size + 1 + 1 + 1) #[.int .i64 0, .int .i64 0, .int .i64 0, .string ⟨#[]⟩] 33) := WH3
    clear WH3
    have HWJ : Hid (Bk ((((v2.setCell ⟨w.heap.size + 1 + 1, 0, none⟩ (.int .i64 0)).setCell ⟨w.heap.size + 1 + 1, 1, none⟩ (.int .i64 0)).setCell ⟨w.heap.size + 1 + 1, 2, none⟩ (.int .i64 0)).setCell ⟨w.heap.size + 1 + 1, 3, none⟩ (.string ⟨#[]⟩)) (w.heap.size + 1) #[.bool true, .int .i64 js, .int .i64 jd, .int .i64 jq, .string jx, .int .i64 jn] 35) := WJ
    clear WJ
    have HWP : Hid (Bk ((((v2.setCell ⟨w.heap.size + 1 + 1, 0, none⟩ (.int .i64 0)).setCell ⟨w.heap.size + 1 + 1, 1, none⟩ (.int .i64 0)).setCell ⟨w.heap.size + 1 + 1, 2, none⟩ (.int .i64 0)).setCell ⟨w.heap.size + 1 + 1, 3, none⟩ (.string ⟨#[]⟩)) (w.heap.size + 1 + 1) #[.int .i64 0, .int .i64 0, .int .i64 0, .string ⟨#[]⟩] 33) := WP
    clear WP
    have HWB : Hid (Below w.heap.size w ((((v2.setCell ⟨w.heap.size + 1 + 1, 0, none⟩ (.int .i64 0)).setCell ⟨w.heap.size + 1 + 1, 1, none⟩ (.int .i64 0)).setCell ⟨w.heap.size + 1 + 1, 2, none⟩ (.int .i64 0)).setCell ⟨w.heap.size + 1 + 1, 3, none⟩ (.string ⟨#[]⟩))) := WB
    clear WB
    have A0 : v2.cell? ⟨w.heap.size + 1 + 1, 0, none⟩ = some (.int .i64 0) := YP.cell 0
    have A1 : v2.cell? ⟨w.heap.size + 1 + 1, 1, none⟩ = some (.int .i64 0) := YP.cell 1
    have A2 : v2.cell? ⟨w.heap.size + 1 + 1, 2, none⟩ = some (.int .i64 0) := YP.cell 2
    have A3 : v2.cell? ⟨w.heap.size + 1 + 1, 3, none⟩ = some (.string ⟨#[]⟩) := YP.cell 3
    have Z0 : v2.frozen? ⟨w.heap.size + 1 + 1, 0, none⟩ = false := YP.free 0
    have Z1 : v2.frozen? ⟨w.heap.size + 1 + 1, 1, none⟩ = false := YP.free 1
    have Z2 : v2.frozen? ⟨w.heap.size + 1 + 1, 2, none⟩ = false := YP.free 2
    have Z3 : v2.frozen? ⟨w.heap.size + 1 + 1, 3, none⟩ = false := YP.free 3
    clear YH0
    clear YH3
    clear YJ YP YB
    refine wpAnyG_one (i := 3) (by kernel_rfl) rfl (fun K hK => ?_)
    go_simp
    refine hK.out _ _ (Or.inr ?s2t7) ?_
    case s2t7 => exact ⟨HWH0.out.cell 0, HWH0.out.cell 1, HWH0.out.cell 2, HWH0.out.cell 3, HWH0.out.cell 4, HWH0.out.cell 5, HWH3.out.cell 0, HWH3.out.cell 1, HWH3.out.cell 2, HWH3.out.cell 3⟩
    clear hK K A0 A1 A2 A3 Z0 Z1 Z2 Z3
    generalize (((v2.setCell ⟨w.heap.size + 1 + 1, 0, none⟩ (.int .i64 0)).setCell ⟨w.heap.size + 1 + 1, 1, none⟩ (.int .i64 0)).setCell ⟨w.heap.size + 1 + 1, 2, none⟩ (.int .i64 0)).setCell ⟨w.heap.size + 1 + 1, 3, none⟩ (.string ⟨#[]⟩) = v3 at *
    refine wpAnyG_one (i := 4) (by kernel_rfl) rfl (fun K hK => ?_)
    go_simp
    refine hK.out _ _ (Or.inr ?s3t7) ?_
    case s3t7 => exact ⟨HWH0.out.cell 0, HWH0.out.cell 1, HWH0.out.cell 2, HWH0.out.cell 3, HWH0.out.cell 4, HWH0.out.cell 5, HWH3.out.cell 0, HWH3.out.cell 1, HWH3.out.cell 2, HWH3.out.cell 3⟩
    clear hK K
    refine wpAnyG_one (i := 5) (by kernel_rfl) rfl (fun K hK => ?_)
    go_simp
    refine hK.out _ _ (Or.inl (by kernel_rfl)) ?_
    clear hK K
    refine wpAnyG_done (by kernel_rfl) ?_ _
    have Y0 := HWJ.out.cell 0
    have Y1 := HWJ.out.cell 1
    have Y2 := HWJ.out.cell 2
    have Y3 := HWJ.out.cell 3
    have Y4 := HWJ.out.cell 4
    have Y5 := HWJ.out.cell 5
    have Y6 := HWP.out.cell 0
    have Y7 := HWP.out.cell 1
    have Y8 := HWP.out.cell 2
    have Y9 := HWP.out.cell 3
    simp only [List.getElem?_toArray, List.getElem?_cons_zero, List.getElem?_cons_succ] at Y0 Y1 Y2 Y3 Y4 Y5 Y6 Y7 Y8 Y9
    go_wp2
    refine bodyPost_ret (v := .tuple #[.agg #[.bool true, .int .i64 js, .int .i64 jd, .int .i64 jq, .string jx, .int .i64 jn], .agg #[.int .i64 0, .int .i64 0, .int .i64 0, .string ⟨#[]⟩], .bool false, .int .i64 4]) (by simp [results, Try.results12, go_sem, Y0, Y1, Y2, Y3, Y4, Y5, Y6, Y7, Y8, Y9]; try rfl) rfl ⟨rfl, HWB.out⟩
  · have HRS : Hid (rs = (⟨true, js, jd, jq, jx ++ fx, jn⟩, zpk, false, 0)) := show _ = _ by
      rw [← HRS0.out]
      unfold takeF
      rw [if_neg (by simp), if_neg (by simp [h1]), if_neg h1, if_neg h3, if_neg (by show ¬ jn < (((jx ++ fx).size : Nat) : Int); rw [HSZ.out]; exact hn)]
    clear HRS0
    have e9 : rs = (⟨true, js, jd, jq, jx ++ fx, jn⟩, zpk, false, 0) := HRS.out
    subst e9
    clear HRS
    go_upto_region 17 with fail
    refine wp_region_G (fun V : World => V.cell? ⟨c, 0, none⟩ = some (.bool true) ∧ V.cell? ⟨c, 1, none⟩ = some (.int .i64 js) ∧ V.cell? ⟨c, 2, none⟩ = some (.int .i64 jd) ∧ V.cell? ⟨c, 3, none⟩ = some (.int .i64 jq) ∧ V.cell? ⟨c, 4, none⟩ = some (.string (jx ++ fx)) ∧ V.cell? ⟨c, 5, none⟩ = some (.int .i64 jn) ∧ V.cell? ⟨w.heap.size + 1 + 1 + 1, 0, none⟩ = some (.int .i64 0) ∧ V.cell? ⟨w.heap.size + 1 + 1 + 1, 1, none⟩ = some (.int .i64 0) ∧ V.cell? ⟨w.heap.size + 1 + 1 + 1, 2, none⟩ = some (.int .i64 0) ∧ V.cell? ⟨w.heap.size + 1 + 1 + 1, 3, none⟩ = some (.string ⟨#[]⟩)) 5 (by kernel_rfl) ?_
    have D0 : Hid (Bk v9.drew w.heap.size #[.bool true, .int .i64 js, .int .i64 jd, .int .i64 jq, .string jx, .int .i64 jn] 35) := H0.out.drew
    have D1 : Hid (Bk v9.drew (w.heap.size + 1) #[.bool false, .int .i64 0, .int .i64 0, .int .i64 0, .string ⟨#[]⟩, .int .i64 0] 35) := H1.out.drew
    have D2 : Hid (Bk v9.drew (w.heap.size + 1 + 1) #[.int .i64 0, .int .i64 0, .int .i64 0, .string ⟨#[]⟩] 33) := H2.out.drew
    have D3 : Hid (Bk v9.drew (w.heap.size + 1 + 1 + 1) #[.int .i64 0, .int .i64 0, .int .i64 0, .string ⟨#[]⟩] 33) := H3.out.drew
    have D4 : Hid (Bk v9.drew bf #[.int .i64 fk, .int .i64 fs, .int .i64 fd, .int .i64 fq, .int .i64 fl, .bool fm, .bool fc, .string fx] 48) := HFF.out.drew
    have D5 : Hid (Below w.heap.size w v9.drew) := HB.out.drew
    have D6 : Hid (Bk v9.drew c #[.bool true, .int .i64 js, .int .i64 jd, .int .i64 jq, .string (jx ++ fx), .int .i64 jn] 35) := HNX.out.drew
    clear H0 H1 H2 H3 HFF HB HNX
    generalize v9.drew = vd at *
    have HNX := D6
    clear D6
    have H0 := D0
    have H1 := D1
    have H2 := D2
    have H3 := D3
    have HFF := D4
    have HB := D5
    clear D0 D1 D2 D3 D4 D5
    have S0 : (fun V : World => V.cell? ⟨c, 0, none⟩ = some (.bool true) ∧ V.cell? ⟨c, 1, none⟩ = some (.int .i64 js) ∧ V.cell? ⟨c, 2, none⟩ = some (.int .i64 jd) ∧ V.cell? ⟨c, 3, none⟩ = some (.int .i64 jq) ∧ V.cell? ⟨c, 4, none⟩ = some (.string (jx ++ fx)) ∧ V.cell? ⟨c, 5, none⟩ = some (.int .i64 jn) ∧ V.cell? ⟨w.heap.size + 1 + 1 + 1, 0, none⟩ = some (.int .i64 0) ∧ V.cell? ⟨w.heap.size + 1 + 1 + 1, 1, none⟩ = some (.int .i64 0) ∧ V.cell? ⟨w.heap.size + 1 + 1 + 1, 2, none⟩ = some (.int .i64 0) ∧ V.cell? ⟨w.heap.size + 1 + 1 + 1, 3, none⟩ = some (.string ⟨#[]⟩)) vd := ⟨HNX.out.cell 0, HNX.out.cell 1, HNX.out.cell 2, HNX.out.cell 3, HNX.out.cell 4, HNX.out.cell 5, H3.out.cell 0, H3.out.cell 1, H3.out.cell 2, H3.out.cell 3⟩
    refine wpAnyG_take [5] (some 77) (i := 0) (v := ?vt80) rfl rfl (by kernel_rfl) (by kernel_rfl) (by kernel_rfl) (by kernel_rfl) (fun _ _ _ h => h) (Or.inl ⟨by rfl, ?yt80⟩) S0 ?rt80
    case yt80 => (intro V hSV; obtain ⟨d0, d1, d2, d3, d4, d5, d6, d7, d8, d9⟩ := hSV; go_simp; try with_reducible rfl)
    simp only [Act.put, List.setIfInBounds_toArray, List.set_cons_zero, List.set_cons_succ]
    refine wpAnyG_take [5] (some 78) (i := 1) (v := ?vt81) rfl rfl (by kernel_rfl) (by kernel_rfl) (by kernel_rfl) (by kernel_rfl) (fun _ _ _ h => h) (Or.inl ⟨by rfl, ?yt81⟩) S0 ?rt81
    case yt81 => (intro V hSV; obtain ⟨d0, d1, d2, d3, d4, d5, d6, d7, d8, d9⟩ := hSV; go_simp; try with_reducible rfl)
    simp only [Act.put, List.setIfInBounds_toArray, List.set_cons_zero, List.set_cons_succ]
    have A0 : vd.cell? ⟨w.heap.size + 1, 0, none⟩ = some (.bool false) := H1.out.cell 0
    have A1 : vd.cell? ⟨w.heap.size + 1, 1, none⟩ = some (.int .i64 0) := H1.out.cell 1
    have A2 : vd.cell? ⟨w.heap.size + 1, 2, none⟩ = some (.int .i64 0) := H1.out.cell 2
    have A3 : vd.cell? ⟨w.heap.size + 1, 3, none⟩ = some (.int .i64 0) := H1.out.cell 3
    have A4 : vd.cell? ⟨w.heap.size + 1, 4, none⟩ = some (.string ⟨#[]⟩) := H1.out.cell 4
    have A5 : vd.cell? ⟨w.heap.size + 1, 5, none⟩ = some (.int .i64 0) := H1.out.cell 5
    have Z0 : vd.frozen? ⟨w.heap.size + 1, 0, none⟩ = false := H1.out.free 0
    have Z1 : vd.frozen? ⟨w.heap.size + 1, 1, none⟩ = false := H1.out.free 1
    have Z2 : vd.frozen? ⟨w.heap.size + 1, 2, none⟩ = false := H1.out.free 2
    have Z3 : vd.frozen? ⟨w.heap.size + 1, 3, none⟩ = false := H1.out.free 3
    have Z4 : vd.frozen? ⟨w.heap.size + 1, 4, none⟩ = false := H1.out.free 4
    have Z5 : vd.frozen? ⟨w.heap.size + 1, 5, none⟩ = false := H1.out.free 5
    refine wpAnyG_one (i := 2) (by kernel_rfl) rfl (fun K hK => ?_)
    go_simp
    have YHNX := six_far (x0 := .bool true) (x1 := .int .i64 js) (x2 := .int .i64 jd) (x3 := .int .i64 jq) (x4 := .string (jx ++ fx)) (x5 := .int .i64 jn) HNX.out q9
    have YH3 := six_far (x0 := .bool true) (x1 := .int .i64 js) (x2 := .int .i64 jd) (x3 := .int .i64 jq) (x4 := .string (jx ++ fx)) (x5 := .int .i64 jn) H3.out q3
    have YJ := six_at (x0 := .bool true) (x1 := .int .i64 js) (x2 := .int .i64 jd) (x3 := .int .i64 jq) (x4 := .string (jx ++ fx)) (x5 := .int .i64 jn) H1.out
    have YP := six_far (x0 := .bool true) (x1 := .int .i64 js) (x2 := .int .i64 jd) (x3 := .int .i64 jq) (x4 := .string (jx ++ fx)) (x5 := .int .i64 jn) H2.out q6
    have YB := below_6 HB.out (Nat.le_succ w.heap.size) (.bool true) (.int .i64 js) (.int .i64 jd) (.int .i64 jq) (.string (jx ++ fx)) (.int .i64 jn)
    refine hK.out _ _ (Or.inr ?st8) ?_
    case st8 => exact ⟨YHNX.cell 0, YHNX.cell 1, YHNX.cell 2, YHNX.cell 3, YHNX.cell 4, YHNX.cell 5, YH3.cell 0, YH3.cell 1, YH3.cell 2, YH3.cell 3⟩
    clear hK K A0 A1 A2 A3 A4 A5 Z0 Z1 Z2 Z3 Z4 Z5 S0 H1 H2 HB
    clear HNX
    clear H3
    generalize (((((vd.setCell ⟨w.heap.size + 1, 0, none⟩ (.bool true)).setCell ⟨w.heap.size + 1, 1, none⟩ (.int .i64 js)).setCell ⟨w.heap.size + 1, 2, none⟩ (.int .i64 jd)).setCell ⟨w.heap.size + 1, 3, none⟩ (.int .i64 jq)).setCell ⟨w.heap.size + 1, 4, none⟩ (.string (jx ++ fx))).setCell ⟨w.heap.size + 1, 5, none⟩ (.int .i64 jn) = v2 at *
    have WHNX := four_far (x0 := .int .i64 0) (x1 := .int .i64 0) (x2 := .int .i64 0) (x3 := .string ⟨#[]⟩) YHNX q10
    have WH3 := four_far (x0 := .int .i64 0) (x1 := .int .i64 0) (x2 := .int .i64 0) (x3 := .string ⟨#[]⟩) YH3 q4
    have WJ := four_far (x0 := .int .i64 0) (x1 := .int .i64 0) (x2 := .int .i64 0) (x3 := .string ⟨#[]⟩) YJ q5
    have WP := fourp_at (x0 := .int .i64 0) (x1 := .int .i64 0) (x2 := .int .i64 0) (x3 := .string ⟨#[]⟩) YP
    have WB := below_four YB (Nat.le_add_right w.heap.size 2) (.int .i64 0) (.int .i64 0) (.int .i64 0) (.string ⟨#[]⟩)
    have HWHNX : Hid (Bk ((((v2.setCell ⟨w.heap.size + 1 + 1, 0, none⟩ (.int .i64 0)).setCell ⟨w.heap.size + 1 + 1, 1, none⟩ (.int .i64 0)).setCell ⟨w.heap.size + 1 + 1, 2, none⟩ (.int .i64 0)).setCell ⟨w.heap.size + 1 + 1, 3, none⟩ (.string ⟨#[]⟩)) (c) #[.bool true, .int .i64 js, .int .i64 jd, .int .i64 jq, .string (jx ++ fx), .int .i64 jn] 35) := WHNX
    clear WHNX
    have HWH3 : Hid (Bk ((((v2.setCell ⟨w.heap.size + 1 + 1, 0, none⟩ (.int .i64 0)).setCell ⟨w.heap.size + 1 + 1, 1, none⟩ (.int .i64 0)).setCell ⟨w.heap.size + 1 + 1, 2, none⟩ (.int .i64 0)).setCell ⟨w.heap.size + 1 + 1, 3, none⟩ (.string ⟨#[]⟩)) (w.heap.size + 1 + 1 + 1) #[.int .i64 0, .int .i64 0, .int .i64 0, .string ⟨#[]⟩] 33) := WH3
    clear WH3
    have HWJ : Hid (Bk ((((v2.setCell ⟨w.heap.size + 1 + 1, 0, none⟩ (.int .i64 0)).setCell ⟨w.heap.size + 1 + 1, 1, none⟩ (.int .i64 0)).setCell ⟨w.heap.size + 1 + 1, 2, none⟩ (.int .i64 0)).setCell ⟨w.heap.size + 1 + 1, 3, none⟩ (.string ⟨#[]⟩)) (w.heap.size + 1) #[.bool true, .int .i64 js, .int .i64 jd, .int .i64 jq, .string (jx ++ fx), .int .i64 jn] 35) := WJ
    clear WJ
    have HWP : Hid (Bk ((((v2.setCell ⟨w.heap.size + 1 + 1, 0, none⟩ (.int .i64 0)).setCell ⟨w.heap.size + 1 + 1, 1, none⟩ (.int .i64 0)).setCell ⟨w.heap.size + 1 + 1, 2, none⟩ (.int .i64 0)).setCell ⟨w.heap.size + 1 + 1, 3, none⟩ (.string ⟨#[]⟩)) (w.heap.size + 1 + 1) #[.int .i64 0, .int .i64 0, .int .i64 0, .string ⟨#[]⟩] 33) := WP
    clear WP
    have HWB : Hid (Below w.heap.size w ((((v2.setCell ⟨w.heap.size + 1 + 1, 0, none⟩ (.int .i64 0)).setCell ⟨w.heap.size + 1 + 1, 1, none⟩ (.int .i64 0)).setCell ⟨w.heap.size + 1 + 1, 2, none⟩ (.int .i64 0)).setCell ⟨w.heap.size + 1 + 1, 3, none⟩ (.string ⟨#[]⟩))) := WB
    clear WB
    have A0 : v2.cell? ⟨w.heap.size + 1 + 1, 0, none⟩ = some (.int .i64 0) := YP.cell 0
    have A1 : v2.cell? ⟨w.heap.size + 1 + 1, 1, none⟩ = some (.int .i64 0) := YP.cell 1
    have A2 : v2.cell? ⟨w.heap.size + 1 + 1, 2, none⟩ = some (.int .i64 0) := YP.cell 2
    have A3 : v2.cell? ⟨w.heap.size + 1 + 1, 3, none⟩ = some (.string ⟨#[]⟩) := YP.cell 3
    have Z0 : v2.frozen? ⟨w.heap.size + 1 + 1, 0, none⟩ = false := YP.free 0
    have Z1 : v2.frozen? ⟨w.heap.size + 1 + 1, 1, none⟩ = false := YP.free 1
    have Z2 : v2.frozen? ⟨w.heap.size + 1 + 1, 2, none⟩ = false := YP.free 2
    have Z3 : v2.frozen? ⟨w.heap.size + 1 + 1, 3, none⟩ = false := YP.free 3
    clear YHNX
    clear YH3
    clear YJ YP YB
    refine wpAnyG_one (i := 3) (by kernel_rfl) rfl (fun K hK => ?_)
    go_simp
    refine hK.out _ _ (Or.inr ?s2t8) ?_
    case s2t8 => exact ⟨HWHNX.out.cell 0, HWHNX.out.cell 1, HWHNX.out.cell 2, HWHNX.out.cell 3, HWHNX.out.cell 4, HWHNX.out.cell 5, HWH3.out.cell 0, HWH3.out.cell 1, HWH3.out.cell 2, HWH3.out.cell 3⟩
    clear hK K A0 A1 A2 A3 Z0 Z1 Z2 Z3
    generalize (((v2.setCell ⟨w.heap.size + 1 + 1, 0, none⟩ (.int .i64 0)).setCell ⟨w.heap.size + 1 + 1, 1, none⟩ (.int .i64 0)).setCell ⟨w.heap.size + 1 + 1, 2, none⟩ (.int .i64 0)).setCell ⟨w.heap.size + 1 + 1, 3, none⟩ (.string ⟨#[]⟩) = v3 at *
    refine wpAnyG_one (i := 4) (by kernel_rfl) rfl (fun K hK => ?_)
    go_simp
    refine hK.out _ _ (Or.inr ?s3t8) ?_
    case s3t8 => exact ⟨HWHNX.out.cell 0, HWHNX.out.cell 1, HWHNX.out.cell 2, HWHNX.out.cell 3, HWHNX.out.cell 4, HWHNX.out.cell 5, HWH3.out.cell 0, HWH3.out.cell 1, HWH3.out.cell 2, HWH3.out.cell 3⟩
    clear hK K
    refine wpAnyG_one (i := 5) (by kernel_rfl) rfl (fun K hK => ?_)
    go_simp
    refine hK.out _ _ (Or.inl (by kernel_rfl)) ?_
    clear hK K
    refine wpAnyG_done (by kernel_rfl) ?_ _
    have Y0 := HWJ.out.cell 0
    have Y1 := HWJ.out.cell 1
    have Y2 := HWJ.out.cell 2
    have Y3 := HWJ.out.cell 3
    have Y4 := HWJ.out.cell 4
    have Y5 := HWJ.out.cell 5
    have Y6 := HWP.out.cell 0
    have Y7 := HWP.out.cell 1
    have Y8 := HWP.out.cell 2
    have Y9 := HWP.out.cell 3
    simp only [List.getElem?_toArray, List.getElem?_cons_zero, List.getElem?_cons_succ] at Y0 Y1 Y2 Y3 Y4 Y5 Y6 Y7 Y8 Y9
    go_wp2
    refine bodyPost_ret (v := .tuple #[.agg #[.bool true, .int .i64 js, .int .i64 jd, .int .i64 jq, .string (jx ++ fx), .int .i64 jn], .agg #[.int .i64 0, .int .i64 0, .int .i64 0, .string ⟨#[]⟩], .bool false, .int .i64 0]) (by simp [results, Try.results12, go_sem, Y0, Y1, Y2, Y3, Y4, Y5, Y6, Y7, Y8, Y9]; try rfl) rfl ⟨rfl, HWB.out⟩
end Go.Proofs.Ytockjijhckkicaa
