/-
  One that is sent to itself. (Written by gen_nlives.py.)
-/
import Derived.Test.YtoejpngdkcnnhaaGreatNcSnd
import Derived.Test.YtoejpngdkcnnhaaGreatNcNx
import Derived.Test.YtoejpngdkcnnhaaGreatNcPl
namespace Go.Proofs.YtoejpngdkcnnhaaGreat
open Go.RowKit

def lvC : G.Cf := ⟨2, 1, 1, 2, 1, 2, 1, false, false⟩
def lvP : Pc := ⟨1, false, [(1, 0)], ⟨#[97]⟩⟩
def lvK : I.Pk := ⟨1, 1, 0, ⟨#[97]⟩⟩
def lvW0 : Nat := lvP.ws.getD 0 0
def lvW1 : Nat := lvP.ws.getD 1 0
def lvX0 : I.IS := I.newI (I.roomN 2)
def lvX1 : I.IS := I.comeS lvX0 lvK
def lvX2 : I.IS := I.tellS lvX1
theorem lv_box : I.comeE lvX0 lvK = 0 ∧ I.tellB lvX1 = true ∧ I.recvV lvX2 = lvK ∧ I.recvE lvX2 = 0 := ⟨by decide, by decide, rfl, by decide⟩
theorem lv_len : lvP.ws.length = 2 := by rw [ws_len]; rfl
theorem lv_ws : lvP.ws = [lvW0, lvW1] := by
  have h := lv_len
  unfold lvW0 lvW1
  match hw : lvP.ws, h with
  | [x, y], _ => rfl
theorem lv_ok : lvP.okB = true := by decide
theorem lv_send : sendE ⟨lvC, 1, 0, 0⟩ lvP = 0 := by
  unfold sendE
  rw [wordsR_ok lv_ok]
  decide
theorem lv_take : tkE lvX0 zjs lvW0 = 0 ∧ tkS lvX0 zjs lvW0 = lvX0 ∧ (takeR zjs lvW0).1.x.size ≤ 900000 ∧ tkE lvX0 (takeR zjs lvW0).1 lvW1 = 0 ∧ tkS lvX0 (takeR zjs lvW0).1 lvW1 = lvX1 := by
  have h0 : lvP.ws[0]? = some lvW0 := by rw [lv_ws]; rfl
  have h1 : lvP.ws[1]? = some lvW1 := by rw [lv_ws]; rfl
  obtain ⟨a1, a2, a3, -⟩ := tk_step lv_ok rfl h0
  obtain ⟨b1, b2, b3, b4⟩ := tk_step lv_ok rfl h1
  rw [sj_zero] at a1 a2 a3
  rw [lv_len] at a3 b3 b4
  have hs := sj_x (L := lvP.ws) takeR_six (0 + 1)
  rw [a1]
  unfold tkE tkS
  rw [a3, a2, b3, b4 rfl]
  exact ⟨rfl, rfl, by omega, lv_box.1, rfl⟩
theorem lv_lt : lvW0 < 18446744073709551616 ∧ lvW1 < 18446744073709551616 := ⟨ws_lt lvP _ (by rw [lv_ws]; simp), ws_lt lvP _ (by rw [lv_ws]; simp)⟩
theorem some_any (w : World) : Calls Tryz.prog 23 #[] w fun e w' => e = .returned (G.cfv lvC) ∧ Below w.heap.size w w' := by
  simp only [G.cfv, G.cfc, lvC]
  go_enter Tryz.func23, Tryz.ntmps23
  go_wp2
  exact bodyPost_ret (v := .agg #[.int .i64 2, .int .i64 1, .int .i64 1, .int .i64 2, .int .i64 1, .int .i64 2, .int .i64 1, .bool false, .bool false]) (by simp [results, Tryz.results23, go_sem]; try rfl) rfl ⟨rfl, (Below.refl _ _).alloc (Nat.le_refl _) _⟩
abbrev lvS : Nc := ⟨lvC, 1, 0, 0⟩
abbrev lvS1 : Nc := { lvS with st := 0 + 1, lf := 0 + (2 : Int) }
abbrev lvS2 : Nc := { lvS1 with lf := lvS1.lf - 1 }
abbrev lvS3 : Nc := { lvS2 with lf := lvS2.lf - 1 }
/-- The parcel is sent. -/
theorem lv_sent {w0 w : World} {b ib : Nat} {jb : Nat → Nat} (h : Nx w0 w b ib lvS (.slice none 0 0) jb (fun _ => zjs) lvX0 (fun _ => False)) {hb : Nat} (hh : Bk w hb #[.int .i64 1, .int .i64 0] 59) :
    Calls Tryz.prog 10 #[.pointer (some ⟨b, 0, none⟩), .agg #[.int .i64 1, .bool false, .slice (some ⟨hb, 0, none⟩) 1 1, .string ⟨#[97]⟩]] w fun e w' => e = .returned (.int .i64 0) ∧ ∃ v g l, Nx w0 w' b ib lvS1 v jb (fun _ => zjs) lvX0 (fun q => q = g) ∧ Puts w' w'.heap.size b g v [(l, [lvW0, lvW1])] ∧ w0.heap.size ≤ g := by
  have hr : Rd w (some ⟨hb, 0, none⟩) (pc lvP.hs) := fun j u hj => by
    refine ⟨hb, 0, rfl, hh.lt, ?_⟩
    rw [Nat.zero_add, hh.cell j]
    have : pc lvP.hs = [.int .i64 1, .int .i64 0] := rfl
    rw [this] at hj
    rw [List.getElem?_toArray]
    exact hj
  refine (nic_send h.nb (Snd.nil w w.heap.size) lvP _ 1 (by decide) (by decide) hr lv_send (by decide) (by decide) (by decide) (by rw [lv_len]; decide) (by rw [lv_len]; decide) h.nb.lt (Nat.le_refl _) (by simp)).mono ?_
  rintro e w' ⟨rfl, v, n2, s2, t2⟩
  rw [lv_len] at n2
  have hne : ([] ++ [(lnR lvS lvP, lvP.ws)] : List (Int × List Nat)) ≠ [] := by simp
  obtain ⟨g, p2, hg, ho⟩ := s2.puts n2 hne
  rw [lv_ws] at p2
  have hgl : g < w'.heap.size := p2.blk.elim fun cs ⟨t, hB, _⟩ => hB.lt
  refine ⟨rfl, v, g, _, h.tn t2 (fun q hq => ?_) (fun q hq => ?_) rfl n2, p2, Nat.le_trans h.bl.size hg⟩
  · rcases hq with e | e
    · exact Or.inl e
    · cases e
  · subst hq
    exact ⟨Or.inr hg, hgl⟩
/-- A word is put in. -/
theorem Nx.putg {w0 w : World} {b ib g : Nat} {S : Nc} {cu : Value} {jb : Nat → Nat} {js : Nat → JS} {X : I.IS} {O : Nat → Prop} {B : Nat} {l : Int} {W : Nat} {r : List Nat} {L : List (Int × List Nat)} (h : Nx w0 w b ib S cu jb js X O) (hBw : B ≤ w.heap.size) (h1 : 1 ≤ S.lf) (h2 : S.lf ≤ 1000000) (hP : Puts w B b g cu ((l, W :: r) :: L)) (hg : O g) (h0 : w0.heap.size ≤ g) :
    Calls Tryz.prog 13 #[.pointer (some ⟨b, 0, none⟩)] w fun e w' => e = .returned (.tuple #[.agg #[.int .i64 l, .int .u64 (W : Int)], .int .i64 0]) ∧ (∃ cu', Nx w0 w' b ib { S with lf := S.lf - 1 } cu' jb js X O ∧ Puts w' B b g cu' (if r = [] then L else (l, r) :: L)) ∧ I.Kp (fun q => O q ∧ q ≠ g) w w' := by
  refine (nic_put h.nb hBw h1 h2 hP).mono ?_
  rintro e w' ⟨rfl, cu', n, p, t⟩
  refine ⟨rfl, ⟨cu', h.tn t (fun q hq => ?_) (fun q hq => ⟨Or.inl hq, Nat.lt_of_lt_of_le (h.olt hq) t.size⟩) rfl n, p⟩, t.size, fun q hq => t.block q (h.olt hq.1) ?_⟩
  · rcases hq with e | e
    · exact Or.inl e
    · rw [e]; exact Or.inr ⟨hg, h0⟩
  · rintro (e | e)
    · exact (h.off q hq.1).1 e
    · exact hq.2 e
set_option maxRecDepth 100000 in
set_option maxHeartbeats 4000000 in
theorem lives_any (w : World) : Calls Tryz.prog 5 #[] w fun e w' => e = .returned (.bool true) ∧ Below w.heap.size w w' := by
  have CS := some_any w
  have CN : Hid (∀ v, Calls Tryz.prog 8 #[G.cfv lvC, .int .i64 1] v fun e w' => ∃ b ib jb, e = .returned (.pointer (some ⟨b, 0, none⟩)) ∧ Nx v w' b ib ⟨lvC, 1, 0, 0⟩ (.slice none 0 0) jb (fun _ => zjs) lvX0 (fun _ => False)) := show _ from fun v => (nic_new lvC 1 v (by decide) (by decide)).mono fun e w' ⟨b, ib, F, jb, h1, h2⟩ => ⟨b, ib, jb, h1, Nx.start h2 fun _ h => h.elim⟩
  simp only [G.cfv, G.cfc, lvC] at CS CN
  go_enter Tryz.func5, Tryz.ntmps5
  go_wp2_with fail
  go_at_call 23
  with_reducible refine CS.mono ?_
  rintro e w0 ⟨rfl, hb0⟩
  have HB0 : Hid (Below w.heap.size w w0) := hb0
  have C1 := CN.out w0
  clear CS CN hb0
  go_upto_region 2 with (go_at_call 8; with_reducible refine C1.mono ?_; rintro e w1 ⟨b, ib, jb, rfl, X1⟩)
  clear C1
  have XA := X1.next ((Below.refl _ _).alloc (Nat.le_refl _) (.cells #[.int .i64 1, .int .i64 0] 59))
  have HA := Bk.new w1 #[.int .i64 1, .int .i64 0] 59
  have C2 := lv_sent XA HA
  clear XA HA X1
  go_upto_region 3 with (go_at_call 10; with_reducible refine C2.mono ?_; rintro e w2 ⟨rfl, cu, g, l, X2, P2, G2⟩)
  have HG : Hid (w0.heap.size ≤ g) := G2
  have C3 := X2.putg (Nat.le_refl _) (by decide) (by decide) P2 rfl G2
  rw [if_neg (by simp)] at C3
  clear C2 X2 P2 G2
  go_upto_region 4 with (go_at_call 13; with_reducible refine C3.mono ?_; rintro e w3 ⟨rfl, ⟨cu3, X3, P3⟩, K3⟩)
  have XB := Bk.new w3 #[.int .i64 l, .int .u64 (lvW0 : Int)] 48
  have X4 := X3.alloc (.cells #[.int .i64 l, .int .u64 (lvW0 : Int)] 48)
  have b34 : Below w3.heap.size w3 (w3.alloc (.cells #[.int .i64 l, .int .u64 (lvW0 : Int)] 48)) := (Below.refl _ _).alloc (Nat.le_refl _) _
  have P4 := P3.next b34
  have hg3 : g < w3.heap.size := X3.olt rfl
  have C4 := X4.putg (Nat.le_trans K3.size b34.size) (by decide) (by decide) P4 (Or.inl rfl) HG.out
  rw [if_pos rfl] at C4
  have hne : w3.heap.size ≠ g := by omega
  have KK : Hid (∀ v, I.Kp (fun q => (q = g ∨ q = w3.heap.size) ∧ q ≠ g) (w3.alloc (.cells #[.int .i64 l, .int .u64 (lvW0 : Int)] 48)) v → Bk v w3.heap.size #[.int .i64 l, .int .u64 (lvW0 : Int)] 48) := show _ from fun v hv => XB.ikp hv ⟨Or.inr rfl, hne⟩
  clear C3 X3 P3 K3 P4 X4 XB b34 hg3 hne
  generalize w3.alloc (.cells #[.int .i64 l, .int .u64 (lvW0 : Int)] 48) = w4 at *
  generalize w3.heap.size = xb at *
  go_upto_region 5 with (go_at_call 13; with_reducible refine C4.mono ?_; rintro e w5 ⟨rfl, ⟨cu5, X5, -⟩, K5⟩)
  have XB5 := KK.out _ K5
  have YB := Bk.new w5 #[.int .i64 l, .int .u64 (lvW1 : Int)] 48
  have D5 : Below w5.heap.size w5 (w5.alloc (.cells #[.int .i64 l, .int .u64 (lvW1 : Int)] 48)).drew := ((Below.refl _ _).alloc (Nat.le_refl _) _).drew
  have X6 := ((X5.alloc (.cells #[.int .i64 l, .int .u64 (lvW1 : Int)] 48)).less (O' := fun q => q = xb ∨ q = w5.heap.size) fun q h => by
    rcases h with e | e
    · exact Or.inl (Or.inr e)
    · exact Or.inr e).next ((Below.refl _ _).drew)
  have KT : Hid (∀ v, I.Kp (fun q => q = xb ∨ q = w5.heap.size) (w5.alloc (.cells #[.int .i64 l, .int .u64 (lvW1 : Int)] 48)).drew v → v.cell? ⟨xb, 1, none⟩ = some (.int .u64 (lvW0 : Int)) ∧ v.cell? ⟨w5.heap.size, 1, none⟩ = some (.int .u64 (lvW1 : Int))) := show _ from fun v hv => ⟨(((XB5.next D5).ikp hv (Or.inl rfl)).cell 1).trans rfl, (((YB.drew).ikp hv (Or.inr rfl)).cell 1).trans rfl⟩
  have T0 := show _ ∧ _ from ⟨((XB5.next D5).cell 1).trans rfl, (YB.drew.cell 1).trans rfl⟩
  obtain ⟨t1, t2, t3, t4, t5⟩ := lv_take
  obtain ⟨u1, u2⟩ := lv_lt
  have K1 : Hid (∀ v, Nx w0 v b ib lvS3 cu5 jb (fun _ => zjs) lvX0 (fun q => q = xb ∨ q = w5.heap.size) → Calls Tryz.prog 18 #[.pointer (some ⟨b, 0, none⟩), .int .i64 0, .int .i64 0, .int .u64 (lvW0 : Int)] v fun e v' => e = .returned (.int .i64 0) ∧ Nx w0 v' b ib lvS3 cu5 jb (updS (fun _ => zjs) (0 * 8 + 0) (takeR zjs lvW0).1) lvX0 (fun _ => False) ∧ I.Kp (fun q => q = xb ∨ q = w5.heap.size) v v') := show _ from fun v h => (h.take (p := 0) (l := 0) (by decide) (by decide) (by decide) u1 (by decide)).mono fun e v' k => ⟨by rw [k.1, t1], by have := k.2.1; rw [t2] at this; exact this.less fun _ h => h.elim, k.2.2⟩
  have K2 : Hid (∀ v, Nx w0 v b ib lvS3 cu5 jb (updS (fun _ => zjs) (0 * 8 + 0) (takeR zjs lvW0).1) lvX0 (fun _ => False) → Calls Tryz.prog 18 #[.pointer (some ⟨b, 0, none⟩), .int .i64 0, .int .i64 0, .int .u64 (lvW1 : Int)] v fun e v' => e = .returned (.int .i64 0) ∧ ∃ js, Nx w0 v' b ib lvS3 cu5 jb js lvX1 (fun _ => False)) := show _ from fun v h => (h.take (p := 0) (l := 0) (by decide) (by decide) (by decide) u2 t3).mono fun e v' k => ⟨by rw [k.1]; exact congrArg _ (congrArg _ t4), _, by have := k.2.1; rw [show (updS (fun _ => zjs) (0 * 8 + 0) (takeR zjs lvW0).1 (0 * 8 + 0)) = (takeR zjs lvW0).1 from rfl, t5] at this; exact this⟩
  obtain ⟨-, m1, m2, m3⟩ := lv_box
  have K3 : Hid (∀ v js, Nx w0 v b ib lvS3 cu5 jb js lvX1 (fun _ => False) → Calls Tryz.prog 22 #[.pointer (some ⟨b, 0, none⟩)] v fun e v' => e = .returned (.bool true) ∧ Nx w0 v' b ib lvS3 cu5 jb js lvX2 (fun _ => False)) := show _ from fun v js h => h.tell.mono fun e v' k => ⟨by rw [k.1, m1], k.2.1⟩
  have K4 : Hid (∀ v js, Nx w0 v b ib lvS3 cu5 jb js lvX2 (fun _ => False) → Calls Tryz.prog 24 #[.pointer (some ⟨b, 0, none⟩)] v fun e v' => e = .returned (.tuple #[.agg #[.int .i64 1, .int .i64 1, .int .i64 0, .string ⟨#[97]⟩], .int .i64 0]) ∧ Nx w0 v' b ib lvS3 cu5 jb js (I.recvS lvX2) (fun _ => False)) := show _ from fun v js h => h.recv.mono fun e v' k => ⟨by rw [k.1, m2, m3]; rfl, k.2.1⟩
  clear t1 t2 t3 t4 t5 u1 u2 m1 m2 m3 KK X5 K5 XB5 YB D5 C4
  generalize lvX1 = x1 at *
  generalize I.recvS lvX2 = x3 at *
  generalize lvX2 = x2 at *
  generalize lvX0 = x0 at *
  generalize updS (fun _ => zjs) (0 * 8 + 0) (takeR zjs lvW0).1 = js1 at *
  generalize (fun _ => zjs : Nat → JS) = js0 at *
  generalize (lvW0 : Int) = W0 at *
  generalize (lvW1 : Int) = W1 at *
  generalize hyb : w5.heap.size = yb at *
  refine wp_region_G (fun V => V.cell? ⟨xb, 1, none⟩ = some (.int .u64 W0) ∧ V.cell? ⟨yb, 1, none⟩ = some (.int .u64 W1)) 7 (by kernel_rfl) ?_
  refine wpAnyG_take [3, 7] (some 29) (i := 0) (v := ?v0) rfl rfl (by kernel_rfl) (by kernel_rfl) (by kernel_rfl) (by kernel_rfl) (fun _ _ _ h => h) (Or.inl ⟨by rfl, ?y0⟩) T0 ?r0
  case y0 => (intro V hSV; obtain ⟨s0, s1⟩ := hSV; go_simp; try with_reducible rfl)
  try simp only [Act.put, List.setIfInBounds_toArray, List.set_cons_zero, List.set_cons_succ]
  refine wpAnyG_take [2, 3, 7] (some 30) (i := 1) (v := ?v1) rfl rfl (by kernel_rfl) (by kernel_rfl) (by kernel_rfl) (by kernel_rfl) (fun _ _ _ h => h) (Or.inl ⟨by rfl, ?y1⟩) T0 ?r1
  case y1 => (intro V hSV; obtain ⟨s0, s1⟩ := hSV; go_simp; try with_reducible rfl)
  try simp only [Act.put, List.setIfInBounds_toArray, List.set_cons_zero, List.set_cons_succ]
  refine wpAnyG_take [3, 7] (some 31) (i := 2) (v := ?v2) rfl rfl (by kernel_rfl) (by kernel_rfl) (by kernel_rfl) (by kernel_rfl) (fun _ _ _ h => h) (Or.inl ⟨by rfl, ?y2⟩) T0 ?r2
  case y2 => (intro V hSV; obtain ⟨s0, s1⟩ := hSV; go_simp; try with_reducible rfl)
  try simp only [Act.put, List.setIfInBounds_toArray, List.set_cons_zero, List.set_cons_succ]
  refine wpAnyG_take [7] (some 33) (i := 4) (v := ?v4) rfl rfl (by kernel_rfl) (by kernel_rfl) (by kernel_rfl) (by kernel_rfl) (fun _ _ _ h => h) (Or.inl ⟨by rfl, ?y4⟩) T0 ?r4
  case y4 => (intro V hSV; obtain ⟨s0, s1⟩ := hSV; go_simp; try with_reducible rfl)
  try simp only [Act.put, List.setIfInBounds_toArray, List.set_cons_zero, List.set_cons_succ]
  refine wpAnyG_take [6, 7] (some 34) (i := 5) (v := ?v5) rfl rfl (by kernel_rfl) (by kernel_rfl) (by kernel_rfl) (by kernel_rfl) (fun _ _ _ h => h) (Or.inl ⟨by rfl, ?y5⟩) T0 ?r5
  case y5 => (intro V hSV; obtain ⟨s0, s1⟩ := hSV; go_simp; try with_reducible rfl)
  try simp only [Act.put, List.setIfInBounds_toArray, List.set_cons_zero, List.set_cons_succ]
  refine wpAnyG_take [7] (some 35) (i := 6) (v := ?v6) rfl rfl (by kernel_rfl) (by kernel_rfl) (by kernel_rfl) (by kernel_rfl) (fun _ _ _ h => h) (Or.inl ⟨by rfl, ?y6⟩) T0 ?r6
  case y6 => (intro V hSV; obtain ⟨s0, s1⟩ := hSV; go_simp; try with_reducible rfl)
  try simp only [Act.put, List.setIfInBounds_toArray, List.set_cons_zero, List.set_cons_succ]
  have L1 := K1.out _ X6
  clear X6 K1
  refine wpAnyG_one (i := 3) (by kernel_rfl) rfl (fun K hK => ?_)
  go_simp
  with_reducible refine (L1).mono ?_
  rintro e w7 ⟨rfl, X7, K7⟩
  have T1 := KT.out _ K7
  clear K7 KT L1
  refine hK.out _ _ (Or.inr T1) ?_
  clear hK K
  try simp only [Act.put, List.setIfInBounds_toArray, List.set_cons_zero, List.set_cons_succ]
  have L2 := K2.out _ X7
  clear X7 K2
  refine wpAnyG_one (i := 7) (by kernel_rfl) rfl (fun K hK => ?_)
  go_simp
  with_reducible refine L2.mono ?_
  rintro e w8 ⟨rfl, js2, X8⟩
  refine hK.out _ _ (Or.inl (by kernel_rfl)) ?_
  clear hK K L2
  try simp only [Act.put, List.setIfInBounds_toArray, List.set_cons_zero, List.set_cons_succ]
  refine wpAnyG_one (i := 8) (by kernel_rfl) rfl (fun K hK => ?_)
  go_simp
  refine hK.out _ _ (Or.inl (by kernel_rfl)) ?_
  clear hK K
  try simp only [Act.put, List.setIfInBounds_toArray, List.set_cons_zero, List.set_cons_succ]
  refine wpAnyG_one (i := 9) (by kernel_rfl) rfl (fun K hK => ?_)
  go_simp
  refine hK.out _ _ (Or.inl (by kernel_rfl)) ?_
  clear hK K
  try simp only [Act.put, List.setIfInBounds_toArray, List.set_cons_zero, List.set_cons_succ]
  refine wpAnyG_done (by kernel_rfl) ?_ _
  clear T0 T1
  have L3 := K3.out w8 js2 X8
  go_upto_region 7 with (go_at_call 22; with_reducible refine L3.mono ?_; rintro e w9 ⟨rfl, X9⟩)
  have L4 := K4.out w9 js2 X9
  clear L3 X8 K3
  go_upto_region 8 with (go_at_call 24; with_reducible refine L4.mono ?_; rintro e w10 ⟨rfl, X10⟩)
  have PB := Bk.new w10 #[.int .i64 1, .int .i64 1, .int .i64 0, .string ⟨#[97]⟩] 61
  have X11 := X10.next ((Below.refl _ _).alloc (Nat.le_refl _) (.cells #[.int .i64 1, .int .i64 1, .int .i64 0, .string ⟨#[97]⟩] 61))
  clear L4 X9 K4 X10
  generalize w10.alloc (.cells #[.int .i64 1, .int .i64 1, .int .i64 0, .string ⟨#[97]⟩] 61) = w11 at *
  generalize w10.heap.size = pb at *
  have HB : Hid (Below w.heap.size w w11) := HB0.out.trans (X11.bl.mono HB0.out.size)
  have y3 : w11.cell? ⟨pb, 3, none⟩ = some (.string ⟨#[97]⟩) := (PB.cell 3).trans rfl
  have CL := left_any X11.nb
  have CT := sent_any X11.nb
  rw [show lvS3.lf = 0 from rfl] at CL
  rw [show lvS3.st = 1 from rfl] at CT
  clear X11 PB
  go_wp2_with (first
    | (go_at_call 15; with_reducible refine CL.mono ?_; rintro e v ⟨rfl, rfl⟩)
    | (go_at_call 21; with_reducible refine CT.mono ?_; rintro e v ⟨rfl, rfl⟩))
  go_ret
  exact ⟨rfl, HB.out⟩
end Go.Proofs.YtoejpngdkcnnhaaGreat
