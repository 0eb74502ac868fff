/-
  The walk of InboxRow. (Written by gen_irow.py.)
-/
import Derived.Test.YtpmkpjnhdehnhaaILives
import Derived.Test.YtpmkpjnhdehnhaaIRwP
import Derived.Test.YtpmkpjnhdehnhaaIRst
import Derived.Test.YtpmkpjnhdehnhaaIRows
import Derived.Deep.CutBlock
import Derived.Test.YtpmkpjnhdehnhaaStage
import Derived.Laws.BytesArg
namespace Go.Proofs.Ytpmkpjnhdehnhaa
open Go.RowKit

/-- How many of each source. -/
def rwC (l : List Int) (k : Nat) : Nat := if k < l.length then irst (l.getD k 0) 6 else 0
theorem rwC_le (l : List Int) (k : Nat) : rwC l k ≤ 5 := by
  unfold rwC
  split
  · have := (irst_eq (l.getD k 0) (m := 6) (by decide) (by decide)).1
    omega
  · omega
abbrev ownO (v : Value) : Nat → Prop := fun g => v.ownBlock = some g
/-- The law's inbox and its row. -/
structure RwX (w0 v : World) (b : Nat) (S : IS) (O : Nat → Prop) (y : Value) (l : List Pk) : Prop where
  x : Ix w0 v b S O
  o : OwP v w0.heap.size O y l
section
variable {w0 v v' : World} {b : Nat} {S S' : IS} {O O' : Nat → Prop} {x x' : Value} {l l' : List Pk}
theorem RwX.next (h : RwX w0 v b S O x l) (hb : Below v.heap.size v v') : RwX w0 v' b S O x l := ⟨(h.x.next hb).1, h.o.next hb⟩
theorem RwX.step (h : RwX w0 v b S O x l) (hx : Ix w0 v' b S' O) (hk : Kp O v v') : RwX w0 v' b S' O x l := ⟨hx, h.o.kp hk⟩
end
theorem RwX.app {w0 V w' : World} {b : Nat} {S : IS} {y v' : Value} {l m : List Pk} {n : Nat} (h : RwX w0 V b S (ownO y) y l) (hn : n = (l ++ m).length) (o1 : OwnK 33 4 w' w0.heap.size v' n (pkcs l ++ pkcs m)) (o2 : V.grownBy w' y.ownBlock) (o3 : v'.ownBlock = y.ownBlock ∨ v'.ownBlock = some V.heap.size) : RwX w0 w' b S (ownO v') v' (l ++ m) := by
  subst hn
  rw [← pkcs_app] at o1
  refine ⟨h.x.grow o2 (fun q hq => ⟨hq, (h.o.o.lt hq).1⟩) fun g hg => ⟨?_, (o1.lt hg).2⟩, ⟨o1, fun q hq => hq⟩⟩
  have hg' : v'.ownBlock = some g := hg
  rcases o3 with e | e
  · rw [e] at hg'
    exact Or.inl hg'
  · rw [e] at hg'
    cases hg'
    exact Or.inr (Nat.le_refl _)
/-- The law's list of next numbers. -/
abbrev nxC (c : Nat → Nat) : Array Value := #[.int .i64 (c 0 : Int), .int .i64 (c 1 : Int), .int .i64 (c 2 : Int), .int .i64 (c 3 : Int), .int .i64 (c 4 : Int)]
theorem nxC_at (c : Nat → Nat) (s : Nat) (h : s < 5) : (nxC c)[s]? = some (.int .i64 (c s : Int)) := by
  have : s = 0 ∨ s = 1 ∨ s = 2 ∨ s = 3 ∨ s = 4 := by omega
  rcases this with rfl | rfl | rfl | rfl | rfl <;> rfl
theorem nxC_set (c : Nat → Nat) (s : Nat) (h : s < 5) (x : Nat) : (nxC c).setIfInBounds s (.int .i64 (x : Int)) = nxC (fun k => if k = s then x else c k) := by
  have : s = 0 ∨ s = 1 ∨ s = 2 ∨ s = 3 ∨ s = 4 := by omega
  rcases this with rfl | rfl | rfl | rfl | rfl <;> simp
abbrev rwO (nb : Nat) (y : Value) : Nat → Prop := fun g => g = nb ∨ y.ownBlock = some g
/-- The law's inbox, its row, its list of next numbers. -/
structure RwY (w0 v : World) (b : Nat) (S : IS) (y : Value) (l : List Pk) (nb : Nat) (c : Nat → Nat) : Prop where
  x : Ix w0 v b S (rwO nb y)
  o : OwP v w0.heap.size (rwO nb y) y l
  n : Bk v nb (nxC c) 54
  h : w0.heap.size ≤ nb
section
variable {w0 v v' : World} {b nb : Nat} {S S' : IS} {y y' : Value} {l l' : List Pk} {c : Nat → Nat}
theorem RwY.next (h : RwY w0 v b S y l nb c) (hb : Below v.heap.size v v') : RwY w0 v' b S y l nb c := ⟨(h.x.next hb).1, h.o.next hb, h.n.next hb, h.h⟩
theorem RwY.step (h : RwY w0 v b S y l nb c) (hx : Ix w0 v' b S' (rwO nb y)) (hk : Kp (rwO nb y) v v') : RwY w0 v' b S' y l nb c := ⟨hx, h.o.kp hk, h.n.kp hk (Or.inl rfl), h.h⟩
theorem RwY.ne (h : RwY w0 v b S y l nb c) : y.ownBlock ≠ some nb := OwnK.ne h.o.o h.n (by decide)
theorem RwY.set (h : RwY w0 v b S y l nb c) (s x : Nat) (hs : s < 5) : RwY w0 (v.setCell ⟨nb, s, none⟩ (.int .i64 (x : Int))) b S y l nb (fun k => if k = s then x else c k) := by
  refine ⟨h.x.set (Or.inl rfl) h.h, ?_, by rw [← nxC_set c s hs]; exact h.n.set s _, h.h⟩
  exact h.o.grown (r := some nb) ⟨rfl, rfl, rfl, by simp, fun i _ hne => Below.heap_setCell v ⟨nb, s, none⟩ _ i fun e => hne (by rw [e])⟩ (Or.inr h.ne)
/-- Another row, made anew out of the old one. -/
theorem RwY.row (h : RwY w0 v b S y l nb c) {O2 : Nat → Prop} (g : v.grownBy v' none) (o1 : OwP v' w0.heap.size O2 y' l') (hy : ∀ q, y'.ownBlock = some q → v.heap.size ≤ q) : RwY w0 v' b S y' l' nb c := by
  refine ⟨h.x.grow g (fun q e => by cases e) fun q hq => ?_, ⟨o1.o, fun q hq => Or.inr hq⟩, h.n.kept g (by simp), h.h⟩
  rcases hq with rfl | hq
  · exact ⟨Or.inl (Or.inl rfl), Nat.lt_of_lt_of_le h.n.lt g.size⟩
  · exact ⟨Or.inr (hy q hq), (o1.o.lt hq).2⟩
end
theorem split_list {α : Type} (l : List α) (z : Nat) (h : z < l.length) : ∃ A p B, l = A ++ p :: B ∧ A.length = z ∧ z + 1 + B.length = l.length := by
  refine ⟨l.take z, l[z], l.drop (z + 1), ?_, by simp; omega, by simp; omega⟩
  rw [← List.drop_eq_getElem_cons h, List.take_append_drop]
theorem comeS_n (S : IS) (p : Pk) : (comeS S p).n = S.n := by
  unfold comeS
  split
  · split <;> rfl
  · rfl
/-- One byte as a text. -/
theorem one_byte (w : World) (n : Nat) (_hn : n < 20) (g : Nat) (hc : w.cell? ⟨g, 0, none⟩ = some (.int .u8 ((97 + n : Nat) : Int))) : (convert 53 9 (.slice (some ⟨g, 0, none⟩) 1 1)).run Try.prog w = .ok (.string ⟨#[UInt8.ofNat (97 + n)]⟩) w := by
  have := run_convert_bytes_arg (P := Try.prog) (w := w) 53 5 Try.underlying53 Try.underlying5 g 0 1 1 [((97 + n : Nat) : Int)] rfl (fun i hi => by
    obtain rfl : i = 0 := by omega
    simpa using hc) 9 Try.underlying9
  rw [this]
  congr 4

set_option maxRecDepth 100000 in
set_option maxHeartbeats 16000000 in
theorem row_law (l0 : List Int) (a0 : Option Addr) (c0 : Nat) (l1 : List Int) (a1 : Option Addr) (c1 : Nat) (room : Int) (w : World) (hr0 : Rd w a0 (l0.map (.int .i64 ·))) (hr1 : Rd w a1 (l1.map (.int .i64 ·))) (hm0 : l0.length ≤ maxLen) (hm1 : l1.length ≤ maxLen) :
    Calls Try.prog 4 #[.slice a0 l0.length c0, .slice a1 l1.length c1, .int .i64 room] w fun e w' => e = .returned (.bool true) ∧ Below w.heap.size w w' := by
  have LV := lives_any w
  obtain ⟨i0, ki, hz0, hz1, hz2⟩ := info_parts Try.info33'
  have HR0 : Hid (Rd w a0 (l0.map (.int .i64 ·))) := hr0
  have HR1 : Hid (Rd w a1 (l1.map (.int .i64 ·))) := hr1
  obtain ⟨cn, hcn⟩ : ∃ cn : Nat → Nat, cn = rwC l0 := ⟨_, rfl⟩
  have HCN : Hid (cn = rwC l0) := hcn
  have HCL : Hid (∀ k, cn k ≤ 5) := show ∀ k, cn k ≤ 5 from fun k => by rw [hcn]; exact rwC_le l0 k
  obtain ⟨m, hm⟩ : ∃ m, m = min l0.length 5 := ⟨_, rfl⟩
  have hm5 : m ≤ 5 := by omega
  have hml : m ≤ l0.length := by omega
  have hm6 : m = 5 ∨ m = l0.length := by omega
  have hl0 : l0.length ≤ 9223372036854775807 := hm0
  have hl1 : l1.length ≤ 9223372036854775807 := hm1
  obtain ⟨S0, hS0⟩ : ∃ S0, S0 = newI (roomN room) := ⟨_, rfl⟩
  have CN : Hid (∀ v, Below w.heap.size w v → Calls Try.prog 11 #[.int .i64 room] v fun e v' => ∃ b, e = .returned (.pointer (some ⟨b, 0, none⟩)) ∧ Ix w v' b S0 NoB) := show _ from fun v hb => by
    refine (ix_new (w0 := w) (O := NoB) hb (fun _ h => h.elim) room).mono ?_
    rintro e v' ⟨b, rfl, x, _⟩
    rw [← hS0] at x
    exact ⟨b, rfl, x⟩
  have HS0 : Hid (S0 = newI (roomN room)) := hS0
  clear hr0 hr1 hcn hm hm0 hm1 hS0
  go_enter Try.func4, Try.ntmps4
  go_upto_region 3 with (go_at_call 10; with_reducible refine LV.mono ?_; rintro e v1 ⟨rfl, hb1⟩)
  have C1 := CN.out v1 hb1
  clear LV hb1 CN
  go_wp2_with (go_at_call 11; with_reducible refine C1.mono ?_; rintro e v2 ⟨b, rfl, X0⟩)
  have XA : RwX w v2 b S0 (ownO (.slice none 0 0)) (.slice none 0 0) (rwA cn 0 0) := ⟨X0.less (fun g hg => by cases (show none = some g from hg)), OwP.nil _ _ _⟩
  clear X0 C1
  go_loopw [8, 9] (fun x i wr => ∃ k : Nat, k ≤ m ∧ i = .int .i64 k ∧ RwX w wr b S0 (ownO x) x (rwA cn k 0)) (fun _ i _ => 6 - (intOf i).toNat)
  case atStart => exact ⟨0, Nat.zero_le _, rfl, XA⟩
  case round =>
    clear XA
    obtain ⟨k, hk, rfl, X⟩ := hrel
    by_cases hlt : k < m
    · have HX : Hid (RwX w wr b S0 (ownO u8) u8 (rwA cn k 0)) := X
      have t1 : (k : Int) < (l0.length : Int) := by omega
      have t2 : (k : Int) < 5 := by omega
      obtain ⟨x, hx⟩ : ∃ x, l0[k]? = some x := ⟨_, List.getElem?_eq_getElem (by omega)⟩
      obtain ⟨ga, oa, ha, hga, hc⟩ := HR0.out k (.int .i64 x) (by rw [List.getElem?_map, hx]; rfl)
      have hck : cn k = irst x 6 := by rw [HCN.out]; unfold rwC; rw [if_pos (by omega)]; simp [List.getD, hx]
      have q2 : wrap64 ((IntKind.u64.wrap x).tmod 6) = (cn k : Int) := by rw [hck]; exact (irst_eq x (m := 6) (by decide) (by decide)).2
      have CV : Hid (∀ v, Below w.heap.size w v → v.cell? ⟨ga, oa + k, none⟩ = some (.int .i64 x)) := show _ from fun v hv => (hv.cell (p := ⟨ga, oa + k, none⟩) hga).trans hc
      obtain ⟨n, hn⟩ : ∃ n, cn k = n := ⟨_, rfl⟩
      have HN : Hid (cn k = n) := hn
      have n5 : n ≤ 5 := hn ▸ HCL.out k
      rw [hn] at q2
      subst ha
      clear X hx hck hn hc
      go_upto_region 8 with fail
      go_wp2_with fail
      go_loopw [8, 10] (fun y i wr => ∃ j : Nat, j ≤ n ∧ i = .int .i64 j ∧ RwX w wr b S0 (ownO y) y (rwA cn k j)) (fun _ i _ => n - (intOf i).toNat)
      case atStart => exact ⟨0, Nat.zero_le _, rfl, HX.out⟩
      case round =>
        clear HX
        obtain ⟨j, hj, rfl, X⟩ := hrel
        have cv := CV.out _ X.x.bl
        by_cases hjn : j < n
        · have HX : Hid (RwX w wr b S0 (ownO u8) u8 (rwA cn k j)) := X
          have hlen : (rwA cn k j).length ≤ 30 := by
            have := rwA_len (cnt := cn) HCL.out k j
            omega
          obtain ⟨X1, hX1⟩ : ∃ X1 : Int, X1 = 97 + (j : Int) := ⟨_, rfl⟩
          obtain ⟨D, hD⟩ : ∃ D : ByteArray, D = ⟨#[UInt8.ofNat (97 + j)]⟩ := ⟨_, rfl⟩
          have ax1 : IntKind.u8.wrap (97 + (j : Int)) = X1 := by rw [IntKind.wrap_u8, hX1]; omega
          have OB : (convert 53 9 (.slice (some ⟨wr.heap.size, 0, none⟩) 1 1)).run Try.prog (wr.alloc (.cells #[.int .u8 X1] 5)) = .ok (.string D) (wr.alloc (.cells #[.int .u8 X1] 5)) := by
            rw [hD]
            refine one_byte _ j (by omega) _ ?_
            rw [cell_of (heap_alloc_new wr _) 0, hX1]
            rfl
          have PD : Hid (pk4 (pkd k j) = [.int .i64 (k : Int), .int .i64 0, .int .i64 (j : Int), .string D]) := show pk4 (pkd k j) = [.int .i64 (k : Int), .int .i64 0, .int .i64 (j : Int), .string D] from by rw [hD]
          have hsz : w.heap.size ≤ wr.heap.size := HX.out.x.size
          have B2 : Below wr.heap.size wr ((wr.alloc (.cells #[.int .u8 X1] 5)).alloc (.cells #[.int .i64 (k : Int), .int .i64 0, .int .i64 (j : Int), .string D] 33)) := ((Below.refl _ _).alloc (Nat.le_refl _) _).alloc (by simp) _
          have XN : Hid (RwX w ((wr.alloc (.cells #[.int .u8 X1] 5)).alloc (.cells #[.int .i64 (k : Int), .int .i64 0, .int .i64 (j : Int), .string D] 33)) b S0 (ownO u8) u8 (rwA cn k j)) := HX.out.next B2
          have OW : OwnK 33 4 ((wr.alloc (.cells #[.int .u8 X1] 5)).alloc (.cells #[.int .i64 (k : Int), .int .i64 0, .int .i64 (j : Int), .string D] 33)) w.heap.size u8 (rwA cn k j).length (pkcs (rwA cn k j)) := XN.out.o.o
          have BN : Bk ((wr.alloc (.cells #[.int .u8 X1] 5)).alloc (.cells #[.int .i64 (k : Int), .int .i64 0, .int .i64 (j : Int), .string D] 33)) (wr.heap.size + 1) #[.int .i64 (k : Int), .int .i64 0, .int .i64 (j : Int), .string D] 33 := by
            have := Bk.new (wr.alloc (.cells #[.int .u8 X1] 5)) #[.int .i64 (k : Int), .int .i64 0, .int .i64 (j : Int), .string D] 33
            rwa [show (wr.alloc (.cells #[.int .u8 X1] 5)).heap.size = wr.heap.size + 1 by simp] at this
          have hbs : w.heap.size ≤ ((wr.alloc (.cells #[.int .u8 X1] 5)).alloc (.cells #[.int .i64 (k : Int), .int .i64 0, .int .i64 (j : Int), .string D] 33)).heap.size := XN.out.x.size
          have ON : ∀ u ∈ [Value.int .i64 (k : Int), .int .i64 0, .int .i64 (j : Int), .string D], u.oneCell' = true := fun u hu => by simp at hu; rcases hu with rfl | rfl | rfl | rfl <;> rfl
          clear X hX1 hD B2 HX
          go_upto_region 11 with fail
          go_wp2_with (first
            | (at_builtin; refine wpList_new_at rfl _ _ 26 33 i0 (.agg #[.int .i64 0, .int .i64 0, .int .i64 0, .string ⟨#[]⟩]) 4 40 rfl Try.underlying26 ki hz0 hz1 hz2 rfl (by decide) (by decide) w.heap.size _ u8 _ (pkcs (rwA cn k j)) [.int .i64 (k : Int), .int .i64 0, .int .i64 (j : Int), .string D] _ rfl OW rfl _ BN rfl ON (by omega) hbs ?_; intro v' w' o1 o2 o3)
            | go_in)
          have X1' : Hid (RwX w w' b S0 (ownO v') v' (rwA cn k (j + 1))) := show RwX w w' b S0 (ownO v') v' (rwA cn k (j + 1)) from by
            rw [rwA_snoc]
            refine XN.out.app (m := [pkd k j]) (n := (rwA cn k j).length + 1) (by simp) ?_ o2 o3
            have e : pkcs [pkd k j] = [Value.int .i64 (k : Int), .int .i64 0, .int .i64 (j : Int), .string D] := (List.append_nil (pk4 (pkd k j))).trans PD.out
            rw [e]
            exact o1
          clear o1 o2 o3 XN OW BN hbs ON OB ax1 cv
          go_wp2_with fail
          go_roundw
          case rel => exact ⟨j + 1, by omega, by go_num, X1'.out⟩
          case measure => simp [intOf]; omega
        · have hjn2 : ¬ ((j : Int) < (n : Int)) := by omega
          have X1' : Hid (RwX w wr b S0 (ownO u8) u8 (rwA cn (k + 1) 0)) := show RwX w wr b S0 (ownO u8) u8 (rwA cn (k + 1) 0) from by
            have := X
            rw [show j = cn k by rw [HN.out]; omega, rwA_next] at this
            exact this
          clear X hjn
          go_wp2_with fail
          go_roundw
          case rel => exact ⟨k + 1, by omega, by go_num, X1'.out⟩
          case measure => simp [intOf]; omega
    · obtain rfl : k = m := by omega
      have HX : Hid (RwX w wr b S0 (ownO u8) u8 (rwA cn k 0)) := X
      have HM5 : Hid (k ≤ 5) := hm5
      clear X
      obtain ⟨a8, c8, hu8, hc8, hc8m, _⟩ := HX.out.o.rd
      obtain ⟨T, hT⟩ : ∃ T, (rwA cn k 0).length = T := ⟨_, rfl⟩
      rw [hT] at hu8 hc8
      have HT : Hid ((rwA cn k 0).length = T) := hT
      have hT25 : T ≤ 25 := by
        have := rwA_len (cnt := cn) HCL.out k 0
        omega
      subst hu8
      have t12 : (¬ ((k : Int) < (l0.length : Int))) ∨ ((k : Int) < (l0.length : Int) ∧ ¬ ((k : Int) < 5)) := by omega
      clear hm6 hml hm5 hlt hk hT
      have HY : Hid (RwY w (wr.alloc (.cells #[.int .i64 0, .int .i64 0, .int .i64 0, .int .i64 0, .int .i64 0] 54)) b S0 (.slice a8 T c8) (rwA cn k 0) wr.heap.size (fun _ => 0)) := by
        have hx := HX.out.x.alloc (.cells #[.int .i64 0, .int .i64 0, .int .i64 0, .int .i64 0, .int .i64 0] 54)
        refine ⟨hx.less fun g hg => hg.elim (fun e => Or.inr e) (fun e => Or.inl e), (HX.out.o.next ((Below.refl _ _).alloc (Nat.le_refl _) _)).more fun g hg => Or.inr hg, Bk.new wr _ _, HX.out.x.size⟩
      have HW : Hid (Rw cn k T S0 (rwA cn k 0) (fun _ => 0) 0) := by
        rw [HS0.out]
        exact Rw.start (Nat.zero_le _) HT.out _
      have r1 : 1 ≤ roomN room := (roomN_ok room).2.1
      have HS : Hid (S0.n = roomN room ∧ tellB S0 = false) := by
        rw [HS0.out]
        exact ⟨rfl, by unfold tellB; rw [show rdy (newI (roomN room)) = none from rfl]; simp⟩
      generalize roomN room = rn at *
      rcases t12 with t1 | ⟨t1, t2⟩
      · go_upto_region 14 with fail
        generalize wr.alloc (.cells #[.int .i64 0, .int .i64 0, .int .i64 0, .int .i64 0, .int .i64 0] 54) = v3 at *
        generalize wr.heap.size = nb at *
        go_wp2_with fail
        go_loopw [8, 13, 14] (fun y g i wr => ∃ (q got : Nat) (S : IS) (rem : List Pk) (c : Nat → Nat), q + rem.length = T ∧ g = .int .i64 got ∧ i = .int .i64 q ∧ RwY w wr b S y rem nb c ∧ Rw cn k T S rem c got ∧ S.n = rn ∧ tellB S = false) (fun _ _ i _ => T - (intOf i).toNat)
        case atStart => exact ⟨0, 0, S0, _, _, by rw [HT.out]; omega, rfl, rfl, HY.out, HW.out, HS.out.1, HS.out.2⟩
        case round =>
          clear HY HW HS HX
          obtain ⟨q, got, S, rem, c, hq, rfl, rfl, X, hW, hSn, hSt⟩ := hrel
          by_cases hlt : q < T
          · have HW : Hid (Rw cn k T S rem c got) := hW
            have HX : Hid (RwY w wr b S u8 rem nb c) := X
            obtain ⟨a8', c8', hu8, hc8, hc8m, hrd⟩ := X.o.rd
            obtain ⟨R, hR⟩ : ∃ R, rem.length = R := ⟨_, rfl⟩
            have hR0 : 0 < R := by omega
            have hR25 : R ≤ 25 := by omega
            obtain ⟨g8, o8, ha8, hg8, hzz⟩ := rd_pk hrd (List.getElem?_eq_getElem (show 0 < rem.length by omega))
            subst ha8
            rw [hR] at hu8 hc8
            subst hu8
            have HRL : Hid (rem.length = R) := hR
            have HRD : Hid (Rd wr (some ⟨g8, o8, none⟩) (pkcs rem)) := hrd
            have HSN : Hid (S.n = rn) := hSn
            have HQ : Hid (q + R = T) := show q + R = T from by omega
            have u1 : (q : Int) < (T : Int) := by omega
            clear hzz
            clear X hW hrd hR hlt hSn hSt hq
            go_upto_if 65 with fail
            obtain ⟨G, hG⟩ : ∃ G, decide (q < l1.length) = G := ⟨_, rfl⟩
            rw [hG]
            go_cut [15] from 66 to 75 (fun s wc => ∃ z : Nat, z < R ∧ s = .int .i64 (z : Int) ∧ wr = wc)
            case first =>
              cases G with
              | true =>
                have hql : q < l1.length := by simpa using hG
                obtain ⟨x, hx⟩ : ∃ x, l1[q]? = some x := ⟨_, List.getElem?_eq_getElem hql⟩
                obtain ⟨ga, oa, ha, hga, hc⟩ := HR1.out q (.int .i64 x) (by rw [List.getElem?_map, hx]; rfl)
                have hc2 : wr.cell? ⟨ga, oa + q, none⟩ = some (.int .i64 x) := (HX.out.x.bl.cell (p := ⟨ga, oa + q, none⟩) hga).trans hc
                obtain ⟨i1, i2⟩ := irst_eq x (m := R) hR0 (by omega)
                have hql2 : (q : Int) < (l1.length : Int) := by omega
                have wR : IntKind.u64.wrap (R : Int) = (R : Int) := by rw [IntKind.wrap_u64]; omega
                have nR : ¬ (R : Int) = 0 := by omega
                have nR2 : ¬ R = 0 := by omega
                obtain ⟨z, hz⟩ : ∃ z, irst x R = z := ⟨_, rfl⟩
                rw [hz] at i1 i2
                subst ha
                clear HX HW HRD hx hc hz hG HR1 HM5 HCL HT HCN
                go_wp2_with fail
                go_meet
                exact ⟨z, i1, by rw [i2], rfl⟩
              | false =>
                clear HX HW HRD hG HR1 HM5 HCL HT HCN
                go_wp2_with fail
                go_meet
                exact ⟨0, hR0, rfl, rfl⟩
            case rest =>
            obtain ⟨z, hz, rfl, rfl⟩ := hcut
            clear hG
            obtain ⟨A, p, B, hAB, hA, hB⟩ := split_list rem z (by rw [HRL.out]; exact hz)
            rw [HRL.out] at hB
            obtain ⟨ce, hWc⟩ := HW.out.come HM5.out HCL.out hAB
            have C := ix_come HX.out.x p
            rw [ce] at C
            obtain ⟨g', o', e', _, y0, y1, y2, y3⟩ := rd_pk HRD.out (k := z) (p := p) (by rw [hAB, List.getElem?_append_right (by omega), hA]; simp)
            cases e'
            obtain ⟨S1, hS1⟩ : ∃ S1, comeS S p = S1 := ⟨_, rfl⟩
            have hS1n : S1.n = rn := by rw [← hS1, comeS_n]; exact HSN.out
            rw [hS1] at hWc C
            have C' : Calls Try.prog 17 #[.pointer (some ⟨b, 0, none⟩), pkv p] wr fun e w' => e = .returned (.int .i64 0) ∧ RwY w w' b S1 (.slice (some ⟨g8, o8, none⟩) R c8') rem nb c := C.mono fun _ _ h => ⟨h.1, HX.out.step h.2.1 h.2.2⟩
            have HS1N : Hid (S1.n = rn) := hS1n
            have HW1 : Hid (Rw cn k T S1 (A ++ B) c got) := hWc
            have HAB : Hid (rem = A ++ p :: B) := hAB
            have HA : Hid (A.length = z) := hA
            have HB : Hid (z + 1 + B.length = R) := hB
            obtain ⟨ps, pd, pq, px⟩ := p
            simp only [pkv] at C' y0 y1 y2 y3
            clear HW HX HRD HSN ce C hS1 hWc hAB hA hB hS1n
            go_upto_region 24 with (go_at_call 17; with_reducible refine C'.mono ?_; rintro e v5 ⟨rfl, X5⟩)
            clear y0 y1 y2 y3 C'
            have szw : w.heap.size ≤ v5.heap.size := X5.x.size
            have rd5 : Rd v5 (some ⟨g8, o8, none⟩) (pkcs (A ++ ⟨ps, pd, pq, px⟩ :: B)) := by
              obtain ⟨a, cp, e, _, _, rd⟩ := X5.o.rd
              simp only [Value.slice.injEq] at e
              obtain ⟨rfl, _, _⟩ := e
              rw [← HAB.out]
              exact rd
            have rdA := rd_left rd5
            have HX5 : Hid (RwY w v5 b S1 (.slice (some ⟨g8, o8, none⟩) R c8') rem nb c) := X5
            have hlA : (pkcs A).length = z * 4 := by rw [pkcs_len, HA.out]
            have hzm : 0 + z ≤ 1000000 := by omega
            have nn : (some ⟨g8, o8, none⟩ : Option Addr) = none → z = 0 ∧ c8' = 0 := fun h => by cases h
            have oA := pkcs_one A
            have zc : z ≤ c8' := by omega
            clear X5 rd5
            go_upto_region 25 with (first
              | (at_builtin; refine wpList_src_at rfl _ _ 26 33 i0 (.agg #[.int .i64 0, .int .i64 0, .int .i64 0, .string ⟨#[]⟩]) 4 40 rfl Try.underlying26 ki hz0 hz1 hz2 rfl (by decide) (by decide) w.heap.size _ (.slice none 0 0) 0 [] rfl (OwnK.nil _ _ _ _) (some ⟨g8, o8, none⟩) z c8' rfl nn (pkcs A) hlA rdA oA hzm szw ?_; intro v6 w6 o1 o2 o3)
              | go_in)
            rw [Nat.zero_add, List.nil_append] at o1
            have g56 : v5.grownBy w6 none := o2
            have OA : Hid (OwnK 33 4 w6 w.heap.size v6 z (pkcs A)) := o1
            have rd6 : Rd w6 (some ⟨g8, o8, none⟩) (pkcs ((A ++ [⟨ps, pd, pq, px⟩]) ++ B)) := by
              obtain ⟨a, cp, e, _, _, rd⟩ := (HX5.out.o.grown g56 (Or.inr fun h => by cases h)).rd
              simp only [Value.slice.injEq] at e
              obtain ⟨rfl, _, _⟩ := e
              rw [List.append_assoc, List.singleton_append, ← HAB.out]
              exact rd
            have rdB : Rd w6 (some ⟨g8, o8 + (z + 1) * 4, none⟩) (pkcs B) := by
              have := rd_right rd6
              rwa [List.length_append, List.length_singleton, HA.out] at this
            have O3 : Hid (v6.ownBlock = none ∨ v6.ownBlock = some v5.heap.size) := o3
            have G56 : Hid (v5.grownBy w6 none) := g56
            have RDB : Hid (Rd w6 (some ⟨g8, o8 + (z + 1) * 4, none⟩) (pkcs B)) := rdB
            have z1R : z + 1 ≤ R := by omega
            clear rdA oA hlA hzm nn zc szw rd6 rdB o3 o1 o2 g56
            go_cut [8] from 88 to 93 (fun y wc => OwnK 33 4 wc w.heap.size y (z + (R - (z + 1))) (pkcs A ++ pkcs B) ∧ w6.grownBy wc v6.ownBlock ∧ (y.ownBlock = v6.ownBlock ∨ y.ownBlock = some w6.heap.size))
            case first =>
              have szw : w.heap.size ≤ w6.heap.size := Nat.le_trans HX5.out.x.size G56.out.size
              have hlB : (pkcs B).length = (R - (z + 1)) * 4 := by
                have := HB.out
                rw [pkcs_len]
                congr 1
                omega
              have oB := pkcs_one B
              have hzm : z + (R - (z + 1)) ≤ 1000000 := by omega
              have OA1 := OA.out
              rcases Nat.lt_or_ge (z + 1) c8' with hc | hc
              · have rdB := RDB.out
                have hcz : ¬ c8' = z + 1 := by omega
                have nn : (some ⟨g8, o8 + (z + 1) * 4, none⟩ : Option Addr) = none → R - (z + 1) = 0 ∧ c8' - (z + 1) = 0 := fun h => by cases h
                clear OA RDB HX5 HAB HA HB HW1 HQ HRL
                go_wp2_with (first
                  | (at_builtin; refine wpList_src_at rfl _ _ 26 33 i0 (.agg #[.int .i64 0, .int .i64 0, .int .i64 0, .string ⟨#[]⟩]) 4 40 rfl Try.underlying26 ki hz0 hz1 hz2 rfl (by decide) (by decide) w.heap.size _ v6 z (pkcs A) rfl OA1 (some ⟨g8, o8 + (z + 1) * 4, none⟩) (R - (z + 1)) (c8' - (z + 1)) rfl nn (pkcs B) hlB rdB oB hzm szw ?_; intro v7 w7 o1 o2 o3)
                  | go_in)
                go_meet
                exact ⟨o1, o2, o3⟩
              · obtain rfl : c8' = z + 1 := by omega
                obtain rfl : R = z + 1 := by omega
                obtain rfl : B = [] := List.eq_nil_of_length_eq_zero (by have := HB.out; omega)
                have rdB := rd_none w6 (some ⟨g8, o8, none⟩)
                have nn : (some ⟨g8, o8, none⟩ : Option Addr) = none → 0 = 0 ∧ 0 = 0 := fun h => by cases h
                rw [Nat.sub_self] at hlB hzm
                clear OA RDB HX5 HAB HA HB HW1 HQ HRL
                go_wp2_with (first
                  | (at_builtin; refine wpList_src_at rfl _ _ 26 33 i0 (.agg #[.int .i64 0, .int .i64 0, .int .i64 0, .string ⟨#[]⟩]) 4 40 rfl Try.underlying26 ki hz0 hz1 hz2 rfl (by decide) (by decide) w.heap.size _ v6 z (pkcs A) rfl OA1 (some ⟨g8, o8, none⟩) 0 0 rfl nn (pkcs []) hlB rdB oB hzm szw ?_; intro v7 w7 o1 o2 o3)
                  | go_in)
                go_meet
                exact ⟨by rw [Nat.sub_self]; exact o1, o2, o3⟩
            case rest =>
            obtain ⟨o1, o2, o3⟩ := hcut
            have Y7 : Hid (RwY w wc b S1 u8 (A ++ B) nb c) := show RwY w wc b S1 u8 (A ++ B) nb c from by
              have e : z + (R - (z + 1)) = (A ++ B).length := by
                have := HA.out
                have := HB.out
                rw [List.length_append]
                omega
              rw [e, ← pkcs_app] at o1
              have n6 : ∀ j, v6.ownBlock = some j → v5.heap.size ≤ j := fun j hj => by
                rcases O3.out with h | h
                · rw [h] at hj; cases hj
                · rw [h] at hj; cases hj; exact Nat.le_refl _
              refine HX5.out.row (O2 := ownO u8) (G56.out.andThen o2 fun j hj => Or.inl (n6 j hj)) ⟨o1, fun q hq => hq⟩ fun q hq => ?_
              rcases o3 with h | h
              · rw [h] at hq; exact n6 q hq
              · rw [h] at hq; cases hq; exact G56.out.size
            have HL1 : Hid (q + 1 + (A ++ B).length = T) := show q + 1 + (A ++ B).length = T from by
              have := HA.out
              have := HB.out
              have := HQ.out
              rw [List.length_append]
              omega
            have gT : got ≤ T := by
              have := HW1.out.sum
              omega
            clear o1 o2 o3 OA O3 G56 RDB HX5 HAB HA HB HQ HRL
            generalize A ++ B = rem1 at *
            go_wp2_with fail
            go_loopw [13] (fun g wr => ∃ (got : Nat) (S : IS) (c : Nat → Nat), g = .int .i64 got ∧ got ≤ T ∧ RwY w wr b S u8 rem1 nb c ∧ Rw cn k T S rem1 c got ∧ S.n = rn) (fun g _ => T - (intOf g).toNat)
            case atStart => exact ⟨got, S1, c, rfl, gT, Y7.out, HW1.out, HS1N.out⟩
            case round =>
              clear Y7 HW1 HS1N
              obtain ⟨got, S, c, rfl, hgT, X, hW, hSn⟩ := hrel
              have C := ix_tell X.x
              cases ht : tellB S with
              | false =>
                have e : tellS S = S := by
                  rcases tell_cases S with ⟨_, ⟨_, h, _⟩ | ⟨p, _, _, h⟩⟩ | ⟨_, h, _⟩
                  · exact h
                  · rw [ht] at h; cases h
                  · exact h
                rw [ht, e] at C
                have C' : Calls Try.prog 19 #[.pointer (some ⟨b, 0, none⟩)] wr fun e w' => e = .returned (.bool false) ∧ RwY w w' b S u8 rem1 nb c := C.mono fun _ _ h => ⟨h.1, X.step h.2.1 h.2.2⟩
                have HW : Hid (Rw cn k T S rem1 c got) := hW
                have HT2 : Hid (tellB S = false) := ht
                clear C X hW e ht
                go_wp2_with (go_at_call 19; with_reducible refine C'.mono ?_; rintro e v8 ⟨rfl, X8⟩)
                go_roundw
                case rel => exact ⟨q + 1, got, S, rem1, c, HL1.out, rfl, by go_num, X8, HW.out, hSn, HT2.out⟩
                case measure => have := HL1.out; simp [intOf]; omega
              | true =>
                obtain ⟨s, hsk, hcs, hv, he, hn', hWl, hW'⟩ := hW.tell HM5.out HCL.out (by rw [hSn]; exact r1) ht
                obtain ⟨S2, hS2⟩ : ∃ S2, tellS S = S2 := ⟨_, rfl⟩
                rw [hS2] at hv he hn' hWl hW' C
                rw [ht] at C
                have C' : Calls Try.prog 19 #[.pointer (some ⟨b, 0, none⟩)] wr fun e w' => e = .returned (.bool true) ∧ RwY w w' b S2 u8 rem1 nb c := C.mono fun _ _ h => ⟨h.1, X.step h.2.1 h.2.2⟩
                obtain ⟨n, hn⟩ : ∃ n, c s = n := ⟨_, rfl⟩
                rw [hn] at hv hW' hcs
                obtain ⟨D, hD⟩ : ∃ D : ByteArray, D = ⟨#[UInt8.ofNat (97 + n)]⟩ := ⟨_, rfl⟩
                have n5 : n < 5 := by
                  have := HCL.out s
                  omega
                have s5 : s < 5 := by
                  have := HM5.out
                  omega
                obtain ⟨S3, hS3⟩ : ∃ S3, recvS S2 = S3 := ⟨_, rfl⟩
                rw [hS3] at hn' hWl hW'
                have CR : Hid (∀ v, RwY w v b S2 u8 rem1 nb c → Calls Try.prog 21 #[.pointer (some ⟨b, 0, none⟩)] v fun e w' => e = .returned (.tuple #[.agg #[.int .i64 (s : Int), .int .i64 0, .int .i64 (n : Int), .string D], .int .i64 0]) ∧ RwY w w' b S3 u8 rem1 nb c) := show _ from fun v hv2 => by
                  refine (ix_recv hv2.x).mono ?_
                  rintro e w' ⟨rfl, k2, k3⟩
                  rw [hS3] at k2
                  refine ⟨?_, hv2.step k2 k3⟩
                  rw [hv, he, hD]
                have HW2 : Hid (Rw cn k T S3 rem1 (fun k => if k = s then n + 1 else c k) (got + 1)) := hW'
                have hg1 : got + 1 ≤ T := by
                  have := hW'.sum
                  omega
                have HS3 : Hid (S3.n = rn) := show S3.n = rn from by rw [hn', hSn]
                have HCS : Hid (c s = n) := hn
                have HD : Hid (D = ⟨#[UInt8.ofNat (97 + n)]⟩) := hD
                clear C X hW ht hv he hn' hWl hW' hS2 hS3 hSn hcs hsk hn hD
                go_upto_region 27 with (go_at_call 19; with_reducible refine C'.mono ?_; rintro e v8 ⟨rfl, X8⟩)
                have CR1 := CR.out v8 X8
                clear X8 CR C'
                go_upto_region 28 with (go_at_call 21; with_reducible refine CR1.mono ?_; rintro e v9 ⟨rfl, X9⟩)
                clear CR1
                have HX9 : Hid (RwY w (v9.alloc (.cells #[.int .i64 (s : Int), .int .i64 0, .int .i64 (n : Int), .string D] 33)) b S3 u8 rem1 nb c) := X9.next ((Below.refl _ _).alloc (Nat.le_refl _) _)
                have N0 := Bk.new v9 #[.int .i64 (s : Int), .int .i64 0, .int .i64 (n : Int), .string D] 33
                clear X9
                generalize v9.alloc (.cells #[.int .i64 (s : Int), .int .i64 0, .int .i64 (n : Int), .string D] 33) = v10 at *
                generalize v9.heap.size = d at *
                have y0 := N0.cell 0
                have y2 := N0.cell 2
                have y3 := N0.cell 3
                simp only [List.getElem?_toArray, List.getElem?_cons_zero, List.getElem?_cons_succ] at y0 y2 y3
                have s1 : (s : Int) < 5 := by omega
                have s2 : ¬ (s : Int) < 0 := by omega
                obtain ⟨X1, hX1⟩ : ∃ X1 : Int, X1 = 97 + (n : Int) := ⟨_, rfl⟩
                have w1 : IntKind.i64.wrap (97 + (n : Int)) = X1 := by rw [wrap_small (by omega) (by omega), hX1]
                have w2 : IntKind.u8.wrap X1 = X1 := by rw [IntKind.wrap_u8, hX1]; omega
                have HX11 : Hid (RwY w v10.drew b S3 u8 rem1 nb c) := HX9.out.next (Below.refl _ _).drew
                have N1 : Hid (Bk v10.drew d #[.int .i64 (s : Int), .int .i64 0, .int .i64 (n : Int), .string D] 33) := N0.next (Below.refl _ _).drew
                have TT0 : v10.drew.cell? ⟨d, 0, none⟩ = some (.int .i64 (s : Int)) ∧ v10.drew.cell? ⟨d, 2, none⟩ = some (.int .i64 (n : Int)) ∧ v10.drew.cell? ⟨d, 3, none⟩ = some (.string D) ∧ v10.drew.cell? ⟨nb, s, none⟩ = some (.int .i64 (n : Int)) := by
                  have e := HX11.out.n.cell s
                  rw [nxC_at c s s5, HCS.out] at e
                  exact ⟨N1.out.cell 0, N1.out.cell 2, N1.out.cell 3, e⟩
                have OB : (convert 53 9 (.slice (some ⟨v10.drew.heap.size, 0, none⟩) 1 1)).run Try.prog (v10.drew.alloc (.cells #[.int .u8 X1] 5)) = .ok (.string D) (v10.drew.alloc (.cells #[.int .u8 X1] 5)) := by
                  rw [HD.out]
                  refine one_byte _ n (by omega) _ ?_
                  rw [cell_of (heap_alloc_new v10.drew _) 0, hX1]
                  rfl
                have SP2 : Hid (RwY w (v10.drew.alloc (.cells #[.int .u8 X1] 5)) b S3 u8 rem1 nb c) := HX11.out.next ((Below.refl _ _).alloc (Nat.le_refl _) _)
                have N2 : Hid (Bk (v10.drew.alloc (.cells #[.int .u8 X1] 5)) d #[.int .i64 (s : Int), .int .i64 0, .int .i64 (n : Int), .string D] 33) := N1.out.next ((Below.refl _ _).alloc (Nat.le_refl _) _)
                clear HX9 N0 hX1 HD y0 y2 y3 HX11 N1
                refine wp_region_G (fun V => V.cell? ⟨d, 0, none⟩ = some (.int .i64 (s : Int)) ∧ V.cell? ⟨d, 2, none⟩ = some (.int .i64 (n : Int)) ∧ V.cell? ⟨d, 3, none⟩ = some (.string D) ∧ V.cell? ⟨nb, s, none⟩ = some (.int .i64 (n : Int))) 20 (by kernel_rfl) ?_
                generalize v10.drew = v11 at *
                refine wpAnyG_take [1, 2, 10, 11, 20] (some 101) (i := 0) (v := ?v0) rfl rfl (by kernel_rfl) (by kernel_rfl) (by kernel_rfl) (by kernel_rfl) (fun _ _ _ h => h) (Or.inl ⟨by rfl, ?y0⟩) TT0 ?r0
                case y0 => (intro V hSV; obtain ⟨s0, s1, s2, s3⟩ := hSV; go_simp; try with_reducible rfl)
                try simp only [Act.put, List.setIfInBounds_toArray, List.set_cons_zero, List.set_cons_succ]
                refine wpAnyG_take [2, 10, 11, 20] (some 102) (i := 1) (v := ?v1) rfl rfl (by kernel_rfl) (by kernel_rfl) (by kernel_rfl) (by kernel_rfl) (fun _ _ _ h => h) (Or.inl ⟨by rfl, ?y1⟩) TT0 ?r1
                case y1 => (intro V hSV; obtain ⟨s0, s1, s2, s3⟩ := hSV; go_simp; try with_reducible rfl)
                try simp only [Act.put, List.setIfInBounds_toArray, List.set_cons_zero, List.set_cons_succ]
                refine wpAnyG_take [10, 11, 20] (some 103) (i := 2) (v := ?v2) rfl rfl (by kernel_rfl) (by kernel_rfl) (by kernel_rfl) (by kernel_rfl) (fun _ _ _ h => h) (Or.inl ⟨by rfl, ?y2⟩) TT0 ?r2
                case y2 => (intro V hSV; obtain ⟨s0, s1, s2, s3⟩ := hSV; go_simp; try with_reducible rfl)
                try simp only [Act.put, List.setIfInBounds_toArray, List.set_cons_zero, List.set_cons_succ]
                refine wpAnyG_take [4, 9, 10, 11, 20] (some 104) (i := 3) (v := ?v3) rfl rfl (by kernel_rfl) (by kernel_rfl) (by kernel_rfl) (by kernel_rfl) (fun _ _ _ h => h) (Or.inl ⟨by rfl, ?y3⟩) TT0 ?r3
                case y3 => (intro V hSV; obtain ⟨s0, s1, s2, s3⟩ := hSV; go_simp; try with_reducible rfl)
                try simp only [Act.put, List.setIfInBounds_toArray, List.set_cons_zero, List.set_cons_succ]
                refine wpAnyG_take [9, 10, 11, 20] (some 105) (i := 4) (v := ?v4) rfl rfl (by kernel_rfl) (by kernel_rfl) (by kernel_rfl) (by kernel_rfl) (fun _ _ _ h => h) (Or.inl ⟨by rfl, ?y4⟩) TT0 ?r4
                case y4 => (intro V hSV; obtain ⟨s0, s1, s2, s3⟩ := hSV; go_simp; try with_reducible rfl)
                try simp only [Act.put, List.setIfInBounds_toArray, List.set_cons_zero, List.set_cons_succ]
                refine wpAnyG_take [6, 7, 8, 9, 10, 11, 20] (some 106) (i := 5) (v := ?v5) rfl rfl (by kernel_rfl) (by kernel_rfl) (by kernel_rfl) (by kernel_rfl) (fun _ _ _ h => h) (Or.inl ⟨by rfl, ?y5⟩) TT0 ?r5
                case y5 => (intro V hSV; obtain ⟨s0, s1, s2, s3⟩ := hSV; go_simp; try with_reducible rfl)
                try simp only [Act.put, List.setIfInBounds_toArray, List.set_cons_zero, List.set_cons_succ]
                refine wpAnyG_take [7, 8, 9, 10, 11, 20] (some 107) (i := 6) (v := ?v6) rfl rfl (by kernel_rfl) (by kernel_rfl) (by kernel_rfl) (by kernel_rfl) (fun _ _ _ h => h) (Or.inl ⟨by rfl, ?y6⟩) TT0 ?r6
                case y6 => (intro V hSV; obtain ⟨s0, s1, s2, s3⟩ := hSV; go_simp; try with_reducible rfl)
                try simp only [Act.put, List.setIfInBounds_toArray, List.set_cons_zero, List.set_cons_succ]
                refine wpAnyG_take [8, 9, 10, 11, 20] (some 108) (i := 7) (v := ?v7) rfl rfl (by kernel_rfl) (by kernel_rfl) (by kernel_rfl) (by kernel_rfl) (fun _ _ _ h => h) (Or.inl ⟨by rfl, ?y7⟩) TT0 ?r7
                case y7 => (intro V hSV; obtain ⟨s0, s1, s2, s3⟩ := hSV; go_simp; try with_reducible rfl)
                try simp only [Act.put, List.setIfInBounds_toArray, List.set_cons_zero, List.set_cons_succ]
                refine wpAnyG_take [9, 10, 11, 20] (some 109) (i := 8) (v := ?v8) rfl rfl (by kernel_rfl) (by kernel_rfl) (by kernel_rfl) (by kernel_rfl) (fun _ _ _ h => h) (Or.inl ⟨by rfl, ?y8⟩) TT0 ?r8
                case y8 => (intro V hSV; obtain ⟨s0, s1, s2, s3⟩ := hSV; go_simp; try with_reducible rfl)
                try simp only [Act.put, List.setIfInBounds_toArray, List.set_cons_zero, List.set_cons_succ]
                refine wpAnyG_take [10, 11, 20] (some 110) (i := 9) (v := ?v9) rfl rfl (by kernel_rfl) (by kernel_rfl) (by kernel_rfl) (by kernel_rfl) (fun _ _ _ h => h) (Or.inl ⟨by rfl, ?y9⟩) TT0 ?r9
                case y9 => (intro V hSV; obtain ⟨s0, s1, s2, s3⟩ := hSV; go_simp; try with_reducible rfl)
                try simp only [Act.put, List.setIfInBounds_toArray, List.set_cons_zero, List.set_cons_succ]
                refine wpAnyG_take [11, 20] (some 111) (i := 10) (v := ?v10) rfl rfl (by kernel_rfl) (by kernel_rfl) (by kernel_rfl) (by kernel_rfl) (fun _ _ _ h => h) (Or.inl ⟨by rfl, ?y10⟩) TT0 ?r10
                case y10 => (intro V hSV; obtain ⟨s0, s1, s2, s3⟩ := hSV; go_simp; try with_reducible rfl)
                try simp only [Act.put, List.setIfInBounds_toArray, List.set_cons_zero, List.set_cons_succ]
                refine wpAnyG_take [20] (some 112) (i := 11) (v := ?v11) rfl rfl (by kernel_rfl) (by kernel_rfl) (by kernel_rfl) (by kernel_rfl) (fun _ _ _ h => h) (Or.inl ⟨by rfl, ?y11⟩) TT0 ?r11
                case y11 => (intro V hSV; obtain ⟨s0, s1, s2, s3⟩ := hSV; go_simp; try with_reducible rfl)
                try simp only [Act.put, List.setIfInBounds_toArray, List.set_cons_zero, List.set_cons_succ]
                refine wpAnyG_take [13, 20] (some 113) (i := 12) (v := ?v12) rfl rfl (by kernel_rfl) (by kernel_rfl) (by kernel_rfl) (by kernel_rfl) (fun _ _ _ h => h) (Or.inl ⟨by rfl, ?y12⟩) TT0 ?r12
                case y12 => (intro V hSV; obtain ⟨s0, s1, s2, s3⟩ := hSV; go_simp; try with_reducible rfl)
                try simp only [Act.put, List.setIfInBounds_toArray, List.set_cons_zero, List.set_cons_succ]
                refine wpAnyG_take [20] (some 114) (i := 13) (v := ?v13) rfl rfl (by kernel_rfl) (by kernel_rfl) (by kernel_rfl) (by kernel_rfl) (fun _ _ _ h => h) (Or.inl ⟨by rfl, ?y13⟩) TT0 ?r13
                case y13 => (intro V hSV; obtain ⟨s0, s1, s2, s3⟩ := hSV; go_simp; try with_reducible rfl)
                try simp only [Act.put, List.setIfInBounds_toArray, List.set_cons_zero, List.set_cons_succ]
                refine wpAnyG_take [15, 16, 17, 18, 19, 20] (some 115) (i := 14) (v := ?v14) rfl rfl (by kernel_rfl) (by kernel_rfl) (by kernel_rfl) (by kernel_rfl) (fun _ _ _ h => h) (Or.inl ⟨by rfl, ?y14⟩) TT0 ?r14
                case y14 => (intro V hSV; obtain ⟨s0, s1, s2, s3⟩ := hSV; go_simp; try with_reducible rfl)
                try simp only [Act.put, List.setIfInBounds_toArray, List.set_cons_zero, List.set_cons_succ]
                refine wpAnyG_take [16, 17, 18, 19, 20] (some 116) (i := 15) (v := ?v15) rfl rfl (by kernel_rfl) (by kernel_rfl) (by kernel_rfl) (by kernel_rfl) (fun _ _ _ h => h) (Or.inl ⟨by rfl, ?y15⟩) TT0 ?r15
                case y15 => (intro V hSV; obtain ⟨s0, s1, s2, s3⟩ := hSV; go_simp; try with_reducible rfl)
                try simp only [Act.put, List.setIfInBounds_toArray, List.set_cons_zero, List.set_cons_succ]
                refine wpAnyG_take [17, 18, 19, 20] (some 117) (i := 16) (v := ?v16) rfl rfl (by kernel_rfl) (by kernel_rfl) (by kernel_rfl) (by kernel_rfl) (fun _ _ _ h => h) (Or.inl ⟨by rfl, ?y16⟩) TT0 ?r16
                case y16 => (intro V hSV; obtain ⟨s0, s1, s2, s3⟩ := hSV; go_simp; try with_reducible rfl)
                try simp only [Act.put, List.setIfInBounds_toArray, List.set_cons_zero, List.set_cons_succ]
                refine wpAnyG_take [18, 19, 20] (some 118) (i := 17) (v := ?v17) rfl rfl (by kernel_rfl) (by kernel_rfl) (by kernel_rfl) (by kernel_rfl) (fun _ _ _ h => h) (Or.inl ⟨by rfl, ?y17⟩) TT0 ?r17
                case y17 => (intro V hSV; obtain ⟨s0, s1, s2, s3⟩ := hSV; go_simp; try with_reducible rfl)
                try simp only [Act.put, List.setIfInBounds_toArray, List.set_cons_zero, List.set_cons_succ]
                have TT1 : (v11.alloc (.cells #[.int .u8 X1] 5)).cell? ⟨d, 0, none⟩ = some (.int .i64 (s : Int)) ∧ (v11.alloc (.cells #[.int .u8 X1] 5)).cell? ⟨d, 2, none⟩ = some (.int .i64 (n : Int)) ∧ (v11.alloc (.cells #[.int .u8 X1] 5)).cell? ⟨d, 3, none⟩ = some (.string D) ∧ (v11.alloc (.cells #[.int .u8 X1] 5)).cell? ⟨nb, s, none⟩ = some (.int .i64 (n : Int)) := by
                  have a := N2.out.cell 0
                  have b := N2.out.cell 2
                  have c := N2.out.cell 3
                  have e := SP2.out.n.cell s
                  rw [nxC_at _ s s5, HCS.out] at e
                  exact ⟨a, b, c, e⟩
                refine wpAnyG_one (i := 18) (by kernel_rfl) rfl (fun K hK => ?_)
                go_simp
                refine hK.out _ _ (Or.inr TT1) ?_
                clear hK K
                try simp only [Act.put, List.setIfInBounds_toArray, List.set_cons_zero, List.set_cons_succ]
                refine wpAnyG_one (i := 19) (by kernel_rfl) rfl (fun K hK => ?_)
                go_simp
                refine hK.out _ _ (Or.inr TT1) ?_
                clear hK K
                try simp only [Act.put, List.setIfInBounds_toArray, List.set_cons_zero, List.set_cons_succ]
                refine wpAnyG_one (i := 20) (by kernel_rfl) rfl (fun K hK => ?_)
                go_simp
                refine hK.out _ _ (Or.inl (by kernel_rfl)) ?_
                clear hK K
                try simp only [Act.put, List.setIfInBounds_toArray, List.set_cons_zero, List.set_cons_succ]
                refine wpAnyG_one (i := 21) (by kernel_rfl) rfl (fun K hK => ?_)
                go_simp
                refine hK.out _ _ (Or.inl (by kernel_rfl)) ?_
                clear hK K
                try simp only [Act.put, List.setIfInBounds_toArray, List.set_cons_zero, List.set_cons_succ]
                refine wpAnyG_done (by kernel_rfl) ?_ _
                clear OB TT0 TT1 w1 w2
                have HZ : Hid (RwY w (v11.alloc (.cells #[.int .u8 X1] 5)) b S3 u8 rem1 nb c) := SP2.out
                generalize v11.alloc (.cells #[.int .u8 X1] 5) = v12 at *
                have y0 := N2.out.cell 0
                simp only [List.getElem?_toArray, List.getElem?_cons_zero] at y0
                have z0 : v12.cell? ⟨nb, s, none⟩ = some (.int .i64 (n : Int)) := by
                  rw [HZ.out.n.cell s, nxC_at c s s5, HCS.out]
                have z1 := HZ.out.n.free s
                have YS : Hid (RwY w (v12.setCell ⟨nb, s, none⟩ (.int .i64 ((n + 1 : Nat) : Int))) b S3 u8 rem1 nb (fun k => if k = s then n + 1 else c k)) := HZ.out.set s (n + 1) s5
                have cn1 : ((n + 1 : Nat) : Int) = (n : Int) + 1 := by omega
                rw [cn1] at YS
                clear HZ SP2 N2 cn1
                go_wp2_with fail
                go_roundw
                case rel => exact ⟨got + 1, S3, _, by go_num, hg1, YS.out, HW2.out, HS3.out⟩
                case measure => simp [intOf]; omega
          · obtain rfl : rem = [] := List.eq_nil_of_length_eq_zero (by omega)
            obtain ⟨hW0, hg⟩ := hW.done (by rw [hSn]; exact r1) hSt
            have hL := hW.L
            subst hg
            have hqT : ¬ ((q : Int) < (got : Int)) := by omega
            have C := ix_waits X.x
            rw [hW0] at C
            have CW : Calls Try.prog 25 #[.pointer (some ⟨b, 0, none⟩)] wr fun e w' => e = .returned (.int .i64 0) ∧ RwY w w' b S u8 [] nb c := C.mono fun _ _ h => ⟨h.1, X.step h.2.1 h.2.2⟩
            have CL : Hid (∀ v, RwY w v b S u8 [] nb c → Calls Try.prog 23 #[.pointer (some ⟨b, 0, none⟩)] v fun e w' => e = .returned (.int .i64 0) ∧ RwY w w' b S u8 [] nb c) := show _ from fun v hv => by
              have C := ix_len hv.x
              rw [hL] at C
              exact C.mono fun _ _ h => ⟨h.1, hv.step h.2.1 h.2.2⟩
            clear C X hW hW0 hL hq hlt hSn hSt
            go_wp2_with fail
            go_at_call 25
            with_reducible refine CW.mono ?_
            rintro e v4 ⟨rfl, X4⟩
            have CL1 := CL.out v4 X4
            clear CW CL X4
            go_wp2_with fail
            go_at_call 23
            with_reducible refine CL1.mono ?_
            rintro e v5 ⟨rfl, X5⟩
            go_wp2_with fail
            go_ret
            exact ⟨rfl, X5.x.bl⟩
      · go_upto_region 14 with fail
        generalize wr.alloc (.cells #[.int .i64 0, .int .i64 0, .int .i64 0, .int .i64 0, .int .i64 0] 54) = v3 at *
        generalize wr.heap.size = nb at *
        go_wp2_with fail
        go_loopw [8, 13, 14] (fun y g i wr => ∃ (q got : Nat) (S : IS) (rem : List Pk) (c : Nat → Nat), q + rem.length = T ∧ g = .int .i64 got ∧ i = .int .i64 q ∧ RwY w wr b S y rem nb c ∧ Rw cn k T S rem c got ∧ S.n = rn ∧ tellB S = false) (fun _ _ i _ => T - (intOf i).toNat)
        case atStart => exact ⟨0, 0, S0, _, _, by rw [HT.out]; omega, rfl, rfl, HY.out, HW.out, HS.out.1, HS.out.2⟩
        case round =>
          clear HY HW HS HX
          obtain ⟨q, got, S, rem, c, hq, rfl, rfl, X, hW, hSn, hSt⟩ := hrel
          by_cases hlt : q < T
          · have HW : Hid (Rw cn k T S rem c got) := hW
            have HX : Hid (RwY w wr b S u8 rem nb c) := X
            obtain ⟨a8', c8', hu8, hc8, hc8m, hrd⟩ := X.o.rd
            obtain ⟨R, hR⟩ : ∃ R, rem.length = R := ⟨_, rfl⟩
            have hR0 : 0 < R := by omega
            have hR25 : R ≤ 25 := by omega
            obtain ⟨g8, o8, ha8, hg8, hzz⟩ := rd_pk hrd (List.getElem?_eq_getElem (show 0 < rem.length by omega))
            subst ha8
            rw [hR] at hu8 hc8
            subst hu8
            have HRL : Hid (rem.length = R) := hR
            have HRD : Hid (Rd wr (some ⟨g8, o8, none⟩) (pkcs rem)) := hrd
            have HSN : Hid (S.n = rn) := hSn
            have HQ : Hid (q + R = T) := show q + R = T from by omega
            have u1 : (q : Int) < (T : Int) := by omega
            clear hzz
            clear X hW hrd hR hlt hSn hSt hq
            go_upto_if 65 with fail
            obtain ⟨G, hG⟩ : ∃ G, decide (q < l1.length) = G := ⟨_, rfl⟩
            rw [hG]
            go_cut [15] from 66 to 75 (fun s wc => ∃ z : Nat, z < R ∧ s = .int .i64 (z : Int) ∧ wr = wc)
            case first =>
              cases G with
              | true =>
                have hql : q < l1.length := by simpa using hG
                obtain ⟨x, hx⟩ : ∃ x, l1[q]? = some x := ⟨_, List.getElem?_eq_getElem hql⟩
                obtain ⟨ga, oa, ha, hga, hc⟩ := HR1.out q (.int .i64 x) (by rw [List.getElem?_map, hx]; rfl)
                have hc2 : wr.cell? ⟨ga, oa + q, none⟩ = some (.int .i64 x) := (HX.out.x.bl.cell (p := ⟨ga, oa + q, none⟩) hga).trans hc
                obtain ⟨i1, i2⟩ := irst_eq x (m := R) hR0 (by omega)
                have hql2 : (q : Int) < (l1.length : Int) := by omega
                have wR : IntKind.u64.wrap (R : Int) = (R : Int) := by rw [IntKind.wrap_u64]; omega
                have nR : ¬ (R : Int) = 0 := by omega
                have nR2 : ¬ R = 0 := by omega
                obtain ⟨z, hz⟩ : ∃ z, irst x R = z := ⟨_, rfl⟩
                rw [hz] at i1 i2
                subst ha
                clear HX HW HRD hx hc hz hG HR1 HM5 HCL HT HCN
                go_wp2_with fail
                go_meet
                exact ⟨z, i1, by rw [i2], rfl⟩
              | false =>
                clear HX HW HRD hG HR1 HM5 HCL HT HCN
                go_wp2_with fail
                go_meet
                exact ⟨0, hR0, rfl, rfl⟩
            case rest =>
            obtain ⟨z, hz, rfl, rfl⟩ := hcut
            clear hG
            obtain ⟨A, p, B, hAB, hA, hB⟩ := split_list rem z (by rw [HRL.out]; exact hz)
            rw [HRL.out] at hB
            obtain ⟨ce, hWc⟩ := HW.out.come HM5.out HCL.out hAB
            have C := ix_come HX.out.x p
            rw [ce] at C
            obtain ⟨g', o', e', _, y0, y1, y2, y3⟩ := rd_pk HRD.out (k := z) (p := p) (by rw [hAB, List.getElem?_append_right (by omega), hA]; simp)
            cases e'
            obtain ⟨S1, hS1⟩ : ∃ S1, comeS S p = S1 := ⟨_, rfl⟩
            have hS1n : S1.n = rn := by rw [← hS1, comeS_n]; exact HSN.out
            rw [hS1] at hWc C
            have C' : Calls Try.prog 17 #[.pointer (some ⟨b, 0, none⟩), pkv p] wr fun e w' => e = .returned (.int .i64 0) ∧ RwY w w' b S1 (.slice (some ⟨g8, o8, none⟩) R c8') rem nb c := C.mono fun _ _ h => ⟨h.1, HX.out.step h.2.1 h.2.2⟩
            have HS1N : Hid (S1.n = rn) := hS1n
            have HW1 : Hid (Rw cn k T S1 (A ++ B) c got) := hWc
            have HAB : Hid (rem = A ++ p :: B) := hAB
            have HA : Hid (A.length = z) := hA
            have HB : Hid (z + 1 + B.length = R) := hB
            obtain ⟨ps, pd, pq, px⟩ := p
            simp only [pkv] at C' y0 y1 y2 y3
            clear HW HX HRD HSN ce C hS1 hWc hAB hA hB hS1n
            go_upto_region 24 with (go_at_call 17; with_reducible refine C'.mono ?_; rintro e v5 ⟨rfl, X5⟩)
            clear y0 y1 y2 y3 C'
            have szw : w.heap.size ≤ v5.heap.size := X5.x.size
            have rd5 : Rd v5 (some ⟨g8, o8, none⟩) (pkcs (A ++ ⟨ps, pd, pq, px⟩ :: B)) := by
              obtain ⟨a, cp, e, _, _, rd⟩ := X5.o.rd
              simp only [Value.slice.injEq] at e
              obtain ⟨rfl, _, _⟩ := e
              rw [← HAB.out]
              exact rd
            have rdA := rd_left rd5
            have HX5 : Hid (RwY w v5 b S1 (.slice (some ⟨g8, o8, none⟩) R c8') rem nb c) := X5
            have hlA : (pkcs A).length = z * 4 := by rw [pkcs_len, HA.out]
            have hzm : 0 + z ≤ 1000000 := by omega
            have nn : (some ⟨g8, o8, none⟩ : Option Addr) = none → z = 0 ∧ c8' = 0 := fun h => by cases h
            have oA := pkcs_one A
            have zc : z ≤ c8' := by omega
            clear X5 rd5
            go_upto_region 25 with (first
              | (at_builtin; refine wpList_src_at rfl _ _ 26 33 i0 (.agg #[.int .i64 0, .int .i64 0, .int .i64 0, .string ⟨#[]⟩]) 4 40 rfl Try.underlying26 ki hz0 hz1 hz2 rfl (by decide) (by decide) w.heap.size _ (.slice none 0 0) 0 [] rfl (OwnK.nil _ _ _ _) (some ⟨g8, o8, none⟩) z c8' rfl nn (pkcs A) hlA rdA oA hzm szw ?_; intro v6 w6 o1 o2 o3)
              | go_in)
            rw [Nat.zero_add, List.nil_append] at o1
            have g56 : v5.grownBy w6 none := o2
            have OA : Hid (OwnK 33 4 w6 w.heap.size v6 z (pkcs A)) := o1
            have rd6 : Rd w6 (some ⟨g8, o8, none⟩) (pkcs ((A ++ [⟨ps, pd, pq, px⟩]) ++ B)) := by
              obtain ⟨a, cp, e, _, _, rd⟩ := (HX5.out.o.grown g56 (Or.inr fun h => by cases h)).rd
              simp only [Value.slice.injEq] at e
              obtain ⟨rfl, _, _⟩ := e
              rw [List.append_assoc, List.singleton_append, ← HAB.out]
              exact rd
            have rdB : Rd w6 (some ⟨g8, o8 + (z + 1) * 4, none⟩) (pkcs B) := by
              have := rd_right rd6
              rwa [List.length_append, List.length_singleton, HA.out] at this
            have O3 : Hid (v6.ownBlock = none ∨ v6.ownBlock = some v5.heap.size) := o3
            have G56 : Hid (v5.grownBy w6 none) := g56
            have RDB : Hid (Rd w6 (some ⟨g8, o8 + (z + 1) * 4, none⟩) (pkcs B)) := rdB
            have z1R : z + 1 ≤ R := by omega
            clear rdA oA hlA hzm nn zc szw rd6 rdB o3 o1 o2 g56
            go_cut [8] from 88 to 93 (fun y wc => OwnK 33 4 wc w.heap.size y (z + (R - (z + 1))) (pkcs A ++ pkcs B) ∧ w6.grownBy wc v6.ownBlock ∧ (y.ownBlock = v6.ownBlock ∨ y.ownBlock = some w6.heap.size))
            case first =>
              have szw : w.heap.size ≤ w6.heap.size := Nat.le_trans HX5.out.x.size G56.out.size
              have hlB : (pkcs B).length = (R - (z + 1)) * 4 := by
                have := HB.out
                rw [pkcs_len]
                congr 1
                omega
              have oB := pkcs_one B
              have hzm : z + (R - (z + 1)) ≤ 1000000 := by omega
              have OA1 := OA.out
              rcases Nat.lt_or_ge (z + 1) c8' with hc | hc
              · have rdB := RDB.out
                have hcz : ¬ c8' = z + 1 := by omega
                have nn : (some ⟨g8, o8 + (z + 1) * 4, none⟩ : Option Addr) = none → R - (z + 1) = 0 ∧ c8' - (z + 1) = 0 := fun h => by cases h
                clear OA RDB HX5 HAB HA HB HW1 HQ HRL
                go_wp2_with (first
                  | (at_builtin; refine wpList_src_at rfl _ _ 26 33 i0 (.agg #[.int .i64 0, .int .i64 0, .int .i64 0, .string ⟨#[]⟩]) 4 40 rfl Try.underlying26 ki hz0 hz1 hz2 rfl (by decide) (by decide) w.heap.size _ v6 z (pkcs A) rfl OA1 (some ⟨g8, o8 + (z + 1) * 4, none⟩) (R - (z + 1)) (c8' - (z + 1)) rfl nn (pkcs B) hlB rdB oB hzm szw ?_; intro v7 w7 o1 o2 o3)
                  | go_in)
                go_meet
                exact ⟨o1, o2, o3⟩
              · obtain rfl : c8' = z + 1 := by omega
                obtain rfl : R = z + 1 := by omega
                obtain rfl : B = [] := List.eq_nil_of_length_eq_zero (by have := HB.out; omega)
                have rdB := rd_none w6 (some ⟨g8, o8, none⟩)
                have nn : (some ⟨g8, o8, none⟩ : Option Addr) = none → 0 = 0 ∧ 0 = 0 := fun h => by cases h
                rw [Nat.sub_self] at hlB hzm
                clear OA RDB HX5 HAB HA HB HW1 HQ HRL
                go_wp2_with (first
                  | (at_builtin; refine wpList_src_at rfl _ _ 26 33 i0 (.agg #[.int .i64 0, .int .i64 0, .int .i64 0, .string ⟨#[]⟩]) 4 40 rfl Try.underlying26 ki hz0 hz1 hz2 rfl (by decide) (by decide) w.heap.size _ v6 z (pkcs A) rfl OA1 (some ⟨g8, o8, none⟩) 0 0 rfl nn (pkcs []) hlB rdB oB hzm szw ?_; intro v7 w7 o1 o2 o3)
                  | go_in)
                go_meet
                exact ⟨by rw [Nat.sub_self]; exact o1, o2, o3⟩
            case rest =>
            obtain ⟨o1, o2, o3⟩ := hcut
            have Y7 : Hid (RwY w wc b S1 u8 (A ++ B) nb c) := show RwY w wc b S1 u8 (A ++ B) nb c from by
              have e : z + (R - (z + 1)) = (A ++ B).length := by
                have := HA.out
                have := HB.out
                rw [List.length_append]
                omega
              rw [e, ← pkcs_app] at o1
              have n6 : ∀ j, v6.ownBlock = some j → v5.heap.size ≤ j := fun j hj => by
                rcases O3.out with h | h
                · rw [h] at hj; cases hj
                · rw [h] at hj; cases hj; exact Nat.le_refl _
              refine HX5.out.row (O2 := ownO u8) (G56.out.andThen o2 fun j hj => Or.inl (n6 j hj)) ⟨o1, fun q hq => hq⟩ fun q hq => ?_
              rcases o3 with h | h
              · rw [h] at hq; exact n6 q hq
              · rw [h] at hq; cases hq; exact G56.out.size
            have HL1 : Hid (q + 1 + (A ++ B).length = T) := show q + 1 + (A ++ B).length = T from by
              have := HA.out
              have := HB.out
              have := HQ.out
              rw [List.length_append]
              omega
            have gT : got ≤ T := by
              have := HW1.out.sum
              omega
            clear o1 o2 o3 OA O3 G56 RDB HX5 HAB HA HB HQ HRL
            generalize A ++ B = rem1 at *
            go_wp2_with fail
            go_loopw [13] (fun g wr => ∃ (got : Nat) (S : IS) (c : Nat → Nat), g = .int .i64 got ∧ got ≤ T ∧ RwY w wr b S u8 rem1 nb c ∧ Rw cn k T S rem1 c got ∧ S.n = rn) (fun g _ => T - (intOf g).toNat)
            case atStart => exact ⟨got, S1, c, rfl, gT, Y7.out, HW1.out, HS1N.out⟩
            case round =>
              clear Y7 HW1 HS1N
              obtain ⟨got, S, c, rfl, hgT, X, hW, hSn⟩ := hrel
              have C := ix_tell X.x
              cases ht : tellB S with
              | false =>
                have e : tellS S = S := by
                  rcases tell_cases S with ⟨_, ⟨_, h, _⟩ | ⟨p, _, _, h⟩⟩ | ⟨_, h, _⟩
                  · exact h
                  · rw [ht] at h; cases h
                  · exact h
                rw [ht, e] at C
                have C' : Calls Try.prog 19 #[.pointer (some ⟨b, 0, none⟩)] wr fun e w' => e = .returned (.bool false) ∧ RwY w w' b S u8 rem1 nb c := C.mono fun _ _ h => ⟨h.1, X.step h.2.1 h.2.2⟩
                have HW : Hid (Rw cn k T S rem1 c got) := hW
                have HT2 : Hid (tellB S = false) := ht
                clear C X hW e ht
                go_wp2_with (go_at_call 19; with_reducible refine C'.mono ?_; rintro e v8 ⟨rfl, X8⟩)
                go_roundw
                case rel => exact ⟨q + 1, got, S, rem1, c, HL1.out, rfl, by go_num, X8, HW.out, hSn, HT2.out⟩
                case measure => have := HL1.out; simp [intOf]; omega
              | true =>
                obtain ⟨s, hsk, hcs, hv, he, hn', hWl, hW'⟩ := hW.tell HM5.out HCL.out (by rw [hSn]; exact r1) ht
                obtain ⟨S2, hS2⟩ : ∃ S2, tellS S = S2 := ⟨_, rfl⟩
                rw [hS2] at hv he hn' hWl hW' C
                rw [ht] at C
                have C' : Calls Try.prog 19 #[.pointer (some ⟨b, 0, none⟩)] wr fun e w' => e = .returned (.bool true) ∧ RwY w w' b S2 u8 rem1 nb c := C.mono fun _ _ h => ⟨h.1, X.step h.2.1 h.2.2⟩
                obtain ⟨n, hn⟩ : ∃ n, c s = n := ⟨_, rfl⟩
                rw [hn] at hv hW' hcs
                obtain ⟨D, hD⟩ : ∃ D : ByteArray, D = ⟨#[UInt8.ofNat (97 + n)]⟩ := ⟨_, rfl⟩
                have n5 : n < 5 := by
                  have := HCL.out s
                  omega
                have s5 : s < 5 := by
                  have := HM5.out
                  omega
                obtain ⟨S3, hS3⟩ : ∃ S3, recvS S2 = S3 := ⟨_, rfl⟩
                rw [hS3] at hn' hWl hW'
                have CR : Hid (∀ v, RwY w v b S2 u8 rem1 nb c → Calls Try.prog 21 #[.pointer (some ⟨b, 0, none⟩)] v fun e w' => e = .returned (.tuple #[.agg #[.int .i64 (s : Int), .int .i64 0, .int .i64 (n : Int), .string D], .int .i64 0]) ∧ RwY w w' b S3 u8 rem1 nb c) := show _ from fun v hv2 => by
                  refine (ix_recv hv2.x).mono ?_
                  rintro e w' ⟨rfl, k2, k3⟩
                  rw [hS3] at k2
                  refine ⟨?_, hv2.step k2 k3⟩
                  rw [hv, he, hD]
                have HW2 : Hid (Rw cn k T S3 rem1 (fun k => if k = s then n + 1 else c k) (got + 1)) := hW'
                have hg1 : got + 1 ≤ T := by
                  have := hW'.sum
                  omega
                have HS3 : Hid (S3.n = rn) := show S3.n = rn from by rw [hn', hSn]
                have HCS : Hid (c s = n) := hn
                have HD : Hid (D = ⟨#[UInt8.ofNat (97 + n)]⟩) := hD
                clear C X hW ht hv he hn' hWl hW' hS2 hS3 hSn hcs hsk hn hD
                go_upto_region 27 with (go_at_call 19; with_reducible refine C'.mono ?_; rintro e v8 ⟨rfl, X8⟩)
                have CR1 := CR.out v8 X8
                clear X8 CR C'
                go_upto_region 28 with (go_at_call 21; with_reducible refine CR1.mono ?_; rintro e v9 ⟨rfl, X9⟩)
                clear CR1
                have HX9 : Hid (RwY w (v9.alloc (.cells #[.int .i64 (s : Int), .int .i64 0, .int .i64 (n : Int), .string D] 33)) b S3 u8 rem1 nb c) := X9.next ((Below.refl _ _).alloc (Nat.le_refl _) _)
                have N0 := Bk.new v9 #[.int .i64 (s : Int), .int .i64 0, .int .i64 (n : Int), .string D] 33
                clear X9
                generalize v9.alloc (.cells #[.int .i64 (s : Int), .int .i64 0, .int .i64 (n : Int), .string D] 33) = v10 at *
                generalize v9.heap.size = d at *
                have y0 := N0.cell 0
                have y2 := N0.cell 2
                have y3 := N0.cell 3
                simp only [List.getElem?_toArray, List.getElem?_cons_zero, List.getElem?_cons_succ] at y0 y2 y3
                have s1 : (s : Int) < 5 := by omega
                have s2 : ¬ (s : Int) < 0 := by omega
                obtain ⟨X1, hX1⟩ : ∃ X1 : Int, X1 = 97 + (n : Int) := ⟨_, rfl⟩
                have w1 : IntKind.i64.wrap (97 + (n : Int)) = X1 := by rw [wrap_small (by omega) (by omega), hX1]
                have w2 : IntKind.u8.wrap X1 = X1 := by rw [IntKind.wrap_u8, hX1]; omega
                have HX11 : Hid (RwY w v10.drew b S3 u8 rem1 nb c) := HX9.out.next (Below.refl _ _).drew
                have N1 : Hid (Bk v10.drew d #[.int .i64 (s : Int), .int .i64 0, .int .i64 (n : Int), .string D] 33) := N0.next (Below.refl _ _).drew
                have TT0 : v10.drew.cell? ⟨d, 0, none⟩ = some (.int .i64 (s : Int)) ∧ v10.drew.cell? ⟨d, 2, none⟩ = some (.int .i64 (n : Int)) ∧ v10.drew.cell? ⟨d, 3, none⟩ = some (.string D) ∧ v10.drew.cell? ⟨nb, s, none⟩ = some (.int .i64 (n : Int)) := by
                  have e := HX11.out.n.cell s
                  rw [nxC_at c s s5, HCS.out] at e
                  exact ⟨N1.out.cell 0, N1.out.cell 2, N1.out.cell 3, e⟩
                have OB : (convert 53 9 (.slice (some ⟨v10.drew.heap.size, 0, none⟩) 1 1)).run Try.prog (v10.drew.alloc (.cells #[.int .u8 X1] 5)) = .ok (.string D) (v10.drew.alloc (.cells #[.int .u8 X1] 5)) := by
                  rw [HD.out]
                  refine one_byte _ n (by omega) _ ?_
                  rw [cell_of (heap_alloc_new v10.drew _) 0, hX1]
                  rfl
                have SP2 : Hid (RwY w (v10.drew.alloc (.cells #[.int .u8 X1] 5)) b S3 u8 rem1 nb c) := HX11.out.next ((Below.refl _ _).alloc (Nat.le_refl _) _)
                have N2 : Hid (Bk (v10.drew.alloc (.cells #[.int .u8 X1] 5)) d #[.int .i64 (s : Int), .int .i64 0, .int .i64 (n : Int), .string D] 33) := N1.out.next ((Below.refl _ _).alloc (Nat.le_refl _) _)
                clear HX9 N0 hX1 HD y0 y2 y3 HX11 N1
                refine wp_region_G (fun V => V.cell? ⟨d, 0, none⟩ = some (.int .i64 (s : Int)) ∧ V.cell? ⟨d, 2, none⟩ = some (.int .i64 (n : Int)) ∧ V.cell? ⟨d, 3, none⟩ = some (.string D) ∧ V.cell? ⟨nb, s, none⟩ = some (.int .i64 (n : Int))) 20 (by kernel_rfl) ?_
                generalize v10.drew = v11 at *
                refine wpAnyG_take [1, 2, 10, 11, 20] (some 101) (i := 0) (v := ?vb0) rfl rfl (by kernel_rfl) (by kernel_rfl) (by kernel_rfl) (by kernel_rfl) (fun _ _ _ h => h) (Or.inl ⟨by rfl, ?yb0⟩) TT0 ?rb0
                case yb0 => (intro V hSV; obtain ⟨s0, s1, s2, s3⟩ := hSV; go_simp; try with_reducible rfl)
                try simp only [Act.put, List.setIfInBounds_toArray, List.set_cons_zero, List.set_cons_succ]
                refine wpAnyG_take [2, 10, 11, 20] (some 102) (i := 1) (v := ?vb1) rfl rfl (by kernel_rfl) (by kernel_rfl) (by kernel_rfl) (by kernel_rfl) (fun _ _ _ h => h) (Or.inl ⟨by rfl, ?yb1⟩) TT0 ?rb1
                case yb1 => (intro V hSV; obtain ⟨s0, s1, s2, s3⟩ := hSV; go_simp; try with_reducible rfl)
                try simp only [Act.put, List.setIfInBounds_toArray, List.set_cons_zero, List.set_cons_succ]
                refine wpAnyG_take [10, 11, 20] (some 103) (i := 2) (v := ?vb2) rfl rfl (by kernel_rfl) (by kernel_rfl) (by kernel_rfl) (by kernel_rfl) (fun _ _ _ h => h) (Or.inl ⟨by rfl, ?yb2⟩) TT0 ?rb2
                case yb2 => (intro V hSV; obtain ⟨s0, s1, s2, s3⟩ := hSV; go_simp; try with_reducible rfl)
                try simp only [Act.put, List.setIfInBounds_toArray, List.set_cons_zero, List.set_cons_succ]
                refine wpAnyG_take [4, 9, 10, 11, 20] (some 104) (i := 3) (v := ?vb3) rfl rfl (by kernel_rfl) (by kernel_rfl) (by kernel_rfl) (by kernel_rfl) (fun _ _ _ h => h) (Or.inl ⟨by rfl, ?yb3⟩) TT0 ?rb3
                case yb3 => (intro V hSV; obtain ⟨s0, s1, s2, s3⟩ := hSV; go_simp; try with_reducible rfl)
                try simp only [Act.put, List.setIfInBounds_toArray, List.set_cons_zero, List.set_cons_succ]
                refine wpAnyG_take [9, 10, 11, 20] (some 105) (i := 4) (v := ?vb4) rfl rfl (by kernel_rfl) (by kernel_rfl) (by kernel_rfl) (by kernel_rfl) (fun _ _ _ h => h) (Or.inl ⟨by rfl, ?yb4⟩) TT0 ?rb4
                case yb4 => (intro V hSV; obtain ⟨s0, s1, s2, s3⟩ := hSV; go_simp; try with_reducible rfl)
                try simp only [Act.put, List.setIfInBounds_toArray, List.set_cons_zero, List.set_cons_succ]
                refine wpAnyG_take [6, 7, 8, 9, 10, 11, 20] (some 106) (i := 5) (v := ?vb5) rfl rfl (by kernel_rfl) (by kernel_rfl) (by kernel_rfl) (by kernel_rfl) (fun _ _ _ h => h) (Or.inl ⟨by rfl, ?yb5⟩) TT0 ?rb5
                case yb5 => (intro V hSV; obtain ⟨s0, s1, s2, s3⟩ := hSV; go_simp; try with_reducible rfl)
                try simp only [Act.put, List.setIfInBounds_toArray, List.set_cons_zero, List.set_cons_succ]
                refine wpAnyG_take [7, 8, 9, 10, 11, 20] (some 107) (i := 6) (v := ?vb6) rfl rfl (by kernel_rfl) (by kernel_rfl) (by kernel_rfl) (by kernel_rfl) (fun _ _ _ h => h) (Or.inl ⟨by rfl, ?yb6⟩) TT0 ?rb6
                case yb6 => (intro V hSV; obtain ⟨s0, s1, s2, s3⟩ := hSV; go_simp; try with_reducible rfl)
                try simp only [Act.put, List.setIfInBounds_toArray, List.set_cons_zero, List.set_cons_succ]
                refine wpAnyG_take [8, 9, 10, 11, 20] (some 108) (i := 7) (v := ?vb7) rfl rfl (by kernel_rfl) (by kernel_rfl) (by kernel_rfl) (by kernel_rfl) (fun _ _ _ h => h) (Or.inl ⟨by rfl, ?yb7⟩) TT0 ?rb7
                case yb7 => (intro V hSV; obtain ⟨s0, s1, s2, s3⟩ := hSV; go_simp; try with_reducible rfl)
                try simp only [Act.put, List.setIfInBounds_toArray, List.set_cons_zero, List.set_cons_succ]
                refine wpAnyG_take [9, 10, 11, 20] (some 109) (i := 8) (v := ?vb8) rfl rfl (by kernel_rfl) (by kernel_rfl) (by kernel_rfl) (by kernel_rfl) (fun _ _ _ h => h) (Or.inl ⟨by rfl, ?yb8⟩) TT0 ?rb8
                case yb8 => (intro V hSV; obtain ⟨s0, s1, s2, s3⟩ := hSV; go_simp; try with_reducible rfl)
                try simp only [Act.put, List.setIfInBounds_toArray, List.set_cons_zero, List.set_cons_succ]
                refine wpAnyG_take [10, 11, 20] (some 110) (i := 9) (v := ?vb9) rfl rfl (by kernel_rfl) (by kernel_rfl) (by kernel_rfl) (by kernel_rfl) (fun _ _ _ h => h) (Or.inl ⟨by rfl, ?yb9⟩) TT0 ?rb9
                case yb9 => (intro V hSV; obtain ⟨s0, s1, s2, s3⟩ := hSV; go_simp; try with_reducible rfl)
                try simp only [Act.put, List.setIfInBounds_toArray, List.set_cons_zero, List.set_cons_succ]
                refine wpAnyG_take [11, 20] (some 111) (i := 10) (v := ?vb10) rfl rfl (by kernel_rfl) (by kernel_rfl) (by kernel_rfl) (by kernel_rfl) (fun _ _ _ h => h) (Or.inl ⟨by rfl, ?yb10⟩) TT0 ?rb10
                case yb10 => (intro V hSV; obtain ⟨s0, s1, s2, s3⟩ := hSV; go_simp; try with_reducible rfl)
                try simp only [Act.put, List.setIfInBounds_toArray, List.set_cons_zero, List.set_cons_succ]
                refine wpAnyG_take [20] (some 112) (i := 11) (v := ?vb11) rfl rfl (by kernel_rfl) (by kernel_rfl) (by kernel_rfl) (by kernel_rfl) (fun _ _ _ h => h) (Or.inl ⟨by rfl, ?yb11⟩) TT0 ?rb11
                case yb11 => (intro V hSV; obtain ⟨s0, s1, s2, s3⟩ := hSV; go_simp; try with_reducible rfl)
                try simp only [Act.put, List.setIfInBounds_toArray, List.set_cons_zero, List.set_cons_succ]
                refine wpAnyG_take [13, 20] (some 113) (i := 12) (v := ?vb12) rfl rfl (by kernel_rfl) (by kernel_rfl) (by kernel_rfl) (by kernel_rfl) (fun _ _ _ h => h) (Or.inl ⟨by rfl, ?yb12⟩) TT0 ?rb12
                case yb12 => (intro V hSV; obtain ⟨s0, s1, s2, s3⟩ := hSV; go_simp; try with_reducible rfl)
                try simp only [Act.put, List.setIfInBounds_toArray, List.set_cons_zero, List.set_cons_succ]
                refine wpAnyG_take [20] (some 114) (i := 13) (v := ?vb13) rfl rfl (by kernel_rfl) (by kernel_rfl) (by kernel_rfl) (by kernel_rfl) (fun _ _ _ h => h) (Or.inl ⟨by rfl, ?yb13⟩) TT0 ?rb13
                case yb13 => (intro V hSV; obtain ⟨s0, s1, s2, s3⟩ := hSV; go_simp; try with_reducible rfl)
                try simp only [Act.put, List.setIfInBounds_toArray, List.set_cons_zero, List.set_cons_succ]
                refine wpAnyG_take [15, 16, 17, 18, 19, 20] (some 115) (i := 14) (v := ?vb14) rfl rfl (by kernel_rfl) (by kernel_rfl) (by kernel_rfl) (by kernel_rfl) (fun _ _ _ h => h) (Or.inl ⟨by rfl, ?yb14⟩) TT0 ?rb14
                case yb14 => (intro V hSV; obtain ⟨s0, s1, s2, s3⟩ := hSV; go_simp; try with_reducible rfl)
                try simp only [Act.put, List.setIfInBounds_toArray, List.set_cons_zero, List.set_cons_succ]
                refine wpAnyG_take [16, 17, 18, 19, 20] (some 116) (i := 15) (v := ?vb15) rfl rfl (by kernel_rfl) (by kernel_rfl) (by kernel_rfl) (by kernel_rfl) (fun _ _ _ h => h) (Or.inl ⟨by rfl, ?yb15⟩) TT0 ?rb15
                case yb15 => (intro V hSV; obtain ⟨s0, s1, s2, s3⟩ := hSV; go_simp; try with_reducible rfl)
                try simp only [Act.put, List.setIfInBounds_toArray, List.set_cons_zero, List.set_cons_succ]
                refine wpAnyG_take [17, 18, 19, 20] (some 117) (i := 16) (v := ?vb16) rfl rfl (by kernel_rfl) (by kernel_rfl) (by kernel_rfl) (by kernel_rfl) (fun _ _ _ h => h) (Or.inl ⟨by rfl, ?yb16⟩) TT0 ?rb16
                case yb16 => (intro V hSV; obtain ⟨s0, s1, s2, s3⟩ := hSV; go_simp; try with_reducible rfl)
                try simp only [Act.put, List.setIfInBounds_toArray, List.set_cons_zero, List.set_cons_succ]
                refine wpAnyG_take [18, 19, 20] (some 118) (i := 17) (v := ?vb17) rfl rfl (by kernel_rfl) (by kernel_rfl) (by kernel_rfl) (by kernel_rfl) (fun _ _ _ h => h) (Or.inl ⟨by rfl, ?yb17⟩) TT0 ?rb17
                case yb17 => (intro V hSV; obtain ⟨s0, s1, s2, s3⟩ := hSV; go_simp; try with_reducible rfl)
                try simp only [Act.put, List.setIfInBounds_toArray, List.set_cons_zero, List.set_cons_succ]
                have TT1 : (v11.alloc (.cells #[.int .u8 X1] 5)).cell? ⟨d, 0, none⟩ = some (.int .i64 (s : Int)) ∧ (v11.alloc (.cells #[.int .u8 X1] 5)).cell? ⟨d, 2, none⟩ = some (.int .i64 (n : Int)) ∧ (v11.alloc (.cells #[.int .u8 X1] 5)).cell? ⟨d, 3, none⟩ = some (.string D) ∧ (v11.alloc (.cells #[.int .u8 X1] 5)).cell? ⟨nb, s, none⟩ = some (.int .i64 (n : Int)) := by
                  have a := N2.out.cell 0
                  have b := N2.out.cell 2
                  have c := N2.out.cell 3
                  have e := SP2.out.n.cell s
                  rw [nxC_at _ s s5, HCS.out] at e
                  exact ⟨a, b, c, e⟩
                refine wpAnyG_one (i := 18) (by kernel_rfl) rfl (fun K hK => ?_)
                go_simp
                refine hK.out _ _ (Or.inr TT1) ?_
                clear hK K
                try simp only [Act.put, List.setIfInBounds_toArray, List.set_cons_zero, List.set_cons_succ]
                refine wpAnyG_one (i := 19) (by kernel_rfl) rfl (fun K hK => ?_)
                go_simp
                refine hK.out _ _ (Or.inr TT1) ?_
                clear hK K
                try simp only [Act.put, List.setIfInBounds_toArray, List.set_cons_zero, List.set_cons_succ]
                refine wpAnyG_one (i := 20) (by kernel_rfl) rfl (fun K hK => ?_)
                go_simp
                refine hK.out _ _ (Or.inl (by kernel_rfl)) ?_
                clear hK K
                try simp only [Act.put, List.setIfInBounds_toArray, List.set_cons_zero, List.set_cons_succ]
                refine wpAnyG_one (i := 21) (by kernel_rfl) rfl (fun K hK => ?_)
                go_simp
                refine hK.out _ _ (Or.inl (by kernel_rfl)) ?_
                clear hK K
                try simp only [Act.put, List.setIfInBounds_toArray, List.set_cons_zero, List.set_cons_succ]
                refine wpAnyG_done (by kernel_rfl) ?_ _
                clear OB TT0 TT1 w1 w2
                have HZ : Hid (RwY w (v11.alloc (.cells #[.int .u8 X1] 5)) b S3 u8 rem1 nb c) := SP2.out
                generalize v11.alloc (.cells #[.int .u8 X1] 5) = v12 at *
                have y0 := N2.out.cell 0
                simp only [List.getElem?_toArray, List.getElem?_cons_zero] at y0
                have z0 : v12.cell? ⟨nb, s, none⟩ = some (.int .i64 (n : Int)) := by
                  rw [HZ.out.n.cell s, nxC_at c s s5, HCS.out]
                have z1 := HZ.out.n.free s
                have YS : Hid (RwY w (v12.setCell ⟨nb, s, none⟩ (.int .i64 ((n + 1 : Nat) : Int))) b S3 u8 rem1 nb (fun k => if k = s then n + 1 else c k)) := HZ.out.set s (n + 1) s5
                have cn1 : ((n + 1 : Nat) : Int) = (n : Int) + 1 := by omega
                rw [cn1] at YS
                clear HZ SP2 N2 cn1
                go_wp2_with fail
                go_roundw
                case rel => exact ⟨got + 1, S3, _, by go_num, hg1, YS.out, HW2.out, HS3.out⟩
                case measure => simp [intOf]; omega
          · obtain rfl : rem = [] := List.eq_nil_of_length_eq_zero (by omega)
            obtain ⟨hW0, hg⟩ := hW.done (by rw [hSn]; exact r1) hSt
            have hL := hW.L
            subst hg
            have hqT : ¬ ((q : Int) < (got : Int)) := by omega
            have C := ix_waits X.x
            rw [hW0] at C
            have CW : Calls Try.prog 25 #[.pointer (some ⟨b, 0, none⟩)] wr fun e w' => e = .returned (.int .i64 0) ∧ RwY w w' b S u8 [] nb c := C.mono fun _ _ h => ⟨h.1, X.step h.2.1 h.2.2⟩
            have CL : Hid (∀ v, RwY w v b S u8 [] nb c → Calls Try.prog 23 #[.pointer (some ⟨b, 0, none⟩)] v fun e w' => e = .returned (.int .i64 0) ∧ RwY w w' b S u8 [] nb c) := show _ from fun v hv => by
              have C := ix_len hv.x
              rw [hL] at C
              exact C.mono fun _ _ h => ⟨h.1, hv.step h.2.1 h.2.2⟩
            clear C X hW hW0 hL hq hlt hSn hSt
            go_wp2_with fail
            go_at_call 25
            with_reducible refine CW.mono ?_
            rintro e v4 ⟨rfl, X4⟩
            have CL1 := CL.out v4 X4
            clear CW CL X4
            go_wp2_with fail
            go_at_call 23
            with_reducible refine CL1.mono ?_
            rintro e v5 ⟨rfl, X5⟩
            go_wp2_with fail
            go_ret
            exact ⟨rfl, X5.x.bl⟩
end Go.Proofs.Ytpmkpjnhdehnhaa
