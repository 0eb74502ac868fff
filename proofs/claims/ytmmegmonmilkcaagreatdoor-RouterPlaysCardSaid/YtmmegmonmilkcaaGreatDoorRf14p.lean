/-
 The document's lane, by value: Put. (Written by gen_rf14p.py.)
-/
import Derived.Test.YtmmegmonmilkcaaGreatDoorRf14
import Derived.Laws.AppendOwnNone
namespace Go.Proofs.YtmmegmonmilkcaaGreatDoor
open Go.RowKit
theorem wpList_app_srck {P : Program} {ops : Array Oper} {rest : List Oper} {o : Oper} {a : Act} {Q : Exit → Act → World → Prop} (hgd : o.guard = none) (s x : Operand) (t e : TypeId) (i : TypeInfo) (z : Value) (k bytes : Nat)
  (ho : o.op = .call { callee := .builtin .append, args := #[s, x], argTypes := #[t, t] })
  (ht : P.underlying t = some (.slice e)) (hi : P.info? e = some i) (hz : i.zero = some z) (h1 : i.size = k) (hby : i.bytes = bytes) (hzs : z.cells.size = k) (hk0 : 0 < k) (hb8 : bytes ≤ 64)
  (B : Nat) (w : World) (v : Value) (n : Nat) (cs : List Value) (hs : a.eval s = v) (hown : OwnK e k w B v n cs) (ax : Option Addr) (m c : Nat) (hx : a.eval x = .slice ax m c) (hnil : ax = none → m = 0 ∧ c = 0) (ys : List Value) (hm : ys.length = m * k) (hr : Rd w ax ys) (hone : ∀ u ∈ ys, u.oneCell' = true)
  (hlen : n + m ≤ 1000000) (hbase : B ≤ w.heap.size)
  (h : ∀ v' w', OwnK e k w' B v' (n + m) (cs ++ ys) → w.grownBy w' v.ownBlock → wpList P ops Q rest (a.put o.dst v') w') : wpList P ops Q (o :: rest) a w := by
 cases ax with
 | none =>
  obtain ⟨rfl, rfl⟩ := hnil rfl
  rw [Nat.zero_mul] at hm
  obtain rfl := List.eq_nil_of_length_eq_zero hm
  refine wpList_append_own_none hgd s x t ho B e i k ht hi v n cs hs hown hx (h v w ?_ ⟨rfl, rfl, rfl, Nat.le_refl _, fun _ _ _ => rfl⟩)
  rw [List.append_nil]
  exact hown
 | some ad =>
  refine wpList_append_own _ hgd s x t ho B e i z k bytes ht hi hz h1 hby hzs hk0 v n cs hs hown ad m c ys hx hm ?_ hone ?_ ?_ hbase ?_
  ·intro j u hj
   obtain ⟨g', o', e1, _, h3⟩ := hr j u hj
   simp only [Option.some.injEq] at e1
   subst e1
   rw [WideShapes.add_plain]
   exact h3
  ·unfold maxLen; omega
  ·have : (n + m) * bytes ≤ (n + m) * 64 := Nat.mul_le_mul_left _ hb8
   omega
  ·intro v' w' hown' hgrow _
   exact h v' w' hown' hgrow
theorem wpList_app_k {P : Program} {ops : Array Oper} {rest : List Oper} {o : Oper} {a : Act} {Q : Exit → Act → World → Prop} (hgd : o.guard = none) (s x : Operand) (t e : TypeId) (i : TypeInfo) (z : Value) (k bytes : Nat)
  (ho : o.op = .call { callee := .builtin .append, args := #[s, x], argTypes := #[t, t] })
  (ht : P.underlying t = some (.slice e)) (hi : P.info? e = some i) (hz : i.zero = some z) (h1 : i.size = k) (hby : i.bytes = bytes) (hzs : z.cells.size = k) (hk0 : 0 < k) (hb8 : bytes ≤ 64)
  (B : Nat) (w : World) (v : Value) (n : Nat) (L news : List Value) (hs : a.eval s = v) (hown : OwnK e k w B v n L) (hx : a.eval x = .slice (some ⟨w.heap.size, 0, none⟩) 1 1)
  (hl : news.length = k) (hone : ∀ u ∈ news, u.oneCell' = true) (hlen : n ≤ 1000000) (hbase : B ≤ w.heap.size)
  (h : ∀ v' w', OwnK e k w' B v' (n + 1) (L ++ news) → (w.alloc (.cells news.toArray e)).grownBy w' v.ownBlock → wpList P ops Q rest (a.put o.dst v') w') :
  wpList P ops Q (o :: rest) a (w.alloc (.cells news.toArray e)) := by
 refine wpList_append_own _ hgd s x t ho B e i z k bytes ht hi hz h1 hby hzs hk0 v n L hs (World.ownsRow.alloc hown _) ⟨w.heap.size, 0, none⟩ 1 1 news hx (by rw [hl, Nat.one_mul]) ?_ hone ?_ ?_ ?_ ?_
 ·intro j y hj
  rw [WideShapes.add_plain, Nat.zero_add, cell_of (heap_alloc_new w (.cells news.toArray e)) j]
  simpa using hj
 ·unfold maxLen; omega
 ·have : (n + 1) * bytes ≤ (n + 1) * 64 := Nat.mul_le_mul_left _ hb8
  omega
 ·simp; omega
 ·intro v' w' hown' hgrow _
  exact h v' w' hown' hgrow
structure LaR (w : World) (K : KS) (a : Option Addr) (cap : Nat) : Prop where
 rd : Rd w a (vw K.ws)
 nil : a = none → K.ws.length = 0 ∧ cap = 0
 le : K.ws.length ≤ cap
 mx : cap ≤ maxLen
theorem LaR.next {w w' : World} {K : KS} {a : Option Addr} {cap : Nat} (h : LaR w K a cap) (hb : Below w.heap.size w w') : LaR w' K a cap := ⟨h.rd.below hb, h.nil, h.le, h.mx⟩
def Whence (B : Nat) (N : Prop) (a a' : Option Addr) : Prop := ∀ x', a' = some x' → (N ∧ ∃ x, a = some x ∧ x.block = x'.block) ∨ B ≤ x'.block
theorem Whence.same (B : Nat) {N : Prop} (hN : N) (a : Option Addr) : Whence B N a a := fun x' e => Or.inl ⟨hN, x', e, rfl⟩
theorem vw_len2 (l : List Nat) : (vw l).length = l.length := by unfold vw; rw [List.length_map]
theorem u64_one (l : List Nat) : ∀ u ∈ vw l, u.oneCell' = true := by
 intro u hu
 obtain ⟨n, _, rfl⟩ := List.mem_map.1 hu
 rfl
set_option maxRecDepth 100000 in
set_option maxHeartbeats 4000000 in
theorem rput14 (K : KS) (hk : KOk K) (x : Nat) (a : Option Addr) (cap : Nat) (w : World) (hr : LaR w K a cap) : Calls Tryz.prog 45 #[lav K a cap, .int .u64 (x : Int)] w fun e w' => ∃ a' cap', e = .returned (.tuple #[lav (putK K x).1 a' cap', .int .i64 (putK K x).2]) ∧ LaR w' (putK K x).1 a' cap' ∧ Below w.heap.size w w' ∧ Whence w.heap.size (K.ws ≠ []) a a' := by
 have X0 : Hid (Bx2 w ((w.alloc (.cells (lac K a cap) 100)).alloc (.cells zlac 100)) w.heap.size (lac K a cap) zlac 100) := Bx2.start _ _ _ _
 obtain ⟨i0, ki, hz0, hz1, hz2⟩ := info_parts Tryz.info47
 have hm : K.ws.length ≤ 64 := Nat.le_trans hk.wl hk.r64
 unfold putK
 by_cases h : K.r ≤ K.ws.length
 ·rw [if_pos h]
  have HR : Hid (LaR w K a cap) := hr
  have HNE : Hid (K.ws ≠ []) := show _ ≠ _ from fun e => by have := hk.r1; rw [e] at h; simp at h; omega
  obtain ⟨r, ws, ph, port, lane, cp⟩ := K
  have HN : Hid (∃ n, ws.length = n) := ⟨_, rfl⟩
  have h2 : (r : Int) ≤ (ws.length : Int) := by have : r ≤ ws.length := h; omega
  clear h hm hk hr
  simp only [lav, lac, zlac] at *
  generalize hn9 : ws.length = n at X0 h2 ⊢
  go_enter Tryz.func45, Tryz.ntmps45
  go_upto_region 1 with fail
  generalize (w.alloc (.cells (zq2 (r : Int) ph port lane a n cap cp) 100)).alloc (.cells (zq2 0 0 0 0 none 0 0 false) 100) = v at *
  generalize w.heap.size = b at *
  have hb1 : b ≠ b + 1 := by omega
  have y0 := X0.out.p.cell 0
  have y1 := X0.out.p.cell 1
  have y2 := X0.out.p.cell 2
  have y3 := X0.out.p.cell 3
  have y4 := X0.out.p.cell 4
  have y5 := X0.out.p.cell 5
  simp only [sqg, sqh, sqt] at y0 y1 y2 y3 y4 y5
  go_upto_region 2 with fail
  have d0 := X0.out.r.cell 0
  have d1 := X0.out.r.cell 1
  have d2 := X0.out.r.cell 2
  have d3 := X0.out.r.cell 3
  have d4 := X0.out.r.cell 4
  have d5 := X0.out.r.cell 5
  simp only [sqg, sqh, sqt] at d0 d1 d2 d3 d4 d5
  have YY := six_at X0.out.r (.int .i64 (r : Int)) (.int .i64 ph) (.int .i64 port) (.int .i64 lane) (.slice a n cap) (.bool cp)
  have z0 := X0.out.r.free 0
  have z1 := X0.out.r.free 1
  have z2 := X0.out.r.free 2
  have z3 := X0.out.r.free 3
  have z4 := X0.out.r.free 4
  have z5 := X0.out.r.free 5
  have Y0 := YY.cell 0
  have Y1 := YY.cell 1
  have Y2 := YY.cell 2
  have Y3 := YY.cell 3
  have Y4 := YY.cell 4
  have Y5 := YY.cell 5
  simp only [sqg, sqh, sqt] at Y0 Y1 Y2 Y3 Y4 Y5
  clear YY
  go_wp2
  refine bodyPost_ret (v := .tuple #[.agg (zq2 (r : Int) ph port lane a n cap cp), .int .i64 7]) (by simp [results, Tryz.results45, go_sem, Y0, Y1, Y2, Y3, Y4, Y5]; try rfl) rfl ⟨a, cap, rfl, HR.out.next (X0.out.fin _ _ _ _ _ _), X0.out.fin _ _ _ _ _ _, Whence.same _ HNE.out _⟩
 ·rw [if_neg h]
  obtain ⟨r, ws, ph, port, lane, cp⟩ := K
  have HR : Hid (Rd ((w.alloc (.cells (lac ⟨r, ws, ph, port, lane, cp⟩ a cap) 100)).alloc (.cells zlac 100)) a (vw ws)) := (hr.rd.alloc _).alloc _
  have h2 : ¬ (r : Int) ≤ (ws.length : Int) := by have : ¬ r ≤ ws.length := h; omega
  have hnil : a = none → ws.length = 0 ∧ cap = 0 := hr.nil
  have hlen : (vw ws).length = ws.length * 1 := by rw [vw_len2, Nat.mul_one]
  have VO := u64_one ws
  have hm2 : ws.length ≤ 64 := hm
  have hw0 : vw ws ++ [.int .u64 (x : Int)] = vw (ws ++ [x]) := by simp [vw]
  have HW : Hid (vw ws ++ [.int .u64 (x : Int)] = vw (ws ++ [x])) := hw0
  clear hw0
  clear h hm hk hr
  simp only [lav, lac, zlac, List.length_append, List.length_singleton] at h2 hnil hlen hm2 X0 HR ⊢
  generalize hn9 : ws.length = n at X0 h2 hnil hlen hm2 HR ⊢
  have HN9 : Hid (ws.length = n) := hn9
  clear hn9
  go_enter Tryz.func45, Tryz.ntmps45
  go_upto_region 1 with fail
  generalize (w.alloc (.cells (zq2 (r : Int) ph port lane a n cap cp) 100)).alloc (.cells (zq2 0 0 0 0 none 0 0 false) 100) = v at *
  generalize w.heap.size = b at *
  have hb1 : b ≠ b + 1 := by omega
  have y0 := X0.out.p.cell 0
  have y1 := X0.out.p.cell 1
  have y2 := X0.out.p.cell 2
  have y3 := X0.out.p.cell 3
  have y4 := X0.out.p.cell 4
  have y5 := X0.out.p.cell 5
  simp only [sqg, sqh, sqt] at y0 y1 y2 y3 y4 y5
  go_upto_region 3 with fail
  go_upto_region 4 with fail
  have own0 := OwnK.nil v v.heap.size 47 1
  have RD : Rd v a (vw ws) := HR.out
  generalize vw ws = L at *
  have hl2 : 0 + n ≤ 1000000 := by omega
  go_upto_region 5 with (at_builtin; go_loud (refine wpList_app_srck rfl (.tmp 14) (.tmp 16) 77 47 i0 (.int .u64 0) 1 8 rfl Tryz.underlying77 ki hz0 hz1 hz2 rfl (by decide) (by decide) v.heap.size v (.slice none 0 0) 0 [] rfl own0 a n cap rfl hnil L hlen RD VO hl2 (Nat.le_refl _) ?_; intro v4 w4 o4 g4; have own4 : OwnK 47 1 w4 v.heap.size v4 n L := (by rw [Nat.zero_add, List.nil_append] at o4; exact o4); have B34 : Hid (Below v.heap.size v w4) := (Below.refl _ _).grown g4 (Nat.le_refl _) (fun q hq => by simp [Value.ownBlock] at hq)))
  have hb2 : b < v.heap.size := X0.out.p.lt
  have hsz : v.heap.size ≤ w4.heap.size := B34.out.size
  have hone : ∀ u ∈ [Value.int .u64 (x : Int)], u.oneCell' = true := by intro u hu; simp at hu; subst hu; rfl
  have hll : n ≤ 1000000 := by omega
  clear y0 y1 y2 y3 y4 y5 o4 own0 RD VO
  go_upto_region 6 with (at_builtin; go_loud (refine wpList_app_k rfl (.tmp 18) (.tmp 20) 77 47 i0 (.int .u64 0) 1 8 rfl Tryz.underlying77 ki hz0 hz1 hz2 rfl (by decide) (by decide) v.heap.size w4 v4 n L [.int .u64 (x : Int)] rfl own4 rfl rfl hone hll hsz ?_; intro v5 w5 o5 g5; obtain ⟨a5, c5, rfl, hc5, hm5, rd5⟩ := o5.rd (by decide); have B35 : Hid (Below v.heap.size v w5) := Below.grown (B34.out.alloc hsz _) g5 (by simp; omega) (fun q hq => (OwnK.lt own4 hq).1); have X5 : Hid (Bx2 w w5 b _ _ _) := X0.out.next B35.out; have u4 := X5.out.p.cell 4; have z4 := X5.out.p.free 4; simp only [sqg, sqh, sqt] at u4))
  have O6 : Hid (OwnK 47 1 (w5.setCell ⟨b, 4, none⟩ (.slice a5 (n + 1) c5)) v.heap.size (.slice a5 (n + 1) c5) (n + 1) (L ++ [.int .u64 (x : Int)])) := OwnK.far o5 hb2
  have X6 : Hid (Bx2 w (w5.setCell ⟨b, 4, none⟩ (.slice a5 (n + 1) c5)) b (zq2 (r : Int) ph port lane a5 (n + 1) c5 cp) (zq2 0 0 0 0 none 0 0 false) 100) := show Bx2 _ _ _ _ _ _ from by simpa using X5.out.set 4 (.slice a5 (n + 1) c5)
  have hb3 : b + 1 < v.heap.size := X0.out.r.lt
  clear u4 z4 o5 g5 rd5 B35 B34 X5 X0 own4 g4 HR
  generalize w5.setCell ⟨b, 4, none⟩ (.slice a5 (n + 1) c5) = u at *
  have y0 := X6.out.p.cell 0
  have y1 := X6.out.p.cell 1
  have y2 := X6.out.p.cell 2
  have y3 := X6.out.p.cell 3
  have y4 := X6.out.p.cell 4
  have y5 := X6.out.p.cell 5
  simp only [sqg, sqh, sqt] at y0 y1 y2 y3 y4 y5
  have d0 := X6.out.r.cell 0
  have d1 := X6.out.r.cell 1
  have d2 := X6.out.r.cell 2
  have d3 := X6.out.r.cell 3
  have d4 := X6.out.r.cell 4
  have d5 := X6.out.r.cell 5
  simp only [sqg, sqh, sqt] at d0 d1 d2 d3 d4 d5
  have YY := six_at X6.out.r (.int .i64 (r : Int)) (.int .i64 ph) (.int .i64 port) (.int .i64 lane) (.slice a5 (n + 1) c5) (.bool cp)
  have z0 := X6.out.r.free 0
  have z1 := X6.out.r.free 1
  have z2 := X6.out.r.free 2
  have z3 := X6.out.r.free 3
  have z4 := X6.out.r.free 4
  have z5 := X6.out.r.free 5
  have Y0 := YY.cell 0
  have Y1 := YY.cell 1
  have Y2 := YY.cell 2
  have Y3 := YY.cell 3
  have Y4 := YY.cell 4
  have Y5 := YY.cell 5
  simp only [sqg, sqh, sqt] at Y0 Y1 Y2 Y3 Y4 Y5
  clear YY
  go_wp2
  refine bodyPost_ret (v := .tuple #[.agg (zq2 (r : Int) ph port lane a5 (n + 1) c5 cp), .int .i64 0]) (by simp [results, Tryz.results45, go_sem, Y0, Y1, Y2, Y3, Y4, Y5]; try rfl) rfl ?_
  have O7 := OwnK.far (b := b + 1) (j := 5) (x := .bool cp) (OwnK.far (b := b + 1) (j := 4) (x := .slice a5 (n + 1) c5) (OwnK.far (b := b + 1) (j := 3) (x := .int .i64 lane) (OwnK.far (b := b + 1) (j := 2) (x := .int .i64 port) (OwnK.far (b := b + 1) (j := 1) (x := .int .i64 ph) (OwnK.far (b := b + 1) (j := 0) (x := .int .i64 (r : Int)) O6.out hb3) hb3) hb3) hb3) hb3) hb3
  obtain ⟨a6, c6, e6, hc6, hm6, rd6⟩ := O7.rd (by decide)
  injection e6 with e1 _ e3
  subst e1 e3
  rw [HW.out] at rd6
  have WH : Whence w.heap.size (ws ≠ []) a a5 := fun x' e => Or.inr (by have := (O7.lt (q := x'.block) (by rw [e]; rfl)).1; have := X6.out.hb; omega)
  refine ⟨a5, c5, rfl, ⟨rd6, fun h => ?_, ?_, hm6⟩, X6.out.fin _ _ _ _ _ _, WH⟩
  ·obtain ⟨g, o, e, _⟩ := rd6 0 (.int .u64 (((ws ++ [x]).getD 0 0 : Nat) : Int)) (by have := vw_at (l := ws ++ [x]) (k := 0) (by simp); exact this)
   rw [h] at e
   cases e
  ·show (ws ++ [x]).length ≤ c5
   rw [List.length_append, HN9.out]
   exact hc6
end Go.Proofs.YtmmegmonmilkcaaGreatDoor
