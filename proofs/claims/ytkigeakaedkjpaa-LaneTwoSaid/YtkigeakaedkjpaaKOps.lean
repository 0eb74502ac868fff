/-
  A lane and a function value: words of a parcel, a way that is told; a law's lane since a world, rows beside its blocks.
-/
import Derived.Test.YtkigeakaedkjpaaKObj
import Derived.Shelf.Abstract
namespace Go.Proofs.Ytkigeakaedkjpaa
open Go.RowKit

theorem Try.outFields : Try.prog.underlying 43 = some (.struct (Try.prog.fieldsOf 43)) := by kernel_rfl
theorem Try.outHeld : Try.prog.stoodInHeld 43 = false := by kernel_rfl
theorem Try.outGuard : Try.prog.eqGuardType Try.prog.depth 43 = false := by kernel_rfl
/-- A place compared with itself. -/
theorem run_ne_out (p l y : Int) (c e : Bool) (w : World) : (binOp .neq 43 (.agg #[.int .i64 p, .int .i64 l, .int .u64 y, .bool c, .bool e]) (.agg #[.int .i64 p, .int .i64 l, .int .u64 y, .bool c, .bool e])).run Try.prog w = .ok (.bool false) w := by
  have u3 := Try.underlying3
  have u4 := Try.underlying4
  have u5 := Try.underlying36
  have a3 := Try.isAgg3
  have z3 := Try.sizeOf3
  have a4 := Try.isAgg4
  have z4 := Try.sizeOf4
  have a5 := Try.isAgg36
  have z5 := Try.sizeOf36
  rw [run_neq_struct, show (10000 : Nat) = 9999 + 1 from rfl, run_equalIn_agg w 9999 43 _ _ Try.outFields Try.outHeld]
  simp only [Program.fieldsOf, Try.underlying43]
  go_simp
theorem by_ent : Ent 34 := enters_of Try.func34 (by kernel_rfl) rfl
theorem none_ent : Ent 26 := enters_of Try.func26 (by kernel_rfl) rfl
theorem by1_any (f : Fl) (P : Int) (b : Nat) (v : World) (hc : v.cell? ⟨b, 0, none⟩ = some (.int .i64 P)) (hb : b < v.heap.size) : Calls Try.prog 34 #[flv f, .pointer (some ⟨b, 0, none⟩)] v fun e v' => e = .returned (.int .i64 P) ∧ Below v.heap.size v v' := by
  obtain ⟨fk, fs, fd, fq, fl, fm, fc, fx⟩ := f
  simp only [flv, flc]
  have B0 : Hid (Below v.heap.size v (v.alloc (.cells #[.int .i64 fk, .int .i64 fs, .int .i64 fd, .int .i64 fq, .int .i64 fl, .bool fm, .bool fc, .string fx] 49))) := (Below.refl _ _).alloc (Nat.le_refl _) _
  have c1 : (v.alloc (.cells #[.int .i64 fk, .int .i64 fs, .int .i64 fd, .int .i64 fq, .int .i64 fl, .bool fm, .bool fc, .string fx] 49)).cell? ⟨b, 0, none⟩ = some (.int .i64 P) := (B0.out.cell (p := ⟨b, 0, none⟩) hb).trans hc
  go_enter Try.func34, Try.ntmps34
  go_upto_region 1 with fail
  generalize v.alloc (.cells #[.int .i64 fk, .int .i64 fs, .int .i64 fd, .int .i64 fq, .int .i64 fl, .bool fm, .bool fc, .string fx] 49) = u at *
  go_wp2
  go_ret
  exact ⟨rfl, B0.out⟩
theorem none_any (f : Fl) (v : World) : Calls Try.prog 26 #[flv f] v fun e v' => e = .returned (.int .i64 0) ∧ Below v.heap.size v v' := by
  obtain ⟨fk, fs, fd, fq, fl, fm, fc, fx⟩ := f
  simp only [flv, flc]
  have B0 : Hid (Below v.heap.size v (v.alloc (.cells #[.int .i64 fk, .int .i64 fs, .int .i64 fd, .int .i64 fq, .int .i64 fl, .bool fm, .bool fc, .string fx] 49))) := (Below.refl _ _).alloc (Nat.le_refl _) _
  go_enter Try.func26, Try.ntmps26
  go_upto_region 1 with fail
  generalize v.alloc (.cells #[.int .i64 fk, .int .i64 fs, .int .i64 fd, .int .i64 fq, .int .i64 fl, .bool fm, .bool fc, .string fx] 49) = u at *
  go_wp2
  go_ret
  exact ⟨rfl, B0.out⟩
theorem none_way (w : World) : Way w 26 #[] 0 := ⟨none_ent, fun f v _ => none_any f v⟩
theorem by_any (P : Int) (w : World) : Calls Try.prog 14 #[.int .i64 P] w fun e w' => ∃ b, e = .returned (.func (.func 34) #[] #[.pointer (some ⟨b, 0, none⟩)]) ∧ Way w' 34 #[.pointer (some ⟨b, 0, none⟩)] P ∧ Below w.heap.size w w' := by
  have hmf : ∀ (fn : Fn) (first cap : Array Value) (w : World), (Instr.makeFunc fn first cap).run Try.prog w = .ok (.func fn first cap) w := fun _ _ _ _ => rfl
  have N0 : Bk (w.alloc (.cells #[.int .i64 P] 3)) w.heap.size #[.int .i64 P] 3 := Bk.new _ _ _
  have B0 : Hid (Below w.heap.size w (w.alloc (.cells #[.int .i64 P] 3))) := (Below.refl _ _).alloc (Nat.le_refl _) _
  have WY : Hid (Way (w.alloc (.cells #[.int .i64 P] 3)) 34 #[.pointer (some ⟨w.heap.size, 0, none⟩)] P) := show Way _ _ _ _ from ⟨by_ent, fun f v hb => by1_any f P w.heap.size v (by rw [(N0.next hb).cell]; rfl) (N0.next hb).lt⟩
  clear N0
  go_enter Try.func14, Try.ntmps14
  go_wp2
  go_ret
  exact ⟨_, rfl, WY.out, B0.out⟩
set_option maxRecDepth 100000 in
set_option maxHeartbeats 4000000 in
theorem kwords_any (s : Int) (c : Bool) (a : Option Addr) (cap : Nat) (x : ByteArray) (hs : List (Int × Int)) (w : World) (hm : hs.length ≤ maxLen) (hx : x.size ≤ maxLen) (hr : Rd w a (pc hs)) :
    Calls Try.prog 10 #[pcv s c (.slice a hs.length cap) x] w fun e w' => ∃ a' cap', e = .returned (.slice a' (gd ⟨s, c, hs, x⟩).ws.length cap') ∧ (gd ⟨s, c, hs, x⟩).ws.length ≤ cap' ∧ Rd w' a' (vw (gd ⟨s, c, hs, x⟩).ws) ∧ Below w.heap.size w w' := by
  have F := fine ⟨s, c, hs, x⟩
  have GC : ∀ w', Rd w' a (pc hs) → Calls Try.prog 9 #[pcv s c (.slice a hs.length cap) x] w' (PcR w' (gd ⟨s, c, hs, x⟩)) := fun w' h => good_any s c a cap x hs w' hm hx h
  generalize gd ⟨s, c, hs, x⟩ = P at *
  have WC := fun a cap w hr => F.rwords a cap w hr
  obtain ⟨n, hn⟩ : ∃ n, hs.length = n := ⟨_, rfl⟩
  rw [hn] at GC ⊢
  generalize P.ws = L at *
  generalize L.length = nl at *
  have H0 : Hid (Bk (w.alloc (.cells #[.int .i64 s, .bool c, .slice a n cap, .string x] 24)) w.heap.size #[.int .i64 s, .bool c, .slice a n cap, .string x] 24) := Bk.new _ _ _
  have B0 : Hid (Below w.heap.size w (w.alloc (.cells #[.int .i64 s, .bool c, .slice a n cap, .string x] 24))) := (Below.refl _ _).alloc (Nat.le_refl _) _
  have GW := GC _ (hr.below B0.out)
  clear hr hn hm hx GC F
  simp only [pcv, pcc] at *
  go_enter Try.func10, Try.ntmps10
  go_upto_region 1 with fail
  generalize w.alloc (.cells #[.int .i64 s, .bool c, .slice a n cap, .string x] 24) = v at *
  have c0 := H0.out.cell 0
  have c1 := H0.out.cell 1
  have c2 := H0.out.cell 2
  have c3 := H0.out.cell 3
  simp at c0 c1 c2 c3
  go_wp2_with fail
  go_at_call 9
  with_reducible refine GW.mono ?_
  rintro e w2 ⟨ga, gcap, rfl, hgc, rd2, hb2⟩
  have WW := WC ga gcap w2 rd2
  have B2 : Hid (Below w.heap.size w w2) := B0.out.trans (hb2.mono B0.out.size)
  clear GW hb2 H0 B0 c0 c1 c2 c3 hgc rd2 WC
  go_wp2_with fail
  go_at_call 27
  with_reducible refine WW.mono ?_
  rintro e w3 ⟨la, lcap, rfl, hlc, rd3, hb3⟩
  have B3 : Hid (Below w.heap.size w w3) := B2.out.trans (hb3.mono B2.out.size)
  have R3 : Hid (Rd w3 la (vw L) ∧ nl ≤ lcap) := ⟨rd3, hlc⟩
  clear WW hb3 rd3 hlc
  go_wp2
  go_ret
  exact ⟨la, lcap, rfl, R3.out.2, R3.out.1, B3.out⟩

/-- A law's lane, made since w: as lists, its blocks new, nothing of w turned. -/
structure KSt (w wr : World) (b : Nat) (S : KS) (F : Nat → Prop) : Prop where
  lk : Kn wr b S F
  news : ∀ g, F g → w.heap.size ≤ g
  below : Below w.heap.size w wr
theorem KSt.size {w wr : World} {b : Nat} {S : KS} {F : Nat → Prop} (h : KSt w wr b S F) : w.heap.size ≤ wr.heap.size := h.below.size
theorem KSt.step {w wr w' : World} {b : Nat} {S S' : KS} {F F' : Nat → Prop} (h : KSt w wr b S F) (l : Kn w' b S' F') (g : Gr F wr w' F') : KSt w w' b S' F' :=
  ⟨l, g.up h.news h.size, g.under h.below h.news h.size⟩
theorem KSt.next {w wr w' : World} {b : Nat} {S : KS} {F : Nat → Prop} (h : KSt w wr b S F) (k : Below wr.heap.size wr w') : KSt w w' b S F :=
  ⟨h.lk.next k, h.news, h.below.trans (k.mono h.size)⟩
theorem KSt.alloc {w wr : World} {b : Nat} {S : KS} {F : Nat → Prop} (h : KSt w wr b S F) (o : Obj) : KSt w (wr.alloc o) b S F := h.next ((Below.refl _ _).alloc (Nat.le_refl _) o)
theorem KSt.drewN {w wr : World} {b : Nat} {S : KS} {F : Nat → Prop} (h : KSt w wr b S F) (n : Nat) : KSt w (wr.drewN n) b S F := h.next (dn (Below.refl _ _) n)
theorem KSt.far {w wr : World} {b k j : Nat} {S : KS} {F : Nat → Prop} {x : Value} (h : KSt w wr b S F) (hk : ¬ F k) (hw : w.heap.size ≤ k) : KSt w (wr.setCell ⟨k, j, none⟩ x) b S F :=
  ⟨h.lk.far hk, h.news, h.below.setCell hw _⟩
theorem KSt.kept {w wr w' : World} {b : Nat} {S : KS} {F : Nat → Prop} {r : Option Nat} (h : KSt w wr b S F) (hg : wr.grownBy w' r) (hr : ∀ q, r = some q → ¬ F q ∧ w.heap.size ≤ q) : KSt w w' b S F :=
  ⟨h.lk.kept hg fun q e => (hr q e).1, h.news, h.below.grown hg h.size fun q e => (hr q e).2⟩
/-- A row of the law's own, beside the lane's blocks. -/
def Row (e : TypeId) (k : Nat) (w wr : World) (F : Nat → Prop) (v : Value) (n : Nat) (l : List Value) : Prop := OwnK e k wr w.heap.size v n l ∧ ∀ q, v.ownBlock = some q → ¬ F q
theorem Row.nil (w wr : World) (F : Nat → Prop) (e : TypeId) (k : Nat) : Row e k w wr F (.slice none 0 0) 0 [] := ⟨OwnK.nil _ _ _ _, fun q h => by simp [Value.ownBlock] at h⟩
theorem Row.gr {e : TypeId} {k : Nat} {w wr w' : World} {F F' : Nat → Prop} {v : Value} {n : Nat} {l : List Value} (h : Row e k w wr F v n l) (g : Gr F wr w' F') : Row e k w w' F' v n l :=
  ⟨h.1.gr g h.2, fun q hq => g.off (h.2 q hq) (h.1.lt hq).2⟩
theorem Row.next {e : TypeId} {k : Nat} {w wr w' : World} {F : Nat → Prop} {v : Value} {n : Nat} {l : List Value} (h : Row e k w wr F v n l) (g : Below wr.heap.size wr w') : Row e k w w' F v n l := ⟨h.1.below g, h.2⟩
theorem Row.far {e : TypeId} {k : Nat} {w wr : World} {F : Nat → Prop} {v x : Value} {n o j : Nat} {l : List Value} (h : Row e k w wr F v n l) (ho : ∀ q, v.ownBlock = some q → q ≠ o) : Row e k w (wr.setCell ⟨o, j, none⟩ x) F v n l := by
  refine ⟨⟨h.1.1, ?_⟩, h.2⟩
  rcases h.1.2 with hn | ⟨g, cap, cur, e1, hg, hh, r⟩
  · exact Or.inl hn
  · exact Or.inr ⟨g, cap, cur, e1, hg, by rw [Below.heap_setCell wr ⟨o, j, none⟩ _ g (ho g (by rw [e1]; rfl))]; exact hh, r⟩
theorem Row.snoc {e : TypeId} {k : Nat} {w wr w' : World} {b : Nat} {S : KS} {F : Nat → Prop} {v v' : Value} {n : Nat} {l l' news : List Value} (h : Row e k w wr F v n l) (s : KSt w wr b S F) (o : OwnK e k w' w.heap.size v' (n + 1) l')
    (hg : (wr.alloc (.cells news.toArray e)).grownBy w' v.ownBlock) (hv : v'.ownBlock = v.ownBlock ∨ v'.ownBlock = some (wr.alloc (.cells news.toArray e)).heap.size) : Row e k w w' F v' (n + 1) l' ∧ KSt w w' b S F := by
  refine ⟨⟨o, own_off s.lk.lt h.2 hv (by simp)⟩, (s.alloc _).kept hg fun q hq => ⟨h.2 q hq, (h.1.lt hq).1⟩⟩
/-- A block that has just been made is none of its. -/
theorem KSt.off {w wr : World} {b : Nat} {S : KS} {F : Nat → Prop} (h : KSt w wr b S F) {k : Nat} (hk : wr.heap.size ≤ k) : ¬ F k := fun hf => by have := h.lk.lt k hf; omega
end Go.Proofs.Ytkigeakaedkjpaa
