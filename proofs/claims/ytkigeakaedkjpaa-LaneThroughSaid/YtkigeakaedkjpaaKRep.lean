/-
  The program's lane in memory: its block, its ring of words; what a call keeps. No function in it.
-/
import Derived.Test.YtkigeakaedkjpaaKPlain
import Derived.Test.YtkigeakaedkjpaaGrC
import Derived.Test.YtkigeakaedkjpaaRu
namespace Go.Proofs.Ytkigeakaedkjpaa
open Go.RowKit

abbrev koc (o : KO) : Array Value := #[.int .i64 o.port, .int .i64 o.lane, .int .u64 (o.word : Int), .bool o.copy, .bool o.ends]
abbrev kov (o : KO) : Value := .agg (koc o)
/-- A function value that may be called. -/
def Ent (g : Nat) : Prop := ∀ (args : Array Value) (w : World), (callFunc g args).run Try.prog w = .ok (.enter g args) w
/-- One that tells the way of a flit: the port P, whatever the flit. -/
def Way (w : World) (g : Nat) (lb : Array Value) (P : Int) : Prop := Ent g ∧ ∀ (f : Fl) (v : World), Below w.heap.size w v → Calls Try.prog g (#[flv f] ++ lb) v fun e v' => e = .returned (.int .i64 P) ∧ Below v.heap.size v v'

/-- Of the elder blocks only this one may have turned. -/
def On (b : Nat) (w w' : World) : Prop := w.grownBy w' (some b)
theorem On.out {b : Nat} {w w' : World} (h : On b w w') : w.grownBy w' (some b) := h
theorem On.refl (b : Nat) (w : World) : On b w w := ⟨rfl, rfl, rfl, Nat.le_refl _, fun _ _ _ => rfl⟩
theorem On.size {b : Nat} {w w' : World} (h : On b w w') : w.heap.size ≤ w'.heap.size := h.out.size
theorem On.trans {b : Nat} {w v u : World} (h : On b w v) (k : On b v u) : On b w u :=
  ⟨k.out.os.trans h.out.os, k.out.tape.trans h.out.tape, k.out.output.trans h.out.output, Nat.le_trans h.size k.size, fun i hi hne => (k.out.block i (Nat.lt_of_lt_of_le hi h.size) hne).trans (h.out.block i hi hne)⟩
theorem On.of {b : Nat} {w v : World} (k : Below w.heap.size w v) : On b w v := ⟨k.os, k.tape, k.output, k.size, fun i hi _ => k.block i hi⟩
theorem On.below {b : Nat} {w v u : World} (h : On b w v) (k : Below v.heap.size v u) : On b w u := h.trans (On.of k)
theorem On.set {b : Nat} {w v : World} (h : On b w v) (j : Nat) (x : Value) : On b w (v.setCell ⟨b, j, none⟩ x) :=
  h.trans ⟨rfl, rfl, rfl, by simp, fun k _ hne => Below.heap_setCell v ⟨b, j, none⟩ x k fun e => hne (by rw [e])⟩
theorem On.drewN {b : Nat} {w v : World} (h : On b w v) (n : Nat) : On b w (v.drewN n) := h.below ⟨rfl, rfl, rfl, Nat.le_refl _, fun _ _ => rfl⟩
theorem On.gr {b : Nat} {w w' : World} {F : Nat → Prop} (h : On b w w') (hF : F b) : Gr F w w' F :=
  ⟨h.out.os, h.out.tape, h.out.output, h.size, fun k hk hn => h.out.block k hk fun e => hn (by cases e; exact hF), fun _ h => Or.inl h⟩
theorem Bk.on {v v' : World} {b k : Nat} {cs : Array Value} {t : TypeId} (h : Bk v b cs t) (hg : On k v v') (hne : ¬ b = k) : Bk v' b cs t := by
  unfold Bk
  rw [hg.out.block b h.lt fun e => hne (by cases e; rfl)]
  exact h
theorem Bk.drewN {w : World} {b : Nat} {cs : Array Value} {t : TypeId} (h : Bk w b cs t) (n : Nat) : Bk (w.drewN n) b cs t := by
  unfold Bk
  rw [World.heap_drewN]
  exact h

/-- Words as the ring has them. -/
def wz (l : List Nat) : List Int := l.map fun (x : Nat) => (x : Int)
/-- What a lane keeps, as cells. -/
abbrev stc (S : KS) (r : Nat) : Array Value := #[.pointer (some ⟨r, 0, none⟩), .int .i64 S.ph, .int .i64 S.port, .int .i64 S.lane, .bool S.cp]
structure KnAt (w : World) (b : Nat) (S : KS) (r pr mr : Nat) (sr : RU.RingSt) : Prop where
  lz : S.ph ≠ 2 → S.lane = 0
  blk : Bk w b (stc S r) 71
  rg : RU.RingAt w r pr mr sr
  ne : b ≠ r ∧ b ≠ pr
  room : sr.room = (S.r : Int)
  laid : sr.laid = false
  xs : sr.xs = wz S.ws
/-- The blocks of a lane. -/
def fk (b r pr : Nat) : Nat → Prop := fun g => g = b ∨ g = r ∨ g = pr
section
variable {w : World} {b : Nat} {S : KS} {r pr mr : Nat} {sr : RU.RingSt}
theorem KnAt.lt (h : KnAt w b S r pr mr sr) : ∀ g, fk b r pr g → g < w.heap.size := by
  rintro g (rfl | rfl | rfl)
  · exact h.blk.lt
  · exact h.rg.lt.1
  · exact h.rg.lt.2
theorem KnAt.keep {w' : World} (h : KnAt w b S r pr mr sr) (key : ∀ g, fk b r pr g → w'.heap[g]? = w.heap[g]?) : KnAt w' b S r pr mr sr :=
  ⟨h.lz, by unfold Bk; rw [key b (Or.inl rfl)]; exact h.blk, h.rg.keep (key r (Or.inr (Or.inl rfl))) (key pr (Or.inr (Or.inr rfl))), h.ne, h.room, h.laid, h.xs⟩
theorem KnAt.next {w' : World} (h : KnAt w b S r pr mr sr) (hb : Below w.heap.size w w') : KnAt w' b S r pr mr sr := h.keep fun g hg => hb.block g (h.lt g hg)
/-- The lane's own block has turned: other numbers, the same words. -/
theorem KnAt.turn {w' : World} {S' : KS} (h : KnAt w b S r pr mr sr) (ho : On b w w') (hb : Bk w' b (stc S' r) 71) (e1 : S'.r = S.r) (e2 : S'.ws = S.ws) (lz : S'.ph ≠ 2 → S'.lane = 0) : KnAt w' b S' r pr mr sr :=
  ⟨lz, hb, h.rg.keep (ho.out.block r h.rg.lt.1 fun e => h.ne.1 (Option.some.inj e).symm) (ho.out.block pr h.rg.lt.2 fun e => h.ne.2 (Option.some.inj e).symm), h.ne, by rw [e1]; exact h.room, h.laid, by rw [e2]; exact h.xs⟩
/-- The ring has turned. -/
theorem KnAt.step {w' : World} {S' : KS} {sr' : RU.RingSt} (h : KnAt w b S r pr mr sr) (s : RU.Stp r pr w w' sr') (hv : stc S' r = stc S r) (e1 : S'.r = S.r) (lz : S'.ph ≠ 2 → S'.lane = 0) (k1 : sr'.room = sr.room) (k2 : sr'.laid = false) (k3 : sr'.xs = wz S'.ws) :
    ∃ pr' mr', KnAt w' b S' r pr' mr' sr' ∧ Gr (fk b r pr) w w' (fk b r pr') := by
  obtain ⟨p', m', hr, hf, hp⟩ := s
  have hb := h.blk.lt
  refine ⟨p', m', ⟨lz, ?_, hr, ⟨h.ne.1, ?_⟩, by rw [k1, e1]; exact h.room, k2, k3⟩, ⟨hf.os, hf.tape, hf.output, hf.size, fun g hg hn => hf.block g hg (fun e => hn (Or.inr (Or.inl e))) (fun e => hn (Or.inr (Or.inr e))), ?_⟩⟩
  · unfold Bk
    rw [hf.block b hb h.ne.1 h.ne.2, hv]
    exact h.blk
  · rcases hp with rfl | hp
    · exact h.ne.2
    · omega
  · rintro g (e | e | e)
    · exact Or.inl (Or.inl e)
    · exact Or.inl (Or.inr (Or.inl e))
    · rcases hp with hp | hp
      · exact Or.inl (Or.inr (Or.inr (e.trans hp)))
      · exact Or.inr (e ▸ hp)
end
/-- A lane: its block, what it is as a list, its blocks. -/
def Kn (w : World) (b : Nat) (S : KS) (F : Nat → Prop) : Prop := KOk S ∧ ∃ r pr mr sr, KnAt w b S r pr mr sr ∧ F = fk b r pr
section
variable {w : World} {b : Nat} {S : KS} {F : Nat → Prop}
theorem Kn.ok (h : Kn w b S F) : KOk S := h.1
theorem Kn.lt (h : Kn w b S F) : ∀ g, F g → g < w.heap.size := by
  obtain ⟨_, r, pr, mr, sr, h, rfl⟩ := h
  exact h.lt
theorem Kn.kept {w' : World} {r : Option Nat} (h : Kn w b S F) (hg : w.grownBy w' r) (hr : ∀ q, r = some q → ¬ F q) : Kn w' b S F := by
  obtain ⟨ok, r0, pr, mr, sr, h, rfl⟩ := h
  exact ⟨ok, r0, pr, mr, sr, h.keep fun g hf => hg.block g (h.lt g hf) fun e => hr g e.symm hf, rfl⟩
theorem Kn.next {w' : World} (h : Kn w b S F) (hb : Below w.heap.size w w') : Kn w' b S F := h.kept (r := none) ⟨hb.os, hb.tape, hb.output, hb.size, fun k hk _ => hb.block k hk⟩ (fun _ e => by cases e)
theorem Kn.far {k j : Nat} {x : Value} (h : Kn w b S F) (hk : ¬ F k) : Kn (w.setCell ⟨k, j, none⟩ x) b S F := h.kept (r := some k) ⟨rfl, rfl, rfl, by simp, fun i _ hne => Below.heap_setCell w ⟨k, j, none⟩ x i fun e => hne (by rw [e])⟩ (fun _ e => by cases e; exact hk)
end

/-- A word put behind the others. -/
theorem push_kn {S : KS} {s : RU.RingSt} (ok : KOk S) (hr : s.room = (S.r : Int)) (hl : s.laid = false) (hx : s.xs = wz S.ws) (x : Nat) :
    RU.layE s = (putK S x).2 ∧ (RU.pushS s (x : Int)).room = s.room ∧ (RU.pushS s (x : Int)).laid = false ∧ (RU.pushS s (x : Int)).xs = wz (putK S x).1.ws := by
  have r1 := ok.r1
  have r64 := ok.r64
  have wl := ok.wl
  have hlen : s.xs.length = S.ws.length := by rw [hx]; simp [wz]
  have hfree : s.free = (S.r : Int) - (S.ws.length : Int) := by
    rw [RU.RingSt.free, hr, hl, hlen]
    simp [RU.one]
    omega
  unfold putK
  by_cases h : S.r ≤ S.ws.length
  · have e : RU.layE s = 7 := by
      unfold RU.layE
      rw [hl, hfree, if_neg (by decide), if_pos (by omega)]
    rw [if_pos h]
    unfold RU.pushS
    rw [e, if_neg (by decide)]
    exact ⟨rfl, rfl, hl, hx⟩
  · have e : RU.layE s = 0 := by
      unfold RU.layE
      rw [hl, hfree, if_neg (by decide), if_neg (by omega)]
    rw [if_neg h]
    unfold RU.pushS
    rw [if_pos e]
    refine ⟨e, rfl, rfl, ?_⟩
    show s.xs ++ [(x : Int)] = wz (S.ws ++ [x])
    rw [hx]
    simp [wz]
theorem putK_same (S : KS) (x : Nat) : (putK S x).1.r = S.r ∧ (putK S x).1.ph = S.ph ∧ (putK S x).1.port = S.port ∧ (putK S x).1.lane = S.lane ∧ (putK S x).1.cp = S.cp := by
  unfold putK
  split <;> exact ⟨rfl, rfl, rfl, rfl, rfl⟩
theorem RU.freed_same {s : RU.RingSt} : (RU.freeS s).laid = s.laid ∧ (RU.freeS s).room = s.room ∧ (RU.freeS s).xs = s.xs.tail := by
  unfold RU.freeS
  split
  · rename_i h; rw [h]; exact ⟨rfl, rfl, rfl⟩
  · exact ⟨rfl, rfl, rfl⟩
/-- What a lane that isn't there keeps. -/
abbrev stn : Array Value := #[.pointer none, .int .i64 0, .int .i64 0, .int .i64 0, .bool false]
end Go.Proofs.Ytkigeakaedkjpaa
