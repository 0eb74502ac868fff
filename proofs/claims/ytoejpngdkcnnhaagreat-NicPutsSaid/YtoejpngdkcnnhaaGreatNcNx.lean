/-
  A law's nic since a world, beside the law's other blocks.
-/
import Derived.Test.YtoejpngdkcnnhaaGreatNcNew
import Derived.Test.YtoejpngdkcnnhaaGreatNcTake
import Derived.Test.YtoejpngdkcnnhaaGreatNcBeg
namespace Go.Proofs.YtoejpngdkcnnhaaGreat
open Go.RowKit

/-- A place of a port and lane that is one. -/
abbrev Pl (l : Int) (k : Nat) : Prop := k < 40 ∧ ((k % 8 : Nat) : Int) < l
/-- A nic's blocks beside its inbox, and others. -/
def Oo (b : Nat) (l : Int) (jb : Nat → Nat) (O : Nat → Prop) : Nat → Prop := fun g => g = b ∨ (∃ k, Pl l k ∧ g = jb k) ∨ O g
structure Nx (w0 w : World) (b ib : Nat) (S : Nc) (cu : Value) (jb : Nat → Nat) (js : Nat → JS) (X : I.IS) (O : Nat → Prop) : Prop where
  nb : Nb w b ib S cu (jp S.c.l jb 40)
  ix : I.Ix w0 w ib X (Oo b S.c.l jb O)
  js : ∀ k, Pl S.c.l k → Bk w (jb k) (pj (js k)) 104 ∧ b < jb k
  inj : ∀ k k', Pl S.c.l k → Pl S.c.l k' → k ≠ k' → jb k ≠ jb k'
  b0 : w0.heap.size ≤ b
  off : ∀ g, O g → g ≠ b ∧ ∀ k, Pl S.c.l k → g ≠ jb k
section
variable {w0 w w' : World} {b ib : Nat} {S : Nc} {cu : Value} {jb : Nat → Nat} {js : Nat → JS} {X : I.IS} {O : Nat → Prop}
theorem Nx.bl (h : Nx w0 w b ib S cu jb js X O) : Below w0.heap.size w0 w := h.ix.bl
theorem Nx.olt (h : Nx w0 w b ib S cu jb js X O) {g : Nat} (hg : O g) : g < w.heap.size := h.ix.lt g (Or.inr (Or.inr hg))
theorem Nx.start {F : Nat → Prop} {c : G.Cf} {nd : Int} (h : Lay w0 w b ib c nd F jb 40) (hO : ∀ g, O g → g < w0.heap.size) : Nx w0 w b ib ⟨c, nd, 0, 0⟩ (.slice none 0 0) jb (fun _ => zjs) (I.newI (I.roomN c.i)) O := by
  have hs := h.bl.size
  refine ⟨h.nb, ⟨⟨F, h.ix, fun g hg => ⟨(h.hF g hg).1, ?_⟩⟩, h.bl, ?_⟩, fun k hk => h.js k hk.1 hk.2, fun k k' hk hk' hne => ?_, h.hb, fun g hg => ?_⟩
  · rintro (rfl | ⟨k, hk, rfl⟩ | ho)
    · have := (h.hF _ hg).2; omega
    · have := (h.hF _ hg).2; have := (h.js k hk.1 hk.2).2; omega
    · have := (h.hF _ hg).1; have := hO _ ho; omega
  · rintro g (rfl | ⟨k, hk, rfl⟩ | ho)
    · exact h.nb.lt
    · exact (h.js k hk.1 hk.2).1.lt
    · have := hO _ ho; omega
  · rcases Nat.lt_or_ge k k' with hlt | hge
    · have := h.mono k k' hlt hk'.1 hk.2 hk'.2; omega
    · have := h.mono k' k (by omega) hk.1 hk'.2 hk.2; omega
  · have := hO _ hg
    have hb := h.hb
    refine ⟨by omega, fun k hk => ?_⟩
    have := (h.js k hk.1 hk.2).2
    omega
/-- The world goes on: of the elder blocks only the nic's own and some of the law's turn. -/
theorem Nx.tn {T O' : Nat → Prop} {S' : Nc} {cu' : Value} (h : Nx w0 w b ib S cu jb js X O) (ht : Tn T w w') (hT : ∀ g, T g → g = b ∨ (O g ∧ w0.heap.size ≤ g)) (hO : ∀ g, O' g → (O g ∨ w.heap.size ≤ g) ∧ g < w'.heap.size) (hc : S'.c = S.c) (hn : Nb w' b ib S' cu' (jp S.c.l jb 40)) : Nx w0 w' b ib S' cu' jb js X O' := by
  have hjl : ∀ k, Pl S.c.l k → jb k < w.heap.size := fun k hk => (h.js k hk).1.lt
  have hnT : ∀ k, Pl S.c.l k → ¬ T (jb k) := fun k hk ht => by
    rcases hT _ ht with e | ⟨e, _⟩
    · have := (h.js k hk).2; omega
    · exact (h.off _ e).2 k hk rfl
  refine ⟨by rw [hc]; exact hn, ?_, fun k hk => ?_, fun k k' hk hk' => h.inj k k' (by rw [← hc]; exact hk) (by rw [← hc]; exact hk'), h.b0, fun g hg => ?_⟩
  · obtain ⟨⟨F, hI, hF⟩, bl, lt⟩ := h.ix
    refine ⟨⟨F, hI.gr ht fun g hg ht => ?_, fun g hg => ⟨(hF g hg).1, ?_⟩⟩, ?_, ?_⟩
    · rcases hT _ ht with e | ⟨e, _⟩
      · exact (hF g hg).2 (Or.inl e)
      · exact (hF g hg).2 (Or.inr (Or.inr e))
    · rintro (e | ⟨k, hk, e⟩ | ho)
      · exact (hF g hg).2 (Or.inl e)
      · exact (hF g hg).2 (Or.inr (Or.inl ⟨k, by rw [← hc]; exact hk, e⟩))
      · rcases (hO g ho).1 with e | e
        · exact (hF g hg).2 (Or.inr (Or.inr e))
        · have := hI.lt g hg; omega
    · exact ht.under bl (fun g hg => by
        rcases hT _ hg with e | ⟨_, e⟩
        · rw [e]; exact h.b0
        · exact e) bl.size
    · rintro g (e | ⟨k, hk, e⟩ | ho)
      · rw [e]; exact hn.lt
      · rw [e]; exact Nat.lt_of_lt_of_le (hjl k (by rw [← hc]; exact hk)) ht.size
      · exact (hO g ho).2
  · rw [hc] at hk
    refine ⟨?_, (h.js k hk).2⟩
    have := (h.js k hk).1
    unfold Bk at this ⊢
    rw [ht.block _ (hjl k hk) (hnT k hk)]
    exact this
  · rcases (hO g hg).1 with e | e
    · exact ⟨(h.off g e).1, fun k hk => (h.off g e).2 k (by rw [← hc]; exact hk)⟩
    · refine ⟨?_, fun k hk => ?_⟩
      · have := h.nb.lt; omega
      · have := hjl k (by rw [← hc]; exact hk); omega
theorem Nx.next (h : Nx w0 w b ib S cu jb js X O) (hb : Below w.heap.size w w') : Nx w0 w' b ib S cu jb js X O :=
  h.tn (T := fun _ => False) ((Tn.refl _ w).below hb) (fun _ c => c.elim) (fun _g hg => ⟨Or.inl hg, Nat.lt_of_lt_of_le (h.olt hg) hb.size⟩) rfl (h.nb.next hb)
theorem Nx.less {O' : Nat → Prop} (h : Nx w0 w b ib S cu jb js X O) (hO : ∀ g, O' g → O g) : Nx w0 w b ib S cu jb js X O' :=
  h.tn (T := fun _ => False) (Tn.refl _ w) (fun _ c => c.elim) (fun g hg => ⟨Or.inl (hO g hg), h.olt (hO g hg)⟩) rfl h.nb
theorem Nx.alloc (h : Nx w0 w b ib S cu jb js X O) (o : Obj) : Nx w0 (w.alloc o) b ib S cu jb js X (fun g => O g ∨ g = w.heap.size) :=
  h.tn (T := fun _ => False) ((Tn.refl _ w).below ((Below.refl _ _).alloc (Nat.le_refl _) o)) (fun _ c => c.elim) (fun g hg => by
    rcases hg with e | rfl
    · exact ⟨Or.inl e, by have := h.olt e; simp; omega⟩
    · exact ⟨Or.inr (Nat.le_refl _), by simp⟩) rfl (h.nb.alloc o)
theorem Nx.kp (hb : Below w.heap.size w w') (h : Nx w0 w b ib S cu jb js X O) : I.Kp O w w' := kp_below hb fun _g hg => h.olt hg
theorem Rd.ikp {a : Option Addr} {l : List Value} (h : Rd w a l) (hk : I.Kp O w w') (ho : ∀ q, a = some q → O q.block) : Rd w' a l := fun j v hj => by
  obtain ⟨g, off, rfl, hg, hc⟩ := h j v hj
  exact ⟨g, off, rfl, Nat.lt_of_lt_of_le hg hk.size, by rw [World.cell?_of_block (hk.on g (ho _ rfl))]; exact hc⟩
/-- The inbox has turned. -/
theorem Nx.box {X' : I.IS} (h : Nx w0 w b ib S cu jb js X O) (hi : I.Ix w0 w' ib X' (Oo b S.c.l jb O)) (hk : I.Kp (Oo b S.c.l jb O) w w') : Nx w0 w' b ib S cu jb js X' O ∧ I.Kp O w w' :=
  ⟨⟨h.nb.keep (hk.on b (Or.inl rfl)), hi, fun k hp => ⟨(h.js k hp).1.ikp hk (Or.inr (Or.inl ⟨k, hp, rfl⟩)), (h.js k hp).2⟩, h.inj, h.b0, h.off⟩, hk.size, fun g hg => hk.on g (Or.inr (Or.inr hg))⟩
theorem Nx.waits (h : Nx w0 w b ib S cu jb js X O) : Calls Tryz.prog 20 #[.pointer (some ⟨b, 0, none⟩)] w fun e w' => e = .returned (.int .i64 (X.W.length : Int)) ∧ Nx w0 w' b ib S cu jb js X O ∧ I.Kp O w w' :=
  (waits_any h.nb h.ix).mono fun _ _ ⟨h1, h2, h3⟩ => ⟨h1, (h.box h2 h3).1, (h.box h2 h3).2⟩
theorem Nx.tell (h : Nx w0 w b ib S cu jb js X O) : Calls Tryz.prog 22 #[.pointer (some ⟨b, 0, none⟩)] w fun e w' => e = .returned (.bool (I.tellB X)) ∧ Nx w0 w' b ib S cu jb js (I.tellS X) O ∧ I.Kp O w w' :=
  (tell_any h.nb h.ix).mono fun _ _ ⟨h1, h2, h3⟩ => ⟨h1, (h.box h2 h3).1, (h.box h2 h3).2⟩
theorem Nx.recv (h : Nx w0 w b ib S cu jb js X O) : Calls Tryz.prog 24 #[.pointer (some ⟨b, 0, none⟩)] w fun e w' => e = .returned (.tuple #[I.pkv (I.recvV X), .int .i64 (I.recvE X)]) ∧ Nx w0 w' b ib S cu jb js (I.recvS X) O ∧ I.Kp O w w' :=
  (recv_any h.nb h.ix).mono fun _ _ ⟨h1, h2, h3⟩ => ⟨h1, (h.box h2 h3).1, (h.box h2 h3).2⟩
def updS (js : Nat → JS) (k : Nat) (j : JS) : Nat → JS := fun i => if i = k then j else js i
theorem Nx.take (h : Nx w0 w b ib S cu jb js X O) {p l W : Nat} (hp : p < 5) (hl : (l : Int) < S.c.l) (h8 : S.c.l ≤ 8) (hW : W < 18446744073709551616) (hx : (js (p * 8 + l)).x.size ≤ 900000) :
    Calls Tryz.prog 18 #[.pointer (some ⟨b, 0, none⟩), .int .i64 p, .int .i64 l, .int .u64 (W : Int)] w fun e w' => e = .returned (.int .i64 (tkE X (js (p * 8 + l)) W)) ∧ Nx w0 w' b ib S cu jb (updS js (p * 8 + l) (takeR (js (p * 8 + l)) W).1) (tkS X (js (p * 8 + l)) W) O ∧ I.Kp O w w' := by
  have hm : (p * 8 + l) % 8 = l := by omega
  have hP : Pl S.c.l (p * 8 + l) := ⟨by omega, by rw [hm]; exact hl⟩
  obtain ⟨j1, j2⟩ := h.js _ hP
  have hJ : jp S.c.l jb 40 (p * 8 + l) = .pointer (some ⟨jb (p * 8 + l), 0, none⟩) := by
    unfold jp
    rw [if_pos hP]
  refine (nic_take h.nb h.ix (Or.inl rfl) (Or.inr (Or.inl ⟨_, hP, rfl⟩)) (by omega) (by have := h.b0; omega) j1 hp (by omega) hJ hW hx).mono ?_
  rintro e w' ⟨rfl, h1, h2, h3⟩
  refine ⟨rfl, ⟨h.nb.keep (h3.on b ⟨Or.inl rfl, by omega⟩), h2, fun k hk => ?_, h.inj, h.b0, h.off⟩, h3.size, fun g hg => h3.on g ⟨Or.inr (Or.inr hg), (h.off g hg).2 _ hP⟩⟩
  by_cases e : k = p * 8 + l
  · subst e
    unfold updS
    rw [if_pos rfl]
    exact ⟨h1, j2⟩
  · unfold updS
    rw [if_neg e]
    exact ⟨(h.js k hk).1.ikp h3 ⟨Or.inr (Or.inl ⟨k, hk, rfl⟩), h.inj k _ hk hP e⟩, (h.js k hk).2⟩
/-- Nothing has begun. -/
theorem Nx.begun (h : Nx w0 w b ib S cu jb js X O) (hz : ∀ k, Pl S.c.l k → (js k).b = false) : Calls Tryz.prog 19 #[.pointer (some ⟨b, 0, none⟩)] w fun e w' => e = .returned (.int .i64 0) ∧ Below w.heap.size w w' := by
  have hq : ∀ k, jp S.c.l jb 40 k = .pointer (if Pl S.c.l k then some ⟨jb k, 0, none⟩ else none) := fun k => by
    unfold jp
    by_cases hP : Pl S.c.l k
    · rw [if_pos hP, if_pos hP]
    · rw [if_neg hP, if_neg hP]
  refine begun_zero (q := fun k => if Pl S.c.l k then some ⟨jb k, 0, none⟩ else none) w _ (Below.refl _ _) (look_any b w) (fun k hk => by rw [h.nb.cj hk, hq]) (fun k hk v hv => ?_)
  by_cases hP : Pl S.c.l k
  · simp only [if_pos hP]
    have := begun_any ((h.js k hP).1.next hv)
    rw [hz k hP] at this
    exact this
  · simp only [if_neg hP]
    exact begun_nil v
end
end Go.Proofs.YtoejpngdkcnnhaaGreat
