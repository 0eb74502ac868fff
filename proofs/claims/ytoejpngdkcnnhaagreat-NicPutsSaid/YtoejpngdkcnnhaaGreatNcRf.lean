/-
  A law's nic beside the law's own blocks, each with what it holds; the first parcel that is sent.
-/
import Derived.Test.YtoejpngdkcnnhaaGreatNcNx
import Derived.Test.YtoejpngdkcnnhaaGreatNcSnd
namespace Go.Proofs.YtoejpngdkcnnhaaGreat
open Go.RowKit

theorem Lay.from {w0 w v : World} {b ib : Nat} {c : G.Cf} {nd : Int} {F : Nat → Prop} {jb : Nat → Nat} {m : Nat} (h : Lay w v b ib c nd F jb m) (hb : Below w0.heap.size w0 w) : Lay w0 v b ib c nd F jb m :=
  ⟨h.nb, h.ix, hb.trans (h.bl.mono hb.size), fun g hg => ⟨Nat.le_trans hb.size (h.hF g hg).1, (h.hF g hg).2⟩, Nat.le_trans hb.size h.hb, h.js, h.mono⟩
theorem Nx.begin {w0 w v : World} {b ib : Nat} {c : G.Cf} {nd : Int} {F : Nat → Prop} {jb : Nat → Nat} {O : Nat → Prop} (h : Lay w v b ib c nd F jb 40) (hw : Below w0.heap.size w0 w) (hO : ∀ g, O g → g < w.heap.size) : Nx w0 v b ib ⟨c, nd, 0, 0⟩ (.slice none 0 0) jb (fun _ => zjs) (I.newI (I.roomN c.i)) O := by
  have h1 := Nx.start h hO
  have h2 := h.from hw
  refine ⟨h1.nb, ?_, h1.js, h1.inj, h2.hb, h1.off⟩
  obtain ⟨⟨F', hI, hF⟩, bl, lt⟩ := h1.ix
  exact ⟨⟨F', hI, fun g hg => ⟨Nat.le_trans hw.size (hF g hg).1, (hF g hg).2⟩⟩, h2.bl, lt⟩
abbrev LB := List (Nat × Array Value × TypeId)
/-- The nic, and the law's own blocks. -/
structure Rf (w v : World) (b ib : Nat) (S : Nc) (cu : Value) (jb : Nat → Nat) (js : Nat → JS) (X : I.IS) (E : Nat → Prop) (L : LB) : Prop where
  nx : Nx w v b ib S cu jb js X (fun g => (∃ x ∈ L, g = x.1) ∨ E g)
  bk : ∀ x ∈ L, Bk v x.1 x.2.1 x.2.2
  lo : ∀ x ∈ L, w.heap.size ≤ x.1
section
variable {w v v' : World} {b ib : Nat} {S : Nc} {cu : Value} {jb : Nat → Nat} {js : Nat → JS} {X : I.IS} {E : Nat → Prop} {L L' : LB}
theorem Rf.bl (h : Rf w v b ib S cu jb js X E L) : Below w.heap.size w v := h.nx.bl
theorem Rf.at (h : Rf w v b ib S cu jb js X E L) {k : Nat} {cs : Array Value} {t : TypeId} (hx : (k, cs, t) ∈ L) : Bk v k cs t := h.bk _ hx
theorem Rf.next (h : Rf w v b ib S cu jb js X E L) (hb : Below v.heap.size v v') : Rf w v' b ib S cu jb js X E L :=
  ⟨h.nx.next hb, fun x hx => (h.bk x hx).next hb, h.lo⟩
theorem Rf.sub (h : Rf w v b ib S cu jb js X E L) (hs : ∀ x ∈ L', x ∈ L) : Rf w v b ib S cu jb js X E L' :=
  ⟨h.nx.less fun g hg => by
    rcases hg with ⟨x, hx, e⟩ | e
    · exact Or.inl ⟨x, hs x hx, e⟩
    · exact Or.inr e, fun x hx => h.bk x (hs x hx), fun x hx => h.lo x (hs x hx)⟩
theorem Rf.alloc (h : Rf w v b ib S cu jb js X E L) (cs : Array Value) (t : TypeId) : Rf w (v.alloc (.cells cs t)) b ib S cu jb js X E ((v.heap.size, cs, t) :: L) := by
  have hb : Below v.heap.size v (v.alloc (.cells cs t)) := (Below.refl _ _).alloc (Nat.le_refl _) _
  refine ⟨(h.nx.alloc (.cells cs t)).less fun g hg => ?_, fun x hx => ?_, fun x hx => ?_⟩
  · rcases hg with ⟨x, hx, e⟩ | e
    · rcases List.mem_cons.1 hx with rfl | hx
      · exact Or.inr e
      · exact Or.inl (Or.inl ⟨x, hx, e⟩)
    · exact Or.inl (Or.inr e)
  · rcases List.mem_cons.1 hx with rfl | hx
    · exact Bk.new v cs t
    · exact (h.bk x hx).next hb
  · rcases List.mem_cons.1 hx with rfl | hx
    · exact h.bl.size
    · exact h.lo x hx
theorem Rf.fresh (h : Rf w v b ib S cu jb js X E L) : ∀ x ∈ L, x.1 ≠ v.heap.size := fun x hx => Nat.ne_of_lt (h.bk x hx).lt
theorem Rf.add (h : Rf w v b ib S cu jb js X E L) (hb : Below v.heap.size v v') {k : Nat} {cs : Array Value} {t : TypeId} (hk : v.heap.size ≤ k) (hB : Bk v' k cs t) : Rf w v' b ib S cu jb js X E ((k, cs, t) :: L) := by
  refine ⟨h.nx.tn (T := fun _ => False) ((Tn.refl _ v).below hb) (fun _ c => c.elim) (fun g hg => ?_) rfl (h.nx.nb.next hb), fun x hx => ?_, fun x hx => ?_⟩
  · rcases hg with ⟨x, hx, e⟩ | e
    · rcases List.mem_cons.1 hx with rfl | hx
      · rw [e]; exact ⟨Or.inr hk, hB.lt⟩
      · rw [e]; exact ⟨Or.inl (Or.inl ⟨x, hx, rfl⟩), ((h.bk x hx).next hb).lt⟩
    · exact ⟨Or.inl (Or.inr e), Nat.lt_of_lt_of_le (h.nx.olt (Or.inr e)) hb.size⟩
  · rcases List.mem_cons.1 hx with rfl | hx
    · exact hB
    · exact (h.bk x hx).next hb
  · rcases List.mem_cons.1 hx with rfl | hx
    · exact Nat.le_trans h.bl.size hk
    · exact h.lo x hx
theorem Rf.set {k : Nat} {cs : Array Value} {t : TypeId} (h : Rf w v b ib S cu jb js X E ((k, cs, t) :: L)) (hd : ∀ x ∈ L, x.1 ≠ k) (j : Nat) (u : Value) : Rf w (v.setCell ⟨k, j, none⟩ u) b ib S cu jb js X E ((k, cs.setIfInBounds j u, t) :: L) := by
  have hk : (k, cs, t) ∈ (k, cs, t) :: L := List.mem_cons_self
  have ho : (fun g => (∃ x ∈ (k, cs, t) :: L, g = x.1) ∨ E g) k := Or.inl ⟨_, hk, rfl⟩
  have hb := (h.nx.off k ho).1
  refine ⟨h.nx.tn (T := fun g => g = k) (Tn.set (T := fun g => g = k) (Tn.refl _ v) rfl u) (fun g hg => Or.inr ⟨by rw [hg]; exact ho, by rw [hg]; exact h.lo _ hk⟩) (fun g hg => ?_) rfl (h.nx.nb.far fun e => hb e.symm), fun x hx => ?_, fun x hx => ?_⟩
  · refine ⟨Or.inl ?_, ?_⟩
    · rcases hg with ⟨x, hx, e⟩ | e
      · rcases List.mem_cons.1 hx with rfl | hx
        · exact Or.inl ⟨_, hk, e⟩
        · exact Or.inl ⟨x, List.mem_cons_of_mem _ hx, e⟩
      · exact Or.inr e
    · have : g < v.heap.size := by
        rcases hg with ⟨x, hx, e⟩ | e
        · rcases List.mem_cons.1 hx with rfl | hx
          · rw [e]; exact (h.bk _ hk).lt
          · rw [e]; exact (h.bk x (List.mem_cons_of_mem _ hx)).lt
        · exact h.nx.olt (Or.inr e)
      simpa using this
  · rcases List.mem_cons.1 hx with rfl | hx
    · exact (h.bk _ hk).set j u
    · exact (h.bk x (List.mem_cons_of_mem _ hx)).far (hd x hx)
  · rcases List.mem_cons.1 hx with rfl | hx
    · exact h.lo (k, cs, t) hk
    · exact h.lo x (List.mem_cons_of_mem _ hx)
theorem Rf.kp {X' : I.IS} {js' : Nat → JS} (h : Rf w v b ib S cu jb js X E L) (h' : Nx w v' b ib S cu jb js' X' (fun g => (∃ x ∈ L, g = x.1) ∨ E g)) (hk : I.Kp (fun g => (∃ x ∈ L, g = x.1) ∨ E g) v v') : Rf w v' b ib S cu jb js' X' E L :=
  ⟨h', fun x hx => (h.bk x hx).ikp hk (Or.inl ⟨x, hx, rfl⟩), h.lo⟩
end
/-- The first parcel that is sent: where its first word lies. -/
theorem Rf.send {w v : World} {b ib : Nat} {S : Nc} {jb : Nat → Nat} {js : Nat → JS} {X : I.IS} {L : LB} (h : Rf w v b ib S (.slice none 0 0) jb js X (fun _ => False) L) (P : Pc) (a : Option Addr) (cap : Nat) (hl : P.hs.length ≤ 1000000) (hx : P.x.size ≤ maxLen) (hr : Rd v a (pc P.hs)) (h0 : sendE S P = 0)
    (hcl : 0 ≤ (G.cla S.c P.c).1 ∧ (G.cla S.c P.c).1 ≤ 8 ∧ 0 ≤ (G.cla S.c P.c).2 ∧ (G.cla S.c P.c).2 ≤ 8) (hst : 0 ≤ S.st ∧ S.st ≤ 1000000) (hlf : 0 ≤ S.lf ∧ S.lf ≤ 1000000) (hw1 : 1 ≤ P.ws.length) (hwl : P.ws.length ≤ 1000000) :
    Calls Tryz.prog 10 #[.pointer (some ⟨b, 0, none⟩), pcv P.s P.c (.slice a P.hs.length cap) P.x] v fun e v' => e = .returned (.int .i64 0) ∧ ∃ cu g cp h q mc, Rf w v' b ib { S with st := S.st + 1, lf := S.lf + (P.ws.length : Int) } cu jb js X (fun k => k = g ∨ k = h) L ∧ Nxt v' cu g 0 1 cp h q P.ws.length mc (lnR S P) (P.ws.getD 0 0) := by
  have hb := h.nx.nb.lt
  refine (send_ok h.nx.nb P.s P.c a cap P.x P.hs hl hx hr h0 hcl hst hlf hwl (OwnK.nil v v.heap.size _ _) hb (Nat.le_refl _) (by decide)).mono ?_
  rintro e v' ⟨rfl, cu, a', cap', n1, o1, c1, r1, q1, t1⟩
  obtain ⟨hh, q, rfl⟩ : ∃ h q, a' = some ⟨h, q, none⟩ := r1.at0 (by rw [vw_len]; exact hw1)
  obtain ⟨hq1, cs1, hq2⟩ := q1 _ rfl
  rcases o1.2 with ⟨_, hz⟩ | ⟨g, cap9, cur, e9, hg, hG, r1', r2', r3', r4'⟩
  · cases hz
  have hat : ∀ i u, ([.int .i64 (lnR S P), .slice (some ⟨hh, q, none⟩) P.ws.length cap'] : List Value)[i]? = some u → cur[i]? = some u := fun i u hi => by
    have e : ([] ++ [.int .i64 (lnR S P), .slice (some ⟨hh, q, none⟩) P.ws.length cap'] : List Value) = [.int .i64 (lnR S P), .slice (some ⟨hh, q, none⟩) P.ws.length cap'] := rfl
    rw [e] at r4'
    rw [← r4', List.getElem?_take] at hi
    split at hi
    · simpa using hi
    · cases hi
  have hBg : Bk v' g cur 82 := hG
  obtain ⟨g9, o9, e0, _, cw⟩ := r1 0 (.int .u64 ((P.ws.getD 0 0 : Nat) : Int)) (by
    unfold vw
    rw [List.getElem?_map, List.getD_eq_getElem?_getD, List.getElem?_eq_getElem (show 0 < P.ws.length by omega)]
    rfl)
  simp only [Option.some.injEq, Addr.mk.injEq] at e0
  obtain ⟨rfl, rfl, _⟩ := e0
  have hnT : ∀ k, k < v.heap.size → k ≠ b → v'.heap[k]? = v.heap[k]? := fun k hk hne => t1.block k hk fun c => by
    rcases c with c | c
    · exact hne c
    · cases c
  have off : ∀ x ∈ L, x.1 ≠ b := fun x hx => (h.nx.off x.1 (Or.inl ⟨x, hx, rfl⟩)).1
  refine ⟨rfl, cu, g, cap9, hh, q, cap', ⟨h.nx.tn t1 (fun k hk => ?_) (fun k hk => ?_) rfl n1, fun x hx => ?_, h.lo⟩, ⟨e9, Nat.le_refl _, r1', (hBg.cell 0).trans (hat 0 _ rfl), (hBg.cell 1).trans (hat 1 _ rfl), hw1, c1, cw⟩⟩
  · rcases hk with e | e
    · exact Or.inl e
    · cases e
  · rcases hk with ⟨x, hx, e⟩ | e | e
    · rw [e]; exact ⟨Or.inl (Or.inl ⟨x, hx, rfl⟩), Nat.lt_of_lt_of_le (h.bk x hx).lt t1.size⟩
    · rw [e]; exact ⟨Or.inr hg, hBg.lt⟩
    · rw [e]; exact ⟨Or.inr hq1, hq2.lt⟩
  · have := h.bk x hx
    unfold Bk at this ⊢
    rw [hnT _ (h.bk x hx).lt (off x hx)]
    exact this
theorem Nxt.far {w : World} {cu : Value} {g o n cap h q m mc : Nat} {l : Int} {W : Nat} {k j : Nat} {u : Value} (x : Nxt w cu g o n cap h q m mc l W) (hk : g ≠ k ∧ h ≠ k) : Nxt (w.setCell ⟨k, j, none⟩ u) cu g o n cap h q m mc l W :=
  ⟨x.cu, x.n1, x.nc, (World.cell?_of_block (Below.heap_setCell w ⟨k, j, none⟩ u g hk.1)).trans x.c0, (World.cell?_of_block (Below.heap_setCell w ⟨k, j, none⟩ u g hk.1)).trans x.c1, x.m1, x.mc, (World.cell?_of_block (Below.heap_setCell w ⟨k, j, none⟩ u h hk.2)).trans x.cw⟩
theorem Nxt.kp {w w' : World} {cu : Value} {g o n cap h q m mc : Nat} {l : Int} {W : Nat} {O : Nat → Prop} (x : Nxt w cu g o n cap h q m mc l W) (hk : I.Kp O w w') (hg : O g) (hh : O h) : Nxt w' cu g o n cap h q m mc l W :=
  ⟨x.cu, x.n1, x.nc, (World.cell?_of_block (hk.on g hg)).trans x.c0, (World.cell?_of_block (hk.on g hg)).trans x.c1, x.m1, x.mc, (World.cell?_of_block (hk.on h hh)).trans x.cw⟩
end Go.Proofs.YtoejpngdkcnnhaaGreat
