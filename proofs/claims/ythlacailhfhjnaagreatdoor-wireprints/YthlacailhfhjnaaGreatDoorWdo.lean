import Derived.Test.YthlacailhfhjnaaGreatDoorWdn
import Derived.Test.YthlacailhfhjnaaGreatDoorRgs
import Derived.Test.YthlacailhfhjnaaGreatDoorWco
namespace Go.Proofs.YthlacailhfhjnaaGreatDoor
open Go.RowKit Go.Lib
theorem cellsF_at (fs : List Fl) (j : Nat) (h : j < fs.length) : (cellsF fs)[j * 2]? = some (S (fs.getD j fl0).1) ∧ (cellsF fs)[j * 2 + 1]? = some (S (fs.getD j fl0).2) := by
  induction fs generalizing j with
  | nil => simp at h
  | cons f l ih =>
    cases j with
    | zero => simp [cellsF]
    | succ j =>
      have := ih j (by simpa using h)
      have e : cellsF (f :: l) = S f.1 :: S f.2 :: cellsF l := by simp [cellsF]
      rw [e, show (j + 1) * 2 = j * 2 + 1 + 1 by omega]
      simpa using this
theorem owns_fls {w : World} {p : Option Addr} {n c : Nat} {fs : List Fl} (h : w.ownsRow 0 35 2 (.slice p n c) fs.length (cellsF fs)) (hn : n = fs.length) : Fls w p n fs := by
  refine ⟨hn, fun h0 => ?_⟩
  rcases h.2 with ⟨e, q⟩ | ⟨g, cap, cur, e1, e2, e3, e4, e5, e6, e7⟩
  · injection e with a1 a2 a3; omega
  · injection e1 with a1 a2 a3
    subst a1
    refine ⟨g, 0, rfl, fun j hj => ?_⟩
    obtain ⟨h1, h2⟩ := cellsF_at fs j (by omega)
    have hc : ∀ i u, (cellsF fs)[i]? = some u → w.cell? ⟨g, i, none⟩ = some u := by
      intro i u hi
      rw [cell_of_row w g i _ 35 (0, 0) e3]
      rw [← e7, List.getElem?_take] at hi
      split at hi
      · simpa using hi
      · cases hi
    rw [Nat.zero_add]
    exact ⟨hc _ _ h1, hc _ _ h2⟩
def ms0 : Ms := ⟨[], [], [], []⟩
/-- Messages, one behind the other in memory. -/
def Mls (w : World) (a : Option Addr) (n : Nat) (ms : List Ms) : Prop :=
  n = ms.length ∧ (0 < n → ∃ p o, a = some ⟨p, o, none⟩ ∧ ∀ j, j < n → ∃ ha hc, w.cell? ⟨p, o + j * 4, none⟩ = some (S (ms.getD j ms0).m) ∧ w.cell? ⟨p, o + j * 4 + 1, none⟩ = some (S (ms.getD j ms0).p) ∧ w.cell? ⟨p, o + j * 4 + 2, none⟩ = some (.slice ha (ms.getD j ms0).hs.length hc) ∧ w.cell? ⟨p, o + j * 4 + 3, none⟩ = some (S (ms.getD j ms0).b) ∧ Fls w ha (ms.getD j ms0).hs.length (ms.getD j ms0).hs)
theorem Mls.below {w w' : World} {a : Option Addr} {n : Nat} {ms : List Ms} (h : Mls w a n ms) (hb : Below w.heap.size w w') : Mls w' a n ms := by
  refine ⟨h.1, fun hn => ?_⟩
  obtain ⟨p, o, e, hc⟩ := h.2 hn
  refine ⟨p, o, e, fun j hj => ?_⟩
  obtain ⟨ha, hcc, c0, c1, c2, c3, f⟩ := hc j hj
  have hp : p < w.heap.size := blk_lt c0
  exact ⟨ha, hcc, (hb.cell (by exact hp)).trans c0, (hb.cell (by exact hp)).trans c1, (hb.cell (by exact hp)).trans c2, (hb.cell (by exact hp)).trans c3, f.below hb⟩
theorem cellsM_at (l : List (Ms × Value)) (j : Nat) (h : j < l.length) : (cellsM l)[j * 4]? = some (S l[j].1.m) ∧ (cellsM l)[j * 4 + 1]? = some (S l[j].1.p) ∧ (cellsM l)[j * 4 + 2]? = some l[j].2 ∧ (cellsM l)[j * 4 + 3]? = some (S l[j].1.b) := by
  induction l generalizing j with
  | nil => simp at h
  | cons f l ih =>
    cases j with
    | zero => simp [cellsM]
    | succ j =>
      have := ih j (by simpa using h)
      have e : cellsM (f :: l) = S f.1.m :: S f.1.p :: f.2 :: S f.1.b :: cellsM l := by simp [cellsM]
      rw [e, show (j + 1) * 4 = j * 4 + 1 + 1 + 1 + 1 by omega]
      simpa using this
theorem MAt.mls {V : Value} {l : List (Ms × Value)} {M : Nat → Prop} {w : World} (h : MAt V l M w) : ∃ p c, V = .slice p (l.map (·.1)).length c ∧ Mls w p (l.map (·.1)).length (l.map (·.1)) := by
  rw [List.length_map]
  have hl : (l.map (·.1)).length = l.length := List.length_map _
  rcases h.row.2 with ⟨e, q⟩ | ⟨g, cap, cur, e1, e2, e3, e4, e5, e6, e7⟩
  · exact ⟨none, 0, by rw [e, q], by rw [hl], fun h0 => by omega⟩
  · refine ⟨some ⟨g, 0, none⟩, cap, e1, by rw [hl], fun _ => ⟨g, 0, rfl, fun j hj => ?_⟩⟩
    obtain ⟨h0, h1, h2, h3⟩ := cellsM_at l j hj
    have hc : ∀ i u, (cellsM l)[i]? = some u → w.cell? ⟨g, i, none⟩ = some u := by
      intro i u hi
      rw [cell_of_row w g i _ 24 (0, 0) e3]
      rw [← e7, List.getElem?_take] at hi
      split at hi
      · simpa using hi
      · cases hi
    have eg : (l.map (·.1)).getD j ms0 = l[j].1 := by simp [hj]
    rw [eg]
    have hx := h.hrow l[j] (List.getElem_mem hj)
    obtain ⟨ha, hcc, hv⟩ := owns_form hx
    rw [hv] at h2
    have hx2 := hx
    rw [hv] at hx2
    rw [Nat.zero_add]
    exact ⟨ha, hcc, hc _ _ h0, hc _ _ h1, hc _ _ h2, hc _ _ h3, owns_fls hx2 rfl⟩
set_option maxHeartbeats 8000000 in
set_option maxRecDepth 8000 in
theorem messages_eq (a1 a2 : Option Addr) (n c1 c2 : Nat) (ms : List Ms) (w : World) (h1 : Mls w a1 n ms) (h2 : Mls w a2 n ms) (hn : n ≤ 1000000000000) (hs : ∀ j, (ms.getD j ms0).hs.length ≤ 1000000000000) :
    Calls Tryz.prog 23 #[.slice a1 n c1, .slice a2 n c2] w fun e w' => e = .returned (.bool true) ∧ Below w.heap.size w w' := by
  have H1 := hide h1
  have H2 := hide h2
  clear h1 h2
  go_enter Tryz.func23, Tryz.ntmps23
  go_wp2
  go_loopw [5] (fun i wr => ∃ k : Nat, k ≤ n ∧ i = .int .i64 k ∧ Below w.heap.size w wr) (fun i _ => n - (Go.RowKit.intOf i).toNat)
  case atStart => exact ⟨0, by omega, rfl, Below.refl _ _⟩
  case round =>
    obtain ⟨k, hk, rfl, hb⟩ := hrel
    by_cases hlt : k < n
    · have hm1 := (unhide H1).below hb
      have hm2 := (unhide H2).below hb
      obtain ⟨p1, q1, rfl, f1⟩ := hm1.2 (by omega)
      obtain ⟨p2, q2, rfl, f2⟩ := hm2.2 (by omega)
      obtain ⟨b1, d1, x0, x1, x2, x3, x4⟩ := f1 k hlt
      obtain ⟨b2, d2, y0, y1, y2, y3, y4⟩ := f2 k hlt
      have hsk := hs k
      generalize ms.getD k ms0 = F at *
      obtain ⟨fm, fp, fh, fb⟩ := F
      simp only at x0 x1 x2 x3 x4 y0 y1 y2 y3 y4 hsk
      have hlt' : (k : Int) < (n : Int) := by omega
      have HX := hide (And.intro x0 (And.intro x1 (And.intro x2 (And.intro x3 x4))))
      have HY := hide (And.intro y0 (And.intro y1 (And.intro y2 (And.intro y3 y4))))
      have HB := hide hb
      clear hb x0 x1 x2 x3 x4 y0 y1 y2 y3 y4 hm1 hm2 f1 f2
      go_wp2
      obtain ⟨x0, x1, x2, x3, x4⟩ := unhide HX
      obtain ⟨y0, y1, y2, y3, y4⟩ := unhide HY
      refine rms p1 q1 p2 q2 n c1 c2 k fh.length d1 d2 b1 b2 fm fp fb rfl rfl rfl _ _ (show 27 ≤ 29 from by decide) rfl rfl rfl (fun _ W => Below wr.heap.size wr W) ((Below.refl _ _).drew) (fun _ _ _ _ h => h) hlt hlt ?_ ?_ ?_ ?_
      · exact fun L W h => ⟨(h.cell (by exact blk_lt x0)).trans x0, (h.cell (by exact blk_lt x0)).trans x1, (h.cell (by exact blk_lt x0)).trans x2, (h.cell (by exact blk_lt x0)).trans x3⟩
      · exact fun L W h => ⟨(h.cell (by exact blk_lt y0)).trans y0, (h.cell (by exact blk_lt y0)).trans y1, (h.cell (by exact blk_lt y0)).trans y2, (h.cell (by exact blk_lt y0)).trans y3⟩
      · intro L W h _
        refine (sameMessage_eq b1 b2 fh.length d1 d2 fh fm fp fb W (x4.below h) (y4.below h) hsk).mono ?_
        rintro e w' ⟨rfl, hb⟩
        exact ⟨rfl, h.trans (hb.mono h.size)⟩
      intro L W _ h
      have HB2 := hide ((unhide HB).trans (h.mono (unhide HB).size))
      clear h x0 x1 x2 x3 x4 y0 y1 y2 y3 y4
      simp only [Act.put, List.setIfInBounds_toArray, List.set_cons_succ, List.set_cons_zero]
      go_wp2
      go_roundw
      case rel => exact ⟨k + 1, by omega, by go_num, unhide HB2⟩
      case measure => simp [Go.RowKit.intOf]; omega
    · have hd : decide (k < n) = false := by simp; omega
      have HB := hide hb
      clear hb
      go_wp2
      go_ret
      exact ⟨rfl, unhide HB⟩
end Go.Proofs.YthlacailhfhjnaaGreatDoor
