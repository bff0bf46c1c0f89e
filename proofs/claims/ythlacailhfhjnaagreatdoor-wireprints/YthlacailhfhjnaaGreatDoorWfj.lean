import Derived.Test.YthlacailhfhjnaaGreatDoorWfi
namespace Go.Proofs.YthlacailhfhjnaaGreatDoor
open Go.RowKit Go.Lib
def over : Fl := ([111, 118, 101, 114], [])
/-- How far it is written over. -/
def ovr (l : List Fl) (k : Nat) : List Fl := List.replicate k over ++ l.drop k
theorem ovr_len (l : List Fl) (k : Nat) (h : k ≤ l.length) : (ovr l k).length = l.length := by simp [ovr]; omega
theorem ovr_at (l : List Fl) (k : Nat) : (ovr l k).getD k fl0 = l.getD k fl0 := by
  unfold ovr
  rw [List.getD_eq_getElem?_getD, List.getElem?_append_right (by simp), List.getElem?_drop, List.getD_eq_getElem?_getD]
  simp
theorem ovr_set (l : List Fl) (k : Nat) (h : k < l.length) : (ovr l k).set k over = ovr l (k + 1) := by
  unfold ovr
  rw [List.set_append, if_neg (by simp)]
  simp only [List.length_replicate, Nat.sub_self]
  rw [List.drop_eq_getElem_cons h, List.set_cons_zero, List.replicate_succ', List.append_assoc]
  rfl
theorem cellsF_set2 (fs : List Fl) (k : Nat) (f : Fl) (h : k < fs.length) : ((cellsF fs).set (k * 2) (S f.1)).set (k * 2 + 1) (S f.2) = cellsF (fs.set k f) := by
  induction fs generalizing k with
  | nil => simp at h
  | cons g l ih =>
    have e : ∀ (g : Fl) (l : List Fl), cellsF (g :: l) = S g.1 :: S g.2 :: cellsF l := fun g l => by simp [cellsF]
    cases k with
    | zero => simp [cellsF]
    | succ k =>
      rw [e, show (k + 1) * 2 = k * 2 + 1 + 1 by omega, List.set_cons_succ, List.set_cons_succ, List.set_cons_succ, List.set_cons_succ, ih k (by simpa using h), List.set_cons_succ, e]
theorem Blk.set2 {g : Nat} {fs : List Fl} {w : World} (h : Blk g fs w) (k : Nat) (hk : k < fs.length) (f : Fl) : Blk g (fs.set k f) ((w.setCell ⟨g, k * 2, none⟩ (S f.1)).setCell ⟨g, k * 2 + 1, none⟩ (S f.2)) := by
  unfold Blk
  have q := heap_setCell_same w g (k * 2) _ 35 (S f.1) h
  rw [heap_setCell_same _ g (k * 2 + 1) _ 35 _ q, ← cellsF_set2 fs k f hk]
  simp
theorem mid_lo (fs : List Fl) (k : Nat) (h : k < fs.length) : (mid fs 4).getD k fl0 = fs.getD k fl0 := by
  unfold mid
  rw [List.getD_eq_getElem?_getD, List.getElem?_append_left h, List.getD_eq_getElem?_getD]
theorem mid_hi (fs : List Fl) (k : Nat) (h1 : fs.length ≤ k) (h2 : k < fs.length + 4) : (mid fs 4).getD k fl0 = spare := by
  obtain ⟨j, rfl⟩ : ∃ j, k = fs.length + j := ⟨k - fs.length, by omega⟩
  unfold mid
  rw [List.getD_eq_getElem?_getD, List.getElem?_append_right (by omega), Nat.add_sub_cancel_left]
  rcases (by omega : j = 0 ∨ j = 1 ∨ j = 2 ∨ j = 3) with rfl | rfl | rfl | rfl <;> rfl
set_option maxHeartbeats 8000000 in
set_option maxRecDepth 8000 in
theorem kept_any (g : Nat) (a : Option Addr) (cap : Nat) (fs : List Fl) (w0 w : World) (hb : Blk g (mid fs 4) w) (hp : Fls w0 a fs.length fs) (h0 : Below w0.heap.size w0 w) (hg : w0.heap.size ≤ g) (hn : fs.length ≤ 100000000000) :
    Calls Tryz.prog 42 #[.slice (some ⟨g, 0, none⟩) (fs.length + 4) (fs.length + 4), .slice a fs.length cap] w fun e w' => e = .returned (.bool true) ∧ Only (fun k => k = g) w w' := by
  have HB := hide hb
  have HP := hide (And.intro hp h0)
  clear hb hp h0
  have hml := mid_len fs 4 (Nat.le_refl _)
  go_enter Tryz.func42, Tryz.ntmps42
  go_wp2
  go_loopw [5, 6] (fun c i wr => ∃ k : Nat, k ≤ fs.length + 4 ∧ i = .int .i64 k ∧ c = .bool true ∧ Blk g (ovr (mid fs 4) k) wr ∧ Only (fun k => k = g) w wr) (fun _ i _ => fs.length + 4 - (Go.RowKit.intOf i).toNat)
  case atStart => exact ⟨0, by omega, rfl, rfl, by simpa [ovr] using unhide HB, Only.refl _ _⟩
  case round =>
    obtain ⟨k, hk, rfl, rfl, hbk, ho⟩ := hrel
    clear HB
    by_cases hlt : k < fs.length + 4
    · have hlt' : (k : Int) < (fs.length : Int) + 4 := by omega
      have hol : (ovr (mid fs 4) k).length = fs.length + 4 := by rw [ovr_len _ _ (by omega), hml]
      obtain ⟨p, o, e, _, hc0, hc1⟩ := hbk.fls.at (j := k) (by omega)
      simp only [Option.some.injEq, Addr.mk.injEq, and_true] at e
      obtain ⟨rfl, rfl⟩ := e
      rw [Nat.zero_add, ovr_at _ _] at hc0 hc1
      have HBK := hide hbk
      have HOO := hide ho
      have hbel : Below w0.heap.size w0 wr := ho.below (unhide HP).2 (unhide HP).2.size (fun j hj => by subst hj; exact hg)
      by_cases hkn : k < fs.length
      · have hkn' : (k : Int) < (fs.length : Int) := by omega
        rw [mid_lo _ _ hkn] at hc0 hc1
        obtain ⟨p2, o2, rfl, _, g0, g1⟩ := ((unhide HP).1.below hbel).at hkn
        generalize fs.getD k fl0 = F at *
        obtain ⟨fn, fv⟩ := F
        simp only at hc0 hc1 g0 g1
        clear hbk ho hbel
        have hd1 : decide ((k : Int) < (fs.length : Int)) = true := by simp; omega
        have hd2 : decide ((fs.length : Int) ≤ (k : Int)) = false := by simp; omega
        have hd3 : decide (k < fs.length) = true := by simp; omega
        have hd4 : decide (fs.length ≤ k) = false := by simp; omega
        go_wp2_with fail
        go_quiet (fail)
        clear hc0 hc1 g0 g1
        have hbv := (unhide HBK).keep (below_dN (Below.refl _ _) nq)
        have hov := (unhide HOO).trans (Only.drewN (fun k => k = g) wr nq) (fun _ _ q => q)
        generalize wr.drewN nq = wv at *
        obtain ⟨p3, o3, e, _, c0, c1⟩ := hbv.fls.at (j := k) (by omega)
        simp only [Option.some.injEq, Addr.mk.injEq, and_true] at e
        obtain ⟨rfl, rfl⟩ := e
        rw [Nat.zero_add] at c0 c1
        have hz : ∀ j, wv.frozen? ⟨g, j, none⟩ = false := fun j => frozen_of_heap hbv j
        have hset := hbv.set2 k (by omega) over
        rw [ovr_set _ _ (by omega)] at hset
        have HS := hide hset
        have HO := hide ((hov.put ⟨g, k * 2, none⟩ (S over.1) (.inl rfl)).put ⟨g, k * 2 + 1, none⟩ (S over.2) (.inl rfl))
        generalize (ovr (mid fs 4) k).getD k fl0 = G at *
        clear hset hbv hov HBK HOO hd1 hd2 hd3 hd4
        go_wp2
        exact ⟨⟨k + 1, by omega, by go_num, rfl, unhide HS, unhide HO⟩, by simp [Go.RowKit.intOf]; omega⟩
      · have hkn' : ¬ (k : Int) < (fs.length : Int) := by omega
        rw [mid_hi _ _ (by omega) hlt] at hc0 hc1
        have g0 : wr.cell? ⟨g, k * 2, none⟩ = some (S [115, 112, 97, 114, 101]) := hc0
        have g1 : wr.cell? ⟨g, k * 2 + 1, none⟩ = some (S []) := hc1
        clear hbk ho hbel hc0 hc1
        have hd1 : decide ((k : Int) < (fs.length : Int)) = false := by simp; omega
        have hd2 : decide ((fs.length : Int) ≤ (k : Int)) = true := by simp; omega
        have hd3 : decide (k < fs.length) = false := by simp; omega
        have hd4 : decide (fs.length ≤ k) = true := by simp; omega
        go_wp2_with fail
        go_quiet (fail)
        clear g0 g1
        have hbv := (unhide HBK).keep (below_dN (Below.refl _ _) nq)
        have hov := (unhide HOO).trans (Only.drewN (fun k => k = g) wr nq) (fun _ _ q => q)
        generalize wr.drewN nq = wv at *
        obtain ⟨p3, o3, e, _, c0, c1⟩ := hbv.fls.at (j := k) (by omega)
        simp only [Option.some.injEq, Addr.mk.injEq, and_true] at e
        obtain ⟨rfl, rfl⟩ := e
        rw [Nat.zero_add] at c0 c1
        have hz : ∀ j, wv.frozen? ⟨g, j, none⟩ = false := fun j => frozen_of_heap hbv j
        have hset := hbv.set2 k (by omega) over
        rw [ovr_set _ _ (by omega)] at hset
        have HS := hide hset
        have HO := hide ((hov.put ⟨g, k * 2, none⟩ (S over.1) (.inl rfl)).put ⟨g, k * 2 + 1, none⟩ (S over.2) (.inl rfl))
        generalize (ovr (mid fs 4) k).getD k fl0 = G at *
        clear hset hbv hov HBK HOO hd1 hd2 hd3 hd4
        go_wp2
        exact ⟨⟨k + 1, by omega, by go_num, rfl, unhide HS, unhide HO⟩, by simp [Go.RowKit.intOf]; omega⟩
    · have hd : decide ((k : Int) < (fs.length : Int) + 4) = false := by simp; omega
      have HO := hide ho
      clear ho hbk
      go_wp2
      go_ret
      exact ⟨rfl, unhide HO⟩
end Go.Proofs.YthlacailhfhjnaaGreatDoor
