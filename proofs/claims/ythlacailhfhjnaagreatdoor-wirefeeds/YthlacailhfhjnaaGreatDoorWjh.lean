import Derived.Test.YthlacailhfhjnaaGreatDoorWje
namespace Go.Proofs.YthlacailhfhjnaaGreatDoor
open Go.RowKit Go.Lib
/-- Between two lists of takes. -/
structure Tks (Z : Nat) (xs ys us zs : List Value) (fr wa mm mw : Value) (l l2 : List (Ms × Value)) (w : World) (k : Nat) (W : World) : Prop where
  ex : ∃ fr' wa', BkM Z (xs ++ (l.take k).map (·.2)) (ys ++ (l2.take k).map (·.2)) us zs fr' wa' mm mw W ∧ (∀ k, fr'.ownBlock = some k → fr.ownBlock = some k ∨ w.heap.size ≤ k) ∧ (∀ k, wa'.ownBlock = some k → wa.ownBlock = some k ∨ w.heap.size ≤ k)
  only : Only (fun k => k = Z ∨ fr.ownBlock = some k ∨ wa.ownBlock = some k) w W
def WdT (wr : World) (P : World → Prop) (_ : Unit) (L : Nat → Bool) (W : World) : Prop := (L 11 = false ∧ Below wr.heap.size wr W) ∨ (L 11 = true ∧ L 5 = true ∧ L 10 = true ∧ P W)
theorem WdT.pure {wr : World} {P : World → Prop} {L : Nat → Bool} {W : World} (h : WdT wr P () L W) (x : Nat) (hx : x ≠ 11) : WdT wr P () (upd L x) W := by
  rcases h with ⟨h1, h2⟩ | ⟨h1, h2, h3, h4⟩
  · exact .inl ⟨(upd_ne (Ne.symm hx)).trans h1, h2⟩
  · exact .inr ⟨upd_mono h1, upd_mono h2, upd_mono h3, h4⟩
theorem take_one {α : Type} (l : List α) (k : Nat) (h : k < l.length) : l.take (k + 1) = l.take k ++ [l[k]] := by
  rw [List.take_succ_eq_append_getElem h]
set_option maxHeartbeats 16000000 in
set_option maxRecDepth 8000 in
theorem takes_any (Z : Nat) (xs ys us zs : List Value) (fr wa mm mw : Value) (p1 p2 : Option Addr) (n c1 c2 : Nat) (l l2 : List (Ms × Value)) (M M2 : Nat → Prop) (w : World) (h : BkM Z xs ys us zs fr wa mm mw w)
    (m1 : MAt (.slice p1 n c1) l M w) (m2 : MAt (.slice p2 n c2) l2 M2 w) (hl : l.length = n) (hl2 : l2.length = n) (hx : xs.length + n ≤ 10000000000) (hy : ys.length + n ≤ 10000000000) (hu : us.length ≤ 10000000000) (hz : zs.length ≤ 10000000000) :
    Calls Tryz.prog 24 #[.pointer (some ⟨Z, 0, none⟩), .slice p1 n c1, .slice p2 n c2] w fun e w' => e = .returned (.tuple #[]) ∧ ∃ fr' wa' mm' mw', BkM Z (xs ++ l.map (·.2)) (ys ++ l2.map (·.2)) (us ++ [.slice p1 n c1]) (zs ++ [.slice p2 n c2]) fr' wa' mm' mw' w' ∧ Only (bkb Z fr wa mm mw) w w' ∧ (∀ k, bkb Z fr' wa' mm' mw' k → bkb Z fr wa mm mw k ∨ w.heap.size ≤ k) := by
  have HT0 := hide (show Tks Z xs ys us zs fr wa mm mw l l2 w 0 w from ⟨⟨fr, wa, by simpa using h, fun k q => .inl q, fun k q => .inl q⟩, Only.refl _ _⟩)
  have HM := hide (And.intro m1 m2)
  have HH := hide h
  have HL := hide (And.intro hl hl2)
  clear h m1 m2 hl hl2
  go_enter Tryz.func24, Tryz.ntmps24
  go_wp2
  go_loopw [6] (fun x wr => ∃ k : Nat, k ≤ n ∧ x = .int .i64 k ∧ Tks Z xs ys us zs fr wa mm mw l l2 w k wr) (fun x _ => n - (Go.RowKit.intOf x).toNat)
  case atStart => exact ⟨0, by omega, rfl, unhide HT0⟩
  case round =>
  clear HT0
  obtain ⟨k, hk, rfl, ht⟩ := hrel
  by_cases hlt : k < n
  · have hlt' : (k : Int) < (n : Int) := by omega
    obtain ⟨hl, hl2⟩ := unhide HL
    obtain ⟨m1, m2⟩ := unhide HM
    -- where the messages lie
    obtain ⟨g, hg⟩ : ∃ g, p1 = some ⟨g, 0, none⟩ := by
      rcases m1.row.2 with ⟨e, q⟩ | ⟨g, cap, cur, e1, _⟩
      · omega
      · injection e1 with a1; exact ⟨g, a1⟩
    obtain ⟨g2, hg2⟩ : ∃ g, p2 = some ⟨g, 0, none⟩ := by
      rcases m2.row.2 with ⟨e, q⟩ | ⟨g, cap, cur, e1, _⟩
      · omega
      · injection e1 with a1; exact ⟨g, a1⟩
    subst hg hg2
    have hadd : ∀ g i, (⟨g, 0, none⟩ : Addr).add i = ⟨g, i, none⟩ := fun g i => by unfold Addr.add; split <;> simp_all
    have hkl : k < l.length := by omega
    have hkl2 : k < l2.length := by omega
    have d1 : w.cell? ⟨g, k * 4 + 2, none⟩ = some l[k].2 := by
      have := World.ownsRow.cells m1.row (g := g) rfl _ _ (cellsM_at l k hkl).2.2.1
      rwa [hadd] at this
    have d2 : w.cell? ⟨g2, k * 4 + 2, none⟩ = some l2[k].2 := by
      have := World.ownsRow.cells m2.row (g := g2) rfl _ _ (cellsM_at l2 k hkl2).2.2.1
      rwa [hadd] at this
    obtain ⟨cs1, k1⟩ := owns_kind m1.row g rfl
    obtain ⟨cs2, k2⟩ := owns_kind m2.row g2 rfl
    have hb := unhide HH
    have off : ∀ (q : Nat) (cs : Array Value), w.heap[q]? = some (.cells cs 24 (0, 0)) → ¬ (q = Z ∨ fr.ownBlock = some q ∨ wa.ownBlock = some q) := by
      rintro q cs e (rfl | r | r)
      · exact kind_ne e hb.blk (by decide) rfl
      · obtain ⟨c, e2⟩ := owns_kind hb.f q r; exact kind_ne e e2 (by decide) rfl
      · obtain ⟨c, e2⟩ := owns_kind hb.a q r; exact kind_ne e e2 (by decide) rfl
    have e1 : wr.cell? ⟨g, k * 4 + 2, none⟩ = some l[k].2 := (World.cell?_of_block (ht.only.block g (lt_of_row k1) (off g cs1 k1))).trans d1
    have e2 : wr.cell? ⟨g2, k * 4 + 2, none⟩ = some l2[k].2 := (World.cell?_of_block (ht.only.block g2 (lt_of_row k2) (off g2 cs2 k2))).trans d2
    obtain ⟨pa, ca, hva⟩ := owns_form (m1.hrow l[k] (List.getElem_mem hkl))
    obtain ⟨pb, cb, hvb⟩ := owns_form (m2.hrow l2[k] (List.getElem_mem hkl2))
    have HNX := hide (show ∀ W W', Below wr.heap.size wr W → ∀ fr1 wa1, BkM Z (xs ++ (l.take k).map (·.2) ++ [l[k].2]) (ys ++ (l2.take k).map (·.2) ++ [l2[k].2]) us zs fr1 wa1 mm mw W' → ∀ fr0 wa0 : Value, (∀ k, fr0.ownBlock = some k → fr.ownBlock = some k ∨ w.heap.size ≤ k) → (∀ k, wa0.ownBlock = some k → wa.ownBlock = some k ∨ w.heap.size ≤ k) → Only (fun k => k = Z ∨ fr0.ownBlock = some k ∨ wa0.ownBlock = some k) W W' → (∀ k, fr1.ownBlock = some k → fr0.ownBlock = some k ∨ W.heap.size ≤ k) → (∀ k, wa1.ownBlock = some k → wa0.ownBlock = some k ∨ W.heap.size ≤ k) → Tks Z xs ys us zs fr wa mm mw l l2 w (k + 1) W' from fun W W' hbW fr1 wa1 hB fr0 wa0 a1 a2 hO b1 b2 => by
      have hwW : w.heap.size ≤ W.heap.size := Nat.le_trans ht.only.size hbW.size
      refine ⟨⟨fr1, wa1, ?_, fun k hk => ?_, fun k hk => ?_⟩, ?_⟩
      · rw [take_one l k hkl, take_one l2 k hkl2, List.map_append, List.map_append, List.map_singleton, List.map_singleton, ← List.append_assoc, ← List.append_assoc]
        exact hB
      · rcases b1 k hk with q | q
        · exact a1 k q
        · exact .inr (Nat.le_trans hwW q)
      · rcases b2 k hk with q | q
        · exact a2 k q
        · exact .inr (Nat.le_trans hwW q)
      · refine (ht.only.trans (Only.of_below (P := fun _ => False) hbW) (fun _ _ q => q.elim)).trans hO (fun k hk q => ?_)
        rcases q with q | q | q
        · exact .inl q
        · rcases a1 k q with r | r
          · exact .inr (.inl r)
          · omega
        · rcases a2 k q with r | r
          · exact .inr (.inr r)
          · omega)
    have HT := hide ht
    have hlk : ((l.take k).map (·.2)).length = k := by simp; omega
    have hlk2 : ((l2.take k).map (·.2)).length = k := by simp; omega
    have HLK := hide (And.intro hlk hlk2)
    clear ht off k1 k2 d1 d2 hb m1 m2 hl hl2 hlk hlk2 HM HH
    rw [hva] at e1 HNX
    rw [hvb] at e2 HNX
    generalize l[k].1.hs.length = na at *
    generalize l2[k].1.hs.length = nb at *
    clear hva hvb
    go_wp2_with fail
    refine rt3 Z g g2 n c1 c2 k (.slice pa na ca) (.slice pb nb cb) (by kernel_rfl) (by kernel_rfl) (by kernel_rfl) _ _ (by show 31 ≤ Array.size _; simp) rfl rfl rfl rfl (WdT wr (Tks Z xs ys us zs fr wa mm mw l l2 w (k + 1))) ⟨(), .inl ⟨rfl, (Below.refl _ _).drew⟩⟩ ?_ ?_ ?_ ?_ ?_ ?_ ?_
    · exact fun x hx _ L W hW => hW.pure x (by intro e; subst e; simp at hx)
    · exact fun W => s_ix54 g n c1 k hlt
    · intro _ L W hW h5 _
      rcases hW with ⟨_, h2⟩ | ⟨_, h2, _⟩
      · exact s_ld (fun w => Tryz.isAgg22 w) ((World.cell?_of_block (h2.block g (blk_lt e1))).trans e1)
      · rw [h5] at h2; cases h2
    · exact fun W => s_ix54 g2 n c2 k hlt
    · intro _ L W hW h5 _
      rcases hW with ⟨_, h2⟩ | ⟨_, _, h2, _⟩
      · exact s_ld (fun w => Tryz.isAgg22 w) ((World.cell?_of_block (h2.block g2 (blk_lt e2))).trans e2)
      · rw [h5] at h2; cases h2
    · intro _ L W hW h11 _ h5 h10
      rcases hW with ⟨_, h2⟩ | ⟨h1, _⟩
      · obtain ⟨fr0, wa0, hB, a1, a2⟩ := (unhide HT).ex
        obtain ⟨q1, q2⟩ := unhide HLK
        refine (bookFields2 Z _ _ us zs fr0 wa0 mm mw pa pb na ca nb cb W (hB.keep (Only.of_below (P := fun _ => False) h2) (fun _ _ q => q)) (by rw [List.length_append, q1]; omega) (by rw [List.length_append, q2]; omega)).mono ?_
        rintro e w2 ⟨rfl, fr1, wa1, hB1, hO, b1, b2⟩
        exact ⟨(), fun _ _ => rfl, rfl, .inr ⟨upd_eq, upd_mono h5, upd_mono h10, unhide HNX W w2 h2 fr1 wa1 hB1 fr0 wa0 a1 a2 hO b1 b2⟩⟩
      · rw [h11] at h1; cases h1
    intro _ L W hall hW
    have HN := hide (show Tks Z xs ys us zs fr wa mm mw l l2 w (k + 1) W from by
      rcases hW with ⟨h1, _⟩ | ⟨_, _, _, h3⟩
      · rw [hall 11 (by decide)] at h1; cases h1
      · exact h3)
    clear hW hall e1 e2 HNX HT HLK
    simp only [Act.put, List.setIfInBounds_toArray, List.set_cons_succ, List.set_cons_zero]
    go_wp2
    refine ⟨⟨k + 1, by omega, by go_num, unhide HN⟩, ?_⟩
    simp [Go.RowKit.intOf]; omega
  · have hkn : k = n := by omega
    subst hkn
    obtain ⟨hl, hl2⟩ := unhide HL
    obtain ⟨fr', wa', hB, a1, a2⟩ := ht.ex
    rw [List.take_of_length_le (by omega), List.take_of_length_le (by omega)] at hB
    have h5 : wr.cell? ⟨Z, 5, none⟩ = some mm := cell_of_row wr _ 5 _ 53 (0, 0) hB.blk
    have H := hide hB
    have HO := hide ht.only
    have HA := hide (And.intro a1 a2)
    have hd : decide (k < k) = false := by simp
    clear ht hB a1 a2 HM HH HL
    go_wp2_with (first
      | (at_builtin; refine wp_push54b rfl (.tmp 35) (.tmp 37) rfl (by rfl) (by rfl) (unhide H).m (by omega) ?_; intro q1 k1 w1 r1 r2 r3
         have e1 := (r2.block Z (lt_of_row (unhide H).blk) (fun q => by obtain ⟨c, e⟩ := owns_kind (unhide H).m Z q; exact kind_ne e (unhide H).blk (by decide) rfl)).trans (unhide H).blk
         have fz1 : w1.frozen? ⟨Z, 5, none⟩ = false := by simp [World.frozen?, e1]
         have g1 : w1.cell? ⟨Z, 6, none⟩ = some mw := cell_of_row w1 _ 6 _ 53 (0, 0) e1
         have g0 : w1.cell? ⟨Z, 5, none⟩ = some mm := cell_of_row w1 _ 5 _ 53 (0, 0) e1
         have HS := hide (show (w1.setCell ⟨Z, 5, none⟩ (.slice q1 (us.length + 1) k1)).heap.size = w1.heap.size by simp)
         have HP := hide ((unhide H).put5 r1 r2 r3)
         have HR3 := hide r3
         clear r1 r2 r3 e1)
      | (at_builtin; refine wp_push54b rfl (.tmp 45) (.tmp 47) rfl (by rfl) (by rw [unhide HS]; rfl) (unhide HP).1.n (by omega) ?_; intro q2 k2 w2 r1 r2 r3
         have e1 := (r2.block Z (lt_of_row (unhide HP).1.blk) (fun q => by obtain ⟨c, e⟩ := owns_kind (unhide HP).1.n Z q; exact kind_ne e (unhide HP).1.blk (by decide) rfl)).trans (unhide HP).1.blk
         have fz2 : w2.frozen? ⟨Z, 6, none⟩ = false := by simp [World.frozen?, e1]
         have g2 : w2.cell? ⟨Z, 6, none⟩ = some mw := cell_of_row w2 _ 6 _ 53 (0, 0) e1
         have HP2 := hide ((unhide HP).1.put6 r1 r2 r3)
         have HR4 := hide r3
         clear r1 r2 r3 e1)
      | fail)
    go_end0
    have hO := (unhide HP).2
    have hO2 := (unhide HP2).2
    have hsz := (unhide HO).size
    refine ⟨rfl, fr', wa', _, _, (unhide HP2).1, ?_, ?_⟩
    · refine ((unhide HO).mono (fun k _ q => ?_)).trans ((hO.mono (Q := bkb Z fr wa mm mw) (fun k _ q => ?_)).trans hO2 (fun k _ q => ?_)) (fun _ _ q => q)
      · rcases q with q | q | q
        · exact .inl q
        · exact .inr (.inl q)
        · exact .inr (.inr (.inl q))
      · rcases q with q | q
        · exact .inl q
        · exact .inr (.inr (.inr (.inl q)))
      · rcases q with q | q
        · exact .inl q
        · exact .inr (.inr (.inr (.inr q)))
    · rintro j (q | q | q | q | q)
      · exact .inl (.inl q)
      · exact ((unhide HA).1 j q).imp (fun q => .inr (.inl q)) id
      · exact ((unhide HA).2 j q).imp (fun q => .inr (.inr (.inl q))) id
      · rcases unhide HR3 j q with r | r
        · exact .inl (.inr (.inr (.inr (.inl r))))
        · exact .inr (Nat.le_trans hsz r)
      · rcases unhide HR4 j q with r | r
        · exact .inl (.inr (.inr (.inr (.inr r))))
        · exact .inr (Nat.le_trans hsz (Nat.le_trans hO.size r))
end Go.Proofs.YthlacailhfhjnaaGreatDoor
