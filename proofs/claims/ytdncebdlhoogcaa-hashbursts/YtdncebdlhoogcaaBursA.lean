import Derived.Test.YtdncebdlhoogcaaBurs
import Derived.Test.YtdncebdlhoogcaaKeysB
import Derived.Test.YtdncebdlhoogcaaAffnA
namespace Go.Proofs.Ytdncebdlhoogcaa
open Go.RowKit
open Sha
def bx (t tu : List UInt8) (f k : Nat) : List UInt8 := (List.range t.length).map fun i => if f ≤ i ∧ i < f + k then (t.getD i 0) ^^^ (tu.getD (i - f) 0) else t.getD i 0
theorem bx_len (t tu : List UInt8) (f k : Nat) : (bx t tu f k).length = t.length := by simp [bx]
theorem bx_zero (t tu : List UInt8) (f : Nat) : bx t tu f 0 = t := by
  apply List.ext_getElem
  · simp [bx]
  · intro i h1 h2
    have : ¬ (f ≤ i ∧ i < f + 0) := by omega
    simp only [bx, List.getElem_map, List.getElem_range, if_neg this]
    simp [h2]
theorem bx_next (t tu : List UInt8) (f k : Nat) (h : f + k < t.length) : bx t tu f (k + 1) = (bx t tu f k).set (f + k) ((t.getD (f + k) 0) ^^^ (tu.getD k 0)) := by
  apply List.ext_getElem?
  intro i
  rw [List.getElem?_set]
  by_cases hi : i < t.length
  · by_cases e : f + k = i
    · subst e; simp [bx, h]
    · have : (f ≤ i ∧ i < f + (k + 1)) = (f ≤ i ∧ i < f + k) := by simp; omega
      simp [bx, hi, e, this]
  · simp [bx, hi]; omega
theorem bx_at (t tu : List UInt8) (f k : Nat) (h : f + k < t.length) : (bx t tu f k).getD (f + k) 0 = t.getD (f + k) 0 := by
  simp [bx, h]
theorem bx_crc (t tu : List UInt8) (f k : Nat) (h : f + k ≤ t.length) (hk : k ≤ 4) : crc (bx t tu f k) = crc t → bx t tu f k = t := by
  intro hc
  have hl := bx_len t tu f k
  have get : ∀ i, i < t.length → (i < f ∨ f + k ≤ i) → (bx t tu f k)[i]? = t[i]? := by
    intro i hi ho
    have : ¬ (f ≤ i ∧ i < f + k) := by omega
    simp [bx, hi, this]
  generalize bx t tu f k = X at *
  have parts : ∀ L : List UInt8, L = L.take f ++ (L.drop f).take k ++ L.drop (f + k) := by
    intro L
    rw [← List.take_add, List.take_append_drop]
  have e1 : X.take f = t.take f := by
    apply List.ext_getElem
    · simp [hl]
    · intro i h1 h2
      simp at h1 h2
      have := get i (by omega) (.inl (by omega))
      rw [List.getElem?_eq_getElem (by omega), List.getElem?_eq_getElem (by omega)] at this
      simpa using this
  have e2 : X.drop (f + k) = t.drop (f + k) := by
    apply List.ext_getElem
    · simp [hl]
    · intro i h1 h2
      simp at h1 h2
      have := get (f + k + i) (by omega) (.inr (by omega))
      rw [List.getElem?_eq_getElem (by omega), List.getElem?_eq_getElem (by omega)] at this
      simpa using this
  rw [parts X, parts t, e1, e2] at hc ⊢
  have := burst (t.take f) ((X.drop f).take k) ((t.drop f).take k) (t.drop (f + k)) (by simp [hl]) (by simp; omega) hc
  rw [this]
theorem bx_end (X t : List UInt8) (h : crc X = crc t → X = t) : ((u (crc X) == u (crc t)) == (X == t)) = true := by
  by_cases e : X = t
  · subst e; simp
  · have h1 : (X == t) = false := by simpa using e
    have h2 : (u (crc X) == u (crc t)) = false := by
      apply beq_eq_false_iff_ne.2
      intro q
      refine e (h ?_)
      unfold u at q
      exact UInt32.toNat_inj.1 (by exact_mod_cast q)
    rw [h1, h2]; rfl
structure BI (w wr : World) (g : Nat) (X : List UInt8) (tu : List UInt8) : Prop where
  cell : ∀ j, j < X.length → wr.cell? ⟨g, j, none⟩ = some (.int .u8 ((X.getD j 0).toNat : Int))
  fro : ∀ j, j < X.length → wr.frozen? ⟨g, j, none⟩ = false
  box : ∀ j, j < 4 → wr.cell? ⟨w.heap.size, j, none⟩ = some (.int .u8 ((tu.getD j 0).toNat : Int))
  be : Below w.heap.size w wr
  hg : w.heap.size < g
  lt : g < wr.heap.size
theorem BI.set {w wr : World} {g : Nat} {X tu : List UInt8} (h : BI w wr g X tu) (j : Nat) (c : UInt8) : BI w (wr.setCell ⟨g, j, none⟩ (.int .u8 (c.toNat : Int))).drew g (X.set j c) tu := by
  refine ⟨?_, ?_, ?_, (h.be.setCell (Nat.le_of_lt h.hg) _).drew, h.hg, by simpa [World.setCell] using h.lt⟩
  · intro i hi
    simp at hi
    show (wr.setCell ⟨g, j, none⟩ _).cell? _ = _
    by_cases e : j = i
    · subst e
      rw [World.cell?_setCell_same _ _ _ (h.cell j hi)]
      simp [hi]
    · rw [World.cell?_setCell_other _ _ _ _ (by simp), h.cell i hi]
      simp [e]
  · intro i hi
    simp at hi
    show (wr.setCell ⟨g, j, none⟩ _).frozen? _ = _
    rw [World.frozen?_setCell]
    exact h.fro i hi
  · intro i hi
    show (wr.setCell ⟨g, j, none⟩ _).cell? _ = _
    rw [World.cell?_setCell_other _ _ _ _ (by have := h.hg; simp <;> omega)]
    exact h.box i hi
set_option maxHeartbeats 1000000 in
set_option maxRecDepth 8000 in
theorem bursts_walk (t : List UInt8) (at_ : Int) (y0 y1 y2 y3 : UInt8) (w : World) (ht : t.length ≤ 140737488351232) (c0 : -9223372036854775808 ≤ at_) (c1 : at_ ≤ 9223372036854775807) :
    Calls Try.prog 9 #[.string ⟨t.toArray⟩, .int .i64 at_, .agg #[.int .u8 (y0.toNat : Int), .int .u8 (y1.toNat : Int), .int .u8 (y2.toNat : Int), .int .u8 (y3.toNat : Int)]] w fun e w' => e = .returned (.bool true) ∧ Below w.heap.size w w' := by
  obtain ⟨tu, htu⟩ : ∃ tu, tu = [y0, y1, y2, y3] := ⟨_, rfl⟩
  go_enter Try.func9, Try.ntmps9
  go_wp2_with fail
  have hr0 := Row.new w #[.int .u8 (y0.toNat : Int), .int .u8 (y1.toNat : Int), .int .u8 (y2.toNat : Int), .int .u8 (y3.toNat : Int)] 53
  have hb0 := alloc_below w (.cells #[.int .u8 (y0.toNat : Int), .int .u8 (y1.toNat : Int), .int .u8 (y2.toNat : Int), .int .u8 (y3.toNat : Int)] 53)
  generalize hw0 : w.alloc (.cells #[.int .u8 (y0.toNat : Int), .int .u8 (y1.toNat : Int), .int .u8 (y2.toNat : Int), .int .u8 (y3.toNat : Int)] 53) = w0 at *
  have hs0 : w.heap.size < w0.heap.size := hr0.lt
  clear hw0
  refine (known_any w0).mono ?_
  rintro e w1 ⟨rfl, hb1⟩
  have hr1 := hr0.below hb1 hs0
  go_wp2_with (refine wpList_bytes rfl (.tmp 13) rfl t (by rfl) ?_; intro w2 cap hcell hfro hb2 hlt)
  have hr2 := hr1.below hb2 hr1.lt
  have hI0 : BI w w2 w1.heap.size t tu := ⟨hcell, hfro, fun j hj => by
      rw [hr2.cell j, htu]
      match j, hj with
      | 0, _ => rfl
      | 1, _ => rfl
      | 2, _ => rfl
      | 3, _ => rfl, (hb0.trans (hb1.mono (Nat.le_of_lt hs0))).trans (hb2.mono (Nat.le_trans (Nat.le_of_lt hs0) hb1.size)), Nat.lt_of_lt_of_le hs0 hb1.size, hlt⟩
  have HI0 := hide hI0
  have HTU := hide htu
  generalize w1.heap.size = g at *
  clear hcell hfro hb2 hlt hr2 hr1 hr0 hb0 hb1 hs0 hI0 htu
  refine (pick_any at_ _ _ c0 c1 (by omega) (by omega)).mono ?_
  rintro e wx ⟨f, hf, rfl, rfl⟩
  have hf1 : f ≤ t.length := by omega
  clear hf c0 c1
  go_wp2
  go_loopw [10] (fun i wr => ∃ k : Nat, k ≤ 4 ∧ f + k ≤ t.length ∧ i = .int .i64 k ∧ BI w wr g (bx t tu f k) tu) (fun i _ => 4 - (intOf i).toNat)
  case atStart => exact ⟨0, by omega, by omega, rfl, by rw [bx_zero]; exact unhide HI0⟩
  case round =>
    clear HI0
    obtain ⟨k, hk, hkf, rfl, hI⟩ := hrel
    by_cases hlt : k < 4 ∧ f + k < t.length
    · obtain ⟨h4, hfk⟩ := hlt
      have x0 := hI.cell (f + k) (by rw [bx_len]; exact hfk)
      have z0 := hI.fro (f + k) (by rw [bx_len]; exact hfk)
      have x1 := hI.box k h4
      rw [bx_at t tu f k hfk] at x0
      have HI := hide hI
      clear hI
      go_wp2
      go_region
      all_goals (go_wp2; go_roundw)
      case rel =>
        refine ⟨k + 1, by omega, by omega, by go_num, ?_⟩
        rw [bx_next t tu f k hfk]
        have := (unhide HI).set (f + k) ((t.getD (f + k) 0) ^^^ (tu.getD k 0))
        rw [show bits BinOp.xor IntKind.u8 (t[f + k].toNat : Int) ((tu[k]?.getD 0).toNat : Int) = (((t.getD (f + k) 0) ^^^ (tu.getD k 0)).toNat : Int) from by rw [u8_xor_C]; simp [hfk]]
        exact this
      case measure => simp [intOf]; omega
    · have hX := bx_crc t tu f k hkf hk
      have hL := bx_len t tu f k
      have HC := hide (run_text wr g 0 t.length cap (bx t tu f k) hL (fun j hj => by rw [Nat.zero_add, hI.cell j (by omega)]))
      have hbe := hI.be
      generalize bx t tu f k = X at *
      clear hI
      have HX := hide hX
      clear hX
      rcases (by omega : k = 4 ∨ (k < 4 ∧ f + k = t.length)) with h4 | ⟨h4, h5⟩
      · have hd : decide (k < 4) = false := by simp; omega
        have hd' : decide ((k : Int) < 4) = false := by simp; omega
        clear hlt h4 hkf hk
        go_wp2_with (refine wpList_conv rfl 33 9 (.tmp 47) rfl _ _ (by rfl) (unhide HC) ?_; clear HC)
        refine (crc_any X wr (by omega)).mono ?_
        rintro e wy ⟨rfl, rfl⟩
        go_wp2_with fail
        refine (crc_any t wy (by omega)).mono ?_
        rintro e wz ⟨rfl, rfl⟩
        go_wp2
        go_ret
        refine ⟨?_, hbe⟩
        show Ending.returned (.bool ((u (crc X) == u (crc t)) == (X == t))) = _
        rw [bx_end X t (unhide HX)]
      · have hd : decide (f + k < t.length) = false := by simp; omega
        have hd' : decide ((f : Int) + (k : Int) < (t.length : Int)) = false := by simp; omega
        clear hlt h5 hkf hk
        go_wp2_with (refine wpList_conv rfl 33 9 (.tmp 47) rfl _ _ (by rfl) (unhide HC) ?_; clear HC)
        refine (crc_any X wr (by omega)).mono ?_
        rintro e wy ⟨rfl, rfl⟩
        go_wp2_with fail
        refine (crc_any t wy (by omega)).mono ?_
        rintro e wz ⟨rfl, rfl⟩
        go_wp2
        go_ret
        refine ⟨?_, hbe⟩
        show Ending.returned (.bool ((u (crc X) == u (crc t)) == (X == t))) = _
        rw [bx_end X t (unhide HX)]
end Go.Proofs.Ytdncebdlhoogcaa
