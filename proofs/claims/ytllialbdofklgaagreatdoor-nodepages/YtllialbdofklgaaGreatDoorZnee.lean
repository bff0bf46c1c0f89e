import Derived.Test.YtllialbdofklgaaGreatDoorZnds
import Derived.Test.YtllialbdofklgaaGreatDoorZrgnd
namespace Go.Proofs.YtllialbdofklgaaGreatDoor
open Go.RowKit
set_option maxHeartbeats 16000000
set_option maxRecDepth 8000
/-- Between two operations of lent's regions. -/
structure Wl (V : World) (X j : Nat) (old nv : Value) (P : World → Prop) (L : Nat → Bool) (W W0 : World) : Prop where
  bel : Below V.heap.size V W0
  sz : L 2 = false → W0.heap.size = V.heap.size
  p : L 2 = true → P W0
  d : L 8 = true → L 1 = true ∧ L 2 = true ∧ L 4 = true
  w0 : L 8 = false → W = W0
  w1 : L 8 = true → W = W0.setCell ⟨X, 0 + j, none⟩ nv
theorem Wl.pure {V : World} {X j : Nat} {old nv : Value} {P : World → Prop} {L : Nat → Bool} {W W0 : World} (h : Wl V X j old nv P L W W0) (i : Nat) (h2 : i ≠ 2) (h8 : i ≠ 8) : Wl V X j old nv P (upd L i) W W0 := by
  refine ⟨h.bel, fun q => h.sz (by rwa [upd_ne h2.symm] at q), fun q => h.p (by rwa [upd_ne h2.symm] at q), fun q => ?_, fun q => h.w0 (by rwa [upd_ne h8.symm] at q), fun q => h.w1 (by rwa [upd_ne h8.symm] at q)⟩
  have := h.d (by rwa [upd_ne h8.symm] at q)
  refine ⟨?_, ?_, ?_⟩
  · by_cases e : i = 1
    · rw [e]; exact upd_eq _ _
    · rw [upd_ne (Ne.symm e)]; exact this.1
  · rw [upd_ne h2.symm]; exact this.2.1
  · by_cases e : i = 4
    · rw [e]; exact upd_eq _ _
    · rw [upd_ne (Ne.symm e)]; exact this.2.2
theorem Wl.start {V : World} {X j : Nat} {old nv : Value} {P : World → Prop} : Wl V X j old nv P (fun _ => false) V.drew V.drew :=
  ⟨(Below.refl _ _).drew, fun _ => rfl, (fun q => nomatch q), (fun q => nomatch q), fun _ => rfl, (fun q => nomatch q)⟩
theorem Wl.load {V : World} {X j : Nat} {old nv : Value} {P : World → Prop} {L : Nat → Bool} {W W0 : World} (h : Wl V X j old nv P L W W0) (h8 : L 8 = false) (hc : V.cell? ⟨X, 0 + j, none⟩ = some old) : W.cell? ⟨X, 0 + j, none⟩ = some old := by
  rw [h.w0 h8]
  exact (h.bel.cell (blk_lt hc)).trans hc
theorem Wl.store {V : World} {X j : Nat} {old nv : Value} {P : World → Prop} {L : Nat → Bool} {W W0 : World} (h : Wl V X j old nv P L W W0) (h8 : L 8 = false) (h1 : L 1 = true) (h4 : L 4 = true) (h2 : L 2 = true) : Wl V X j old nv P (upd L 8) (W.setCell ⟨X, 0 + j, none⟩ nv) W0 := by
  refine ⟨h.bel, fun q => ?_, fun q => h.p h2, fun _ => ⟨?_, ?_, ?_⟩, fun q => ?_, fun _ => by rw [h.w0 h8]⟩
  · rw [upd_ne (by decide), h2] at q; cases q
  · rw [upd_ne (by decide)]; exact h1
  · rw [upd_ne (by decide)]; exact h2
  · rw [upd_ne (by decide)]; exact h4
  · rw [upd_eq] at q; cases q
end Go.Proofs.YtllialbdofklgaaGreatDoor
namespace Go.Proofs.YtllialbdofklgaaGreatDoor
open Go.RowKit
set_option maxHeartbeats 16000000
set_option maxRecDepth 8000
/-- A node whose lists are lent. -/
structure LN (n : Nd) (g1 g2 g3 : Nat) (w : World) : Prop where
  k : Blk g1 (mid n.keys 4) w
  v : Blk g2 (mid n.vals 4) w
  i : BlI g3 (n.kids ++ List.replicate 4 (-77)) w
theorem LN.below {n : Nd} {g1 g2 g3 : Nat} {w w' : World} (h : LN n g1 g2 g3 w) (b : Below w.heap.size w w') : LN n g1 g2 g3 w' := ⟨h.k.keep b, h.v.keep b, h.i.keep b⟩
theorem LN.na {n : Nd} {g1 g2 g3 : Nat} {w : World} (h : LN n g1 g2 g3 w) : NA n (some ⟨g1, 0, none⟩) (some ⟨g2, 0, none⟩) (some ⟨g3, 0, none⟩) w := ⟨h.k.part, h.v.part, h.i.part⟩
def lnv (n : Nd) (g1 g2 g3 : Nat) : Value := .agg #[.bool n.leaf, .slice (some ⟨g1, 0, none⟩) n.keys.length (n.keys.length + 4), .slice (some ⟨g2, 0, none⟩) n.vals.length (n.vals.length + 4), .slice (some ⟨g3, 0, none⟩) n.kids.length (n.kids.length + 4)]
theorem row_set {w : World} {X j : Nat} {cs : Array Value} {v : Value} (h : w.heap[X]? = some (.cells cs 25 (0, 0))) : (w.setCell ⟨X, j, none⟩ v).heap[X]? = some (.cells (cs.setIfInBounds j v) 25 (0, 0)) := by
  rw [heap_setCell_same w X j cs 25 v h]
end Go.Proofs.YtllialbdofklgaaGreatDoor
namespace Go.Proofs.YtllialbdofklgaaGreatDoor
open Go.RowKit
set_option maxHeartbeats 8000000
set_option maxRecDepth 8000
theorem spare_any (n : Nd) (g1 g2 g3 : Nat) (w : World) (h : LN n g1 g2 g3 w) (hb : NB n) :
    Calls Tryz.prog 22 #[.slice (some ⟨g1, 0, none⟩) n.keys.length (n.keys.length + 4), .slice (some ⟨g2, 0, none⟩) n.vals.length (n.vals.length + 4), .slice (some ⟨g3, 0, none⟩) n.kids.length (n.kids.length + 4)] w fun e w' => e = .returned (.bool true) ∧ w' = w := by
  have H1 := hide (fun k (hk : k < 4) => show w.cell? ⟨g1, n.keys.length + k, none⟩ = some (.string ⟨#[115, 112, 97, 114, 101]⟩) from by
    have q := h.k.at (n.keys.length + k) (by rw [mid_len _ _ (by omega)]; omega)
    rw [mid_at _ _ k rfl hk] at q
    exact q)
  have H2 := hide (fun k (hk : k < 4) => show w.cell? ⟨g2, n.vals.length + k, none⟩ = some (.string ⟨#[115, 112, 97, 114, 101]⟩) from by
    have q := h.v.at (n.vals.length + k) (by rw [mid_len _ _ (by omega)]; omega)
    rw [mid_at _ _ k rfl hk] at q
    exact q)
  have H3 := hide (fun k (hk : k < 4) => show w.cell? ⟨g3, n.kids.length + k, none⟩ = some (.int .i64 (-77)) from by
    have q := h.i.at (n.kids.length + k) (by simp; omega)
    rw [List.getD_eq_getElem?_getD, List.getElem?_append_right (by omega), Nat.add_sub_cancel_left, List.getElem?_replicate, if_pos hk] at q
    exact q)
  have l1 := h.k.lt
  have l2 := h.v.lt
  have l3 := h.i.lt
  have b1 := hb.k
  have b2 := hb.v
  have b3 := hb.i
  clear h hb
  generalize n.keys.length = kl at *
  generalize n.vals.length = vl at *
  generalize n.kids.length = il at *
  clear n
  go_enter Tryz.func22, Tryz.ntmps22
  go_wp2
  go_loopw [10] (fun i wr => ∃ k : Nat, k ≤ 4 ∧ i = .int .i64 k ∧ wr = w) (fun i _ => 4 - (Go.RowKit.intOf i).toNat)
  case atStart => exact ⟨0, by omega, rfl, rfl⟩
  case round =>
    obtain ⟨k, hk, rfl, rfl⟩ := hrel
    by_cases hlt : k < 4
    · have hlt' : (k : Int) < 4 := by omega
      have c1 := unhide H1 k hlt
      have c2 := unhide H2 k hlt
      have c3 := unhide H3 k hlt
      go_wp2
      go_round
      case measure => simp [Go.RowKit.intOf]; omega
      case rel => exact ⟨k + 1, by omega, by simp, by first | trivial | rfl⟩
    · have hlt' : ¬ (k : Int) < 4 := by omega
      go_wp2
      go_ret
      exact ⟨rfl, rfl⟩
theorem whole_any (n : Nd) (g1 g2 g3 : Nat) (ka va ia : Option Addr) (kc vc ic : Nat) (w : World) (h : LN n g1 g2 g3 w) (hn : NA n ka va ia w) (hb : NB n) :
    Calls Tryz.prog 16 #[lnv n g1 g2 g3, nda n ka va ia kc vc ic] w fun e w' => e = .returned (.bool true) ∧ Below w.heap.size w w' := by
  have hA := (Below.refl w.heap.size w).alloc (Nat.le_refl _) (.cells #[.bool n.leaf, .slice (some ⟨g1, 0, none⟩) n.keys.length (n.keys.length + 4), .slice (some ⟨g2, 0, none⟩) n.vals.length (n.vals.length + 4), .slice (some ⟨g3, 0, none⟩) n.kids.length (n.kids.length + 4)] 25)
  have hg := heap_alloc_new w (.cells #[.bool n.leaf, .slice (some ⟨g1, 0, none⟩) n.keys.length (n.keys.length + 4), .slice (some ⟨g2, 0, none⟩) n.vals.length (n.vals.length + 4), .slice (some ⟨g3, 0, none⟩) n.kids.length (n.kids.length + 4)] 25)
  generalize hW0 : w.alloc (.cells #[.bool n.leaf, .slice (some ⟨g1, 0, none⟩) n.keys.length (n.keys.length + 4), .slice (some ⟨g2, 0, none⟩) n.vals.length (n.vals.length + 4), .slice (some ⟨g3, 0, none⟩) n.kids.length (n.kids.length + 4)] 25) = W0 at hA hg
  have hA1 := hA.alloc hA.size (.cells #[.bool n.leaf, .slice ka n.keys.length kc, .slice va n.vals.length vc, .slice ia n.kids.length ic] 25)
  have hg1 := (heap_alloc_old W0 (.cells #[.bool n.leaf, .slice ka n.keys.length kc, .slice va n.vals.length vc, .slice ia n.kids.length ic] 25) (lt_of_row hg)).trans hg
  have hk1 := heap_alloc_new W0 (.cells #[.bool n.leaf, .slice ka n.keys.length kc, .slice va n.vals.length vc, .slice ia n.kids.length ic] 25)
  generalize hW1 : W0.alloc (.cells #[.bool n.leaf, .slice ka n.keys.length kc, .slice va n.vals.length vc, .slice ia n.kids.length ic] 25) = W1 at hA1 hg1 hk1
  have X1 := hide (nodes_any n n (some ⟨g1, 0, none⟩) (some ⟨g2, 0, none⟩) (some ⟨g3, 0, none⟩) ka va ia (n.keys.length + 4) (n.vals.length + 4) (n.kids.length + 4) kc vc ic W1 (h.below hA1).na (hn.below hA1) hb hb)
  rw [show sam n n = true by simp [sam]] at X1
  have X2 := hide (fun W (q : Below W1.heap.size W1 W) => spare_any n g1 g2 g3 W ((h.below hA1).below q) hb)
  have HA := hide hA1
  have HG := hide hg1
  have hz := lt_of_row hg1
  have hz2 := lt_of_row hk1
  obtain ⟨c0, c1, c2, c3⟩ := box4 hg1 (Below.refl _ _) hz
  obtain ⟨d0, d1, d2, d3⟩ := box4 hk1 (Below.refl _ _) hz2
  clear hA hg hA1 hg1 hk1 h hn hb
  unfold lnv
  unfold nda at *
  generalize n.keys.length = kl at *
  generalize n.vals.length = vl at *
  generalize n.kids.length = il at *
  generalize n.leaf = lf at *
  go_enter Tryz.func16, Tryz.ntmps16
  go_wp2_with fail
  refine (unhide X1).mono ?_
  rintro e w1 ⟨rfl, b1⟩
  clear c0 c1 c2 c3 d0 d1 d2 d3 hW0 hW1 X1
  obtain ⟨c0, c1, c2, c3⟩ := box4 (unhide HG) b1 hz
  have hz3 := Nat.lt_of_lt_of_le hz b1.size
  have x2 := hide (unhide X2 w1 b1)
  have HB := hide ((unhide HA).trans (b1.mono (unhide HA).size))
  clear b1 X2
  go_wp2_with fail
  refine (unhide x2).mono ?_
  rintro e w2 ⟨rfl, rfl⟩
  go_wp2
  go_ret
  exact ⟨rfl, unhide HB⟩
end Go.Proofs.YtllialbdofklgaaGreatDoor
