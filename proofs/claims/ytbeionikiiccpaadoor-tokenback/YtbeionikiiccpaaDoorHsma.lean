import Derived.Test.YtbeionikiiccpaaDoorHmet
namespace Go.Proofs.YtbeionikiiccpaaDoor
open Go.RowKit
open Sha
set_option maxRecDepth 8000
/-- A slice of texts that lies in memory. -/
def Parts (w : World) (a : Option Addr) (n : Nat) (ps : List (List UInt8)) : Prop :=
  n = ps.length ∧ (0 < n → ∃ p o, a = some ⟨p, o, none⟩ ∧ ∀ j, j < n → w.cell? ⟨p, o + j, none⟩ = some (.string ⟨(ps.getD j []).toArray⟩))
theorem flat_next (ps : List (List UInt8)) (k : Nat) (h : k < ps.length) : (ps.take (k + 1)).flatten = (ps.take k).flatten ++ ps.getD k [] := by
  rw [List.take_succ_eq_append_getElem h, List.flatten_append]
  simp [h]
theorem flat_le (ps : List (List UInt8)) (k : Nat) (h : k < ps.length) : (ps.take k).flatten.length + (ps.getD k []).length ≤ ps.flatten.length := by
  have e : ps.flatten = (ps.take (k + 1)).flatten ++ (ps.drop (k + 1)).flatten := by rw [← List.flatten_append, List.take_append_drop]
  rw [e, List.length_append, flat_next ps k h, List.length_append]; omega
theorem h0_n : h0.n = 0 := rfl
set_option maxHeartbeats 1000000 in
theorem sum_any (a : Option Addr) (n cap : Nat) (ps : List (List UInt8)) (w : World) (hp : Parts w a n ps) (hm : n ≤ 9223372036854775807) (hl : ps.flatten.length < 576460752303423488) :
    Calls Tryd.prog 14 #[.slice a n cap] w fun e w' => e = .returned (.string ⟨(sum ps.flatten).toArray⟩) ∧ Below w.heap.size w w' := by
  have HP := hide hp
  clear hp
  go_enter Tryd.func14, Tryd.ntmps14
  go_wp2_with fail
  refine (new_any w).mono ?_
  rintro e w1 ⟨b, rfl, hbb, hr1, hb1⟩
  have HR1 := hide hr1
  clear hr1
  go_wp2
  go_loopw [9] (fun i wr => ∃ k : Nat, k ≤ n ∧ i = .int .i64 k ∧ Row wr b (hc (took h0 (ps.take k).flatten)) 77 ∧ Below w.heap.size w wr) (fun i _ => n - (intOf i).toNat)
  case atStart => exact ⟨0, by omega, rfl, unhide HR1, hb1⟩
  case round =>
    clear HR1 hb1
    obtain ⟨k, hk, rfl, hrow, hbe⟩ := hrel
    by_cases hlt : k < n
    · obtain ⟨e1, e2⟩ := unhide HP
      obtain ⟨p, o, rfl, hcell⟩ := e2 (by omega)
      have hck := hcell k hlt
      have hplt : p < w.heap.size := block_lt_of_cell hck
      have c0 : wr.cell? ⟨p, o + k, none⟩ = some (.string ⟨(ps.getD k []).toArray⟩) := (hbe.cell (by exact hplt)).trans hck
      have hfl := flat_le ps k (by omega)
      have hfn := hide (flat_next ps k (by omega))
      generalize hX : ps.getD k [] = X at *
      have ht : (took h0 (ps.take k).flatten).t.length = 64 := by rw [took_t]; rfl
      have hnn : (took h0 (ps.take k).flatten).n = (ps.take k).flatten.length := by rw [took_n, h0_n]; omega
      have HT := hide ht
      have HN := hide hnn
      have HRow := hide hrow
      have HX := hide hX
      clear ht hnn hrow hcell hck e1 e2 hX
      go_wp2_with fail
      refine (write_any _ b X wr (unhide HRow) (unhide HT) (by rw [unhide HN]; omega)).mono ?_
      rintro e w2 ⟨rfl, hr2, ho2⟩
      have hbe2 := ho2.below hbe hbb hbe.size
      have HR2 := hide hr2
      clear hr2 ho2 c0
      go_wp2
      go_roundw
      case rel =>
        refine ⟨k + 1, by omega, by go_num, ?_, hbe2⟩
        rw [unhide hfn, took_append]
        exact unhide HR2
      case measure => simp [intOf]; omega
    · have hkn : k = n := by omega
      have hd : decide (k < n) = false := by simp; omega
      have hps : ps.take k = ps := List.take_of_length_le (by rw [hkn]; exact Nat.le_of_eq (unhide HP).1.symm)
      rw [hps] at hrow
      have ht : (took h0 ps.flatten).t.length = 64 := by rw [took_t]; rfl
      have hnn : (took h0 ps.flatten).n = ps.flatten.length := by rw [took_n, h0_n]; omega
      have HRow := hide hrow
      have HT := hide ht
      have HN := hide hnn
      clear hrow hps hkn hlt ht hnn
      go_wp2_with fail
      refine (hsum_any _ b wr (unhide HRow) (unhide HT) (by rw [unhide HN]; exact hl)).mono ?_
      rintro e w2 ⟨rfl, hb2⟩
      go_wp2
      go_ret
      exact ⟨rfl, hbe.trans (hb2.mono hbe.size)⟩
end Go.Proofs.YtbeionikiiccpaaDoor
