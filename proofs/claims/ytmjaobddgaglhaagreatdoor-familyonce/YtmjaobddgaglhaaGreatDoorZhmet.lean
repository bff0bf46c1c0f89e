import Derived.Test.YtmjaobddgaglhaaGreatDoorZhmxa
import Derived.Test.YtmjaobddgaglhaaGreatDoorHdig
namespace Go.Proofs.YtmjaobddgaglhaaGreatDoor
open Go.RowKit
open Sha
set_option maxRecDepth 8000
theorem info173 : (Tryz.prog.info? 173).map (·.size) = some 73 := by kernel_rfl
theorem hc_one (h : Ha) : (hc h).all (·.oneCell') = true := by
  simp [hc, U, B, Value.oneCell']
theorem built70 : Tryz.prog.built 173 [(0, .agg (cU s0.l))] = some (hc h0) := by kernel_rfl
set_option maxHeartbeats 1000000 in
set_option maxRecDepth 100000 in
theorem new_any (w : World) :
    Calls Tryz.prog 98 #[] w fun e w' => ∃ b, e = .returned (.pointer (some ⟨b, 0, none⟩)) ∧ w.heap.size ≤ b ∧ RowK w' b (hc h0) 173 ∧ Below w.heap.size w w' := by
  go_enter Tryz.func98, Tryz.ntmps98
  go_wp2_with fail
  refine (start_any w).mono ?_
  rintro e w1 ⟨rfl, hb⟩
  go_wp2_with (refine wpList_build rfl 173 _ rfl (by kernel_rfl) ?_)
  go_ret
  refine ⟨w1.heap.size, rfl, hb.size, ?_, hb.trans ((alloc_below w1 _).mono hb.size)⟩
  rw [built70]
  exact RowK.new w1 (hc h0) 173
theorem fil_len (n : Nat) : (fil n).length ≤ 72 := by
  simp [fil, nb]; omega
theorem OnlyH.below {b B : Nat} {w0 w w' : World} (h : OnlyH b w w') (hb : Below B w0 w) (h1 : B ≤ b) (h2 : B ≤ w.heap.size) : Below B w0 w' :=
  hb.trans ⟨h.os, h.tape, h.output, h.size, fun k hk => h.block k (by omega) (by omega)⟩
set_option maxHeartbeats 1000000 in
theorem hsum_any (h : Ha) (b : Nat) (w : World) (hr : RowK w b (hc h) 173) (ht : h.t.length = 64) (hn : h.n < 576460752303423488) :
    Calls Tryz.prog 100 #[.pointer (some ⟨b, 0, none⟩)] w fun e w' => e = .returned (.string ⟨(sumH h).toArray⟩) ∧ Below w.heap.size w w' := by
  have hs : (Tryz.prog.info? 173).map (·.size) = some (hc h).size := by rw [hc_size h ht]; exact info173
  have hb1 : RowK ((w.alloc (.cells Tryz.zeroCells173 173)).setRow w.heap.size (hc h)) b (hc h) 173 := (hr.alloc _).setRow_other _ _ (Nat.ne_of_lt hr.lt)
  have hb2 : RowK ((w.alloc (.cells Tryz.zeroCells173 173)).setRow w.heap.size (hc h)) w.heap.size (hc h) 173 := (RowK.new w _ 173).setRow _
  have hbe : Below w.heap.size w ((w.alloc (.cells Tryz.zeroCells173 173)).setRow w.heap.size (hc h)) := below_row (alloc_below w _) (Nat.le_refl _) _
  have c72 : ((w.alloc (.cells Tryz.zeroCells173 173)).setRow w.heap.size (hc h)).cell? ⟨b, 72, none⟩ = some (.int .i64 h.n) := by rw [hb1.cell]; exact hc_n h ht
  have HR := hide hr
  have HB2 := hide hb2
  clear hr hb1 hb2
  go_enter Tryz.func100, Tryz.ntmps100
  go_wp2_with (first | (refine wpList_load_row rfl 173 (.tmp 5) rfl b (by rfl) 173 (hc h) (0, 0) _ (unhide HR) Tryz.underlying173 rfl hs ?_) | (refine wpList_store_row rfl 173 (.tmp 3) (.tmp 6) rfl w.heap.size (hc h) (by rfl) (by rfl) 173 Tryz.zeroCells173 (RowK.new w _ 173) hs (by rw [hc_size h ht]; kernel_rfl) (hc_one h) ?_))
  clear HR
  generalize (w.alloc (.cells Tryz.zeroCells173 173)).setRow w.heap.size (hc h) = w1 at *
  refine (filling_any h.n w1 (by omega)).mono ?_
  rintro e w2 ⟨rfl, hf⟩
  have hr2 := (unhide HB2).below hf (unhide HB2).lt
  have hbe2 := hbe.trans (hf.mono hbe.size)
  have HR2 := hide hr2
  clear HB2 hf hbe hr2 c72
  go_wp2_with fail
  refine (write_anyK h w.heap.size (fil h.n) w2 (unhide HR2) ht (by have : (fil h.n).length ≤ 72 := fil_len h.n; omega)).mono ?_
  rintro e w3 ⟨rfl, hr3, ho3⟩
  have hbe3 := ho3.below hbe2 (Nat.le_refl _) hbe2.size
  have x3 : HR5 w.heap.size (took h (fil h.n)) w3 := ⟨hr3⟩
  have X3 := hide x3
  clear HR2 hbe2 hr3 ho3 x3
  go_wp2_with (refine wpList_load_mid rfl 168 (.tmp 13) rfl w.heap.size 0 (by rfl) ((took h (fil h.n)).s.l.map U) _ (unhide X3).s Tryz.underlying168 rfl info168 ?_)
  refine (digest_any (took h (fil h.n)).s w3).mono ?_
  rintro e w4 ⟨rfl, hb4⟩
  go_wp2
  go_ret
  exact ⟨rfl, hbe3.trans (hb4.mono hbe3.size)⟩
end Go.Proofs.YtmjaobddgaglhaaGreatDoor
namespace Go.Proofs.YtmjaobddgaglhaaGreatDoor
open Go.RowKit
open Sha
set_option maxRecDepth 8000
/-- A slice of texts that lies in memory. -/
def Parts (w : World) (a : Option Addr) (n : Nat) (ps : List (List UInt8)) : Prop :=
  n = ps.length ∧ (0 < n → ∃ p o, a = some ⟨p, o, none⟩ ∧ ∀ j, j < n → w.cell? ⟨p, o + j, none⟩ = some (.string ⟨(ps.getD j []).toArray⟩))
theorem flat_next (ps : List (List UInt8)) (k : Nat) (h : k < ps.length) : (ps.take (k + 1)).flatten = (ps.take k).flatten ++ ps.getD k [] := by
  rw [List.take_succ_eq_append_getElem h, List.flatten_append]
  simp [h]
theorem flat_le (ps : List (List UInt8)) (k : Nat) (h : k < ps.length) : (ps.take k).flatten.length + (ps.getD k []).length ≤ ps.flatten.length := by
  have e : ps.flatten = (ps.take (k + 1)).flatten ++ (ps.drop (k + 1)).flatten := by rw [← List.flatten_append, List.take_append_drop]
  rw [e, List.length_append, flat_next ps k h, List.length_append]; omega
theorem h0_n : h0.n = 0 := rfl
set_option maxHeartbeats 1000000 in
theorem sum_any (a : Option Addr) (n cap : Nat) (ps : List (List UInt8)) (w : World) (hp : Parts w a n ps) (hm : n ≤ 9223372036854775807) (hl : ps.flatten.length < 576460752303423488) :
    Calls Tryz.prog 74 #[.slice a n cap] w fun e w' => e = .returned (.string ⟨(sum ps.flatten).toArray⟩) ∧ Below w.heap.size w w' := by
  have HP := hide hp
  clear hp
  go_enter Tryz.func74, Tryz.ntmps74
  go_wp2_with fail
  refine (new_any w).mono ?_
  rintro e w1 ⟨b, rfl, hbb, hr1, hb1⟩
  have HR1 := hide hr1
  clear hr1
  go_wp2
  go_loopw [9] (fun i wr => ∃ k : Nat, k ≤ n ∧ i = .int .i64 k ∧ RowK wr b (hc (took h0 (ps.take k).flatten)) 173 ∧ Below w.heap.size w wr) (fun i _ => n - (intOf i).toNat)
  case atStart => exact ⟨0, by omega, rfl, unhide HR1, hb1⟩
  case round =>
    clear HR1 hb1
    obtain ⟨k, hk, rfl, hrow, hbe⟩ := hrel
    by_cases hlt : k < n
    · obtain ⟨e1, e2⟩ := unhide HP
      obtain ⟨p, o, rfl, hcell⟩ := e2 (by omega)
      have hck := hcell k hlt
      have hplt : p < w.heap.size := block_lt_of_cell hck
      have c0 : wr.cell? ⟨p, o + k, none⟩ = some (.string ⟨(ps.getD k []).toArray⟩) := (hbe.cell (by exact hplt)).trans hck
      have hfl := flat_le ps k (by omega)
      have hfn := hide (flat_next ps k (by omega))
      generalize hX : ps.getD k [] = X at *
      have ht : (took h0 (ps.take k).flatten).t.length = 64 := by rw [took_t]; rfl
      have hnn : (took h0 (ps.take k).flatten).n = (ps.take k).flatten.length := by rw [took_n, h0_n]; omega
      have HT := hide ht
      have HN := hide hnn
      have HRow := hide hrow
      have HX := hide hX
      clear ht hnn hrow hcell hck e1 e2 hX
      go_wp2_with fail
      refine (write_anyK _ b X wr (unhide HRow) (unhide HT) (by rw [unhide HN]; omega)).mono ?_
      rintro e w2 ⟨rfl, hr2, ho2⟩
      have hbe2 := ho2.below hbe hbb hbe.size
      have HR2 := hide hr2
      clear hr2 ho2 c0
      go_wp2
      go_roundw
      case rel =>
        refine ⟨k + 1, by omega, by go_num, ?_, hbe2⟩
        rw [unhide hfn, took_append]
        exact unhide HR2
      case measure => simp [intOf]; omega
    · have hkn : k = n := by omega
      have hd : decide (k < n) = false := by simp; omega
      have hps : ps.take k = ps := List.take_of_length_le (by rw [hkn]; exact Nat.le_of_eq (unhide HP).1.symm)
      rw [hps] at hrow
      have ht : (took h0 ps.flatten).t.length = 64 := by rw [took_t]; rfl
      have hnn : (took h0 ps.flatten).n = ps.flatten.length := by rw [took_n, h0_n]; omega
      have HRow := hide hrow
      have HT := hide ht
      have HN := hide hnn
      clear hrow hps hkn hlt ht hnn
      go_wp2_with fail
      refine (hsum_any _ b wr (unhide HRow) (unhide HT) (by rw [unhide HN]; exact hl)).mono ?_
      rintro e w2 ⟨rfl, hb2⟩
      go_wp2
      go_ret
      exact ⟨rfl, hbe.trans (hb2.mono hbe.size)⟩
end Go.Proofs.YtmjaobddgaglhaaGreatDoor
