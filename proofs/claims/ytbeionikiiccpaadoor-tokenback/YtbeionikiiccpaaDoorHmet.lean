import Derived.Test.YtbeionikiiccpaaDoorHwrc
import Derived.Test.YtbeionikiiccpaaDoorHdig
namespace Go.Proofs.YtbeionikiiccpaaDoor
open Go.RowKit
open Sha
set_option maxRecDepth 8000
theorem info77 : (Tryd.prog.info? 77).map (·.size) = some 73 := by kernel_rfl
theorem h0_len : h0.t.length = 64 := by rfl
theorem hc_one (h : Ha) : (hc h).all (·.oneCell') = true := by
  simp [hc, U, B, Value.oneCell']
theorem built70 : Tryd.prog.built 77 [(0, .agg (cU s0.l))] = some (hc h0) := by kernel_rfl
set_option maxHeartbeats 1000000 in
set_option maxRecDepth 100000 in
theorem new_any (w : World) :
    Calls Tryd.prog 25 #[] w fun e w' => ∃ b, e = .returned (.pointer (some ⟨b, 0, none⟩)) ∧ w.heap.size ≤ b ∧ Row w' b (hc h0) 77 ∧ Below w.heap.size w w' := by
  go_enter Tryd.func25, Tryd.ntmps25
  go_wp2_with fail
  refine (start_any w).mono ?_
  rintro e w1 ⟨rfl, hb⟩
  go_wp2_with (refine wpList_build rfl 77 _ rfl (by kernel_rfl) ?_)
  go_ret
  refine ⟨w1.heap.size, rfl, hb.size, ?_, hb.trans ((alloc_below w1 _).mono hb.size)⟩
  rw [built70]
  exact Row.new w1 (hc h0) 77
theorem fil_len (n : Nat) : (fil n).length ≤ 72 := by
  simp [fil, nb]; omega
theorem OnlyH.below {b B : Nat} {w0 w w' : World} (h : OnlyH b w w') (hb : Below B w0 w) (h1 : B ≤ b) (h2 : B ≤ w.heap.size) : Below B w0 w' :=
  hb.trans ⟨h.os, h.tape, h.output, h.size, fun k hk => h.block k (by omega) (by omega)⟩
set_option maxHeartbeats 1000000 in
theorem hsum_any (h : Ha) (b : Nat) (w : World) (hr : Row w b (hc h) 77) (ht : h.t.length = 64) (hn : h.n < 576460752303423488) :
    Calls Tryd.prog 27 #[.pointer (some ⟨b, 0, none⟩)] w fun e w' => e = .returned (.string ⟨(sumH h).toArray⟩) ∧ Below w.heap.size w w' := by
  have hs : (Tryd.prog.info? 77).map (·.size) = some (hc h).size := by rw [hc_size h ht]; exact info77
  have hb1 : Row ((w.alloc (.cells Tryd.zeroCells77 77)).setRow w.heap.size (hc h)) b (hc h) 77 := (hr.alloc _).setRow_other _ _ (Nat.ne_of_lt hr.lt)
  have hb2 : Row ((w.alloc (.cells Tryd.zeroCells77 77)).setRow w.heap.size (hc h)) w.heap.size (hc h) 77 := (Row.new w _ 77).setRow _
  have hbe : Below w.heap.size w ((w.alloc (.cells Tryd.zeroCells77 77)).setRow w.heap.size (hc h)) := below_row (alloc_below w _) (Nat.le_refl _) _
  have c72 : ((w.alloc (.cells Tryd.zeroCells77 77)).setRow w.heap.size (hc h)).cell? ⟨b, 72, none⟩ = some (.int .i64 h.n) := by rw [hb1.cell]; exact hc_n h ht
  have HR := hide hr
  have HB2 := hide hb2
  clear hr hb1 hb2
  go_enter Tryd.func27, Tryd.ntmps27
  go_wp2_with (first | (refine wpList_load_row rfl 77 (.tmp 5) rfl b (by rfl) 77 (hc h) (0, 0) _ (unhide HR) Tryd.underlying77 rfl hs ?_) | (refine wpList_store_row rfl 77 (.tmp 3) (.tmp 6) rfl w.heap.size (hc h) (by rfl) (by rfl) 77 Tryd.zeroCells77 (Row.new w _ 77) hs (by rw [hc_size h ht]; kernel_rfl) (hc_one h) ?_))
  clear HR
  generalize (w.alloc (.cells Tryd.zeroCells77 77)).setRow w.heap.size (hc h) = w1 at *
  refine (filling_any h.n w1 (by omega)).mono ?_
  rintro e w2 ⟨rfl, hf⟩
  have hr2 := (unhide HB2).below hf (unhide HB2).lt
  have hbe2 := hbe.trans (hf.mono hbe.size)
  have HR2 := hide hr2
  clear HB2 hf hbe hr2 c72
  go_wp2_with fail
  refine (write_any h w.heap.size (fil h.n) w2 (unhide HR2) ht (by have : (fil h.n).length ≤ 72 := fil_len h.n; omega)).mono ?_
  rintro e w3 ⟨rfl, hr3, ho3⟩
  have hbe3 := ho3.below hbe2 (Nat.le_refl _) hbe2.size
  have x3 : HR5 w.heap.size (took h (fil h.n)) w3 := ⟨hr3⟩
  have X3 := hide x3
  clear HR2 hbe2 hr3 ho3 x3
  go_wp2_with (refine wpList_load_mid rfl 72 (.tmp 13) rfl w.heap.size 0 (by rfl) ((took h (fil h.n)).s.l.map U) _ (unhide X3).s Tryd.underlying72 rfl info72 ?_)
  refine (digest_any (took h (fil h.n)).s w3).mono ?_
  rintro e w4 ⟨rfl, hb4⟩
  go_wp2
  go_ret
  exact ⟨rfl, hbe3.trans (hb4.mono hbe3.size)⟩
end Go.Proofs.YtbeionikiiccpaaDoor
