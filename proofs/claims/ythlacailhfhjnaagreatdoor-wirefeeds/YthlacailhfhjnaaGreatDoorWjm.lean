import Derived.Test.YthlacailhfhjnaaGreatDoorWia
namespace Go.Proofs.YthlacailhfhjnaaGreatDoor
open Go.RowKit Go.Lib
set_option maxHeartbeats 4000000 in
set_option maxRecDepth 8000 in
theorem mark2_any (i : Nat) (w : World) (_hi : i < 1000000000000) :
    Calls Tryz.prog 55 #[.int .i64 (i : Int)] w fun e w' => e = .returned (.agg #[S (mk i).1, S (mk i).2]) ∧ Below w.heap.size w w' := by
  have hA : ((w.alloc (.cells #[.string ⟨#[]⟩, .string ⟨#[]⟩] 35)).alloc (.cells #[.int .u8 ((i : Int) % 256), .int .u8 ((i : Int) / 256 % 256), .int .u8 ((i : Int) / 65536 % 256)] 5)).heap[w.heap.size + 1]? = some (.cells #[.int .u8 ((i : Int) % 256), .int .u8 ((i : Int) / 256 % 256), .int .u8 ((i : Int) / 65536 % 256)] 5 (0, 0)) := by
    have := heap_alloc_new (w.alloc (.cells #[.string ⟨#[]⟩, .string ⟨#[]⟩] 35)) (.cells #[.int .u8 ((i : Int) % 256), .int .u8 ((i : Int) / 256 % 256), .int .u8 ((i : Int) / 65536 % 256)] 5)
    simpa using this
  have hconv := run_text ((w.alloc (.cells #[.string ⟨#[]⟩, .string ⟨#[]⟩] 35)).alloc (.cells #[.int .u8 ((i : Int) % 256), .int .u8 ((i : Int) / 256 % 256), .int .u8 ((i : Int) / 65536 % 256)] 5)) (w.heap.size + 1) 0 3 3 [UInt8.ofNat i, UInt8.ofNat (i / 256), UInt8.ofNat (i / 65536)] rfl (by
    intro j hj
    rcases (by omega : j = 0 ∨ j = 1 ∨ j = 2) with rfl | rfl | rfl
    · rw [cell_of_row _ _ _ _ 5 (0, 0) hA]
      show some (Value.int .u8 ((i : Int) % 256)) = some (.int .u8 ((UInt8.ofNat i).toNat : Int))
      simp
    · rw [cell_of_row _ _ _ _ 5 (0, 0) hA]
      show some (Value.int .u8 ((i : Int) / 256 % 256)) = some (.int .u8 ((UInt8.ofNat (i / 256)).toNat : Int))
      simp
    · rw [cell_of_row _ _ _ _ 5 (0, 0) hA]
      show some (Value.int .u8 ((i : Int) / 65536 % 256)) = some (.int .u8 ((UInt8.ofNat (i / 65536)).toNat : Int))
      simp)
  have HA1 : ∀ x : Value, Hid (((w.alloc (.cells #[.string ⟨#[]⟩, x] 35)).alloc (.cells #[.int .u8 ((i : Int) % 256), .int .u8 ((i : Int) / 256 % 256), .int .u8 ((i : Int) / 65536 % 256)] 5)).heap[w.heap.size]? = some (.cells #[.string ⟨#[]⟩, x] 35 (0, 0))) := fun x => hide (by
    show (((w.heap.push _).push _)[w.heap.size]?) = _
    rw [Array.getElem?_push_lt (by simp)]
    simp)
  have HB : ∀ x : Value, Hid (Below w.heap.size w ((w.alloc (.cells #[.string ⟨#[]⟩, x] 35)).alloc (.cells #[.int .u8 ((i : Int) % 256), .int .u8 ((i : Int) / 256 % 256), .int .u8 ((i : Int) / 65536 % 256)] 5))) := fun x => hide (((Below.refl w.heap.size w).alloc (Nat.le_refl _) _).alloc (by simp) _)
  have HE : S (mk i).2 = .string (⟨#[109, 97, 114, 107]⟩ ++ ⟨#[UInt8.ofNat i, UInt8.ofNat (i / 256), UInt8.ofNat (i / 65536)]⟩) :=
    (congrArg Value.string (ba_app2 [109, 97, 114, 107] [UInt8.ofNat i, UInt8.ofNat (i / 256), UInt8.ofNat (i / 65536)])).symm
  rw [HE]
  clear hA HE
  go_enter Tryz.func55, Tryz.ntmps55
  go_wp2
  refine bodyPost_ret (results_c1 (p := 2) rfl _ _ w.heap.size _ _ rfl ((cell_of_heap (unhide (HA1 _)) 0).trans rfl) ((cell_of_heap (unhide (HA1 _)) 1).trans rfl)) rfl ⟨rfl, unhide (HB _)⟩
end Go.Proofs.YthlacailhfhjnaaGreatDoor
