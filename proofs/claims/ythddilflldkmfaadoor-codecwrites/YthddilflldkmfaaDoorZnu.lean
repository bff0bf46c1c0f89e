import Derived.Test.YthddilflldkmfaaDoorWrtd
import Derived.Test.YthddilflldkmfaaDoorOpx
namespace Go.Proofs.YthddilflldkmfaaDoor
open Go.RowKit Go.Lib
/-- A Writer behind numbers. -/
def wNums (X : List UInt8) (E : Nat) (size : Int) (zs : List Int) : List UInt8 × Nat := zs.foldl (fun p z => wPut p.1 p.2 (numE size z) (numY size z)) (X, E)
theorem wNums_next (X : List UInt8) (E : Nat) (size : Int) (zs : List Int) (k : Nat) (h : k < zs.length) : wNums X E size (zs.take (k + 1)) = wPut (wNums X E size (zs.take k)).1 (wNums X E size (zs.take k)).2 (numE size (zs.getD k 0)) (numY size (zs.getD k 0)) := by
  have e : zs.take (k + 1) = zs.take k ++ [zs.getD k 0] := by
    rw [List.take_succ_eq_append_getElem h]
    simp [h]
  unfold wNums
  rw [e, List.foldl_append]
  rfl
theorem wPut_len (X : List UInt8) (E : Nat) (size z : Int) : (wPut X E (numE size z) (numY size z)).1.length ≤ X.length + 8 := by
  unfold wPut
  split
  · simp
  · split
    · simp
    · rename_i h
      have : 1 ≤ size ∧ size ≤ 8 := by
        by_cases q : 1 ≤ size ∧ size ≤ 8
        · exact q
        · exact absurd (by simp [numE, q] : numE size z ≠ 0) (by simpa using h)
      simp [numY, be_len]
      omega
theorem wNums_len (X : List UInt8) (E : Nat) (size : Int) (zs : List Int) (k : Nat) (h : k ≤ zs.length) : (wNums X E size (zs.take k)).1.length ≤ X.length + 8 * k := by
  induction k with
  | zero => simp [wNums]
  | succ k ih =>
    rw [wNums_next X E size zs k (by omega)]
    have h1 := ih (by omega)
    have h2 := wPut_len (wNums X E size (zs.take k)).1 (wNums X E size (zs.take k)).2 size (zs.getD k 0)
    omega
/-- Numbers of one kind, one behind the other in memory. -/
def Zs (K : IntKind) (g n : Nat) (zs : List Int) (w : World) : Prop := n = zs.length ∧ g < w.heap.size ∧ ∀ j, j < n → w.cell? ⟨g, j, none⟩ = some (.int K (zs.getD j 0))
set_option maxHeartbeats 1000000 in
set_option maxRecDepth 8000 in
theorem nums_int (b : Nat) (v : Value) (X : List UInt8) (E : Nat) (size : Int) (g n cap : Nat) (zs : List Int) (w : World) (h : WAt b v X E w) (hz : Zs .i64 g n zs w) (hb : ∀ z ∈ zs, -9223372036854775808 ≤ z ∧ z ≤ 9223372036854775807) (hne : ¬ foot b v g) (hX : X.length + 8 * n ≤ 70368744177664) :
    Calls Tryd.prog 61 #[.pointer (some ⟨b, 0, none⟩), .int .i64 size, .slice (some ⟨g, 0, none⟩) n cap] w fun e w' => e = .returned (.tuple #[]) ∧ WTo b v (wNums X E size zs).1 (wNums X E size zs).2 w w' := by
  have HZ := hide hz
  have HB := hide hb
  have HW := hide (WTo.same h)
  clear h hz hb
  go_enter Tryd.func61, Tryd.ntmps61
  go_wp2
  go_loopw [10] (fun i wr => ∃ k : Nat, k ≤ n ∧ i = .int .i64 k ∧ WTo b v (wNums X E size (zs.take k)).1 (wNums X E size (zs.take k)).2 w wr) (fun i _ => n - (Go.RowKit.intOf i).toNat)
  case atStart => exact ⟨0, by omega, rfl, unhide HW⟩
  case round =>
    obtain ⟨k, hk, rfl, hto⟩ := hrel
    by_cases hlt : k < n
    · have hlt' : (k : Int) < (n : Int) := by omega
      have hn : n = zs.length := (unhide HZ).1
      have hlen := wNums_len X E size zs k (by omega)
      have hnx := hide (wNums_next X E size zs k (by omega))
      obtain ⟨v', hA, hO, hF⟩ := hto
      have hcell : wr.cell? ⟨g, k, none⟩ = some (.int .i64 (zs.getD k 0)) := (World.cell?_of_block (hO.block g (unhide HZ).2.1 hne)).trans ((unhide HZ).2.2 k hlt)
      have hzb := unhide HB (zs.getD k 0) (by rw [List.getD_eq_getElem?_getD, List.getElem?_eq_getElem (by omega)]; exact List.getElem_mem _)
      have HC := hide (wnum_any b v' (wNums X E size (zs.take k)).1 (wNums X E size (zs.take k)).2 size (zs.getD k 0) wr hA hzb.2 (by omega))
      have HO := hide (And.intro hO hF)
      clear hA hO hF HW hn
      generalize zs.getD k 0 = z at *
      obtain ⟨hz0, hz1⟩ := hzb
      go_wp2_with fail
      refine (unhide HC).mono ?_
      rintro e w2 ⟨rfl, h2⟩
      have HT := hide (WTo.step (unhide HO).1 (unhide HO).2 h2)
      clear h2 HC HO
      go_wp2
      refine ⟨⟨k + 1, by omega, by go_num, by rw [unhide hnx]; exact unhide HT⟩, ?_⟩
      simp [Go.RowKit.intOf]; omega
    · have hd : decide (k < n) = false := by simp; omega
      have e : zs.take k = zs := List.take_of_length_le (by have := (unhide HZ).1; omega)
      rw [e] at hto
      have HT := hide hto
      clear hto HW
      go_wp2
      go_end0
      exact ⟨rfl, unhide HT⟩
set_option maxHeartbeats 1000000 in
set_option maxRecDepth 8000 in
theorem nums_i32 (b : Nat) (v : Value) (X : List UInt8) (E : Nat) (size : Int) (g n cap : Nat) (zs : List Int) (w : World) (h : WAt b v X E w) (hz : Zs .i32 g n zs w) (hb : ∀ z ∈ zs, -9223372036854775808 ≤ z ∧ z ≤ 9223372036854775807) (hne : ¬ foot b v g) (hX : X.length + 8 * n ≤ 70368744177664) :
    Calls Tryd.prog 62 #[.pointer (some ⟨b, 0, none⟩), .int .i64 size, .slice (some ⟨g, 0, none⟩) n cap] w fun e w' => e = .returned (.tuple #[]) ∧ WTo b v (wNums X E size zs).1 (wNums X E size zs).2 w w' := by
  have HZ := hide hz
  have HB := hide hb
  have HW := hide (WTo.same h)
  clear h hz hb
  go_enter Tryd.func62, Tryd.ntmps62
  go_wp2
  go_loopw [10] (fun i wr => ∃ k : Nat, k ≤ n ∧ i = .int .i64 k ∧ WTo b v (wNums X E size (zs.take k)).1 (wNums X E size (zs.take k)).2 w wr) (fun i _ => n - (Go.RowKit.intOf i).toNat)
  case atStart => exact ⟨0, by omega, rfl, unhide HW⟩
  case round =>
    obtain ⟨k, hk, rfl, hto⟩ := hrel
    by_cases hlt : k < n
    · have hlt' : (k : Int) < (n : Int) := by omega
      have hn : n = zs.length := (unhide HZ).1
      have hlen := wNums_len X E size zs k (by omega)
      have hnx := hide (wNums_next X E size zs k (by omega))
      obtain ⟨v', hA, hO, hF⟩ := hto
      have hcell : wr.cell? ⟨g, k, none⟩ = some (.int .i32 (zs.getD k 0)) := (World.cell?_of_block (hO.block g (unhide HZ).2.1 hne)).trans ((unhide HZ).2.2 k hlt)
      have hzb := unhide HB (zs.getD k 0) (by rw [List.getD_eq_getElem?_getD, List.getElem?_eq_getElem (by omega)]; exact List.getElem_mem _)
      have HC := hide (wnum_any b v' (wNums X E size (zs.take k)).1 (wNums X E size (zs.take k)).2 size (zs.getD k 0) wr hA hzb.2 (by omega))
      have HO := hide (And.intro hO hF)
      clear hA hO hF HW hn
      generalize zs.getD k 0 = z at *
      obtain ⟨hz0, hz1⟩ := hzb
      go_wp2_with fail
      refine (unhide HC).mono ?_
      rintro e w2 ⟨rfl, h2⟩
      have HT := hide (WTo.step (unhide HO).1 (unhide HO).2 h2)
      clear h2 HC HO
      go_wp2
      refine ⟨⟨k + 1, by omega, by go_num, by rw [unhide hnx]; exact unhide HT⟩, ?_⟩
      simp [Go.RowKit.intOf]; omega
    · have hd : decide (k < n) = false := by simp; omega
      have e : zs.take k = zs := List.take_of_length_le (by have := (unhide HZ).1; omega)
      rw [e] at hto
      have HT := hide hto
      clear hto HW
      go_wp2
      go_end0
      exact ⟨rfl, unhide HT⟩
set_option maxHeartbeats 1000000 in
set_option maxRecDepth 8000 in
theorem nums_i64 (b : Nat) (v : Value) (X : List UInt8) (E : Nat) (size : Int) (g n cap : Nat) (zs : List Int) (w : World) (h : WAt b v X E w) (hz : Zs .i64 g n zs w) (hb : ∀ z ∈ zs, -9223372036854775808 ≤ z ∧ z ≤ 9223372036854775807) (hne : ¬ foot b v g) (hX : X.length + 8 * n ≤ 70368744177664) :
    Calls Tryd.prog 63 #[.pointer (some ⟨b, 0, none⟩), .int .i64 size, .slice (some ⟨g, 0, none⟩) n cap] w fun e w' => e = .returned (.tuple #[]) ∧ WTo b v (wNums X E size zs).1 (wNums X E size zs).2 w w' := by
  have HZ := hide hz
  have HB := hide hb
  have HW := hide (WTo.same h)
  clear h hz hb
  go_enter Tryd.func63, Tryd.ntmps63
  go_wp2
  go_loopw [10] (fun i wr => ∃ k : Nat, k ≤ n ∧ i = .int .i64 k ∧ WTo b v (wNums X E size (zs.take k)).1 (wNums X E size (zs.take k)).2 w wr) (fun i _ => n - (Go.RowKit.intOf i).toNat)
  case atStart => exact ⟨0, by omega, rfl, unhide HW⟩
  case round =>
    obtain ⟨k, hk, rfl, hto⟩ := hrel
    by_cases hlt : k < n
    · have hlt' : (k : Int) < (n : Int) := by omega
      have hn : n = zs.length := (unhide HZ).1
      have hlen := wNums_len X E size zs k (by omega)
      have hnx := hide (wNums_next X E size zs k (by omega))
      obtain ⟨v', hA, hO, hF⟩ := hto
      have hcell : wr.cell? ⟨g, k, none⟩ = some (.int .i64 (zs.getD k 0)) := (World.cell?_of_block (hO.block g (unhide HZ).2.1 hne)).trans ((unhide HZ).2.2 k hlt)
      have hzb := unhide HB (zs.getD k 0) (by rw [List.getD_eq_getElem?_getD, List.getElem?_eq_getElem (by omega)]; exact List.getElem_mem _)
      have HC := hide (wnum_any b v' (wNums X E size (zs.take k)).1 (wNums X E size (zs.take k)).2 size (zs.getD k 0) wr hA hzb.2 (by omega))
      have HO := hide (And.intro hO hF)
      clear hA hO hF HW hn
      generalize zs.getD k 0 = z at *
      obtain ⟨hz0, hz1⟩ := hzb
      go_wp2_with fail
      refine (unhide HC).mono ?_
      rintro e w2 ⟨rfl, h2⟩
      have HT := hide (WTo.step (unhide HO).1 (unhide HO).2 h2)
      clear h2 HC HO
      go_wp2
      refine ⟨⟨k + 1, by omega, by go_num, by rw [unhide hnx]; exact unhide HT⟩, ?_⟩
      simp [Go.RowKit.intOf]; omega
    · have hd : decide (k < n) = false := by simp; omega
      have e : zs.take k = zs := List.take_of_length_le (by have := (unhide HZ).1; omega)
      rw [e] at hto
      have HT := hide hto
      clear hto HW
      go_wp2
      go_end0
      exact ⟨rfl, unhide HT⟩
set_option maxHeartbeats 1000000 in
set_option maxRecDepth 8000 in
theorem nums_u8 (b : Nat) (v : Value) (X : List UInt8) (E : Nat) (size : Int) (g n cap : Nat) (zs : List Int) (w : World) (h : WAt b v X E w) (hz : Zs .u8 g n zs w) (hb : ∀ z ∈ zs, -9223372036854775808 ≤ z ∧ z ≤ 9223372036854775807) (hne : ¬ foot b v g) (hX : X.length + 8 * n ≤ 70368744177664) :
    Calls Tryd.prog 64 #[.pointer (some ⟨b, 0, none⟩), .int .i64 size, .slice (some ⟨g, 0, none⟩) n cap] w fun e w' => e = .returned (.tuple #[]) ∧ WTo b v (wNums X E size zs).1 (wNums X E size zs).2 w w' := by
  have HZ := hide hz
  have HB := hide hb
  have HW := hide (WTo.same h)
  clear h hz hb
  go_enter Tryd.func64, Tryd.ntmps64
  go_wp2
  go_loopw [10] (fun i wr => ∃ k : Nat, k ≤ n ∧ i = .int .i64 k ∧ WTo b v (wNums X E size (zs.take k)).1 (wNums X E size (zs.take k)).2 w wr) (fun i _ => n - (Go.RowKit.intOf i).toNat)
  case atStart => exact ⟨0, by omega, rfl, unhide HW⟩
  case round =>
    obtain ⟨k, hk, rfl, hto⟩ := hrel
    by_cases hlt : k < n
    · have hlt' : (k : Int) < (n : Int) := by omega
      have hn : n = zs.length := (unhide HZ).1
      have hlen := wNums_len X E size zs k (by omega)
      have hnx := hide (wNums_next X E size zs k (by omega))
      obtain ⟨v', hA, hO, hF⟩ := hto
      have hcell : wr.cell? ⟨g, k, none⟩ = some (.int .u8 (zs.getD k 0)) := (World.cell?_of_block (hO.block g (unhide HZ).2.1 hne)).trans ((unhide HZ).2.2 k hlt)
      have hzb := unhide HB (zs.getD k 0) (by rw [List.getD_eq_getElem?_getD, List.getElem?_eq_getElem (by omega)]; exact List.getElem_mem _)
      have HC := hide (wnum_any b v' (wNums X E size (zs.take k)).1 (wNums X E size (zs.take k)).2 size (zs.getD k 0) wr hA hzb.2 (by omega))
      have HO := hide (And.intro hO hF)
      clear hA hO hF HW hn
      generalize zs.getD k 0 = z at *
      obtain ⟨hz0, hz1⟩ := hzb
      go_wp2_with fail
      refine (unhide HC).mono ?_
      rintro e w2 ⟨rfl, h2⟩
      have HT := hide (WTo.step (unhide HO).1 (unhide HO).2 h2)
      clear h2 HC HO
      go_wp2
      refine ⟨⟨k + 1, by omega, by go_num, by rw [unhide hnx]; exact unhide HT⟩, ?_⟩
      simp [Go.RowKit.intOf]; omega
    · have hd : decide (k < n) = false := by simp; omega
      have e : zs.take k = zs := List.take_of_length_le (by have := (unhide HZ).1; omega)
      rw [e] at hto
      have HT := hide hto
      clear hto HW
      go_wp2
      go_end0
      exact ⟨rfl, unhide HT⟩
set_option maxHeartbeats 1000000 in
set_option maxRecDepth 8000 in
theorem nums_u16 (b : Nat) (v : Value) (X : List UInt8) (E : Nat) (size : Int) (g n cap : Nat) (zs : List Int) (w : World) (h : WAt b v X E w) (hz : Zs .u16 g n zs w) (hb : ∀ z ∈ zs, -9223372036854775808 ≤ z ∧ z ≤ 9223372036854775807) (hne : ¬ foot b v g) (hX : X.length + 8 * n ≤ 70368744177664) :
    Calls Tryd.prog 65 #[.pointer (some ⟨b, 0, none⟩), .int .i64 size, .slice (some ⟨g, 0, none⟩) n cap] w fun e w' => e = .returned (.tuple #[]) ∧ WTo b v (wNums X E size zs).1 (wNums X E size zs).2 w w' := by
  have HZ := hide hz
  have HB := hide hb
  have HW := hide (WTo.same h)
  clear h hz hb
  go_enter Tryd.func65, Tryd.ntmps65
  go_wp2
  go_loopw [10] (fun i wr => ∃ k : Nat, k ≤ n ∧ i = .int .i64 k ∧ WTo b v (wNums X E size (zs.take k)).1 (wNums X E size (zs.take k)).2 w wr) (fun i _ => n - (Go.RowKit.intOf i).toNat)
  case atStart => exact ⟨0, by omega, rfl, unhide HW⟩
  case round =>
    obtain ⟨k, hk, rfl, hto⟩ := hrel
    by_cases hlt : k < n
    · have hlt' : (k : Int) < (n : Int) := by omega
      have hn : n = zs.length := (unhide HZ).1
      have hlen := wNums_len X E size zs k (by omega)
      have hnx := hide (wNums_next X E size zs k (by omega))
      obtain ⟨v', hA, hO, hF⟩ := hto
      have hcell : wr.cell? ⟨g, k, none⟩ = some (.int .u16 (zs.getD k 0)) := (World.cell?_of_block (hO.block g (unhide HZ).2.1 hne)).trans ((unhide HZ).2.2 k hlt)
      have hzb := unhide HB (zs.getD k 0) (by rw [List.getD_eq_getElem?_getD, List.getElem?_eq_getElem (by omega)]; exact List.getElem_mem _)
      have HC := hide (wnum_any b v' (wNums X E size (zs.take k)).1 (wNums X E size (zs.take k)).2 size (zs.getD k 0) wr hA hzb.2 (by omega))
      have HO := hide (And.intro hO hF)
      clear hA hO hF HW hn
      generalize zs.getD k 0 = z at *
      obtain ⟨hz0, hz1⟩ := hzb
      go_wp2_with fail
      refine (unhide HC).mono ?_
      rintro e w2 ⟨rfl, h2⟩
      have HT := hide (WTo.step (unhide HO).1 (unhide HO).2 h2)
      clear h2 HC HO
      go_wp2
      refine ⟨⟨k + 1, by omega, by go_num, by rw [unhide hnx]; exact unhide HT⟩, ?_⟩
      simp [Go.RowKit.intOf]; omega
    · have hd : decide (k < n) = false := by simp; omega
      have e : zs.take k = zs := List.take_of_length_le (by have := (unhide HZ).1; omega)
      rw [e] at hto
      have HT := hide hto
      clear hto HW
      go_wp2
      go_end0
      exact ⟨rfl, unhide HT⟩
set_option maxHeartbeats 1000000 in
set_option maxRecDepth 8000 in
theorem nums_u32 (b : Nat) (v : Value) (X : List UInt8) (E : Nat) (size : Int) (g n cap : Nat) (zs : List Int) (w : World) (h : WAt b v X E w) (hz : Zs .u32 g n zs w) (hb : ∀ z ∈ zs, -9223372036854775808 ≤ z ∧ z ≤ 9223372036854775807) (hne : ¬ foot b v g) (hX : X.length + 8 * n ≤ 70368744177664) :
    Calls Tryd.prog 66 #[.pointer (some ⟨b, 0, none⟩), .int .i64 size, .slice (some ⟨g, 0, none⟩) n cap] w fun e w' => e = .returned (.tuple #[]) ∧ WTo b v (wNums X E size zs).1 (wNums X E size zs).2 w w' := by
  have HZ := hide hz
  have HB := hide hb
  have HW := hide (WTo.same h)
  clear h hz hb
  go_enter Tryd.func66, Tryd.ntmps66
  go_wp2
  go_loopw [10] (fun i wr => ∃ k : Nat, k ≤ n ∧ i = .int .i64 k ∧ WTo b v (wNums X E size (zs.take k)).1 (wNums X E size (zs.take k)).2 w wr) (fun i _ => n - (Go.RowKit.intOf i).toNat)
  case atStart => exact ⟨0, by omega, rfl, unhide HW⟩
  case round =>
    obtain ⟨k, hk, rfl, hto⟩ := hrel
    by_cases hlt : k < n
    · have hlt' : (k : Int) < (n : Int) := by omega
      have hn : n = zs.length := (unhide HZ).1
      have hlen := wNums_len X E size zs k (by omega)
      have hnx := hide (wNums_next X E size zs k (by omega))
      obtain ⟨v', hA, hO, hF⟩ := hto
      have hcell : wr.cell? ⟨g, k, none⟩ = some (.int .u32 (zs.getD k 0)) := (World.cell?_of_block (hO.block g (unhide HZ).2.1 hne)).trans ((unhide HZ).2.2 k hlt)
      have hzb := unhide HB (zs.getD k 0) (by rw [List.getD_eq_getElem?_getD, List.getElem?_eq_getElem (by omega)]; exact List.getElem_mem _)
      have HC := hide (wnum_any b v' (wNums X E size (zs.take k)).1 (wNums X E size (zs.take k)).2 size (zs.getD k 0) wr hA hzb.2 (by omega))
      have HO := hide (And.intro hO hF)
      clear hA hO hF HW hn
      generalize zs.getD k 0 = z at *
      obtain ⟨hz0, hz1⟩ := hzb
      go_wp2_with fail
      refine (unhide HC).mono ?_
      rintro e w2 ⟨rfl, h2⟩
      have HT := hide (WTo.step (unhide HO).1 (unhide HO).2 h2)
      clear h2 HC HO
      go_wp2
      refine ⟨⟨k + 1, by omega, by go_num, by rw [unhide hnx]; exact unhide HT⟩, ?_⟩
      simp [Go.RowKit.intOf]; omega
    · have hd : decide (k < n) = false := by simp; omega
      have e : zs.take k = zs := List.take_of_length_le (by have := (unhide HZ).1; omega)
      rw [e] at hto
      have HT := hide hto
      clear hto HW
      go_wp2
      go_end0
      exact ⟨rfl, unhide HT⟩
end Go.Proofs.YthddilflldkmfaaDoor
