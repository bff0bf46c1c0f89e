import Derived.Test.YtllialbdofklgaaGreatDoorNfa
import Derived.Test.YtllialbdofklgaaGreatDoorNfs
import Derived.Sort.OwnSortedInts
namespace Go.Proofs.YtllialbdofklgaaGreatDoor
open Go.RowKit Go.Sort
set_option maxHeartbeats 4000000
set_option maxRecDepth 8000
def srt (zs : List Int) : List Int := zs.mergeSort fun x y => decide (x ≤ y)
/-- No two of them are the same. -/
def unl (zs : List Int) : Bool := decide ((Go.Lib.compact (srt zs)).length = zs.length)
theorem srt_len (zs : List Int) : (srt zs).length = zs.length := by unfold srt; exact List.length_mergeSort _
theorem unl_nodup {zs : List Int} (h : zs.Nodup) : unl zs = true := by
  unfold unl
  rw [decide_eq_true_eq, ← srt_len zs]
  congr 1
  have hn : (srt zs).Nodup := by unfold srt; exact (List.mergeSort_perm zs _).symm.nodup h
  refine Go.Lib.compact_all _ fun j hj => ?_
  rcases Nat.eq_zero_or_pos j with rfl | hp
  · exact Go.Lib.keeps_lt_one _ 0 (by omega)
  · apply Go.Lib.keeps_pos
    have h1 : (srt zs).toArray[j]! = (srt zs)[j] := by rw [getElem!_pos _ j (by simpa using hj)]; simp
    have h2 : (srt zs).toArray[j - 1]! = (srt zs)[j - 1] := by rw [getElem!_pos _ (j - 1) (by simp; omega)]; simp
    rw [h1, h2]
    have := List.pairwise_iff_getElem.1 hn (j - 1) j (by omega) hj (by omega)
    exact fun e => this e.symm
theorem values_any (a : Option Addr) (n cap : Nat) (w : World) :
    Calls Tryz.prog 123 #[.slice a n cap] w fun e w' => e = .returned (.func (.func 135) #[] #[ptr w.heap.size]) ∧ w' = w.alloc (.cells #[.slice a n cap] 23) := by
  go_enter Tryz.func123, Tryz.ntmps123
  go_wp2
  go_ret
  exact ⟨rfl, rfl⟩
theorem collect_any (B len cap : Nat) (a : Option Addr) (zs : List Int) (hlen : len ≤ 4294967296) (w : World) (hB : B < w.heap.size) (hc : w.cell? ⟨B, 0, none⟩ = some (.slice a len cap)) (hI : Ins w a len zs) :
    Calls Tryz.prog 133 #[.func (.func 135) #[] #[ptr B]] w fun e W' => ∃ v, e = .returned v ∧ W'.ownsRow w.heap.size 3 1 v zs.length (zs.map (Value.int .i64)) ∧ Below w.heap.size w W' := by
  have H := hide (appendSeq_any B len cap a zs hlen w hB hc hI)
  clear hB hc hI hlen
  go_enter Tryz.func133, Tryz.ntmps133
  go_wp2_with fail
  refine (unhide H).mono ?_
  rintro e w1 ⟨v, rfl, h1, h2⟩
  have H1 := hide h1
  have H2 := hide h2
  clear h1 h2 H
  go_wp2
  go_ret
  exact ⟨v, rfl, unhide H1, unhide H2⟩
theorem put_grown {w : World} {g q : Nat} (d : Array Int) : w.grownBy (putRow (Value.int .i64) (Sort.ahead w q) g 0 d) (some g) := by
  refine ⟨rfl, rfl, rfl, by simp, fun k hk hne => ?_⟩
  have : g ≠ k := fun e => hne (by rw [e])
  simp [putRow, mapBlock, Sort.ahead, Array.getElem?_modify, this]
theorem sorted_any (B len cap : Nat) (a : Option Addr) (zs : List Int) (hlen : len ≤ 4294967296) (h0 : 0 < len) (w : World) (hB : B < w.heap.size) (hc : w.cell? ⟨B, 0, none⟩ = some (.slice a len cap)) (hI : Ins w a len zs) :
    Calls Tryz.prog 122 #[.func (.func 135) #[] #[ptr B]] w fun e W' => ∃ g cap, e = .returned (.slice (some ⟨g, 0, none⟩) zs.length cap) ∧ zs.length ≤ cap ∧ w.heap.size ≤ g ∧ Holds (Value.int .i64) W' g 0 (srt zs).toArray ∧ Below w.heap.size w W' := by
  have hz := hI.1
  have H := hide (collect_any B len cap a zs hlen w hB hc hI)
  clear hB hc hI
  go_enter Tryz.func122, Tryz.ntmps122
  go_wp2_with fail
  refine (unhide H).mono ?_
  rintro e w1 ⟨v, rfl, h1, h2⟩
  clear H
  rcases h1.2 with ⟨rfl, q⟩ | ⟨gb, cp, cur, rfl, hbase, hgb, r1, r2, r3, r4⟩
  · omega
  have hgl : gb < w1.heap.size := lt_of_row hgb
  have HS : Hid (Calls Tryz.prog 134 #[.slice (some ⟨gb, 0, none⟩) zs.length cp] w1 fun e w' => e = .returned (.tuple #[]) ∧ ∃ n os, w' = grow (putRow (Value.int .i64) (Sort.ahead w1 n) gb 0 (srt zs).toArray) os) :=
    Any.slices_Sort_int Tryz.lays189 gb 0 cp zs w1 (holds_of_blockI hgb (by simpa using r4)) hgl (by omega)
  have H2 := hide h2
  have HG := hide hgb
  have HR := hide (show zs.length ≤ cp ∧ cp ≤ maxLen ∧ cur.size = cp * 1 ∧ w.heap.size ≤ gb from ⟨r1, r2, r3, hbase⟩)
  clear h1 h2 hgb r1 r2 r3 r4 hgl
  go_wp2_with fail
  refine (unhide HS).mono ?_
  rintro e w2 ⟨rfl, n, os, rfl⟩
  obtain ⟨r1, r2, r3, hbase⟩ := unhide HR
  have own := ownsRow_sortedI (n := n) (os := os) (ts := srt zs) (ss := zs) (srt_len zs) hbase (unhide HG) r1 r2 r3
  have hb := (unhide H2).grown (grownBy_sortedI (n := n) (os := os) (g := gb) (srt zs).toArray) (unhide H2).size (fun j e => by cases e; exact hbase)
  have HO := hide own
  have HB := hide hb
  clear own hb HS H2 HG HR r2 r3
  generalize grow (putRow (Value.int .i64) (Sort.ahead w1 n) gb 0 (srt zs).toArray) os = W2 at *
  go_wp2
  go_ret
  refine ⟨gb, cp, rfl, r1, hbase, ?_, unhide HB⟩
  rcases (unhide HO).2 with ⟨q, _⟩ | ⟨g', c', cur', q, -, hg', -, -, -, t4⟩
  · cases q
  · cases q
    exact holds_of_blockI hg' (by rw [srt_len]; simpa using t4)
theorem areUnlike_any (a : Option Addr) (n cap : Nat) (zs : List Int) (w : World) (hI : Ins w a n zs) (h0 : 0 < n) (hn : n ≤ 4294967296) :
    Calls Tryz.prog 103 #[.slice a n cap] w fun e w' => e = .returned (.bool (unl zs)) ∧ Below w.heap.size w w' := by
  have hz := hI.1
  have HZ := hide hz
  have hA := (Below.refl w.heap.size w).alloc (Nat.le_refl _) (.cells #[.slice a n cap] 23)
  have hg := heap_alloc_new w (.cells #[.slice a n cap] 23)
  have H1 := hide (values_any a n cap w)
  have H2 := hide (sorted_any w.heap.size n cap a zs hn h0 (w.alloc (.cells #[.slice a n cap] 23)) (lt_of_row hg) (cell_of_row _ _ 0 _ 23 (0, 0) hg) (hI.below hA))
  have HA := hide hA
  have HF := hide (show unl zs = decide ((Go.Lib.compact (srt zs)).length = zs.length) from rfl)
  generalize unl zs = F at *
  clear hI hA hg hz
  go_enter Tryz.func103, Tryz.ntmps103
  go_wp2_with fail
  refine (unhide H1).mono ?_
  rintro e w1 ⟨rfl, rfl⟩
  generalize w.alloc (.cells #[.slice a n cap] 23) = W1 at *
  go_wp2_with fail
  refine (unhide H2).mono ?_
  rintro e w2 ⟨g, cp, rfl, hcp, hgl, hH, hb⟩
  have HC : Hid (Calls Tryz.prog 124 #[.slice (some ⟨g, 0, none⟩) zs.length cp] w2 fun e w' => e = .returned (.slice (some ⟨g, 0, none⟩) (Go.Lib.compact (srt zs)).length cp) ∧ ∃ q, w' = putRow (Value.int .i64) (Sort.ahead w2 q) g 0 (Go.Lib.compact (srt zs) ++ List.replicate ((srt zs).length - (Go.Lib.compact (srt zs)).length) 0).toArray) := by
    have := Any.slices_Compact_int Tryz.lays20 g 0 cp (srt zs) w2 hH (by have := unhide HZ; rw [srt_len]; omega) (by rw [srt_len]; exact hcp)
    rw [srt_len] at this ⊢
    exact this
  have HB := hide ((unhide HA).trans (hb.mono (unhide HA).size))
  have hgl2 : w.heap.size ≤ g := Nat.le_trans (unhide HA).size hgl
  have hcl : (Go.Lib.compact (srt zs)).length ≤ 4294967296 := by
    have : (Go.Lib.compact (srt zs)).length ≤ (srt zs).length := by
      unfold Go.Lib.compact Go.Lib.compactUpTo
      rw [List.length_map]
      exact Nat.le_trans (List.length_filter_le _ _) (by simp)
    rw [srt_len] at this
    have := unhide HZ
    omega
  clear hH hb H2 H1 HA
  generalize hC : Go.Lib.compact (srt zs) = C at *
  clear hC
  generalize hcc : C.length = c at *
  go_wp2_with fail
  refine (unhide HC).mono ?_
  rintro e w3 ⟨rfl, q, rfl⟩
  have HB2 := hide ((unhide HB).grown (put_grown (q := q) (g := g) (C ++ List.replicate ((srt zs).length - c) 0).toArray) (unhide HB).size (fun j e => by cases e; exact hgl2))
  clear HC HB
  generalize putRow (Value.int .i64) (Sort.ahead w2 q) g 0 (C ++ List.replicate ((srt zs).length - c) 0).toArray = W3 at *
  generalize hzl : zs.length = zl at *
  have hz := unhide HZ
  clear HZ
  subst hz
  go_wp2
  go_ret
  exact ⟨ret_bool (by rw [unhide HF, Bool.eq_iff_iff]; simp; omega), unhide HB2⟩
end Go.Proofs.YtllialbdofklgaaGreatDoor
