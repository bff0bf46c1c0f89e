import Derived.RangeFuncNested
import Derived.RangeFuncBound
import Derived.RangeFuncCalls
import Derived.RangeFuncLeaves
import Derived.RangeFuncBox
import Derived.Shelf.Abstract
import Derived.Shelf.RegionOpen
import Derived.WalkKit
import Derived.OwnWalkIn
import Derived.TacticsInMore
import Derived.LoopNIn
import Derived.LoopIn
import Derived.Maps.AppendAt
import Derived.Test.YtllialbdofklgaaGreatDoorZzab
import Derived.Shelf.Sort.Plain
import Derived.Shelf.Slices.In.SortNone
import Derived.Shelf.Slices.CompactI
import Derived.Shelf.Slices.Clone
import Derived.Test.YtllialbdofklgaaGreatDoorProg
import Derived.Sort.OwnSortedInts
namespace Go.Proofs.YtllialbdofklgaaGreatDoor
open Go.RowKit Go.Shelf
attribute [local go_sem] Oper.semAt_some
theorem take_next (zs : List Int) {k : Nat} (hk : k < zs.length) : zs.take (k + 1) = zs.take k ++ [zs.getD k 0] := by
  rw [List.take_succ_eq_append_getElem hk, List.getD_eq_getElem?_getD, List.getElem?_eq_getElem hk]
  rfl
set_option maxRecDepth 100000 in
set_option maxHeartbeats 2000000 in
/-- The iterator of slices.Values: it gives the list's numbers, one by one. -/
theorem vals1 (F : Fence) (n : Nat) (hf : F.fn 135) (hro : F.round = none) (hn : 1 ≤ n) (l B n₀ len cap : Nat) (a : Option Addr) (zs : List Int) (hlen : len ≤ 4294967296) (J Jx : List Int → World → Prop)
    (hY : ∀ pre x W, J pre W → pre.length < len → YieldAt F (n - 1) Tryz.prog l #[.int .i64 x] W fun e W' =>
      (e = .returned (.bool true) ∧ J (pre ++ [x]) W' ∧ Below n₀ W W') ∨ (e = .returned (.bool false) ∧ Jx (pre ++ [x]) W'))
    (W : World) (hBs : W.cell? ⟨B, 0, none⟩ = some (.slice a len cap)) (hI : Ins W a len zs) (hn0 : ∀ p o, a = some ⟨p, o, none⟩ → 0 < len → p < n₀) (h0 : J [] W) :
    CallsIn F n Tryz.prog 135 #[.func (.yield l) #[] #[], .pointer (some ⟨B, 0, none⟩)] W fun e W' => (∃ v, e = .returned v) ∧
      ((∃ ys, ys = zs ∧ J ys W') ∨ (∃ pre, pre <+: zs ∧ Jx pre W')) := by
  have hN := hI.1
  have HI := hide hI
  clear hI
  refine callsIn_of_wp Tryz.func135 rfl hf ?_ hro
  simp only [Tryz.ntmps135, List.size_toArray, List.length_cons, List.length_nil, Nat.reduceAdd, Nat.reduceSub, Array.replicate_succ, Array.replicate_zero, List.push_toArray, List.append_toArray, List.nil_append, List.cons_append]
  gi_wp2
  gi_loopw [7] (fun i wr => ∃ k : Nat, k ≤ len ∧ i = .int .i64 k ∧ J (zs.take k) wr ∧ Below n₀ W wr) (fun i _ => len - (intOf i).toNat)
  case atStart => exact ⟨0, Nat.zero_le _, rfl, h0, Below.refl _ _⟩
  case round =>
    obtain ⟨k, hk, rfl, hJs, hnx⟩ := hrel
    by_cases hlt : k < len
    · obtain ⟨p, o, rfl, hp, hc⟩ := (unhide HI).at hlt
      have hc' : wr.cell? ⟨p, o + k, none⟩ = some (I (zs.getD k 0)) := (hnx.cell (p := ⟨p, o + k, none⟩) (hn0 p o rfl (by omega))).trans hc
      have HT := hide (take_next zs (k := k) (by omega))
      have hpre : (zs.take k).length < len := by rw [List.length_take]; omega
      have hpf : zs.take k ++ [zs.getD k 0] <+: zs := by rw [← unhide HT]; exact List.take_prefix _ _
      obtain ⟨fn, tmps, assign, body, hy, hR⟩ := hY (zs.take k) (zs.getD k 0) wr hJs hpre
      have HPF := hide hpf
      clear hc hpf
      generalize zs.getD k 0 = x at *
      gi_wp2
      refine hR.mono ?_
      rintro e W3 (⟨rfl, hJ3, hk3⟩ | ⟨rfl, hJx3⟩)
      · gi_wp2
        go_roundw
        case rel => exact ⟨k + 1, by omega, by simp, by rw [unhide HT]; exact hJ3, hnx.trans hk3⟩
        case measure => simp [intOf]; omega
      · gi_wp2
        refine bodyPost_ret (results_none rfl _ _ _) rfl ?_
        exact ⟨⟨_, rfl⟩, .inr ⟨_, unhide HPF, hJx3⟩⟩
    · obtain rfl : k = len := by omega
      gi_wp2
      go_end0
      exact ⟨⟨_, rfl⟩, .inl ⟨_, by rw [List.take_of_length_le (by omega)], hJs⟩⟩
theorem vals_stops (F : Fence) (n : Nat) (hf : F.fn 135) (hro : F.round = none) (hn : 1 ≤ n) (B n₀ len cap : Nat) (a : Option Addr) (zs : List Int) (hlen : len ≤ 4294967296) (w : World) (hB : B < w.heap.size) (hc : w.cell? ⟨B, 0, none⟩ = some (.slice a len cap)) (hI : Ins w a len zs) (hn0 : ∀ p o, a = some ⟨p, o, none⟩ → 0 < len → p < n₀) :
    SeqStopsK F n Tryz.prog 135 #[.pointer (some ⟨B, 0, none⟩)] (fun x : Int => #[Value.int .i64 x]) (Below n₀) (fun ys => ys = zs) (fun pre => pre <+: zs) len w := fun l J Jx W hW _ _ hY h0 =>
  vals1 F n hf hro hn l B n₀ len cap a zs hlen J Jx hY W ((hW.cell (p := ⟨B, 0, none⟩) hB).trans hc) (hI.below hW) hn0 h0
theorem info3a : (Tryz.prog.info? 3).map (fun i => (i.zero, i.size, i.bytes)) = some (some (.int .i64 0), 1, 8) := by kernel_rfl
set_option maxRecDepth 100000 in
set_option maxHeartbeats 2000000 in
theorem appendSeq_in (F : Fence) (n : Nat) (h1 : F.fn 139) (h2 : F.fn 135) (hro : F.round = none) (hn : 3 ≤ n) (B len cap : Nat) (a : Option Addr) (zs : List Int) (hlen : len ≤ 4294967296) (w : World) (hB : B < w.heap.size) (hc : w.cell? ⟨B, 0, none⟩ = some (.slice a len cap)) (hI : Ins w a len zs) :
    CallsIn F n Tryz.prog 139 #[.slice none 0 0, .func (.func 135) #[] #[.pointer (some ⟨B, 0, none⟩)]] w fun e W' => ∃ v, e = .returned v ∧ W'.ownsRow w.heap.size 3 1 v zs.length (zs.map (Value.int .i64)) ∧ Below w.heap.size w W' := by
  have hz := hI.1
  have hn1 : 1 ≤ n := by omega
  obtain ⟨i0, hi, hz0, hz1, hz2⟩ := info_parts info3a
  refine callsIn_of_wp_marks Tryz.func139 rfl h1 ?_ hro
  simp only [Tryz.ntmps139, List.size_toArray, List.length_cons, List.length_nil, Nat.reduceAdd, Nat.reduceSub, Array.replicate_succ, Array.replicate_zero, List.push_toArray, List.append_toArray, List.nil_append, List.cons_append]
  gi_wp2
  have bO := Boxed.new w 23 (.slice none 0 0)
  have hB0 : Below w.heap.size w (w.alloc (.cells #[.slice none 0 0] 23)) := (Below.refl _ w).alloc (Nat.le_refl _) _
  refine wpIn_rangeFunc_ownG hro hn1 (gf := 135) (lb := #[.pointer (some ⟨B, 0, none⟩)]) rfl h2 (enters_of Tryz.func135 (by kernel_rfl) rfl)
    (vals_stops F (n - 1) h2 hro (by omega) B w.heap.size len cap a zs hlen _ (by simp; omega) ((hB0.cell (p := ⟨B, 0, none⟩) hB).trans hc) (hI.below hB0) (fun p o e hl => by obtain ⟨p', o', e', hp, _⟩ := hI.at hl; rw [e] at e'; cases e'; exact hp)) belowK_t (belowK_b (by simp)) (Below.refl _ _) (fun _ => rfl)
    (fun pre W => (∃ v, Boxed W w.heap.size 23 v ∧ W.ownsRow w.heap.size 3 1 v pre.length (pre.map (Value.int .i64)) ∧ True) ∧ Below w.heap.size w W)
    (fun _ _ _ => False)
    (OwnFrom.and (Own.from (holdsRow_own w.heap.size w.heap.size 23 3 1 (fun pre : List Int => pre.length) (fun pre => pre.map (Value.int .i64)) (fun _ _ => True)) _) (ownFrom_below (Nat.le_refl _) (by simp)))
    (fun _ _ _ _ _ hs _ _ => hs)
    ⟨⟨_, bO, World.ownsRow_nil _ _ _ _, trivial⟩, hB0⟩
    (fun x => { tmps := #[.slice none 0 0, .func (.func 135) #[] #[.pointer (some ⟨B, 0, none⟩)], .pointer (some ⟨w.heap.size, 0, none⟩), undef, .slice none 0 0, .int .i64 x, .func (.func 135) #[] #[.pointer (some ⟨B, 0, none⟩)], .int .i64 x, undef, undef, undef, undef, undef], defers := [] }) ?assign ?body ?done ?stop
  case assign =>
    intro l x W K hK
    gi_wp2
    exact hK
  case body =>
    rintro l pre x W ⟨⟨v, hv, hrow, -⟩, hB1⟩ hlt
    have hc := hv.cell
    gi_wp2_with (gi_at_builtin; refine wpListIn_append_own _ rfl _ _ 23 rfl w.heap.size 3 i0 (.int .i64 0) 1 8 Tryz.underlying23 hi hz0 hz1 hz2 rfl (by decide) _ _ _ rfl (hrow.alloc _) ⟨W.heap.size, 0, none⟩ 1 1 [.int .i64 x] rfl rfl (cell_one_new _ _ _) (by simp [Value.oneCell']) (by unfold maxLen; omega) (by omega) (by have := hB1.size; simp; omega) ?_; intro v' w1 hown' hgrow _; obtain ⟨g', cap', rfl⟩ := ownsRow_succ hown'; obtain ⟨hv1, hv2, hr2, hk2, hb2⟩ := hv.appended (by decide) hrow hB1.size (Nat.le_refl _) hown' hgrow; have hc1 := hv1.cell; have hf1 := hv1.frozen)
    exact ⟨hk2.from _, hb2, ⟨_, hv2, by simpa using hr2, trivial⟩, hB1.trans hb2⟩
  case done =>
    rintro D ys W hD rfl ⟨⟨v, hv, hrow, -⟩, hB1⟩ hK
    have hc := hv.cell
    gi_wp2
    refine ⟨by simp, .inl ⟨_, _, rfl, run_takeDeferred hK, ?_⟩⟩
    exact ⟨_, results_tmp rfl _ _ _, v, rfl, ownsRow_putObj hrow _ hK rfl, hB1.trans (belowK_b (w := w) (Nat.le_refl _) W D _ _ (by simp at hD; omega) hK rfl rfl)⟩
  case stop =>
    rintro D c pre W _ _ h _
    exact h.elim
theorem appendSeq_any (B len cap : Nat) (a : Option Addr) (zs : List Int) (hlen : len ≤ 4294967296) (w : World) (hB : B < w.heap.size) (hc : w.cell? ⟨B, 0, none⟩ = some (.slice a len cap)) (hI : Ins w a len zs) :
    Calls Tryz.prog 139 #[.slice none 0 0, .func (.func 135) #[] #[.pointer (some ⟨B, 0, none⟩)]] w fun e W' => ∃ v, e = .returned v ∧ W'.ownsRow w.heap.size 3 1 v zs.length (zs.map (Value.int .i64)) ∧ Below w.heap.size w W' :=
  (callsIn_wide (n := 3)).1 (appendSeq_in Fence.wide 3 trivial trivial rfl (by omega) B len cap a zs hlen w hB hc hI)
end Go.Proofs.YtllialbdofklgaaGreatDoor
namespace Go.Proofs.YtllialbdofklgaaGreatDoor
open Go.Shelf
def Tryz.lays189_ren : Go.Shelf.Ren := ⟨fun | 0 => 0 | 1 => 1 | 2 => 2 | 122 => 116 | 125 => 141 | 128 => 151 | 129 => 152 | 189 => 134 | 215 => 131 | 216 => 148 | 257 => 140 | 294 => 142 | 295 => 143 | 296 => 144 | 297 => 145 | 298 => 146 | 299 => 147 | 300 => 149 | 301 => 150 | 316 => 78 | 328 => 153 | 329 => 154 | 330 => 155 | 331 => 156 | 332 => 157 | 343 => 158 | 347 => 159 | 348 => 160 | 349 => 161 | 350 => 162 | 351 => 163 | 352 => 164 | 353 => 165 | 354 => 166 | 355 => 167 | 356 => 168 | 357 => 169 | 358 => 170 | 359 => 171 | 360 => 174 | 361 => 175 | 366 => 180 | 367 => 196 | n => n, fun | 0 => 0 | 1 => 1 | 2 => 2 | 3 => 3 | 4 => 4 | 5 => 5 | 6 => 6 | 7 => 7 | 8 => 8 | 9 => 9 | 10 => 10 | 11 => 11 | 12 => 12 | 13 => 13 | 14 => 14 | 15 => 15 | 16 => 16 | 17 => 17 | 18 => 18 | 19 => 19 | 20 => 20 | 21 => 21 | 22 => 66 | 23 => 47 | 26 => 99 | 27 => 75 | 28 => 23 | 31 => 22 | 33 => 62 | 34 => 70 | 35 => 159 | 37 => 79 | 43 => 28 | 45 => 98 | 46 => 94 | 47 => 176 | 49 => 216 | 51 => 185 | 52 => 184 | 53 => 187 | 54 => 186 | 59 => 92 | 69 => 74 | 74 => 122 | 75 => 123 | 80 => 197 | 81 => 137 | 83 => 72 | 101 => 71 | 102 => 43 | 104 => 89 | 111 => 126 | 112 => 129 | 114 => 109 | 127 => 121 | 131 => 45 | 134 => 175 | 164 => 146 | 166 => 136 | 181 => 177 | 182 => 178 | 183 => 179 | 184 => 180 | 185 => 181 | 186 => 182 | 187 => 183 | 218 => 188 | 219 => 189 | 220 => 190 | 221 => 191 | 222 => 192 | 223 => 193 | 228 => 194 | 229 => 195 | 230 => 196 | 238 => 198 | 239 => 199 | 240 => 200 | 241 => 201 | 242 => 202 | 243 => 204 | 244 => 154 | 245 => 205 | 246 => 206 | 247 => 207 | 248 => 208 | 249 => 209 | n => n, fun | n => n⟩
theorem Tryz.lays189 : Go.Proofs.Lays.n189 Tryz.prog Tryz.lays189_ren := {
  mixed := by kernel_rfl
  f125 := Tryz.func141.trans (congrArg some (by kernel_rfl))
  f128 := Tryz.func151.trans (congrArg some (by kernel_rfl))
  f129 := Tryz.func152.trans (congrArg some (by kernel_rfl))
  f189 := Tryz.func134.trans (congrArg some (by kernel_rfl))
  f215 := Tryz.func131.trans (congrArg some (by kernel_rfl))
  f216 := Tryz.func148.trans (congrArg some (by kernel_rfl))
  f257 := Tryz.func140.trans (congrArg some (by kernel_rfl))
  f294 := Tryz.func142.trans (congrArg some (by kernel_rfl))
  f295 := Tryz.func143.trans (congrArg some (by kernel_rfl))
  f296 := Tryz.func144.trans (congrArg some (by kernel_rfl))
  f297 := Tryz.func145.trans (congrArg some (by kernel_rfl))
  f298 := Tryz.func146.trans (congrArg some (by kernel_rfl))
  f299 := Tryz.func147.trans (congrArg some (by kernel_rfl))
  f300 := Tryz.func149.trans (congrArg some (by kernel_rfl))
  f301 := Tryz.func150.trans (congrArg some (by kernel_rfl))
  f328 := Tryz.func153.trans (congrArg some (by kernel_rfl))
  f329 := Tryz.func154.trans (congrArg some (by kernel_rfl))
  f330 := Tryz.func155.trans (congrArg some (by kernel_rfl))
  f331 := Tryz.func156.trans (congrArg some (by kernel_rfl))
  f332 := Tryz.func157.trans (congrArg some (by kernel_rfl))
  f343 := Tryz.func158.trans (congrArg some (by kernel_rfl))
  t0 := Tryz.underlying0
  a0 := Tryz.isAgg0
  z0 := Tryz.sizeOf0
  v0 := Tryz.zeroValue0
  t3 := Tryz.underlying3
  a3 := Tryz.isAgg3
  z3 := Tryz.sizeOf3
  v3 := Tryz.zeroValue3
  t4 := Tryz.underlying4
  a4 := Tryz.isAgg4
  z4 := Tryz.sizeOf4
  v4 := Tryz.zeroValue4
  t5 := Tryz.underlying5
  a5 := Tryz.isAgg5
  z5 := Tryz.sizeOf5
  v5 := Tryz.zeroValue5
  t9 := Tryz.underlying9
  a9 := Tryz.isAgg9
  z9 := Tryz.sizeOf9
  v9 := Tryz.zeroValue9
  t28 := Tryz.underlying23
  a28 := Tryz.isAgg23
  z28 := Tryz.sizeOf23
  v28 := Tryz.zeroValue23
  t46 := Tryz.underlying94
  a46 := Tryz.isAgg94
  z46 := Tryz.sizeOf94
  v46 := Tryz.zeroValue94
  t51 := Tryz.underlying185
  a51 := Tryz.isAgg185
  z51 := Tryz.sizeOf185
  v51 := Tryz.zeroValue185
  t53 := Tryz.underlying187
  a53 := Tryz.isAgg187
  z53 := Tryz.sizeOf187
  v53 := Tryz.zeroValue187
  t131 := Tryz.underlying45
  a131 := Tryz.isAgg45
  z131 := Tryz.sizeOf45
  v131 := Tryz.zeroValue45
  t182 := Tryz.underlying178
  a182 := Tryz.isAgg178
  z182 := Tryz.sizeOf178
  v182 := Tryz.zeroValue178
  t183 := Tryz.underlying179
  a183 := Tryz.isAgg179
  z183 := Tryz.sizeOf179
  v183 := Tryz.zeroValue179
  t218 := Tryz.underlying188
  a218 := Tryz.isAgg188
  z218 := Tryz.sizeOf188
  v218 := Tryz.zeroValue188
  t222 := Tryz.underlying192
  a222 := Tryz.isAgg192
  z222 := Tryz.sizeOf192
  v222 := Tryz.zeroValue192
  t228 := Tryz.underlying194
  a228 := Tryz.isAgg194
  z228 := Tryz.sizeOf194
  v228 := Tryz.zeroValue194
  t229 := Tryz.underlying195
  a229 := Tryz.isAgg195
  z229 := Tryz.sizeOf195
  v229 := Tryz.zeroValue195 }
def Tryz.lays20_ren : Go.Shelf.Ren := ⟨fun | 0 => 0 | 1 => 1 | 2 => 2 | 15 => 61 | 20 => 124 | 31 => 148 | 37 => 131 | 40 => 159 | 41 => 160 | 42 => 161 | 43 => 162 | 44 => 163 | 45 => 164 | 46 => 165 | 47 => 166 | 48 => 167 | 49 => 168 | 50 => 169 | 51 => 170 | 52 => 171 | 53 => 174 | 54 => 175 | 55 => 180 | n => n, fun | 0 => 0 | 1 => 1 | 2 => 2 | 3 => 3 | 4 => 4 | 5 => 5 | 6 => 6 | 7 => 7 | 8 => 8 | 9 => 9 | 10 => 10 | 11 => 11 | 12 => 12 | 13 => 13 | 14 => 14 | 15 => 15 | 16 => 16 | 17 => 17 | 18 => 18 | 19 => 19 | 20 => 20 | 21 => 21 | 22 => 23 | 23 => 40 | 24 => 22 | 25 => 43 | 33 => 45 | 35 => 100 | 36 => 70 | 38 => 71 | 40 => 94 | 41 => 129 | 42 => 126 | 43 => 66 | 44 => 89 | 45 => 159 | 46 => 197 | 47 => 198 | 48 => 199 | 49 => 200 | 50 => 201 | 51 => 202 | 52 => 137 | 53 => 185 | 54 => 204 | 55 => 154 | 56 => 205 | 57 => 121 | 58 => 206 | 59 => 207 | 60 => 208 | 61 => 209 | 62 => 146 | n => n, fun | n => n⟩
theorem Tryz.lays20 : Go.Proofs.Lays2.n20 Tryz.prog Tryz.lays20_ren := {
  mixed := by kernel_rfl
  f20 := Tryz.func124.trans (congrArg some (by kernel_rfl))
  t0 := Tryz.underlying0
  a0 := Tryz.isAgg0
  z0 := Tryz.sizeOf0
  v0 := Tryz.zeroValue0
  t3 := Tryz.underlying3
  a3 := Tryz.isAgg3
  z3 := Tryz.sizeOf3
  v3 := Tryz.zeroValue3
  t4 := Tryz.underlying4
  a4 := Tryz.isAgg4
  z4 := Tryz.sizeOf4
  v4 := Tryz.zeroValue4
  t22 := Tryz.underlying23
  a22 := Tryz.isAgg23
  z22 := Tryz.sizeOf23
  v22 := Tryz.zeroValue23
  i3 := by kernel_rfl }
def Tryz.lays15_ren : Go.Shelf.Ren := ⟨fun | 0 => 0 | 1 => 1 | 2 => 2 | 15 => 61 | 20 => 124 | 31 => 148 | 37 => 131 | 40 => 159 | 41 => 160 | 42 => 161 | 43 => 162 | 44 => 163 | 45 => 164 | 46 => 165 | 47 => 166 | 48 => 167 | 49 => 168 | 50 => 169 | 51 => 170 | 52 => 171 | 53 => 174 | 54 => 175 | 55 => 180 | n => n, fun | 0 => 0 | 1 => 1 | 2 => 2 | 3 => 3 | 4 => 4 | 5 => 5 | 6 => 6 | 7 => 7 | 8 => 8 | 9 => 9 | 10 => 10 | 11 => 11 | 12 => 12 | 13 => 13 | 14 => 14 | 15 => 15 | 16 => 16 | 17 => 17 | 18 => 18 | 19 => 19 | 20 => 20 | 21 => 21 | 22 => 23 | 23 => 40 | 24 => 22 | 25 => 43 | 33 => 45 | 35 => 100 | 36 => 70 | 38 => 71 | 40 => 94 | 41 => 129 | 42 => 126 | 43 => 66 | 44 => 89 | 45 => 159 | 46 => 197 | 47 => 198 | 48 => 199 | 49 => 200 | 50 => 201 | 51 => 202 | 52 => 137 | 53 => 185 | 54 => 204 | 55 => 154 | 56 => 205 | 57 => 121 | 58 => 206 | 59 => 207 | 60 => 208 | 61 => 209 | 62 => 146 | n => n, fun | n => n⟩
theorem Tryz.lays15 : Go.Proofs.Lays2.n15 Tryz.prog Tryz.lays15_ren := {
  mixed := by kernel_rfl
  f15 := Tryz.func61.trans (congrArg some (by kernel_rfl))
  t3 := Tryz.underlying3
  a3 := Tryz.isAgg3
  z3 := Tryz.sizeOf3
  v3 := Tryz.zeroValue3
  t4 := Tryz.underlying4
  a4 := Tryz.isAgg4
  z4 := Tryz.sizeOf4
  v4 := Tryz.zeroValue4
  t22 := Tryz.underlying23
  a22 := Tryz.isAgg23
  z22 := Tryz.sizeOf23
  v22 := Tryz.zeroValue23
  i3 := by kernel_rfl }
end Go.Proofs.YtllialbdofklgaaGreatDoor
namespace Go.Proofs.YtllialbdofklgaaGreatDoor
open Go.RowKit Go.Sort
set_option maxHeartbeats 4000000
set_option maxRecDepth 8000
def srt (zs : List Int) : List Int := zs.mergeSort fun x y => decide (x ≤ y)
/-- No two of them are the same. -/
def unl (zs : List Int) : Bool := decide ((Go.Lib.compact (srt zs)).length = zs.length)
theorem srt_len (zs : List Int) : (srt zs).length = zs.length := by unfold srt; exact List.length_mergeSort _
theorem unl_nodup {zs : List Int} (h : zs.Nodup) : unl zs = true := by
  unfold unl
  rw [decide_eq_true_eq, ← srt_len zs]
  congr 1
  have hn : (srt zs).Nodup := by unfold srt; exact (List.mergeSort_perm zs _).symm.nodup h
  refine Go.Lib.compact_all _ fun j hj => ?_
  rcases Nat.eq_zero_or_pos j with rfl | hp
  · exact Go.Lib.keeps_lt_one _ 0 (by omega)
  · apply Go.Lib.keeps_pos
    have h1 : (srt zs).toArray[j]! = (srt zs)[j] := by rw [getElem!_pos _ j (by simpa using hj)]; simp
    have h2 : (srt zs).toArray[j - 1]! = (srt zs)[j - 1] := by rw [getElem!_pos _ (j - 1) (by simp; omega)]; simp
    rw [h1, h2]
    have := List.pairwise_iff_getElem.1 hn (j - 1) j (by omega) hj (by omega)
    exact fun e => this e.symm
theorem values_any (a : Option Addr) (n cap : Nat) (w : World) :
    Calls Tryz.prog 123 #[.slice a n cap] w fun e w' => e = .returned (.func (.func 135) #[] #[ptr w.heap.size]) ∧ w' = w.alloc (.cells #[.slice a n cap] 23) := by
  go_enter Tryz.func123, Tryz.ntmps123
  go_wp2
  go_ret
  exact ⟨rfl, rfl⟩
theorem collect_any (B len cap : Nat) (a : Option Addr) (zs : List Int) (hlen : len ≤ 4294967296) (w : World) (hB : B < w.heap.size) (hc : w.cell? ⟨B, 0, none⟩ = some (.slice a len cap)) (hI : Ins w a len zs) :
    Calls Tryz.prog 133 #[.func (.func 135) #[] #[ptr B]] w fun e W' => ∃ v, e = .returned v ∧ W'.ownsRow w.heap.size 3 1 v zs.length (zs.map (Value.int .i64)) ∧ Below w.heap.size w W' := by
  have H := hide (appendSeq_any B len cap a zs hlen w hB hc hI)
  clear hB hc hI hlen
  go_enter Tryz.func133, Tryz.ntmps133
  go_wp2_with fail
  refine (unhide H).mono ?_
  rintro e w1 ⟨v, rfl, h1, h2⟩
  have H1 := hide h1
  have H2 := hide h2
  clear h1 h2 H
  go_wp2
  go_ret
  exact ⟨v, rfl, unhide H1, unhide H2⟩
theorem put_grown {w : World} {g q : Nat} (d : Array Int) : w.grownBy (putRow (Value.int .i64) (Sort.ahead w q) g 0 d) (some g) := by
  refine ⟨rfl, rfl, rfl, by simp, fun k hk hne => ?_⟩
  have : g ≠ k := fun e => hne (by rw [e])
  simp [putRow, mapBlock, Sort.ahead, Array.getElem?_modify, this]
theorem sorted_any (B len cap : Nat) (a : Option Addr) (zs : List Int) (hlen : len ≤ 4294967296) (h0 : 0 < len) (w : World) (hB : B < w.heap.size) (hc : w.cell? ⟨B, 0, none⟩ = some (.slice a len cap)) (hI : Ins w a len zs) :
    Calls Tryz.prog 122 #[.func (.func 135) #[] #[ptr B]] w fun e W' => ∃ g cap, e = .returned (.slice (some ⟨g, 0, none⟩) zs.length cap) ∧ zs.length ≤ cap ∧ w.heap.size ≤ g ∧ Holds (Value.int .i64) W' g 0 (srt zs).toArray ∧ Below w.heap.size w W' := by
  have hz := hI.1
  have H := hide (collect_any B len cap a zs hlen w hB hc hI)
  clear hB hc hI
  go_enter Tryz.func122, Tryz.ntmps122
  go_wp2_with fail
  refine (unhide H).mono ?_
  rintro e w1 ⟨v, rfl, h1, h2⟩
  clear H
  rcases h1.2 with ⟨rfl, q⟩ | ⟨gb, cp, cur, rfl, hbase, hgb, r1, r2, r3, r4⟩
  · omega
  have hgl : gb < w1.heap.size := lt_of_row hgb
  have HS : Hid (Calls Tryz.prog 134 #[.slice (some ⟨gb, 0, none⟩) zs.length cp] w1 fun e w' => e = .returned (.tuple #[]) ∧ ∃ n os, w' = grow (putRow (Value.int .i64) (Sort.ahead w1 n) gb 0 (srt zs).toArray) os) :=
    Any.slices_Sort_int Tryz.lays189 gb 0 cp zs w1 (holds_of_blockI hgb (by simpa using r4)) hgl (by omega)
  have H2 := hide h2
  have HG := hide hgb
  have HR := hide (show zs.length ≤ cp ∧ cp ≤ maxLen ∧ cur.size = cp * 1 ∧ w.heap.size ≤ gb from ⟨r1, r2, r3, hbase⟩)
  clear h1 h2 hgb r1 r2 r3 r4 hgl
  go_wp2_with fail
  refine (unhide HS).mono ?_
  rintro e w2 ⟨rfl, n, os, rfl⟩
  obtain ⟨r1, r2, r3, hbase⟩ := unhide HR
  have own := ownsRow_sortedI (n := n) (os := os) (ts := srt zs) (ss := zs) (srt_len zs) hbase (unhide HG) r1 r2 r3
  have hb := (unhide H2).grown (grownBy_sortedI (n := n) (os := os) (g := gb) (srt zs).toArray) (unhide H2).size (fun j e => by cases e; exact hbase)
  have HO := hide own
  have HB := hide hb
  clear own hb HS H2 HG HR r2 r3
  generalize grow (putRow (Value.int .i64) (Sort.ahead w1 n) gb 0 (srt zs).toArray) os = W2 at *
  go_wp2
  go_ret
  refine ⟨gb, cp, rfl, r1, hbase, ?_, unhide HB⟩
  rcases (unhide HO).2 with ⟨q, _⟩ | ⟨g', c', cur', q, -, hg', -, -, -, t4⟩
  · cases q
  · cases q
    exact holds_of_blockI hg' (by rw [srt_len]; simpa using t4)
theorem areUnlike_any (a : Option Addr) (n cap : Nat) (zs : List Int) (w : World) (hI : Ins w a n zs) (h0 : 0 < n) (hn : n ≤ 4294967296) :
    Calls Tryz.prog 103 #[.slice a n cap] w fun e w' => e = .returned (.bool (unl zs)) ∧ Below w.heap.size w w' := by
  have hz := hI.1
  have HZ := hide hz
  have hA := (Below.refl w.heap.size w).alloc (Nat.le_refl _) (.cells #[.slice a n cap] 23)
  have hg := heap_alloc_new w (.cells #[.slice a n cap] 23)
  have H1 := hide (values_any a n cap w)
  have H2 := hide (sorted_any w.heap.size n cap a zs hn h0 (w.alloc (.cells #[.slice a n cap] 23)) (lt_of_row hg) (cell_of_row _ _ 0 _ 23 (0, 0) hg) (hI.below hA))
  have HA := hide hA
  have HF := hide (show unl zs = decide ((Go.Lib.compact (srt zs)).length = zs.length) from rfl)
  generalize unl zs = F at *
  clear hI hA hg hz
  go_enter Tryz.func103, Tryz.ntmps103
  go_wp2_with fail
  refine (unhide H1).mono ?_
  rintro e w1 ⟨rfl, rfl⟩
  generalize w.alloc (.cells #[.slice a n cap] 23) = W1 at *
  go_wp2_with fail
  refine (unhide H2).mono ?_
  rintro e w2 ⟨g, cp, rfl, hcp, hgl, hH, hb⟩
  have HC : Hid (Calls Tryz.prog 124 #[.slice (some ⟨g, 0, none⟩) zs.length cp] w2 fun e w' => e = .returned (.slice (some ⟨g, 0, none⟩) (Go.Lib.compact (srt zs)).length cp) ∧ ∃ q, w' = putRow (Value.int .i64) (Sort.ahead w2 q) g 0 (Go.Lib.compact (srt zs) ++ List.replicate ((srt zs).length - (Go.Lib.compact (srt zs)).length) 0).toArray) := by
    have := Any.slices_Compact_int Tryz.lays20 g 0 cp (srt zs) w2 hH (by have := unhide HZ; rw [srt_len]; omega) (by rw [srt_len]; exact hcp)
    rw [srt_len] at this ⊢
    exact this
  have HB := hide ((unhide HA).trans (hb.mono (unhide HA).size))
  have hgl2 : w.heap.size ≤ g := Nat.le_trans (unhide HA).size hgl
  have hcl : (Go.Lib.compact (srt zs)).length ≤ 4294967296 := by
    have : (Go.Lib.compact (srt zs)).length ≤ (srt zs).length := by
      unfold Go.Lib.compact Go.Lib.compactUpTo
      rw [List.length_map]
      exact Nat.le_trans (List.length_filter_le _ _) (by simp)
    rw [srt_len] at this
    have := unhide HZ
    omega
  clear hH hb H2 H1 HA
  generalize hC : Go.Lib.compact (srt zs) = C at *
  clear hC
  generalize hcc : C.length = c at *
  go_wp2_with fail
  refine (unhide HC).mono ?_
  rintro e w3 ⟨rfl, q, rfl⟩
  have HB2 := hide ((unhide HB).grown (put_grown (q := q) (g := g) (C ++ List.replicate ((srt zs).length - c) 0).toArray) (unhide HB).size (fun j e => by cases e; exact hgl2))
  clear HC HB
  generalize putRow (Value.int .i64) (Sort.ahead w2 q) g 0 (C ++ List.replicate ((srt zs).length - c) 0).toArray = W3 at *
  generalize hzl : zs.length = zl at *
  have hz := unhide HZ
  clear HZ
  subst hz
  go_wp2
  go_ret
  exact ⟨ret_bool (by rw [unhide HF, Bool.eq_iff_iff]; simp; omega), unhide HB2⟩
end Go.Proofs.YtllialbdofklgaaGreatDoor
