import Derived.Test.YtjopnhhdemfniaaGreatDoorQaa
import Derived.Test.YtjopnhhdemfniaaGreatDoorZdetl
namespace Go.Proofs.YtjopnhhdemfniaaGreatDoor
open Go.RowKit
set_option maxHeartbeats 8000000
set_option maxRecDepth 8000
theorem info24p : (Tryz.prog.info? 24).map (fun i => (i.zero, i.size, i.bytes)) = some (some (.agg #[I 0, I 0, I 0, .slice none 0 0, .string ⟨#[]⟩]), 5, 64) := by kernel_rfl
/-- Pages with the lists that they bear, cell by cell. -/
abbrev Pv := Pg × Value
def pvc (x : Pv) : List Value := [I x.1.kind, I x.1.number, I x.1.birth, x.2, S x.1.body]
def pvs (l : List Pv) : List Value := l.flatMap pvc
theorem pvs_app (l : List Pv) (x : Pv) : pvs (l ++ [x]) = pvs l ++ pvc x := by simp [pvs]
theorem pvs_len (l : List Pv) : (pvs l).length = l.length * 5 := by
  induction l with
  | nil => rfl
  | cons x l ih => simp only [pvs, List.flatMap_cons, List.length_append, pvc, List.length_cons, List.length_nil] at *; omega
def nlv : Value := .slice none 0 0
def lvs (l : List Int) (c : Int) (k : Nat) : List Pv := (List.range k).map fun i => (leafv (l.getD i 0) (c + (i : Int)), nlv)
theorem lvs_next (l : List Int) (c : Int) (k : Nat) : lvs l c (k + 1) = lvs l c k ++ [(leafv (l.getD k 0) (c + (k : Int)), nlv)] := by
  unfold lvs
  rw [List.range_succ, List.map_append]
  rfl
theorem lvs_len (l : List Int) (c : Int) (k : Nat) : (lvs l c k).length = k := by simp [lvs]
def old0 (o : Int) : List Int := if o = 0 then [] else [o]
def lks0 (l : List Int) (o : Int) (k : Nat) : List Int := old0 o ++ l.take k
/-- The root of a tree. -/
def rootv (l : List Int) (o c : Int) : Pg := { leafv (l.getD (l.length - 1) 0) (c + (l.length : Int)) with links := lks0 l o (l.length - 1) }
/-- What the law's tree comes to. -/
def TreeOut (l : List Int) (o c : Int) (w : World) (e : Ending) (w' : World) : Prop := ∃ V u, e = .returned (.tuple #[V, I (l.getD (l.length - 1) 0)]) ∧ w'.ownsRow 0 24 5 V l.length (pvs (lvs l c (l.length - 1) ++ [(rootv l o c, u)])) ∧ (∀ k, V.ownBlock = some k → w.heap.size ≤ k) ∧ w'.ownsRow 0 3 1 u (rootv l o c).links.length ((rootv l o c).links.map fun z => I z) ∧ (∀ k, u.ownBlock = some k → w.heap.size ≤ k) ∧ Below w.heap.size w w'
theorem lks0_len (l : List Int) (o : Int) (k : Nat) : (lks0 l o k).length ≤ 1 + l.length := by
  unfold lks0 old0
  split <;> simp <;> omega
theorem lks0_next (l : List Int) (o : Int) (k : Nat) (h : k < l.length) : lks0 l o (k + 1) = lks0 l o k ++ [l.getD k 0] := by
  unfold lks0
  rw [take_next l k h, List.append_assoc]
theorem s_bs271 (v0 v1 v2 v3 v4 : Value) (W : World) : (Instr.buildSlice 27 1 #[(0, .agg #[v0, v1, v2, v3, v4])]).run Tryz.prog W = .ok (.slice (some ⟨W.heap.size, 0, none⟩) 1 1) (W.alloc (.cells #[v0, v1, v2, v3, v4] 24)) := by
  simp [go_sem, Tryz.zeroValue24, Tryz.sizeOf24]
/-- One more page behind a list, in a drawn region: load, build, append. -/
structure Bp (wr : World) (v : Value) (n : Nat) (xs news : List Value) (c : Cav) (L : Nat → Bool) (W : World) : Prop where
  pre : L 2 = false → W = wr.drew
  mid : L 2 = true → L 1 = true ∧ c.a = wr.heap.size ∧ (L 3 = false → W = wr.drew.alloc (.cells news.toArray 24))
  post : L 3 = true → L 2 = true ∧ ∃ p cap, c.v = .slice p (n + 1) cap ∧ W.ownsRow 0 24 5 c.v (n + 1) (xs ++ news) ∧ Only (fun k => v.ownBlock = some k) wr W ∧ (∀ k, c.v.ownBlock = some k → v.ownBlock = some k ∨ wr.heap.size ≤ k)
  lst : L 9 = true → L 3 = true
theorem Bp.off {wr : World} {v : Value} {n : Nat} {xs news : List Value} {c : Cav} {L : Nat → Bool} {W : World} (h : Bp wr v n xs news c L W) {k : Nat} (hk : k < wr.heap.size) (hv : v.ownBlock ≠ some k) : W.heap[k]? = wr.heap[k]? := by
  cases h2 : L 2
  · rw [h.pre h2]; rfl
  · cases h3 : L 3
    · rw [(h.mid h2).2.2 h3]
      exact heap_alloc_old wr.drew _ hk
    · obtain ⟨_, p, cap, _, _, o, _⟩ := h.post h3
      exact o.block k hk hv
theorem tree_any (a : Option Addr) (cap : Nat) (l : List Int) (o c : Int) (w : World) (hp : Ins w a l.length l) (h1 : 0 < l.length) (hn : l.length ≤ 1000000) (h0 : 0 ≤ c) (hc : c ≤ 8000000000000000000) :
    Calls Tryz.prog 122 #[.slice a l.length cap, I o, I c] w fun e w' => TreeOut l o c w e w' := by
  obtain ⟨g, oo, rfl, hg⟩ := hp.2 h1
  have HGW := hide (show g < w.heap.size from blk_lt (hg 0 h1))
  have HP := hide hp
  have HLF := hide (fun W n k (hk : k ≤ l.length) => show Calls Tryz.prog 189 #[I n, I (c + (k : Int))] W fun e w' => e = .returned (.agg #[I (leafv n (c + (k : Int))).kind, I (leafv n (c + (k : Int))).number, I (leafv n (c + (k : Int))).birth, .slice none 0 0, S (leafv n (c + (k : Int))).body]) ∧ Below W.heap.size W w' from leaf_any n (c + (k : Int)) W (by omega) (by omega))
  obtain ⟨nn, hnn⟩ : ∃ nn, l.length = nn + 1 := ⟨l.length - 1, by omega⟩
  have HN := hide hnn
  rw [hnn] at hn
  have HTO := hide (show ∀ e w', TreeOut l o c w e w' = TreeOut l o c w e w' from fun _ _ => rfl)
  rw [hnn] at HP HLF ⊢
  have hn1 : nn ≤ 1000000 := by omega
  clear hnn hp hg h1 hn HTO
  by_cases ho : o = 0
  · have ho' : ((0 : Int) != 0) = false := rfl
    have HO := hide ho
    have HK0 := hide (show lks0 l o 0 = [] by rw [ho]; rfl)
    subst ho
    go_enter Tryz.func122, Tryz.ntmps122
    go_wp2
    go_loopw [8, 9, 11] (fun vF vL i wr => ∃ k : Nat, k ≤ nn ∧ i = .int .i64 k ∧ wr.ownsRow 0 24 5 vF k (pvs (lvs l c k)) ∧ wr.ownsRow 0 3 1 vL (lks0 l 0 k).length ((lks0 l 0 k).map fun z => I z) ∧ (∀ q, vF.ownBlock = some q → w.heap.size ≤ q) ∧ (∀ q, vL.ownBlock = some q → w.heap.size ≤ q) ∧ Below w.heap.size w wr) (fun _ _ i _ => nn - (Go.RowKit.intOf i).toNat)
    case atStart => exact ⟨0, by omega, rfl, owns_nil _ _ _, by rw [unhide HK0]; exact owns_nil _ _ _, (fun _ q => nomatch q), (fun _ q => nomatch q), Below.refl _ _⟩
    case round =>
      obtain ⟨k, hk, rfl, hF, hL, hvF, hvL, hb⟩ := hrel
      obtain ⟨pF, cF, rfl⟩ := owns_form hF
      obtain ⟨pL, cL, rfl⟩ := owns_form hL
      have hin := (unhide HP).below hb
      by_cases hlt : k < nn
      · have hlt1 : (k : Int) < (nn : Int) := by omega
        have hlt2 : (k : Int) < (nn : Int) + 1 := by omega
        obtain ⟨g', oo', eg, hgl, hcz⟩ := hin.at (show k < nn + 1 by omega)
        cases eg
        have HL1 := hide (fun W => unhide HLF W (l.getD k 0) k (by omega))
        have HN1 := hide (lvs_next l c k)
        have HN2 := hide (lks0_next l 0 k (by have := unhide HN; omega))
        generalize l.getD k 0 = z at *
        generalize leafv z (c + (k : Int)) = F at *
        have HF := hide hF
        have HL := hide hL
        have HvF := hide hvF
        have HvL := hide hvL
        have HB := hide hb
        have hkl : (lks0 l 0 k).length ≤ 2000000 := by have := lks0_len l 0 k; have := unhide HN; omega
        generalize hlk : (lks0 l 0 k).length = lk at *
        have HLK := hide hlk
        clear hF hL hvF hvL hb hin hlk
        go_wp2_with fail
        refine (unhide HL1 _).mono ?_
        rintro e w1 ⟨rfl, b1⟩
        have HF1 := hide (owns_below (unhide HF) b1)
        have HL1' := hide (owns_below (unhide HL) b1)
        have HB1 := hide ((unhide HB).trans (b1.mono (unhide HB).size))
        have hcz1 := (World.cell?_of_block (b1.block _ hgl)).trans hcz
        have hgl1 := Nat.lt_of_lt_of_le hgl b1.size
        clear b1 hcz hgl HF HL HL1
        go_wp2_with (at_builtin; refine push_own 27 24 _ 5 64 Tryz.underlying27 info24p rfl (by decide) rfl (.tmp 27) (.tmp 36) rfl (.slice pF k cF) k _ (by rfl) w1 (unhide HF1) [I F.kind, I F.number, I F.birth, .slice none 0 0, S F.body] rfl (by simp [Value.oneCell']) (by rfl) (by omega) (by omega) ?_)
        intro p2 c2 w2 r2 o2 n2
        have hL2 := owns_only (unhide HL1') o2 (fun q hq e => by
          obtain ⟨cs, q1⟩ := owns_lt (unhide HL1') q hq
          obtain ⟨cs2, q2⟩ := owns_lt (unhide HF1) q e
          rw [q1] at q2
          cases q2)
        have hgw : g < w.heap.size := unhide HGW
        have hcz2 := (World.cell?_of_block (o2.block g hgl1 (fun e => by have := unhide HvF _ e; omega))).trans hcz1
        have hgl2 := Nat.lt_of_lt_of_le hgl1 o2.size
        have HF2 := hide (show w2.ownsRow 0 24 5 (.slice p2 (k + 1) c2) (k + 1) (pvs (lvs l c (k + 1))) by rw [unhide HN1, pvs_app]; exact r2)
        have HvF2 := hide (fun q (hq : (Value.slice p2 (k + 1) c2).ownBlock = some q) => (n2 q hq).elim (unhide HvF q) (fun r => Nat.le_trans (unhide HB1).size r))
        have HB2 := hide (o2.below (unhide HB1) (unhide HB1).size (fun q hq => unhide HvF q hq))
        have HL2 := hide hL2
        clear r2 o2 n2 hL2 hcz1 hgl1 HF1 HL1' HB1 HvF
        go_wp2_with (at_builtin; refine push_own 22 3 _ 1 8 Tryz.underlying22 info3 rfl (by decide) rfl (.tmp 38) (.tmp 43) rfl (.slice pL lk cL) lk _ (by rfl) w2 (unhide HL2) [I z] rfl (by simp [Value.oneCell']) (by rfl) (by omega) (by omega) ?_)
        intro p3 c3 w3 r3 o3 n3
        have HF3 := hide (owns_only (unhide HF2) o3 (fun q hq e => by
          obtain ⟨cs, q1⟩ := owns_lt (unhide HF2) q hq
          obtain ⟨cs2, q2⟩ := owns_lt (unhide HL2) q e
          rw [q1] at q2
          cases q2))
        have HL3 := hide (show w3.ownsRow 0 3 1 (.slice p3 (lk + 1) c3) (lks0 l 0 (k + 1)).length ((lks0 l 0 (k + 1)).map fun z => I z) by
          rw [unhide HN2, List.length_append, List.length_singleton, unhide HLK]
          simpa using r3)
        have HvL3 := hide (fun q (hq : (Value.slice p3 (lk + 1) c3).ownBlock = some q) => (n3 q hq).elim (unhide HvL q) (fun r => Nat.le_trans (unhide HB2).size r))
        have HB3 := hide (o3.below (unhide HB2) (unhide HB2).size (fun q hq => unhide HvL q hq))
        clear r3 o3 n3 hcz2 hgl2
        go_wp2
        go_round
        case measure => simp [Go.RowKit.intOf] <;> omega
        case rel => exact ⟨k + 1, by omega, by simp, unhide HF3, unhide HL3, unhide HvF2, unhide HvL3, unhide HB3⟩
      · have hlt1 : ¬ (k : Int) < (nn : Int) := by omega
        obtain rfl : nn = k := by omega
        have hlt2 : (nn : Int) < (nn : Int) + 1 := by omega
        obtain ⟨g', oo', eg, hgl, hcz⟩ := hin.at (show nn < nn + 1 by omega)
        cases eg
        have HL1 := hide (fun W => unhide HLF W (l.getD nn 0) (nn + 1) (by omega))
        have HRT := hide (show rootv l 0 c = ⟨(leafv (l.getD nn 0) (c + ((nn + 1 : Nat) : Int))).kind, (leafv (l.getD nn 0) (c + ((nn + 1 : Nat) : Int))).number, (leafv (l.getD nn 0) (c + ((nn + 1 : Nat) : Int))).birth, lks0 l 0 nn, (leafv (l.getD nn 0) (c + ((nn + 1 : Nat) : Int))).body⟩ by unfold rootv; rw [unhide HN]; rfl)
        have HTO := hide (show ∀ e w', TreeOut l 0 c w e w' ↔ ∃ V u, e = .returned (.tuple #[V, I (l.getD nn 0)]) ∧ w'.ownsRow 0 24 5 V (nn + 1) (pvs (lvs l c nn ++ [(rootv l 0 c, u)])) ∧ (∀ k, V.ownBlock = some k → w.heap.size ≤ k) ∧ w'.ownsRow 0 3 1 u (rootv l 0 c).links.length ((rootv l 0 c).links.map fun z => I z) ∧ (∀ k, u.ownBlock = some k → w.heap.size ≤ k) ∧ Below w.heap.size w w' from fun e w' => by unfold TreeOut; rw [unhide HN]; exact Iff.rfl)
        rw [show ((nn + 1 : Nat) : Int) = (nn : Int) + 1 by omega] at HL1 HRT
        generalize l.getD nn 0 = z at *
        generalize leafv z (c + ((nn : Int) + 1)) = F at *
        have HF := hide hF
        have HL := hide hL
        have HvF := hide hvF
        have HvL := hide hvL
        have HB := hide hb
        generalize hlk : (lks0 l 0 nn).length = lk at *
        have HLK := hide hlk
        clear hF hL hvF hvL hb hin hlk HLF
        go_wp2_with fail
        refine (unhide HL1 _).mono ?_
        rintro e w1 ⟨rfl, b1⟩
        obtain ⟨f1, g1⟩ := box_fill w1 F.kind F.number F.birth none 0 0 F.body
        have HA1 := hide (heap_alloc_new w1 (.cells #[I 0, I 0, I 0, .slice none 0 0, .string ⟨#[]⟩] 24))
        have b2 := b1.trans (f1.mono b1.size)
        have HF2 := hide (owns_below (unhide HF) b2)
        have HL2 := hide (owns_below (unhide HL) b2)
        have HB2 := hide ((unhide HB).trans (b2.mono (unhide HB).size))
        have hcz2 := (World.cell?_of_block (b2.block _ hgl)).trans hcz
        have HX0 := hide (show wr.heap.size ≤ w1.heap.size from b1.size)
        have HG1 := hide g1
        have HC2 := hide hcz2
        have HWB := hide (unhide HB).size
        have HFB := hide (fun q (hq : (Value.slice pF nn cF).ownBlock = some q) => owns_blk (unhide HF) q hq)
        clear b1 f1 g1 b2 hcz hcz2 hgl HF HL HB HL1
        go_upto_region 12 with (refine wp_st24 rfl (.tmp 12) (.tmp 53) rfl w1.heap.size (by rfl) F.kind F.number F.birth none 0 0 F.body (by rfl) _ rfl (unhide HA1) ?_)
        generalize (w1.alloc (.cells #[I 0, I 0, I 0, .slice none 0 0, .string ⟨#[]⟩] 24)).setRow w1.heap.size #[I F.kind, I F.number, I F.birth, .slice none 0 0, S F.body] = w2 at *
        generalize w1.heap.size = X at *
        have c3 := cell_of_row _ _ 3 _ 24 (0, 0) (unhide HG1)
        have f3 := frz (unhide HG1) 3
        have hXl := lt_of_row (unhide HG1)
        have hx3 : (w2.setCell ⟨X, 3, none⟩ (.slice pL lk cL)).heap[X]? = some (.cells #[I F.kind, I F.number, I F.birth, .slice pL lk cL, S F.body] 24 (0, 0)) := heap_setCell_same w2 X 3 _ 24 (.slice pL lk cL) (unhide HG1)
        have o3 := Only.setCell w2 ⟨X, 3, none⟩ (.slice pL lk cL)
        have HXF := hide (show ∀ q, (Value.slice pF nn cF).ownBlock = some q → ¬ q = X from fun q hq e => by have := unhide HFB q hq; have := unhide HX0; omega)
        have HF3 := hide (owns_only (unhide HF2) o3 (unhide HXF))
        have HL3 := hide (owns_only (unhide HL2) o3 (fun q hq e => by
          obtain ⟨cs, q1⟩ := owns_lt (unhide HL2) q hq
          rw [show q = X from e, unhide HG1] at q1
          cases q1))
        have hgw : g < w.heap.size := unhide HGW
        have HC3 := hide ((World.cell?_of_block (o3.block g (blk_lt (unhide HC2)) (fun e => by have := unhide HX0; have := unhide HWB; have e' : g = X := e; omega))).trans (unhide HC2))
        have HB3 := hide (o3.below (unhide HB2) (unhide HB2).size (fun q hq => by rw [show q = X from hq]; have := unhide HX0; have := unhide HWB; omega))
        have HX3 := hide hx3
        clear hx3 o3 HF2 HL2 HB2 HC2
        generalize hW3 : w2.setCell ⟨X, 3, none⟩ (.slice pL lk cL) = W3 at *
        have HW3 := hide hW3
        clear hW3
        go_upto_region 13 with fail
        rw [unhide HW3]
        clear c3 f3 hXl HW3 HG1
        refine rtr13 X nn cF g oo nn cap pF #[I F.kind, I F.number, I F.birth, .slice pL lk cL, S F.body] z (by kernel_rfl) (by kernel_rfl) (by kernel_rfl) _ _ (by show 65 ≤ Array.size _; simp) rfl rfl rfl rfl (Bp W3 (.slice pF nn cF) nn (pvs (lvs l c nn)) [I F.kind, I F.number, I F.birth, .slice pL lk cL, S F.body]) ⟨⟨0, .slice pF nn cF⟩, fun _ => rfl, (fun q => nomatch q), (fun q => nomatch q), (fun q => nomatch q)⟩ ?_ ?_ ?_ ?_ ?_ ?_ ?_ ?_ ?_
        · intro i hi c L W hW
          simp only [List.mem_cons, List.not_mem_nil, or_false, not_or] at hi
          refine ⟨?_, ?_, ?_, by rw [upd_ne (Ne.symm hi.2.2), upd_ne (Ne.symm hi.2.1)]; exact hW.lst⟩
          · rw [upd_ne (Ne.symm hi.1)]; exact hW.pre
          · rw [upd_ne (Ne.symm hi.1), upd_ne (Ne.symm hi.2.1)]
            intro q
            obtain ⟨q1, q2⟩ := hW.mid q
            refine ⟨?_, q2⟩
            by_cases e : 1 = i
            · rw [← e]; exact upd_self _ _
            · rw [upd_ne e]; exact q1
          · rw [upd_ne (Ne.symm hi.1), upd_ne (Ne.symm hi.2.1)]; exact hW.post
        · intro c L W hW hL
          have h2 : L 2 = false := by
            cases q : L 2
            · rfl
            · rw [(hW.mid q).1] at hL; cases hL
          rw [hW.pre h2]
          exact s_ldr (w := W3.drew) Tryz.isAgg24 Tryz.sizeOf24 (unhide HX3) [I F.kind, I F.number, I F.birth, .slice pL lk cL, S F.body] rfl rfl
        · intro c L W hW hL h1
          have h3 : L 3 = false := by
            cases q : L 3
            · rfl
            · rw [(hW.post q).1] at hL; cases hL
          rw [hW.pre hL]
          refine ⟨⟨W3.heap.size, c.v⟩, _, fun j hj => ?_, s_bs271 _ _ _ _ _ W3.drew, fun q => ?_, fun _ => ⟨?_, rfl, fun _ => rfl⟩, fun q => ?_, fun q => ?_⟩
          · unfold vrtr13
            split <;> first | rfl | (rw [hL] at hj; cases hj)
          · rw [upd_self] at q; cases q
          · rw [upd_ne (by decide)]; exact h1
          · rw [upd_ne (by decide), h3] at q; cases q
          · rw [upd_ne (by decide)] at q ⊢; exact hW.lst q
        · intro T c' L W hW hL _ h2
          obtain ⟨m1, m2, m3⟩ := hW.mid h2
          obtain ⟨p, cp, w', q1, q2, q3, q4⟩ := app_own 27 24 T _ 5 64 Tryz.underlying27 info24p rfl (by decide) (.slice pF nn cF) nn (pvs (lvs l c nn)) W3.drew (owns_below (unhide HF3) (Below.refl _ _).drew) [I F.kind, I F.number, I F.birth, .slice pL lk cL, S F.body] rfl (by simp [Value.oneCell']) (by omega) (by omega)
          have h9 : L 9 = false := by
            cases q : L 9
            · rfl
            · rw [hW.lst q] at hL; cases hL
          refine ⟨⟨c'.a, .slice p (nn + 1) cp⟩, w', fun j hj => ?_, ?_, ?_, ?_, ?_, fun _ => upd_self _ _⟩
          · unfold vrtr13
            split <;> first | rfl | (rw [hL] at hj; cases hj) | (rw [h9] at hj; cases hj)
          · rw [m3 hL, m2]
            exact q1
          · rw [upd_ne (by decide), h2]; exact fun q => nomatch q
          · intro _
            refine ⟨by rw [upd_ne (by decide)]; exact m1, m2, fun q => ?_⟩
            rw [upd_self] at q
            cases q
          · intro _
            exact ⟨by rw [upd_ne (by decide)]; exact h2, p, cp, rfl, q2, (Only.of_below (P := fun k => (Value.slice pF nn cF).ownBlock = some k) (Below.refl _ _).drew).trans q3 (fun _ _ r => r), q4⟩
        · intro W
          have h := s_sub (w := W) (.tmp 61) (.const (.int .i64 1)) ((nn : Int) + 1) 1 (by omega) (by omega)
          rw [show (nn : Int) + 1 - 1 = (nn : Int) by omega] at h
          exact h
        · exact fun W => s_ix22 g oo (nn + 1) cap nn (by omega)
        · intro c L W hW _ _
          exact s_ld Tryz.isAgg3 ((World.cell?_of_block (hW.off (k := g) (blk_lt (unhide HC3)) (fun e => by have := unhide HvF _ e; omega))).trans (unhide HC3))
        · intro c' L W hW hL h3
          exact ⟨by rw [upd_ne (by decide)]; exact hW.pre, by rw [upd_ne (by decide), upd_ne (by decide), upd_ne (by decide)]; exact hW.mid, by rw [upd_ne (by decide), upd_ne (by decide)]; exact hW.post, fun _ => by rw [upd_ne (by decide)]; exact h3⟩
        intro cv L W hall hW
        obtain ⟨_, p, cp, e, q1, q2, q3⟩ := hW.post (hall 3 (by omega))
        have HQ1 := hide (show W.ownsRow 0 24 5 cv.v (nn + 1) (pvs (lvs l c nn ++ [(rootv l 0 c, .slice pL lk cL)])) by
          rw [pvs_app, unhide HRT]
          exact q1)
        have HQ2 := hide (fun k (hk : cv.v.ownBlock = some k) => (q3 k hk).elim (unhide HvF k) (fun r => Nat.le_trans (unhide HB3).size r))
        have HQ3 := hide (show W.ownsRow 0 3 1 (.slice pL lk cL) (rootv l 0 c).links.length ((rootv l 0 c).links.map fun z => I z) by
          rw [unhide HRT]
          show W.ownsRow 0 3 1 (.slice pL lk cL) (lks0 l 0 nn).length ((lks0 l 0 nn).map fun z => I z)
          rw [unhide HLK]
          exact owns_only (unhide HL3) q2 (fun q hq e => by
            obtain ⟨cs, r1⟩ := owns_lt (unhide HL3) q hq
            obtain ⟨cs2, r2⟩ := owns_lt (unhide HF3) q e
            rw [r1] at r2
            cases r2))
        have HQ4 := hide (q2.below (unhide HB3) (unhide HB3).size (fun q hq => unhide HvF q hq))
        clear q1 q2 q3 hW hall
        simp only [Act.put, List.setIfInBounds_toArray, List.set_cons_succ, List.set_cons_zero]
        go_wp2
        go_ret2
        exact (unhide HTO _ _).2 ⟨cv.v, .slice pL lk cL, rfl, unhide HQ1, unhide HQ2, unhide HQ3, unhide HvL, unhide HQ4⟩
  · have ho' : (o != 0) = true := by simpa using ho
    have HK0 := hide (show lks0 l o 0 = [o] by unfold lks0 old0; rw [if_neg ho]; rfl)
    clear ho
    go_enter Tryz.func122, Tryz.ntmps122
    go_wp2_with (at_builtin; refine push_own 22 3 _ 1 8 Tryz.underlying22 info3 rfl (by decide) rfl (.tmp 15) (.tmp 17) rfl (.slice none 0 0) 0 [] (by rfl) w (owns_nil _ _ _) [I o] rfl (by simp [Value.oneCell']) (by rfl) (by omega) (by omega) ?_)
    intro p0 c0 w0 r0 o0 n0
    have HR0 := hide (show w0.ownsRow 0 3 1 (.slice p0 (0 + 1) c0) (lks0 l o 0).length ((lks0 l o 0).map fun z => I z) by rw [unhide HK0]; exact r0)
    have HN0 := hide (fun q (hq : (Value.slice p0 (0 + 1) c0).ownBlock = some q) => (n0 q hq).elim (fun r => nomatch r) id)
    have HB0 := hide (o0.below (Below.refl w.heap.size w) (Nat.le_refl _) (fun q hq => nomatch hq))
    clear r0 o0 n0
    go_wp2
    go_loopw [8, 9, 11] (fun vF vL i wr => ∃ k : Nat, k ≤ nn ∧ i = .int .i64 k ∧ wr.ownsRow 0 24 5 vF k (pvs (lvs l c k)) ∧ wr.ownsRow 0 3 1 vL (lks0 l o k).length ((lks0 l o k).map fun z => I z) ∧ (∀ q, vF.ownBlock = some q → w.heap.size ≤ q) ∧ (∀ q, vL.ownBlock = some q → w.heap.size ≤ q) ∧ Below w.heap.size w wr) (fun _ _ i _ => nn - (Go.RowKit.intOf i).toNat)
    case atStart => exact ⟨0, by omega, rfl, owns_nil _ _ _, unhide HR0, (fun _ q => nomatch q), unhide HN0, unhide HB0⟩
    case round =>
      obtain ⟨k, hk, rfl, hF, hL, hvF, hvL, hb⟩ := hrel
      obtain ⟨pF, cF, rfl⟩ := owns_form hF
      obtain ⟨pL, cL, rfl⟩ := owns_form hL
      have hin := (unhide HP).below hb
      by_cases hlt : k < nn
      · have hlt1 : (k : Int) < (nn : Int) := by omega
        have hlt2 : (k : Int) < (nn : Int) + 1 := by omega
        obtain ⟨g', oo', eg, hgl, hcz⟩ := hin.at (show k < nn + 1 by omega)
        cases eg
        have HL1 := hide (fun W => unhide HLF W (l.getD k 0) k (by omega))
        have HN1 := hide (lvs_next l c k)
        have HN2 := hide (lks0_next l o k (by have := unhide HN; omega))
        generalize l.getD k 0 = z at *
        generalize leafv z (c + (k : Int)) = F at *
        have HF := hide hF
        have HL := hide hL
        have HvF := hide hvF
        have HvL := hide hvL
        have HB := hide hb
        have hkl : (lks0 l o k).length ≤ 2000000 := by have := lks0_len l o k; have := unhide HN; omega
        generalize hlk : (lks0 l o k).length = lk at *
        have HLK := hide hlk
        clear hF hL hvF hvL hb hin hlk
        go_wp2_with fail
        refine (unhide HL1 _).mono ?_
        rintro e w1 ⟨rfl, b1⟩
        have HF1 := hide (owns_below (unhide HF) b1)
        have HL1' := hide (owns_below (unhide HL) b1)
        have HB1 := hide ((unhide HB).trans (b1.mono (unhide HB).size))
        have hcz1 := (World.cell?_of_block (b1.block _ hgl)).trans hcz
        have hgl1 := Nat.lt_of_lt_of_le hgl b1.size
        clear b1 hcz hgl HF HL HL1
        go_wp2_with (at_builtin; refine push_own 27 24 _ 5 64 Tryz.underlying27 info24p rfl (by decide) rfl (.tmp 27) (.tmp 36) rfl (.slice pF k cF) k _ (by rfl) w1 (unhide HF1) [I F.kind, I F.number, I F.birth, .slice none 0 0, S F.body] rfl (by simp [Value.oneCell']) (by rfl) (by omega) (by omega) ?_)
        intro p2 c2 w2 r2 o2 n2
        have hL2 := owns_only (unhide HL1') o2 (fun q hq e => by
          obtain ⟨cs, q1⟩ := owns_lt (unhide HL1') q hq
          obtain ⟨cs2, q2⟩ := owns_lt (unhide HF1) q e
          rw [q1] at q2
          cases q2)
        have hgw : g < w.heap.size := unhide HGW
        have hcz2 := (World.cell?_of_block (o2.block g hgl1 (fun e => by have := unhide HvF _ e; omega))).trans hcz1
        have hgl2 := Nat.lt_of_lt_of_le hgl1 o2.size
        have HF2 := hide (show w2.ownsRow 0 24 5 (.slice p2 (k + 1) c2) (k + 1) (pvs (lvs l c (k + 1))) by rw [unhide HN1, pvs_app]; exact r2)
        have HvF2 := hide (fun q (hq : (Value.slice p2 (k + 1) c2).ownBlock = some q) => (n2 q hq).elim (unhide HvF q) (fun r => Nat.le_trans (unhide HB1).size r))
        have HB2 := hide (o2.below (unhide HB1) (unhide HB1).size (fun q hq => unhide HvF q hq))
        have HL2 := hide hL2
        clear r2 o2 n2 hL2 hcz1 hgl1 HF1 HL1' HB1 HvF
        go_wp2_with (at_builtin; refine push_own 22 3 _ 1 8 Tryz.underlying22 info3 rfl (by decide) rfl (.tmp 38) (.tmp 43) rfl (.slice pL lk cL) lk _ (by rfl) w2 (unhide HL2) [I z] rfl (by simp [Value.oneCell']) (by rfl) (by omega) (by omega) ?_)
        intro p3 c3 w3 r3 o3 n3
        have HF3 := hide (owns_only (unhide HF2) o3 (fun q hq e => by
          obtain ⟨cs, q1⟩ := owns_lt (unhide HF2) q hq
          obtain ⟨cs2, q2⟩ := owns_lt (unhide HL2) q e
          rw [q1] at q2
          cases q2))
        have HL3 := hide (show w3.ownsRow 0 3 1 (.slice p3 (lk + 1) c3) (lks0 l o (k + 1)).length ((lks0 l o (k + 1)).map fun z => I z) by
          rw [unhide HN2, List.length_append, List.length_singleton, unhide HLK]
          simpa using r3)
        have HvL3 := hide (fun q (hq : (Value.slice p3 (lk + 1) c3).ownBlock = some q) => (n3 q hq).elim (unhide HvL q) (fun r => Nat.le_trans (unhide HB2).size r))
        have HB3 := hide (o3.below (unhide HB2) (unhide HB2).size (fun q hq => unhide HvL q hq))
        clear r3 o3 n3 hcz2 hgl2
        go_wp2
        go_round
        case measure => simp [Go.RowKit.intOf] <;> omega
        case rel => exact ⟨k + 1, by omega, by simp, unhide HF3, unhide HL3, unhide HvF2, unhide HvL3, unhide HB3⟩
      · have hlt1 : ¬ (k : Int) < (nn : Int) := by omega
        obtain rfl : nn = k := by omega
        have hlt2 : (nn : Int) < (nn : Int) + 1 := by omega
        obtain ⟨g', oo', eg, hgl, hcz⟩ := hin.at (show nn < nn + 1 by omega)
        cases eg
        have HL1 := hide (fun W => unhide HLF W (l.getD nn 0) (nn + 1) (by omega))
        have HRT := hide (show rootv l o c = ⟨(leafv (l.getD nn 0) (c + ((nn + 1 : Nat) : Int))).kind, (leafv (l.getD nn 0) (c + ((nn + 1 : Nat) : Int))).number, (leafv (l.getD nn 0) (c + ((nn + 1 : Nat) : Int))).birth, lks0 l o nn, (leafv (l.getD nn 0) (c + ((nn + 1 : Nat) : Int))).body⟩ by unfold rootv; rw [unhide HN]; rfl)
        have HTO := hide (show ∀ e w', TreeOut l o c w e w' ↔ ∃ V u, e = .returned (.tuple #[V, I (l.getD nn 0)]) ∧ w'.ownsRow 0 24 5 V (nn + 1) (pvs (lvs l c nn ++ [(rootv l o c, u)])) ∧ (∀ k, V.ownBlock = some k → w.heap.size ≤ k) ∧ w'.ownsRow 0 3 1 u (rootv l o c).links.length ((rootv l o c).links.map fun z => I z) ∧ (∀ k, u.ownBlock = some k → w.heap.size ≤ k) ∧ Below w.heap.size w w' from fun e w' => by unfold TreeOut; rw [unhide HN]; exact Iff.rfl)
        rw [show ((nn + 1 : Nat) : Int) = (nn : Int) + 1 by omega] at HL1 HRT
        generalize l.getD nn 0 = z at *
        generalize leafv z (c + ((nn : Int) + 1)) = F at *
        have HF := hide hF
        have HL := hide hL
        have HvF := hide hvF
        have HvL := hide hvL
        have HB := hide hb
        generalize hlk : (lks0 l o nn).length = lk at *
        have HLK := hide hlk
        clear hF hL hvF hvL hb hin hlk HLF
        go_wp2_with fail
        refine (unhide HL1 _).mono ?_
        rintro e w1 ⟨rfl, b1⟩
        obtain ⟨f1, g1⟩ := box_fill w1 F.kind F.number F.birth none 0 0 F.body
        have HA1 := hide (heap_alloc_new w1 (.cells #[I 0, I 0, I 0, .slice none 0 0, .string ⟨#[]⟩] 24))
        have b2 := b1.trans (f1.mono b1.size)
        have HF2 := hide (owns_below (unhide HF) b2)
        have HL2 := hide (owns_below (unhide HL) b2)
        have HB2 := hide ((unhide HB).trans (b2.mono (unhide HB).size))
        have hcz2 := (World.cell?_of_block (b2.block _ hgl)).trans hcz
        have HX0 := hide (show wr.heap.size ≤ w1.heap.size from b1.size)
        have HG1 := hide g1
        have HC2 := hide hcz2
        have HWB := hide (unhide HB).size
        have HFB := hide (fun q (hq : (Value.slice pF nn cF).ownBlock = some q) => owns_blk (unhide HF) q hq)
        clear b1 f1 g1 b2 hcz hcz2 hgl HF HL HB HL1
        go_upto_region 12 with (refine wp_st24 rfl (.tmp 12) (.tmp 53) rfl w1.heap.size (by rfl) F.kind F.number F.birth none 0 0 F.body (by rfl) _ rfl (unhide HA1) ?_)
        generalize (w1.alloc (.cells #[I 0, I 0, I 0, .slice none 0 0, .string ⟨#[]⟩] 24)).setRow w1.heap.size #[I F.kind, I F.number, I F.birth, .slice none 0 0, S F.body] = w2 at *
        generalize w1.heap.size = X at *
        have c3 := cell_of_row _ _ 3 _ 24 (0, 0) (unhide HG1)
        have f3 := frz (unhide HG1) 3
        have hXl := lt_of_row (unhide HG1)
        have hx3 : (w2.setCell ⟨X, 3, none⟩ (.slice pL lk cL)).heap[X]? = some (.cells #[I F.kind, I F.number, I F.birth, .slice pL lk cL, S F.body] 24 (0, 0)) := heap_setCell_same w2 X 3 _ 24 (.slice pL lk cL) (unhide HG1)
        have o3 := Only.setCell w2 ⟨X, 3, none⟩ (.slice pL lk cL)
        have HXF := hide (show ∀ q, (Value.slice pF nn cF).ownBlock = some q → ¬ q = X from fun q hq e => by have := unhide HFB q hq; have := unhide HX0; omega)
        have HF3 := hide (owns_only (unhide HF2) o3 (unhide HXF))
        have HL3 := hide (owns_only (unhide HL2) o3 (fun q hq e => by
          obtain ⟨cs, q1⟩ := owns_lt (unhide HL2) q hq
          rw [show q = X from e, unhide HG1] at q1
          cases q1))
        have hgw : g < w.heap.size := unhide HGW
        have HC3 := hide ((World.cell?_of_block (o3.block g (blk_lt (unhide HC2)) (fun e => by have := unhide HX0; have := unhide HWB; have e' : g = X := e; omega))).trans (unhide HC2))
        have HB3 := hide (o3.below (unhide HB2) (unhide HB2).size (fun q hq => by rw [show q = X from hq]; have := unhide HX0; have := unhide HWB; omega))
        have HX3 := hide hx3
        clear hx3 o3 HF2 HL2 HB2 HC2
        generalize hW3 : w2.setCell ⟨X, 3, none⟩ (.slice pL lk cL) = W3 at *
        have HW3 := hide hW3
        clear hW3
        go_upto_region 13 with fail
        rw [unhide HW3]
        clear c3 f3 hXl HW3 HG1
        refine rtr13 X nn cF g oo nn cap pF #[I F.kind, I F.number, I F.birth, .slice pL lk cL, S F.body] z (by kernel_rfl) (by kernel_rfl) (by kernel_rfl) _ _ (by show 65 ≤ Array.size _; simp) rfl rfl rfl rfl (Bp W3 (.slice pF nn cF) nn (pvs (lvs l c nn)) [I F.kind, I F.number, I F.birth, .slice pL lk cL, S F.body]) ⟨⟨0, .slice pF nn cF⟩, fun _ => rfl, (fun q => nomatch q), (fun q => nomatch q), (fun q => nomatch q)⟩ ?_ ?_ ?_ ?_ ?_ ?_ ?_ ?_ ?_
        · intro i hi c L W hW
          simp only [List.mem_cons, List.not_mem_nil, or_false, not_or] at hi
          refine ⟨?_, ?_, ?_, by rw [upd_ne (Ne.symm hi.2.2), upd_ne (Ne.symm hi.2.1)]; exact hW.lst⟩
          · rw [upd_ne (Ne.symm hi.1)]; exact hW.pre
          · rw [upd_ne (Ne.symm hi.1), upd_ne (Ne.symm hi.2.1)]
            intro q
            obtain ⟨q1, q2⟩ := hW.mid q
            refine ⟨?_, q2⟩
            by_cases e : 1 = i
            · rw [← e]; exact upd_self _ _
            · rw [upd_ne e]; exact q1
          · rw [upd_ne (Ne.symm hi.1), upd_ne (Ne.symm hi.2.1)]; exact hW.post
        · intro c L W hW hL
          have h2 : L 2 = false := by
            cases q : L 2
            · rfl
            · rw [(hW.mid q).1] at hL; cases hL
          rw [hW.pre h2]
          exact s_ldr (w := W3.drew) Tryz.isAgg24 Tryz.sizeOf24 (unhide HX3) [I F.kind, I F.number, I F.birth, .slice pL lk cL, S F.body] rfl rfl
        · intro c L W hW hL h1
          have h3 : L 3 = false := by
            cases q : L 3
            · rfl
            · rw [(hW.post q).1] at hL; cases hL
          rw [hW.pre hL]
          refine ⟨⟨W3.heap.size, c.v⟩, _, fun j hj => ?_, s_bs271 _ _ _ _ _ W3.drew, fun q => ?_, fun _ => ⟨?_, rfl, fun _ => rfl⟩, fun q => ?_, fun q => ?_⟩
          · unfold vrtr13
            split <;> first | rfl | (rw [hL] at hj; cases hj)
          · rw [upd_self] at q; cases q
          · rw [upd_ne (by decide)]; exact h1
          · rw [upd_ne (by decide), h3] at q; cases q
          · rw [upd_ne (by decide)] at q ⊢; exact hW.lst q
        · intro T c' L W hW hL _ h2
          obtain ⟨m1, m2, m3⟩ := hW.mid h2
          obtain ⟨p, cp, w', q1, q2, q3, q4⟩ := app_own 27 24 T _ 5 64 Tryz.underlying27 info24p rfl (by decide) (.slice pF nn cF) nn (pvs (lvs l c nn)) W3.drew (owns_below (unhide HF3) (Below.refl _ _).drew) [I F.kind, I F.number, I F.birth, .slice pL lk cL, S F.body] rfl (by simp [Value.oneCell']) (by omega) (by omega)
          have h9 : L 9 = false := by
            cases q : L 9
            · rfl
            · rw [hW.lst q] at hL; cases hL
          refine ⟨⟨c'.a, .slice p (nn + 1) cp⟩, w', fun j hj => ?_, ?_, ?_, ?_, ?_, fun _ => upd_self _ _⟩
          · unfold vrtr13
            split <;> first | rfl | (rw [hL] at hj; cases hj) | (rw [h9] at hj; cases hj)
          · rw [m3 hL, m2]
            exact q1
          · rw [upd_ne (by decide), h2]; exact fun q => nomatch q
          · intro _
            refine ⟨by rw [upd_ne (by decide)]; exact m1, m2, fun q => ?_⟩
            rw [upd_self] at q
            cases q
          · intro _
            exact ⟨by rw [upd_ne (by decide)]; exact h2, p, cp, rfl, q2, (Only.of_below (P := fun k => (Value.slice pF nn cF).ownBlock = some k) (Below.refl _ _).drew).trans q3 (fun _ _ r => r), q4⟩
        · intro W
          have h := s_sub (w := W) (.tmp 61) (.const (.int .i64 1)) ((nn : Int) + 1) 1 (by omega) (by omega)
          rw [show (nn : Int) + 1 - 1 = (nn : Int) by omega] at h
          exact h
        · exact fun W => s_ix22 g oo (nn + 1) cap nn (by omega)
        · intro c L W hW _ _
          exact s_ld Tryz.isAgg3 ((World.cell?_of_block (hW.off (k := g) (blk_lt (unhide HC3)) (fun e => by have := unhide HvF _ e; omega))).trans (unhide HC3))
        · intro c' L W hW hL h3
          exact ⟨by rw [upd_ne (by decide)]; exact hW.pre, by rw [upd_ne (by decide), upd_ne (by decide), upd_ne (by decide)]; exact hW.mid, by rw [upd_ne (by decide), upd_ne (by decide)]; exact hW.post, fun _ => by rw [upd_ne (by decide)]; exact h3⟩
        intro cv L W hall hW
        obtain ⟨_, p, cp, e, q1, q2, q3⟩ := hW.post (hall 3 (by omega))
        have HQ1 := hide (show W.ownsRow 0 24 5 cv.v (nn + 1) (pvs (lvs l c nn ++ [(rootv l o c, .slice pL lk cL)])) by
          rw [pvs_app, unhide HRT]
          exact q1)
        have HQ2 := hide (fun k (hk : cv.v.ownBlock = some k) => (q3 k hk).elim (unhide HvF k) (fun r => Nat.le_trans (unhide HB3).size r))
        have HQ3 := hide (show W.ownsRow 0 3 1 (.slice pL lk cL) (rootv l o c).links.length ((rootv l o c).links.map fun z => I z) by
          rw [unhide HRT]
          show W.ownsRow 0 3 1 (.slice pL lk cL) (lks0 l o nn).length ((lks0 l o nn).map fun z => I z)
          rw [unhide HLK]
          exact owns_only (unhide HL3) q2 (fun q hq e => by
            obtain ⟨cs, r1⟩ := owns_lt (unhide HL3) q hq
            obtain ⟨cs2, r2⟩ := owns_lt (unhide HF3) q e
            rw [r1] at r2
            cases r2))
        have HQ4 := hide (q2.below (unhide HB3) (unhide HB3).size (fun q hq => unhide HvF q hq))
        clear q1 q2 q3 hW hall
        simp only [Act.put, List.setIfInBounds_toArray, List.set_cons_succ, List.set_cons_zero]
        go_wp2
        go_ret2
        exact (unhide HTO _ _).2 ⟨cv.v, .slice pL lk cL, rfl, unhide HQ1, unhide HQ2, unhide HQ3, unhide HvL, unhide HQ4⟩
end Go.Proofs.YtjopnhhdemfniaaGreatDoor
/- Pure: pages by rising numbers, the least one taken each time. -/
namespace Go.Proofs.YtjopnhhdemfniaaGreatDoor
open Go.RowKit
def imn (l : List Pg) : Nat → Nat
  | 0 => 0
  | i + 1 => if (l.getD (i + 1) noPg).number < (l.getD (imn l i) noPg).number then i + 1 else imn l i
theorem imn_le (l : List Pg) (i : Nat) : imn l i ≤ i := by
  induction i with
  | zero => exact Nat.le_refl _
  | succ i ih =>
    unfold imn
    split <;> omega
theorem imn_least (l : List Pg) (i j : Nat) (h : j ≤ i) : (l.getD (imn l i) noPg).number ≤ (l.getD j noPg).number := by
  induction i with
  | zero =>
    obtain rfl : j = 0 := by omega
    exact Int.le_refl _
  | succ i ih =>
    unfold imn
    split
    · rename_i q
      by_cases e : j = i + 1
      · rw [e]; exact Int.le_refl _
      · exact Int.le_trans (Int.le_of_lt q) (ih (by omega))
    · rename_i q
      by_cases e : j = i + 1
      · rw [e]; omega
      · exact ih (by omega)
theorem perm_erase {α : Type} (l : List α) (i : Nat) (h : i < l.length) : (l[i] :: l.eraseIdx i).Perm l := by
  rw [List.eraseIdx_eq_take_drop_succ]
  refine List.perm_middle.symm.trans ?_
  rw [← List.drop_eq_getElem_cons h, List.take_append_drop]
/-- What a turn of the law's makes: how it goes, what is fresh, what is gone, what is then. -/
def frs (how : Int) (fr : List Int) (root c gen : Int) : List Pg :=
  if pkv how 5 ≤ 1 then (lvs fr c (fr.length - 1)).map (fun x => { x.1 with birth := gen }) ++ [{ rootv fr root c with birth := gen }]
  else if pkv how 5 ≤ 3 then (lvs fr c (fr.length - 1)).map (fun x => { x.1 with birth := gen }) ++ [{ rootv fr 0 c with birth := gen }]
  else []
def gns (how : Int) (ps : List Pg) : List Int := if pkv how 5 = 2 ∨ pkv how 5 = 3 then ps.map Pg.number else []
end Go.Proofs.YtjopnhhdemfniaaGreatDoor
namespace Go.Proofs.YtjopnhhdemfniaaGreatDoor
open Go.RowKit
set_option maxHeartbeats 8000000
set_option maxRecDepth 8000
/-- A pin of the law's: its number, and pages. -/
abbrev Pn := Int × List Pg
/-- Marks set, one by one. -/
def mkb (ns : List Int) (v : Bool) (b : List Bool) : List Bool := ns.foldl (fun b n => b.set n.toNat v) b
theorem mkb_len (ns : List Int) (v : Bool) (b : List Bool) : (mkb ns v b).length = b.length := by
  induction ns generalizing b with
  | nil => rfl
  | cons n ns ih => simp only [mkb, List.foldl_cons] at *; rw [ih]; simp
def pnn (l : List Pn) (i : Nat) : List Int := (l.take i).flatMap fun x => x.2.map Pg.number
def rls1 (b : List Bool) (k : Nat) : List Int := ((List.range k).filter fun i => b.getD i false).map fun i : Nat => (i : Int)
/-- What pins keep and no page is reached by any more. -/
def hdb0 (l : List Pn) (ps : List Pg) (m : Nat) : List Bool := mkb (ps.map Pg.number) false (mkb (pnn l l.length) true (List.replicate m false))
def hdl (l : List Pn) (ps : List Pg) (m : Nat) : List Int := rls1 (hdb0 l ps m) m
end Go.Proofs.YtjopnhhdemfniaaGreatDoor
namespace Go.Proofs.YtjopnhhdemfniaaGreatDoor
open Go.RowKit
set_option maxHeartbeats 4000000
theorem pvs_take (L : List Pv) (k : Nat) : (pvs L).take (k * 5) = pvs (L.take k) := by
  induction L generalizing k with
  | nil => simp [pvs]
  | cons x L ih =>
    cases k with
    | zero => simp [pvs]
    | succ k =>
      have := ih k
      simp only [pvs, List.flatMap_cons, List.take_succ_cons] at *
      rw [show (k + 1) * 5 = (pvc x).length + k * 5 by simp [pvc]; omega, List.take_length_add_append, this]
theorem pvs_drop (L : List Pv) (k : Nat) : (pvs L).drop (k * 5) = pvs (L.drop k) := by
  induction L generalizing k with
  | nil => simp [pvs]
  | cons x L ih =>
    cases k with
    | zero => simp [pvs]
    | succ k =>
      have := ih k
      simp only [pvs, List.flatMap_cons, List.drop_succ_cons] at *
      rw [show (k + 1) * 5 = (pvc x).length + k * 5 by simp [pvc]; omega, List.drop_length_add_append, this]
theorem pvs_erase (L : List Pv) (k : Nat) : pvs (L.eraseIdx k) = pvs (L.take k) ++ pvs (L.drop (k + 1)) := by
  rw [List.eraseIdx_eq_take_drop_succ]
  simp [pvs]
/-- all = append(all[:k], all[k+1:]...), in its place. -/
theorem del_run (T : TypeId) (g n cap k c1 c2 : Nat) (L : List Pv) (w : World) (h : w.ownsRow 0 24 5 (.slice (some ⟨g, 0, none⟩) n cap) n (pvs L)) (hL : L.length = n) (hk : k < n) (a2 : Addr) (ha : 0 < n - (k + 1) → a2 = ⟨g, (k + 1) * 5, none⟩) (hone : ∀ u ∈ pvs L, u.oneCell' = true) (hc1 : c1 = cap) :
    ∃ W', (Builtin.append_ #[27, 27] T #[.slice (some ⟨g, 0, none⟩) k c1, .slice (some a2) (n - (k + 1)) c2]).run Tryz.prog w = .ok (.slice (some ⟨g, 0, none⟩) (n - 1) cap) W' ∧ W'.ownsRow 0 24 5 (.slice (some ⟨g, 0, none⟩) (n - 1) cap) (n - 1) (pvs (L.eraseIdx k)) ∧ Only (fun q => q = g) w W' := by
  subst hc1
  obtain ⟨i0, hi, hz0, hz1, hz2⟩ := info_parts info24p
  rcases h.2 with ⟨e, _⟩ | ⟨g', cap', cur, e1, e0, e2, e3, e4, e5, e6⟩
  · cases e
  · cases e1
    have hnl : (pvs (L.drop (k + 1))).length = (n - (k + 1)) * 5 := by rw [pvs_len, List.length_drop, hL]
    have hall : cur.toList.take (n * 5) = pvs L := e6
    have hnews : ∀ j u, (pvs (L.drop (k + 1)))[j]? = some u → w.cell? (a2.add j) = some u := by
      intro j u hj
      have hjl : j < (n - (k + 1)) * 5 := by rw [← hnl]; exact (List.getElem?_eq_some_iff.1 hj).1
      rw [ha (by omega)]
      rw [← pvs_drop, List.getElem?_drop, ← hall, List.getElem?_take, if_pos (by omega)] at hj
      have hc := cell_of_row w g ((k + 1) * 5 + j) cur 24 (0, 0) e2
      rw [show (⟨g, (k + 1) * 5, none⟩ : Addr).add j = ⟨g, (k + 1) * 5 + j, none⟩ by simp [Addr.add], hc]
      simpa using hj
    have hr := run_append_room (P := Tryz.prog) w 27 T 24 i0 Tryz.underlying27 hi g k c1 cur e2 a2 (n - (k + 1)) c2 (pvs (L.drop (k + 1))) (by rw [hz1]; exact hnl) hnews (fun u hu => hone u (by rw [← pvs_drop] at hu; exact List.mem_of_mem_drop hu)) (by omega) (by rw [hz1, hnl]; omega)
    rw [show k + (n - (k + 1)) = n - 1 by omega, hz1] at hr
    refine ⟨_, hr, ⟨?_, .inr ⟨g, c1, _, rfl, e0, setRow_heap w g cur _ 24 _ e2, by omega, e4, ?_, ?_⟩⟩, setRow_Only _ _ _⟩
    · rw [pvs_len, List.length_eraseIdx, if_pos (by omega), hL]
    · have hsz : cur.toList.length = c1 * 5 := by rw [Array.length_toList]; exact e5
      rw [List.size_toArray, List.length_append, List.length_append, List.length_take, List.length_drop, hnl, hsz]
      omega
    · have hsz : cur.toList.length = c1 * 5 := by rw [Array.length_toList]; exact e5
      have ht : cur.toList.take (k * 5) = pvs (L.take k) := by
        rw [← pvs_take, ← hall, List.take_take, Nat.min_eq_left (by omega)]
      have hlt : (pvs (L.take k)).length = k * 5 := by rw [pvs_len, List.length_take, hL, Nat.min_eq_left (by omega)]
      show List.take ((n - 1) * 5) (List.toArray _).toList = _
      rw [ht, pvs_erase, List.take_left' (by rw [List.length_append, hlt, hnl]; omega)]
end Go.Proofs.YtjopnhhdemfniaaGreatDoor
