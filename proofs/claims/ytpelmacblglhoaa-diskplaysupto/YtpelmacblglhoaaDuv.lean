import Derived.Test.YtpelmacblglhoaaDuu
import Derived.Test.YtpelmacblglhoaaRgmk
namespace Go.Proofs.Ytpelmacblglhoaa
open Go.RowKit
set_option maxHeartbeats 16000000
set_option maxRecDepth 8000
section
variable {w0 w w' : World} {K Z : Nat} {s : Ws}
theorem cell_setCell_other {w : World} {g T i j : Nat} {v : Value} (h : T ≠ g) : (w.setCell ⟨g, i, none⟩ v).cell? ⟨T, j, none⟩ = w.cell? ⟨T, j, none⟩ := World.cell?_of_block (heap_setCell_other w ⟨g, i, none⟩ T v h)
theorem WI.two {w1 w2 : World} {vx : Value} {D : Nat} {Vl : Value} {L : List Bs} {r : Int} (h : WI w0 K Z none s w) (h0 : r = 0) (hok : Ok (Ds.new L)) (hd : DAt D (Ds.new L) (.slice none 0 0) Vl w1) (hn : ∀ k, Of D (.slice none 0 0) Vl k → w.heap.size ≤ k) (b1 : Below w.heap.size w w1)
    (hr : RN w1 L r vx w2) (b2 : Below w1.heap.size w1 w2) : ∃ tag', WI w0 K Z none { s with tag := tag' } w2 ∧ NDo r (ptr D) vx tag' w2 := by
  obtain ⟨X, ul, ui, up, e, hx, hxn⟩ := hr.1 h0
  have hA := ((h.ext (7, 1)).below b1).ext (7, 2)
  refine ⟨_, hA.below b2, .inr ⟨h0, ⟨D, X, .slice none 0 0, Vl, ul, ui, up, Ds.new L, Rd.new L⟩, rfl, e, ⟨hd.below b2, hx, hok, Rel.new L, rfl, fun k hk => ?_, fun k hk => ?_⟩⟩⟩
  · show Go.Proofs.Ytpelmacblglhoaa.ext (Go.Proofs.Ytpelmacblglhoaa.ext s.tag w.heap.size (7, 1)) w1.heap.size (7, 2) k = _
    rw [ext_old (hd.old k hk), ext_new (hn k hk)]
  · show Go.Proofs.Ytpelmacblglhoaa.ext (Go.Proofs.Ytpelmacblglhoaa.ext s.tag w.heap.size (7, 1)) w1.heap.size (7, 2) k = _
    rw [ext_new (hxn k hk)]
/-- A step of a script. -/
structure Opv where
  kind : Int
  on : Int
  n : Int
  s : Bs
  ks : List Kp
structure Opr (o : Opv) : Prop where
  k : -9223372036854775808 ≤ o.kind ∧ o.kind ≤ 9223372036854775807
  a : -9223372036854775808 ≤ o.on ∧ o.on ≤ 9223372036854775807
  b : -9223372036854775808 ≤ o.n ∧ o.n ≤ 9223372036854775807
  l : o.s.length ≤ 2000000
  m : o.ks.length ≤ 2000000
  q : ∀ x ∈ o.ks, -9223372036854775808 ≤ x.2 ∧ x.2 ≤ 9223372036854775807
def bls (k : Nat) : List Bs := (List.range k).map fun i : Nat => blkv (i : Int)
theorem bls_next (k : Nat) : bls (k + 1) = bls k ++ [blkv k] := by simp [bls, List.range_succ]
theorem bls_len (k : Nat) : (bls k).length = k := by simp [bls]
theorem makes_wi (h : WI w0 K Z none s w) (o : Opv) (vk : Value) (hr : Opr o) (hns : s.sd.length + 1 ≤ K) (hK : K ≤ 10000000) (hhn : s.hn ≤ 1000000) :
    Calls Try.prog 30 #[ptr Z, .agg #[I o.kind, I o.on, I o.n, S o.s, vk]] w fun e w' => e = .returned (.tuple #[.bool true, .bool (decide (o.kind = 12) || decide (o.kind = 11))]) ∧ ∃ s', WI w0 K Z none s' w' ∧ s'.sd.length ≤ s.sd.length + 1 ∧ Sm s s' ∧ s'.hn ≤ 1000000 ∧ (¬ (o.kind = 12 ∨ o.kind = 11) → s' = s ∧ Below w.heap.size w w') := by
  have hz := heap_alloc_new w (.cells #[I o.kind, I o.on, I o.n, S o.s, vk] 35)
  have ba := (Below.refl w.heap.size w).alloc (Nat.le_refl _) (.cells #[I o.kind, I o.on, I o.n, S o.s, vk] 35)
  have hbx : ∀ W, Below (w.alloc (.cells #[I o.kind, I o.on, I o.n, S o.s, vk] 35)).heap.size (w.alloc (.cells #[I o.kind, I o.on, I o.n, S o.s, vk] 35)) W → W.heap[w.heap.size]? = some (.cells #[I o.kind, I o.on, I o.n, S o.s, vk] 35 (0, 0)) := fun W b => (b.block _ (lt_of_row hz)).trans hz
  have HBX := hide hbx
  have HA := hide (And.intro ba h)
  obtain ⟨kind, on, n, str, ks⟩ := o
  have HR := hide hr
  simp only at *
  have y0 : (w.alloc (.cells #[I kind, I on, I n, S str, vk] 35)).cell? ⟨w.heap.size, 0, none⟩ = some (I kind) := cell_of_row _ _ 0 _ 35 (0, 0) hz
  have y2 : (w.alloc (.cells #[I kind, I on, I n, S str, vk] 35)).cell? ⟨w.heap.size, 2, none⟩ = some (I n) := cell_of_row _ _ 2 _ 35 (0, 0) hz
  have y1 : (w.alloc (.cells #[I kind, I on, I n, S str, vk] 35)).cell? ⟨w.heap.size, 1, none⟩ = some (I on) := cell_of_row _ _ 1 _ 35 (0, 0) hz
  have y3 : (w.alloc (.cells #[I kind, I on, I n, S str, vk] 35)).cell? ⟨w.heap.size, 3, none⟩ = some (S str) := cell_of_row _ _ 3 _ 35 (0, 0) hz
  have hwl := lt_of_row hz
  clear hz ba hbx h hr
  by_cases k12 : kind = 12
  · subst k12
    have hb := (unhide HR).b
    simp only at hb
    have HW1 := hide ((unhide HA).2.below (unhide HA).1)
    have H1 := hide (fun W => new_any n W hb)
    have H2 := hide (fun W => rNew2_any n W)
    go_enter Try.func30, Try.ntmps30
    go_wp2_with fail
    refine (unhide H1 _).mono ?_
    generalize w.alloc (.cells #[I 12, I on, I n, S str, vk] 35) = wb at *
    intro e3 w3 hq3
    obtain ⟨vd, rfl, hq3, b3⟩ : ∃ vd, e3 = .returned (.tuple #[vd, I (newv n)]) ∧ ((newv n ≠ 0 ∧ vd = .pointer none) ∨ (newv n = 0 ∧ Ok (Ds.new (List.replicate n.toNat zs)) ∧ ∃ D Vl, vd = ptr D ∧ DAt D (Ds.new (List.replicate n.toNat zs)) (.slice none 0 0) Vl w3 ∧ ∀ k, Of D (.slice none 0 0) Vl k → wb.heap.size ≤ k)) ∧ Below wb.heap.size wb w3 := by
      rcases hq3 with ⟨a, b, c⟩ | ⟨a, D, Vl, b, c, d, e⟩
      · exact ⟨.pointer none, by rw [b]; simp [newv, a], .inl ⟨by simp [newv, a], rfl⟩, by rw [c]; exact Below.refl _ _⟩
      · refine ⟨ptr D, by rw [b]; simp [newv, a], .inr ⟨by simp [newv, a], Ok.zs ?_, D, Vl, rfl, c, d⟩, e⟩
        have hm : 8 ≤ n ∧ n ≤ 4096 := by simpa [mayv] using a
        rw [Int.toNat_of_nonneg (by omega)]
        exact a
    have y2b : w3.cell? ⟨w.heap.size, 2, none⟩ = some (I n) := (b3.cell (p := ⟨w.heap.size, 2, none⟩) hwl).trans y2
    have hwl3 := Nat.lt_of_lt_of_le hwl b3.size
    have HQ3 := hide hq3
    have HB3 := hide b3
    have HR2 := hide (unhide H2 w3)
    clear hq3 b3
    go_wp2_with fail
    refine (unhide HR2).mono ?_
    rintro e4 w4 ⟨⟨vx, rfl, hrn⟩, b4⟩
    obtain ⟨tg, hC, hN⟩ : ∃ tg, WI w0 K Z none { s with tag := tg } w4 ∧ NDo (newv n) vd vx tg w4 := by
      rcases unhide HQ3 with ⟨a, b⟩ | ⟨a, ok, D, Vl, b, c, d⟩
      · exact ⟨s.tag, (unhide HW1).below ((unhide HB3).trans (b4.mono (unhide HB3).size)), .inl ⟨a, b, hrn.2 a⟩⟩
      · subst b
        exact (unhide HW1).two a ok c d (unhide HB3) hrn b4
    generalize newv n = lv at *
    clear hrn b4 HR2 H1 H2 HQ3 HB3 HW1 HA HBX HR
    rcases hN with ⟨l0, rfl, rfl⟩ | ⟨l0, x, rfl, rfl, hnd⟩
    · have HF := hide hC
      clear hC
      go_wp2
      go_ret2
      exact ⟨by first | rfl | simp, _, unhide HF, by simp only; omega, ⟨rfl, rfl⟩, hhn, fun q => absurd q (by simp)⟩
    · have hZq := hC.lt
      have z0 : w4.cell? ⟨Z, 0, none⟩ = some s.vl := hC.cell 0
      obtain ⟨pl, cl, hpl⟩ := owns_form hC.rl
      simp only at hpl
      have hrl := hC.rl
      simp only at hrl
      rw [hpl] at hrl z0
      have HF := hide (And.intro hC hnd)
      have HRL := hide hrl
      have HPL := hide hpl
      clear hC hnd hrl hpl
      go_wp2_with (first
        | (at_builtin; refine push_own 25 40 _ 2 16 Try.underlying25 info40 rfl (by decide) rfl (.tmp 38) (.tmp 42) rfl (.slice pl s.sd.length cl) s.sd.length (cellsS s.sd) (by rfl) w4 (unhide HRL) [ptr x.D, ptr x.X] rfl (by intro u hu; simp at hu; rcases hu with rfl | rfl <;> rfl) (by rfl) (by omega) (by omega) ?_
           intro p5 c5 w5 r1 r2 r3
           have hZ5 := (r2.block Z hZq (fun q => by
             have a := (unhide HF).1.tl Z (by simp only; rw [unhide HPL]; exact q)
             rw [(unhide HF).1.tz] at a
             exact absurd a (by decide))).trans (unhide HF).1.blk
           have z5 : w5.cell? ⟨Z, 0, none⟩ = some (.slice pl s.sd.length cl) := by rw [cell_of_row w5 Z 0 _ 30 (0, 0) hZ5]; show some s.vl = _; rw [unhide HPL]
           have fz5 := frz hZ5 0
           have hZl5 := lt_of_row hZ5
           have HR := hide (And.intro r1 (And.intro r2 (And.intro r3 hZ5)))
           clear r1 r2 r3 hZ5)
        | fail)
      go_ret2
      obtain ⟨r1, r2, r3, hZ5⟩ := unhide HR
      obtain ⟨hwi, hnd⟩ := unhide HF
      have hq : ∀ k, k = Z ∨ (Value.slice pl s.sd.length cl).ownBlock = some k → k = Z ∨ s.vl.ownBlock = some k := fun k q => by rw [unhide HPL]; exact q
      obtain ⟨tg2, hfin⟩ := hwi.addSide (x := x) (vl' := .slice p5 (s.sd.length + 1) c5) (w' := w5.setCell ⟨Z, 0, none⟩ (.slice p5 (s.sd.length + 1) c5)) hns hnd.dat hnd.rat hnd.ok hnd.rel (by rw [hnd.ac]; omega) hnd.td hnd.tr
        (((r2.mono (fun k _ q => .inr q)).put ⟨Z, 0, none⟩ _ (.inl (.inl rfl))).mono (fun k _ q => hq k q))
        (heap_setCell_same w5 Z 0 _ 30 _ hZ5)
        (owns_only r1 (Only.setCell w5 ⟨Z, 0, none⟩ _) (fun k hk q => by
          have q' : k = Z := q
          rcases r3 k hk with a | a
          · have b := hwi.tl k (by simp only; rw [unhide HPL]; exact a)
            rw [q', hwi.tz] at b
            exact absurd b (by decide)
          · omega))
        (fun k hk => by rw [unhide HPL]; exact r3 k hk)
      exact ⟨by first | rfl | simp, _, hfin, by show (s.sd ++ [x]).length ≤ _; simp, ⟨rfl, rfl⟩, hhn, fun q => absurd q (by simp)⟩
  · by_cases k11 : kind = 11
    · subst k11
      have hb := (unhide HR).b
      have ha := (unhide HR).a
      simp only at hb ha
      have HW1 := hide (((unhide HA).2.below (unhide HA).1).ext (7, 0))
      have H1 := hide (fun W => pick_any n 20 W (by omega) (by omega) hb.1 hb.2)
      have hc20 := pkv_lt n 20 (by omega)
      generalize pkv n 20 = c at *
      have q1 : ((11 : Int) == 12) = false := by decide
      go_enter Try.func30, Try.ntmps30
      go_wp2
      generalize w.alloc (.cells #[I 11, I on, I n, S str, vk] 35) = wb at *
      go_loopw [10, 11] (fun V i wr => ∃ k : Nat, k ≤ c ∧ i = .int .i64 k ∧ Ows wb V (bls k) wr) (fun _ i _ => c - (Go.RowKit.intOf i).toNat)
      case atStart => exact ⟨0, by omega, rfl, Ows.nil wb⟩
      case round =>
        obtain ⟨k, hk, rfl, ho⟩ := hrel
        have y2b : wr.cell? ⟨w.heap.size, 2, none⟩ = some (I n) := (ho.bel.cell (p := ⟨w.heap.size, 2, none⟩) hwl).trans y2
        have hwlr := Nat.lt_of_lt_of_le hwl ho.bel.size
        have HO := hide ho
        obtain ⟨pv, cv, hpv⟩ := owns_form ho.row
        rw [bls_len] at hpv
        subst hpv
        by_cases hlt : k < c
        · have hlt' : (k : Int) < (c : Int) := by omega
          have HB := hide (fun W => block_any (k : Int) W)
          have HNx := hide (bls_next k)
          clear ho
          generalize blkv (k : Int) = bk at *
          go_wp2_with (first
            | (go_at_call 8; refine (unhide H1 _).mono ?_; rintro e w2 ⟨rfl, hw2⟩; rw [hw2]; clear hw2 w2)
            | (go_at_call 20; refine (unhide HB _).mono ?_; rintro e w2 ⟨rfl, b2⟩; have HO2 := hide ((unhide HO).below b2); clear b2)
            | (at_builtin; refine wp_pushS (x := bk) rfl (.tmp 65) (.tmp 68) rfl (by rfl) (by rfl) (unhide HO2) (by rw [bls_len]; omega) ?_; intro V' w3 hw3; have HO3 := hide hw3; clear hw3)
            | fail)
          refine ⟨⟨k + 1, by omega, by go_num, by rw [unhide HNx]; exact unhide HO3⟩, ?_⟩
          simp [Go.RowKit.intOf]; omega
        · have hlt' : ¬ (k : Int) < (c : Int) := by omega
          have hkc : k = c := by omega
          by_cases hk0 : k = 0
          · have hlo : LO w0 K Z (.slice pv k cv) (bls k) { s with tag := ext s.tag wb.heap.size (7, 0) } wr := ⟨(unhide HW1).below ho.bel, ho.row, fun q hq => ext_new (ho.new q hq)⟩
            have HL := hide (loads_wi hlo (by rw [bls_len]; omega) hns hK hhn)
            have hk0' : ¬ (0 : Int) < (k : Int) := by omega
            clear ho hlo hk0 hkc
            go_wp2_with (first
              | (go_at_call 8; refine (unhide H1 _).mono ?_; rintro e w2 ⟨rfl, hw2⟩; rw [hw2]; clear hw2 w2)
              | (go_at_call 39; refine (unhide HL).mono ?_; rintro e w2 ⟨rfl, s2, a1, a2, a3, a4⟩; have HF := hide (And.intro a1 (And.intro a2 (And.intro a3 a4))); clear a1 a2 a3 a4)
              | fail)
            go_ret2
            obtain ⟨a1, a2, a3, a4⟩ := unhide HF
            exact ⟨rfl, s2, a1, a2, ⟨a3.a, a3.b⟩, a4, fun q => absurd q (by simp)⟩
          · have hk0' : (0 : Int) < (k : Int) := by omega
            obtain ⟨g, cg, cur, e1, e2, -⟩ := owns_at ho.row (by rw [bls_len]; omega)
            rw [bls_len] at e1
            cases e1
            have hrow := ho.row
            rw [bls_len] at hrow
            have H2 := hide (fun W => pick_any on k W (by omega) (by omega) ha.1 ha.2)
            have hj := pkv_lt on k (by omega)
            generalize pkv on k = j at *
            have hcell := owns_cell hrow j _ (map_at S (bls k) [] j (by rw [bls_len]; exact hj))
            have hfz := frz e2 j
            have hgl := lt_of_row e2
            have y1b : wr.cell? ⟨w.heap.size, 1, none⟩ = some (I on) := (ho.bel.cell (p := ⟨w.heap.size, 1, none⟩) hwl).trans y1
            have y3b : wr.cell? ⟨w.heap.size, 3, none⟩ = some (S str) := (ho.bel.cell (p := ⟨w.heap.size, 3, none⟩) hwl).trans y3
            have hgb : wb.heap.size ≤ g := ho.new g rfl
            have hgw : g ≠ w.heap.size := by omega
            have o2 := owns_set (owns_below hrow (Below.refl wr.heap.size wr).drew) j (S str)
            rw [map_set] at o2
            have hl2 : ((bls k).set j str).length = k := by rw [List.length_set, bls_len]
            have hlo : ∀ W, W = wr.drew.setCell ⟨g, j, none⟩ (S str) → LO w0 K Z (.slice (some ⟨g, 0, none⟩) k cv) ((bls k).set j str) { s with tag := ext s.tag wb.heap.size (7, 0) } W := fun W e => by
              subst e
              refine ⟨(unhide HW1).below ((below_drew ho.bel).setCell (p := ⟨g, j, none⟩) hgb _), ?_, fun q hq => ext_new (by cases hq; exact hgb)⟩
              rw [hl2]
              exact o2
            have HL := hide (fun W e => loads_wi (hlo W e) (by rw [hl2]; omega) hns hK hhn)
            have hjk : (j : Int) < (k : Int) := by omega
            generalize (bls k).getD j [] = u0 at *
            clear ho hlo o2 hrow e2 hl2 hkc
            go_wp2_with (first
              | (go_at_call 8; refine (unhide H1 _).mono ?_; rintro e w2 ⟨rfl, hw2⟩; rw [hw2]; clear hw2 w2)
              | fail)
            refine rmk w.heap.size g k cv j on str rfl rfl rfl _ _ (show 82 ≤ 85 from by decide) rfl rfl (fun L W => W = if L 9 then wr.drew.setCell ⟨g, 0 + j, none⟩ (S str) else wr.drew) ?h0 ?hp hj ?l2 ?l7 ?c5 ?n9 ?_
            case h0 => rfl
            case hp =>
              intro i hi L W q
              have h9 : i ≠ 9 := by rintro rfl; simp at hi
              simp only [upd, Ne.symm h9, if_false]
              exact q
            case l2 =>
              intro L W q
              rw [q]
              split
              · rw [cell_setCell_other hgw.symm]; exact y1b
              · exact y1b
            case l7 =>
              intro L W q
              rw [q]
              split
              · rw [cell_setCell_other hgw.symm]; exact y3b
              · exact y3b
            case c5 =>
              intro L W q h5
              refine (unhide H2 W).mono ?_
              rintro e w2 ⟨rfl, rfl⟩
              exact ⟨rfl, by simpa [upd] using q⟩
            case n9 =>
              intro L W q h9 _ _
              rw [h9] at q
              simp only [Bool.false_eq_true, if_false] at q
              rw [q, Nat.zero_add]
              exact ⟨by simp [upd], ⟨_, hcell⟩, hfz⟩
            intro L W hall q
            rw [hall 9 (by decide)] at q
            simp only [if_true, Nat.zero_add] at q
            have HLW := hide (unhide HL W q)
            clear q hall
            simp only [Act.put, List.setIfInBounds_toArray, List.set_cons_succ, List.set_cons_zero]
            go_wp2_with fail
            refine (unhide HLW).mono ?_
            all_goals
              rintro e w2 ⟨rfl, s2, a1, a2, a3, a4⟩
              have HF := hide (And.intro a1 (And.intro a2 (And.intro a3 a4)))
              clear a1 a2 a3 a4
              go_wp2
              go_ret2
              obtain ⟨a1, a2, a3, a4⟩ := unhide HF
              exact ⟨rfl, s2, a1, a2, ⟨a3.a, a3.b⟩, a4, fun q => absurd q (by simp)⟩
    · have e : (decide (kind = 12) || decide (kind = 11)) = false := by simp [k12, k11]
      rw [e]
      have q1 : (kind == 12) = false := by simpa using k12
      have q2 : (kind == 11) = false := by simpa using k11
      go_enter Try.func30, Try.ntmps30
      go_wp2
      go_ret2
      exact ⟨rfl, s, (unhide HA).2.below (unhide HA).1, by omega, ⟨rfl, rfl⟩, hhn, fun _ => ⟨rfl, (unhide HA).1⟩⟩
end
end Go.Proofs.Ytpelmacblglhoaa
