import Derived.Test.YtpidmpefodnffaaGreatDoorZfde
namespace Go.Proofs.YtpidmpefodnffaaGreatDoor
open Go.RowKit
set_option maxHeartbeats 4000000
set_option maxRecDepth 8000
def tim (z : Int) : Bool := decide (0 ≤ z) && decide (z ≤ 1099511627776)
def idn (z : Int) : Bool := decide (1 ≤ z) && decide (z ≤ 4611686018427387904)
theorem isTime_any (z : Int) (w : World) : Calls Tryz.prog 116 #[I z] w fun e w' => e = .returned (.bool (tim z)) ∧ w' = w := by
  go_enter Tryz.func116, Tryz.ntmps116
  go_wp2
  all_goals go_ret
  all_goals refine ⟨ret_bool ?_, rfl⟩
  all_goals (rw [Bool.eq_iff_iff]; simp [tim]; try omega)
theorem isID_any (z : Int) (w : World) : Calls Tryz.prog 142 #[I z] w fun e w' => e = .returned (.bool (idn z)) ∧ w' = w := by
  go_enter Tryz.func142, Tryz.ntmps142
  go_wp2
  all_goals go_ret
  all_goals refine ⟨ret_bool ?_, rfl⟩
  all_goals (rw [Bool.eq_iff_iff]; simp [idn]; try omega)
theorem isDigest_any (s : Bs) (w : World) : Calls Tryz.prog 147 #[S s] w fun e w' => e = .returned (.bool (s.length == 32)) ∧ w' = w := by
  go_enter Tryz.func147, Tryz.ntmps147
  go_wp2
  all_goals go_ret
  all_goals refine ⟨ret_bool ?_, rfl⟩
  all_goals (rw [Bool.eq_iff_iff]; simp; try omega)
theorem isSecret_any (s : Bs) (w : World) : Calls Tryz.prog 149 #[S s] w fun e w' => e = .returned (.bool (s.length == 24)) ∧ w' = w := by
  go_enter Tryz.func149, Tryz.ntmps149
  go_wp2
  all_goals go_ret
  all_goals refine ⟨ret_bool ?_, rfl⟩
  all_goals (rw [Bool.eq_iff_iff]; simp; try omega)
theorem isNm_any (s : Bs) (w : World) (hs : s.length ≤ 9223372036854775807) : Calls Tryz.prog 128 #[S s] w fun e w' => e = .returned (.bool (right [s])) ∧ Below w.heap.size w w' := by
  have hb : Below w.heap.size w (w.alloc (.cells #[S s] 9)) := (Below.refl _ w).alloc (Nat.le_refl _) _
  have HR := hide (Right_any (some ⟨w.heap.size, 0, none⟩) 1 1 [s] (w.alloc (.cells #[S s] 9)) (sts_new w [s]) (by omega) (lns_one s hs))
  have HB := hide hb
  clear hb hs
  generalize right [s] = r at *
  go_enter Tryz.func128, Tryz.ntmps128
  go_wp2_with fail
  refine (unhide HR).mono ?_
  rintro e w2 ⟨rfl, hw2⟩
  have HW := hide ((unhide HB).trans (hw2.mono (unhide HB).size))
  clear hw2 HR HB
  go_wp2
  go_ret
  exact ⟨rfl, unhide HW⟩
end Go.Proofs.YtpidmpefodnffaaGreatDoor
namespace Go.Proofs.YtpidmpefodnffaaGreatDoor
open Go.RowKit
set_option maxHeartbeats 4000000
set_option maxRecDepth 8000
def codOK (id : Int) (cl su : Bs) (sc : List Bs) (ha ch : Bs) (un st fa : Int) : Bool := idn id && (right [cl] && (right [su] && (right sc && (ha.length == 32 && (ch.length == 32 && (tim un && (((st == 1 && fa == 0) || (st == 2 && idn fa)))))))))
theorem rightCode_any (id : Int) (cl su : Bs) (va : Option Addr) (vc : Nat) (sc : List Bs) (ha ch : Bs) (un st fa : Int) (w : World) (hcl : cl.length ≤ 9223372036854775807) (hsu : su.length ≤ 9223372036854775807) (hsc : Sts w va sc.length sc) (hsl : sc.length ≤ 140737488355000) (hln : Lns sc) : Calls Tryz.prog 89 #[.agg #[I id, S cl, S su, .slice va sc.length vc, S ha, S ch, I un, I st, I fa]] w fun e w' => e = .returned (.bool (codOK id cl su sc ha ch un st fa)) ∧ Below w.heap.size w w' := by
  have hB0 : Below w.heap.size w (w.alloc (.cells #[I id, S cl, S su, .slice va sc.length vc, S ha, S ch, I un, I st, I fa] 51)) := (Below.refl _ w).alloc (Nat.le_refl _) _
  have HB := hide hB0
  have c0 : (w.alloc (.cells #[I id, S cl, S su, .slice va sc.length vc, S ha, S ch, I un, I st, I fa] 51)).cell? ⟨w.heap.size, 0, none⟩ = some (I id) := cell_new _ _ _ _ _ rfl
  have c1 : (w.alloc (.cells #[I id, S cl, S su, .slice va sc.length vc, S ha, S ch, I un, I st, I fa] 51)).cell? ⟨w.heap.size, 1, none⟩ = some (S cl) := cell_new _ _ _ _ _ rfl
  have c2 : (w.alloc (.cells #[I id, S cl, S su, .slice va sc.length vc, S ha, S ch, I un, I st, I fa] 51)).cell? ⟨w.heap.size, 2, none⟩ = some (S su) := cell_new _ _ _ _ _ rfl
  have c3 : (w.alloc (.cells #[I id, S cl, S su, .slice va sc.length vc, S ha, S ch, I un, I st, I fa] 51)).cell? ⟨w.heap.size, 3, none⟩ = some (.slice va sc.length vc) := cell_new _ _ _ _ _ rfl
  have c4 : (w.alloc (.cells #[I id, S cl, S su, .slice va sc.length vc, S ha, S ch, I un, I st, I fa] 51)).cell? ⟨w.heap.size, 4, none⟩ = some (S ha) := cell_new _ _ _ _ _ rfl
  have c5 : (w.alloc (.cells #[I id, S cl, S su, .slice va sc.length vc, S ha, S ch, I un, I st, I fa] 51)).cell? ⟨w.heap.size, 5, none⟩ = some (S ch) := cell_new _ _ _ _ _ rfl
  have c6 : (w.alloc (.cells #[I id, S cl, S su, .slice va sc.length vc, S ha, S ch, I un, I st, I fa] 51)).cell? ⟨w.heap.size, 6, none⟩ = some (I un) := cell_new _ _ _ _ _ rfl
  have c7 : (w.alloc (.cells #[I id, S cl, S su, .slice va sc.length vc, S ha, S ch, I un, I st, I fa] 51)).cell? ⟨w.heap.size, 7, none⟩ = some (I st) := cell_new _ _ _ _ _ rfl
  have c8 : (w.alloc (.cells #[I id, S cl, S su, .slice va sc.length vc, S ha, S ch, I un, I st, I fa] 51)).cell? ⟨w.heap.size, 8, none⟩ = some (I fa) := cell_new _ _ _ _ _ rfl
  have hlt : w.heap.size < (w.alloc (.cells #[I id, S cl, S su, .slice va sc.length vc, S ha, S ch, I un, I st, I fa] 51)).heap.size := by simp
  generalize hW1 : w.alloc (.cells #[I id, S cl, S su, .slice va sc.length vc, S ha, S ch, I un, I st, I fa] 51) = W1 at *
  clear hB0
  obtain ⟨R, hR⟩ : ∃ R, R = codOK id cl su sc ha ch un st fa := ⟨_, rfl⟩
  have HR := hide hR
  rw [← hR]
  clear hR
  go_enter Tryz.func89, Tryz.ntmps89
  go_wp2_with fail
  refine (isID_any _ _).mono ?_
  rintro e w9 ⟨rfl, hw9⟩
  rw [hw9]
  clear hw9
  cases h1 : idn id
  ·
    go_wp2
    all_goals go_ret
    all_goals exact ⟨ret_bool (by rw [unhide HR]; simp [codOK, *]), unhide HB⟩
  ·
    go_wp2_with fail
    refine (isNm_any cl _ (by assumption)).mono ?_
    rintro e v2 ⟨rfl, hv⟩
    replace c0 := cell_below c0 hv hlt
    replace c1 := cell_below c1 hv hlt
    replace c2 := cell_below c2 hv hlt
    replace c3 := cell_below c3 hv hlt
    replace c4 := cell_below c4 hv hlt
    replace c5 := cell_below c5 hv hlt
    replace c6 := cell_below c6 hv hlt
    replace c7 := cell_below c7 hv hlt
    replace c8 := cell_below c8 hv hlt
    replace hlt : w.heap.size < v2.heap.size := Nat.lt_of_lt_of_le hlt hv.size
    replace HB := hide ((unhide HB).trans (hv.mono (unhide HB).size))
    clear hv
    cases h2 : right [cl]
    ·
      go_wp2
      all_goals go_ret
      all_goals exact ⟨ret_bool (by rw [unhide HR]; simp [codOK, *]), unhide HB⟩
    ·
      go_wp2_with fail
      refine (isNm_any su _ (by assumption)).mono ?_
      rintro e v3 ⟨rfl, hv⟩
      replace c0 := cell_below c0 hv hlt
      replace c1 := cell_below c1 hv hlt
      replace c2 := cell_below c2 hv hlt
      replace c3 := cell_below c3 hv hlt
      replace c4 := cell_below c4 hv hlt
      replace c5 := cell_below c5 hv hlt
      replace c6 := cell_below c6 hv hlt
      replace c7 := cell_below c7 hv hlt
      replace c8 := cell_below c8 hv hlt
      replace hlt : w.heap.size < v3.heap.size := Nat.lt_of_lt_of_le hlt hv.size
      replace HB := hide ((unhide HB).trans (hv.mono (unhide HB).size))
      clear hv
      cases h3 : right [su]
      ·
        go_wp2
        all_goals go_ret
        all_goals exact ⟨ret_bool (by rw [unhide HR]; simp [codOK, *]), unhide HB⟩
      ·
        go_wp2_with fail
        refine (Right_any va sc.length vc sc _ (Sts.bel hsc (unhide HB)) hsl hln).mono ?_
        rintro e v4 ⟨rfl, hv⟩
        replace c0 := cell_below c0 hv hlt
        replace c1 := cell_below c1 hv hlt
        replace c2 := cell_below c2 hv hlt
        replace c3 := cell_below c3 hv hlt
        replace c4 := cell_below c4 hv hlt
        replace c5 := cell_below c5 hv hlt
        replace c6 := cell_below c6 hv hlt
        replace c7 := cell_below c7 hv hlt
        replace c8 := cell_below c8 hv hlt
        replace hlt : w.heap.size < v4.heap.size := Nat.lt_of_lt_of_le hlt hv.size
        replace HB := hide ((unhide HB).trans (hv.mono (unhide HB).size))
        clear hv
        cases h4 : right sc
        ·
          go_wp2
          all_goals go_ret
          all_goals exact ⟨ret_bool (by rw [unhide HR]; simp [codOK, *]), unhide HB⟩
        ·
          go_wp2_with fail
          refine (isDigest_any _ _).mono ?_
          rintro e w9 ⟨rfl, hw9⟩
          rw [hw9]
          clear hw9
          cases h5 : ha.length == 32
          ·
            go_wp2
            all_goals go_ret
            all_goals exact ⟨ret_bool (by rw [unhide HR]; simp [codOK, *]), unhide HB⟩
          ·
            go_wp2_with fail
            refine (isDigest_any _ _).mono ?_
            rintro e w9 ⟨rfl, hw9⟩
            rw [hw9]
            clear hw9
            cases h6 : ch.length == 32
            ·
              go_wp2
              all_goals go_ret
              all_goals exact ⟨ret_bool (by rw [unhide HR]; simp [codOK, *]), unhide HB⟩
            ·
              go_wp2_with fail
              refine (isTime_any _ _).mono ?_
              rintro e w9 ⟨rfl, hw9⟩
              rw [hw9]
              clear hw9
              cases h7 : tim un
              ·
                go_wp2
                all_goals go_ret
                all_goals exact ⟨ret_bool (by rw [unhide HR]; simp [codOK, *]), unhide HB⟩
              ·
                cases h8 : st == 1
                ·
                  cases h9 : st == 2
                  ·
                    go_wp2
                    all_goals go_ret
                    all_goals exact ⟨ret_bool (by rw [unhide HR]; simp [codOK, *]), unhide HB⟩
                  ·
                    go_wp2_with fail
                    refine (isID_any _ _).mono ?_
                    rintro e w9 ⟨rfl, hw9⟩
                    rw [hw9]
                    clear hw9
                    cases h10 : idn fa
                    ·
                      go_wp2
                      all_goals go_ret
                      all_goals exact ⟨ret_bool (by rw [unhide HR]; simp [codOK, *]), unhide HB⟩
                    ·
                      go_wp2
                      all_goals go_ret
                      all_goals exact ⟨ret_bool (by rw [unhide HR]; simp [codOK, *]), unhide HB⟩
                ·
                  cases h11 : fa == 0
                  ·
                    cases h12 : st == 2
                    ·
                      go_wp2
                      all_goals go_ret
                      all_goals exact ⟨ret_bool (by rw [unhide HR]; simp [codOK, *]), unhide HB⟩
                    ·
                      go_wp2_with fail
                      refine (isID_any _ _).mono ?_
                      rintro e w9 ⟨rfl, hw9⟩
                      rw [hw9]
                      clear hw9
                      cases h13 : idn fa
                      ·
                        go_wp2
                        all_goals go_ret
                        all_goals exact ⟨ret_bool (by rw [unhide HR]; simp [codOK, *]), unhide HB⟩
                      ·
                        go_wp2
                        all_goals go_ret
                        all_goals exact ⟨ret_bool (by rw [unhide HR]; simp [codOK, *]), unhide HB⟩
                  ·
                    go_wp2
                    all_goals go_ret
                    all_goals exact ⟨ret_bool (by rw [unhide HR]; simp [codOK, *]), unhide HB⟩
end Go.Proofs.YtpidmpefodnffaaGreatDoor
namespace Go.Proofs.YtpidmpefodnffaaGreatDoor
open Go.RowKit
def lx (l : List Bs) : Nat → Bs := fun i => l.getD i []
theorem inf30 : (Tryz.prog.info? 30).map (·.size) = some 2 := by kernel_rfl
theorem wp_st30 {ops : Array Oper} {rest : List Oper} {o : Oper} {a : Act} {w : World} {Q : Exit → Act → World → Prop} (hgd : o.guard = none) (x y : Operand) (ho : o.op = .store 30 x y)
    (P : Nat) (hx : a.eval x = .pointer (some ⟨P, 0, none⟩)) (k v : Bs) (hy : a.eval y = .agg #[S k, S v]) (old : Array Value) (ho5 : old.size = 2) (hg : w.heap[P]? = some (.cells old 30 (0, 0)))
    (h : wpList Tryz.prog ops Q rest (a.put o.dst undef) (w.setRow P #[S k, S v])) : wpList Tryz.prog ops Q (o :: rest) a w :=
  wpList_store_row hgd 30 x y ho P _ hx hy 30 old hg inf30 (by rw [ho5]; rfl) (by simp [Value.oneCell']) h
theorem right_one {s : Bs} (h : right [s] = true) : 1 ≤ s.length ∧ s.length ≤ 16 := by
  have h1 := (right_iff.1 h).1 s (by simp)
  simp [nm] at h1
  omega
end Go.Proofs.YtpidmpefodnffaaGreatDoor
namespace Go.Proofs.YtpidmpefodnffaaGreatDoor
open Go.RowKit
set_option maxHeartbeats 4000000
set_option maxRecDepth 8000
def keyOK (nu : Int) (se : Bs) (fr un : Int) : Bool := decide (1 ≤ nu) && (decide (nu ≤ 1073741824) && (se.length == 24 && (tim fr && (tim un && (decide (fr ≤ un))))))
theorem rightKey_any (nu : Int) (se : Bs) (fr un : Int)  (w : World) : Calls Tryz.prog 102 #[.agg #[I nu, S se, I fr, I un]] w fun e w' => e = .returned (.bool (keyOK nu se fr un)) ∧ Below w.heap.size w w' := by
  have hB0 : Below w.heap.size w (w.alloc (.cells #[I nu, S se, I fr, I un] 60)) := (Below.refl _ w).alloc (Nat.le_refl _) _
  have HB1 := hide hB0
  have c0 : (w.alloc (.cells #[I nu, S se, I fr, I un] 60)).cell? ⟨w.heap.size, 0, none⟩ = some (I nu) := cell_new _ _ _ _ _ rfl
  have c1 : (w.alloc (.cells #[I nu, S se, I fr, I un] 60)).cell? ⟨w.heap.size, 1, none⟩ = some (S se) := cell_new _ _ _ _ _ rfl
  have c2 : (w.alloc (.cells #[I nu, S se, I fr, I un] 60)).cell? ⟨w.heap.size, 2, none⟩ = some (I fr) := cell_new _ _ _ _ _ rfl
  have c3 : (w.alloc (.cells #[I nu, S se, I fr, I un] 60)).cell? ⟨w.heap.size, 3, none⟩ = some (I un) := cell_new _ _ _ _ _ rfl
  have hlt1 : w.heap.size < (w.alloc (.cells #[I nu, S se, I fr, I un] 60)).heap.size := by simp
  generalize hW1 : w.alloc (.cells #[I nu, S se, I fr, I un] 60) = W1 at *
  have hX1 := hB0.size
  clear hB0
  cases h1 : decide (1 ≤ nu)
  ·
    go_enter Tryz.func102, Tryz.ntmps102
    go_wp2_with (first | (go_at_call 149; refine (isSecret_any _ _).mono ?_; rintro e w9 ⟨rfl, rfl⟩) | (go_at_call 147; refine (isDigest_any _ _).mono ?_; rintro e w9 ⟨rfl, rfl⟩) | (go_at_call 116; refine (isTime_any _ _).mono ?_; rintro e w9 ⟨rfl, rfl⟩) | (go_at_call 131; refine (isSpan_any _ _).mono ?_; rintro e w9 ⟨rfl, rfl⟩) | (go_at_call 142; refine (isID_any _ _).mono ?_; rintro e w9 ⟨rfl, rfl⟩) | (go_at_call 143; refine (isGen_any _ _).mono ?_; rintro e w9 ⟨rfl, rfl⟩))
    all_goals go_ret
    all_goals exact ⟨ret_bool (by simp [keyOK, *]), unhide HB1⟩
  ·
    cases h2 : decide (nu ≤ 1073741824)
    ·
      go_enter Tryz.func102, Tryz.ntmps102
      go_wp2_with (first | (go_at_call 149; refine (isSecret_any _ _).mono ?_; rintro e w9 ⟨rfl, rfl⟩) | (go_at_call 147; refine (isDigest_any _ _).mono ?_; rintro e w9 ⟨rfl, rfl⟩) | (go_at_call 116; refine (isTime_any _ _).mono ?_; rintro e w9 ⟨rfl, rfl⟩) | (go_at_call 131; refine (isSpan_any _ _).mono ?_; rintro e w9 ⟨rfl, rfl⟩) | (go_at_call 142; refine (isID_any _ _).mono ?_; rintro e w9 ⟨rfl, rfl⟩) | (go_at_call 143; refine (isGen_any _ _).mono ?_; rintro e w9 ⟨rfl, rfl⟩))
      all_goals go_ret
      all_goals exact ⟨ret_bool (by simp [keyOK, *]), unhide HB1⟩
    ·
      cases h3 : se.length == 24
      ·
        go_enter Tryz.func102, Tryz.ntmps102
        go_wp2_with (first | (go_at_call 149; refine (isSecret_any _ _).mono ?_; rintro e w9 ⟨rfl, rfl⟩) | (go_at_call 147; refine (isDigest_any _ _).mono ?_; rintro e w9 ⟨rfl, rfl⟩) | (go_at_call 116; refine (isTime_any _ _).mono ?_; rintro e w9 ⟨rfl, rfl⟩) | (go_at_call 131; refine (isSpan_any _ _).mono ?_; rintro e w9 ⟨rfl, rfl⟩) | (go_at_call 142; refine (isID_any _ _).mono ?_; rintro e w9 ⟨rfl, rfl⟩) | (go_at_call 143; refine (isGen_any _ _).mono ?_; rintro e w9 ⟨rfl, rfl⟩))
        all_goals go_ret
        all_goals exact ⟨ret_bool (by simp [keyOK, *]), unhide HB1⟩
      ·
        cases h4 : tim fr
        ·
          go_enter Tryz.func102, Tryz.ntmps102
          go_wp2_with (first | (go_at_call 149; refine (isSecret_any _ _).mono ?_; rintro e w9 ⟨rfl, rfl⟩) | (go_at_call 147; refine (isDigest_any _ _).mono ?_; rintro e w9 ⟨rfl, rfl⟩) | (go_at_call 116; refine (isTime_any _ _).mono ?_; rintro e w9 ⟨rfl, rfl⟩) | (go_at_call 131; refine (isSpan_any _ _).mono ?_; rintro e w9 ⟨rfl, rfl⟩) | (go_at_call 142; refine (isID_any _ _).mono ?_; rintro e w9 ⟨rfl, rfl⟩) | (go_at_call 143; refine (isGen_any _ _).mono ?_; rintro e w9 ⟨rfl, rfl⟩))
          all_goals go_ret
          all_goals exact ⟨ret_bool (by simp [keyOK, *]), unhide HB1⟩
        ·
          cases h5 : tim un
          ·
            go_enter Tryz.func102, Tryz.ntmps102
            go_wp2_with (first | (go_at_call 149; refine (isSecret_any _ _).mono ?_; rintro e w9 ⟨rfl, rfl⟩) | (go_at_call 147; refine (isDigest_any _ _).mono ?_; rintro e w9 ⟨rfl, rfl⟩) | (go_at_call 116; refine (isTime_any _ _).mono ?_; rintro e w9 ⟨rfl, rfl⟩) | (go_at_call 131; refine (isSpan_any _ _).mono ?_; rintro e w9 ⟨rfl, rfl⟩) | (go_at_call 142; refine (isID_any _ _).mono ?_; rintro e w9 ⟨rfl, rfl⟩) | (go_at_call 143; refine (isGen_any _ _).mono ?_; rintro e w9 ⟨rfl, rfl⟩))
            all_goals go_ret
            all_goals exact ⟨ret_bool (by simp [keyOK, *]), unhide HB1⟩
          ·
            cases h6 : decide (fr ≤ un)
            ·
              go_enter Tryz.func102, Tryz.ntmps102
              go_wp2_with (first | (go_at_call 149; refine (isSecret_any _ _).mono ?_; rintro e w9 ⟨rfl, rfl⟩) | (go_at_call 147; refine (isDigest_any _ _).mono ?_; rintro e w9 ⟨rfl, rfl⟩) | (go_at_call 116; refine (isTime_any _ _).mono ?_; rintro e w9 ⟨rfl, rfl⟩) | (go_at_call 131; refine (isSpan_any _ _).mono ?_; rintro e w9 ⟨rfl, rfl⟩) | (go_at_call 142; refine (isID_any _ _).mono ?_; rintro e w9 ⟨rfl, rfl⟩) | (go_at_call 143; refine (isGen_any _ _).mono ?_; rintro e w9 ⟨rfl, rfl⟩))
              all_goals go_ret
              all_goals exact ⟨ret_bool (by simp [keyOK, *]), unhide HB1⟩
            ·
              go_enter Tryz.func102, Tryz.ntmps102
              go_wp2_with (first | (go_at_call 149; refine (isSecret_any _ _).mono ?_; rintro e w9 ⟨rfl, rfl⟩) | (go_at_call 147; refine (isDigest_any _ _).mono ?_; rintro e w9 ⟨rfl, rfl⟩) | (go_at_call 116; refine (isTime_any _ _).mono ?_; rintro e w9 ⟨rfl, rfl⟩) | (go_at_call 131; refine (isSpan_any _ _).mono ?_; rintro e w9 ⟨rfl, rfl⟩) | (go_at_call 142; refine (isID_any _ _).mono ?_; rintro e w9 ⟨rfl, rfl⟩) | (go_at_call 143; refine (isGen_any _ _).mono ?_; rintro e w9 ⟨rfl, rfl⟩))
              all_goals go_ret
              all_goals exact ⟨ret_bool (by simp [keyOK, *]), unhide HB1⟩
end Go.Proofs.YtpidmpefodnffaaGreatDoor
