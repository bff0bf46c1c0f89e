import Derived.Test.YtpidmpefodnffaaGreatDoorZfdi
namespace Go.Proofs.YtpidmpefodnffaaGreatDoor
open Go.RowKit
set_option maxHeartbeats 4000000
set_option maxRecDepth 8000
def codOK (id : Int) (cl su : Bs) (sc : List Bs) (ha ch : Bs) (un st fa : Int) : Bool := idn id && (right [cl] && (right [su] && (right sc && (ha.length == 32 && (ch.length == 32 && (tim un && (((st == 1 && fa == 0) || (st == 2 && idn fa)))))))))
theorem rightCode_any (id : Int) (cl su : Bs) (va : Option Addr) (vc : Nat) (sc : List Bs) (ha ch : Bs) (un st fa : Int) (w : World) (hcl : cl.length ≤ 9223372036854775807) (hsu : su.length ≤ 9223372036854775807) (hsc : Sts w va sc.length sc) (hsl : sc.length ≤ 140737488355000) (hln : Lns sc) : Calls Tryz.prog 89 #[.agg #[I id, S cl, S su, .slice va sc.length vc, S ha, S ch, I un, I st, I fa]] w fun e w' => e = .returned (.bool (codOK id cl su sc ha ch un st fa)) ∧ Below w.heap.size w w' := by
  have hB0 : Below w.heap.size w (w.alloc (.cells #[I id, S cl, S su, .slice va sc.length vc, S ha, S ch, I un, I st, I fa] 51)) := (Below.refl _ w).alloc (Nat.le_refl _) _
  have HB := hide hB0
  have c0 : (w.alloc (.cells #[I id, S cl, S su, .slice va sc.length vc, S ha, S ch, I un, I st, I fa] 51)).cell? ⟨w.heap.size, 0, none⟩ = some (I id) := cell_new _ _ _ _ _ rfl
  have c1 : (w.alloc (.cells #[I id, S cl, S su, .slice va sc.length vc, S ha, S ch, I un, I st, I fa] 51)).cell? ⟨w.heap.size, 1, none⟩ = some (S cl) := cell_new _ _ _ _ _ rfl
  have c2 : (w.alloc (.cells #[I id, S cl, S su, .slice va sc.length vc, S ha, S ch, I un, I st, I fa] 51)).cell? ⟨w.heap.size, 2, none⟩ = some (S su) := cell_new _ _ _ _ _ rfl
  have c3 : (w.alloc (.cells #[I id, S cl, S su, .slice va sc.length vc, S ha, S ch, I un, I st, I fa] 51)).cell? ⟨w.heap.size, 3, none⟩ = some (.slice va sc.length vc) := cell_new _ _ _ _ _ rfl
  have c4 : (w.alloc (.cells #[I id, S cl, S su, .slice va sc.length vc, S ha, S ch, I un, I st, I fa] 51)).cell? ⟨w.heap.size, 4, none⟩ = some (S ha) := cell_new _ _ _ _ _ rfl
  have c5 : (w.alloc (.cells #[I id, S cl, S su, .slice va sc.length vc, S ha, S ch, I un, I st, I fa] 51)).cell? ⟨w.heap.size, 5, none⟩ = some (S ch) := cell_new _ _ _ _ _ rfl
  have c6 : (w.alloc (.cells #[I id, S cl, S su, .slice va sc.length vc, S ha, S ch, I un, I st, I fa] 51)).cell? ⟨w.heap.size, 6, none⟩ = some (I un) := cell_new _ _ _ _ _ rfl
  have c7 : (w.alloc (.cells #[I id, S cl, S su, .slice va sc.length vc, S ha, S ch, I un, I st, I fa] 51)).cell? ⟨w.heap.size, 7, none⟩ = some (I st) := cell_new _ _ _ _ _ rfl
  have c8 : (w.alloc (.cells #[I id, S cl, S su, .slice va sc.length vc, S ha, S ch, I un, I st, I fa] 51)).cell? ⟨w.heap.size, 8, none⟩ = some (I fa) := cell_new _ _ _ _ _ rfl
  have hlt : w.heap.size < (w.alloc (.cells #[I id, S cl, S su, .slice va sc.length vc, S ha, S ch, I un, I st, I fa] 51)).heap.size := by simp
  generalize hW1 : w.alloc (.cells #[I id, S cl, S su, .slice va sc.length vc, S ha, S ch, I un, I st, I fa] 51) = W1 at *
  clear hB0
  obtain ⟨R, hR⟩ : ∃ R, R = codOK id cl su sc ha ch un st fa := ⟨_, rfl⟩
  have HR := hide hR
  rw [← hR]
  clear hR
  go_enter Tryz.func89, Tryz.ntmps89
  go_wp2_with fail
  refine (isID_any _ _).mono ?_
  rintro e w9 ⟨rfl, hw9⟩
  rw [hw9]
  clear hw9
  cases h1 : idn id
  ·
    go_wp2
    all_goals go_ret
    all_goals exact ⟨ret_bool (by rw [unhide HR]; simp [codOK, *]), unhide HB⟩
  ·
    go_wp2_with fail
    refine (isNm_any cl _ (by assumption)).mono ?_
    rintro e v2 ⟨rfl, hv⟩
    replace c0 := cell_below c0 hv hlt
    replace c1 := cell_below c1 hv hlt
    replace c2 := cell_below c2 hv hlt
    replace c3 := cell_below c3 hv hlt
    replace c4 := cell_below c4 hv hlt
    replace c5 := cell_below c5 hv hlt
    replace c6 := cell_below c6 hv hlt
    replace c7 := cell_below c7 hv hlt
    replace c8 := cell_below c8 hv hlt
    replace hlt : w.heap.size < v2.heap.size := Nat.lt_of_lt_of_le hlt hv.size
    replace HB := hide ((unhide HB).trans (hv.mono (unhide HB).size))
    clear hv
    cases h2 : right [cl]
    ·
      go_wp2
      all_goals go_ret
      all_goals exact ⟨ret_bool (by rw [unhide HR]; simp [codOK, *]), unhide HB⟩
    ·
      go_wp2_with fail
      refine (isNm_any su _ (by assumption)).mono ?_
      rintro e v3 ⟨rfl, hv⟩
      replace c0 := cell_below c0 hv hlt
      replace c1 := cell_below c1 hv hlt
      replace c2 := cell_below c2 hv hlt
      replace c3 := cell_below c3 hv hlt
      replace c4 := cell_below c4 hv hlt
      replace c5 := cell_below c5 hv hlt
      replace c6 := cell_below c6 hv hlt
      replace c7 := cell_below c7 hv hlt
      replace c8 := cell_below c8 hv hlt
      replace hlt : w.heap.size < v3.heap.size := Nat.lt_of_lt_of_le hlt hv.size
      replace HB := hide ((unhide HB).trans (hv.mono (unhide HB).size))
      clear hv
      cases h3 : right [su]
      ·
        go_wp2
        all_goals go_ret
        all_goals exact ⟨ret_bool (by rw [unhide HR]; simp [codOK, *]), unhide HB⟩
      ·
        go_wp2_with fail
        refine (Right_any va sc.length vc sc _ (Sts.bel hsc (unhide HB)) hsl hln).mono ?_
        rintro e v4 ⟨rfl, hv⟩
        replace c0 := cell_below c0 hv hlt
        replace c1 := cell_below c1 hv hlt
        replace c2 := cell_below c2 hv hlt
        replace c3 := cell_below c3 hv hlt
        replace c4 := cell_below c4 hv hlt
        replace c5 := cell_below c5 hv hlt
        replace c6 := cell_below c6 hv hlt
        replace c7 := cell_below c7 hv hlt
        replace c8 := cell_below c8 hv hlt
        replace hlt : w.heap.size < v4.heap.size := Nat.lt_of_lt_of_le hlt hv.size
        replace HB := hide ((unhide HB).trans (hv.mono (unhide HB).size))
        clear hv
        cases h4 : right sc
        ·
          go_wp2
          all_goals go_ret
          all_goals exact ⟨ret_bool (by rw [unhide HR]; simp [codOK, *]), unhide HB⟩
        ·
          go_wp2_with fail
          refine (isDigest_any _ _).mono ?_
          rintro e w9 ⟨rfl, hw9⟩
          rw [hw9]
          clear hw9
          cases h5 : ha.length == 32
          ·
            go_wp2
            all_goals go_ret
            all_goals exact ⟨ret_bool (by rw [unhide HR]; simp [codOK, *]), unhide HB⟩
          ·
            go_wp2_with fail
            refine (isDigest_any _ _).mono ?_
            rintro e w9 ⟨rfl, hw9⟩
            rw [hw9]
            clear hw9
            cases h6 : ch.length == 32
            ·
              go_wp2
              all_goals go_ret
              all_goals exact ⟨ret_bool (by rw [unhide HR]; simp [codOK, *]), unhide HB⟩
            ·
              go_wp2_with fail
              refine (isTime_any _ _).mono ?_
              rintro e w9 ⟨rfl, hw9⟩
              rw [hw9]
              clear hw9
              cases h7 : tim un
              ·
                go_wp2
                all_goals go_ret
                all_goals exact ⟨ret_bool (by rw [unhide HR]; simp [codOK, *]), unhide HB⟩
              ·
                cases h8 : st == 1
                ·
                  cases h9 : st == 2
                  ·
                    go_wp2
                    all_goals go_ret
                    all_goals exact ⟨ret_bool (by rw [unhide HR]; simp [codOK, *]), unhide HB⟩
                  ·
                    go_wp2_with fail
                    refine (isID_any _ _).mono ?_
                    rintro e w9 ⟨rfl, hw9⟩
                    rw [hw9]
                    clear hw9
                    cases h10 : idn fa
                    ·
                      go_wp2
                      all_goals go_ret
                      all_goals exact ⟨ret_bool (by rw [unhide HR]; simp [codOK, *]), unhide HB⟩
                    ·
                      go_wp2
                      all_goals go_ret
                      all_goals exact ⟨ret_bool (by rw [unhide HR]; simp [codOK, *]), unhide HB⟩
                ·
                  cases h11 : fa == 0
                  ·
                    cases h12 : st == 2
                    ·
                      go_wp2
                      all_goals go_ret
                      all_goals exact ⟨ret_bool (by rw [unhide HR]; simp [codOK, *]), unhide HB⟩
                    ·
                      go_wp2_with fail
                      refine (isID_any _ _).mono ?_
                      rintro e w9 ⟨rfl, hw9⟩
                      rw [hw9]
                      clear hw9
                      cases h13 : idn fa
                      ·
                        go_wp2
                        all_goals go_ret
                        all_goals exact ⟨ret_bool (by rw [unhide HR]; simp [codOK, *]), unhide HB⟩
                      ·
                        go_wp2
                        all_goals go_ret
                        all_goals exact ⟨ret_bool (by rw [unhide HR]; simp [codOK, *]), unhide HB⟩
                  ·
                    go_wp2
                    all_goals go_ret
                    all_goals exact ⟨ret_bool (by rw [unhide HR]; simp [codOK, *]), unhide HB⟩
end Go.Proofs.YtpidmpefodnffaaGreatDoor
