import Derived.Test.YtfaahjbkdlkmjaaDoorJef
/- Jot: may a letter be full? -/
namespace Go.Proofs.YtfaahjbkdlkmjaaDoor
open Go Go.RowKit Go.Lib
set_option linter.unusedVariables false
set_option linter.unusedSimpArgs false
theorem full_cons (a : UInt8) (t : Bs) (n : Nat) (h : a.toNat = n) : full (a :: t) = if n < 194 ∨ 245 ≤ n then true else
    if (if n < 224 then 2 else if n < 240 then 3 else 4) ≤ t.length + 1 then true else
    if 0 < t.length ∧ ((t.getD 0 0).toNat < (if n = 224 then 160 else if n = 240 then 144 else 128) ∨ (if n = 237 then 159 else if n = 244 then 143 else 191) < (t.getD 0 0).toNat) then true
    else if 1 < t.length ∧ ((t.getD 1 0).toNat < 128 ∨ 191 < (t.getD 1 0).toNat) then true else false := by
  subst h
  have c1 : (a < 194 ∨ 245 ≤ a) = (a.toNat < 194 ∨ 245 ≤ a.toNat) := rfl
  have e : ∀ k : UInt8, (a = k) = (a.toNat = k.toNat) := fun k => propext ⟨fun q => by rw [q], fun q => UInt8.toNat_inj.1 q⟩
  unfold full
  simp only [c1, e]
  by_cases q1 : a.toNat < 194 ∨ 245 ≤ a.toNat
  · rw [if_pos q1, if_pos q1]
  rw [if_neg q1, if_neg q1]
  have c2 : (a < 224) = (a.toNat < 224) := rfl
  have c3 : (a < 240) = (a.toNat < 240) := rfl
  simp only [c2, c3]
  by_cases q2 : (if a.toNat < 224 then 2 else if a.toNat < 240 then 3 else 4) ≤ t.length + 1
  · rw [if_pos (by simpa using q2), if_pos q2]
  rw [if_neg (by simpa using q2), if_neg q2]
  have l1 : (1 < (a :: t).length) = (0 < t.length) := by simp
  have l2 : (2 < (a :: t).length) = (1 < t.length) := by
    rw [List.length_cons]
    exact propext ⟨fun h => by omega, fun h => by omega⟩
  simp only [l1, l2, List.getD_cons_succ]
  have k1 : ∀ (x : UInt8), (x < (if a.toNat = UInt8.toNat 224 then 160 else if a.toNat = UInt8.toNat 240 then 144 else 128)) = (x.toNat < (if a.toNat = 224 then 160 else if a.toNat = 240 then 144 else 128)) := by
    intro x
    show (x < (if a.toNat = 224 then (160 : UInt8) else if a.toNat = 240 then 144 else 128)) = _
    split
    · rfl
    split
    · rfl
    · rfl
  have k2 : ∀ (x : UInt8), ((if a.toNat = UInt8.toNat 237 then 159 else if a.toNat = UInt8.toNat 244 then 143 else 191) < x) = ((if a.toNat = 237 then 159 else if a.toNat = 244 then 143 else 191) < x.toNat) := by
    intro x
    show ((if a.toNat = 237 then (159 : UInt8) else if a.toNat = 244 then 143 else 191) < x) = _
    split
    · rfl
    split
    · rfl
    · rfl
  simp only [k1, k2]
  rfl

set_option maxHeartbeats 8000000 in
set_option maxRecDepth 20000 in
theorem full_a (a : UInt8) (t : Bs) (ht : t.length ≤ 4000) (n : Nat) (hn : a.toNat = n) (h1 : 0 ≤ n) (h2 : n < 128) (w : World) (hE : Env w) :
    Calls Tryd.prog 67 #[S (a :: t)] w fun e w' => e = .returned (.bool (full (a :: t))) ∧ Below w.heap.size w w' := by
  have hT := hE.u8.1 n (by omega)
  rw [show firstT n = 240 from by unfold firstT; rw [if_pos (by omega)]] at hT
  have hfu := full_cons a t n hn
  have hsz : 0 < (ByteArray.mk (a :: t).toArray).size := by rw [ba_len]; simp
  have hg : (ByteArray.mk (a :: t).toArray)[0]'hsz = a := rfl
  have hlen : ((a :: t).length : Int) = (t.length : Int) + 1 := by simp
  rw [if_pos (by omega)] at hfu
  rw [hfu]
  clear hfu hE
  go_enter Tryd.func67, Tryd.ntmps67
  go_wp2
  go_ret
  exact ⟨rfl, Below.refl _ _⟩
set_option maxHeartbeats 8000000 in
set_option maxRecDepth 20000 in
theorem full_b (a : UInt8) (t : Bs) (ht : t.length ≤ 4000) (n : Nat) (hn : a.toNat = n) (h1 : 128 ≤ n) (h2 : n < 194) (w : World) (hE : Env w) :
    Calls Tryd.prog 67 #[S (a :: t)] w fun e w' => e = .returned (.bool (full (a :: t))) ∧ Below w.heap.size w w' := by
  have hT := hE.u8.1 n (by omega)
  rw [show firstT n = 241 from by unfold firstT; rw [if_neg (by omega), if_pos (by omega)]] at hT
  have hfu := full_cons a t n hn
  have hsz : 0 < (ByteArray.mk (a :: t).toArray).size := by rw [ba_len]; simp
  have hg : (ByteArray.mk (a :: t).toArray)[0]'hsz = a := rfl
  have hlen : ((a :: t).length : Int) = (t.length : Int) + 1 := by simp
  rw [if_pos (by omega)] at hfu
  rw [hfu]
  clear hfu hE
  go_enter Tryd.func67, Tryd.ntmps67
  go_wp2
  go_ret
  exact ⟨rfl, Below.refl _ _⟩
set_option maxHeartbeats 8000000 in
set_option maxRecDepth 20000 in
theorem full_c (a : UInt8) (t : Bs) (ht : t.length ≤ 4000) (n : Nat) (hn : a.toNat = n) (h1 : 194 ≤ n) (h2 : n < 224) (w : World) (hE : Env w) :
    Calls Tryd.prog 67 #[S (a :: t)] w fun e w' => e = .returned (.bool (full (a :: t))) ∧ Below w.heap.size w w' := by
  have hT := hE.u8.1 n (by omega)
  rw [show firstT n = 2 from firstT_C2 ⟨h1, h2⟩] at hT
  have hfu := full_cons a t n hn
  have hsz : 0 < (ByteArray.mk (a :: t).toArray).size := by rw [ba_len]; simp
  have hg : (ByteArray.mk (a :: t).toArray)[0]'hsz = a := rfl
  have hlen : ((a :: t).length : Int) = (t.length : Int) + 1 := by simp
  have hA := hE.u8.2 0 (by omega)
  have d0 : w.cell? ⟨2, 0, none⟩ = some (.int .u8 128) := hA.1
  have d1 : w.cell? ⟨2, 1, none⟩ = some (.int .u8 191) := hA.2
  have hba : ∀ q, Below w.heap.size w ((w.alloc (.cells #[.int .u8 128, .int .u8 191] 125)).drewN q) := fun q => below_drewNq ((Below.refl _ _).alloc (Nat.le_refl _) _) q
  rw [if_neg (by omega)] at hfu
  have hz : (if n < 224 then 2 else if n < 240 then 3 else 4) = 2 := by rw [if_pos (by omega)]
  rw [hz] at hfu
  clear hE hA
  by_cases hbig : 2 ≤ t.length + 1
  · rw [if_pos hbig] at hfu
    rw [hfu]
    have hbig' : (2 : Int) ≤ (t.length : Int) + 1 := by omega
    clear hfu
    go_enter Tryd.func67, Tryd.ntmps67
    go_wp2
    go_ret
    exact ⟨rfl, Below.refl _ _⟩
  rw [if_neg hbig] at hfu
  have hlo : (if n = 224 then 160 else if n = 240 then 144 else 128) = 128 := by rw [if_neg (by omega), if_neg (by omega)]
  have hhi : (if n = 237 then 159 else if n = 244 then 143 else 191) = 191 := by rw [if_neg (by omega), if_neg (by omega)]
  rw [hlo, hhi] at hfu
  clear hlo hhi hz
  rcases t with _ | ⟨x, _ | ⟨y, _ | ⟨z, t⟩⟩⟩
  · rw [if_neg (by simp), if_neg (by simp)] at hfu
    rw [hfu]
    clear hfu
    go_enter Tryd.func67, Tryd.ntmps67
    go_upto_region 8 with fail
    go_quiet (fail)
    go_wp2
    go_ret
    exact ⟨rfl, hba _⟩
  · simp at hbig
  · simp at hbig
  · simp at hbig; try omega
set_option maxHeartbeats 8000000 in
set_option maxRecDepth 20000 in
theorem full_d (a : UInt8) (t : Bs) (ht : t.length ≤ 4000) (n : Nat) (hn : a.toNat = n) (h1 : 224 ≤ n) (h2 : n < 225) (w : World) (hE : Env w) :
    Calls Tryd.prog 67 #[S (a :: t)] w fun e w' => e = .returned (.bool (full (a :: t))) ∧ Below w.heap.size w w' := by
  have hT := hE.u8.1 n (by omega)
  rw [show firstT n = 19 from firstT_E0 (by omega)] at hT
  have hfu := full_cons a t n hn
  have hsz : 0 < (ByteArray.mk (a :: t).toArray).size := by rw [ba_len]; simp
  have hg : (ByteArray.mk (a :: t).toArray)[0]'hsz = a := rfl
  have hlen : ((a :: t).length : Int) = (t.length : Int) + 1 := by simp
  have hA := hE.u8.2 1 (by omega)
  have d0 : w.cell? ⟨2, 2, none⟩ = some (.int .u8 160) := hA.1
  have d1 : w.cell? ⟨2, 3, none⟩ = some (.int .u8 191) := hA.2
  have hba : ∀ q, Below w.heap.size w ((w.alloc (.cells #[.int .u8 160, .int .u8 191] 125)).drewN q) := fun q => below_drewNq ((Below.refl _ _).alloc (Nat.le_refl _) _) q
  rw [if_neg (by omega)] at hfu
  have hz : (if n < 224 then 2 else if n < 240 then 3 else 4) = 3 := by rw [if_neg (by omega), if_pos (by omega)]
  rw [hz] at hfu
  clear hE hA
  by_cases hbig : 3 ≤ t.length + 1
  · rw [if_pos hbig] at hfu
    rw [hfu]
    have hbig' : (3 : Int) ≤ (t.length : Int) + 1 := by omega
    clear hfu
    go_enter Tryd.func67, Tryd.ntmps67
    go_wp2
    go_ret
    exact ⟨rfl, Below.refl _ _⟩
  rw [if_neg hbig] at hfu
  have hlo : (if n = 224 then 160 else if n = 240 then 144 else 128) = 160 := by rw [if_pos (by omega)]
  have hhi : (if n = 237 then 159 else if n = 244 then 143 else 191) = 191 := by rw [if_neg (by omega), if_neg (by omega)]
  rw [hlo, hhi] at hfu
  clear hlo hhi hz
  rcases t with _ | ⟨x, _ | ⟨y, _ | ⟨z, t⟩⟩⟩
  · rw [if_neg (by simp), if_neg (by simp)] at hfu
    rw [hfu]
    clear hfu
    go_enter Tryd.func67, Tryd.ntmps67
    go_upto_region 8 with fail
    go_quiet (fail)
    go_wp2
    go_ret
    exact ⟨rfl, hba _⟩
  · skip
    obtain ⟨m, hm⟩ : ∃ m, x.toNat = m := ⟨_, rfl⟩
    have hxd : (([x] ++ [] : Bs).getD 0 0).toNat = m := hm
    simp only [List.cons_append, List.nil_append] at hxd
    rw [hxd] at hfu
    have hgx : (ByteArray.mk (a :: x :: []).toArray)[1]'(by rw [ba_len]; simp) = x := rfl
    by_cases m1 : m < 160
    · have m1i : (m : Int) < 160 := by omega
      rw [if_pos ⟨by simp, .inl m1⟩] at hfu
      clear m1
      rw [hfu]
      clear hfu
      go_enter Tryd.func67, Tryd.ntmps67
      go_upto_region 8 with fail
      go_quiet (fail)
      go_wp2
      go_ret
      exact ⟨rfl, hba _⟩
    have m1i : decide ((m : Int) < 160) = false := decide_eq_false (by omega)
    by_cases m2 : 191 < m
    · have m2i : (191 : Int) < (m : Int) := by omega
      rw [if_pos ⟨by simp, .inr m2⟩] at hfu
      clear m1 m2
      rw [hfu]
      clear hfu
      go_enter Tryd.func67, Tryd.ntmps67
      go_upto_region 8 with fail
      go_quiet (fail)
      go_wp2
      go_ret
      exact ⟨rfl, hba _⟩
    have m2i : decide ((191 : Int) < (m : Int)) = false := decide_eq_false (by omega)
    rw [if_neg (by rintro ⟨-, q | q⟩; exact m1 q; exact m2 q)] at hfu
    rw [if_neg (by simp)] at hfu
    clear m1 m2
    rw [hfu]
    clear hfu
    go_enter Tryd.func67, Tryd.ntmps67
    go_upto_region 8 with fail
    go_quiet (fail)
    go_wp2
    go_ret
    exact ⟨rfl, hba _⟩
  · simp at hbig
  · simp at hbig; try omega
set_option maxHeartbeats 8000000 in
set_option maxRecDepth 20000 in
theorem full_e (a : UInt8) (t : Bs) (ht : t.length ≤ 4000) (n : Nat) (hn : a.toNat = n) (h1 : 225 ≤ n) (h2 : n < 237) (w : World) (hE : Env w) :
    Calls Tryd.prog 67 #[S (a :: t)] w fun e w' => e = .returned (.bool (full (a :: t))) ∧ Below w.heap.size w w' := by
  have hT := hE.u8.1 n (by omega)
  rw [show firstT n = 3 from firstT_E1 (.inl ⟨h1, h2⟩)] at hT
  have hfu := full_cons a t n hn
  have hsz : 0 < (ByteArray.mk (a :: t).toArray).size := by rw [ba_len]; simp
  have hg : (ByteArray.mk (a :: t).toArray)[0]'hsz = a := rfl
  have hlen : ((a :: t).length : Int) = (t.length : Int) + 1 := by simp
  have hA := hE.u8.2 0 (by omega)
  have d0 : w.cell? ⟨2, 0, none⟩ = some (.int .u8 128) := hA.1
  have d1 : w.cell? ⟨2, 1, none⟩ = some (.int .u8 191) := hA.2
  have hba : ∀ q, Below w.heap.size w ((w.alloc (.cells #[.int .u8 128, .int .u8 191] 125)).drewN q) := fun q => below_drewNq ((Below.refl _ _).alloc (Nat.le_refl _) _) q
  rw [if_neg (by omega)] at hfu
  have hz : (if n < 224 then 2 else if n < 240 then 3 else 4) = 3 := by rw [if_neg (by omega), if_pos (by omega)]
  rw [hz] at hfu
  clear hE hA
  by_cases hbig : 3 ≤ t.length + 1
  · rw [if_pos hbig] at hfu
    rw [hfu]
    have hbig' : (3 : Int) ≤ (t.length : Int) + 1 := by omega
    clear hfu
    go_enter Tryd.func67, Tryd.ntmps67
    go_wp2
    go_ret
    exact ⟨rfl, Below.refl _ _⟩
  rw [if_neg hbig] at hfu
  have hlo : (if n = 224 then 160 else if n = 240 then 144 else 128) = 128 := by rw [if_neg (by omega), if_neg (by omega)]
  have hhi : (if n = 237 then 159 else if n = 244 then 143 else 191) = 191 := by rw [if_neg (by omega), if_neg (by omega)]
  rw [hlo, hhi] at hfu
  clear hlo hhi hz
  rcases t with _ | ⟨x, _ | ⟨y, _ | ⟨z, t⟩⟩⟩
  · rw [if_neg (by simp), if_neg (by simp)] at hfu
    rw [hfu]
    clear hfu
    go_enter Tryd.func67, Tryd.ntmps67
    go_upto_region 8 with fail
    go_quiet (fail)
    go_wp2
    go_ret
    exact ⟨rfl, hba _⟩
  · skip
    obtain ⟨m, hm⟩ : ∃ m, x.toNat = m := ⟨_, rfl⟩
    have hxd : (([x] ++ [] : Bs).getD 0 0).toNat = m := hm
    simp only [List.cons_append, List.nil_append] at hxd
    rw [hxd] at hfu
    have hgx : (ByteArray.mk (a :: x :: []).toArray)[1]'(by rw [ba_len]; simp) = x := rfl
    by_cases m1 : m < 128
    · have m1i : (m : Int) < 128 := by omega
      rw [if_pos ⟨by simp, .inl m1⟩] at hfu
      clear m1
      rw [hfu]
      clear hfu
      go_enter Tryd.func67, Tryd.ntmps67
      go_upto_region 8 with fail
      go_quiet (fail)
      go_wp2
      go_ret
      exact ⟨rfl, hba _⟩
    have m1i : decide ((m : Int) < 128) = false := decide_eq_false (by omega)
    by_cases m2 : 191 < m
    · have m2i : (191 : Int) < (m : Int) := by omega
      rw [if_pos ⟨by simp, .inr m2⟩] at hfu
      clear m1 m2
      rw [hfu]
      clear hfu
      go_enter Tryd.func67, Tryd.ntmps67
      go_upto_region 8 with fail
      go_quiet (fail)
      go_wp2
      go_ret
      exact ⟨rfl, hba _⟩
    have m2i : decide ((191 : Int) < (m : Int)) = false := decide_eq_false (by omega)
    rw [if_neg (by rintro ⟨-, q | q⟩; exact m1 q; exact m2 q)] at hfu
    rw [if_neg (by simp)] at hfu
    clear m1 m2
    rw [hfu]
    clear hfu
    go_enter Tryd.func67, Tryd.ntmps67
    go_upto_region 8 with fail
    go_quiet (fail)
    go_wp2
    go_ret
    exact ⟨rfl, hba _⟩
  · simp at hbig
  · simp at hbig; try omega
set_option maxHeartbeats 8000000 in
set_option maxRecDepth 20000 in
theorem full_f (a : UInt8) (t : Bs) (ht : t.length ≤ 4000) (n : Nat) (hn : a.toNat = n) (h1 : 237 ≤ n) (h2 : n < 238) (w : World) (hE : Env w) :
    Calls Tryd.prog 67 #[S (a :: t)] w fun e w' => e = .returned (.bool (full (a :: t))) ∧ Below w.heap.size w w' := by
  have hT := hE.u8.1 n (by omega)
  rw [show firstT n = 35 from firstT_ED (by omega)] at hT
  have hfu := full_cons a t n hn
  have hsz : 0 < (ByteArray.mk (a :: t).toArray).size := by rw [ba_len]; simp
  have hg : (ByteArray.mk (a :: t).toArray)[0]'hsz = a := rfl
  have hlen : ((a :: t).length : Int) = (t.length : Int) + 1 := by simp
  have hA := hE.u8.2 2 (by omega)
  have d0 : w.cell? ⟨2, 4, none⟩ = some (.int .u8 128) := hA.1
  have d1 : w.cell? ⟨2, 5, none⟩ = some (.int .u8 159) := hA.2
  have hba : ∀ q, Below w.heap.size w ((w.alloc (.cells #[.int .u8 128, .int .u8 159] 125)).drewN q) := fun q => below_drewNq ((Below.refl _ _).alloc (Nat.le_refl _) _) q
  rw [if_neg (by omega)] at hfu
  have hz : (if n < 224 then 2 else if n < 240 then 3 else 4) = 3 := by rw [if_neg (by omega), if_pos (by omega)]
  rw [hz] at hfu
  clear hE hA
  by_cases hbig : 3 ≤ t.length + 1
  · rw [if_pos hbig] at hfu
    rw [hfu]
    have hbig' : (3 : Int) ≤ (t.length : Int) + 1 := by omega
    clear hfu
    go_enter Tryd.func67, Tryd.ntmps67
    go_wp2
    go_ret
    exact ⟨rfl, Below.refl _ _⟩
  rw [if_neg hbig] at hfu
  have hlo : (if n = 224 then 160 else if n = 240 then 144 else 128) = 128 := by rw [if_neg (by omega), if_neg (by omega)]
  have hhi : (if n = 237 then 159 else if n = 244 then 143 else 191) = 159 := by rw [if_pos (by omega)]
  rw [hlo, hhi] at hfu
  clear hlo hhi hz
  rcases t with _ | ⟨x, _ | ⟨y, _ | ⟨z, t⟩⟩⟩
  · rw [if_neg (by simp), if_neg (by simp)] at hfu
    rw [hfu]
    clear hfu
    go_enter Tryd.func67, Tryd.ntmps67
    go_upto_region 8 with fail
    go_quiet (fail)
    go_wp2
    go_ret
    exact ⟨rfl, hba _⟩
  · skip
    obtain ⟨m, hm⟩ : ∃ m, x.toNat = m := ⟨_, rfl⟩
    have hxd : (([x] ++ [] : Bs).getD 0 0).toNat = m := hm
    simp only [List.cons_append, List.nil_append] at hxd
    rw [hxd] at hfu
    have hgx : (ByteArray.mk (a :: x :: []).toArray)[1]'(by rw [ba_len]; simp) = x := rfl
    by_cases m1 : m < 128
    · have m1i : (m : Int) < 128 := by omega
      rw [if_pos ⟨by simp, .inl m1⟩] at hfu
      clear m1
      rw [hfu]
      clear hfu
      go_enter Tryd.func67, Tryd.ntmps67
      go_upto_region 8 with fail
      go_quiet (fail)
      go_wp2
      go_ret
      exact ⟨rfl, hba _⟩
    have m1i : decide ((m : Int) < 128) = false := decide_eq_false (by omega)
    by_cases m2 : 159 < m
    · have m2i : (159 : Int) < (m : Int) := by omega
      rw [if_pos ⟨by simp, .inr m2⟩] at hfu
      clear m1 m2
      rw [hfu]
      clear hfu
      go_enter Tryd.func67, Tryd.ntmps67
      go_upto_region 8 with fail
      go_quiet (fail)
      go_wp2
      go_ret
      exact ⟨rfl, hba _⟩
    have m2i : decide ((159 : Int) < (m : Int)) = false := decide_eq_false (by omega)
    rw [if_neg (by rintro ⟨-, q | q⟩; exact m1 q; exact m2 q)] at hfu
    rw [if_neg (by simp)] at hfu
    clear m1 m2
    rw [hfu]
    clear hfu
    go_enter Tryd.func67, Tryd.ntmps67
    go_upto_region 8 with fail
    go_quiet (fail)
    go_wp2
    go_ret
    exact ⟨rfl, hba _⟩
  · simp at hbig
  · simp at hbig; try omega
set_option maxHeartbeats 8000000 in
set_option maxRecDepth 20000 in
theorem full_g (a : UInt8) (t : Bs) (ht : t.length ≤ 4000) (n : Nat) (hn : a.toNat = n) (h1 : 238 ≤ n) (h2 : n < 240) (w : World) (hE : Env w) :
    Calls Tryd.prog 67 #[S (a :: t)] w fun e w' => e = .returned (.bool (full (a :: t))) ∧ Below w.heap.size w w' := by
  have hT := hE.u8.1 n (by omega)
  rw [show firstT n = 3 from firstT_E1 (.inr ⟨h1, h2⟩)] at hT
  have hfu := full_cons a t n hn
  have hsz : 0 < (ByteArray.mk (a :: t).toArray).size := by rw [ba_len]; simp
  have hg : (ByteArray.mk (a :: t).toArray)[0]'hsz = a := rfl
  have hlen : ((a :: t).length : Int) = (t.length : Int) + 1 := by simp
  have hA := hE.u8.2 0 (by omega)
  have d0 : w.cell? ⟨2, 0, none⟩ = some (.int .u8 128) := hA.1
  have d1 : w.cell? ⟨2, 1, none⟩ = some (.int .u8 191) := hA.2
  have hba : ∀ q, Below w.heap.size w ((w.alloc (.cells #[.int .u8 128, .int .u8 191] 125)).drewN q) := fun q => below_drewNq ((Below.refl _ _).alloc (Nat.le_refl _) _) q
  rw [if_neg (by omega)] at hfu
  have hz : (if n < 224 then 2 else if n < 240 then 3 else 4) = 3 := by rw [if_neg (by omega), if_pos (by omega)]
  rw [hz] at hfu
  clear hE hA
  by_cases hbig : 3 ≤ t.length + 1
  · rw [if_pos hbig] at hfu
    rw [hfu]
    have hbig' : (3 : Int) ≤ (t.length : Int) + 1 := by omega
    clear hfu
    go_enter Tryd.func67, Tryd.ntmps67
    go_wp2
    go_ret
    exact ⟨rfl, Below.refl _ _⟩
  rw [if_neg hbig] at hfu
  have hlo : (if n = 224 then 160 else if n = 240 then 144 else 128) = 128 := by rw [if_neg (by omega), if_neg (by omega)]
  have hhi : (if n = 237 then 159 else if n = 244 then 143 else 191) = 191 := by rw [if_neg (by omega), if_neg (by omega)]
  rw [hlo, hhi] at hfu
  clear hlo hhi hz
  rcases t with _ | ⟨x, _ | ⟨y, _ | ⟨z, t⟩⟩⟩
  · rw [if_neg (by simp), if_neg (by simp)] at hfu
    rw [hfu]
    clear hfu
    go_enter Tryd.func67, Tryd.ntmps67
    go_upto_region 8 with fail
    go_quiet (fail)
    go_wp2
    go_ret
    exact ⟨rfl, hba _⟩
  · skip
    obtain ⟨m, hm⟩ : ∃ m, x.toNat = m := ⟨_, rfl⟩
    have hxd : (([x] ++ [] : Bs).getD 0 0).toNat = m := hm
    simp only [List.cons_append, List.nil_append] at hxd
    rw [hxd] at hfu
    have hgx : (ByteArray.mk (a :: x :: []).toArray)[1]'(by rw [ba_len]; simp) = x := rfl
    by_cases m1 : m < 128
    · have m1i : (m : Int) < 128 := by omega
      rw [if_pos ⟨by simp, .inl m1⟩] at hfu
      clear m1
      rw [hfu]
      clear hfu
      go_enter Tryd.func67, Tryd.ntmps67
      go_upto_region 8 with fail
      go_quiet (fail)
      go_wp2
      go_ret
      exact ⟨rfl, hba _⟩
    have m1i : decide ((m : Int) < 128) = false := decide_eq_false (by omega)
    by_cases m2 : 191 < m
    · have m2i : (191 : Int) < (m : Int) := by omega
      rw [if_pos ⟨by simp, .inr m2⟩] at hfu
      clear m1 m2
      rw [hfu]
      clear hfu
      go_enter Tryd.func67, Tryd.ntmps67
      go_upto_region 8 with fail
      go_quiet (fail)
      go_wp2
      go_ret
      exact ⟨rfl, hba _⟩
    have m2i : decide ((191 : Int) < (m : Int)) = false := decide_eq_false (by omega)
    rw [if_neg (by rintro ⟨-, q | q⟩; exact m1 q; exact m2 q)] at hfu
    rw [if_neg (by simp)] at hfu
    clear m1 m2
    rw [hfu]
    clear hfu
    go_enter Tryd.func67, Tryd.ntmps67
    go_upto_region 8 with fail
    go_quiet (fail)
    go_wp2
    go_ret
    exact ⟨rfl, hba _⟩
  · simp at hbig
  · simp at hbig; try omega
set_option maxHeartbeats 8000000 in
set_option maxRecDepth 20000 in
theorem full_h (a : UInt8) (t : Bs) (ht : t.length ≤ 4000) (n : Nat) (hn : a.toNat = n) (h1 : 240 ≤ n) (h2 : n < 241) (w : World) (hE : Env w) :
    Calls Tryd.prog 67 #[S (a :: t)] w fun e w' => e = .returned (.bool (full (a :: t))) ∧ Below w.heap.size w w' := by
  have hT := hE.u8.1 n (by omega)
  rw [show firstT n = 52 from firstT_F0 (by omega)] at hT
  have hfu := full_cons a t n hn
  have hsz : 0 < (ByteArray.mk (a :: t).toArray).size := by rw [ba_len]; simp
  have hg : (ByteArray.mk (a :: t).toArray)[0]'hsz = a := rfl
  have hlen : ((a :: t).length : Int) = (t.length : Int) + 1 := by simp
  have hA := hE.u8.2 3 (by omega)
  have d0 : w.cell? ⟨2, 6, none⟩ = some (.int .u8 144) := hA.1
  have d1 : w.cell? ⟨2, 7, none⟩ = some (.int .u8 191) := hA.2
  have hba : ∀ q, Below w.heap.size w ((w.alloc (.cells #[.int .u8 144, .int .u8 191] 125)).drewN q) := fun q => below_drewNq ((Below.refl _ _).alloc (Nat.le_refl _) _) q
  rw [if_neg (by omega)] at hfu
  have hz : (if n < 224 then 2 else if n < 240 then 3 else 4) = 4 := by rw [if_neg (by omega), if_neg (by omega)]
  rw [hz] at hfu
  clear hE hA
  by_cases hbig : 4 ≤ t.length + 1
  · rw [if_pos hbig] at hfu
    rw [hfu]
    have hbig' : (4 : Int) ≤ (t.length : Int) + 1 := by omega
    clear hfu
    go_enter Tryd.func67, Tryd.ntmps67
    go_wp2
    go_ret
    exact ⟨rfl, Below.refl _ _⟩
  rw [if_neg hbig] at hfu
  have hlo : (if n = 224 then 160 else if n = 240 then 144 else 128) = 144 := by rw [if_neg (by omega), if_pos (by omega)]
  have hhi : (if n = 237 then 159 else if n = 244 then 143 else 191) = 191 := by rw [if_neg (by omega), if_neg (by omega)]
  rw [hlo, hhi] at hfu
  clear hlo hhi hz
  rcases t with _ | ⟨x, _ | ⟨y, _ | ⟨z, t⟩⟩⟩
  · rw [if_neg (by simp), if_neg (by simp)] at hfu
    rw [hfu]
    clear hfu
    go_enter Tryd.func67, Tryd.ntmps67
    go_upto_region 8 with fail
    go_quiet (fail)
    go_wp2
    go_ret
    exact ⟨rfl, hba _⟩
  · skip
    obtain ⟨m, hm⟩ : ∃ m, x.toNat = m := ⟨_, rfl⟩
    have hxd : (([x] ++ [] : Bs).getD 0 0).toNat = m := hm
    simp only [List.cons_append, List.nil_append] at hxd
    rw [hxd] at hfu
    have hgx : (ByteArray.mk (a :: x :: []).toArray)[1]'(by rw [ba_len]; simp) = x := rfl
    by_cases m1 : m < 144
    · have m1i : (m : Int) < 144 := by omega
      rw [if_pos ⟨by simp, .inl m1⟩] at hfu
      clear m1
      rw [hfu]
      clear hfu
      go_enter Tryd.func67, Tryd.ntmps67
      go_upto_region 8 with fail
      go_quiet (fail)
      go_wp2
      go_ret
      exact ⟨rfl, hba _⟩
    have m1i : decide ((m : Int) < 144) = false := decide_eq_false (by omega)
    by_cases m2 : 191 < m
    · have m2i : (191 : Int) < (m : Int) := by omega
      rw [if_pos ⟨by simp, .inr m2⟩] at hfu
      clear m1 m2
      rw [hfu]
      clear hfu
      go_enter Tryd.func67, Tryd.ntmps67
      go_upto_region 8 with fail
      go_quiet (fail)
      go_wp2
      go_ret
      exact ⟨rfl, hba _⟩
    have m2i : decide ((191 : Int) < (m : Int)) = false := decide_eq_false (by omega)
    rw [if_neg (by rintro ⟨-, q | q⟩; exact m1 q; exact m2 q)] at hfu
    rw [if_neg (by simp)] at hfu
    clear m1 m2
    rw [hfu]
    clear hfu
    go_enter Tryd.func67, Tryd.ntmps67
    go_upto_region 8 with fail
    go_quiet (fail)
    go_wp2
    go_ret
    exact ⟨rfl, hba _⟩
  · skip
    obtain ⟨m, hm⟩ : ∃ m, x.toNat = m := ⟨_, rfl⟩
    have hxd : (([x] ++ [y] : Bs).getD 0 0).toNat = m := hm
    simp only [List.cons_append, List.nil_append] at hxd
    rw [hxd] at hfu
    have hgx : (ByteArray.mk (a :: x :: [y]).toArray)[1]'(by rw [ba_len]; simp) = x := rfl
    by_cases m1 : m < 144
    · have m1i : (m : Int) < 144 := by omega
      rw [if_pos ⟨by simp, .inl m1⟩] at hfu
      clear m1
      rw [hfu]
      clear hfu
      go_enter Tryd.func67, Tryd.ntmps67
      go_upto_region 8 with fail
      go_quiet (fail)
      go_wp2
      go_ret
      exact ⟨rfl, hba _⟩
    have m1i : decide ((m : Int) < 144) = false := decide_eq_false (by omega)
    by_cases m2 : 191 < m
    · have m2i : (191 : Int) < (m : Int) := by omega
      rw [if_pos ⟨by simp, .inr m2⟩] at hfu
      clear m1 m2
      rw [hfu]
      clear hfu
      go_enter Tryd.func67, Tryd.ntmps67
      go_upto_region 8 with fail
      go_quiet (fail)
      go_wp2
      go_ret
      exact ⟨rfl, hba _⟩
    have m2i : decide ((191 : Int) < (m : Int)) = false := decide_eq_false (by omega)
    rw [if_neg (by rintro ⟨-, q | q⟩; exact m1 q; exact m2 q)] at hfu
    obtain ⟨k, hk⟩ : ∃ k, y.toNat = k := ⟨_, rfl⟩
    have hyd : (([x, y] : Bs).getD 1 0).toNat = k := hk
    rw [hyd] at hfu
    have hgy : (ByteArray.mk (a :: x :: [y]).toArray)[2]'(by rw [ba_len]; simp) = y := rfl
    clear m1 m2
    by_cases n1 : k < 128
    · have n1i : (k : Int) < 128 := by omega
      rw [if_pos ⟨by simp, .inl n1⟩] at hfu
      clear n1
      rw [hfu]
      clear hfu
      go_enter Tryd.func67, Tryd.ntmps67
      go_upto_region 8 with fail
      go_quiet (fail)
      go_wp2
      go_ret
      exact ⟨rfl, hba _⟩
    have n1i : decide ((k : Int) < 128) = false := decide_eq_false (by omega)
    by_cases n2 : 191 < k
    · have n2i : (191 : Int) < (k : Int) := by omega
      rw [if_pos ⟨by simp, .inr n2⟩] at hfu
      clear n1 n2
      rw [hfu]
      clear hfu
      go_enter Tryd.func67, Tryd.ntmps67
      go_upto_region 8 with fail
      go_quiet (fail)
      go_wp2
      go_ret
      exact ⟨rfl, hba _⟩
    have n2i : decide ((191 : Int) < (k : Int)) = false := decide_eq_false (by omega)
    rw [if_neg (by rintro ⟨-, q | q⟩; exact n1 q; exact n2 q)] at hfu
    clear n1 n2
    rw [hfu]
    clear hfu
    go_enter Tryd.func67, Tryd.ntmps67
    go_upto_region 8 with fail
    go_quiet (fail)
    go_wp2
    go_ret
    exact ⟨rfl, hba _⟩
  · simp at hbig; try omega
set_option maxHeartbeats 8000000 in
set_option maxRecDepth 20000 in
theorem full_i (a : UInt8) (t : Bs) (ht : t.length ≤ 4000) (n : Nat) (hn : a.toNat = n) (h1 : 241 ≤ n) (h2 : n < 244) (w : World) (hE : Env w) :
    Calls Tryd.prog 67 #[S (a :: t)] w fun e w' => e = .returned (.bool (full (a :: t))) ∧ Below w.heap.size w w' := by
  have hT := hE.u8.1 n (by omega)
  rw [show firstT n = 4 from firstT_F1 ⟨h1, h2⟩] at hT
  have hfu := full_cons a t n hn
  have hsz : 0 < (ByteArray.mk (a :: t).toArray).size := by rw [ba_len]; simp
  have hg : (ByteArray.mk (a :: t).toArray)[0]'hsz = a := rfl
  have hlen : ((a :: t).length : Int) = (t.length : Int) + 1 := by simp
  have hA := hE.u8.2 0 (by omega)
  have d0 : w.cell? ⟨2, 0, none⟩ = some (.int .u8 128) := hA.1
  have d1 : w.cell? ⟨2, 1, none⟩ = some (.int .u8 191) := hA.2
  have hba : ∀ q, Below w.heap.size w ((w.alloc (.cells #[.int .u8 128, .int .u8 191] 125)).drewN q) := fun q => below_drewNq ((Below.refl _ _).alloc (Nat.le_refl _) _) q
  rw [if_neg (by omega)] at hfu
  have hz : (if n < 224 then 2 else if n < 240 then 3 else 4) = 4 := by rw [if_neg (by omega), if_neg (by omega)]
  rw [hz] at hfu
  clear hE hA
  by_cases hbig : 4 ≤ t.length + 1
  · rw [if_pos hbig] at hfu
    rw [hfu]
    have hbig' : (4 : Int) ≤ (t.length : Int) + 1 := by omega
    clear hfu
    go_enter Tryd.func67, Tryd.ntmps67
    go_wp2
    go_ret
    exact ⟨rfl, Below.refl _ _⟩
  rw [if_neg hbig] at hfu
  have hlo : (if n = 224 then 160 else if n = 240 then 144 else 128) = 128 := by rw [if_neg (by omega), if_neg (by omega)]
  have hhi : (if n = 237 then 159 else if n = 244 then 143 else 191) = 191 := by rw [if_neg (by omega), if_neg (by omega)]
  rw [hlo, hhi] at hfu
  clear hlo hhi hz
  rcases t with _ | ⟨x, _ | ⟨y, _ | ⟨z, t⟩⟩⟩
  · rw [if_neg (by simp), if_neg (by simp)] at hfu
    rw [hfu]
    clear hfu
    go_enter Tryd.func67, Tryd.ntmps67
    go_upto_region 8 with fail
    go_quiet (fail)
    go_wp2
    go_ret
    exact ⟨rfl, hba _⟩
  · skip
    obtain ⟨m, hm⟩ : ∃ m, x.toNat = m := ⟨_, rfl⟩
    have hxd : (([x] ++ [] : Bs).getD 0 0).toNat = m := hm
    simp only [List.cons_append, List.nil_append] at hxd
    rw [hxd] at hfu
    have hgx : (ByteArray.mk (a :: x :: []).toArray)[1]'(by rw [ba_len]; simp) = x := rfl
    by_cases m1 : m < 128
    · have m1i : (m : Int) < 128 := by omega
      rw [if_pos ⟨by simp, .inl m1⟩] at hfu
      clear m1
      rw [hfu]
      clear hfu
      go_enter Tryd.func67, Tryd.ntmps67
      go_upto_region 8 with fail
      go_quiet (fail)
      go_wp2
      go_ret
      exact ⟨rfl, hba _⟩
    have m1i : decide ((m : Int) < 128) = false := decide_eq_false (by omega)
    by_cases m2 : 191 < m
    · have m2i : (191 : Int) < (m : Int) := by omega
      rw [if_pos ⟨by simp, .inr m2⟩] at hfu
      clear m1 m2
      rw [hfu]
      clear hfu
      go_enter Tryd.func67, Tryd.ntmps67
      go_upto_region 8 with fail
      go_quiet (fail)
      go_wp2
      go_ret
      exact ⟨rfl, hba _⟩
    have m2i : decide ((191 : Int) < (m : Int)) = false := decide_eq_false (by omega)
    rw [if_neg (by rintro ⟨-, q | q⟩; exact m1 q; exact m2 q)] at hfu
    rw [if_neg (by simp)] at hfu
    clear m1 m2
    rw [hfu]
    clear hfu
    go_enter Tryd.func67, Tryd.ntmps67
    go_upto_region 8 with fail
    go_quiet (fail)
    go_wp2
    go_ret
    exact ⟨rfl, hba _⟩
  · skip
    obtain ⟨m, hm⟩ : ∃ m, x.toNat = m := ⟨_, rfl⟩
    have hxd : (([x] ++ [y] : Bs).getD 0 0).toNat = m := hm
    simp only [List.cons_append, List.nil_append] at hxd
    rw [hxd] at hfu
    have hgx : (ByteArray.mk (a :: x :: [y]).toArray)[1]'(by rw [ba_len]; simp) = x := rfl
    by_cases m1 : m < 128
    · have m1i : (m : Int) < 128 := by omega
      rw [if_pos ⟨by simp, .inl m1⟩] at hfu
      clear m1
      rw [hfu]
      clear hfu
      go_enter Tryd.func67, Tryd.ntmps67
      go_upto_region 8 with fail
      go_quiet (fail)
      go_wp2
      go_ret
      exact ⟨rfl, hba _⟩
    have m1i : decide ((m : Int) < 128) = false := decide_eq_false (by omega)
    by_cases m2 : 191 < m
    · have m2i : (191 : Int) < (m : Int) := by omega
      rw [if_pos ⟨by simp, .inr m2⟩] at hfu
      clear m1 m2
      rw [hfu]
      clear hfu
      go_enter Tryd.func67, Tryd.ntmps67
      go_upto_region 8 with fail
      go_quiet (fail)
      go_wp2
      go_ret
      exact ⟨rfl, hba _⟩
    have m2i : decide ((191 : Int) < (m : Int)) = false := decide_eq_false (by omega)
    rw [if_neg (by rintro ⟨-, q | q⟩; exact m1 q; exact m2 q)] at hfu
    obtain ⟨k, hk⟩ : ∃ k, y.toNat = k := ⟨_, rfl⟩
    have hyd : (([x, y] : Bs).getD 1 0).toNat = k := hk
    rw [hyd] at hfu
    have hgy : (ByteArray.mk (a :: x :: [y]).toArray)[2]'(by rw [ba_len]; simp) = y := rfl
    clear m1 m2
    by_cases n1 : k < 128
    · have n1i : (k : Int) < 128 := by omega
      rw [if_pos ⟨by simp, .inl n1⟩] at hfu
      clear n1
      rw [hfu]
      clear hfu
      go_enter Tryd.func67, Tryd.ntmps67
      go_upto_region 8 with fail
      go_quiet (fail)
      go_wp2
      go_ret
      exact ⟨rfl, hba _⟩
    have n1i : decide ((k : Int) < 128) = false := decide_eq_false (by omega)
    by_cases n2 : 191 < k
    · have n2i : (191 : Int) < (k : Int) := by omega
      rw [if_pos ⟨by simp, .inr n2⟩] at hfu
      clear n1 n2
      rw [hfu]
      clear hfu
      go_enter Tryd.func67, Tryd.ntmps67
      go_upto_region 8 with fail
      go_quiet (fail)
      go_wp2
      go_ret
      exact ⟨rfl, hba _⟩
    have n2i : decide ((191 : Int) < (k : Int)) = false := decide_eq_false (by omega)
    rw [if_neg (by rintro ⟨-, q | q⟩; exact n1 q; exact n2 q)] at hfu
    clear n1 n2
    rw [hfu]
    clear hfu
    go_enter Tryd.func67, Tryd.ntmps67
    go_upto_region 8 with fail
    go_quiet (fail)
    go_wp2
    go_ret
    exact ⟨rfl, hba _⟩
  · simp at hbig; try omega
set_option maxHeartbeats 8000000 in
set_option maxRecDepth 20000 in
theorem full_j (a : UInt8) (t : Bs) (ht : t.length ≤ 4000) (n : Nat) (hn : a.toNat = n) (h1 : 244 ≤ n) (h2 : n < 245) (w : World) (hE : Env w) :
    Calls Tryd.prog 67 #[S (a :: t)] w fun e w' => e = .returned (.bool (full (a :: t))) ∧ Below w.heap.size w w' := by
  have hT := hE.u8.1 n (by omega)
  rw [show firstT n = 68 from firstT_F4 (by omega)] at hT
  have hfu := full_cons a t n hn
  have hsz : 0 < (ByteArray.mk (a :: t).toArray).size := by rw [ba_len]; simp
  have hg : (ByteArray.mk (a :: t).toArray)[0]'hsz = a := rfl
  have hlen : ((a :: t).length : Int) = (t.length : Int) + 1 := by simp
  have hA := hE.u8.2 4 (by omega)
  have d0 : w.cell? ⟨2, 8, none⟩ = some (.int .u8 128) := hA.1
  have d1 : w.cell? ⟨2, 9, none⟩ = some (.int .u8 143) := hA.2
  have hba : ∀ q, Below w.heap.size w ((w.alloc (.cells #[.int .u8 128, .int .u8 143] 125)).drewN q) := fun q => below_drewNq ((Below.refl _ _).alloc (Nat.le_refl _) _) q
  rw [if_neg (by omega)] at hfu
  have hz : (if n < 224 then 2 else if n < 240 then 3 else 4) = 4 := by rw [if_neg (by omega), if_neg (by omega)]
  rw [hz] at hfu
  clear hE hA
  by_cases hbig : 4 ≤ t.length + 1
  · rw [if_pos hbig] at hfu
    rw [hfu]
    have hbig' : (4 : Int) ≤ (t.length : Int) + 1 := by omega
    clear hfu
    go_enter Tryd.func67, Tryd.ntmps67
    go_wp2
    go_ret
    exact ⟨rfl, Below.refl _ _⟩
  rw [if_neg hbig] at hfu
  have hlo : (if n = 224 then 160 else if n = 240 then 144 else 128) = 128 := by rw [if_neg (by omega), if_neg (by omega)]
  have hhi : (if n = 237 then 159 else if n = 244 then 143 else 191) = 143 := by rw [if_neg (by omega), if_pos (by omega)]
  rw [hlo, hhi] at hfu
  clear hlo hhi hz
  rcases t with _ | ⟨x, _ | ⟨y, _ | ⟨z, t⟩⟩⟩
  · rw [if_neg (by simp), if_neg (by simp)] at hfu
    rw [hfu]
    clear hfu
    go_enter Tryd.func67, Tryd.ntmps67
    go_upto_region 8 with fail
    go_quiet (fail)
    go_wp2
    go_ret
    exact ⟨rfl, hba _⟩
  · skip
    obtain ⟨m, hm⟩ : ∃ m, x.toNat = m := ⟨_, rfl⟩
    have hxd : (([x] ++ [] : Bs).getD 0 0).toNat = m := hm
    simp only [List.cons_append, List.nil_append] at hxd
    rw [hxd] at hfu
    have hgx : (ByteArray.mk (a :: x :: []).toArray)[1]'(by rw [ba_len]; simp) = x := rfl
    by_cases m1 : m < 128
    · have m1i : (m : Int) < 128 := by omega
      rw [if_pos ⟨by simp, .inl m1⟩] at hfu
      clear m1
      rw [hfu]
      clear hfu
      go_enter Tryd.func67, Tryd.ntmps67
      go_upto_region 8 with fail
      go_quiet (fail)
      go_wp2
      go_ret
      exact ⟨rfl, hba _⟩
    have m1i : decide ((m : Int) < 128) = false := decide_eq_false (by omega)
    by_cases m2 : 143 < m
    · have m2i : (143 : Int) < (m : Int) := by omega
      rw [if_pos ⟨by simp, .inr m2⟩] at hfu
      clear m1 m2
      rw [hfu]
      clear hfu
      go_enter Tryd.func67, Tryd.ntmps67
      go_upto_region 8 with fail
      go_quiet (fail)
      go_wp2
      go_ret
      exact ⟨rfl, hba _⟩
    have m2i : decide ((143 : Int) < (m : Int)) = false := decide_eq_false (by omega)
    rw [if_neg (by rintro ⟨-, q | q⟩; exact m1 q; exact m2 q)] at hfu
    rw [if_neg (by simp)] at hfu
    clear m1 m2
    rw [hfu]
    clear hfu
    go_enter Tryd.func67, Tryd.ntmps67
    go_upto_region 8 with fail
    go_quiet (fail)
    go_wp2
    go_ret
    exact ⟨rfl, hba _⟩
  · skip
    obtain ⟨m, hm⟩ : ∃ m, x.toNat = m := ⟨_, rfl⟩
    have hxd : (([x] ++ [y] : Bs).getD 0 0).toNat = m := hm
    simp only [List.cons_append, List.nil_append] at hxd
    rw [hxd] at hfu
    have hgx : (ByteArray.mk (a :: x :: [y]).toArray)[1]'(by rw [ba_len]; simp) = x := rfl
    by_cases m1 : m < 128
    · have m1i : (m : Int) < 128 := by omega
      rw [if_pos ⟨by simp, .inl m1⟩] at hfu
      clear m1
      rw [hfu]
      clear hfu
      go_enter Tryd.func67, Tryd.ntmps67
      go_upto_region 8 with fail
      go_quiet (fail)
      go_wp2
      go_ret
      exact ⟨rfl, hba _⟩
    have m1i : decide ((m : Int) < 128) = false := decide_eq_false (by omega)
    by_cases m2 : 143 < m
    · have m2i : (143 : Int) < (m : Int) := by omega
      rw [if_pos ⟨by simp, .inr m2⟩] at hfu
      clear m1 m2
      rw [hfu]
      clear hfu
      go_enter Tryd.func67, Tryd.ntmps67
      go_upto_region 8 with fail
      go_quiet (fail)
      go_wp2
      go_ret
      exact ⟨rfl, hba _⟩
    have m2i : decide ((143 : Int) < (m : Int)) = false := decide_eq_false (by omega)
    rw [if_neg (by rintro ⟨-, q | q⟩; exact m1 q; exact m2 q)] at hfu
    obtain ⟨k, hk⟩ : ∃ k, y.toNat = k := ⟨_, rfl⟩
    have hyd : (([x, y] : Bs).getD 1 0).toNat = k := hk
    rw [hyd] at hfu
    have hgy : (ByteArray.mk (a :: x :: [y]).toArray)[2]'(by rw [ba_len]; simp) = y := rfl
    clear m1 m2
    by_cases n1 : k < 128
    · have n1i : (k : Int) < 128 := by omega
      rw [if_pos ⟨by simp, .inl n1⟩] at hfu
      clear n1
      rw [hfu]
      clear hfu
      go_enter Tryd.func67, Tryd.ntmps67
      go_upto_region 8 with fail
      go_quiet (fail)
      go_wp2
      go_ret
      exact ⟨rfl, hba _⟩
    have n1i : decide ((k : Int) < 128) = false := decide_eq_false (by omega)
    by_cases n2 : 191 < k
    · have n2i : (191 : Int) < (k : Int) := by omega
      rw [if_pos ⟨by simp, .inr n2⟩] at hfu
      clear n1 n2
      rw [hfu]
      clear hfu
      go_enter Tryd.func67, Tryd.ntmps67
      go_upto_region 8 with fail
      go_quiet (fail)
      go_wp2
      go_ret
      exact ⟨rfl, hba _⟩
    have n2i : decide ((191 : Int) < (k : Int)) = false := decide_eq_false (by omega)
    rw [if_neg (by rintro ⟨-, q | q⟩; exact n1 q; exact n2 q)] at hfu
    clear n1 n2
    rw [hfu]
    clear hfu
    go_enter Tryd.func67, Tryd.ntmps67
    go_upto_region 8 with fail
    go_quiet (fail)
    go_wp2
    go_ret
    exact ⟨rfl, hba _⟩
  · simp at hbig; try omega
set_option maxHeartbeats 8000000 in
set_option maxRecDepth 20000 in
theorem full_k (a : UInt8) (t : Bs) (ht : t.length ≤ 4000) (n : Nat) (hn : a.toNat = n) (h1 : 245 ≤ n) (h2 : n < 256) (w : World) (hE : Env w) :
    Calls Tryd.prog 67 #[S (a :: t)] w fun e w' => e = .returned (.bool (full (a :: t))) ∧ Below w.heap.size w w' := by
  have hT := hE.u8.1 n (by omega)
  rw [show firstT n = 241 from by unfold firstT; repeat (first | rw [if_neg (by omega)])] at hT
  have hfu := full_cons a t n hn
  have hsz : 0 < (ByteArray.mk (a :: t).toArray).size := by rw [ba_len]; simp
  have hg : (ByteArray.mk (a :: t).toArray)[0]'hsz = a := rfl
  have hlen : ((a :: t).length : Int) = (t.length : Int) + 1 := by simp
  rw [if_pos (by omega)] at hfu
  rw [hfu]
  clear hfu hE
  go_enter Tryd.func67, Tryd.ntmps67
  go_wp2
  go_ret
  exact ⟨rfl, Below.refl _ _⟩
theorem full_any (l : Bs) (hl : l.length ≤ 4000) (w : World) (hE : Env w) : Calls Tryd.prog 67 #[S l] w fun e w' => e = .returned (.bool (full l)) ∧ Below w.heap.size w w' := by
  cases l with
  | nil =>
    clear hE
    go_enter Tryd.func67, Tryd.ntmps67
    go_wp2
    go_ret
    exact ⟨rfl, Below.refl _ _⟩
  | cons a t =>
    have ht : t.length ≤ 4000 := by simp at hl; omega
    have hlt := a.toNat_lt
    obtain ⟨n, hn⟩ : ∃ n, a.toNat = n := ⟨_, rfl⟩
    rw [hn] at hlt
    by_cases qa : n < 128
    · exact full_a a t ht n hn (by omega) qa w hE
    by_cases qb : n < 194
    · exact full_b a t ht n hn (by omega) qb w hE
    by_cases qc : n < 224
    · exact full_c a t ht n hn (by omega) qc w hE
    by_cases qd : n < 225
    · exact full_d a t ht n hn (by omega) qd w hE
    by_cases qe : n < 237
    · exact full_e a t ht n hn (by omega) qe w hE
    by_cases qf : n < 238
    · exact full_f a t ht n hn (by omega) qf w hE
    by_cases qg : n < 240
    · exact full_g a t ht n hn (by omega) qg w hE
    by_cases qh : n < 241
    · exact full_h a t ht n hn (by omega) qh w hE
    by_cases qi : n < 244
    · exact full_i a t ht n hn (by omega) qi w hE
    by_cases qj : n < 245
    · exact full_j a t ht n hn (by omega) qj w hE
    exact full_k a t ht n hn (by omega) (by omega) w hE
end Go.Proofs.YtfaahjbkdlkmjaaDoor
