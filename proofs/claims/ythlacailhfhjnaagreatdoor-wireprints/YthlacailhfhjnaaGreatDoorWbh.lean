import Derived.Test.YthlacailhfhjnaaGreatDoorWbz
namespace Go.Proofs.YthlacailhfhjnaaGreatDoor
open Go.RowKit Go.Lib
def opv : Option Fst → Value
  | none => .tuple #[.agg #[S [], S [], .int .i64 0], .bool false]
  | some f => .tuple #[.agg #[S f.m, S f.p, .int .i64 f.s], .bool true]
theorem opM_yes {l : Bs} (h1 : meth (hd 32 l) = true) (h2 : pth (hd 32 (tl 32 l)) = true) (h3 : tl 32 (tl 32 l) = vers) : opM l = some ⟨hd 32 l, hd 32 (tl 32 l), 0⟩ := by
  unfold opM; rw [h1, h2, h3]; rfl
theorem opM_no {l : Bs} (h : meth (hd 32 l) = false ∨ pth (hd 32 (tl 32 l)) = false ∨ tl 32 (tl 32 l) ≠ vers) : opM l = none := by
  unfold opM
  rcases h with h | h | h
  · rw [h]; simp
  · rw [h]; simp
  · rw [if_neg (by simp [h])]
theorem tl_le (c : UInt8) (s : Bs) : (tl c s).length ≤ s.length := by
  unfold tl
  rw [List.length_drop]
  have := List.Sublist.length_le (List.dropWhile_sublist (fun x => !(x == c)) (l := s))
  omega
theorem ret_of {a b : Value} (h : a = b) : Ending.returned b = .returned a := by rw [h]
set_option maxHeartbeats 4000000 in
set_option maxRecDepth 8000 in
theorem messageLine_any (l : Bs) (w : World) (hl : l.length ≤ 1099511627776) : Calls Tryz.prog 47 #[S l] w fun e w' => e = .returned (opv (opM l)) ∧ Below w.heap.size w w' := by
  have g1 := hd_le 32 l
  have g2 := tl_le 32 l
  have g3 := hd_le 32 (tl 32 l)
  have HC1 := hide (fun W => cut_any l 32 W hl)
  have HC2 := hide (fun W => cut_any (tl 32 l) 32 W (by omega))
  have HM := hide (fun W => isMethod_any (hd 32 l) W (by omega))
  have HP := hide (fun W => isPath_any (hd 32 (tl 32 l)) W (by omega))
  have HY := hide (@opM_yes l)
  have HN := hide (@opM_no l)
  generalize opM l = O at *
  generalize tl 32 (tl 32 l) = E at *
  generalize decide ((hd 32 (tl 32 l)).length < (tl 32 l).length) = d2 at *
  generalize hd 32 (tl 32 l) = P at *
  generalize decide ((hd 32 l).length < l.length) = d1 at *
  generalize tl 32 l = T at *
  generalize hd 32 l = M at *
  clear g1 g2 g3
  go_enter Tryz.func47, Tryz.ntmps47
  go_wp2_with fail
  refine (unhide HC1 _).mono ?_
  rintro e w1 ⟨rfl, q1, rfl⟩
  go_wp2_with fail
  refine (unhide HC2 _).mono ?_
  rintro e w1 ⟨rfl, q2, rfl⟩
  generalize meth M = A at *
  generalize pth P = B1 at *
  have fin : ∀ n, Below w.heap.size w ((w.alloc (.cells #[S [], S [], .int .i64 0] 89)).drewN n) := fun n => below_dN ((Below.refl _ _).alloc (Nat.le_refl _) _) _
  cases A
  · have HO := hide (unhide HN (.inl rfl))
    clear HN HY
    go_wp2_with (first | (go_at_call 62; refine (unhide HM _).mono ?_; rintro e w' ⟨rfl, rfl⟩))
    refine bodyPost_ret (v := .tuple #[.agg #[S [], S [], .int .i64 0], .bool false]) (by simp [results, Tryz.results47, go_sem]) rfl ⟨ret_of (by rw [unhide HO]; rfl), ?_⟩
    exact (((fin _).setCell (Nat.le_refl _) _).setCell (Nat.le_refl _) _).setCell (Nat.le_refl _) _
  cases B1
  · have HO := hide (unhide HN (.inr (.inl rfl)))
    clear HN HY
    go_wp2_with (first | (go_at_call 62; refine (unhide HM _).mono ?_; rintro e w' ⟨rfl, rfl⟩) | (go_at_call 63; refine (unhide HP _).mono ?_; rintro e w' ⟨rfl, rfl⟩))
    refine bodyPost_ret (v := .tuple #[.agg #[S [], S [], .int .i64 0], .bool false]) (by simp [results, Tryz.results47, go_sem]) rfl ⟨ret_of (by rw [unhide HO]; rfl), ?_⟩
    exact (((fin _).setCell (Nat.le_refl _) _).setCell (Nat.le_refl _) _).setCell (Nat.le_refl _) _
  by_cases hE : E = vers
  · have HO := hide (unhide HY rfl rfl hE)
    clear HN HY
    subst hE
    go_wp2_with (first | (go_at_call 62; refine (unhide HM _).mono ?_; rintro e w' ⟨rfl, rfl⟩) | (go_at_call 63; refine (unhide HP _).mono ?_; rintro e w' ⟨rfl, rfl⟩))
    refine bodyPost_ret (v := .tuple #[.agg #[S M, S P, .int .i64 0], .bool true]) (by simp [results, Tryz.results47, go_sem]) rfl ⟨ret_of (by rw [unhide HO]; rfl), ?_⟩
    exact (((fin _).setCell (Nat.le_refl _) _).setCell (Nat.le_refl _) _).setCell (Nat.le_refl _) _
  · have HO := hide (unhide HN (.inr (.inr hE)))
    have hE2 : (E == [72, 84, 84, 80, 47, 49, 46, 49]) = false := by simpa [vers] using hE
    clear HN HY
    go_wp2_with (first | (go_at_call 62; refine (unhide HM _).mono ?_; rintro e w' ⟨rfl, rfl⟩) | (go_at_call 63; refine (unhide HP _).mono ?_; rintro e w' ⟨rfl, rfl⟩))
    refine bodyPost_ret (v := .tuple #[.agg #[S [], S [], .int .i64 0], .bool false]) (by simp [results, Tryz.results47, go_sem]) rfl ⟨ret_of (by rw [unhide HO]; rfl), ?_⟩
    exact (((fin _).setCell (Nat.le_refl _) _).setCell (Nat.le_refl _) _).setCell (Nat.le_refl _) _
/-- What the library's variables hold. -/
structure Env (B : Nat) (w : World) : Prop where
  lt : 8 ≤ B
  le : B ≤ w.heap.size
  tab : ∃ T fz, w.heap[1]? = some (.cells (pow10Tab.map fun z => Value.int .u64 z).toArray T fz)
  rng : ∃ t p, w.cell? ⟨3, 0, none⟩ = some (.iface t p)
theorem Env.below {B : Nat} {w w' : World} (h : Env B w) (hb : Below B w w') : Env B w' := by
  obtain ⟨T, fz, h1⟩ := h.tab
  obtain ⟨t, p, h2⟩ := h.rng
  have := h.lt
  exact ⟨h.lt, Nat.le_trans h.le hb.size, ⟨T, fz, (hb.block 1 (by omega)).trans h1⟩, t, p, (hb.cell (by show 3 < B; omega)).trans h2⟩
theorem Env.tabIs {B : Nat} {w : World} (h : Env B w) : PowIs w := by
  obtain ⟨T, fz, h1⟩ := h.tab
  have hs : ((Tryz.prog.globals[1]?).map (fun g => g.name)).isSome = true := by kernel_rfl
  have hb : (((Tryz.prog.globals[1]?).map (fun g => g.name)).bind fun nm => Tryz.prog.globalNamed nm) = some 1 := by kernel_rfl
  obtain ⟨nm, hn⟩ := Option.isSome_iff_exists.1 hs
  rw [hn] at hb
  refine ⟨nm, hn, ?_⟩
  have hg : Tryz.prog.globalNamed nm = some 1 := hb
  unfold TabIs World.var?
  rw [hg]
  simp only [Option.bind_some, h1]
theorem Env.mono {B : Nat} {w : World} (h : Env B w) : Env w.heap.size w := ⟨Nat.le_trans h.lt h.le, Nat.le_refl _, h.tab, h.rng⟩
/-- Atoi of digits: the number, or some error. -/
theorem atoi_ok (l : Bs) (w : World) (hl : l.length ≤ 1099511627776) (hn : num l = true) (hv : vl 0 l < 9223372036854775808) :
    Calls Tryz.prog 97 #[S l] w fun e w' => e = .returned (.tuple #[.int .i64 (vl 0 l : Int), .nilIface]) ∧ Below w.heap.size w w' := by
  have h := atoi_num l hn
  rw [if_pos hv] at h
  refine (Tryz.strconv_Atoi_ok ⟨l.toArray⟩ (by rw [ba_size]; omega) _ (by rw [ba_list]; exact h) w).mono ?_
  rintro e w' ⟨rfl, hw⟩
  refine ⟨rfl, ?_⟩
  rcases hw with rfl | ⟨t, rfl⟩
  · exact Below.refl _ _
  · exact bytesWorld_below _ _ _
theorem atoi_no {B : Nat} (l : Bs) (w : World) (hE : Env B w) (hl : l.length ≤ 1099511627776) (hn : num l = true) (hv : ¬ vl 0 l < 9223372036854775808) :
    Calls Tryz.prog 97 #[S l] w fun e w' => ∃ x t p, e = .returned (.tuple #[.int .i64 x, .iface t p]) ∧ Below w.heap.size w w' := by
  have h := atoi_num l hn
  rw [if_neg hv] at h
  obtain ⟨t, p, hc⟩ := hE.rng
  refine (Tryz.strconv_Atoi_range ⟨l.toArray⟩ (by rw [ba_size]; omega) (by rw [ba_list]; exact h) _ w hc (.inr ⟨t, p, rfl⟩)).mono ?_
  rintro e w' ⟨M, rfl, _, _, hb⟩
  exact ⟨_, _, _, rfl, hb⟩
end Go.Proofs.YthlacailhfhjnaaGreatDoor
