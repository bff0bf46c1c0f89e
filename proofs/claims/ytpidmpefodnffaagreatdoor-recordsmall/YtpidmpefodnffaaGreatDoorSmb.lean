import Derived.Test.YtpidmpefodnffaaGreatDoorSma
import Derived.Test.YtpidmpefodnffaaGreatDoorOwp
namespace Go.Proofs.YtpidmpefodnffaaGreatDoor
open Go.RowKit
set_option maxHeartbeats 4000000
set_option maxRecDepth 8000
theorem tokQ (id9 : Int) (fa : Int) (ge : Int) (ha : Bs) (mi : Int) (sp : Bool) (at9 : Int) (ne : Int) (se : Bs) : ∃ (t0 : Int) (t1 : Int) (t2 : Int) (t3 : Bs) (t4 : Int) (t5 : Bool) (t6 : Int) (t7 : Int) (t8 : Bs) (pe : Nat), (((tokP id9 fa ge ha mi sp at9 ne se).2 = 0 ∧ pe = 0 ∧ t0 = id9 ∧ t1 = fa ∧ t2 = ge ∧ t3 = ha ∧ t4 = mi ∧ t5 = sp ∧ t6 = at9 ∧ t7 = ne ∧ t8 = se) ∨ ((tokP id9 fa ge ha mi sp at9 ne se).2 = 140 ∧ pe = 141)) ∧ ∀ W, Calls Tryz.prog 35 #[.agg #[S (tokP id9 fa ge ha mi sp at9 ne se).1.1, S (tokP id9 fa ge ha mi sp at9 ne se).1.2]] W fun e w' => e = .returned (.tuple #[.agg #[I t0, I t1, I t2, S t3, I t4, .bool t5, I t6, I t7, S t8], I pe]) ∧ Below W.heap.size W w' := by
  cases hok : tokOK id9 fa ge ha mi sp at9 ne se
  · have e : tokP id9 fa ge ha mi sp at9 ne se = (([], []), 140) := by simp [tokP, hok]
    refine ⟨0, 0, 0, [], 0, false, 0, 0, [], 141, .inr ⟨by rw [e], rfl⟩, fun W => ?_⟩
    rw [e]
    refine (Parse35 [] [] W (by decide) (by decide)).mono ?_
    rintro e w' ⟨hb, ⟨q, _⟩ | ⟨_, rfl⟩⟩
    · exact absurd q (by decide +kernel)
    · exact ⟨rfl, hb⟩
  · have t := tokT hok
    have g := tokP_G hok
    have e : tokP id9 fa ge ha mi sp at9 ne se = ((cat (lx (tokKl id9 fa ge ha mi sp at9 ne se)) 2, cat (lx (tokVl id9 fa ge ha mi sp at9 ne se)) 8), 0) := by unfold tokP; rw [if_pos hok]
    rw [e] at g ⊢
    have hl := tokG_hd g
    refine ⟨id9, fa, ge, ha, mi, sp, at9, ne, se, 0, .inl ⟨rfl, rfl, rfl, rfl, rfl, rfl, rfl, rfl, rfl, rfl, rfl⟩, fun W => ?_⟩
    refine (Parse35 _ _ W (Nat.le_trans hl.2.1 (by decide)) (Nat.le_trans hl.2.2 (by decide))).mono ?_
    rintro e w' ⟨hb, ⟨_, rfl⟩ | ⟨q, _⟩⟩
    · rw [t.1, t.2.1, t.2.2.1, t.2.2.2.1, t.2.2.2.2.1, t.2.2.2.2.2.1, t.2.2.2.2.2.2.1, t.2.2.2.2.2.2.2.1, t.2.2.2.2.2.2.2.2]
      exact ⟨rfl, hb⟩
    · exact absurd g (by simp only [q]; decide)
theorem keyQ (nu : Int) (se2 : Bs) (fr : Int) (un : Int) : ∃ (t0 : Int) (t1 : Bs) (t2 : Int) (t3 : Int) (pe : Nat), (((keyP nu se2 fr un).2 = 0 ∧ pe = 0 ∧ t0 = nu ∧ t1 = se2 ∧ t2 = fr ∧ t3 = un) ∨ ((keyP nu se2 fr un).2 = 140 ∧ pe = 141)) ∧ ∀ W, Calls Tryz.prog 40 #[.agg #[S (keyP nu se2 fr un).1.1, S (keyP nu se2 fr un).1.2]] W fun e w' => e = .returned (.tuple #[.agg #[I t0, S t1, I t2, I t3], I pe]) ∧ Below W.heap.size W w' := by
  cases hok : keyOK nu se2 fr un
  · have e : keyP nu se2 fr un = (([], []), 140) := by simp [keyP, hok]
    refine ⟨0, [], 0, 0, 141, .inr ⟨by rw [e], rfl⟩, fun W => ?_⟩
    rw [e]
    refine (Parse40 [] [] W (by decide) (by decide)).mono ?_
    rintro e w' ⟨hb, ⟨q, _⟩ | ⟨_, rfl⟩⟩
    · exact absurd q (by decide +kernel)
    · exact ⟨rfl, hb⟩
  · have t := keyT hok
    have g := keyP_G hok
    have e : keyP nu se2 fr un = ((cat (lx (keyKl nu se2 fr un)) 2, cat (lx (keyVl nu se2 fr un)) 3), 0) := by unfold keyP; rw [if_pos hok]
    rw [e] at g ⊢
    have hl := keyG_hd g
    refine ⟨nu, se2, fr, un, 0, .inl ⟨rfl, rfl, rfl, rfl, rfl, rfl⟩, fun W => ?_⟩
    refine (Parse40 _ _ W (Nat.le_trans hl.2.1 (by decide)) (Nat.le_trans hl.2.2 (by decide))).mono ?_
    rintro e w' ⟨hb, ⟨_, rfl⟩ | ⟨q, _⟩⟩
    · rw [t.1, t.2.1, t.2.2.1, t.2.2.2]
      exact ⟨rfl, hb⟩
    · exact absurd g (by simp only [q]; decide)
theorem eveQ (nu3 : Int) (ti : Int) (ki : Int) (fa3 : Int) (wh : Bs) : ∃ (t0 : Int) (t1 : Int) (t2 : Int) (t3 : Int) (t4 : Bs) (pe : Nat), (((eveP nu3 ti ki fa3 wh).2 = 0 ∧ pe = 0 ∧ t0 = nu3 ∧ t1 = ti ∧ t2 = ki ∧ t3 = fa3 ∧ t4 = wh) ∨ ((eveP nu3 ti ki fa3 wh).2 = 140 ∧ pe = 141)) ∧ ∀ W, Calls Tryz.prog 43 #[.agg #[S (eveP nu3 ti ki fa3 wh).1.1, S (eveP nu3 ti ki fa3 wh).1.2]] W fun e w' => e = .returned (.tuple #[.agg #[I t0, I t1, I t2, I t3, S t4], I pe]) ∧ Below W.heap.size W w' := by
  cases hok : eveOK nu3 ti ki fa3 wh
  · have e : eveP nu3 ti ki fa3 wh = (([], []), 140) := by simp [eveP, hok]
    refine ⟨0, 0, 0, 0, [], 141, .inr ⟨by rw [e], rfl⟩, fun W => ?_⟩
    rw [e]
    refine (Parse43 [] [] W (by decide) (by decide)).mono ?_
    rintro e w' ⟨hb, ⟨q, _⟩ | ⟨_, rfl⟩⟩
    · exact absurd q (by decide +kernel)
    · exact ⟨rfl, hb⟩
  · have t := eveT hok
    have g := eveP_G hok
    have e : eveP nu3 ti ki fa3 wh = ((cat (lx (eveKl nu3 ti ki fa3 wh)) 2, cat (lx (eveVl nu3 ti ki fa3 wh)) 4), 0) := by unfold eveP; rw [if_pos hok]
    rw [e] at g ⊢
    have hl := eveG_hd g
    refine ⟨nu3, ti, ki, fa3, wh, 0, .inl ⟨rfl, rfl, rfl, rfl, rfl, rfl, rfl⟩, fun W => ?_⟩
    refine (Parse43 _ _ W (Nat.le_trans hl.2.1 (by decide)) (Nat.le_trans hl.2.2 (by decide))).mono ?_
    rintro e w' ⟨hb, ⟨_, rfl⟩ | ⟨q, _⟩⟩
    · rw [t.1, t.2.1, t.2.2.1, t.2.2.2.1, t.2.2.2.2]
      exact ⟨rfl, hb⟩
    · exact absurd g (by simp only [q]; decide)
theorem chaQ (ba : Int) (ne4 : Int) (bh : Bs) (nh : Bs) : ∃ (t0 : Int) (t1 : Int) (t2 : Bs) (t3 : Bs) (pe : Nat), (((chaP ba ne4 bh nh).2 = 0 ∧ pe = 0 ∧ t0 = ba ∧ t1 = ne4 ∧ t2 = bh ∧ t3 = nh) ∨ ((chaP ba ne4 bh nh).2 = 140 ∧ pe = 141)) ∧ ∀ W, Calls Tryz.prog 46 #[.agg #[S (chaP ba ne4 bh nh).1.1, S (chaP ba ne4 bh nh).1.2]] W fun e w' => e = .returned (.tuple #[.agg #[I t0, I t1, S t2, S t3], I pe]) ∧ Below W.heap.size W w' := by
  cases hok : chaOK ba ne4 bh nh
  · have e : chaP ba ne4 bh nh = (([], []), 140) := by simp [chaP, hok]
    refine ⟨0, 0, [], [], 141, .inr ⟨by rw [e], rfl⟩, fun W => ?_⟩
    rw [e]
    refine (Parse46 [] [] W (by decide) (by decide)).mono ?_
    rintro e w' ⟨hb, ⟨q, _⟩ | ⟨_, rfl⟩⟩
    · exact absurd q (by decide +kernel)
    · exact ⟨rfl, hb⟩
  · have t := chaT hok
    have g := chaP_G hok
    have e : chaP ba ne4 bh nh = ((cat (lx (chaKl ba ne4 bh nh)) 1, cat (lx (chaVl ba ne4 bh nh)) 4), 0) := by unfold chaP; rw [if_pos hok]
    rw [e] at g ⊢
    have hl := chaG_hd g
    refine ⟨ba, ne4, bh, nh, 0, .inl ⟨rfl, rfl, rfl, rfl, rfl, rfl⟩, fun W => ?_⟩
    refine (Parse46 _ _ W (Nat.le_trans hl.2.1 (by decide)) (Nat.le_trans hl.2.2 (by decide))).mono ?_
    rintro e w' ⟨hb, ⟨_, rfl⟩ | ⟨q, _⟩⟩
    · rw [t.1, t.2.1, t.2.2.1, t.2.2.2]
      exact ⟨rfl, hb⟩
    · exact absurd g (by simp only [q]; decide)
theorem nteQ (nx nw : Int) : ∃ (t0 t1 : Int) (pe : Nat), (((nteP nx nw).2 = 0 ∧ pe = 0 ∧ t0 = nx ∧ t1 = nw) ∨ ((nteP nx nw).2 = 140 ∧ pe = 141)) ∧ ∀ W, Calls Tryz.prog 49 #[S (nteP nx nw).1] W fun e w' => e = .returned (.tuple #[I t0, I t1, I pe]) ∧ Below W.heap.size W w' := by
  cases hok : nteOK nx nw
  · have e : nteP nx nw = ([], 140) := by simp [nteP, hok]
    refine ⟨0, 0, 141, .inr ⟨by rw [e], rfl⟩, fun W => ?_⟩
    rw [e]
    refine (Note49 [] W (by decide)).mono ?_
    rintro e w' ⟨hb, ⟨q, _⟩ | ⟨_, rfl⟩⟩
    · exact absurd q (by decide +kernel)
    · exact ⟨rfl, hb⟩
  · have b := nteB hok
    have e : nteP nx nw = (be 8 nx.toNat ++ (be 6 nw.toNat ++ [0, 0]), 0) := by unfold nteP; rw [if_pos hok]
    have q1 := rv_laid 8 nx.toNat (be 6 nw.toNat ++ [0, 0]) (by omega) (by omega) (by omega) (by omega)
    have q2 := rv_laid 6 nw.toNat [0, 0] (by omega) (by omega) (by omega) (by omega)
    have h1 : nte_nx (be 8 nx.toNat ++ (be 6 nw.toNat ++ [0, 0])) = nx := by unfold nte_nx; rw [q1.1]; omega
    have h2 : nte_nw (be 8 nx.toNat ++ (be 6 nw.toNat ++ [0, 0])) = nw := by unfold nte_nw; rw [q1.2, q2.1]; omega
    have g : nteG (be 8 nx.toNat ++ (be 6 nw.toNat ++ [0, 0])) = true := by unfold nteG; rw [h1, h2, e]; simp
    rw [e]
    refine ⟨nx, nw, 0, .inl ⟨rfl, rfl, rfl, rfl⟩, fun W => ?_⟩
    refine (Note49 _ W (by simp [be_len])).mono ?_
    rintro e w' ⟨hb, ⟨_, rfl⟩ | ⟨q, _⟩⟩
    · rw [h1, h2]
      exact ⟨rfl, hb⟩
    · exact absurd g (by simp only [q]; decide)
end Go.Proofs.YtpidmpefodnffaaGreatDoor
