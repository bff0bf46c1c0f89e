import Derived.Test.YtfaahjbkdlkmjaaDoorJeq
/- Jot: an object is read. -/
namespace Go.Proofs.YtfaahjbkdlkmjaaDoor
open Go Go.RowKit Go.Lib
set_option linter.unusedVariables false
set_option linter.unusedSimpArgs false
def obj (f d : Nat) (r : Bs) : Except Er (List Bs × List J × Bs) :=
  if d = 16 then .error (41, r.length) else if (sk r.tail).headD 0 = 125 then .ok ([], [], (sk r.tail).tail) else mem f (d + 1) [] [] (sk r.tail)
def okO (b : Nat) (s : Bs) (w : World) (x : List Bs × List J × Bs) (e : Ending) (w' : World) : Prop :=
  (∃ na nc xa xc, e = .returned (.agg #[.slice na x.1.length nc, .slice xa x.2.1.length xc]) ∧ ND w' (Ft w w') na x.1 ∧ x.2.1.length ≤ maxLen ∧ (0 < x.2.1.length → ∃ b o, xa = some ⟨b, o, none⟩ ∧ Ft w w' b ∧ JDs w' (Ft w w') b o x.2.1)) ∧ RAt b s x.2.2 w'
theorem one_pos (c : UInt8) : 1 ≤ (one c).length := by
  unfold one
  split
  · simp
  · rename_i h
    exact List.length_pos_iff.2 h
theorem inner_le : ∀ s : Bs, s.length ≤ (inner s).length
  | [] => by simp
  | a :: l => by
    rw [inner_cons, List.length_append, List.length_cons]
    have := one_pos a
    have := inner_le l
    omega
theorem mem_mr (g d : Nat) (ns : List Bs) (xs : List J) (r : Bs) : mem (g + 1) d ns xs r = match letters r with
    | .error e => .error e
    | .ok (a, t) => if a ∈ ns then .error (42, t.length) else match want 34 t with
      | .error e => .error e
      | .ok t1 => match want 58 (sk t1) with
        | .error e => .error e
        | .ok t2 => match val g d (sk t2) with
          | .error e => .error e
          | .ok (x, t3) => match mr 125 t3 with
            | .error e => .error e
            | .ok (true, t') => mem g d (insAt ns (plc ns a) a) (insAt xs (plc ns a) x) t'
            | .ok (false, t') => .ok (insAt ns (plc ns a) a, insAt xs (plc ns a) x, t') := by
  rw [mem]
  cases letters r with
  | error e => rfl
  | ok x =>
    obtain ⟨a, t⟩ := x
    simp only
    by_cases hm : a ∈ ns
    · rw [if_pos hm, if_pos hm]
    rw [if_neg hm, if_neg hm]
    cases want 34 t with
    | error e => rfl
    | ok t1 =>
      simp only
      cases want 58 (sk t1) with
      | error e => rfl
      | ok t2 =>
        simp only
        cases val g d (sk t2) with
        | error e => rfl
        | ok y =>
          obtain ⟨x, t3⟩ := y
          simp only
          unfold mr
          by_cases hh : (sk t3).headD 0 = 125
          · rw [if_pos hh, if_pos hh]
          · rw [if_neg hh, if_neg hh]
            cases want 44 (sk t3) <;> rfl
theorem map_insAt (its : List It) (i : Nat) (x : It) : (insAt its i x).map It.j = insAt (its.map It.j) i x.j := by
  rw [insAt_three, insAt_three, List.map_append, List.map_append, List.map_take, List.map_drop]
  rfl
theorem want_le {c : UInt8} {r t : Bs} (h : want c r = .ok t) : t.length + 1 ≤ r.length := by
  have := congrArg List.length (want_len h)
  simp at this
  omega
theorem two_set {w : World} {rb : Nat} {u v : Value} (h : w.heap[rb]? = some (.cells #[u, v] 61 (0, 0))) (x y : Value) : ((w.setCell ⟨rb, 0, none⟩ x).setCell ⟨rb, 1, none⟩ y).heap[rb]? = some (.cells #[x, y] 61 (0, 0)) := by
  have h1 := heap_setCell_same w rb 0 _ 61 x h
  have h2 := heap_setCell_same _ rb 1 _ 61 y h1
  rw [h2]
  rfl
theorem two_below (w : World) (B rb : Nat) (h : B ≤ rb) (x y : Value) : Below B w ((w.setCell ⟨rb, 0, none⟩ x).setCell ⟨rb, 1, none⟩ y) :=
  ((Below.refl B w).setCell (p := ⟨rb, 0, none⟩) h _).setCell (p := ⟨rb, 1, none⟩) h _
theorem two_other (w : World) (rb k : Nat) (x y : Value) (h : k ≠ rb) : ((w.setCell ⟨rb, 0, none⟩ x).setCell ⟨rb, 1, none⟩ y).heap[k]? = w.heap[k]? :=
  (heap_setCell_other _ ⟨rb, 1, none⟩ k y h).trans (heap_setCell_other w ⟨rb, 0, none⟩ k x h)
theorem farJ {B ob rb : Nat} {vn vx : Value} {w w' : World} {na xa : Option Addr} {j : J} (hb : Below w.heap.size w w') (h : JD w (Far B ob rb vn vx w) na xa j) : JD w' (Far B ob rb vn vx w') na xa j :=
  JD.keep (fun k q => hb.block k q.2.1) (fun k q => ⟨q.1, Nat.lt_of_lt_of_le q.2.1 hb.size, q.2.2⟩) _ h
/-- What an object comes to. -/
theorem ObS.out {B ob rb : Nat} {w : World} {ns : List Bs} {its : List It} {an : Option Addr} {cn : Nat} {ax : Option Addr} {cx : Nat} (h : ObS B ob rb w ns its (.slice an ns.length cn) (.slice ax its.length cx)) (hl : ns.length ≤ 1000000) (x y : Value) (W : World) (hW : W = (w.setCell ⟨rb, 0, none⟩ x).setCell ⟨rb, 1, none⟩ y) :
    ND W (fun k => B ≤ k ∧ k < W.heap.size) an ns ∧ its.length ≤ maxLen ∧ (0 < its.length → ∃ b o, ax = some ⟨b, o, none⟩ ∧ (B ≤ b ∧ b < W.heap.size) ∧ JDs W (fun k => B ≤ k ∧ k < W.heap.size) b o (its.map It.j)) := by
  have hk : ∀ k, k ≠ rb → W.heap[k]? = w.heap[k]? := fun k q => by rw [hW]; exact two_other w rb k x y q
  have hsz : W.heap.size = w.heap.size := by rw [hW]; simp [World.setCell]
  have hN := owns_move h.names (w' := W) (fun k q => hk k (fun e => h.n_rb (e ▸ q)))
  have hX := owns_move h.items (w' := W) (fun k q => hk k (fun e => h.x_rb (e ▸ q)))
  have hR : Row B W (.slice ax its.length cx) its := ⟨hX, fun z hz => JD.keep (fun k q => hk k q.2.2.2.1) (fun k q => ⟨q.1, by rw [hsz]; exact q.2.1, q.2.2.2.2.2⟩) _ (h.foot z hz)⟩
  obtain ⟨a', c', e, hnm, hfar⟩ := names_nms hN hl h.short
  cases e
  obtain ⟨xa, xc, e, hml, hit⟩ := hR.out
  cases e
  exact ⟨⟨hnm, hfar⟩, hml, hit⟩
set_option maxHeartbeats 32000000 in
set_option maxRecDepth 20000 in
theorem object_any (f : Nat) (IH : ∀ g, g < f → VC g) (d : Nat) (hd : d ≤ 16) (b : Nat) (s r : Bs) (w : World) (h : RAt b s r w) (hE : Env w) (hb3 : 3 ≤ b) (hr : r ≠ []) (hno : ∀ er, obj f d r = .error er → er.1 ≠ 99) :
    Calls Tryd.prog 45 #[.pointer (some ⟨b, 0, none⟩), .int .i64 d] w (PO b s w (obj f d r) (okO b s w)) := by
  obtain ⟨wA, hwA⟩ : ∃ wA, w.alloc (.cells #[.slice none 0 0, .slice none 0 0] 61) = wA := ⟨_, rfl⟩
  have bA : Below w.heap.size w wA := by rw [← hwA]; exact (Below.refl _ _).alloc (Nat.le_refl _) _
  have rA : wA.heap[w.heap.size]? = some (.cells #[.slice none 0 0, .slice none 0 0] 61 (0, 0)) := by rw [← hwA]; exact heap_alloc_new w _
  have HEn := hide (enter_any d hd b s r wA (h.keep bA) hr)
  have HOA := hide (Onl.of_below (b := b) bA)
  have HE := hide hE
  have HNO := hide hno
  have HIH := hide IH
  have hbw := h.lt
  have hsl := h.le
  have HRA := hide rA
  have HR0 := hide (show r ≠ [] from hr)
  clear h hE hno IH hr bA rA
  go_enter Tryd.func45, Tryd.ntmps45
  go_wp2_with fail
  clear hwA
  refine (unhide HEn).mono ?_
  rintro e w1 ⟨o1, he⟩
  cases hx : ent d r with
  | error er =>
    rw [hx] at he
    subst he
    have HX := hide (show obj f d r = .error er by
      unfold ent at hx
      unfold obj
      split at hx
      · rename_i q; rw [if_pos q]; cases hx; rfl
      · cases hx)
    have O1 := hide ((unhide HOA).trans o1)
    clear hx HEn o1
    go_wp2_with fail
    exact ⟨rfl, PO.bad (unhide HX) (unhide O1) rfl⟩
  | ok r1 =>
    rw [hx] at he
    obtain ⟨rfl, h1⟩ := he
    have hd16 : ¬ d = 16 := by
      intro q
      rw [ent, if_pos q] at hx
      cases hx
    have hr1 : sk r.tail = r1 := by
      rw [ent, if_neg hd16] at hx
      cases hx
      rfl
    have HL0 := hide (show obj f d r = if r1.headD 0 = 125 then .ok ([], [], r1.tail) else mem f (d + 1) [] [] r1 by unfold obj; rw [if_neg hd16, hr1])
    have hl1 := h1.len
    have hrl : w.heap.size < wA.heap.size := lt_of_row (unhide HRA)
    have HR1 := hide ((o1.block w.heap.size hrl (by omega)).trans (unhide HRA))
    have O1 := hide ((unhide HOA).trans o1)
    have hs1 : w.heap.size < w1.heap.size := Nat.lt_of_lt_of_le hrl o1.size
    obtain ⟨w2, hw2⟩ : ∃ w2, w1.alloc (.cells #[.slice none 0 0, .slice none 0 0] 61) = w2 := ⟨_, rfl⟩
    have b2 : Below w1.heap.size w1 w2 := by rw [← hw2]; exact (Below.refl _ _).alloc (Nat.le_refl _) _
    have HOb := hide (show ObS w.heap.size w1.heap.size w.heap.size w2 [] [] (.slice none 0 0) (.slice none 0 0) from
      ⟨by omega, Nat.le_refl _, by omega, by rw [← hw2]; exact heap_alloc_new w1 _, (b2.block _ hs1).trans (unhide HR1), World.ownsRow_nil _ _ _ _, World.ownsRow_nil _ _ _ _, fun x hx => absurd hx (by simp), fun a ha => absurd ha (by simp)⟩)
    have H2 := hide (h1.keep b2)
    have O2 := hide ((unhide O1).trans (Onl.of_below (b := b) b2))
    have HT := hide (take_any 125 (by decide) b s r1 w2 (unhide H2))
    clear hx hr1 h1 o1 HEn b2 HR1 O1 HOA HRA
    by_cases hh : r1.headD 0 = 125
    · rw [decide_eq_true hh, show tk 125 r1 = r1.tail by unfold tk; rw [if_pos hh]] at HT
      have HX := hide (show obj f d r = .ok ([], [], r1.tail) by rw [unhide HL0, if_pos hh])
      clear hh HL0
      go_wp2_with fail
      try simp only [hw2]
      clear hw2
      refine (unhide HT).mono ?_
      rintro e w3 ⟨rfl, h3, o3⟩
      have HOb3 := hide ((unhide HOb).onl o3 (by omega))
      have H3 := hide h3
      have O3 := hide ((unhide O2).trans o3)
      have c0 : w3.cell? ⟨w1.heap.size, 0, none⟩ = some (.slice none 0 0) := by rw [cell_at (unhide HOb3).box]; rfl
      have c1 : w3.cell? ⟨w1.heap.size, 1, none⟩ = some (.slice none 0 0) := by rw [cell_at (unhide HOb3).box]; rfl
      have e0 : w3.cell? ⟨w.heap.size, 0, none⟩ = some (.slice none 0 0) := by rw [cell_at (unhide HOb3).res]; rfl
      have e1 : w3.cell? ⟨w.heap.size, 1, none⟩ = some (.slice none 0 0) := by rw [cell_at (unhide HOb3).res]; rfl
      have d0 := frz (unhide HOb3).res 0
      have d1 := frz (unhide HOb3).res 1
      clear h3 o3 HT H2 O2 HOb
      go_wp2_with fail
      refine bodyPost_ret (v := .agg #[.slice none 0 0, .slice none 0 0]) (results_cell_row Tryd.results45 _ _ w.heap.size 61 _ (0, 0) _ rfl (two_set (unhide HOb3).res _ _) Tryd.underlying61 rfl (by kernel_rfl)) rfl ?_
      have hb9 := two_below w3 w.heap.size w.heap.size (Nat.le_refl _) (.slice none 0 0) (.slice none 0 0)
      obtain ⟨hnd, hml, hit⟩ := (unhide HOb3).out (by simp) (.slice none 0 0) (.slice none 0 0) _ rfl
      exact PO.ok (unhide HX) ((unhide O3).under hb9 (Nat.le_refl _)) ⟨⟨none, 0, none, 0, rfl, hnd, hml, hit⟩, (unhide H3).under hb9 (by omega)⟩
    · rw [decide_eq_false hh, tk_no hh] at HT
      have HX := hide (show obj f d r = mem f (d + 1) [] [] r1 by rw [unhide HL0, if_neg hh])
      clear hh HL0
      obtain ⟨R, hR⟩ : ∃ R, obj f d r = R := ⟨_, rfl⟩
      rw [hR] at HX HNO
      have HRR := hide hR
      clear hR
      go_wp2_with fail
      try simp only [hw2]
      clear hw2
      refine (unhide HT).mono ?_
      rintro e w3 ⟨rfl, h3, o3⟩
      have HOb3 := hide ((unhide HOb).onl o3 (by omega))
      have H3 := hide h3
      have O3 := hide ((unhide O2).trans o3)
      obtain ⟨ob, hob⟩ : ∃ ob, w1.heap.size = ob := ⟨_, rfl⟩
      rw [hob] at HOb3
      try simp only [hob]
      clear h3 o3 HT H2 O2 HOb hob hs1
      go_wp2_with fail
      go_loopg [6] (f + 2) (fun gk v6 wr => ∃ ns its r' m an cn ax cx, v6 = .bool m ∧ RAt b s r' wr ∧ ObS w.heap.size ob w.heap.size wr ns its (.slice an ns.length cn) (.slice ax its.length cx) ∧ Onl b w wr ∧ its.length + r'.length ≤ 4000 ∧ ns.length = its.length ∧ Rs ns ∧
        (m = true → ∃ g, gk = g + 2 ∧ g ≤ f ∧ R = mem g (d + 1) ns (its.map It.j) r') ∧ (m = false → 0 < gk ∧ R = .ok (ns, its.map It.j, r')))
      case atStart => exact ⟨[], [], r1, true, none, 0, none, 0, rfl, unhide H3, unhide HOb3, unhide O3, by simp; omega, rfl, List.Pairwise.nil, fun _ => ⟨f, rfl, Nat.le_refl _, unhide HX⟩, fun q => by cases q⟩
      case round =>
        clear H3 O3 HX HOb3
        obtain ⟨ns, its, r', m, an, cn, ax, cx, rfl, h3, hob, ho, hlen, hnl, hrs, ht, hf⟩ := hrel
        have H3 := hide h3
        have HOb := hide hob
        have HO := hide ho
        have HSz := hide ho.size
        have HNL := hide hnl
        have HRs := hide hrs
        cases m with
        | false =>
          have HX := hide (hf rfl).2
          clear ht hf h3 hob ho hnl hrs
          have c0 : wr.cell? ⟨ob, 0, none⟩ = some (.slice an ns.length cn) := by rw [cell_at (unhide HOb).box]; rfl
          have c1 : wr.cell? ⟨ob, 1, none⟩ = some (.slice ax its.length cx) := by rw [cell_at (unhide HOb).box]; rfl
          have e0 : wr.cell? ⟨w.heap.size, 0, none⟩ = some (.slice none 0 0) := by rw [cell_at (unhide HOb).res]; rfl
          have e1 : wr.cell? ⟨w.heap.size, 1, none⟩ = some (.slice none 0 0) := by rw [cell_at (unhide HOb).res]; rfl
          have d0 := frz (unhide HOb).res 0
          have d1 := frz (unhide HOb).res 1
          go_wp2_with fail
          refine bodyPost_ret (v := .agg #[.slice an ns.length cn, .slice ax its.length cx]) (results_cell_row Tryd.results45 _ _ w.heap.size 61 _ (0, 0) _ rfl (two_set (unhide HOb).res _ _) Tryd.underlying61 rfl (by kernel_rfl)) rfl ?_
          have hb9 := two_below wr w.heap.size w.heap.size (Nat.le_refl _) (.slice an ns.length cn) (.slice ax its.length cx)
          obtain ⟨hnd, hml, hit⟩ := (unhide HOb).out (by have := unhide HNL; omega) (.slice an ns.length cn) (.slice ax its.length cx) _ rfl
          exact PO.ok ((unhide HRR).trans (unhide HX)) ((unhide HO).under hb9 (Nat.le_refl _)) ⟨⟨an, cn, ax, cx, by simp, hnd, by simpa using hml, fun h0 => hit (by simpa using h0)⟩, (unhide H3).under hb9 (by omega)⟩
        | true =>
          obtain ⟨g, rfl, hg, hRg⟩ := ht rfl
          clear ht hf hob ho hnl hrs
          cases g with
          | zero => exact absurd rfl (unhide HNO (99, 0) (by rw [hRg, mem]))
          | succ g =>
          have HG := hide ((hRg).trans (mem_mr g (d + 1) ns (its.map It.j) r'))
          have HV := hide (letters_any b s r' wr h3 ((unhide HO).env (unhide HE) hb3) hb3)
          clear hRg h3
          go_wp2_with fail
          refine (unhide HV).mono ?_
          rintro e w4 ⟨o4, he⟩
          cases hv : letters r' with
          | error er =>
            rw [hv] at he
            subst he
            have HX2 := hide (show R = .error er by rw [unhide HG, hv])
            have OX := hide ((unhide HO).trans o4)
            clear hv HG o4 HV
            go_wp2_with fail
            exact ⟨rfl, PO.bad ((unhide HRR).trans (unhide HX2)) (unhide OX) rfl⟩
          | ok x =>
          obtain ⟨a, t⟩ := x
          rw [hv] at he
          obtain ⟨rfl, h4⟩ := he
          simp only at h4
          obtain ⟨-, hal⟩ := letters_ok hv
          have hil := inner_le a
          have HG2 := hide (show R = if a ∈ ns then .error (42, t.length) else match want 34 t with
            | .error e => .error e
            | .ok t1 => match want 58 (sk t1) with
              | .error e => .error e
              | .ok t2 => match val g (d + 1) (sk t2) with
                | .error e => .error e
                | .ok (x, t3) => match mr 125 t3 with
                  | .error e => .error e
                  | .ok (true, t') => mem g (d + 1) (insAt ns (plc ns a) a) (insAt (its.map It.j) (plc ns a) x) t'
                  | .ok (false, t') => .ok (insAt ns (plc ns a) a, insAt (its.map It.j) (plc ns a) x, t') by rw [unhide HG, hv])
          have O4 := hide ((unhide HO).trans o4)
          have HOb4 := hide ((unhide HOb).onl o4 (by omega))
          have H4 := hide h4
          have c0 : w4.cell? ⟨ob, 0, none⟩ = some (.slice an ns.length cn) := by rw [cell_at (unhide HOb4).box]; rfl
          have HNm := hide (show Nms w4 an ns by
            obtain ⟨a', c', e, hnm, -⟩ := names_nms (unhide HOb4).names (by have := unhide HNL; omega) (unhide HOb4).short
            cases e
            exact hnm)
          have HS := hide (search_any an ns cn a w4 (unhide HNm) (unhide HRs) (by have := unhide HNL; omega))
          clear hv HV HG o4 h4 HOb HO H3
          by_cases hm : a ∈ ns
          · rw [decide_eq_true hm] at HS
            have HX2 := hide (show R = .error (42, t.length) by rw [unhide HG2, if_pos hm])
            clear hm HG2
            go_wp2_with fail
            refine (unhide HS).mono ?_
            rintro e w5 ⟨rfl, q, rfl⟩
            have HF := hide (fail_any 42 b s t (w4.drewN q) ((unhide H4).drewN q))
            have O5 := hide ((unhide O4).trans (Onl.drewN b w4 q))
            generalize w4.drewN q = w5 at *
            clear HS c0 H4 O4 HNm HOb4
            go_wp2_with fail
            refine (unhide HF).mono ?_
            rintro e w6 ⟨rfl, rfl⟩
            go_wp2_with fail
            exact ⟨rfl, PO.bad ((unhide HRR).trans (unhide HX2)) (unhide O5) rfl⟩
          rw [decide_eq_false hm] at HS
          have HMem := hide hm
          have HG3 := hide (show R = match want 34 t with
            | .error e => .error e
            | .ok t1 => match want 58 (sk t1) with
              | .error e => .error e
              | .ok t2 => match val g (d + 1) (sk t2) with
                | .error e => .error e
                | .ok (x, t3) => match mr 125 t3 with
                  | .error e => .error e
                  | .ok (true, t') => mem g (d + 1) (insAt ns (plc ns a) a) (insAt (its.map It.j) (plc ns a) x) t'
                  | .ok (false, t') => .ok (insAt ns (plc ns a) a, insAt (its.map It.j) (plc ns a) x, t') by rw [unhide HG2, if_neg hm])
          have hplc := plc_le ns a
          obtain ⟨P, hP⟩ : ∃ P, plc ns a = P := ⟨_, rfl⟩
          rw [hP] at HS HG3 hplc
          have HP := hide hP
          clear hm HG2 hP
          go_wp2_with fail
          refine (unhide HS).mono ?_
          rintro e w5 ⟨rfl, q, rfl⟩
          have H5 := hide ((unhide H4).drewN q)
          have O5 := hide ((unhide O4).trans (Onl.drewN b w4 q))
          have HOb5 := hide ((unhide HOb4).onl (Onl.drewN b w4 q) (by omega))
          generalize w4.drewN q = w5 at *
          have HW1 := hide (want_any 34 (by decide) b s t w5 (unhide H5))
          clear HS c0 H4 O4 HNm HOb4
          go_wp2_with fail
          refine (unhide HW1).mono ?_
          rintro e w6 ⟨o6, he⟩
          cases hv : want 34 t with
          | error er =>
            rw [hv] at he
            subst he
            have HX2 := hide (show R = .error er by rw [unhide HG3, hv])
            have OX := hide ((unhide O5).trans o6)
            clear hv HG3 o6 HW1
            go_wp2_with fail
            exact ⟨rfl, PO.bad ((unhide HRR).trans (unhide HX2)) (unhide OX) rfl⟩
          | ok t1 =>
          rw [hv] at he
          obtain ⟨rfl, h6⟩ := he
          have hl6 := want_le hv
          have hk6 := sk_le t1
          obtain ⟨s1, hs1⟩ : ∃ s1, sk t1 = s1 := ⟨_, rfl⟩
          have HG4 := hide (show R = match want 58 s1 with
              | .error e => .error e
              | .ok t2 => match val g (d + 1) (sk t2) with
                | .error e => .error e
                | .ok (x, t3) => match mr 125 t3 with
                  | .error e => .error e
                  | .ok (true, t') => mem g (d + 1) (insAt ns P a) (insAt (its.map It.j) P x) t'
                  | .ok (false, t') => .ok (insAt ns P a, insAt (its.map It.j) P x, t') by rw [unhide HG3, hv, ← hs1])
          have HB7 := hide (blanks_any b s t1 w6 h6)
          rw [hs1] at HB7 hk6
          have O6 := hide ((unhide O5).trans o6)
          have HOb6 := hide ((unhide HOb5).onl o6 (by omega))
          clear hv HG3 HW1 o6 h6 O5 HOb5 H5 hs1
          go_wp2_with fail
          refine (unhide HB7).mono ?_
          rintro e w7 ⟨rfl, h7, o7⟩
          have O7 := hide ((unhide O6).trans o7)
          have HOb7 := hide ((unhide HOb6).onl o7 (by omega))
          have HW2 := hide (want_any 58 (by decide) b s s1 w7 h7)
          clear HB7 o7 h7 O6 HOb6
          go_wp2_with fail
          refine (unhide HW2).mono ?_
          rintro e w8 ⟨o8, he⟩
          cases hv : want 58 s1 with
          | error er =>
            rw [hv] at he
            subst he
            have HX2 := hide (show R = .error er by rw [unhide HG4, hv])
            have OX := hide ((unhide O7).trans o8)
            clear hv HG4 o8 HW2
            go_wp2_with fail
            exact ⟨rfl, PO.bad ((unhide HRR).trans (unhide HX2)) (unhide OX) rfl⟩
          | ok t2 =>
          rw [hv] at he
          obtain ⟨rfl, h8⟩ := he
          have hl8 := want_le hv
          have hk8 := sk_le t2
          obtain ⟨s2, hs2⟩ : ∃ s2, sk t2 = s2 := ⟨_, rfl⟩
          have HG5 := hide (show R = match val g (d + 1) s2 with
                | .error e => .error e
                | .ok (x, t3) => match mr 125 t3 with
                  | .error e => .error e
                  | .ok (true, t') => mem g (d + 1) (insAt ns P a) (insAt (its.map It.j) P x) t'
                  | .ok (false, t') => .ok (insAt ns P a, insAt (its.map It.j) P x, t') by rw [unhide HG4, hv, ← hs2])
          have HB9 := hide (blanks_any b s t2 w8 h8)
          rw [hs2] at HB9 hk8
          have O8 := hide ((unhide O7).trans o8)
          have HOb8 := hide ((unhide HOb7).onl o8 (by omega))
          clear hv HG4 HW2 o8 h8 O7 HOb7 hs2
          go_wp2_with fail
          refine (unhide HB9).mono ?_
          rintro e w9 ⟨rfl, h9, o9⟩
          have O9 := hide ((unhide O8).trans o9)
          have HOb9 := hide ((unhide HOb8).onl o9 (by omega))
          have hsz9 := (unhide O9).size
          have HVl := hide (unhide HIH g (by omega) (d + 1) b s s2 w9 (by omega) h9 ((unhide O9).env (unhide HE) hb3) hb3 (fun er q => unhide HNO er (by rw [unhide HG5, q])))
          rw [show ((d + 1 : Nat) : Int) = (d : Int) + 1 by omega] at HVl
          clear HB9 o9 h9 O8 HOb8
          go_wp2_with fail
          refine (unhide HVl).mono ?_
          rintro e w10 ⟨o10, he⟩
          cases hv : val g (d + 1) s2 with
          | error er =>
            rw [hv] at he
            subst he
            have HX2 := hide (show R = .error er by rw [unhide HG5, hv])
            have OX := hide ((unhide O9).trans o10)
            clear hv HG5 o10 HVl
            go_wp2_with fail
            exact ⟨rfl, PO.bad ((unhide HRR).trans (unhide HX2)) (unhide OX) rfl⟩
          | ok y =>
          obtain ⟨j, t3⟩ := y
          rw [hv] at he
          obtain ⟨⟨it, hj, rfl, hclo, hjd⟩, h10⟩ := he
          simp only at hj h10
          subst hj
          have hgood := (all_ok g).1 _ _ _ _ hv (by omega)
          have hlt1 : t3.length + 1 ≤ s2.length := by
            have := hgood.2.2
            have := pt_pos it.j
            omega
          have HG6 := hide (show R = match mr 125 t3 with
            | .error e => .error e
            | .ok (true, t') => mem g (d + 1) (insAt ns P a) ((insAt its P it).map It.j) t'
            | .ok (false, t') => .ok (insAt ns P a, (insAt its P it).map It.j, t') by rw [unhide HG5, hv, map_insAt])
          have HC := hide (closed_any hclo w10)
          have O10 := hide ((unhide O9).trans o10)
          have HOb10 := hide ((unhide HOb9).onl o10 (by omega))
          have HJ10 := hide (show JD w10 (Far w.heap.size ob w.heap.size (.slice an ns.length cn) (.slice ax its.length cx) w10) it.na it.xa it.j from
            JD.keep (fun k _ => rfl) (fun k hk => ⟨Nat.le_trans hsz9 hk.1, hk.2, fun q => by have := (unhide HOb9).lt; have := hk.1; omega, fun q => by have := lt_of_row (unhide HOb9).res; have := hk.1; omega,
              fun q => by have := (World.ownsRow.lt (unhide HOb9).names k q).2; have := hk.1; omega, fun q => by have := (World.ownsRow.lt (unhide HOb9).items k q).2; have := hk.1; omega⟩) _ hjd)
          have H10 := hide h10
          clear hv HVl HG5 o10 hjd h10 hgood hclo HOb9 O9
          unfold It.val
          go_wp2_with fail
          refine (unhide HC).mono ?_
          rintro e w11 ⟨rfl, hb11⟩
          have o11 := Onl.of_below (b := b) hb11
          have hJc : ∀ (w' : World), Below w11.heap.size w11 w' → Onl b w w' := fun w' h => ((unhide O10).trans o11).trans (Onl.of_below h)
          obtain ⟨w12, hw12⟩ : ∃ w12, w11.alloc (.cells #[I it.j.k, I it.j.n, S it.j.t, .slice it.na it.j.ns.length it.nc, .slice it.xa it.j.xs.length it.xc] 25) = w12 := ⟨_, rfl⟩
          obtain ⟨w13, hw13⟩ : ∃ w13, w12.alloc (.cells #[S a] 9) = w13 := ⟨_, rfl⟩
          have hb12 : Below w11.heap.size w11 w12 := by rw [← hw12]; exact (Below.refl _ _).alloc (Nat.le_refl _) _
          have hb13 : Below w12.heap.size w12 w13 := by rw [← hw13]; exact (Below.refl _ _).alloc (Nat.le_refl _) _
          have hb113 : Below w11.heap.size w11 w13 := hb12.trans (hb13.mono hb12.size)
          have hjb : w12.heap[w11.heap.size]? = some (.cells #[I it.j.k, I it.j.n, S it.j.t, .slice it.na it.j.ns.length it.nc, .slice it.xa it.j.xs.length it.xc] 25 (0, 0)) := by rw [← hw12]; exact heap_alloc_new w11 _
          have hvb : w13.heap[w12.heap.size]? = some (.cells (encS a).toArray 9 (0, 0)) := by rw [← hw13]; exact heap_alloc_new w12 _
          have hOb11 := (unhide HOb10).onl o11 (by omega)
          have hOb13 := hOb11.onl (Onl.of_below (b := b) hb113) (by omega)
          have hsz10 := (unhide O10).size
          have hsz11 := hb11.size
          have hsz12 := hb12.size
          have hsz13 := hb13.size
          have hJ13 : JD w13 (Far w.heap.size ob w.heap.size (.slice an ns.length cn) (.slice ax its.length cx) w13) it.na it.xa it.j := farJ (hb11.trans (hb113.mono hb11.size)) (unhide HJ10)
          have h13 : RAt b s t3 w13 := (unhide H10).keep (hb11.trans (hb113.mono hb11.size))
          have o13 : Onl b w w13 := hJc _ hb113
          have hne12 : (Value.slice an ns.length cn).ownBlock ≠ some w12.heap.size := fun q => by
            have := (World.ownsRow.lt hOb11.names _ q).2
            omega
          have hjbF : Far w.heap.size ob w.heap.size (.slice an ns.length cn) (.slice ax its.length cx) w13 w11.heap.size :=
            ⟨by omega, by have := lt_of_row hjb; omega, fun q => by have := hOb11.lt; omega, fun q => by have := lt_of_row hOb11.res; omega,
              fun q => by have := (World.ownsRow.lt hOb11.names _ q).2; omega, fun q => by have := (World.ownsRow.lt hOb11.items _ q).2; omega⟩
          have hnsl : ns.length ≤ 1000000 := by have := unhide HNL; omega
          have HIn := hide (insertS_any (.slice an ns.length cn) ns P a w12.heap.size w13 (B := w.heap.size) (by omega) hOb13.names hvb hnsl hplc hne12)
          have c0 : w12.cell? ⟨ob, 0, none⟩ = some (.slice an ns.length cn) := by rw [cell_at (hOb11.onl (Onl.of_below (b := b) hb12) (by omega)).box]; rfl
          have HJB := hide ((hb13.block _ (lt_of_row hjb)).trans hjb)
          have HOb13 := hide hOb13
          have H13 := hide h13
          have O13 := hide o13
          have HJ13 := hide hJ13
          have HJF := hide hjbF
          clear hb11 o11 hJc hb12 hb13 hb113 hjb hvb hOb11 hOb13 hJ13 h13 o13 hne12 hjbF HC H10 O10 HOb10 HJ10
          unfold vJ
          go_wp2_with fail
          try simp only [hw12, hw13]
          clear hw12 hw13
          refine (unhide HIn).mono ?_
          rintro e w14 ⟨V, rfl, hins⟩
          have hshort : ∀ y ∈ insAt ns P a, y.length ≤ 20000 := fun y hy => by
            rcases mem_insAt.1 hy with rfl | hy
            · omega
            · exact (unhide HOb13).short y hy
          obtain ⟨an2, cn2, rfl, -, -⟩ := names_nms hins.1 (by rw [len_insAt]; have := unhide HNL; omega) hshort
          have hbox14 : w14.heap[ob]? = some (.cells #[.slice an ns.length cn, .slice ax its.length cx] 61 (0, 0)) := (hins.2.1.block ob (unhide HOb13).lt (unhide HOb13).n_ob).trans (unhide HOb13).box
          have c14 : w14.cell? ⟨ob, 0, none⟩ = some (.slice an ns.length cn) := by rw [cell_at hbox14]; rfl
          have z14 := frz hbox14 0
          obtain ⟨hOb15, hb15, hfar⟩ := (unhide HOb13).name hins hshort
          have hJ15 := JD.keep (D' := Far w.heap.size ob w.heap.size (.slice an2 (insAt ns P a).length cn2) (.slice ax its.length cx) (w14.setCell ⟨ob, 0, none⟩ (.slice an2 (insAt ns P a).length cn2))) (fun k q => (hfar k q).1) (fun k q => (hfar k q).2) _ (unhide HJ13)
          have hjb15 := ((hfar _ (unhide HJF)).1).trans (unhide HJB)
          have hjF15 := (hfar _ (unhide HJF)).2
          have h15 := (unhide H13).under hb15 (by omega)
          have o15 := (unhide O13).under hb15 (Nat.le_refl _)
          obtain ⟨w15, hw15⟩ : ∃ w15, w14.setCell ⟨ob, 0, none⟩ (.slice an2 (insAt ns P a).length cn2) = w15 := ⟨_, rfl⟩
          rw [hw15] at hOb15 hJ15 hjb15 hjF15 h15 o15
          have hsz15 : w13.heap.size ≤ w15.heap.size := by rw [← hw15]; exact hb15.size
          have c1 : w15.cell? ⟨ob, 1, none⟩ = some (.slice ax its.length cx) := by rw [cell_at hOb15.box]; rfl
          have e0 : w15.cell? ⟨w11.heap.size, 0, none⟩ = some (I it.j.k) := by rw [cell_at hjb15]; rfl
          have e1 : w15.cell? ⟨w11.heap.size, 1, none⟩ = some (I it.j.n) := by rw [cell_at hjb15]; rfl
          have e2 : w15.cell? ⟨w11.heap.size, 2, none⟩ = some (S it.j.t) := by rw [cell_at hjb15]; rfl
          have e3 : w15.cell? ⟨w11.heap.size, 3, none⟩ = some (.slice it.na it.j.ns.length it.nc) := by rw [cell_at hjb15]; rfl
          have e4 : w15.cell? ⟨w11.heap.size, 4, none⟩ = some (.slice it.xa it.j.xs.length it.xc) := by rw [cell_at hjb15]; rfl
          obtain ⟨w16, hw16⟩ : ∃ w16, w15.alloc (.cells #[I it.j.k, I it.j.n, S it.j.t, .slice it.na it.j.ns.length it.nc, .slice it.xa it.j.xs.length it.xc] 25) = w16 := ⟨_, rfl⟩
          have hb16 : Below w15.heap.size w15 w16 := by rw [← hw16]; exact (Below.refl _ _).alloc (Nat.le_refl _) _
          have hvb16 : w16.heap[w15.heap.size]? = some (.cells it.cells.toArray 25 (0, 0)) := by rw [← hw16]; exact heap_alloc_new w15 _
          have hOb16 := hOb15.onl (Onl.of_below (b := b) hb16) (by omega)
          have hsz16 := hb16.size
          have hne15 : (Value.slice ax its.length cx).ownBlock ≠ some w15.heap.size := fun q => by
            have := (World.ownsRow.lt hOb15.items _ q).2
            omega
          have HIn2 := hide (insertJ_any (.slice ax its.length cx) its P it w15.heap.size w16 (B := w.heap.size) (by have := o15.size; omega) hOb16.items hvb16 (by have := unhide HNL; omega) (by have := unhide HNL; omega) hne15)
          have HOb16 := hide hOb16
          have HJ16 := hide (farJ hb16 hJ15)
          have H16 := hide (h15.keep hb16)
          have O16 := hide (o15.trans (Onl.of_below hb16))
          clear hins hshort hbox14 hOb15 hb15 hfar hJ15 hjb15 hjF15 h15 o15 hb16 hvb16 hOb16 hne15 HOb13 H13 O13 HJ13 HJF HJB HIn
          go_wp2_with fail
          try simp only [hw15, hw16]
          clear hw15 hw16
          refine (unhide HIn2).mono ?_
          rintro e w17 ⟨V2, rfl, hins⟩
          obtain ⟨ax2, cx2, rfl⟩ := owns_form hins.1
          have hbox17 : w17.heap[ob]? = some (.cells #[.slice an2 (insAt ns P a).length cn2, .slice ax its.length cx] 61 (0, 0)) := (hins.2.1.block ob (unhide HOb16).lt (unhide HOb16).x_ob).trans (unhide HOb16).box
          have c17 : w17.cell? ⟨ob, 1, none⟩ = some (.slice ax its.length cx) := by rw [cell_at hbox17]; rfl
          have z17 := frz hbox17 1
          obtain ⟨hOb18, hb18⟩ := (unhide HOb16).item hins (unhide HJ16)
          have h18 := (unhide H16).under hb18 (by omega)
          have o18 := (unhide O16).under hb18 (Nat.le_refl _)
          obtain ⟨w18, hw18⟩ : ∃ w18, w17.setCell ⟨ob, 1, none⟩ (.slice ax2 (insAt its P it).length cx2) = w18 := ⟨_, rfl⟩
          rw [hw18] at hOb18 h18 o18
          have HM := hide (more_any 125 (by decide) b s t3 w18 h18)
          have HOb18 := hide hOb18
          have O18 := hide o18
          clear hins hbox17 hOb18 hb18 h18 o18 HOb16 HJ16 H16 O16 HIn2 c0 c1 e0 e1 e2 e3 e4 c14 z14
          go_wp2_with fail
          try simp only [hw18]
          clear hw18 c17 z17
          refine (unhide HM).mono ?_
          rintro e w19 ⟨o19, he⟩
          cases hv : mr 125 t3 with
          | error er =>
            rw [hv] at he
            subst he
            have HX2 := hide (show R = .error er by rw [unhide HG6, hv])
            have OX := hide ((unhide O18).trans o19)
            clear hv HG6 o19 HM
            go_wp2_with fail
            exact ⟨rfl, PO.bad ((unhide HRR).trans (unhide HX2)) (unhide OX) rfl⟩
          | ok y =>
          obtain ⟨m, t'⟩ := y
          rw [hv] at he
          obtain ⟨rfl, h19⟩ := he
          simp only at h19
          have hml := mr_len hv
          have HG7 := hide (show R = match (m, t') with
            | (true, t') => mem g (d + 1) (insAt ns P a) ((insAt its P it).map It.j) t'
            | (false, t') => .ok (insAt ns P a, (insAt its P it).map It.j, t') by rw [unhide HG6, hv]; cases m <;> rfl)
          have H19 := hide h19
          have HOb19 := hide ((unhide HOb18).onl o19 (by omega))
          have O19 := hide ((unhide O18).trans o19)
          clear hv HM HG6 o19 h19 HOb18 O18
          go_wp2_with fail
          go_roundg (g + 2)
          case measure => omega
          case rel =>
            refine ⟨insAt ns P a, insAt its P it, t', m, an2, cn2, ax2, cx2, rfl, unhide H19, unhide HOb19, unhide O19, by rw [len_insAt]; omega, by rw [len_insAt, len_insAt, unhide HNL], by rw [← unhide HP]; exact rise_ins ns a (unhide HRs) (unhide HMem), fun q => ⟨g, rfl, by omega, ?_⟩, fun q => ⟨by omega, ?_⟩⟩
            · have := unhide HG7
              rw [q] at this
              simpa using this
            · have := unhide HG7
              rw [q] at this
              simpa using this
end Go.Proofs.YtfaahjbkdlkmjaaDoor
