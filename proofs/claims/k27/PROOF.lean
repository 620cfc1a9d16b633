import PyProof.Rows.All
import Wide.All
import OpenK.AllK
import Wide.FinOn
import HandS.ForMost
import HandS.ForExc
import HandS.Small
import HandS.Conv
import HandS.Codes
import HandS.Walk
import HandS.Ends
import HandS.ExcInit
import HandS.ExcField
import HandS.ExcIs
import HandS.TryMany
import HandS.ExcValue
import HandS.RaiseMore
import HandS.IsInst
import PySem.Challenge.RW_carriedparts_k27_errors_and_their_bases
set_option Elab.async false
set_option maxRecDepth 100000
namespace Cp
open PySem L2
def top (i : Nat) : Stmt := PySem.Challenge.pw_carriedparts_k27_errors_and_their_bases.main.body.getD i (.Pass ⟨0, 0, 0, 0⟩)
abbrev sBegun : Stmt := top 33
abbrev sNext : Stmt := top 34
abbrev sTitles : Stmt := top 30
abbrev sSign : Stmt := top 31
abbrev sFrame : Stmt := top 32
abbrev sUnder : Stmt := top 33
abbrev sWord : Stmt := top 34
abbrev sMarks : Stmt := top 35
abbrev sMarked : Stmt := top 36
abbrev sLayout : Stmt := top 37

/-! ### the drawer: a dict of three, with a list -/
abbrev kx (x : Str) : Key := Sum.inr x
def drK (m t : Int) (g : Addr) : List (Key × V) := [(kx "mixed", .int m), (kx "great", .ref g), (kx "turn", .int t)]
def Drw (H : Hp) (d g : Addr) : Prop := ∃ (m t : Int) (gs : List Int), H d = some (.dK (drK m t g)) ∧ H g = some (.lst (gs.map V.int)) ∧ gs.length ≤ 63
/-- all but the drawer's own two objects is kept, and the drawer stands -/
structure Ev (d g : Addr) (H H' : Hp) : Prop where
  kp : ∀ b o, H b = some o → b ≠ d → b ≠ g → H' b = some o
  dr : Drw H' d g
theorem Ev.trans {d g : Addr} {H H1 H2 : Hp} (a : Ev d g H H1) (b : Ev d g H1 H2) : Ev d g H H2 := ⟨fun c o e h1 h2 => b.kp c o (a.kp c o e h1 h2) h1 h2, b.dr⟩
theorem Ev.refl {d g : Addr} {H : Hp} (a : Drw H d g) : Ev d g H H := ⟨fun _ _ e _ _ => e, a⟩
theorem Drw.hd {H : Hp} {d g : Addr} (a : Drw H d g) : ∃ o, H d = some o := by
  obtain ⟨m, t, gs, h, _⟩ := a
  exact ⟨_, h⟩
theorem Drw.hg {H : Hp} {d g : Addr} (a : Drw H d g) : ∃ o, H g = some o := by
  obtain ⟨m, t, gs, _, h, _⟩ := a
  exact ⟨_, h⟩
theorem Ev.free {d g : Addr} {H H' : Hp} (a : Ev d g H H') (x : Drw H d g) {p : Addr} (h : H' p = none) : H p = none := by
  cases q : H p with
  | none => rfl
  | some o =>
    by_cases e1 : p = d
    · subst e1
      obtain ⟨o', h'⟩ := a.dr.hd
      rw [h] at h'
      cases h'
    · by_cases e2 : p = g
      · subst e2
        obtain ⟨o', h'⟩ := a.dr.hg
        rw [h] at h'
        cases h'
      · rw [a.kp p o q e1 e2] at h
        cases h
/-- a new object beside the drawer -/
theorem Ev.new {d g : Addr} {H H' : Hp} (a : Ev d g H H') {p : Addr} {o : HO} (h : H' p = none) : Ev d g H (upd H' p o) := by
  obtain ⟨m, t, gs, h1, h2, h3⟩ := a.dr
  exact ⟨fun b u e e1 e2 => by rw [upd_ne (ne_of_none (a.kp b u e e1 e2) h)]; exact a.kp b u e e1 e2,
    m, t, gs, by rw [upd_ne (ne_of_none h1 h)]; exact h1, by rw [upd_ne (ne_of_none h2 h)]; exact h2, h3⟩

theorem n_mg : ¬ (("mixed" : Str) = "great") := by decide +kernel
theorem n_mt : ¬ (("mixed" : Str) = "turn") := by decide +kernel
theorem n_gm : ¬ (("great" : Str) = "mixed") := by decide +kernel
theorem n_gt : ¬ (("great" : Str) = "turn") := by decide +kernel
theorem n_tm : ¬ (("turn" : Str) = "mixed") := by decide +kernel
theorem n_tg : ¬ (("turn" : Str) = "great") := by decide +kernel
theorem kne {x y : Str} (h : ¬ x = y) : ¬ (kx x = kx y) := fun q => h (Sum.inr.inj q)
theorem dr_mixed (m t : Int) (g : Addr) : valV (drK m t g) (kx "mixed") = some (.int m) := by
  unfold drK
  exact valV_pos (p := (kx "mixed", V.int m)) rfl
theorem dr_great (m t : Int) (g : Addr) : valV (drK m t g) (kx "great") = some (.ref g) := by
  unfold drK
  rw [valV_neg (p := (kx "mixed", V.int m)) (kne n_mg)]
  exact valV_pos (p := (kx "great", V.ref g)) rfl
theorem dr_turn (m t : Int) (g : Addr) : valV (drK m t g) (kx "turn") = some (.int t) := by
  unfold drK
  rw [valV_neg (p := (kx "mixed", V.int m)) (kne n_mt), valV_neg (p := (kx "great", V.ref g)) (kne n_gt)]
  exact valV_pos (p := (kx "turn", V.int t)) rfl
theorem dr_put_turn (m t u : Int) (g : Addr) : putK (drK m t g) (kx "turn") (.int u) = drK m u g := by
  unfold putK
  rw [valV_any, dr_turn, if_pos (show (some (V.int t)).isSome = true from rfl)]
  unfold drK
  simp only [List.map_cons, List.map_nil]
  rw [if_neg (kne n_mt), if_neg (kne n_gt), if_pos trivial]
theorem dr_put_mixed (m t u : Int) (g : Addr) : putK (drK m t g) (kx "mixed") (.int u) = drK u t g := by
  unfold putK
  rw [valV_any, dr_mixed, if_pos (show (some (V.int m)).isSome = true from rfl)]
  unfold drK
  simp only [List.map_cons, List.map_nil]
  rw [if_neg (kne n_gm), if_neg (kne n_tm), if_pos trivial]
theorem get_turn {H : Hp} {d g : Addr} {m t : Int} (hd : H d = some (.dK (drK m t g))) : DGet H d (.str "turn") (some (.int t)) := by
  have q := DGet.k (k := kx "turn") hd
  rw [dr_turn] at q
  exact q
theorem get_mixed {H : Hp} {d g : Addr} {m t : Int} (hd : H d = some (.dK (drK m t g))) : DGet H d (.str "mixed") (some (.int m)) := by
  have q := DGet.k (k := kx "mixed") hd
  rw [dr_mixed] at q
  exact q
theorem get_great {H : Hp} {d g : Addr} {m t : Int} (hd : H d = some (.dK (drK m t g))) : DGet H d (.str "great") (some (.ref g)) := by
  have q := DGet.k (k := kx "great") hd
  rw [dr_great] at q
  exact q
theorem put_turn {H : Hp} {d g : Addr} {m t u : Int} (hd : H d = some (.dK (drK m t g))) : DPut H d (.str "turn") (.int u) (upd H d (.dK (drK m u g))) := by
  have q := DPut.k (k := kx "turn") (v := .int u) hd (by show 3 < sizeLine; decide)
  rw [dr_put_turn] at q
  exact q
theorem put_mixed {H : Hp} {d g : Addr} {m t u : Int} (hd : H d = some (.dK (drK m t g))) : DPut H d (.str "mixed") (.int u) (upd H d (.dK (drK u t g))) := by
  have q := DPut.k (k := kx "mixed") (v := .int u) hd (by show 3 < sizeLine; decide)
  rw [dr_put_mixed] at q
  exact q
theorem upd_keep {H : Hp} {a p : Addr} {o u : HO} (h : H a = some o) (hp : H p = none) : upd H p u a = some o := by
  rw [upd_ne (ne_of_none h hp)]
  exact h
theorem gen_val {T : V → Hp → Prop} {H : Hp} {z : Int} (Pz : Int → Prop) (hz : Pz z) (h : ∀ y, Pz y → T (.int y) H) : T (.int z) H := h z hz
theorem fm_nn {x n : Int} (h : 0 < n) : 0 ≤ x.fmod n := by
  rw [Int.fmod_eq_emod_of_nonneg _ (Int.le_of_lt h)]
  exact Int.emod_nonneg _ (by omega)
theorem fm_lt {x n : Int} (h : 0 < n) : x.fmod n < n := by
  rw [Int.fmod_eq_emod_of_nonneg _ (Int.le_of_lt h)]
  exact Int.emod_lt_of_pos _ h
theorem at_ok (x : Int) (L : Nat) : 0 ≤ x.fmod (if (L : Int) > 1 then (L : Int) else 1) ∧ (0 < L → x.fmod (if (L : Int) > 1 then (L : Int) else 1) < L) := by
  by_cases q1 : (L : Int) > 1
  · rw [if_pos q1]
    exact ⟨fm_nn (by omega), fun _ => fm_lt (by omega)⟩
  · rw [if_neg q1]
    exact ⟨fm_nn (by omega), fun q => by have := fm_lt (x := x) (n := 1) (by omega); omega⟩
theorem ixn_of {xs : List V} {z : Int} {j : Nat} (e : z = (j : Int)) (h : j < xs.length) : ixN xs.length z = some j := by
  subst e
  unfold ixN
  rw [if_pos (by omega), if_pos (by omega)]
  rfl
theorem dp_ints {K : PySem.W.Frag} {H : Hp} : ∀ gs : List Int, DpAll K H (gs.map V.int) (gs.map PyData.int)
  | [] => .nil
  | x :: r => .cons (.int x) (dp_ints r)
theorem can_ints : ∀ gs : List Int, PyData.canLayAll0 (gs.map PyData.int) = true
  | [] => by simp [PyData.canLayAll0]
  | x :: r => by simp [PyData.canLayAll0, PyData.canLay0, can_ints r]
theorem dep_ints : ∀ gs : List Int, PyData.depthAll (gs.map PyData.int) = 0
  | [] => by simp [PyData.depthAll]
  | x :: r => by simp [PyData.depthAll, PyData.depth, dep_ints r]
theorem shaped_ints (gs : List Int) : SeqAt.shaped (.list (gs.map PyData.int)) = true := by
  unfold SeqAt.shaped
  simp [PyData.canLay0, can_ints, PyData.depth, dep_ints]
theorem eqv_nil (gs : List Int) : PyData.eqv (.list (gs.map PyData.int)) (.list []) = decide (gs = []) := by
  cases gs with
  | nil => simp [PyData.eqv, PyData.eqvAll]
  | cons x r => simp [PyData.eqv, PyData.eqvAll]
def spNext : Sp := fun vs H Q _ => ∃ (d g : Addr) (n : Int), vs = [.ref d, .int n] ∧ Drw H d g ∧ 0 < n ∧ n < 1073741824 ∧ ∀ (r : Int) (H' : Hp), 0 ≤ r → r < n → Ev d g H H' → Q (.int r) H'
def spBegun (K : PySem.W.Frag) : Sp := fun vs H Q _ => ∃ (a : Addr) (ns : List Int), vs = [.ref a] ∧ SqL K H a (ns.map V.int) ∧ ns.length ≤ 63 ∧
  ∀ (d g : Addr) (H' : Hp), H d = none → H g = none → Drw H' d g → Same H H' → Q (.ref d) H'
structure TB (mg : Str → Option Value) : Prop where
  int : mg "int" = none
  max : mg "max" = none
  min : mg "min" = none
  len : mg "len" = none
  range : mg "range" = none
  enum : mg "enumerate" = none
  tuple : mg "tuple" = none
  list : mg "list" = none
  repr : mg "repr" = none
section
variable {P : Program} {w : World} {K : PySem.W.Frag} {mg : Str → Option Value} {base : Heap}
theorem scNext : FnScope ["draw", "below", "great", "at", "found", "mixed"] ["draw", "below"] (defScope sNext) := ⟨rfl, rfl, rfl, by decide +kernel, rfl, by decide +kernel, by decide +kernel⟩
theorem ok_next {f : Addr} {fd : FuncData} (F : Fun K "_law_next" "_law_next" sNext f fd) (T : TB mg) : FnOk P w K mg base CX0 1 f fd ["draw", "below"] spNext := by
  refine F.ok scNext (fun vs H Q E h => ?_) (fun cdv A outer s H vs Q E hr h => ?_)
  · obtain ⟨d, g, n, rfl, _⟩ := h
    rfl
  · obtain ⟨d, g, n, rfl, D, n0, n1, k⟩ := h
    have hu := hu_of hr
    refine ⟨_, pss_cons (ps_asg (pe_tup (pa_cons (pe_op op_add (pe_dget hu (pv 0) pe_str (fun _ _ => rfl)) pe_int) (pa_cons (pe_dget hu (pv 0) pe_str (fun _ _ => rfl)) pa_nil)))
        (pg_tup (by rfl) (pgs_cons (pg_sub (pv 0) pe_str (set_dict hu)) (pgs_cons (pg_name (i := 2) scNext.nd rfl (.inl rfl)) pgs_nil))))
      (pss_cons (ps_set (i := 3) scNext.nd rfl (.inl rfl) (pe_op op_modN (pe_callTy call_int1 (by rfl) T.int (by decide +kernel) (pa_cons (pe_dget hu (pv 0) pe_str (fun _ _ => rfl)) pa_nil))
          (pe_callB (call_max2 rfl) (by rfl) T.max (by decide +kernel) (pa_cons pe_int (pa_cons (pe_callB call_len_seq (by rfl) T.len PySem.boot_len (pa_cons (pv 2) pa_nil)) pa_nil)))))
      (C8.pss_cut (ps_if (PW.pt (pw_and (pt_cmpR (op_neD hr.units) (pv 2) (pe_lst pa_nil) (nomark _)) (pw_and1 (pt_cmpR op_gt (pe_ix ix_list (pv 2) (pv 3) (fun _ _ => rfl)) pe_int (nomark _)))))
          (pss_cons (ps_set (i := 4) scNext.nd rfl (.inl rfl) (pe_op op_modN (pe_callTy call_int1 (by rfl) T.int (by decide +kernel) (pa_cons (pe_ix ix_list (pv 2) (pv 3) (fun _ _ => rfl)) pa_nil)) (pv 1)))
          (pss_cons (ps_asg (pe_op op_fdivN (pe_ix ix_list (pv 2) (pv 3) (fun _ _ => rfl)) (pv 1)) (pg_sub (pv 2) (pv 3) set_list))
          (pss_one (ps_ret (pv 4))))) pss_nil)
      (pss_cons (ps_set (i := 5) scNext.nd rfl (.inl rfl) (pe_callTy call_int1 (by rfl) T.int (by decide +kernel) (pa_cons
          (pe_op op_add (pe_op op_add (pe_op op_mul (pe_dget hu (pv 0) pe_str (fun _ _ => rfl)) pe_int) (pe_op op_mul pe_int (pe_dget hu (pv 0) pe_str (fun _ _ => rfl)))) pe_int) pa_nil)))
      (pss_cons (ps_dput hu (pv 0) pe_str (pe_op op_mod (pe_callTy call_int1 (by rfl) T.int (by decide +kernel) (pa_cons (pv 5) pa_nil)) pe_int) rfl)
      (pss_one (ps_ret (pe_op op_modN (pe_callTy call_int1 (by rfl) T.int (by decide +kernel) (pa_cons (pe_op op_fdiv (pe_dget hu (pv 0) pe_str (fun _ _ => rfl)) pe_int) pa_nil)) (pv 1)))))))), ?_⟩
    obtain ⟨m, t, gs, hd, hg, hgl⟩ := D
    refine ⟨_, rfl, d, _, rfl, get_turn hd, _, _, rfl, rfl, _, rfl, d, _, rfl, get_great hd, ?_⟩
    refine ⟨by show 2 ≤ sizeLine; decide, fun p hp => ?_⟩
    have ndp : d ≠ p := ne_of_none hd hp
    have ngp : g ≠ p := ne_of_none hg hp
    have ngd : g ≠ d := ne_of hg hd (by intro q; cases q)
    refine ⟨p, _, rfl, SqT.of upd_same, rfl, _, _, rfl, _, rfl, d, _, rfl, put_turn (upd_keep hd hp), _, _, rfl, rfl, ?_⟩
    generalize hH1 : upd (upd H p _) d _ = H1
    have hd1 : H1 d = some (.dK (drK m (t + 1) g)) := by rw [← hH1]; exact upd_same
    have hg1 : H1 g = some (.lst (gs.map V.int)) := by rw [← hH1, upd_ne ngd, upd_ne ngp]; exact hg
    have kp1 : ∀ b o, H b = some o → b ≠ d → b ≠ g → H1 b = some o := fun b o e e1 e2 => by rw [← hH1, upd_ne e1, upd_ne (ne_of_none e hp)]; exact e
    -- at
    refine ⟨_, rfl, d, _, rfl, get_turn hd1, .inl ⟨_, rfl, ?_⟩⟩
    refine ⟨_, rfl, g, _, rfl, .inl (SqL.of hg1), ?_⟩
    refine ⟨_, _, rfl, ?_⟩
    refine ⟨_, _, rfl, rfl, ?_, ?_⟩
    · split <;> omega
    rw [List.length_map]
    have hz := at_ok (t + 1) gs.length
    have hz' := hz
    generalize ez : Int.fmod (t + 1) (if (gs.length : Int) > 1 then (gs.length : Int) else 1) = z at hz'
    obtain ⟨z0, z1⟩ := hz'
    -- the way by the digits, or past it
    refine ⟨fun σ' H' => (∃ x3 x4, σ' = [some (.ref d), some (.int n), some (.ref g), x3, x4, none]) ∧ ∃ gs' : List Int, H' d = some (.dK (drK m (t + 1) g)) ∧ H' g = some (.lst (gs'.map V.int)) ∧ gs'.length ≤ 63 ∧
      ∀ b o, H b = some o → b ≠ d → b ≠ g → H' b = some o, ?_, ?_⟩
    · refine ⟨_, rfl, (by show 0 ≤ sizeLine; decide), fun l hl => ?_⟩
      have hg2 : upd H1 l (.lst []) g = some (.lst (gs.map V.int)) := upd_keep hg1 hl
      have hd2 : upd H1 l (.lst []) d = some (.dK (drK m (t + 1) g)) := upd_keep hd1 hl
      have kp2 : ∀ b o, H b = some o → b ≠ d → b ≠ g → upd H1 l (.lst []) b = some o := fun b o e e1 e2 => upd_keep (kp1 b o e e1 e2) hl
      refine ⟨_, _, .lst (SqL.of hg2) (dp_ints gs), .lst (SqL.of upd_same) .nil, shaped_ints gs, rfl, _, rfl, ?_⟩
      rw [eqv_nil]
      by_cases eg : gs = []
      · rw [decide_eq_true eg]
        refine iteF (iteF ?_)
        exact ⟨⟨_, _, rfl⟩, gs, hd2, hg2, hgl, kp2⟩
      · rw [decide_eq_false eg]
        refine iteT ?_
        have hpos : 0 < gs.length := List.length_pos_iff.mpr eg
        obtain ⟨j, ej⟩ : ∃ j : Nat, z = (j : Int) := ⟨z.toNat, by omega⟩
        have hj : j < gs.length := by have := z1 hpos; omega
        have hat : (gs.map V.int)[j]? = some (.int gs[j]) := by rw [List.getElem?_map, List.getElem?_eq_getElem hj]; rfl
        refine ⟨_, rfl, _, rfl, g, _, _, _, rfl, rfl, SqL.of hg2, at_of (ez.trans ej) hat, _, _, rfl, rfl, _, rfl, ?_⟩
        by_cases hp0 : (0 : Int) < gs[j]
        · rw [decide_eq_true hp0]
          refine iteT ?_
          refine ⟨_, rfl, _, rfl, g, _, _, _, rfl, rfl, SqL.of hg2, at_of (ez.trans ej) hat, .inl ⟨_, rfl, _, rfl, _, _, rfl, rfl, (by omega), ?_⟩⟩
          refine ⟨_, rfl, _, rfl, g, _, _, _, rfl, rfl, SqL.of hg2, at_of (ez.trans ej) hat, _, rfl, _, _, rfl, rfl, ⟨by omega, by omega⟩, _, rfl, _, rfl, g, _, _, j, rfl, rfl, hg2, ixn_of (ez.trans ej) (by rw [List.length_map]; exact hj), _, rfl, ?_⟩
          refine k _ _ (fm_nn n0) (fm_lt n0) ⟨fun b o e e1 e2 => by rw [upd_ne e2]; exact kp2 b o e e1 e2, m, t + 1, gs.set j (gs[j].fdiv n), by rw [upd_ne ngd.symm]; exact hd2, ?_, by rw [List.length_set]; exact hgl⟩
          rw [List.map_set]
          exact upd_same
        · rw [decide_eq_false hp0]
          refine iteF ?_
          exact ⟨⟨_, _, rfl⟩, gs, hd2, hg2, hgl, kp2⟩
    · rintro σ' H2 ⟨⟨x3, x4, rfl⟩, gs', hd2, hg2, hgl2, kp2⟩
      refine ⟨_, rfl, d, _, rfl, get_mixed hd2, _, _, rfl, rfl, .inr (by decide), _, rfl, d, _, rfl, get_turn hd2, _, _, rfl, rfl, .inl (by decide), _, _, rfl, rfl, _, _, rfl, rfl, .inl ⟨_, rfl, ?_⟩⟩
      refine ⟨_, rfl, .inl ⟨_, rfl, _, _, rfl, rfl, (by show (0 : Int) < 2305843009213693951; decide), _, rfl, d, _, rfl, put_mixed hd2, ?_⟩⟩
      refine ⟨_, rfl, d, _, rfl, get_mixed upd_same, _, _, rfl, rfl, (by show (0 : Int) < 32749 ∧ (32749 : Int) < 1073741824; decide), .inl ⟨_, rfl, _, rfl, _, _, rfl, rfl, (by omega), ?_⟩⟩
      exact k _ _ (fm_nn n0) (fm_lt n0) ⟨fun b o e e1 e2 => by rw [upd_ne e1]; exact kp2 b o e e1 e2, _, t + 1, gs', upd_same, by rw [upd_ne ngd]; exact hg2, hgl2⟩
end
end Cp

set_option Elab.async false
set_option maxRecDepth 100000
namespace Cp
open PySem L2
theorem same_upd {H H' : Hp} (e : Same H H') {p : Addr} {o : HO} (h : H' p = none) : Same H (L2.upd H' p o) := fun b u q => by
  rw [upd_ne (ne_of_none (e b u q) h)]
  exact e b u q
theorem int_at {ns : List Int} {i : Nat} {y : V} (hi : (ns.map V.int)[i]? = some y) : ∃ z, y = V.int z := by
  rw [List.getElem?_map] at hi
  cases e : ns[i]? with
  | none =>
    rw [e] at hi
    cases hi
  | some z =>
    rw [e] at hi
    exact ⟨z, (Option.some.inj hi).symm⟩
theorem mk_dr (m t : Int) (g : Addr) : mergeK [] (drK m t g) = drK m t g := by
  have e1 : putK ([] : List (Key × V)) (kx "mixed") (.int m) = [(kx "mixed", .int m)] := putK_new _ valV_nil
  have e2 : putK [(kx "mixed", V.int m)] (kx "great") (.ref g) = [(kx "mixed", .int m), (kx "great", .ref g)] := putK_new _ (by rw [valV_neg (p := (kx "mixed", V.int m)) (kne n_mg)]; exact valV_nil)
  have e3 : putK [(kx "mixed", V.int m), (kx "great", .ref g)] (kx "turn") (.int t) = [(kx "mixed", .int m), (kx "great", .ref g), (kx "turn", .int t)] :=
    putK_new _ (by rw [valV_neg (p := (kx "mixed", V.int m)) (kne n_mt), valV_neg (p := (kx "great", V.ref g)) (kne n_gt)]; exact valV_nil)
  unfold mergeK drK
  simp only [List.foldl_cons, List.foldl_nil]
  rw [e1, e2, e3]
section
variable {P : Program} {w : World} {K : PySem.W.Frag} {mg : Str → Option Value} {base : Heap}
theorem scBegun : FnScope ["script", "mixed", "k", "cell"] ["script"] (defScope sBegun) := ⟨rfl, rfl, rfl, by decide +kernel, rfl, by decide +kernel, by decide +kernel⟩
theorem ok_begun {f : Addr} {fd : FuncData} (F : Fun K "_law_begun" "_law_begun" sBegun f fd) (T : TB mg) : FnOk P w K mg base CX0 1 f fd ["script"] (spBegun K) := by
  refine F.ok scBegun (fun vs H Q E h => ?_) (fun cdv A outer s H vs Q E hr h => ?_)
  · obtain ⟨a, ns, rfl, _⟩ := h
    rfl
  · obtain ⟨a, ns, rfl, hS, hlen, k⟩ := h
    have hu := hu_of hr
    refine ⟨_, pss_cons (ps_set (i := 1) scBegun.nd rfl (.inl rfl) (pe_op op_add pe_int (pe_op op_mul pe_int (pe_callB call_len_seq (by rfl) T.len PySem.boot_len (pa_cons (pv 0) pa_nil)))))
      (pss_cons (ps_for PassesOwn.never rfl (pi_enum (by rfl) T.enum (pa_cons (pv 0) pa_nil)) (pg_tup (by rfl) (pgs_cons (pg_name (i := 2) scBegun.nd rfl (.inl rfl)) (pgs_cons (pg_name (i := 3) scBegun.nd rfl (.inl rfl)) pgs_nil)))
        (pss_one (ps_set (i := 1) scBegun.nd rfl (.inl rfl) (pe_op op_mod (pe_callTy call_int1 (by rfl) T.int (by decide +kernel) (pa_cons
          (pe_op op_add (pe_op op_add (pe_op op_mul (pv 1) pe_int) (pv 3)) (pe_op op_mul pe_int (pv 2))) pa_nil)) pe_int))))
      (pss_one (ps_ret (pe_disp (pps_cons pe_str (pv 1) (pps_cons pe_str
        (pe_lc (own := [("cell", 3)]) (g := gName 3) rfl scBegun.nd (pi_list (pv 0)) (blkOk_by (N := ["script", "mixed", "k", "cell"]) (sc := defScope sBegun) (by decide +kernel)) (fun _ _ _ _ _ => pg_name (i := 3) scBegun.nd rfl (Or.inl rfl))
          (fun _ _ _ _ _ => pts_one (pt_cmpR op_ge (pv 3) (pe_op op_pow pe_int pe_int) (nomark _))) (fun _ _ _ _ _ => pv 3)) (pps_cons pe_str pe_int pps_nil))) rfl rfl (by intro q; cases q) (by decide))))), ?_⟩
    refine ⟨_, rfl, _, _, rfl, .inl hS, _, _, rfl, rfl, .inl (by decide), _, _, rfl, rfl, ?_⟩
    refine ⟨_, rfl, a, _, rfl, hS, for_it (walk_enum (xs := ns.map V.int)) (fun i σ H2 => ∃ m v2 v3, σ = [some (.ref a), some (.int m), v2, v3] ∧ Same H H2) ⟨_, none, none, rfl, Same.refl H⟩ (fun i σ H2 _ ⟨_, _, _, _, s2⟩ => s2.seq hS) ?_ ?_⟩
    · rintro i y σ H2 H3 hi ⟨m, v2, v3, rfl, s2⟩ ⟨t, x1, x2, rfl, ht, rfl, e1, e2⟩
      cases e1
      obtain ⟨z, rfl⟩ := int_at e2
      refine ⟨t, _, rfl, SqT.of upd_same, rfl, _, _, rfl, _, _, rfl, rfl, ?_⟩
      refine ⟨_, rfl, _, _, rfl, rfl, .inr (by decide), _, rfl, _, _, rfl, rfl, _, rfl, _, _, rfl, rfl, .inl (by decide), _, _, rfl, rfl, .inl ⟨_, rfl, _, _, rfl, rfl, (by show (0 : Int) < 2305843009213693951; decide), ?_⟩⟩
      exact ⟨_, _, _, rfl, same_upd s2 ht⟩
    · rintro σ H2 ⟨m, v2, v3, rfl, s2⟩
      intro p hp
      refine ⟨_, rfl, ?_⟩
      refine ⟨_, rfl, a, rfl, ⟨_, (same_upd s2 hp).seq hS⟩, fun D hD => lc_list (xs := ns.map V.int) (fun i H3 => ∃ gs : List Int, H3 D = some (.lst (gs.map V.int)) ∧ gs.length ≤ i ∧ Same (L2.upd H2 p (.dK [])) H3) ⟨[], upd_same, Nat.le_refl _, same_upd (Same.refl _) hD⟩
        (fun i H3 _ ⟨_, _, _, s3⟩ => s3.seq ((same_upd s2 hp).seq hS)) ?_ ?_⟩
      · rintro i y H3 hi ⟨gs, h1, h2, s3⟩
        obtain ⟨z, rfl⟩ := int_at hi
        have hil : i < 63 := by
          have q := (List.getElem?_eq_some_iff.mp hi).1
          rw [List.length_map] at q
          omega
        refine ⟨rfl, _, rfl, _, _, rfl, rfl, ⟨by decide, by decide, by decide⟩, _, _, rfl, rfl, _, rfl, ?_⟩
        refine ite2 (fun _ => ?_) (fun _ => ?_)
        · refine ⟨_, rfl, _, h1, by rw [List.length_map]; exact small1000 (by omega), gs ++ [z], by rw [List.map_append]; exact upd_same, by rw [List.length_append, List.length_singleton]; omega, fun b o e => ?_⟩
          rw [upd_ne (fun q => by rw [q] at e; rw [hD] at e; cases e)]
          exact s3 b o e
        · exact ⟨gs, h1, by omega, s3⟩
      · rintro H3 ⟨gs, h1, h2, s3⟩
        refine ⟨s3 _ _ upd_same, drK m 0 D, rfl, by show 3 ≤ 15; decide, ?_⟩
        rw [mk_dr]
        have hDp : D ≠ p := fun q => by rw [q, upd_same] at hD; cases hD
        have hD0 : H2 D = none := by
          rw [upd_ne hDp] at hD
          exact hD
        rw [List.length_map] at h2
        refine k p D _ (s2.free hp) (s2.free hD0) ⟨m, 0, gs, upd_same, by rw [upd_ne hDp]; exact h1, by omega⟩ fun b o e => ?_
        rw [upd_ne (ne_of_none (s2 b o e) hp)]
        exact s3 b o (upd_keep (s2 b o e) hp)
end
end Cp

set_option Elab.async false
set_option linter.all false
set_option maxRecDepth 100000
/-! ### defs that are promised only where no repr is under way: what repr tells of a tuple hangs on that -/
namespace Cp
open PySem PySem.Spec L2 PyProof.Rows
structure GOk (P : Program) (w : World) (K : PySem.W.Frag) (mg : Str → Option Value) (base : Heap) (CX : CXT) (k : Nat) (f : Addr) (fd : FuncData) (ps : List Str) (sp : Sp) : Prop where
  len : ∀ vs H Q E, sp vs H Q E → vs.length = ps.length
  run : ∀ (A : Around) (outer : List Env) (s : Shared) (H : Hp) (args : Args) (us : List Value) (vs : List V) (Q : VK) (E : XK), A.guards = some [] → Room k A → Env0 P w K mg base A outer s H → BindsTo s fd args (ps.zip us) → Vals vs us →
    sp vs H Q E → codeAny (model P w) A (.call (.ref f) args) (CR CX outer P w H s Q E) s
theorem GOk.of {P : Program} {w : World} {K : PySem.W.Frag} {mg : Str → Option Value} {base : Heap} {CX : CXT} {k : Nat} {f : Addr} {fd : FuncData} {ps : List Str} {sp : Sp} (F : FnOk P w K mg base CX k f fd ps sp) : GOk P w K mg base CX k f fd ps sp :=
  ⟨F.len, fun A outer s H args us vs Q E _ hr e0 hb r h => F.run A outer s H args us vs Q E hr e0 hb r h⟩
theorem deeper_guards {A : Around} {env : Env} : (A.deeper env).guards = A.guards := rfl
section
variable {P : Program} {w : World} {K : PySem.W.Frag} {mg : Str → Option Value} {base : Heap}
/-- a def by its body, the guards known -/
theorem gfun_ok {CX : CXT} {x qual : Str} {st : Stmt} {f : Addr} {fd : FuncData} {N ps : List Str} {k : Nat} {sp : Sp} (F : Fun K x qual st f fd) (S : FnScope N ps (defScope st)) (len : ∀ vs H Q E, sp vs H Q E → vs.length = ps.length)
    (hbody : ∀ (cdv : Value) (A : Around) (outer : List Env) (s : Shared) (H : Hp) (vs : List V) (Q : VK) (E : XK), A.guards = some [] → Room k (A.deeper (envOfC qual (defScope st) s.heap.objs.size f cdv)) → sp vs H Q E →
      ∃ t, PSs (cxOf CX P w K mg base N qual (defScope st) f cdv A outer s H E) (defBody st) t ∧ t { nx := fun _ H' => Q .non H', rt := Q } (start N vs) H) : GOk P w K mg base CX (k + 1) f fd ps sp := by
  obtain ⟨oc, od, kV, doc, pm, an, cdv, ct, osl, efd, hlook, hcode⟩ := F.ex
  subst efd
  constructor
  · exact len
  intro A outer s H args us vs Q E hg hr e0 hb r hsp
  have heq := len _ _ _ _ hsp
  have inK : K.In s.heap := e0.mod.kin.keeps (fun b o e => (e0.bs b o e).1)
  have noL : s.heap.NoLimit := e0.mod.nolimit.keeps (fun b o e => (e0.bs b o e).1)
  have kinds : ∀ y ∈ ps.zip us, (defScope st).names.lookup y.1 = some .local ∨ ((defScope st).names.lookup y.1 = some .cell ∧ ((cellsFrom (s.heap.objs.size + 1) (defScope st).names []).lookup y.1).isSome = true) := by
    intro y hy
    have hp : y.1 ∈ ps := (List.of_mem_zip (show (y.1, y.2) ∈ ps.zip us from hy)).1
    cases S.par y.1 hp with
    | inl q => exact Or.inl q
    | inr q => exact Or.inr ⟨q, PySem.W.cellsFrom_some _ _ _ (Or.inl q)⟩
  refine codeAny_call_function hr.depth (inK _ _ hlook) rfl S.co S.gen rfl (PySem.W.codeRec_of inK hcode) (hb _ _ _ _ ?_)
  refine wpAny_newFunctionEnv_cells S.kind kinds ?_
  intro env henv s1 hin
  subst henv
  refine ⟨noL.keeps hin.toInCall.keep, codeAny_func ?_⟩
  obtain ⟨t, ht, hq⟩ := hbody cdv A outer s H vs Q E hg (hr.deeper _) hsp
  have I := inv_start (CX := CX) (E := E) S hr.hd e0 heq r hin
  have done : ∀ {σ' : L2.St} {H' : Hp} {v : V} {u : Value} {s' : Shared}, Inv (cxOf CX P w K mg base N qual (defScope st) f cdv A outer s H E) [] σ' H' s' → RelV v u → Q v H' → CE outer P w H s Q u s' := by
    intro σ' H' v u s' J rv q
    exact ⟨v, H', J.os, J.bare, J.base, J.hok, rv, q⟩
  refine wpAny_mono (ht.run [] s1 (start N vs) H _ I hq) ?_ (fun e s' hs => hs)
  intro fl s' hs
  match fl, hs with
  | .ret u, hs =>
    obtain ⟨v, σ', H', J, rv, q⟩ := hs
    exact done J rv q
  | .next, hs =>
    obtain ⟨σ', H', J, q⟩ := hs
    exact done (v := .non) (u := .none) J rfl q
  | .brk, hs =>
    obtain ⟨_, _, _, q⟩ := hs
    exact q.elim
  | .cont, hs =>
    obtain ⟨_, _, _, q⟩ := hs
    exact q.elim
end
section
variable {X : Cx} {k : Nat} {f : Addr} {fd : FuncData} {ps : List Str} {sp : Sp} {CX : CXT} {E : XK} {dvs : List V} {ds : List Value}
/-- f(e, ..) of such a def, from a def that knows the guards, too -/
theorem g_call {x : Str} {p pos : Pos} {e : Expr} {es : List Expr} {t : TA} (F : GOk X.prog X.w X.K X.mg X.base CX k f fd ps sp) (hgd : X.A.guards = some []) (hr : Room k X.A) (hg : Gl X x) (hm : X.mg x = some (.ref f)) (hk : PySem.W.keepIn X.K (.ref f) = true)
    (hb : Binds X.K fd ps ds) (hd : Vals dvs ds) (hx : Passes CX X E) (ha : PA X (e :: es) t) (hdb : (x == ("__debug__" : Str)) = false := by decide) (he : starEach (e :: es) X.env = (false, eval e X.env) :: starEach es X.env := by rfl)
    (hpl : (backTo pos (starEach es X.env)).any (·.1) = false := by rfl) : PE X (.Call (.Name x p) (e :: es) [] pos) (tCall sp dvs E t) := by
  constructor
  intro pins s σ H Q I h
  refine wpAny_Call_Name_kw (ld_glob I hg hm ?_ hdb)
  refine PySem.W.callWith_K (h₀ := X.base) I.ok.mod.kin hk (thn (ha.run pos pins s σ H _ I h) ?_) he hpl
  intro us s1 hres
  obtain ⟨vs, H1, I1, r1, q1⟩ := hres
  refine ⟨I1.kIn, ?_⟩
  have r2 : Vals (vs ++ dvs) (us ++ ds) := r1.append hd
  have hlen : (us ++ ds).length = ps.length := by
    rw [← r2.length]
    exact F.len _ _ _ _ q1
  have R := F.run X.A X.stack s1 H1 ⟨us, []⟩ (us ++ ds) (vs ++ dvs) Q E hgd hr I1.env0 (hb s1 us I1.kIn hlen) r2 q1
  refine wpAny_call (codeAny_mono R ?_)
  intro r s' hq
  match r, hq with
  | .error e, hq => exact hx pins σ H1 s1 e s' I1 hq
  | .ok (.ret u), hq => exact I1.after hq
  | .ok .next, hq => exact hq.elim
  | .ok .brk, hq => exact hq.elim
  | .ok .cont, hq => exact hq.elim
/-- repr of data -/
theorem call_reprD (hgd : X.A.guards = some []) (hu : X.A.units + 64 < cLine) : CallR X (.builtin "repr") (fun xs H Q => ∃ (a : Addr) (d : PyData), xs = [.ref a] ∧ Dp X.K H (.ref a) d ∧ d.showable = true ∧ d.hasDict = false ∧ d.depth ≤ 60 ∧ d.shown.length ≤ sizeLine ∧ Q (.str d.shown) H) := by
  intro pins s σ H xs us Q I r h
  obtain ⟨a, d, rfl, hd, h1, h2, h3, h4, q⟩ := h
  obtain ⟨u, rfl, rx⟩ := vals1 r
  cases rx
  obtain ⟨as, rd⟩ := Dp.reads I d (.ref a) _ hd rfl
  refine PySem.repr_of_reads' rd h1 (fun z => by rw [h2] at z; cases z) hgd (by omega) (fun b o e => e) (fun h' u tk hk => ?_) h4
  exact ⟨.str d.shown, H, I.kept hk, ⟨_, rfl⟩, q⟩
end
end Cp

set_option Elab.async false
set_option linter.all false
set_option maxRecDepth 100000
namespace Cp
open PySem PySem.Spec L2 PyProof.Rows
/-- the law's own call, its promise being asked of the caller alone (whose guards are known) -/
theorem blaw_call {P : Program} {w : World} {K : PySem.W.Frag} {mg mb : Str → Option Value} {CX : CXT} {k : Nat} {fa a : Addr} {fd : FuncData} {x : Str} {sp : Sp} {s₁ : Shared} {vs : List Value} {ns : List Int}
    (inK : K.In s₁.heap) (hns : s₁.heap.Ns mainGlobals mg) (hbn : s₁.heap.Ns builtinsNs mb) (hbb : ∀ y : Str, y ≠ "__name__" → mb y = bootBuiltins y) (nolim : s₁.heap.NoLimit) (hgens : s₁.gens = #[])
    (hat : s₁.heap.get? a = some { cls := .type "list", data := .seq vs.toArray }) (hints : IntsAre vs ns) (hsize : ns.length ≤ sizeLine) (hroom : Room k callerA)
    (F : ∀ base : Heap, K.In base → base.Ns mainGlobals mg → (∃ o, base.get? sysModules = some o) → GOk P w K mg base CX k fa fd [x] sp) (seer : s₁.heap.NoSeer) (hbind : ∀ (s : Shared) (u : Value), BindsTo s fd ⟨[u], []⟩ [(x, u)])
    (hsp : ∀ H : Hp, Only H → SqL K H a (ns.map V.int) → sp [.ref a] H (fun v _ => v = .bl true) fun _ _ _ => False)
    (hCX : ∀ H e s', CX [] H s₁ (fun _ _ _ => False) e s' → False) :
    codeAny (model P w) callerA (.call (.ref fa) ⟨[.ref a], []⟩) (fun r s' => r = .ok (.ret (.bool true)) ∧ OldK s₁.heap s'.heap ∧ s'.os = s₁.os ∧ AllBare s'.gens) s₁ := by
  have rel : Vals (ns.map V.int) vs := vals_ints hints
  have hlen := hints.length
  suffices main : ∀ H : Hp, Only H → SqL K H a (ns.map V.int) → HOk P w H s₁.heap → (∀ b, H b ≠ none → b = a ∧ K.lookup a = none) →
      codeAny (model P w) callerA (.call (.ref fa) ⟨[.ref a], []⟩) (fun r s' => r = .ok (.ret (.bool true)) ∧ OldK s₁.heap s'.heap ∧ s'.os = s₁.os ∧ AllBare s'.gens) s₁ by
    rcases hk : K.lookup a with _ | o
    · refine main (fun b => if b = a then some (HO.frz { cls := .type "list", data := .seq vs.toArray } (.lst (ns.map V.int))) else none) (fun b => ?_) (Or.inl (Or.inr ⟨{ cls := .type "list", data := .seq vs.toArray }, if_pos rfl⟩)) (fun b u z => ?_) (fun b z => ?_)
      · by_cases e : b = a
        · exact Or.inr ⟨_, _, if_pos e⟩
        · exact Or.inl (if_neg e)
      · by_cases e : b = a
        · have q := z.symm.trans (if_pos e)
          cases q
          rw [e]
          exact ⟨hat, (by rw [List.length_map]; exact hsize), vs, _, rel, hat⟩
        · have q := z.symm.trans (if_neg e)
          cases q
      · by_cases e : b = a
        · exact ⟨e, hk⟩
        · exact (z (if_neg e)).elim
    · have q := inK a o hk
      rw [hat] at q
      cases q
      exact main (fun _ => none) (fun _ => Or.inl rfl) (Or.inr ⟨_, vs.toArray, _, hk, rfl, rfl, rfl, (by rw [List.size_toArray, hlen]; exact hsize), (by simpa using rel)⟩) (fun b u z => by cases (show (none : Option HO) = some u from z)) (fun b z => (z rfl).elim)
  intro H only hS hok honly
  have keepB : ∀ {b : Addr} {o : Obj}, s₁.heap.get? b = some o → H b = none → (hidT s₁.heap H).get? b = some o := hidT_get
  have dictFree : ∀ {b : Addr} {o : Obj} {es : Array DictEntry} {ep : Nat}, s₁.heap.get? b = some o → o.data = .dict es ep → H b = none := by
    intro b o es ep e hd
    rcases q : H b with _ | u
    · rfl
    · have hb := (honly b (by rw [q]; exact fun z => nomatch z)).1
      rw [hb, hat] at e
      cases e
      exact nomatch hd
  have nsB : ∀ {b : Addr} {m : Str → Option Value}, s₁.heap.Ns b m → (hidT s₁.heap H).Ns b m := by
    intro b m h
    obtain ⟨o, es, ep, e, hd, r⟩ := h
    exact ⟨o, es, ep, keepB e (dictFree e hd), hd, r⟩
  have inB : K.In (hidT s₁.heap H) := by
    intro b o e
    refine keepB (inK b o e) ?_
    rcases q : H b with _ | u
    · rfl
    · obtain ⟨hb, hn⟩ := honly b (by rw [q]; exact fun z => nomatch z)
      rw [hb, hn] at e
      cases e
  have md : Mod K mg (hidT s₁.heap H) := by
    obtain ⟨mc, h1, h2⟩ := nolim
    exact ⟨inB, nsB hns, ⟨mb, nsB hbn, hbb⟩, ⟨mc, nsB h1, h2⟩⟩
  have noFr : ∀ b : Addr, ¬ b ∈ frs [] := fun b z => by cases z
  have env : Env0 P w K mg (hidT s₁.heap H) callerA [] s₁ H := ⟨rfl, md, fun _ _ e => of_hidT e, Nat.le_of_eq (hidT_size _ _), trivial, fun b hb => (noFr b hb).elim, hok, .of_eq hgens⟩
  have mods : ∃ o, (hidT s₁.heap H).get? sysModules = some o := by
    obtain ⟨mm, ⟨o, es, ep, e, hd, _⟩, _⟩ := seer.mods
    exact ⟨o, keepB e (dictFree e hd)⟩
  have R := (F _ inB (nsB hns) mods).run callerA [] s₁ H ⟨[.ref a], []⟩ [.ref a] [.ref a] _ _ rfl hroom env (hbind s₁ (.ref a)) (.cons rfl .nil) (hsp H only hS)
  refine codeAny_mono R ?_
  intro r s' h
  match r, h with
  | .error e, h => exact (hCX H e s' h).elim
  | .ok .next, h => exact h.elim
  | .ok .brk, h => exact h.elim
  | .ok .cont, h => exact h.elim
  | .ok (.ret u), h =>
    obtain ⟨v, H', hos, hbare, hun, hok', hrel, hq⟩ := h
    have hv : v = .bl true := hq
    rw [hv] at hrel
    have hu : u = Value.bool true := hrel
    subst hu
    refine ⟨rfl, OldK.of_keep ?_, hos, hbare⟩
    intro b o e
    rcases only b with z | ⟨ob, xs, z⟩
    · exact hun.keep b o e z (noFr b) (fun q => by cases q)
    · have g1 := (hok b _ z).1
      have g2 := (hok' b _ (hun.frzs b ob _ z)).1
      rw [e] at g1
      cases g1
      exact g2
theorem bwalk_of {l : PySem.W.OpenLaw} {n k : Nat} {q : Program} {loose : List Str} {XP : (Str → Option Value) → Heap → Prop} {YP : World → Heap → Prop} {d : DefRec} {K : Params → PySem.W.Frag} {CX : World → CXT} {sp : World → Sp} {x : Str}
    (hi : importsNone q = true) (hn : l.most = some n) (hn2 : n ≤ sizeLine) (hdf : d.params.defaults = []) (hr : Room k callerA) (hY : ∀ (w : World) (h : Heap), YP w h → (K w.params).In h)
    (F : ∀ (w : World) (mg : Str → Option Value) (fa : Addr) (h : Heap), (K w.params).In h → h.Ns mainGlobals mg → mg d.name = some (.ref fa) → ∃ fd : FuncData, (∀ (s : Shared) (u : Value), BindsTo s fd ⟨[u], []⟩ [(x, u)]) ∧
      ∀ base : Heap, (K w.params).In base → base.Ns mainGlobals mg → (∃ o, base.get? sysModules = some o) → GOk l.prog w (K w.params) mg base (CX w) k fa fd [x] (sp w))
    (hsp : ∀ (w : World) (H : Hp) (a : Addr) (ns : List Int), ns.length ≤ n → Only H → SqL (K w.params) H a (ns.map V.int) → sp w [.ref a] H (fun v _ => v = .bl true) fun _ _ _ => False)
    (hCX : ∀ (w : World) (H : Hp) (s : Shared) (e : Value) (s' : Shared), CX w [] H s (fun _ _ _ => False) e s' → False) :
    PySem.W.WalkO q loose XP YP l.row.toRowW d [] (fun f vs => PySem.call f vs) := by
  refine Att.attach_call hn hdf ?_
  intro w s₀ s₁ mg mb fa o pm cd doc a vs ns G Y ho hd hcd hmg hobj hints hlen hg
  obtain ⟨fd, hb, hF⟩ := F w mg fa s₁.heap (hY w _ Y) G.T.g hmg
  exact blaw_call (hY w _ Y) G.T.g G.T.b G.T.builtins G.T.nolimit hg hobj hints (Nat.le_trans hlen hn2) hr hF (G.T.seer hi) hb (fun H hO hS => hsp w H a ns hlen hO hS) (fun H e s' => hCX w H s₁ e s')
end Cp

set_option Elab.async false
set_option linter.all false
set_option maxRecDepth 100000
namespace Cp
open PySem PySem.Spec L2 PyProof.Rows
/-- a law's end, its promise being over the written part -/
theorem bwalk_K {l : PySem.W.OpenLaw} {n k : Nat} {q : Program} {loose : List Str} {XP : (Str → Option Value) → Heap → Prop} {YP : World → Heap → Prop} {d : DefRec} {K : Params → PySem.W.Frag} {CX : CXT} {sp : PySem.W.Frag → Sp} {x : Str}
    (hi : importsNone q = true) (hn : l.most = some n) (hn2 : n ≤ sizeLine) (hdf : d.params.defaults = []) (hr : Room k callerA) (hY : ∀ (w : World) (h : Heap), YP w h → (K w.params).In h)
    (F : ∀ (w : World) (mg : Str → Option Value) (fa : Addr) (h : Heap), (K w.params).In h → h.Ns mainGlobals mg → mg d.name = some (.ref fa) → ∃ fd : FuncData, (∀ (s : Shared) (u : Value), BindsTo s fd ⟨[u], []⟩ [(x, u)]) ∧
      ∀ base : Heap, (K w.params).In base → base.Ns mainGlobals mg → (∃ o, base.get? sysModules = some o) → GOk l.prog w (K w.params) mg base CX k fa fd [x] (sp (K w.params)))
    (hsp : ∀ (K : PySem.W.Frag) (H : Hp) (a : Addr) (ns : List Int), ns.length ≤ n → SqL K H a (ns.map V.int) → sp K [.ref a] H (fun v _ => v = .bl true) fun _ _ _ => False)
    (hCX : ∀ (H : Hp) (s : Shared) (e : Value) (s' : Shared), CX [] H s (fun _ _ _ => False) e s' → False) :
    PySem.W.WalkO q loose XP YP l.row.toRowW d [] (fun f vs => PySem.call f vs) :=
  bwalk_of (sp := fun w => sp (K w.params)) (CX := fun _ => CX) hi hn hn2 hdf hr hY F (fun w H a ns h _ hS => hsp _ H a ns h hS) (fun _ H s e s' z => hCX H s e s' z)
end Cp

set_option Elab.async false
set_option linter.all false
set_option maxRecDepth 100000
/-! ### try: .. except x as n: caught = n; what is behind it may still read the error: it stays pinned -/
namespace Cp
open PySem PySem.Spec L2 PyProof.Rows
/-- the context in which some more objects are pinned -/
abbrev held (X : Cx) (pn : List (Addr × Obj)) : Cx := { X with pn := pn }
section
variable {X : Cx} {pins : List (Addr × Obj)} {σ : L2.St} {H : Hp} {s : Shared}
theorem held_ok (ok : X.Ok) (pn : List (Addr × Obj)) : (held X pn).Ok where
  mod := ok.mod
  kind := ok.kind
  glob := ok.glob
  blt := ok.blt
  above := ok.above
  inj := ok.inj
  has := ok.has
  cab := ok.cab
  hd := ok.hd
  frames := ok.frames
  stk := ok.stk
  exf := ok.exf
  bs := ok.bs
  bsz := ok.bsz
  noex := ok.noex
  exfs := ok.exfs
  funs := ok.funs
  frf := ok.frf
theorem held_of {a : Addr} {pn : List (Addr × Obj)} (J : Inv (X.suite a pn) [] σ H s) (ok : X.Ok) : Inv (held X pn) [] σ H s where
  ok := held_ok ok pn
  os := J.os
  bare := J.bare
  base := J.base
  loc := J.loc
  cell := J.cell
  free := J.free
  freeC := J.freeC
  pin := J.pin
  hok := J.hok
  len := J.len
theorem unheld {q : Addr × Obj} {more : List (Addr × Obj)} (J : Inv (held X (q :: (X.pn ++ pins))) more σ H s) (ok : X.Ok) : Inv X pins σ H s where
  ok := ok
  os := J.os
  bare := J.bare
  base := J.base
  loc := J.loc
  cell := J.cell
  free := J.free
  freeC := J.freeC
  pin := fun p hp => J.pin p (List.mem_append_left _ (List.mem_cons_of_mem _ hp))
  hok := J.hok
  len := J.len
theorem sp_unheld {q : Addr × Obj} {D : Ends} {f : Flow} (ok : X.Ok) (h : SP (held X (q :: (X.pn ++ pins))) [] D f s) : SP X pins D f s := by
  match f, h with
  | .next, h =>
    obtain ⟨σ1, H1, J, z⟩ := h
    exact ⟨σ1, H1, unheld J ok, z⟩
  | .brk, h =>
    obtain ⟨σ1, H1, J, z⟩ := h
    exact ⟨σ1, H1, unheld J ok, z⟩
  | .cont, h =>
    obtain ⟨σ1, H1, J, z⟩ := h
    exact ⟨σ1, H1, unheld J ok, z⟩
  | .ret u, h =>
    obtain ⟨v, σ1, H1, J, r, z⟩ := h
    exact ⟨v, σ1, H1, unheld J ok, r, z⟩
end
/-- what is wished of an error of the body: behind the suite ue is read, in which the error is still held -/
def wKeep (K : PySem.W.Frag) (c : Value) (i : Nat) (ts ue : Addr → Value → Option Addr → TS) (Wout : WX) (D : Ends) : WX := fun cls d σ H =>
  ∃ b, PySem.W.exmOne K cls c = some b ∧
    (b = true → ∀ a, H a = none → ts a cls d { nx := fun σ1 H1 => ue a cls d D (σ1.set i none) H1, rt := D.rt, bk := fun σ1 H1 => D.bk (σ1.set i none) H1, ct := fun σ1 H1 => D.ct (σ1.set i none) H1 } (σ.set i (some (.ref a))) H) ∧
    (b = false → Wout cls d σ H)
section
variable {X : Cx} {x n : Str} {c : Value} {i : Nat} {body suite rest : List Stmt} {b₀ : Stmt} {np pos pos' : Pos} {tb : WX → TS} {u : TS} {ts ue : Addr → Value → Option Addr → TS} {Wout : WX}
theorem pss_try_keep (hs : X.stack = X.env :: X.outer) (hf : X.env.frame = some X.env.locals) (hN : X.N.Nodup) (hi : X.N[i]? = some n) (hln : X.env.kindOf n = some .local) (hc : Names X x c) (tk : Takes X Wout)
    (hb : ∀ (W : WX) (pn : List (Addr × Obj)) (xe : Value → Shared → Prop), Takes (X.tr pn xe) W → PassesOwn (model X.prog X.w) X.A X.env xe → PSs (X.tr pn xe) body (tb W))
    (hsu : ∀ (a : Addr) (oe : Obj) (cls : Value) (d : Option Addr) (pn : List (Addr × Obj)), Zc cls d oe → (∃ vs, oe.data = .fields vs) → PSs (X.suite a ((a, oe) :: pn)) (b₀ :: suite) (ts a cls d))
    (hrest : PSs X rest u) (hheld : ∀ (a : Addr) (oe : Obj) (cls : Value) (d : Option Addr) (pn : List (Addr × Obj)), Zc cls d oe → (∃ vs, oe.data = .fields vs) → PSs (held X ((a, oe) :: pn)) rest (ue a cls d)) :
    PSs X (.Try body [.ExceptHandler (some (.Name x np)) (some n) (b₀ :: suite) pos'] [] [] pos :: rest) (fun D σ H => tb (wKeep X.K c i ts ue Wout D) { D with nx := u D } σ H) := by
  constructor
  intro pins s σ H D I h
  have ok := I.ok
  have frm : X.A.frames = some (X.env :: X.outer) := by
    rw [ok.frames, hs]
  have locN : Loc X.env.scope n := Or.inl hln
  refine wpAny_execs_cons (wpAny_Try_except ?_)
  have Qn : ∀ (s1 : Shared), (∃ σ1 H1, Inv X pins σ1 H1 s1 ∧ u D σ1 H1) → wpAny (model X.prog X.w) X.A (execs rest X.env) (SP X pins D) X.xe s1 := by
    intro s1 z
    obtain ⟨σ1, H1, J, q⟩ := z
    exact hrest.run pins s1 σ1 H1 D J q
  refine wpAny_mono ((hb (wKeep X.K c i ts ue Wout D) (X.pn ++ pins) _ ?ca PassesOwn.looking).run [] s σ H { D with nx := u D } (I.toTry _) h) ?en (fun e s1 he => he)
  case en =>
    intro f s1 hsp
    match f, hsp with
    | .next, hsp =>
      obtain ⟨σ1, H1, J, q⟩ := hsp
      exact wpAny_execs_nil (Qn _ ⟨σ1, H1, J.ofTry ok, q⟩)
    | .brk, hsp =>
      obtain ⟨σ1, H1, J, q⟩ := hsp
      exact ⟨σ1, H1, J.ofTry ok, q⟩
    | .cont, hsp =>
      obtain ⟨σ1, H1, J, q⟩ := hsp
      exact ⟨σ1, H1, J.ofTry ok, q⟩
    | .ret v1, hsp =>
      obtain ⟨v, σ1, H1, J, r, q⟩ := hsp
      exact ⟨v, σ1, H1, J.ofTry ok, r, q⟩
  case ca =>
    intro ev s2 hx
    obtain ⟨a, B, sI, pinsI, σI, HI, cls, d, ea, JI, kB, upI, skyI, na, osI, bareI, b, hb1, yes, no⟩ := hx
    subst ea
    have J : Inv X pins σI HI sI := JI.ofTry ok
    have sky : Sky B (X.env :: X.outer) a (Zc cls d) X.env.locals s2.heap := by
      rw [← hs]
      exact skyI
    show wpAny (model X.prog X.w) X.A (noteFrame (.ref a) X.env) _ _ _
    refine Sky.land Zc.steady frm hf sky ?_
    intro h3 fl3 up3
    have J3 : Inv X pins σI HI { s2 with heap := h3 } := J.landed kB fl3.1 (upI.trans up3) osI bareI
    obtain ⟨oe3, vs3, he3, hz3, hd3⟩ := fl3.there
    have away : a ∉ frs (X.env :: X.outer) := by
      intro hm
      obtain ⟨_, o', e', hnf⟩ := fl3.2.2.1.mem hm
      rw [he3] at e'
      cases e'
      exact hnf _ hd3
    have awayL : a ≠ X.env.locals := by
      intro z
      refine away (List.mem_filterMap.mpr ⟨X.env, List.mem_cons_self, ?_⟩)
      rw [hf, z]
    have awayF : a ∉ X.fs := by
      intro hm
      obtain ⟨e, he, q⟩ := List.mem_filterMap.mp hm
      exact away (List.mem_filterMap.mpr ⟨e, List.mem_cons_of_mem _ he, q⟩)
    have S3 := J3.suite he3 hd3 na awayL awayF
    refine wpAny_handleBy_cons (codeAny_handlers_test ?_) (fun q => by cases q)
    have ty3 : PySem.W.Looks (model X.prog X.w) h3 (typeOf (.ref a)) cls := by
      intro A Q E s' k q
      refine wpAny_typeOf_ref (k _ _ he3) ?_
      rw [hz3.1]
      exact q
    have ask := PySem.W.exm_one (M := model X.prog X.w) J3.kIn ty3 hb1
    have named : ∀ {Q : Value → Shared → Prop} {E : Value → Shared → Prop}, Q c { s2 with heap := h3 } → wpAny (model X.prog X.w) (X.A.mark (some (.ref a))) (eval (.Name x np) X.env) Q E { s2 with heap := h3 } := by
      intro Q E q
      obtain ⟨hg, hdb, hm⟩ := hc
      rcases hm with hm | ⟨hm, hv, hnn⟩
      · exact ld_glob (X := X.suite a ((a, oe3) :: (X.pn ++ pins))) S3 hg hm q hdb
      · exact ld_blt (X := X.suite a ((a, oe3) :: (X.pn ++ pins))) S3 hg hm hv q hnn hdb
    refine named (ask.here ?_)
    match b, yes, no with
    | true, yes, _ =>
      refine codeAny_handlers_suite_as (HandSPX.lands_againZ fl3 ?_)
      intro h4 fl4 up4
      have J4 : Inv X pins σI HI { s2 with heap := h4 } := J.landed kB fl4.1 ((upI.trans up3).trans up4) osI bareI
      obtain ⟨oe4, vs4, he4, hz4, hd4⟩ := fl4.there
      have S4 := J4.suite he4 hd4 na awayL awayF
      refine store_ok (X := X.suite a ((a, oe4) :: (X.pn ++ pins))) (v := .ref a) S4 hN hi locN rfl ?_ (Or.inr hln)
      intro s5 S5
      refine wpAny_mono ((hsu a oe4 cls d (X.pn ++ pins) hz4 ⟨_, hd4⟩).run [] s5 _ HI _ S5 (yes rfl a na)) ?_ (fun _ _ z => z.elim)
      intro f s6 hsp
      match f, hsp with
      | .next, hsp =>
        obtain ⟨σ6, H6, S6, q6⟩ := hsp
        refine gone_ok (X := held X ((a, oe4) :: (X.pn ++ pins))) (held_of S6 ok) hN hi hln ?_
        intro s7 J7
        exact thn ((hheld a oe4 cls d (X.pn ++ pins) hz4 ⟨_, hd4⟩).run [] s7 _ H6 D J7 q6) (fun f' s' z => sp_unheld ok z)
      | .brk, hsp =>
        obtain ⟨σ6, H6, S6, q6⟩ := hsp
        exact gone_ok (S6.unsuite ok) hN hi hln (fun s7 J7 => ⟨_, _, J7, q6⟩)
      | .cont, hsp =>
        obtain ⟨σ6, H6, S6, q6⟩ := hsp
        exact gone_ok (S6.unsuite ok) hN hi hln (fun s7 J7 => ⟨_, _, J7, q6⟩)
      | .ret u6, hsp =>
        obtain ⟨v6, σ6, H6, S6, r6, q6⟩ := hsp
        exact gone_ok (S6.unsuite ok) hN hi hln (fun s7 J7 => ⟨_, _, _, J7, r6, q6⟩)
    | false, _, no =>
      show wpAny _ X.A (handleBy (.ref a) X.env []) _ _ _
      refine wpAny_handleBy_nil ?_
      obtain ⟨_, _, _, oe, vs, T, oT, ts', he, hz, hd, h1, hr⟩ := id fl3
      unfold PySem.passOn
      refine wpAny_bind (wpAny_field he hd h1 ?_)
      rw [if_neg (show ¬ ((Value.ref T == Value.none) = true) by simp)]
      have on : ∀ {Q : Flow → Shared → Prop}, wpAny (model X.prog X.w) X.A (setFlight (.ref a) X.env.frame) (fun _ s4 => wpAny (model X.prog X.w) X.A (throw (.ref a) : Sem Flow) Q X.xe s4) X.xe { s2 with heap := h3 } := by
        intro Q
        rw [hf]
        refine HandSPX.setFlight_upZ fl3 ?_
        intro h4 hh4 up4
        refine wpAny_throw (tk _ _ ?_)
        refine ⟨a, B, sI, pins, σI, HI, cls, d, rfl, J, kB, (upI.trans up3).trans up4, Or.inr (Or.inr ?_), na, osI, bareI, no rfl⟩
        rw [hs]
        exact hh4
      first
        | exact wpAny_bind (wpAny_pure (wpAny_bind on))
        | exact wpAny_bind on
end
end Cp

set_option Elab.async false
set_option linter.all false
set_option maxRecDepth 100000
namespace Cp
open PySem PySem.Spec L2 PyProof.Rows
/-- what is never read -/
theorem pe_no {X : Cx} {e : Expr} : PE X e (fun _ _ _ => False) := ⟨fun _ _ _ _ _ _ h => h.elim⟩
/-- caught.f, the error being held -/
theorem pe_heldf {X : Cx} {a C : Addr} {oe : Obj} {cls : Value} {d : Option Addr} {pn : List (Addr × Obj)} {e : Expr} {te : TE} {pos : Pos} {n : Str} (T : XfC X.K C) (noF : PySem.W.findIn X.K (.ref C) n = some none)
    (hz : Zc cls d oe) (hf : ∃ vs, oe.data = .fields vs) (he : PE (held X ((a, oe) :: pn)) e te) (hb : attributeBase e n X.env (eval e X.env) = eval e X.env := by rfl) :
    PE (held X ((a, oe) :: pn)) (.Attribute e n pos) (tXf a cls d C n te) := by
  constructor
  intro pins s σ H Q I h
  refine attr_of hb (thn (he.run pins s σ H _ I h) ?_)
  intro u s1 hh
  obtain ⟨x, H1, I1, rx, ex, ec, dd, fs, v, ed, ea, look, q⟩ := hh
  subst ex ec ed
  have hu : u = Value.ref a := rx
  subst hu
  have pinned := (I1.pin (a, oe) (List.mem_append_left _ List.mem_cons_self)).1
  obtain ⟨vs, hd⟩ := hf
  have dictAt : ObjOk X.prog X.w H1 s1.heap dd (.xd fs) := I1.hok dd _ ea
  obtain ⟨mA, hns, hr⟩ := dictAt
  obtain ⟨od, ho, hl⟩ := lookIn_ns hns
  have some_ := RelO.some_of (v := v) (o := mA n) (by rw [← look]; exact hr n)
  obtain ⟨u, hu, ru⟩ := some_
  have inst : PySem.W.InstAt s1.heap a oe C (some od) := by
    refine ⟨pinned, hz.1, ?_, ?_⟩
    · unfold PySem.W.notCls
      rw [hd]
    · rw [hz.2]
      exact ho
  have found := PySem.W.findObj_own T.hdC noF rfl (show _ = _ by rw [hl, hu])
  exact HandSPX.exc_get I1.kIn inst T.ga T.gg T.exC found (handed_of ru) ⟨v, H1, I1.tok _, ru, q⟩
end Cp

set_option Elab.async false
set_option linter.all false
set_option maxRecDepth 100000
set_option maxHeartbeats 4000000
/-! ### isinstance of a held error: a class, a tuple of classes -/
namespace Cp
open PySem PySem.Spec PySem.W PySem.Calls PyProof.Rows
section
variable {K : Frag} {D x : Addr} {oe od : Obj}
theorem cls_found {a g : Value} {o : Option Obj} (h1 : (clsIn K D).isSome = true) (h2 : findIn K (.ref D) "__class__" = some (some a)) (h3 : specialIn K a "__get__" = some (some g)) (h4 : takesIn K a = some true) : findObj K D o "__class__" = some (.bind g a) := by
  obtain ⟨cd, e⟩ := Option.isSome_iff_exists.mp h1
  unfold findObj
  rw [e, Option.bind_some, h2, Option.bind_some]; simp [h3, h4]
theorem held_class {prog : Program} {w : World} {A : Around} {E : Value → Shared → Prop} {s : Shared} {Z : Option Value → Shared → Prop} {o : Option Obj} (C : L2.ExcC K D) (X : K.In s.heap) (I : InstAt s.heap x oe D o) (z : Z (some (.ref D)) { s with toks := s.toks + 1 }) :
    wpAny (model prog w) A (getAttr? (.ref x) "__class__") Z E s := by
  have hf := cls_found (o := o) (by obtain ⟨cd, hc, _⟩ := any_some C.hd; rw [hc]; rfl) C.ha C.hn C.ht
  obtain ⟨h, g, d, tk, os⟩ := s
  have w0 := I.type (M := model prog w)
  have w1 := looks_findIn (M := model prog w) X C.hg
  have w2 := looks_findIn (M := model prog w) X C.hk
  have w3 := looks_find (M := model prog w) X I hf
  have w4 : Looks (model prog w) h (isInstance (.ref x) (.type "BaseException")) true := w0.andThen (looks_subIn X C.hs)
  have n0 : (false && onTheHeap (Value.builtin "BaseException.__getattribute__")) = false := rfl
  have n1 : (Value.builtin "BaseException.__getattribute__" == Value.builtin "object.__getattribute__") = false := by decide +kernel
  have n2 : (onTheHeap (Value.ref D) && Value.builtin "BaseException.__getattribute__" == Value.builtin "object.__getattribute__") = false := by rw [n1]; rfl
  unfold getAttr? getAttrBy? getAttrBy
  refine wpAny_bind (wpAny_mkText (wpAny_bind (wpAny_attempt (wpAny_holding (wpAny_bind (w0.at (wpAny_bind (w1.at ?_))))))))
  show wpAny _ _ (if (onTheHeap (Value.ref D) && Value.builtin "BaseException.__getattribute__" == Value.builtin "object.__getattribute__") = true then _ else _) _ _ _; rw [n2, if_neg Bool.false_ne_true]
  unfold getAttrByItsOwn hookBefore; refine wpAny_bind ?_
  rw [if_pos (show onTheHeap (Value.ref D) = true from rfl)]
  refine w2.at (wpAny_bind (wpAny_attempt (wpAny_holding ?_)))
  unfold callGetattribute; rw [n0, if_neg Bool.false_ne_true]
  unfold boundAndCalled; rw [PySem.F.excAttr_ValueError.ga.bind (.ref x)]
  refine wpAny_bind (wpAny_pure (?_ : wpAny _ _ (call (.builtin "BaseException.__getattribute__") [.ref x, .str "__class__" tk]) _ _ _))
  refine wpAny_call (codeAny_call_builtin PySem.F.excAttr_ValueError.ga.plain PySem.F.entry_bexc_ga (@check_slot (model prog w) _ _ ⟨h, g, d, tk + 1, os⟩ "BaseException.__getattribute__" "BaseException" "__getattribute__" (.ref x) [.str "__class__" tk] [] _ (by decide +kernel) (by decide +kernel) w4 (PySem.F.args_bexc_ga (.ref x) (.str "__class__" tk)) ?_))
  unfold Builtin.«object.__getattribute__»
  refine wpAny_bind (wpAny_of_eq (a := ((Value.ref x : Value), [Value.str "__class__" tk])) (by first | rfl | (simp only [slotArgs]; rfl)) (wpAny_bind (wpAny_pure (wpAny_bind (w0.at (wpAny_bind (w3.at ?_)))))))
  show wpAny _ _ (holding [Value.builtin "object.__class__"] (call (.builtin "getset_descriptor.__get__") [.builtin "object.__class__", .ref x, .ref D]) >>= ret) _ _ _
  refine wpAny_bind (wpAny_holding (wpAny_call (class_get (s := ⟨h, g, d, tk + 1, os⟩) (ox := oe) (od := o) X I C.hm (wpAny_pure (?_ : wpAny _ _ (handedOut (.ref D)) _ _ _)))))
  rw [handedOut_of (v := .ref D) rfl]
  first
    | exact wpAny_pure (wpAny_pure z)
    | exact wpAny_pure z
    | exact wpAny_pure (wpAny_bind (wpAny_pure (wpAny_pure z)))
theorem held_kit {o : Option Obj} (C : L2.ExcC K D) : KitX K (.ref x) (.ref D) (fun h => InstAt h x oe D o) := by
  obtain ⟨cd, hcd, _⟩ := any_some C.hd
  unfold clsIn at hcd
  split at hcd
  · rename_i c' d' cd' sl' ho
    refine ⟨fun _ _ _ I => I.type, fun _ _ X _ A' Q' E' s' k q => ?_, fun h tp dd its n sl X ht => ?_, fun X I z => held_class C X I z⟩
    · unfold isType loadHead
      exact wpAny_bind (wpAny_loadPart (k _ _ (X _ _ ho)) (wpAny_pure q))
    · refine Bool.eq_false_iff.mpr fun q => ?_
      have e : D = tp := Value.ref.inj (beq_iff_eq.mp q)
      subst e
      cases (X _ _ ho).symm.trans ht
  · cases hcd
end
end Cp
namespace Cp
open PySem PySem.Spec L2 PyProof.Rows
/-- isinstance(e, c) of the held error e -/
def rIsH (K : PySem.W.Frag) (D a : Addr) (d : Option Addr) : List V → Hp → VK → Prop := fun xs H Q => ∃ (c : V) (b : Bool), xs = [.ref a, c] ∧ (d = none ∨ ∃ dd fs, d = some dd ∧ H dd = some (.xd fs)) ∧
  ((∃ cv, (∀ u, RelV c u → u = cv) ∧ PySem.W.kitOne K (.ref D) cv = some b) ∨ ∃ (tp : Addr) (cs : List V) (cvs : List Value), c = .ref tp ∧ H tp = some (.tup cs) ∧ (∀ us, Vals cs us → us = cvs) ∧ PySem.W.kitAny K (.ref D) cvs = some b) ∧ Q (.bl b) H
theorem call_isH {X : Cx} {a D : Addr} {oe : Obj} {d : Option Addr} {pn : List (Addr × Obj)} (C : ExcC X.K D) (hz : Zc (.ref D) d oe) (hf : ∃ vs, oe.data = .fields vs) : CallR (held X ((a, oe) :: pn)) (.builtin "isinstance") (rIsH X.K D a d) := by
  intro pins s σ H xs us Q I r h
  obtain ⟨c, b, rfl, hd, hc, q⟩ := h
  cases r with
  | cons rx rr =>
    cases rr with
    | cons rt rr =>
      cases rr
      cases rx
      obtain ⟨hget, _⟩ := I.pin (a, oe) (List.mem_append.mpr (.inl List.mem_cons_self))
      obtain ⟨vs, hv⟩ := hf
      have J : ∃ od, PySem.W.InstAt s.heap a oe D od := by
        rcases hd with e | ⟨dd, fs, e, hdd⟩
        · refine ⟨none, hget, hz.1, ?_, ?_⟩
          · unfold PySem.W.notCls; rw [hv]
          · rw [hz.2, e]; trivial
        · have dictAt : ObjOk X.prog X.w H s.heap dd (.xd fs) := I.hok dd _ hdd
          obtain ⟨mA, hns, _⟩ := dictAt
          obtain ⟨od, ho, _⟩ := lookIn_ns hns
          refine ⟨some od, hget, hz.1, ?_, ?_⟩
          · unfold PySem.W.notCls; rw [hv]
          · rw [hz.2, e]; exact ho
      obtain ⟨od, J⟩ := J
      rcases hc with ⟨cv, hcv, e⟩ | ⟨tp, cs, cvs, ec, ht, hcs, e⟩
      · have ec := hcv _ rt
        subst ec
        exact PySem.W.kia_one (held_kit C) I.kIn J e (fun z => nomatch z) fun tk => ⟨.bl b, H, I.kept (t' := tk) fun _ _ z => z, rfl, q⟩
      · subst ec
        cases rt
        have tupAt : ObjOk X.prog X.w H s.heap tp (.tup cs) := I.hok tp _ ht
        obtain ⟨_, its, ri, hit⟩ := tupAt
        have ei := hcs _ ri
        subst ei
        obtain ⟨⟨oc, odd, oda, osl⟩, ho, h1, n, h2⟩ := hit
        dsimp only at h1 h2
        subst h1 h2
        exact PySem.W.kia_tup (held_kit C) I.kIn J ho e (fun z => nomatch z) fun tk => ⟨.bl b, H, I.kept (t' := tk) fun _ _ z => z, rfl, q⟩
end Cp

set_option Elab.async false
set_option linter.all false
set_option maxRecDepth 100000
/-! ### own classes of errors over any built-in one, with an __init__ of their own: made, given fields -/
namespace Cp
open PySem PySem.Spec PySem.W PySem.Calls PyProof.Rows PySem.HandSPX PySem.Builtin PySem.Builtin.ObjectAttr
/-- own classes, then this tail -/
inductive Over (tl : List Value) : List Value → Prop
  | base : Over tl tl
  | own {c : Addr} {l : List Value} : Over tl l → Over tl (.ref c :: l)
def overB (tl : List Value) : List Value → Bool
  | .ref _ :: r => overB tl r
  | l => l == tl
theorem overB_cases (tl : List Value) : ∀ l : List Value, overB tl l = true → (∃ c r, l = .ref c :: r ∧ overB tl r = true) ∨ l = tl
  | [], z => Or.inr (beq_iff_eq.mp z)
  | .ref c :: r, z => Or.inl ⟨c, r, rfl, z⟩
  | .none :: _, z => Or.inr (beq_iff_eq.mp z)
  | .ellipsis :: _, z => Or.inr (beq_iff_eq.mp z)
  | .notImplemented :: _, z => Or.inr (beq_iff_eq.mp z)
  | .bool _ :: _, z => Or.inr (beq_iff_eq.mp z)
  | .int _ _ :: _, z => Or.inr (beq_iff_eq.mp z)
  | .float _ _ :: _, z => Or.inr (beq_iff_eq.mp z)
  | .str _ _ :: _, z => Or.inr (beq_iff_eq.mp z)
  | .bytes _ _ :: _, z => Or.inr (beq_iff_eq.mp z)
  | .type _ :: _, z => Or.inr (beq_iff_eq.mp z)
  | .builtin _ :: _, z => Or.inr (beq_iff_eq.mp z)
theorem Over.of {tl : List Value} : ∀ {l : List Value}, overB tl l = true → Over tl l := by
  intro l
  induction l with
  | nil => intro e; exact (overB_cases tl [] e).elim (fun ⟨_, _, q, _⟩ => nomatch q) (fun q => q ▸ .base)
  | cons a r ih =>
    intro e
    rcases overB_cases tl (a :: r) e with ⟨c, r', q, z⟩ | q
    · obtain ⟨rfl, rfl⟩ := List.cons.inj q
      exact .own (ih z)
    · rw [q]; exact .base
/-- what is asked of a tail -/
structure Tl (tl : List Value) (B newId initId : String) (bmB : List Value) : Prop where
  F : ExcBaseFacts B newId initId bmB
  hB : tl.contains (.type B) = true
  hA : tl.contains (.type "AttributeError") = false
  hN : tl.contains (.type "NameError") = false
  hO : tl.contains (.type "object") = true
  ne : tl.isEmpty = false
  ps : ∀ self, refuseLoop self "__setattr__" tl = pure ()
theorem Over.cont {tl l : List Value} (o : Over tl l) (x : String) : l.contains (.type x) = tl.contains (.type x) := by
  induction o with
  | base => rfl
  | own _ ih => rw [List.contains_cons, ih]; rfl
theorem Over.ne {tl l : List Value} (o : Over tl l) (n : tl.isEmpty = false) : l.isEmpty = false := by
  cases o with
  | base => exact n
  | own _ => rfl
theorem Over.pass {tl l : List Value} (o : Over tl l) {self : Value} (p : refuseLoop self "__setattr__" tl = pure ()) : refuseLoop self "__setattr__" l = pure () := by
  induction o with
  | base => exact p
  | own _ ih => rw [refuseLoop_ref]; exact ih
abbrev tlVE : List Value := [.type "ValueError", .type "Exception", .type "BaseException", .type "object"]
abbrev tlRE : List Value := [.type "RuntimeError", .type "Exception", .type "BaseException", .type "object"]
abbrev tlKE : List Value := [.type "KeyError", .type "LookupError", .type "Exception", .type "BaseException", .type "object"]
theorem tl_VE : Tl tlVE "ValueError" "ValueError.__new__" "ValueError.__init__" tlVE := ⟨PySem.F.excBase_ValueError, by decide +kernel, by decide +kernel, by decide +kernel, by decide +kernel, rfl, fun self => by kernel_rfl⟩
theorem tl_RE : Tl tlRE "RuntimeError" "RuntimeError.__new__" "RuntimeError.__init__" tlRE := ⟨PySem.F.excBase_RuntimeError, by decide +kernel, by decide +kernel, by decide +kernel, by decide +kernel, rfl, fun self => by kernel_rfl⟩
theorem tl_KE : Tl tlKE "LookupError" "LookupError.__new__" "LookupError.__init__" [.type "LookupError", .type "Exception", .type "BaseException", .type "object"] := ⟨PySem.F.excBase_LookupError, by decide +kernel, by decide +kernel, by decide +kernel, by decide +kernel, rfl, fun self => by kernel_rfl⟩
section
variable {tl : List Value} {nm q : Str} {C N : Addr} {bs bm bmB : List Value} {hdct : Bool} {sn : List Str} {sub : List Value} {ab : Bool} {col : Option Bool} {dd : Option Addr} {k0 k1 k2 k3 k5 : Option Value} {B newId initId : String}
variable {h : Heap} {g : Array GenState} {d : Drawn} {t : Nat} {os : OsState}
theorem chk_new {M : Model} {A : Around} {E : Value → Shared → Prop} {args : List Value} {Z : Unit → Shared → Prop} (T : Tl tl B newId initId bmB) (o : Over tl bm)
    (hc : h.get? C = some (excClassObj nm q C N bs bm hdct sn sub ab col dd k0 k1 k2 k3 k5 newId)) (z : Z () ⟨h, g, d, t, os⟩) : wpAny M A (checkBuiltinCall newId ⟨.ref C :: args, []⟩) Z E ⟨h, g, d, t, os⟩ := by
  have c1 : (Value.ref C :: bm).contains (.type B) = true := by rw [List.contains_cons, o.cont, T.hB, Bool.or_true]
  have c2 := T.F.noStar
  simp only [checkBuiltinCall, T.F.newKind, T.F.newSplit, T.F.newRow]
  repeat (first | refine wpAny_loadPart_at hc ?_ | (refine wpAny_isSubtype_exc hc ?_; rw [c1]) | refine wpAny_staticBase_exc hc ?_ | refine wpAny_madeBy_exc hc ?_ | simp only [bne_self_eq_false, Bool.false_eq_true, if_false] | wp_step)
  exact z
variable {prog : Program} {w : World} {A : Around} {E : Value → Shared → Prop} {R : Result → Shared → Prop}
theorem made_new {args : List Value} (T : Tl tl B newId initId bmB) (o : Over tl bm) (hc : h.get? C = some (excClassObj nm q C N bs bm hdct sn sub ab col dd k0 k1 k2 k3 k5 newId))
    (z : R (.ok (.ret (.ref (h.objs.size + 1)))) ⟨(h.push (W.kdv_tup args)).push (excO C h.objs.size), g, d, t, os⟩) (hz : args.length ≤ sizeLine) :
    codeAny (model prog w) A (.builtin newId ⟨.ref C :: args, []⟩) R ⟨h, g, d, t, os⟩ := by
  have c0 := T.F.ends
  have c1 : (Value.ref C :: bm).contains (.type B) = true := by rw [List.contains_cons, o.cont, T.hB, Bool.or_true]
  have c2 : (Value.ref C :: bm).contains (.type "AttributeError") = false := by rw [List.contains_cons, o.cont, T.hA]; rfl
  have c3 : (Value.ref C :: bm).contains (.type "NameError") = false := by rw [List.contains_cons, o.cont, T.hN]; rfl
  refine codeAny_builtinAt T.F.entry ?_
  unfold PySem.Builtin.«BaseException.__new__»; refine PySem.wpAt_bind ?_; show PySem.wpAt _ _ _ (stack >>= _) _ _ _
  refine PySem.wpAt_bind (PySem.wpAt_stack fun _ _ => PySem.wpAt_of_wpAny ?_); wp_walk
  refine PySem.wpAt_of_wpAny ?_; rw [T.F.owner]
  repeat (first | with_reducible refine wpAny_madeHere_exc T.F.canon hc ?_ | with_reducible refine wpAny_loadPart_at hc ?_ | (with_reducible refine wpAny_isSubtype_exc hc ?_; first | rw [c1] | rw [c2] | rw [c3]) | wp_step)
  show R _ _; rw [Heap.size_push]; exact z
theorem type_new {args : List Value} {fI : Addr} {Z : Fin → Shared → Prop} (T : Tl tl B newId initId bmB) (o : Over tl bm) (hc : h.get? C = some (excClassObj nm q C N bs bm hdct sn sub ab col dd k0 k1 k2 k3 k5 newId))
    (hi : W.Looks (model prog w) h (typeLookup (.ref C) "__init__") (some (.ref fI))) (hb : ∀ x, W.Looks (model prog w) h (bindSpecial (.ref fI) x) (.ref fI, [x])) (hz : args.length ≤ sizeLine)
    (z : codeAny (model prog w) A (.call (.ref fI) ⟨.ref (h.objs.size + 1) :: args, []⟩) (fun r s' => match r with | .ok (.ret v) => v = .none ∧ Z (.done (.ret (.ref (h.objs.size + 1)))) s' | .ok _ => False | .error e => E e s') ⟨(h.push (W.kdv_tup args)).push (excO C h.objs.size), g, d, t, os⟩) :
    wpAny (model prog w) A (Builtin.«type.__call__» ⟨.ref C :: args, []⟩) Z E ⟨h, g, d, t, os⟩ := by
  repeat (first | with_reducible refine wpAny_loadPart_at hc ?_ | with_reducible refine wpAny_madeBy_exc hc ?_ | wp_step)
  refine codeAny_call_builtin_code (Code.quiet_builtin _ T.F.quiet) (chk_new T o hc (made_new T o hc (?_ : wpAny _ _ _ _ _ _) hz))
  have kp : ∀ b u, h.get? b = some u → ((h.push (W.kdv_tup args)).push (excO C h.objs.size)).get? b = some u := fun b u e => Heap.get?_push_of_some _ (Heap.get?_push_of_some _ e)
  have hc1 := kp _ _ hc
  have hx : ((h.push (W.kdv_tup args)).push (excO C h.objs.size)).get? (h.objs.size + 1) = some (excO C h.objs.size) := by heap_get
  have c4 : (Value.ref C :: bm).contains (.ref C) = true := by simp
  unfold isInstance
  repeat (first | with_reducible refine wpAny_loadPart_at hx ?_ | (with_reducible refine wpAny_isSubtype_exc hc1 ?_; rw [c4]) | wp_step)
  show wpAny _ _ (typeLookup (.ref C) _) _ _ _
  refine (hi.keeps kp).at (wpAny_holding (wpAny_bind (((hb (.ref (h.objs.size + 1))).keeps kp).at (wpAny_bind (wpAny_call (codeAny_mono z fun r s' y => ?_))))))
  rcases r with e | (v | _ | _ | _) <;> first | exact y | exact y.elim | skip
  obtain ⟨rfl, y⟩ := y
  first | exact wpAny_pure (wpAny_pure y) | (wp_walk; exact y)
theorem call_new {args : List Value} {fI : Addr} (T : Tl tl B newId initId bmB) (o : Over tl bm) (hc : h.get? C = some (excClassObj nm q C N bs bm hdct sn sub ab col dd k0 k1 k2 k3 k5 newId))
    (hi : W.Looks (model prog w) h (typeLookup (.ref C) "__init__") (some (.ref fI))) (hb : ∀ x, W.Looks (model prog w) h (bindSpecial (.ref fI) x) (.ref fI, [x])) (hz : args.length ≤ sizeLine)
    (z : codeAny (model prog w) (A.under (.builtin "type.__call__" ⟨.ref C :: args, []⟩)) (.call (.ref fI) ⟨.ref (h.objs.size + 1) :: args, []⟩) (W.InitBack (h.objs.size + 1) R) ⟨(h.push (W.kdv_tup args)).push (excO C h.objs.size), g, d, t, os⟩) :
    codeAny (model prog w) A (.call (.ref C) ⟨args, []⟩) R ⟨h, g, d, t, os⟩ := by
  have f1 := tc_lookup
  have f2 := tc_bind (.ref C)
  have f3 : (⟨h, g, d, t, os⟩ : Shared).TypeIs (.ref C) "type" := ⟨_, hc, rfl⟩
  refine codeAny_of_tree (?_ : wpAny _ _ (callAny (.ref C) _) _ _ _)
  repeat (any_goals (first | assumption | with_reducible refine wpAny_loadPart_at hc ?_ | wp_step))
  refine ⟨rfl, codeAny_call_builtin_at (Code.quiet_builtin _ (by decide +kernel)) entry_typeCall (wpAny_check_type_call_sub hc (type_new T o hc hi hb hz (codeAny_mono z fun r s' y => ?_)))⟩
  rcases r with e | (v | _ | _ | _) <;> exact y
end
end Cp

set_option Elab.async false
set_option linter.all false
set_option maxRecDepth 100000
set_option maxHeartbeats 4000000
namespace Cp
open PySem PySem.Spec PySem.W PySem.Calls PyProof.Rows PySem.HandSPX PySem.Builtin.ObjectAttr
section
variable {tl : List Value} {prog : Program} {w : World} {A : Around} {E : Value → Shared → Prop} {R : Result → Shared → Prop} {hq0 : Heap} {g : Array GenState} {d : Drawn} {t : Nat} {os : OsState}
theorem put_first {K : W.Frag} {f : Str} {tk : Tok} {v : Value} {x C : Addr} {fv : Array Value} {cd : ClassData} (X : K.In hq0) (hx : hq0.get? x = some { cls := .ref C, data := .fields fv }) (hcd : W.clsIn K C = some cd)
    (o : Over tl cd.mro) (n0 : tl.isEmpty = false) (h0 : tl.contains (.type "object") = true) (p0 : ∀ self, refuseLoop self "__setattr__" tl = pure ()) (hh : cd.hasDict = true) (ha : W.findIn K (.ref C) f = some none)
    (z : ∀ h' tk' da, (∀ b u, b ≠ x → hq0.get? b = some u → h'.get? b = some u) → hq0.objs.size ≤ da → da ≠ x → h'.get? x = some { cls := .ref C, dict := some da, data := .fields fv } →
      h'.Ns1 da (fun y => if y = f then some v else none) → R (.ok (.ret .none)) ⟨h', g, d, tk', os⟩) :
    codeAny (model prog w) A (.call (.builtin "object.__setattr__") ⟨[.ref x, .str f tk, v], []⟩) R ⟨hq0, g, d, t, os⟩ := by
  have I : W.InstAt hq0 x { cls := .ref C, data := .fields fv } C none := ⟨hx, rfl, rfl, trivial⟩
  have st := F.store_object
  have e1 := o.ne n0
  have e2 : cd.mro.contains (.type "object") = true := (o.cont _).trans h0
  have e3 : x ≠ hq0.objs.size := Nat.ne_of_lt (Heap.lt_size hx)
  have e4 : W.Looks (model prog w) hq0 (isInstance (.ref x) (.type "object")) true := I.type.andThen (W.looks_mroIn X (by unfold W.mroIn; rw [hcd, Option.bind_some, if_neg (by rw [e1]; decide), e2]))
  refine codeAny_call_builtin st.slot.plain st.entry (@W.check_slot (model prog w) _ _ ⟨hq0, g, d, t, os⟩ "object.__setattr__" "object" "__setattr__" (.ref x) [.str f tk, v] [] _ st.kind st.split e4 (st.args (.ref x) (.str f tk) v) ?_)
  have e5 : W.Looks (model prog w) hq0 (mroOf (.ref C)) cd.mro := (W.looks_clsIn X hcd).andThen .now
  have e6 : W.Looks (model prog w) hq0 (storeTaker? none) none := .now
  have e7 : W.Looks (model prog w) hq0 (classData C) cd := W.looks_clsIn X hcd
  rw [W.osa_eq, refuse_eq]
  refine wpAny_bind (wpAny_bind (I.type.at (wpAny_bind (e5.at (?_ : wpAny _ _ (refuseLoop _ _ _) _ _ _)))))
  rw [o.pass (p0 _)]
  refine wpAny_pure (wpAny_bind (I.type.at (wpAny_bind ((W.looks_findIn X ha).at (wpAny_bind (e6.at (?_ : wpAny _ _ (storeInOwnDict (.ref x) (.ref C) (.str f tk) f v false) _ _ _)))))))
  obtain ⟨nm, bs, mro, ns, qn, hd, sn, sb, ab, col, dl⟩ := cd
  dsimp only at hh
  subst hh
  unfold storeInOwnDict ownDictForStores
  repeat (first | with_reducible refine store_in_new ?_ ?_ | with_reducible refine wpAny_loadPart_at hx ?_ | with_reducible refine e7.at ?_ | wp_step)
  · exact ⟨_, #[], _, (Heap.get?_update_ne _ _ _ _ e3.symm).trans (Heap.get?_push_at rfl rfl), rfl, fun e he => absurd he (by simp), fun _ => rfl⟩
  · intro h' tk' hn' hs
    refine z h' tk' hq0.objs.size (fun b u hb ho => ?_) (Nat.le_refl _) e3.symm ((hs.2 x e3).trans (Heap.get?_update_self _ (Heap.get?_push_of_some _ hx) rfl)) hn'
    exact (hs.2 b (Nat.ne_of_lt (Heap.lt_size ho))).trans ((Heap.get?_update_ne _ _ _ _ hb).trans (Heap.get?_push_of_some _ ho))
theorem put_next {K : W.Frag} {f : Str} {tk : Tok} {v : Value} {x C da : Addr} {fv : Array Value} {cd : ClassData} {m0 : Str → Option Value} {nl : List Str} (X : K.In hq0) (hx : hq0.get? x = some { cls := .ref C, dict := some da, data := .fields fv })
    (hn0 : hq0.Ns1 da m0) (hw : Within m0 nl) (hz : nl.length ≤ 1000) (hcd : W.clsIn K C = some cd) (o : Over tl cd.mro) (n0 : tl.isEmpty = false) (h0 : tl.contains (.type "object") = true)
    (p0 : ∀ self, refuseLoop self "__setattr__" tl = pure ()) (hh : cd.hasDict = true) (ha : W.findIn K (.ref C) f = some none)
    (z : ∀ h' tk', (∀ b u, b ≠ da → hq0.get? b = some u → h'.get? b = some u) → h'.Ns1 da (fun y => if y = f then some v else m0 y) → R (.ok (.ret .none)) ⟨h', g, d, tk', os⟩) :
    codeAny (model prog w) A (.call (.builtin "object.__setattr__") ⟨[.ref x, .str f tk, v], []⟩) R ⟨hq0, g, d, t, os⟩ := by
  obtain ⟨ob, esD, epD, hob, hdD, _⟩ := hn0.count hw
  have I : W.InstAt hq0 x { cls := .ref C, dict := some da, data := .fields fv } C (some ob) := ⟨hx, rfl, rfl, hob⟩
  have st := F.store_object
  have e1 := o.ne n0
  have e2 : cd.mro.contains (.type "object") = true := (o.cont _).trans h0
  have e4 : W.Looks (model prog w) hq0 (isInstance (.ref x) (.type "object")) true := I.type.andThen (W.looks_mroIn X (by unfold W.mroIn; rw [hcd, Option.bind_some, if_neg (by rw [e1]; decide), e2]))
  refine codeAny_call_builtin st.slot.plain st.entry (@W.check_slot (model prog w) _ _ ⟨hq0, g, d, t, os⟩ "object.__setattr__" "object" "__setattr__" (.ref x) [.str f tk, v] [] _ st.kind st.split e4 (st.args (.ref x) (.str f tk) v) ?_)
  have e5 : W.Looks (model prog w) hq0 (mroOf (.ref C)) cd.mro := (W.looks_clsIn X hcd).andThen .now
  have e6 : W.Looks (model prog w) hq0 (storeTaker? none) none := .now
  have e7 : W.Looks (model prog w) hq0 (classData C) cd := W.looks_clsIn X hcd
  rw [W.osa_eq, refuse_eq]
  refine wpAny_bind (wpAny_bind (I.type.at (wpAny_bind (e5.at (?_ : wpAny _ _ (refuseLoop _ _ _) _ _ _)))))
  rw [o.pass (p0 _)]
  refine wpAny_pure (wpAny_bind (I.type.at (wpAny_bind ((W.looks_findIn X ha).at (wpAny_bind (e6.at (?_ : wpAny _ _ (storeInOwnDict (.ref x) (.ref C) (.str f tk) f v false) _ _ _)))))))
  obtain ⟨nm, bs, mro, ns, qn, hd, sn, sb, ab, col, dl⟩ := cd
  dsimp only at hh
  subst hh
  unfold storeInOwnDict ownDictForStores
  repeat (first | with_reducible refine PySem.OEX.store_in_old hn0 hw hz ?_ | with_reducible refine wpAny_loadPart_at hx ?_ | with_reducible refine e7.at ?_ | wp_step)
  exact fun h' tk' hn' hs => z h' tk' (fun b u hb ho => (hs.2 b hb).trans ho) hn'
end
end Cp
namespace Cp
open PySem PySem.Spec L2 PyProof.Rows
/-- what the written part says of an own class over this tail -/
structure OexG (tl : List Value) (B newId initId : String) (bmB : List Value) (K : PySem.W.Frag) (C : Addr) : Prop where
  T : Tl tl B newId initId bmB
  cls : ∃ nm q N bs bm sn sub ab col dd k0 k1 k2 k3 k5, K.lookup C = some (excClassObj nm q C N bs bm true sn sub ab col dd k0 k1 k2 k3 k5 newId) ∧ Over tl bm
  sa : PySem.W.findIn K (.ref C) "__setattr__" = some (some (.builtin "object.__setattr__"))
  exC : PySem.W.subIn K (.ref C) (.type "BaseException") = some true
  tyC : PySem.W.typeIn K (.ref C) = some (.type "type")
  kC : PySem.W.keepIn K (.ref C) = true
section
variable {tl : List Value} {B newId initId : String} {bmB : List Value} {X : Cx} {pins : List (Addr × Obj)} {σ : L2.St} {H : Hp} {s : Shared} {a C da : Addr} {f : Str} {y : V} {u : Value} {fs : List (Str × V)} {Q : Unit → Shared → Prop} {E : Value → Shared → Prop} {A : Around}
theorem OexG.cd {K : PySem.W.Frag} (T : OexG tl B newId initId bmB K C) : ∃ cd, PySem.W.clsIn K C = some cd ∧ Over tl cd.mro ∧ cd.hasDict = true := by
  obtain ⟨nm, q, N, bs, bm, sn, sub, ab, col, dd, k0, k1, k2, k3, k5, e, o⟩ := T.cls
  refine ⟨_, by unfold PySem.W.clsIn; rw [e] <;> rfl, .own o, rfl⟩
theorem st_first (T : OexG tl B newId initId bmB X.K C) (I : Inv X pins σ H s) (e : H a = some (exo a C none)) (hno : PySem.W.findIn X.K (.ref C) f = some none) (ry : RelV y u)
    (h : ∀ da s', H da = none → da ≠ a → Inv X pins σ (upd (upd H da (exd da [(f, y)])) a (exo a C (some da))) s' → Q () s') : wpAny (model X.prog X.w) A (setAttr (.ref a) f u) Q E s := by
  obtain ⟨cd, c1, c2, c3⟩ := T.cd
  obtain ⟨t0, ho⟩ := exo_at I.hok e
  obtain ⟨hq0, g, d, t, os⟩ := s
  refine PySem.W.set_plain I.kIn (ox := { cls := .ref C, dict := none, data := .fields #[.ref t0, .none, .none, .none, .bool false, .none] }) (od := none) ⟨ho, rfl, rfl, trivial⟩ T.sa ?_
  refine put_first I.kIn ho c1 c2 T.T.ne T.T.hO T.T.ps c3 hno (fun h' tk' da k dn dne hx hn => ?_)
  have z1 : H da = none := I.hok.fresh dn
  have z2 : ∀ {b : Addr} {o : Obj}, hq0.get? b = some o → b ≠ da := fun {b o} q => Nat.ne_of_lt (Nat.lt_of_lt_of_le (Heap.lt_size q) dn)
  have z3 : ∀ {b : Addr}, H b = none → b ≠ a := fun {b} n z => by
    rw [z, e] at n
    cases n
  have U : Un X.fs [] H (upd (upd H da (exd da [(f, y)])) a (exo a C (some da))) hq0 h' := {
    keep := fun b o q n _ _ => k b o (z3 n) q
    slot := fun b o q n _ _ => ⟨o.slots, k b o (z3 n) q⟩
    free := fun b o q n _ => (upd_ne (z3 n)).trans ((upd_ne (z2 q)).trans n)
    there := fun b o q _ => if hb : b = a then ⟨_, hb ▸ hx⟩ else ⟨o, k b o hb q⟩
    tups := fun b xs q => (upd_ne (at_ne e q exo_tup)).trans ((upd_ne (ne_of_none q z1)).trans q)
    frzs := fun b o v q => (upd_ne (at_ne e q exo_frz)).trans ((upd_ne (ne_of_none q z1)).trans q)
    tbls := fun b ps q => ⟨#[], by rw [upd_ne (at_ne e q exo_tbl), upd_ne (ne_of_none q z1), q, Array.append_empty]⟩ }
  refine h da _ z1 dne (I.un (t' := tk') U fun b o q => ?_)
  by_cases hb : b = a
  · subst hb; rw [upd_same] at q; cases q; exact exo_ok hx
  · rw [upd_ne hb] at q
    by_cases hd : b = da
    · subst hd; rw [upd_same] at q; cases q; exact exd_ok hn (relO_put (fs := []) ry fun g => True.intro)
    · rw [upd_ne hd] at q
      exact (I.hok b o q).stay (fun c v hc z => k c v (hc.elim (fun hc => hc ▸ hb) (fun hc => at_ne e hc exo_own)) z)
        (fun c hc => (upd_ne (at_ne e hc exo_own)).trans ((upd_ne (ne_of_none hc z1)).trans hc)) (fun c xs hc => (upd_ne (at_ne e hc exo_tup)).trans ((upd_ne (ne_of_none hc z1)).trans hc))
theorem st_next (T : OexG tl B newId initId bmB X.K C) (I : Inv X pins σ H s) (e : H a = some (exo a C (some da))) (ed : H da = some (exd da fs)) (hl0 : fs.length ≤ 900) (hno : PySem.W.findIn X.K (.ref C) f = some none) (ry : RelV y u)
    (h : ∀ s', Inv X pins σ (upd H da (exd da ((f, y) :: fs))) s' → Q () s') : wpAny (model X.prog X.w) A (setAttr (.ref a) f u) Q E s := by
  obtain ⟨cd, c1, c2, c3⟩ := T.cd
  obtain ⟨t0, ho⟩ := exo_at I.hok e
  obtain ⟨mm, hn0, rl⟩ := exd_at I.hok ed
  obtain ⟨hq0, g, d, t, os⟩ := s
  obtain ⟨ob, _, _, hob, _, _⟩ := hn0.count (within_of rl)
  refine PySem.W.set_plain I.kIn (ox := { cls := .ref C, dict := some da, data := .fields #[.ref t0, .none, .none, .none, .bool false, .none] }) (od := some ob) ⟨ho, rfl, rfl, hob⟩ T.sa ?_
  refine put_next I.kIn ho hn0 (within_of rl) (by rw [List.length_map]; omega) c1 c2 T.T.ne T.T.hO T.T.ps c3 hno (fun h' tk' k hn => ?_)
  have hd : ∃ o, h'.get? da = some o := match hn with | ⟨o1, _, _, e', _⟩ => ⟨o1, e'⟩
  exact h _ (I.write (t' := tk') (x := da) (e := da) (o := exd da ((f, y) :: fs)) (by rw [ed]; exact True.intro) (.inl rfl) k hd (exd_ok hn (relO_put ry rl)))
end
/-- self.f = e in an own error's __init__ -/
def tOsg (tl : List Value) (B newId initId : String) (bmB : List Value) (K : PySem.W.Frag) (f : Str) (to te : TE) : TS := fun D σ H => te σ H fun y H1 => to σ H1 fun x H2 => ∃ a C : Addr, x = .ref a ∧ OexG tl B newId initId bmB K C ∧ PySem.W.findIn K (.ref C) f = some none ∧
  ((H2 a = some (exo a C none) ∧ ∀ da, H2 da = none → da ≠ a → D.nx σ (upd (upd H2 da (exd da [(f, y)])) a (exo a C (some da)))) ∨
    ∃ (da : Addr) (fs : List (Str × V)), H2 a = some (exo a C (some da)) ∧ H2 da = some (exd da fs) ∧ fs.length ≤ 900 ∧ D.nx σ (upd H2 da (exd da ((f, y) :: fs))))
section
variable {tl : List Value} {B newId initId : String} {bmB : List Value} {X : Cx} {o e : Expr} {es : List Expr} {to te : TE} {ta : TA} {f : Str} {p p' p1 p2 pos : Pos}
theorem ps_osg (ho : PE X o to) (he : PE X e te) (hs : swapsWith e (some (.Attribute o f p')) pos.line X.env = pure false := by rfl) : PS X (.Assign [.Attribute o f p'] e pos) (tOsg tl B newId initId bmB X.K f to te) := by
  refine ⟨fun pins s σ H D I h => plainObj_wpAny_Assign_Attribute (thn (he.run pins s σ H _ I h) fun v s1 ⟨y, H1, I1, r1, q1⟩ => thn (ho.run pins s1 σ H1 _ I1 q1) fun u s2 ⟨x, H2, I2, r2, a, C, ex, T, hno, q⟩ => ?_) hs⟩
  subst ex; obtain rfl : u = Value.ref a := r2
  exact q.elim (fun ⟨ea, q⟩ => st_first T I2 ea hno r1 fun da s' n ne J => ⟨σ, _, J, q da n ne⟩) (fun ⟨da, fs, ea, ed, hl0, q⟩ => st_next T I2 ea ed hl0 hno r1 fun s' J => ⟨σ, _, J, q⟩)
theorem pmk_oeg {CX : CXT} {x : Str} {C fI : Addr} {k : Nat} {fd : FuncData} {ps : List Str} {sp : Sp} (T : OexG tl B newId initId bmB X.K C) (iC : PySem.W.findIn X.K (.ref C) "__init__" = some (some (.ref fI))) (tI : PySem.W.typeIn X.K (.ref fI) = some (.type "function"))
    (F1 : FnOk X.prog X.w X.K X.mg X.base CX k fI fd ps sp) (hr : Room (k + 1) X.A) (hb : Binds X.K fd ps []) (hx : Passes CX X (fun _ _ _ => False)) (hg : Gl X x) (hm : X.mg x = some (.ref C)) (ha : PA X (e :: es) ta)
    (hdb : (x == ("__debug__" : Str)) = false := by decide) (he : starEach (e :: es) X.env = (false, eval e X.env) :: starEach es X.env := by rfl) (hpl : (backTo pos (starEach es X.env)).any (·.1) = false := by rfl) :
    PMk X (.Call (.Name x p) (e :: es) [] pos) (tMkO C sp [] ta) := by
  intro pins s σ H Q I h
  obtain ⟨nm, q, N, bs, bm, sn, sub, ab, col, dd, k0, k1, k2, k3, k5, hC, hbm⟩ := T.cls
  refine wpAny_Call_Name_kw (ld_glob I hg hm (PySem.W.callWith_K (h₀ := X.base) I.ok.mod.kin T.kC (thn (ha.run pos pins s σ H _ I h) fun us s1 ⟨vs, H1, I1, r1, hz, q1⟩ => ⟨I1.kIn, (?_ : wpAny _ _ (call (.ref C) us) _ _ _)⟩) he hpl) hdb)
  obtain ⟨hq0, g, dr, tk, os⟩ := s1
  have sz : hq0.objs.size ≤ hq0.objs.size + 1 := Nat.le_succ _
  have hq := q1 (hq0.objs.size + 1) (I1.hok.fresh sz)
  have kp : ∀ b o, hq0.get? b = some o → ((hq0.push (PySem.W.kdv_tup us)).push (PySem.HandSPX.excO C hq0.objs.size)).get? b = some o := fun b o e => Heap.get?_push_of_some _ (Heap.get?_push_of_some _ e)
  have hg1 : ((hq0.push (PySem.W.kdv_tup us)).push (PySem.HandSPX.excO C hq0.objs.size)).get? (hq0.objs.size + 1) = some (PySem.HandSPX.excO C hq0.objs.size) := by heap_get
  have I2 : Inv X pins σ (upd H1 (hq0.objs.size + 1) (exo (hq0.objs.size + 1) C none)) ⟨(hq0.push (PySem.W.kdv_tup us)).push (PySem.HandSPX.excO C hq0.objs.size), g, dr, tk, os⟩ := I1.laid (t' := tk) (a := hq0.objs.size + 1) (o := exo (hq0.objs.size + 1) C none) kp sz (exo_ok hg1)
  have rv2 : Vals (V.ref (hq0.objs.size + 1) :: (vs ++ [])) (Value.ref (hq0.objs.size + 1) :: (us ++ [])) := .cons rfl (r1.append .nil)
  have hl0 : (Value.ref (hq0.objs.size + 1) :: us ++ []).length = ps.length := (rv2.length.symm.trans (F1.len _ _ _ _ hq)) ▸ rfl
  have hus : us.length ≤ sizeLine := by rw [← Paired.length r1, sizeLine_eq]; omega
  refine wpAny_call (call_new T.T hbm (I1.kIn _ _ hC) (PySem.W.looks_findIn I1.kIn iC) (fun self => PySem.W.bind_fn I1.kIn self tI) hus
    (codeAny_mono (F1.run _ X.stack _ _ ⟨Value.ref (hq0.objs.size + 1) :: us, []⟩ (Value.ref (hq0.objs.size + 1) :: (us ++ [])) _ _ (fun _ _ _ => False) (hr.make C us []) (I2.env0.make C us []) (by simpa only [List.append_nil, List.cons_append] using hb _ (Value.ref (hq0.objs.size + 1) :: us) I2.kIn hl0) rv2 hq) fun r s' hq' => ?_))
  match r, hq' with
  | .error er, hq' => exact hx pins σ _ _ er s' I2 hq'
  | .ok (.ret u), ⟨v, H2, os2, bare2, un2, hok2, rv, ev, d, fs, ea, ed, hd1, q2⟩ =>
    subst ev; obtain ⟨h2, g2, d2, t2, os'⟩ := s'
    exact ⟨rv, mk_end (raises_own T.exC T.tyC) I1 sz kp un2 hok2 os2 bare2 ea ed hd1 q2⟩
  | .ok .next, z => exact False.elim z
  | .ok .brk, z => exact False.elim z
  | .ok .cont, z => exact False.elim z
end
end Cp

set_option Elab.async false
set_option linter.all false
set_option maxRecDepth 100000
/-! ### what is asked of an own error class, as a Bool over the written part -/
namespace Cp
open PySem PySem.Spec L2 PyProof.Rows
def oegMro (tl : List Value) (C : Addr) : List Value → Bool
  | .ref c :: r => c == C && overB tl r
  | _ => false
def oegObj (tl : List Value) (newId : String) (C : Addr) (o : Obj) : Bool := match o with
  | ⟨.type "type", _, .cls cd, sl⟩ => oegMro tl C cd.mro && (cd.hasDict && (!cd.hasDel && (match sl.toList with
    | [_, _, _, _, some (.builtin n), _] => n == newId
    | _ => false)))
  | _ => false
def oegB (tl : List Value) (newId : String) (K : PySem.W.Frag) (C : Addr) : Bool := (K.lookup C).any (oegObj tl newId C) && (decide (PySem.W.findIn K (.ref C) "__setattr__" = some (some (.builtin "object.__setattr__"))) &&
  (decide (PySem.W.subIn K (.ref C) (.type "BaseException") = some true) && (decide (PySem.W.typeIn K (.ref C) = some (.type "type")) && PySem.W.keepIn K (.ref C))))
theorem OexG.of {tl : List Value} {B newId initId : String} {bmB : List Value} {K : PySem.W.Frag} {C : Addr} (T : Tl tl B newId initId bmB) (h : oegB tl newId K C = true) : OexG tl B newId initId bmB K C := by
  unfold oegB at h
  simp only [Bool.and_eq_true, decide_eq_true_eq] at h
  obtain ⟨h1, h2, h3, h4, h5⟩ := h
  refine ⟨T, ?_, h2, h3, h4, h5⟩
  cases hl : K.lookup C with
  | none => rw [hl] at h1; cases h1
  | some o =>
    rw [hl] at h1
    have h6 : oegObj tl newId C o = true := h1
    unfold oegObj at h6
    split at h6
    · rename_i dd cd sl
      simp only [Bool.and_eq_true, Bool.not_eq_true'] at h6
      obtain ⟨g1, g2, g3, g4⟩ := h6
      unfold oegMro at g1
      split at g1
      · rename_i c r hm
        simp only [Bool.and_eq_true, beq_iff_eq] at g1
        obtain ⟨rfl, go⟩ := g1
        split at g4
        · rename_i k0 k1 k2 k3 n k5 hs
          have en : n = newId := beq_iff_eq.mp g4
          subst en
          obtain ⟨nm, bs, mro, ns, qn, hd, sn, sub, ab, col, del⟩ := cd
          dsimp only at hm g2 g3
          subst hm g2 g3
          obtain ⟨ls⟩ := sl
          dsimp only at hs
          subst hs
          exact ⟨nm, qn, ns, bs, r, sn, sub, ab, col, dd, k0, k1, k2, k3, k5, rfl, Over.of go⟩
        · cases g4
      · cases g1
    · cases h6
end Cp

set_option Elab.async false
set_option linter.all false
set_option maxRecDepth 100000
/-! ### errors as values: made, read, asked for their class, kept behind a try -/
namespace Cp
open PySem PySem.Spec L2 PyProof.Rows
/-- an error of the class at C stands at a, its dict is d -/
def ErAt (H : Hp) (a C : Addr) (d : Option Addr) : Prop := ∃ φ : Heap → Prop, H a = some (.ext φ) ∧ ∀ h, φ h → ∃ (oe : Obj) (vs : Array Value), h.get? a = some oe ∧ Zc (.ref C) d oe ∧ oe.data = .fields vs
/-- the dict of an error -/
def EdAt (H : Hp) (d : Addr) (fs : List (Str × V)) : Prop := H d = some (exd d fs) ∨ H d = some (.xd fs)
theorem ErAt.of_exo {H : Hp} {a C : Addr} {d : Option Addr} (e : H a = some (exo a C d)) : ErAt H a C d := ⟨_, e, fun h z => by
  obtain ⟨t, q⟩ := z
  exact ⟨_, _, q, ⟨rfl, rfl⟩, rfl⟩⟩
theorem ErAt.of_ExO {H : Hp} {a C : Addr} (e : H a = some (ExO (.ref C) a)) : ErAt H a C none := ⟨_, e, fun h z => by
  obtain ⟨oe, vs, q, zc, hd, _⟩ := z
  exact ⟨oe, vs, q, zc, hd⟩⟩
theorem ErAt.same {H H' : Hp} {a C : Addr} {d : Option Addr} (e : ErAt H a C d) (s : Same H H') : ErAt H' a C d := by
  obtain ⟨φ, h1, h2⟩ := e
  exact ⟨φ, s _ _ h1, h2⟩
theorem EdAt.same {H H' : Hp} {d : Addr} {fs : List (Str × V)} (e : EdAt H d fs) (s : Same H H') : EdAt H' d fs := e.elim (fun z => .inl (s _ _ z)) fun z => .inr (s _ _ z)
/-- a whole error: its fields -/
def Err (H : Hp) (a C : Addr) (fs : List (Str × V)) : Prop := ∃ d, ErAt H a C (some d) ∧ EdAt H d fs
theorem Err.same {H H' : Hp} {a C : Addr} {fs : List (Str × V)} (e : Err H a C fs) (s : Same H H') : Err H' a C fs := by
  obtain ⟨d, h1, h2⟩ := e
  exact ⟨d, h1.same s, h2.same s⟩
/-- an error with or without fields -/
def ErrW (H : Hp) (a C : Addr) : Prop := ErAt H a C none ∨ ∃ fs, Err H a C fs
theorem ErrW.same {H H' : Hp} {a C : Addr} (e : ErrW H a C) (s : Same H H') : ErrW H' a C := e.elim (fun z => .inl (z.same s)) fun ⟨fs, z⟩ => .inr ⟨fs, z.same s⟩
section
variable {X : Cx} {pins : List (Addr × Obj)} {σ : L2.St} {H : Hp} {s : Shared}
theorem EdAt.look {d : Addr} {fs : List (Str × V)} (I : Inv X pins σ H s) (e : EdAt H d fs) : ∃ mA, s.heap.Ns1 d mA ∧ ∀ f, RelO (fs.lookup f) (mA f) := by
  rcases e with e | e
  · exact exd_at I.hok e
  · exact I.hok d _ e
theorem ErAt.raw {a C : Addr} {d : Option Addr} (I : Inv X pins σ H s) (e : ErAt H a C d) : ∃ (oe : Obj) (vs : Array Value), s.heap.get? a = some oe ∧ Zc (.ref C) d oe ∧ oe.data = .fields vs := by
  obtain ⟨φ, h1, h2⟩ := e
  have x : ObjOk X.prog X.w H s.heap a (.ext φ) := I.hok a _ h1
  exact h2 _ x.1
theorem ErrW.inst {a C : Addr} (I : Inv X pins σ H s) (e : ErrW H a C) : ∃ oe od, PySem.W.InstAt s.heap a oe C od := by
  rcases e with e | ⟨fs, d, e, ed⟩
  · obtain ⟨oe, vs, g, z, hv⟩ := e.raw I
    exact ⟨oe, none, g, z.1, by unfold PySem.W.notCls; rw [hv], by rw [z.2]; trivial⟩
  · obtain ⟨oe, vs, g, z, hv⟩ := e.raw I
    obtain ⟨mA, hns, _⟩ := ed.look I
    obtain ⟨od, ho, _⟩ := lookIn_ns hns
    exact ⟨oe, some od, g, z.1, by unfold PySem.W.notCls; rw [hv], by rw [z.2]; exact ho⟩
end
/-- e.n of an error that is tracked -/
def tEf (K : PySem.W.Frag) (n : Str) (te : TE) : TE := fun σ H Q => te σ H fun x H1 => ∃ (a C : Addr) (fs : List (Str × V)) (v : V), x = .ref a ∧ XfC K C ∧ PySem.W.findIn K (.ref C) n = some none ∧ Err H1 a C fs ∧ fs.lookup n = some v ∧ Q v H1
theorem pe_ef {X : Cx} {e : Expr} {te : TE} {pos : Pos} {n : Str} (he : PE X e te) (hb : attributeBase e n X.env (eval e X.env) = eval e X.env := by rfl) : PE X (.Attribute e n pos) (tEf X.K n te) := by
  constructor
  intro pins s σ H Q I h
  refine attr_of hb (thn (he.run pins s σ H _ I h) ?_)
  intro u s1 hh
  obtain ⟨x, H1, I1, rx, a, C, fs, v, ex, T, noF, ⟨dd, ea, ed⟩, look, q⟩ := hh
  subst ex
  obtain rfl : u = Value.ref a := rx
  obtain ⟨oe, vs, pinned, hz, hd⟩ := ea.raw I1
  obtain ⟨mA, hns, hr⟩ := ed.look I1
  obtain ⟨od, ho, hl⟩ := lookIn_ns hns
  obtain ⟨u, hu, ru⟩ := RelO.some_of (v := v) (o := mA n) (by rw [← look]; exact hr n)
  have inst : PySem.W.InstAt s1.heap a oe C (some od) := by
    refine ⟨pinned, hz.1, ?_, ?_⟩
    · unfold PySem.W.notCls; rw [hd]
    · rw [hz.2]; exact ho
  have found := PySem.W.findObj_own T.hdC noF rfl (show _ = _ by rw [hl, hu])
  exact HandSPX.exc_get I1.kIn inst T.ga T.gg T.exC found (handed_of ru) ⟨v, H1, I1.tok _, ru, q⟩
/-- isinstance(e, c) of an error that is tracked -/
def rIsR (K : PySem.W.Frag) : List V → Hp → VK → Prop := fun xs H Q => ∃ (a D : Addr) (c : V) (cv : Value) (b : Bool), xs = [.ref a, c] ∧ ErrW H a D ∧ ExcC K D ∧ (∀ u, RelV c u → u = cv) ∧ PySem.W.kitOne K (.ref D) cv = some b ∧ Q (.bl b) H
theorem call_isR {X : Cx} : CallR X (.builtin "isinstance") (rIsR X.K) := by
  intro pins s σ H xs us Q I r h
  obtain ⟨a, D, c, cv, b, rfl, he, C, hcv, e, q⟩ := h
  cases r with
  | cons rx rr =>
    cases rr with
    | cons rt rr =>
      cases rr
      cases rx
      obtain ⟨oe, od, J⟩ := he.inst I
      have ec := hcv _ rt
      subst ec
      exact PySem.W.kia_one (held_kit C) I.kIn J e (fun z => nomatch z) fun tk => ⟨.bl b, H, I.kept (t' := tk) fun _ _ z => z, rfl, q⟩
/-- C(e, ..), an own error class with an __init__: the error as a value -/
def tMkV (C : Addr) (sp : Sp) (ta : TA) : TE := fun σ H Q => ta σ H fun vs H1 => vs.length ≤ 1000 ∧ ∀ a, H1 a = none → sp (.ref a :: vs) (upd H1 a (exo a C none)) (fun v H2 => v = .non ∧ Q (.ref a) H2) (fun _ _ _ => False)
section
variable {tl : List Value} {B newId initId : String} {bmB : List Value} {X : Cx} {e : Expr} {es : List Expr} {ta : TA} {p pos : Pos}
theorem pe_mkv {x : Str} {C fI : Addr} {k : Nat} {fd : FuncData} {ps : List Str} {sp : Sp} (T : OexG tl B newId initId bmB X.K C) (iC : PySem.W.findIn X.K (.ref C) "__init__" = some (some (.ref fI))) (tI : PySem.W.typeIn X.K (.ref fI) = some (.type "function"))
    (F1 : FnOk X.prog X.w X.K X.mg X.base CX0 k fI fd ps sp) (hr : Room (k + 1) X.A) (hb : Binds X.K fd ps []) (hg : Gl X x) (hm : X.mg x = some (.ref C)) (ha : PA X (e :: es) ta)
    (hdb : (x == ("__debug__" : Str)) = false := by decide) (he : starEach (e :: es) X.env = (false, eval e X.env) :: starEach es X.env := by rfl) (hpl : (backTo pos (starEach es X.env)).any (·.1) = false := by rfl) :
    PE X (.Call (.Name x p) (e :: es) [] pos) (tMkV C sp ta) := by
  constructor
  intro pins s σ H Q I h
  obtain ⟨nm, q, N, bs, bm, sn, sub, ab, col, dd, k0, k1, k2, k3, k5, hC, hbm⟩ := T.cls
  refine wpAny_Call_Name_kw (ld_glob I hg hm (PySem.W.callWith_K (h₀ := X.base) I.ok.mod.kin T.kC (thn (ha.run pos pins s σ H _ I h) fun us s1 ⟨vs, H1, I1, r1, hz, q1⟩ => ⟨I1.kIn, (?_ : wpAny _ _ (call (.ref C) us) _ _ _)⟩) he hpl) hdb)
  obtain ⟨hq0, g, dr, tk, os⟩ := s1
  have sz : hq0.objs.size ≤ hq0.objs.size + 1 := Nat.le_succ _
  have hq := q1 (hq0.objs.size + 1) (I1.hok.fresh sz)
  have kp : ∀ b o, hq0.get? b = some o → ((hq0.push (PySem.W.kdv_tup us)).push (PySem.HandSPX.excO C hq0.objs.size)).get? b = some o := fun b o e => Heap.get?_push_of_some _ (Heap.get?_push_of_some _ e)
  have hg1 : ((hq0.push (PySem.W.kdv_tup us)).push (PySem.HandSPX.excO C hq0.objs.size)).get? (hq0.objs.size + 1) = some (PySem.HandSPX.excO C hq0.objs.size) := by heap_get
  have I2 : Inv X pins σ (upd H1 (hq0.objs.size + 1) (exo (hq0.objs.size + 1) C none)) ⟨(hq0.push (PySem.W.kdv_tup us)).push (PySem.HandSPX.excO C hq0.objs.size), g, dr, tk, os⟩ := I1.laid (t' := tk) (a := hq0.objs.size + 1) (o := exo (hq0.objs.size + 1) C none) kp sz (exo_ok hg1)
  have rv2 : Vals (V.ref (hq0.objs.size + 1) :: vs) (Value.ref (hq0.objs.size + 1) :: us) := .cons rfl r1
  have hl0 : (Value.ref (hq0.objs.size + 1) :: us ++ []).length = ps.length := by rw [List.append_nil]; exact (rv2.length.symm.trans (F1.len _ _ _ _ hq))
  have hus : us.length ≤ sizeLine := by rw [← Paired.length r1, sizeLine_eq]; omega
  refine wpAny_call (call_new T.T hbm (I1.kIn _ _ hC) (PySem.W.looks_findIn I1.kIn iC) (fun self => PySem.W.bind_fn I1.kIn self tI) hus
    (codeAny_mono (F1.run _ X.stack _ _ ⟨Value.ref (hq0.objs.size + 1) :: us, []⟩ (Value.ref (hq0.objs.size + 1) :: us) _ _ (fun _ _ _ => False) (hr.make C us []) (I2.env0.make C us []) (by simpa only [List.append_nil, List.cons_append] using hb _ (Value.ref (hq0.objs.size + 1) :: us) I2.kIn hl0) rv2 hq) fun r s' hq' => ?_))
  match r, hq' with
  | .error er, z => exact False.elim z
  | .ok (.ret u), ⟨v, H2, os2, bare2, un2, hok2, rv, ev, q2⟩ =>
    subst ev
    exact ⟨rv, I2.after ⟨.ref (hq0.objs.size + 1), H2, os2, bare2, un2, hok2, rfl, q2⟩⟩
  | .ok .next, z => exact False.elim z
  | .ok .brk, z => exact False.elim z
  | .ok .cont, z => exact False.elim z
end
end Cp

set_option Elab.async false
set_option linter.all false
set_option maxRecDepth 100000
/-! ### an error that was caught is tracked behind its try -/
namespace Cp
open PySem PySem.Spec L2 PyProof.Rows
/-- an error of the class cls, with the dict d, at a -/
def exh (a : Addr) (cls : Value) (d : Option Addr) : HO := .ext fun h => ∃ (oe : Obj) (vs : Array Value), h.get? a = some oe ∧ Zc cls d oe ∧ oe.data = .fields vs
theorem ErAt.of_exh {H : Hp} {a C : Addr} {d : Option Addr} (e : H a = some (exh a (.ref C) d)) : ErAt H a C d := ⟨_, e, fun h z => z⟩
theorem adopt {X : Cx} {pins : List (Addr × Obj)} {σ : L2.St} {H : Hp} {s : Shared} {a : Addr} {cls : Value} {d : Option Addr} {oe : Obj} (I : Inv X pins σ H s) (new : X.s_0.heap.get? a = none) (g : s.heap.get? a = some oe) (z : Zc cls d oe) (hv : ∃ vs, oe.data = .fields vs)
    (na : H a = none) (nl : a ≠ X.env.locals) (np : ∀ p ∈ X.pn ++ pins, p.1 ≠ a) : Inv X pins σ (upd H a (exh a cls d)) s := by
  obtain ⟨vs, hd⟩ := hv
  have up : ∀ {b : Addr} {o : HO}, H b = some o → upd H a (exh a cls d) b = some o := fun {b o} e => by rw [upd_ne (ne_of_none e na)]; exact e
  have un : ∀ {b : Addr}, b ≠ a → H b = none → upd H a (exh a cls d) b = none := fun {b} hb e => by rw [upd_ne hb]; exact e
  refine ⟨I.ok, I.os, I.bare, ⟨I.base.keep, I.base.slot, fun b o e n hx => un (fun q => ?_) (I.base.free b o e n hx), I.base.there, fun b xs e => up (I.base.tups b xs e), fun b o u e => up (I.base.frzs b o u e), fun b ps e => ?_⟩, I.loc, I.cell, un nl.symm I.free, fun x c e => un (fun q => ?_) (I.freeC x c e), fun p hp => ?_, fun b o e => ?_, I.len⟩
  · rw [q, new] at e; cases e
  · obtain ⟨more, q⟩ := I.base.tbls b ps e
    exact ⟨more, up q⟩
  · obtain ⟨v, o, ho, hc⟩ := I.cell x c e
    rw [q, g] at ho
    cases ho
    rw [hd] at hc
    cases hc
  · obtain ⟨p1, p2, p3⟩ := I.pin p hp
    exact ⟨p1, un (np p hp) p2, p3⟩
  · by_cases hb : b = a
    · subst hb
      rw [upd_same] at e
      cases e
      exact ⟨⟨oe, vs, g, z, hd⟩, ⟨oe, g⟩, fun h1 h2 y k => by
        obtain ⟨oe', vs', g', r⟩ := y
        exact ⟨oe', vs', k _ g', r⟩⟩
    · rw [upd_ne hb] at e
      exact (I.hok b o e).stay (fun _ _ _ q => q) (fun _ q => up q) fun _ _ q => up q
/-- what is wished of an error of the body: behind the suite the error is tracked -/
def wAdopt (K : PySem.W.Frag) (c : Value) (i : Nat) (ts : Addr → Value → Option Addr → TS) (u : TS) (Wout : WX) (D : Ends) : WX := fun cls d σ H =>
  ∃ b, PySem.W.exmOne K cls c = some b ∧
    (b = true → ∀ a, H a = none → ts a cls d { nx := fun σ1 H1 => H1 a = none ∧ u D (σ1.set i none) (upd H1 a (exh a cls d)), rt := fun _ _ => False, bk := fun _ _ => False, ct := fun _ _ => False } (σ.set i (some (.ref a))) H) ∧
    (b = false → Wout cls d σ H)
section
variable {X : Cx} {x n : Str} {c : Value} {i : Nat} {body suite rest : List Stmt} {b₀ : Stmt} {np pos pos' : Pos} {tb : WX → TS} {u : TS} {ts : Addr → Value → Option Addr → TS} {Wout : WX}
theorem pss_try_adopt (hex : X.ex = []) (hs : X.stack = X.env :: X.outer) (hf : X.env.frame = some X.env.locals) (hN : X.N.Nodup) (hi : X.N[i]? = some n) (hln : X.env.kindOf n = some .local) (hc : Names X x c) (tk : Takes X Wout)
    (hb : ∀ (W : WX) (pn : List (Addr × Obj)) (xe : Value → Shared → Prop), Takes (X.tr pn xe) W → PassesOwn (model X.prog X.w) X.A X.env xe → PSs (X.tr pn xe) body (tb W))
    (hsu : ∀ (a : Addr) (oe : Obj) (cls : Value) (d : Option Addr) (pn : List (Addr × Obj)), Zc cls d oe → (∃ vs, oe.data = .fields vs) → PSs (X.suite a ((a, oe) :: pn)) (b₀ :: suite) (ts a cls d))
    (hrest : PSs X rest u) :
    PSs X (.Try body [.ExceptHandler (some (.Name x np)) (some n) (b₀ :: suite) pos'] [] [] pos :: rest) (fun D σ H => tb (wAdopt X.K c i ts u Wout D) { D with nx := u D } σ H) := by
  constructor
  intro pins s σ H D I h
  have ok := I.ok
  have frm : X.A.frames = some (X.env :: X.outer) := by rw [ok.frames, hs]
  have locN : Loc X.env.scope n := Or.inl hln
  refine wpAny_execs_cons (wpAny_Try_except ?_)
  refine wpAny_mono ((hb (wAdopt X.K c i ts u Wout D) (X.pn ++ pins) _ ?ca PassesOwn.looking).run [] s σ H { D with nx := u D } (I.toTry _) h) ?en (fun e s1 he => he)
  case en =>
    intro f s1 hsp
    match f, hsp with
    | .next, ⟨σ1, H1, J, q⟩ => exact wpAny_execs_nil (hrest.run pins s1 σ1 H1 D (J.ofTry ok) q)
    | .brk, ⟨σ1, H1, J, q⟩ => exact ⟨σ1, H1, J.ofTry ok, q⟩
    | .cont, ⟨σ1, H1, J, q⟩ => exact ⟨σ1, H1, J.ofTry ok, q⟩
    | .ret v1, ⟨v, σ1, H1, J, r, q⟩ => exact ⟨v, σ1, H1, J.ofTry ok, r, q⟩
  case ca =>
    intro ev s2 hx
    obtain ⟨a, B, sI, pinsI, σI, HI, cls, d, ea, JI, kB, upI, skyI, na, osI, bareI, b, hb1, yes, no⟩ := hx
    subst ea
    have J : Inv X pins σI HI sI := JI.ofTry ok
    have sky : Sky B (X.env :: X.outer) a (Zc cls d) X.env.locals s2.heap := by rw [← hs]; exact skyI
    show wpAny (model X.prog X.w) X.A (noteFrame (.ref a) X.env) _ _ _
    refine Sky.land Zc.steady frm hf sky fun h3 fl3 up3 => ?_
    have J3 : Inv X pins σI HI { s2 with heap := h3 } := J.landed kB fl3.1 (upI.trans up3) osI bareI
    obtain ⟨oe3, vs3, he3, hz3, hd3⟩ := fl3.there
    have away : a ∉ frs (X.env :: X.outer) := by
      intro hm
      obtain ⟨_, o', e', hnf⟩ := fl3.2.2.1.mem hm
      rw [he3] at e'
      cases e'
      exact hnf _ hd3
    have awayL : a ≠ X.env.locals := fun z => away (List.mem_filterMap.mpr ⟨X.env, List.mem_cons_self, by rw [hf, z]⟩)
    have awayF : a ∉ X.fs := by
      intro hm
      obtain ⟨e, he, q⟩ := List.mem_filterMap.mp hm
      exact away (List.mem_filterMap.mpr ⟨e, List.mem_cons_of_mem _ he, q⟩)
    have notI : sI.heap.get? a = none := by
      cases q : sI.heap.get? a with
      | none => rfl
      | some o =>
        have q1 := kB a o q (by rw [hs]; exact away)
        have q2 := fl3.2.1
        rw [q1] at q2
        cases q2
    have not0 : X.s_0.heap.get? a = none := by
      cases q : X.s_0.heap.get? a with
      | none => rfl
      | some o =>
        obtain ⟨o', q'⟩ := J.base.there a o q (by rw [hex]; exact List.not_mem_nil)
        rw [notI] at q'
        cases q'
    have pinI : ∀ p ∈ X.pn ++ pins, p.1 ≠ a := fun p hp z => by
      have q := (J.pin p hp).1
      rw [z, notI] at q
      cases q
    have S3 := J3.suite he3 hd3 na awayL awayF
    refine wpAny_handleBy_cons (codeAny_handlers_test ?_) (fun q => by cases q)
    have ty3 : PySem.W.Looks (model X.prog X.w) h3 (typeOf (.ref a)) cls := by
      intro A Q E s' k q
      refine wpAny_typeOf_ref (k _ _ he3) ?_
      rw [hz3.1]
      exact q
    have ask := PySem.W.exm_one (M := model X.prog X.w) J3.kIn ty3 hb1
    have named : ∀ {Q : Value → Shared → Prop} {E : Value → Shared → Prop}, Q c { s2 with heap := h3 } → wpAny (model X.prog X.w) (X.A.mark (some (.ref a))) (eval (.Name x np) X.env) Q E { s2 with heap := h3 } := by
      intro Q E q
      obtain ⟨hg, hdb, hm⟩ := hc
      rcases hm with hm | ⟨hm, hv, hnn⟩
      · exact ld_glob (X := X.suite a ((a, oe3) :: (X.pn ++ pins))) S3 hg hm q hdb
      · exact ld_blt (X := X.suite a ((a, oe3) :: (X.pn ++ pins))) S3 hg hm hv q hnn hdb
    refine named (ask.here ?_)
    match b, yes, no with
    | true, yes, _ =>
      refine codeAny_handlers_suite_as (HandSPX.lands_againZ fl3 fun h4 fl4 up4 => ?_)
      have J4 : Inv X pins σI HI { s2 with heap := h4 } := J.landed kB fl4.1 ((upI.trans up3).trans up4) osI bareI
      obtain ⟨oe4, vs4, he4, hz4, hd4⟩ := fl4.there
      have S4 := J4.suite he4 hd4 na awayL awayF
      refine store_ok (X := X.suite a ((a, oe4) :: (X.pn ++ pins))) (v := .ref a) S4 hN hi locN rfl (fun s5 S5 => ?_) (Or.inr hln)
      refine wpAny_mono ((hsu a oe4 cls d (X.pn ++ pins) hz4 ⟨_, hd4⟩).run [] s5 _ HI _ S5 (yes rfl a na)) ?_ (fun _ _ z => z.elim)
      intro f s6 hsp
      match f, hsp with
      | .next, ⟨σ6, H6, S6, na6, q6⟩ =>
        refine gone_ok (X := held X ((a, oe4) :: (X.pn ++ pins))) (held_of S6 ok) hN hi hln fun s7 J7 => ?_
        have g7 := (J7.pin (a, oe4) (List.mem_append_left _ List.mem_cons_self)).1
        exact hrest.run pins s7 _ _ D (adopt (unheld J7 ok) not0 g7 hz4 ⟨_, hd4⟩ na6 awayL pinI) q6
      | .brk, ⟨_, _, _, q⟩ => exact q.elim
      | .cont, ⟨_, _, _, q⟩ => exact q.elim
      | .ret u6, ⟨_, _, _, _, _, q⟩ => exact q.elim
    | false, _, no =>
      show wpAny _ X.A (handleBy (.ref a) X.env []) _ _ _
      refine wpAny_handleBy_nil ?_
      obtain ⟨_, _, _, oe, vs, T, oT, ts', he, hz, hd, h1, hr⟩ := id fl3
      unfold PySem.passOn
      refine wpAny_bind (wpAny_field he hd h1 ?_)
      rw [if_neg (show ¬ ((Value.ref T == Value.none) = true) by simp)]
      have on : ∀ {Q : Flow → Shared → Prop}, wpAny (model X.prog X.w) X.A (setFlight (.ref a) X.env.frame) (fun _ s4 => wpAny (model X.prog X.w) X.A (throw (.ref a) : Sem Flow) Q X.xe s4) X.xe { s2 with heap := h3 } := by
        intro Q
        rw [hf]
        refine HandSPX.setFlight_upZ fl3 fun h4 hh4 up4 => wpAny_throw (tk _ _ ?_)
        refine ⟨a, B, sI, pins, σI, HI, cls, d, rfl, J, kB, (upI.trans up3).trans up4, Or.inr (Or.inr ?_), na, osI, bareI, no rfl⟩
        rw [hs]
        exact hh4
      first
        | exact wpAny_bind (wpAny_pure (wpAny_bind on))
        | exact wpAny_bind on
end
end Cp

set_option Elab.async false
set_option linter.all false
set_option maxRecDepth 100000
/-! ### repr of data in which empty dicts may stand -/
namespace Cp
open PySem PySem.Spec L2 PyProof.Rows
mutual
/-- tracked data: the empty dict is one, too -/
inductive Dq (H : Hp) : V → PyData → Prop
  | non : Dq H .non .none
  | bl (b : Bool) : Dq H (.bl b) (.bool b)
  | int (i : Int) : Dq H (.int i) (.int i)
  | str (x : Str) : Dq H (.str x) (.str x)
  | lst {a : Addr} {xs : List V} {ds : List PyData} : H a = some (.lst xs) → DqAll H xs ds → Dq H (.ref a) (.list ds)
  | tup {a : Addr} {xs : List V} {ds : List PyData} : H a = some (.tup xs) → DqAll H xs ds → Dq H (.ref a) (.tuple ds)
  | dct {a : Addr} : H a = some (.dK []) → Dq H (.ref a) (.dict [])
inductive DqAll (H : Hp) : List V → List PyData → Prop
  | nil : DqAll H [] []
  | cons {v : V} {vs : List V} {d : PyData} {ds : List PyData} : Dq H v d → DqAll H vs ds → DqAll H (v :: vs) (d :: ds)
end
mutual
theorem Dq.same {H H' : Hp} (s : Same H H') : ∀ {d : PyData} {v : V}, Dq H v d → Dq H' v d
  | .none, _, h => by cases h; exact .non
  | .bool b, _, h => by cases h; exact .bl b
  | .int i, _, h => by cases h; exact .int i
  | .str x, _, h => by cases h; exact .str x
  | .list ds, _, h => by cases h with | lst a b => exact .lst (s _ _ a) (DqAll.same s b)
  | .tuple ds, _, h => by cases h with | tup a b => exact .tup (s _ _ a) (DqAll.same s b)
  | .dict _, _, h => by cases h with | dct a => exact .dct (s _ _ a)
theorem DqAll.same {H H' : Hp} (s : Same H H') : ∀ {ds : List PyData} {vs : List V}, DqAll H vs ds → DqAll H' vs ds
  | [], _, h => by cases h; exact .nil
  | d :: ds, _, h => by cases h with | cons a b => exact .cons (Dq.same s a) (DqAll.same s b)
end
section
variable {X : Cx} {pins : List (Addr × Obj)} {σ : L2.St} {H : Hp} {s : Shared}
/-- what is tracked does not stand where the modules stand -/
theorem trk_mod (hb : ∃ o, X.base.get? sysModules = some o) (I : Inv X pins σ H s) {a : Addr} {o : HO} (e : H a = some o) : a ≠ sysModules := by
  intro q
  obtain ⟨o1, e1⟩ := hb
  have h2 := (I.bs _ _ e1).2
  rw [← q, e] at h2
  cases h2
mutual
theorem Dq.reads (hb : ∃ o, X.base.get? sysModules = some o) (I : Inv X pins σ H s) : ∀ (d : PyData) (v : V) (u : Value), Dq H v d → RelV v u → ∃ as, Reads s.heap u d as ∧ sysModules ∉ as
  | .none, _, _, h, r => by cases h; cases r; exact ⟨_, Reads.none, List.not_mem_nil⟩
  | .bool b, _, _, h, r => by cases h; cases r; exact ⟨_, Reads.bool b, List.not_mem_nil⟩
  | .int i, _, _, h, r => by cases h; obtain ⟨t, rfl⟩ := r; exact ⟨_, Reads.int i t, List.not_mem_nil⟩
  | .str x, _, _, h, r => by cases h; obtain ⟨t, rfl⟩ := r; exact ⟨_, Reads.str x t, List.not_mem_nil⟩
  | .list ds, _, _, h, r => by
    cases h with
    | lst hs ha =>
      cases r
      have hm := trk_mod hb I hs
      obtain ⟨its, rv, ⟨o, n, ho, hc, _, hd⟩, _⟩ := I.list (SqL.of hs)
      obtain ⟨as, hr, hn⟩ := DqAll.reads hb I ds _ its ha rv
      exact ⟨_, Reads.list ho hc hd hr, fun q => (List.mem_cons.mp q).elim (fun q => hm q.symm) hn⟩
  | .tuple ds, _, _, h, r => by
    cases h with
    | tup hs ha =>
      cases r
      obtain ⟨its, rv, ⟨o, ho, hc, n, hd⟩, _⟩ := I.tuple (SqT.of hs)
      obtain ⟨as, hr, hn⟩ := DqAll.reads hb I ds _ its ha rv
      exact ⟨_, Reads.tuple ho hc hd hr, hn⟩
  | .dict _, _, _, h, r => by
    cases h with
    | dct hs =>
      cases r
      have hm := trk_mod hb I hs
      obtain ⟨_, _, vs, kv, o, es, ep, ho, hx, hd, _, hp, _⟩ := dk_of I.hok hs
      cases kv
      have e0 : es.toList = [] := by
        generalize es.toList = l at hp
        cases hp
        rfl
      exact ⟨_, Reads.dict (kvs := []) ho hx.1 hd (by rw [e0]; exact .nil) (by rw [e0]; exact .nil), fun q => by simp at q; exact hm q.symm⟩
theorem DqAll.reads (hb : ∃ o, X.base.get? sysModules = some o) (I : Inv X pins σ H s) : ∀ (ds : List PyData) (vs : List V) (us : List Value), DqAll H vs ds → Vals vs us → ∃ as, ReadsAll s.heap us ds as ∧ sysModules ∉ as
  | [], _, _, h, r => by cases h; cases r; exact ⟨_, ReadsAll.nil, List.not_mem_nil⟩
  | d :: ds, _, _, h, r => by
    cases h with
    | cons h1 h2 =>
      cases r with
      | cons r1 r2 =>
        obtain ⟨as, q1, n1⟩ := Dq.reads hb I d _ _ h1 r1
        obtain ⟨bs, q2, n2⟩ := DqAll.reads hb I ds _ _ h2 r2
        exact ⟨_, ReadsAll.cons q1 q2, fun q => (List.mem_append.mp q).elim n1 n2⟩
end
end
/-- what repr asks of data -/
def reprB (d : PyData) : Bool := d.showable && (decide (d.depth ≤ 60) && decide (d.shown.length ≤ sizeLine))
/-- repr of any such data -/
theorem call_reprQ {X : Cx} (hm : ∃ o, X.base.get? sysModules = some o) (hgd : X.A.guards = some []) (hu : X.A.units + 64 < cLine) : CallR X (.builtin "repr") (fun xs H Q => ∃ (v : V) (d : PyData), xs = [v] ∧ Dq H v d ∧ reprB d = true ∧ Q (.str d.shown) H) := by
  intro pins s σ H xs us Q I r h
  obtain ⟨v, d, rfl, hd, hb, q⟩ := h
  unfold reprB at hb
  simp only [Bool.and_eq_true, decide_eq_true_eq] at hb
  obtain ⟨h1, h3, h4⟩ := hb
  obtain ⟨u, rfl, rx⟩ := vals1 r
  obtain ⟨as, rd, nm⟩ := Dq.reads hm I d v u hd rx
  have fin : ∀ h' tk t, (∀ b o, s.heap.get? b = some o → h'.get? b = some o) → EP X pins σ Q (.str d.shown t) { s with heap := h', toks := tk } := fun h' tk t hk => ⟨.str d.shown, H, I.kept hk, ⟨_, rfl⟩, q⟩
  have obj : ∀ a, u = .ref a → wpAny (model X.prog X.w) X.A (call (.builtin "repr") [u]) (EP X pins σ Q) X.xe s := fun a e => by
    subst e
    exact PySem.repr_of_reads' rd h1 (fun _ => nm) hgd (by omega) (fun b o e => e) (fun h' u tk hk => fin h' tk u hk) h4
  cases hd with
  | non => cases rx; exact PySem.P.repr_of_none ⟨.str (PyData.none).shown, H, I.tok _, ⟨s.toks, by rw [PyData.shown]⟩, q⟩
  | bl b => cases rx; exact PySem.P.repr_of_bool ⟨.str (PyData.bool b).shown, H, I.tok _, ⟨s.toks, by rw [PyData.shown]⟩, q⟩
  | int i =>
    obtain ⟨t, rfl⟩ := rx
    simp only [PyData.showable, decide_eq_true_eq] at h1
    exact PySem.P.repr_of_int h1 ⟨.str (PyData.int i).shown, H, I.tok _, ⟨s.toks, by rw [PyData.shown]⟩, q⟩
  | str x =>
    obtain ⟨t, rfl⟩ := rx
    exact PySem.P.repr_of_str ⟨.str (PyData.str x).shown, H, I.tok _, ⟨s.toks, by rw [PyData.shown]⟩, q⟩ (by rw [← PyData.shown_str]; exact h4)
  | lst a b => cases rx; exact obj _ rfl
  | tup a b => cases rx; exact obj _ rfl
  | dct a => cases rx; exact obj _ rfl
end Cp

set_option Elab.async false
set_option linter.all false
set_option maxRecDepth 100000
namespace Cp
open PySem PySem.Spec L2 PyProof.Rows
def inCls (st : Stmt) (i : Nat) : Stmt := match st with
  | .ClassDef _ _ _ body _ _ _ _ _ _ _ => body.getD i (.Pass ⟨0, 0, 0, 0⟩)
  | _ => .Pass ⟨0, 0, 0, 0⟩
/-- an __init__ that keeps its one argument -/
def spI1 (tl : List Value) (B newId initId : String) (bmB : List Value) (K : PySem.W.Frag) (f : Str) : Sp := fun vs H Q _ => ∃ (a C : Addr) (v : V), vs = [.ref a, v] ∧ OexG tl B newId initId bmB K C ∧ PySem.W.findIn K (.ref C) f = some none ∧ H a = some (exo a C none) ∧
  ∀ d, H d = none → d ≠ a → Q .non (upd (upd H d (exd d [(f, v)])) a (exo a C (some d)))
def spI2 (tl : List Value) (B newId initId : String) (bmB : List Value) (K : PySem.W.Frag) (f g : Str) : Sp := fun vs H Q _ => ∃ (a C : Addr) (v u : V), vs = [.ref a, v, u] ∧ OexG tl B newId initId bmB K C ∧ PySem.W.findIn K (.ref C) f = some none ∧ PySem.W.findIn K (.ref C) g = some none ∧ H a = some (exo a C none) ∧
  ∀ d, H d = none → d ≠ a → Q .non (upd (upd (upd H d (exd d [(f, v)])) a (exo a C (some d))) d (exd d [(g, u), (f, v)]))
theorem made1 {H : Hp} {a d C : Addr} {fs : List (Str × V)} (ha : H a = none) (hd : upd H a (exo a C none) d = none) (hn : d ≠ a) : Same H (upd (upd (upd H a (exo a C none)) d (exd d fs)) a (exo a C (some d))) ∧ Err (upd (upd (upd H a (exo a C none)) d (exd d fs)) a (exo a C (some d))) a C fs := by
  have hd0 : H d = none := by rw [upd_ne hn] at hd; exact hd
  refine ⟨fun b o e => ?_, d, .of_exo upd_same, .inl ?_⟩
  · rw [upd_ne (ne_of_none e ha), upd_ne (ne_of_none e hd0), upd_ne (ne_of_none e ha)]; exact e
  · rw [upd_ne hn]; exact upd_same
theorem made2 {H : Hp} {a d C : Addr} {fs gs : List (Str × V)} (ha : H a = none) (hd : upd H a (exo a C none) d = none) (hn : d ≠ a) : Same H (upd (upd (upd (upd H a (exo a C none)) d (exd d fs)) a (exo a C (some d))) d (exd d gs)) ∧
    Err (upd (upd (upd (upd H a (exo a C none)) d (exd d fs)) a (exo a C (some d))) d (exd d gs)) a C gs := by
  have hd0 : H d = none := by rw [upd_ne hn] at hd; exact hd
  refine ⟨fun b o e => ?_, d, .of_exo (by rw [upd_ne hn.symm]; exact upd_same), .inl upd_same⟩
  rw [upd_ne (ne_of_none e hd0), upd_ne (ne_of_none e ha), upd_ne (ne_of_none e hd0), upd_ne (ne_of_none e ha)]; exact e
theorem use1 {tl : List Value} {B newId initId : String} {bmB : List Value} {K : PySem.W.Frag} {f : Str} {C : Addr} {v : V} {H : Hp} {Q : VK} (O : OexG tl B newId initId bmB K C) (no : PySem.W.findIn K (.ref C) f = some none)
    (k : ∀ a H', H a = none → Same H H' → Err H' a C [(f, v)] → Q (.ref a) H') : [v].length ≤ 1000 ∧ ∀ a, H a = none → spI1 tl B newId initId bmB K f (.ref a :: [v]) (upd H a (exo a C none)) (fun v' H2 => v' = .non ∧ Q (.ref a) H2) (fun _ _ _ => False) :=
  ⟨by simp, fun a ha => ⟨a, C, v, rfl, O, no, upd_same, fun d hd hn => ⟨rfl, k a _ ha (made1 ha hd hn).1 (made1 ha hd hn).2⟩⟩⟩
theorem use2 {tl : List Value} {B newId initId : String} {bmB : List Value} {K : PySem.W.Frag} {f g : Str} {C : Addr} {v u : V} {H : Hp} {Q : VK} (O : OexG tl B newId initId bmB K C) (n1 : PySem.W.findIn K (.ref C) f = some none) (n2 : PySem.W.findIn K (.ref C) g = some none)
    (k : ∀ a H', H a = none → Same H H' → Err H' a C [(g, u), (f, v)] → Q (.ref a) H') : [v, u].length ≤ 1000 ∧ ∀ a, H a = none → spI2 tl B newId initId bmB K f g (.ref a :: [v, u]) (upd H a (exo a C none)) (fun v' H2 => v' = .non ∧ Q (.ref a) H2) (fun _ _ _ => False) :=
  ⟨by simp, fun a ha => ⟨a, C, v, u, rfl, O, n1, n2, upd_same, fun d hd hn => ⟨rfl, k a _ ha (made2 ha hd hn).1 (made2 ha hd hn).2⟩⟩⟩
section
variable {tl : List Value} {B newId initId : String} {bmB : List Value} {P : Program} {w : World} {K : PySem.W.Frag} {mg : Str → Option Value} {base : Heap}
abbrev sIBadLayout : Stmt := inCls (top 2) 0
theorem scIBadLayout : FnScope ["self", "place"] ["self", "place"] (defScope sIBadLayout) := ⟨rfl, rfl, rfl, by decide +kernel, rfl, by decide +kernel, by decide +kernel⟩
theorem ok_IBadLayout {f : Addr} {fd : FuncData} (F : Fun K "__init__" "BadLayout.__init__" sIBadLayout f fd) : FnOk P w K mg base CX0 1 f fd ["self", "place"] (spI1 tl B newId initId bmB K "place") := by
  refine F.ok scIBadLayout (fun vs H Q E h => ?_) (fun cdv A outer s H vs Q E hr h => ?_)
  · obtain ⟨a, C, v, rfl, _⟩ := h; rfl
  · obtain ⟨a, C, v, rfl, O, no, ha, k⟩ := h
    exact ⟨_, pss_one (ps_osg (tl := tl) (B := B) (newId := newId) (initId := initId) (bmB := bmB) (pv 0) (pv 1)), _, rfl, _, rfl, a, C, rfl, O, no, .inl ⟨ha, k⟩⟩
abbrev sIBadFile : Stmt := inCls (top 3) 0
theorem scIBadFile : FnScope ["self", "place"] ["self", "place"] (defScope sIBadFile) := ⟨rfl, rfl, rfl, by decide +kernel, rfl, by decide +kernel, by decide +kernel⟩
theorem ok_IBadFile {f : Addr} {fd : FuncData} (F : Fun K "__init__" "BadFile.__init__" sIBadFile f fd) : FnOk P w K mg base CX0 1 f fd ["self", "place"] (spI1 tl B newId initId bmB K "place") := by
  refine F.ok scIBadFile (fun vs H Q E h => ?_) (fun cdv A outer s H vs Q E hr h => ?_)
  · obtain ⟨a, C, v, rfl, _⟩ := h; rfl
  · obtain ⟨a, C, v, rfl, O, no, ha, k⟩ := h
    exact ⟨_, pss_one (ps_osg (tl := tl) (B := B) (newId := newId) (initId := initId) (bmB := bmB) (pv 0) (pv 1)), _, rfl, _, rfl, a, C, rfl, O, no, .inl ⟨ha, k⟩⟩
abbrev sIBadRow : Stmt := inCls (top 4) 0
theorem scIBadRow : FnScope ["self", "place"] ["self", "place"] (defScope sIBadRow) := ⟨rfl, rfl, rfl, by decide +kernel, rfl, by decide +kernel, by decide +kernel⟩
theorem ok_IBadRow {f : Addr} {fd : FuncData} (F : Fun K "__init__" "BadRow.__init__" sIBadRow f fd) : FnOk P w K mg base CX0 1 f fd ["self", "place"] (spI1 tl B newId initId bmB K "place") := by
  refine F.ok scIBadRow (fun vs H Q E h => ?_) (fun cdv A outer s H vs Q E hr h => ?_)
  · obtain ⟨a, C, v, rfl, _⟩ := h; rfl
  · obtain ⟨a, C, v, rfl, O, no, ha, k⟩ := h
    exact ⟨_, pss_one (ps_osg (tl := tl) (B := B) (newId := newId) (initId := initId) (bmB := bmB) (pv 0) (pv 1)), _, rfl, _, rfl, a, C, rfl, O, no, .inl ⟨ha, k⟩⟩
abbrev sIBadLog : Stmt := inCls (top 5) 0
theorem scIBadLog : FnScope ["self", "place"] ["self", "place"] (defScope sIBadLog) := ⟨rfl, rfl, rfl, by decide +kernel, rfl, by decide +kernel, by decide +kernel⟩
theorem ok_IBadLog {f : Addr} {fd : FuncData} (F : Fun K "__init__" "BadLog.__init__" sIBadLog f fd) : FnOk P w K mg base CX0 1 f fd ["self", "place"] (spI1 tl B newId initId bmB K "place") := by
  refine F.ok scIBadLog (fun vs H Q E h => ?_) (fun cdv A outer s H vs Q E hr h => ?_)
  · obtain ⟨a, C, v, rfl, _⟩ := h; rfl
  · obtain ⟨a, C, v, rfl, O, no, ha, k⟩ := h
    exact ⟨_, pss_one (ps_osg (tl := tl) (B := B) (newId := newId) (initId := initId) (bmB := bmB) (pv 0) (pv 1)), _, rfl, _, rfl, a, C, rfl, O, no, .inl ⟨ha, k⟩⟩
abbrev sIBadText : Stmt := inCls (top 6) 0
theorem scIBadText : FnScope ["self", "place"] ["self", "place"] (defScope sIBadText) := ⟨rfl, rfl, rfl, by decide +kernel, rfl, by decide +kernel, by decide +kernel⟩
theorem ok_IBadText {f : Addr} {fd : FuncData} (F : Fun K "__init__" "BadText.__init__" sIBadText f fd) : FnOk P w K mg base CX0 1 f fd ["self", "place"] (spI1 tl B newId initId bmB K "place") := by
  refine F.ok scIBadText (fun vs H Q E h => ?_) (fun cdv A outer s H vs Q E hr h => ?_)
  · obtain ⟨a, C, v, rfl, _⟩ := h; rfl
  · obtain ⟨a, C, v, rfl, O, no, ha, k⟩ := h
    exact ⟨_, pss_one (ps_osg (tl := tl) (B := B) (newId := newId) (initId := initId) (bmB := bmB) (pv 0) (pv 1)), _, rfl, _, rfl, a, C, rfl, O, no, .inl ⟨ha, k⟩⟩
abbrev sIBadDeed : Stmt := inCls (top 7) 0
theorem scIBadDeed : FnScope ["self", "word"] ["self", "word"] (defScope sIBadDeed) := ⟨rfl, rfl, rfl, by decide +kernel, rfl, by decide +kernel, by decide +kernel⟩
theorem ok_IBadDeed {f : Addr} {fd : FuncData} (F : Fun K "__init__" "BadDeed.__init__" sIBadDeed f fd) : FnOk P w K mg base CX0 1 f fd ["self", "word"] (spI1 tl B newId initId bmB K "word") := by
  refine F.ok scIBadDeed (fun vs H Q E h => ?_) (fun cdv A outer s H vs Q E hr h => ?_)
  · obtain ⟨a, C, v, rfl, _⟩ := h; rfl
  · obtain ⟨a, C, v, rfl, O, no, ha, k⟩ := h
    exact ⟨_, pss_one (ps_osg (tl := tl) (B := B) (newId := newId) (initId := initId) (bmB := bmB) (pv 0) (pv 1)), _, rfl, _, rfl, a, C, rfl, O, no, .inl ⟨ha, k⟩⟩
abbrev sIClash : Stmt := inCls (top 9) 0
theorem scIClash : FnScope ["self", "name"] ["self", "name"] (defScope sIClash) := ⟨rfl, rfl, rfl, by decide +kernel, rfl, by decide +kernel, by decide +kernel⟩
theorem ok_IClash {f : Addr} {fd : FuncData} (F : Fun K "__init__" "Clash.__init__" sIClash f fd) : FnOk P w K mg base CX0 1 f fd ["self", "name"] (spI1 tl B newId initId bmB K "name") := by
  refine F.ok scIClash (fun vs H Q E h => ?_) (fun cdv A outer s H vs Q E hr h => ?_)
  · obtain ⟨a, C, v, rfl, _⟩ := h; rfl
  · obtain ⟨a, C, v, rfl, O, no, ha, k⟩ := h
    exact ⟨_, pss_one (ps_osg (tl := tl) (B := B) (newId := newId) (initId := initId) (bmB := bmB) (pv 0) (pv 1)), _, rfl, _, rfl, a, C, rfl, O, no, .inl ⟨ha, k⟩⟩
abbrev sIMissing : Stmt := inCls (top 12) 0
theorem scIMissing : FnScope ["self", "name"] ["self", "name"] (defScope sIMissing) := ⟨rfl, rfl, rfl, by decide +kernel, rfl, by decide +kernel, by decide +kernel⟩
theorem ok_IMissing {f : Addr} {fd : FuncData} (F : Fun K "__init__" "Missing.__init__" sIMissing f fd) : FnOk P w K mg base CX0 1 f fd ["self", "name"] (spI1 tl B newId initId bmB K "name") := by
  refine F.ok scIMissing (fun vs H Q E h => ?_) (fun cdv A outer s H vs Q E hr h => ?_)
  · obtain ⟨a, C, v, rfl, _⟩ := h; rfl
  · obtain ⟨a, C, v, rfl, O, no, ha, k⟩ := h
    exact ⟨_, pss_one (ps_osg (tl := tl) (B := B) (newId := newId) (initId := initId) (bmB := bmB) (pv 0) (pv 1)), _, rfl, _, rfl, a, C, rfl, O, no, .inl ⟨ha, k⟩⟩
abbrev sIGap : Stmt := inCls (top 10) 0
theorem scIGap : FnScope ["self", "kind", "other"] ["self", "kind", "other"] (defScope sIGap) := ⟨rfl, rfl, rfl, by decide +kernel, rfl, by decide +kernel, by decide +kernel⟩
theorem ok_IGap {f : Addr} {fd : FuncData} (F : Fun K "__init__" "Gap.__init__" sIGap f fd) : FnOk P w K mg base CX0 1 f fd ["self", "kind", "other"] (spI2 tl B newId initId bmB K "kind" "other") := by
  refine F.ok scIGap (fun vs H Q E h => ?_) (fun cdv A outer s H vs Q E hr h => ?_)
  · obtain ⟨a, C, v, u, rfl, _⟩ := h; rfl
  · obtain ⟨a, C, v, u, rfl, O, n1, n2, ha, k⟩ := h
    refine ⟨_, pss_cons (ps_osg (tl := tl) (B := B) (newId := newId) (initId := initId) (bmB := bmB) (pv 0) (pv 1)) (pss_one (ps_osg (tl := tl) (B := B) (newId := newId) (initId := initId) (bmB := bmB) (pv 0) (pv 2))), _, rfl, _, rfl, a, C, rfl, O, n1, .inl ⟨ha, fun d hd hn => ?_⟩⟩
    exact ⟨_, rfl, _, rfl, a, C, rfl, O, n2, .inr ⟨d, [("kind", v)], upd_same, by rw [upd_ne hn]; exact upd_same, by simp, k d hd hn⟩⟩
abbrev sIWaste : Stmt := inCls (top 11) 0
theorem scIWaste : FnScope ["self", "kind", "other"] ["self", "kind", "other"] (defScope sIWaste) := ⟨rfl, rfl, rfl, by decide +kernel, rfl, by decide +kernel, by decide +kernel⟩
theorem ok_IWaste {f : Addr} {fd : FuncData} (F : Fun K "__init__" "Waste.__init__" sIWaste f fd) : FnOk P w K mg base CX0 1 f fd ["self", "kind", "other"] (spI2 tl B newId initId bmB K "kind" "other") := by
  refine F.ok scIWaste (fun vs H Q E h => ?_) (fun cdv A outer s H vs Q E hr h => ?_)
  · obtain ⟨a, C, v, u, rfl, _⟩ := h; rfl
  · obtain ⟨a, C, v, u, rfl, O, n1, n2, ha, k⟩ := h
    refine ⟨_, pss_cons (ps_osg (tl := tl) (B := B) (newId := newId) (initId := initId) (bmB := bmB) (pv 0) (pv 1)) (pss_one (ps_osg (tl := tl) (B := B) (newId := newId) (initId := initId) (bmB := bmB) (pv 0) (pv 2))), _, rfl, _, rfl, a, C, rfl, O, n1, .inl ⟨ha, fun d hd hn => ?_⟩⟩
    exact ⟨_, rfl, _, rfl, a, C, rfl, O, n2, .inr ⟨d, [("kind", v)], upd_same, by rw [upd_ne hn]; exact upd_same, by simp, k d hd hn⟩⟩
end
end Cp

set_option Elab.async false
set_option linter.all false
set_option maxRecDepth 100000
namespace Cp
open PySem PySem.Spec L2 PyProof.Rows
abbrev sKinds : Stmt := top 35
abbrev sBases : Stmt := top 36
/-- the error classes, by name; what isinstance tells of them -/
structure TC (K : PySem.W.Frag) (mg : Str → Option Value) (cs : List Addr) (CP : Addr) : Prop where
  g0 : mg "BadLayout" = some (.ref (cs.getD 0 0))
  g1 : mg "BadFile" = some (.ref (cs.getD 1 0))
  g2 : mg "BadRow" = some (.ref (cs.getD 2 0))
  g3 : mg "BadLog" = some (.ref (cs.getD 3 0))
  g4 : mg "BadText" = some (.ref (cs.getD 4 0))
  g5 : mg "BadDeed" = some (.ref (cs.getD 5 0))
  g6 : mg "BadQuestion" = some (.ref (cs.getD 6 0))
  g7 : mg "Clash" = some (.ref (cs.getD 7 0))
  g8 : mg "Gap" = some (.ref (cs.getD 8 0))
  g9 : mg "Waste" = some (.ref (cs.getD 9 0))
  g10 : mg "Missing" = some (.ref (cs.getD 10 0))
  gP : mg "PartsError" = some (.ref CP)
  gI : mg "isinstance" = none
  gV : mg "ValueError" = none
  gR : mg "RuntimeError" = none
  gK : mg "KeyError" = none
  gL : mg "LookupError" = none
  gG : mg "range" = none
def rowV (row : List Bool) (n : Nat) : List V := (List.range n).map fun j => V.bl (row.getD j false)
theorem s_new {H : Hp} {p : Addr} {o : HO} (h : H p = none) : Same H (upd H p o) := same_upd (Same.refl H) h
theorem f_yes {α : Type} {p : α → Bool} {x : α} (h : p x = true) : [x].filter p = [x] := by simp [h]
theorem f_no {α : Type} {p : α → Bool} {x : α} (h : ¬ p x = true) : [x].filter p = [] := by simp [h]
def idxs (row : List Bool) (n : Nat) : List Int := ((List.range n).filter fun k => row.getD k false).map fun k : Nat => (k : Int)
theorem idxs_len (row : List Bool) (n : Nat) : (idxs row n).length ≤ n := by
  unfold idxs
  rw [List.length_map]
  have h := List.length_filter_le (fun k => row.getD k false) (List.range n)
  rw [List.length_range] at h
  exact h
theorem rowV_at (row : List Bool) {n i : Nat} (h : i < n) : (rowV row n)[i]? = some (.bl (row.getD i false)) := by
  unfold rowV
  rw [List.getElem?_map, List.getElem?_range h]
  rfl
def spKinds (K : PySem.W.Frag) (cs : List Addr) : Sp := fun vs H Q _ => ∃ (a C : Addr) (row : List Bool), vs = [.ref a] ∧ ErrW H a C ∧ ExcC K C ∧ (∀ j, j < 11 → PySem.W.kitOne K (.ref C) (.ref (cs.getD j 0)) = some (row.getD j false)) ∧
  ∀ (l : Addr) (H' : Hp), H l = none → H' l = some (.lst ((idxs row 11).map V.int)) → Same H H' → Q (.ref l) H'
def baseV (CP : Addr) : List Value := [.ref CP, .type "ValueError", .type "RuntimeError", .type "KeyError", .type "LookupError"]
def spBases (K : PySem.W.Frag) (CP : Addr) : Sp := fun vs H Q _ => ∃ (a C : Addr) (row : List Bool), vs = [.ref a] ∧ ErrW H a C ∧ ExcC K C ∧ (∀ j, j < 5 → PySem.W.kitOne K (.ref C) ((baseV CP).getD j .none) = some (row.getD j false)) ∧
  ∀ (l : Addr) (H' : Hp), H l = none → H' l = some (.lst (rowV row 5)) → Same H H' → Q (.ref l) H'
abbrev nKinds : List Str := ["e", "kinds", "k"]
section
variable {P : Program} {w : World} {K : PySem.W.Frag} {mg : Str → Option Value} {base : Heap} {cs : List Addr} {CP : Addr}
theorem scKinds : FnScope nKinds ["e"] (defScope sKinds) := ⟨rfl, rfl, rfl, by decide +kernel, rfl, by decide +kernel, by decide +kernel⟩
theorem scBases : FnScope ["e", "bases"] ["e"] (defScope sBases) := ⟨rfl, rfl, rfl, by decide +kernel, rfl, by decide +kernel, by decide +kernel⟩
theorem ok_kinds {f : Addr} {fd : FuncData} (F : Fun K "_law_kinds" "_law_kinds" sKinds f fd) (M : TC K mg cs CP) : FnOk P w K mg base CX0 1 f fd ["e"] (spKinds K cs) := by
  refine F.ok scKinds (fun vs H Q E h => ?_) (fun cdv A outer s H vs Q E hr h => ?_)
  · obtain ⟨a, C, row, rfl, _⟩ := h; rfl
  · obtain ⟨a, C, row, rfl, he, hx, hk, k⟩ := h
    have nd := scKinds.nd
    refine ⟨_, (pss_cons (ps_set (i := 1) nd rfl (.inr rfl) (pe_lst (pa_cons (pe_callB call_isR (by rfl) M.gI (by decide +kernel) (pa_cons (pv 0) (pa_cons (pe_glob (u := .ref (cs.getD 0 0)) (v := .ref (cs.getD 0 0)) (by rfl) M.g0 rfl) pa_nil))) (pa_cons (pe_callB call_isR (by rfl) M.gI (by decide +kernel) (pa_cons (pv 0) (pa_cons (pe_glob (u := .ref (cs.getD 1 0)) (v := .ref (cs.getD 1 0)) (by rfl) M.g1 rfl) pa_nil))) (pa_cons (pe_callB call_isR (by rfl) M.gI (by decide +kernel) (pa_cons (pv 0) (pa_cons (pe_glob (u := .ref (cs.getD 2 0)) (v := .ref (cs.getD 2 0)) (by rfl) M.g2 rfl) pa_nil))) (pa_cons (pe_callB call_isR (by rfl) M.gI (by decide +kernel) (pa_cons (pv 0) (pa_cons (pe_glob (u := .ref (cs.getD 3 0)) (v := .ref (cs.getD 3 0)) (by rfl) M.g3 rfl) pa_nil))) pa_nil))))))
      (pss_cons (ps_set (i := 1) nd rfl (.inr rfl) (pe_op op_cat (pv 1) (pe_lst (pa_cons (pe_callB call_isR (by rfl) M.gI (by decide +kernel) (pa_cons (pv 0) (pa_cons (pe_glob (u := .ref (cs.getD 4 0)) (v := .ref (cs.getD 4 0)) (by rfl) M.g4 rfl) pa_nil))) (pa_cons (pe_callB call_isR (by rfl) M.gI (by decide +kernel) (pa_cons (pv 0) (pa_cons (pe_glob (u := .ref (cs.getD 5 0)) (v := .ref (cs.getD 5 0)) (by rfl) M.g5 rfl) pa_nil))) (pa_cons (pe_callB call_isR (by rfl) M.gI (by decide +kernel) (pa_cons (pv 0) (pa_cons (pe_glob (u := .ref (cs.getD 6 0)) (v := .ref (cs.getD 6 0)) (by rfl) M.g6 rfl) pa_nil))) pa_nil))))))
      (pss_cons (ps_set (i := 1) nd rfl (.inr rfl) (pe_op op_cat (pv 1) (pe_lst (pa_cons (pe_callB call_isR (by rfl) M.gI (by decide +kernel) (pa_cons (pv 0) (pa_cons (pe_glob (u := .ref (cs.getD 7 0)) (v := .ref (cs.getD 7 0)) (by rfl) M.g7 rfl) pa_nil))) (pa_cons (pe_callB call_isR (by rfl) M.gI (by decide +kernel) (pa_cons (pv 0) (pa_cons (pe_glob (u := .ref (cs.getD 8 0)) (v := .ref (cs.getD 8 0)) (by rfl) M.g8 rfl) pa_nil))) (pa_cons (pe_callB call_isR (by rfl) M.gI (by decide +kernel) (pa_cons (pv 0) (pa_cons (pe_glob (u := .ref (cs.getD 9 0)) (v := .ref (cs.getD 9 0)) (by rfl) M.g9 rfl) pa_nil))) (pa_cons (pe_callB call_isR (by rfl) M.gI (by decide +kernel) (pa_cons (pv 0) (pa_cons (pe_glob (u := .ref (cs.getD 10 0)) (v := .ref (cs.getD 10 0)) (by rfl) M.g10 rfl) pa_nil))) pa_nil)))))))
      (pss_one (ps_ret (pe_lc (own := [("k", 2)]) (g := gName 2) rfl nd (pi_range1 rfl M.gG (pa_cons pe_int pa_nil)) (blkOk_by (N := nKinds) (sc := defScope sKinds) (by decide +kernel)) (fun _ _ _ _ _ => (pg_name (i := 2) nd rfl (.inl rfl)))
        (fun _ _ _ _ _ => pts_one (pt_val (pe_ix (show IxR _ (rIxL K) from ix_list) (pv 1) (pv 2) (fun _ _ => rfl)))) (fun _ _ _ _ _ => (pv 2)))))))), ?_⟩
    refine ⟨_, rfl, a, C, _, _, _, rfl, he, hx, fun u hu => hu, hk 0 (by decide), _, rfl, a, C, _, _, _, rfl, he, hx, fun u hu => hu, hk 1 (by decide), _, rfl, a, C, _, _, _, rfl, he, hx, fun u hu => hu, hk 2 (by decide), _, rfl, a, C, _, _, _, rfl, he, hx, fun u hu => hu, hk 3 (by decide), by show 4 ≤ sizeLine; decide, fun l1 hl1 => ?_⟩
    have s1 : Same H (upd H l1 (.lst [.bl (row.getD 0 false), .bl (row.getD 1 false), .bl (row.getD 2 false), .bl (row.getD 3 false)])) := s_new hl1
    have e1 := upd_same (H := H) (a := l1) (o := .lst [.bl (row.getD 0 false), .bl (row.getD 1 false), .bl (row.getD 2 false), .bl (row.getD 3 false)])
    generalize upd H l1 (.lst [.bl (row.getD 0 false), .bl (row.getD 1 false), .bl (row.getD 2 false), .bl (row.getD 3 false)]) = H1 at s1 e1 ⊢
    refine ⟨_, rfl, _, rfl, a, C, _, _, _, rfl, he.same s1, hx, fun u hu => hu, hk 4 (by decide), _, rfl, a, C, _, _, _, rfl, he.same s1, hx, fun u hu => hu, hk 5 (by decide), _, rfl, a, C, _, _, _, rfl, he.same s1, hx, fun u hu => hu, hk 6 (by decide), by show 3 ≤ sizeLine; decide, fun l2 hl2 => ?_⟩
    refine ⟨l1, l2, _, _, rfl, rfl, upd_keep e1 hl2, upd_same, by show 4 + 3 ≤ sizeLine; decide, fun l3 hl3 => ?_⟩
    have s3 := s1.trans ((s_new (o := .lst [.bl (row.getD 4 false), .bl (row.getD 5 false), .bl (row.getD 6 false)]) hl2).trans (s_new (o := .lst ([.bl (row.getD 0 false), .bl (row.getD 1 false), .bl (row.getD 2 false), .bl (row.getD 3 false)] ++ [.bl (row.getD 4 false), .bl (row.getD 5 false), .bl (row.getD 6 false)])) hl3))
    have e3 := upd_same (H := upd H1 l2 (.lst [.bl (row.getD 4 false), .bl (row.getD 5 false), .bl (row.getD 6 false)])) (a := l3) (o := .lst ([.bl (row.getD 0 false), .bl (row.getD 1 false), .bl (row.getD 2 false), .bl (row.getD 3 false)] ++ [.bl (row.getD 4 false), .bl (row.getD 5 false), .bl (row.getD 6 false)]))
    generalize upd (upd H1 l2 (.lst [.bl (row.getD 4 false), .bl (row.getD 5 false), .bl (row.getD 6 false)])) l3 (.lst ([.bl (row.getD 0 false), .bl (row.getD 1 false), .bl (row.getD 2 false), .bl (row.getD 3 false)] ++ [.bl (row.getD 4 false), .bl (row.getD 5 false), .bl (row.getD 6 false)])) = H3 at s3 e3 ⊢
    refine ⟨_, rfl, _, rfl, a, C, _, _, _, rfl, he.same s3, hx, fun u hu => hu, hk 7 (by decide), _, rfl, a, C, _, _, _, rfl, he.same s3, hx, fun u hu => hu, hk 8 (by decide), _, rfl, a, C, _, _, _, rfl, he.same s3, hx, fun u hu => hu, hk 9 (by decide), _, rfl, a, C, _, _, _, rfl, he.same s3, hx, fun u hu => hu, hk 10 (by decide), by show 4 ≤ sizeLine; decide, fun l4 hl4 => ?_⟩
    refine ⟨l3, l4, _, _, rfl, rfl, upd_keep e3 hl4, upd_same, by show 7 + 4 ≤ sizeLine; decide, fun l5 hl5 => ?_⟩
    have s5 := s3.trans ((s_new (o := .lst [.bl (row.getD 7 false), .bl (row.getD 8 false), .bl (row.getD 9 false), .bl (row.getD 10 false)]) hl4).trans (s_new (o := .lst (rowV row 11)) hl5))
    have e5 := upd_same (H := upd H3 l4 (.lst [.bl (row.getD 7 false), .bl (row.getD 8 false), .bl (row.getD 9 false), .bl (row.getD 10 false)])) (a := l5) (o := .lst (rowV row 11))
    rw [show ([V.bl (row.getD 0 false), .bl (row.getD 1 false), .bl (row.getD 2 false), .bl (row.getD 3 false)] ++ [V.bl (row.getD 4 false), .bl (row.getD 5 false), .bl (row.getD 6 false)] ++ [V.bl (row.getD 7 false), .bl (row.getD 8 false), .bl (row.getD 9 false), .bl (row.getD 10 false)]) = rowV row 11 from rfl]
    generalize upd (upd H3 l4 (.lst [.bl (row.getD 7 false), .bl (row.getD 8 false), .bl (row.getD 9 false), .bl (row.getD 10 false)])) l5 (.lst (rowV row 11)) = H5 at s5 e5 ⊢
    refine ⟨_, rfl, by decide, by decide, fun D hD => lc_range (n := 11) (lo := 0) (fun i H' => H' D = some (.lst ((idxs row i).map V.int)) ∧ Same H5 H') ⟨upd_same, s_new hD⟩ ?_ ?_⟩
    · rintro i H6 hi ⟨h1, s6⟩
      have hl := idxs_len row i
      refine ⟨rfl, _, rfl, _, rfl, l5, _, _, _, rfl, rfl, SqL.of (s6 _ _ e5), (by rw [Int.zero_add]; exact atI_nat (rowV_at row hi)), _, rfl, ?_⟩
      cases hb : row.getD i false with
      | true =>
        refine iteT ⟨_, rfl, _, h1, by rw [List.length_map]; exact small1000 (by omega), ?_, fun b o e => by rw [upd_ne (ne_of_none e hD)]; exact s6 b o e⟩
        have : idxs row (i + 1) = idxs row i ++ [((0 : Int) + (i : Int))] := by
          unfold idxs
          rw [List.range_succ, List.filter_append, f_yes (p := fun k => row.getD k false) hb, List.map_append, Int.zero_add]
          rfl
        rw [this, List.map_append]
        exact upd_same
      | false =>
        refine iteF ?_
        have : idxs row (i + 1) = idxs row i := by
          unfold idxs
          rw [List.range_succ, List.filter_append, f_no (p := fun k => row.getD k false) (by rw [hb]; decide), List.append_nil]
        rw [this]
        exact ⟨h1, s6⟩
    · rintro H6 ⟨h1, s6⟩
      have s7 := s5.trans s6
      exact k D H6 (s5.free hD) h1 s7
theorem ok_bases {f : Addr} {fd : FuncData} (F : Fun K "_law_bases" "_law_bases" sBases f fd) (M : TC K mg cs CP) : FnOk P w K mg base CX0 1 f fd ["e"] (spBases K CP) := by
  refine F.ok scBases (fun vs H Q E h => ?_) (fun cdv A outer s H vs Q E hr h => ?_)
  · obtain ⟨a, C, row, rfl, _⟩ := h; rfl
  · obtain ⟨a, C, row, rfl, he, hx, hk, k⟩ := h
    have nd := scBases.nd
    refine ⟨_, (pss_cons (ps_set (i := 1) nd rfl (.inl rfl) (pe_lst (pa_cons (pe_callB call_isR (by rfl) M.gI (by decide +kernel) (pa_cons (pv 0) (pa_cons (pe_glob (u := .ref CP) (v := .ref CP) (by rfl) M.gP rfl) pa_nil))) (pa_cons (pe_callB call_isR (by rfl) M.gI (by decide +kernel) (pa_cons (pv 0) (pa_cons (pe_bltn (v := .ty "ValueError") (u := .type "ValueError") (by rfl) M.gV (by decide +kernel) rfl) pa_nil))) (pa_cons (pe_callB call_isR (by rfl) M.gI (by decide +kernel) (pa_cons (pv 0) (pa_cons (pe_bltn (v := .ty "RuntimeError") (u := .type "RuntimeError") (by rfl) M.gR (by decide +kernel) rfl) pa_nil))) (pa_cons (pe_callB call_isR (by rfl) M.gI (by decide +kernel) (pa_cons (pv 0) (pa_cons (pe_bltn (v := .ty "KeyError") (u := .type "KeyError") (by rfl) M.gK (by decide +kernel) rfl) pa_nil))) pa_nil)))))) (pss_one (ps_ret (pe_op op_cat (pv 1) (pe_lst (pa_cons (pe_callB call_isR (by rfl) M.gI (by decide +kernel) (pa_cons (pv 0) (pa_cons (pe_bltn (v := .ty "LookupError") (u := .type "LookupError") (by rfl) M.gL (by decide +kernel) rfl) pa_nil))) pa_nil)))))), ?_⟩
    refine ⟨_, rfl, a, C, _, _, _, rfl, he, hx, fun u hu => hu, hk 0 (by decide), _, rfl, a, C, _, _, _, rfl, he, hx, fun u hu => hu, hk 1 (by decide), _, rfl, a, C, _, _, _, rfl, he, hx, fun u hu => hu, hk 2 (by decide), _, rfl, a, C, _, _, _, rfl, he, hx, fun u hu => hu, hk 3 (by decide), by show 4 ≤ sizeLine; decide, fun l1 hl1 => ?_⟩
    have s1 := s_new (H := H) (o := .lst [.bl (row.getD 0 false), .bl (row.getD 1 false), .bl (row.getD 2 false), .bl (row.getD 3 false)]) hl1
    refine ⟨_, rfl, _, rfl, a, C, _, _, _, rfl, he.same s1, hx, fun u hu => hu, hk 4 (by decide), by show 1 ≤ sizeLine; decide, fun l2 hl2 => ?_⟩
    refine ⟨l1, l2, _, _, rfl, rfl, upd_keep upd_same hl2, upd_same, by show 4 + 1 ≤ sizeLine; decide, fun l3 hl3 => ?_⟩
    have s3 := s1.trans ((s_new (o := .lst [.bl (row.getD 4 false)]) hl2).trans (s_new (o := .lst (rowV row 5)) hl3))
    exact k l3 _ (s1.free ((s_new (o := .lst [.bl (row.getD 4 false)]) hl2).free hl3)) upd_same s3
end
end Cp

set_option Elab.async false
set_option linter.all false
set_option maxRecDepth 100000
/-! ### what is not reached; an own error raised; need_layout(None) -/
namespace Cp
open PySem PySem.Spec L2 PyProof.Rows
theorem pss_no {X : Cx} {ss : List Stmt} : PSs X ss (fun _ _ _ => False) := ⟨fun _ _ _ _ _ _ h => h.elim⟩
theorem pw_no {X : Cx} {e : Expr} : PW X e (fun _ _ _ => False) := ⟨fun _ _ _ _ _ _ _ h => h.elim⟩
theorem pt_no {X : Cx} {e : Expr} : PT X e (fun _ _ _ => False) := ⟨fun _ _ _ _ _ _ h => h.elim⟩
theorem raised1 {tl : List Value} {B newId initId : String} {bmB : List Value} {K : PySem.W.Frag} {f : Str} {C : Addr} {v : V} {H : Hp} {Q : XK} (O : OexG tl B newId initId bmB K C) (no : PySem.W.findIn K (.ref C) f = some none)
    (k : ∀ d H', H' d = some (.xd [(f, v)]) → Same H H' → Q (.ref C) (some d) H') : [v].length ≤ 1000 ∧ ∀ a, H a = none → spI1 tl B newId initId bmB K f (.ref a :: ([v] ++ [])) (upd H a (exo a C none))
      (fun v' H2 => v' = .non ∧ ∃ (d : Addr) (fs : List (Str × V)), H2 a = some (exo a C (some d)) ∧ H2 d = some (exd d fs) ∧ H d = none ∧ Q (.ref C) (some d) (upd (del H2 a) d (.xd fs))) (fun _ _ _ => False) :=
  ⟨by simp, fun a ha => ⟨a, C, v, rfl, O, no, upd_same, fun d hd hn => by
    have hd0 : H d = none := by rw [upd_ne hn] at hd; exact hd
    refine ⟨rfl, d, [(f, v)], upd_same, by rw [upd_ne hn]; exact upd_same, hd0, k d _ upd_same fun b o e => ?_⟩
    have h1 := ne_of_none e ha
    have h2 := ne_of_none e hd0
    rw [upd_ne h2, del_ne h1, upd_ne h1, upd_ne h2, upd_ne h1]
    exact e⟩⟩
abbrev sLook : Stmt := top 27
abbrev sReach : Stmt := top 28
abbrev sNeedL : Stmt := top 29
/-- of None -/
def spNone (CB : Addr) : Sp := fun vs H Q E => vs = [.non] ∧ ∀ (t d : Addr) (H' : Hp), H' d = some (.xd [(("place" : Str), .ref t)]) → H' t = some (.tup []) → Same H H' → E (.ref CB) (some d) H'
abbrev nLook : List Str := ["thing", "reached", "marks", "roots", "at", "name"]
section
variable {P : Program} {w : World} {K : PySem.W.Frag} {mg : Str → Option Value} {base : Heap}
theorem scLook : FnScope nLook ["thing"] (defScope sLook) := ⟨rfl, rfl, rfl, by decide +kernel, rfl, by decide +kernel, by decide +kernel⟩
theorem scReach : FnScope ["thing"] ["thing"] (defScope sReach) := ⟨rfl, rfl, rfl, by decide +kernel, rfl, by decide +kernel, by decide +kernel⟩
theorem scNeedL : FnScope ["thing"] ["thing"] (defScope sNeedL) := ⟨rfl, rfl, rfl, by decide +kernel, rfl, by decide +kernel, by decide +kernel⟩
theorem ok_look0 {f fB CB : Addr} {fd fdB : FuncData} (F : Fun K "look_at" "look_at" sLook f fd) (FB : Fun K "__init__" "BadLayout.__init__" sIBadLayout fB fdB) (bB : Binds K fdB ["self", "place"] [])
    (O : OexG tlVE "ValueError" "ValueError.__new__" "ValueError.__init__" tlVE K CB) (no : PySem.W.findIn K (.ref CB) "place" = some none) (iB : PySem.W.findIn K (.ref CB) "__init__" = some (some (.ref fB))) (tB : PySem.W.typeIn K (.ref fB) = some (.type "function"))
    (gB : mg "BadLayout" = some (.ref CB)) (gI : mg "isinstance" = none) (gT : mg "tuple" = none) : FnOk P w K mg base (L2.CX P w) 3 f fd ["thing"] (spNone CB) := by
  refine F.okX scLook (fun vs H Q E h => ?_) (fun cdv A outer s H vs Q E hr h => ?_)
  · obtain ⟨rfl, _⟩ := h; rfl
  · obtain ⟨rfl, k⟩ := h
    refine ⟨_, (pss_cons (ps_if (PW.pt (pw_or (pt_not (pt_val (pe_callB call_isi (by rfl) gI (by decide +kernel) (pa_cons (pv 0) (pa_cons (pe_bltn (v := .ty "tuple") (u := .type "tuple") (by rfl) gT (by decide +kernel) rfl) pa_nil))))) pw_no))
      (pss_one (ps_raise rfl (takes_of rfl rfl rfl rfl) (pmk_oeg O iB tB (ok_IBadLayout (tl := tlVE) (B := "ValueError") (newId := "ValueError.__new__") (initId := "ValueError.__init__") (bmB := tlVE) FB) hr bB pass0 (by rfl) gB (pa_cons (pe_tup pa_nil) pa_nil)))) pss_nil) pss_no), ?_⟩
    refine ⟨_, rfl, _, _, _, _, false, rfl, ClsV.ty "tuple", .base .non, kit_ty (by decide +kernel), _, rfl, ?_⟩
    show (_ : Prop)
    refine iteT ?_
    refine iteT ?_
    refine ⟨by show 0 ≤ sizeLine; decide, fun t ht => ?_⟩
    exact raised1 O no fun d H' hd s => k t d H' hd (s _ _ upd_same) ((s_new ht).trans s)
theorem ok_reach0 {f fN CB : Addr} {fd fdN : FuncData} {kk : Nat} (F : Fun K "reached_bits" "reached_bits" sReach f fd) (GN : FnOk P w K mg base (L2.CX P w) kk fN fdN ["thing"] (spNone CB)) (kN : PySem.W.keepIn K (.ref fN) = true) (bN : Binds K fdN ["thing"] []) (mN : mg "look_at" = some (.ref fN)) :
    FnOk P w K mg base (L2.CX P w) (kk + 1) f fd ["thing"] (spNone CB) := by
  refine F.okX scReach (fun vs H Q E h => ?_) (fun cdv A outer s H vs Q E hr h => ?_)
  · obtain ⟨rfl, _⟩ := h; rfl
  · obtain ⟨rfl, k⟩ := h
    refine ⟨_, (pss_one (ps_ret (pe_ix ix_tup (pe_callS GN hr (by rfl) mN kN bN (fun σ => passAt (takes_of rfl rfl rfl rfl) σ) (pa_cons (pv 0) pa_nil)) pe_int (fun _ _ => rfl)))), ?_⟩
    exact ⟨_, rfl, rfl, k⟩
theorem ok_needL {f fN CB : Addr} {fd fdN : FuncData} {kk : Nat} (F : Fun K "need_layout" "need_layout" sNeedL f fd) (GN : FnOk P w K mg base (L2.CX P w) kk fN fdN ["thing"] (spNone CB)) (kN : PySem.W.keepIn K (.ref fN) = true) (bN : Binds K fdN ["thing"] []) (mN : mg "reached_bits" = some (.ref fN)) :
    FnOk P w K mg base (L2.CX P w) (kk + 1) f fd ["thing"] (spNone CB) := by
  refine F.okX scNeedL (fun vs H Q E h => ?_) (fun cdv A outer s H vs Q E hr h => ?_)
  · obtain ⟨rfl, _⟩ := h; rfl
  · obtain ⟨rfl, k⟩ := h
    refine ⟨_, (pss_cons (ps_expr (pe_callS GN hr (by rfl) mN kN bN (fun σ => passAt (takes_of rfl rfl rfl rfl) σ) (pa_cons (pv 0) pa_nil))) (pss_one (ps_ret (pv 0)))), ?_⟩
    exact ⟨_, rfl, rfl, k⟩
end
end Cp

set_option Elab.async false
set_option linter.all false
set_option maxRecDepth 100000
namespace Cp
open PySem PySem.Spec L2 PyProof.Rows
/-- an own error class of one field: its making -/
structure C1 (P : Program) (w : World) (K : PySem.W.Frag) (mg : Str → Option Value) (base : Heap) (x f : Str) (tl : List Value) (B newId initId : String) (bmB : List Value) (C : Addr) : Prop where
  gx : mg x = some (.ref C)
  O : OexG tl B newId initId bmB K C
  fn : ∃ (fI : Addr) (fd : FuncData), PySem.W.findIn K (.ref C) "__init__" = some (some (.ref fI)) ∧ PySem.W.typeIn K (.ref fI) = some (.type "function") ∧ FnOk P w K mg base CX0 1 fI fd ["self", f] (spI1 tl B newId initId bmB K f) ∧ Binds K fd ["self", f] []
  no : PySem.W.findIn K (.ref C) f = some none
  xf : XfC K C
  xc : ExcC K C
structure C2 (P : Program) (w : World) (K : PySem.W.Frag) (mg : Str → Option Value) (base : Heap) (x f g : Str) (tl : List Value) (B newId initId : String) (bmB : List Value) (C : Addr) : Prop where
  gx : mg x = some (.ref C)
  O : OexG tl B newId initId bmB K C
  fn : ∃ (fI : Addr) (fd : FuncData), PySem.W.findIn K (.ref C) "__init__" = some (some (.ref fI)) ∧ PySem.W.typeIn K (.ref fI) = some (.type "function") ∧ FnOk P w K mg base CX0 1 fI fd ["self", f, g] (spI2 tl B newId initId bmB K f g) ∧ Binds K fd ["self", f, g] []
  n1 : PySem.W.findIn K (.ref C) f = some none
  n2 : PySem.W.findIn K (.ref C) g = some none
  xf : XfC K C
  xc : ExcC K C
def tC1 (C : Addr) (f : Str) (ta : TA) : TE := fun σ H Q => ta σ H fun vs H1 => ∃ v, vs = [v] ∧ ∀ a H', H1 a = none → Same H1 H' → Err H' a C [(f, v)] → Q (.ref a) H'
def tC2 (C : Addr) (f g : Str) (ta : TA) : TE := fun σ H Q => ta σ H fun vs H1 => ∃ v u, vs = [v, u] ∧ ∀ a H', H1 a = none → Same H1 H' → Err H' a C [(g, u), (f, v)] → Q (.ref a) H'
section
variable {X : Cx} {x f g : Str} {tl : List Value} {B newId initId : String} {bmB : List Value} {C : Addr} {e : Expr} {es : List Expr} {ta : TA} {p pos : Pos}
theorem ta_imp {X : Cx} {es : List Expr} {t t' : TA} (h : PA X es t) (i : ∀ σ H Q, t' σ H Q → t σ H Q) : PA X es t' := ⟨fun pos pins s σ H Q I q => h.run pos pins s σ H Q I (i _ _ _ q)⟩
theorem pe_imp {X : Cx} {e : Expr} {t t' : TE} (h : PE X e t) (i : ∀ σ H Q, t' σ H Q → t σ H Q) : PE X e t' := ⟨fun pins s σ H Q I q => h.run pins s σ H Q I (i _ _ _ q)⟩
/-- readings that go with what is wanted -/
def MonoA (t : TA) : Prop := ∀ σ H Q Q', (∀ vs H', Q vs H' → Q' vs H') → t σ H Q → t σ H Q'
theorem pe_c1 (M : C1 X.prog X.w X.K X.mg X.base x f tl B newId initId bmB C) (hr : Room 2 X.A) (hg : Gl X x) (mo : MonoA ta) (ha : PA X (e :: es) ta) (hdb : (x == ("__debug__" : Str)) = false := by decide)
    (he : starEach (e :: es) X.env = (false, eval e X.env) :: starEach es X.env := by rfl) (hpl : (backTo pos (starEach es X.env)).any (·.1) = false := by rfl) : PE X (.Call (.Name x p) (e :: es) [] pos) (tC1 C f ta) := by
  obtain ⟨fI, fd, h1, h2, h3, h4⟩ := M.fn
  refine pe_imp (pe_mkv M.O h1 h2 h3 hr h4 hg M.gx ha hdb he hpl) fun σ H Q q => mo σ H _ _ (fun vs H1 h => ?_) q
  obtain ⟨v, rfl, k⟩ := h
  exact use1 M.O M.no k
theorem pe_c2 (M : C2 X.prog X.w X.K X.mg X.base x f g tl B newId initId bmB C) (hr : Room 2 X.A) (hg : Gl X x) (mo : MonoA ta) (ha : PA X (e :: es) ta) (hdb : (x == ("__debug__" : Str)) = false := by decide)
    (he : starEach (e :: es) X.env = (false, eval e X.env) :: starEach es X.env := by rfl) (hpl : (backTo pos (starEach es X.env)).any (·.1) = false := by rfl) : PE X (.Call (.Name x p) (e :: es) [] pos) (tC2 C f g ta) := by
  obtain ⟨fI, fd, h1, h2, h3, h4⟩ := M.fn
  refine pe_imp (pe_mkv M.O h1 h2 h3 hr h4 hg M.gx ha hdb he hpl) fun σ H Q q => mo σ H _ _ (fun vs H1 h => ?_) q
  obtain ⟨v, u, rfl, k⟩ := h
  exact use2 M.O M.n1 M.n2 k
theorem mono_v1 {i : Nat} : MonoA (tCons (tVar i) tNil) := fun σ H Q Q' h q => by
  obtain ⟨v, e, q⟩ := q
  exact ⟨v, e, h _ _ q⟩
theorem mono_v2 {i j : Nat} : MonoA (tCons (tVar i) (tCons (tVar j) tNil)) := fun σ H Q Q' h q => by
  obtain ⟨v, e, v2, e2, q⟩ := q
  exact ⟨v, e, v2, e2, h _ _ q⟩
end
/-! ### the drawn things -/
def someD : List PyData := [.tuple [], .tuple [.int 0], .tuple [.int 23, .str "form"], .str "", .str "edition", .str "zz", .none, .int 5, .list [], .dict [], .tuple [.str "a", .int 5], .int (10 ^ 30 - 1)]
structure SomeAt (H : Hp) (l t0 t1 t2 l8 d9 t10 : Addr) : Prop where
  l : H l = some (.lst [.ref t0, .ref t1, .ref t2, .str "", .str "edition", .str "zz", .non, .int 5, .ref l8, .ref d9, .ref t10, .int (10 ^ 30 - 1)])
  t0 : H t0 = some (.tup [])
  t1 : H t1 = some (.tup [.int 0])
  t2 : H t2 = some (.tup [.int 23, .str "form"])
  l8 : H l8 = some (.lst [])
  d9 : H d9 = some (.dK [])
  t10 : H t10 = some (.tup [.str "a", .int 5])
def someV (t0 t1 t2 l8 d9 t10 : Addr) : List V := [.ref t0, .ref t1, .ref t2, .str "", .str "edition", .str "zz", .non, .int 5, .ref l8, .ref d9, .ref t10, .int (10 ^ 30 - 1)]
theorem some_pick (l t0 t1 t2 l8 d9 t10 : Addr) {r : Int} (h0 : 0 ≤ r) (h1 : r < 12) : ∃ v dd, atI (someV t0 t1 t2 l8 d9 t10) r = some v ∧ dd ∈ someD ∧ ∀ H, SomeAt H l t0 t1 t2 l8 d9 t10 → Dq H v dd := by
  obtain ⟨i, rfl⟩ : ∃ i : Nat, r = (i : Int) := ⟨r.toNat, by omega⟩
  have hi : i < 12 := by omega
  match i, hi with
  | 0, _ => exact ⟨_, _, rfl, by simp [someD], fun H S => .tup S.t0 .nil⟩
  | 1, _ => exact ⟨_, _, rfl, by simp [someD], fun H S => .tup S.t1 (.cons (.int 0) .nil)⟩
  | 2, _ => exact ⟨_, _, rfl, by simp [someD], fun H S => .tup S.t2 (.cons (.int 23) (.cons (.str "form") .nil))⟩
  | 3, _ => exact ⟨_, _, rfl, by simp [someD], fun H S => .str ""⟩
  | 4, _ => exact ⟨_, _, rfl, by simp [someD], fun H S => .str "edition"⟩
  | 5, _ => exact ⟨_, _, rfl, by simp [someD], fun H S => .str "zz"⟩
  | 6, _ => exact ⟨_, _, rfl, by simp [someD], fun H S => .non⟩
  | 7, _ => exact ⟨_, _, rfl, by simp [someD], fun H S => .int 5⟩
  | 8, _ => exact ⟨_, _, rfl, by simp [someD], fun H S => .lst S.l8 .nil⟩
  | 9, _ => exact ⟨_, _, rfl, by simp [someD], fun H S => .dct S.d9⟩
  | 10, _ => exact ⟨_, _, rfl, by simp [someD], fun H S => .tup S.t10 (.cons (.str "a") (.cons (.int 5) .nil))⟩
  | 11, _ => exact ⟨_, _, rfl, by simp [someD], fun H S => .int (10 ^ 30 - 1)⟩
theorem SomeAt.same {H H' : Hp} {l t0 t1 t2 l8 d9 t10 : Addr} (S : SomeAt H l t0 t1 t2 l8 d9 t10) (s : Same H H') : SomeAt H' l t0 t1 t2 l8 d9 t10 := ⟨s _ _ S.l, s _ _ S.t0, s _ _ S.t1, s _ _ S.t2, s _ _ S.l8, s _ _ S.d9, s _ _ S.t10⟩
theorem Drw.aw {H : Hp} {d g x : Addr} (D : Drw H d g) (h : H x = none) : x ≠ d ∧ x ≠ g := by
  obtain ⟨m, t, gs, h1, h2, _⟩ := D
  exact ⟨(ne_of_none h1 h).symm, (ne_of_none h2 h).symm⟩
theorem Drw.sm {H H' : Hp} {d g : Addr} (D : Drw H d g) (s : Same H H') : Drw H' d g := by
  obtain ⟨m, t, gs, h1, h2, h3⟩ := D
  exact ⟨m, t, gs, s _ _ h1, s _ _ h2, h3⟩
/-! ### lists of lists -/
theorem dp_rng {K : PySem.W.Frag} {H : Hp} : ∀ (xs : List Addr) (off : Nat), (∀ j q, xs[j]? = some q → H q = some (.lst [V.int ((off + j : Nat) : Int)])) → DpAll K H (xs.map V.ref) ((List.range' off xs.length).map fun j : Nat => PyData.list [.int (j : Int)])
  | [], _, _ => .nil
  | x :: r, off, h => by
    have h0 := h 0 x rfl
    refine .cons (.lst (SqL.of h0) (.cons (.int _) .nil)) (dp_rng r (off + 1) fun j q e => ?_)
    have := h (j + 1) q (by simpa using e)
    rw [show off + 1 + j = off + (j + 1) by omega]
    exact this
theorem dp_bools {K : PySem.W.Frag} {H : Hp} (f : Nat → Bool) : ∀ l : List Nat, DpAll K H (l.map fun i => V.bl (f i)) (l.map fun i => PyData.bool (f i))
  | [] => .nil
  | x :: r => .cons (.bl _) (dp_bools f r)
theorem dp_rows {K : PySem.W.Frag} {H : Hp} (f : Nat → List Bool) : ∀ (xs : List Addr) (off : Nat), (∀ j q, xs[j]? = some q → H q = some (.lst (rowV (f (off + j)) 5))) → DpAll K H (xs.map V.ref) ((List.range' off xs.length).map fun j => PyData.list ((List.range 5).map fun i => .bool ((f j).getD i false)))
  | [], _, _ => .nil
  | x :: r, off, h => by
    have h0 := h 0 x rfl
    refine .cons (.lst (SqL.of h0) (dp_bools _ _)) (dp_rows f r (off + 1) fun j q e => ?_)
    have := h (j + 1) q (by simpa using e)
    rw [show off + 1 + j = off + (j + 1) by omega]
    exact this
theorem snoc_at {α : Type} {l : List α} {x y : α} {i : Nat} (h : (l ++ [x])[i]? = some y) : l[i]? = some y ∨ (i = l.length ∧ x = y) := by
  by_cases q : i < l.length
  · rw [List.getElem?_append_left q] at h; exact .inl h
  · rw [List.getElem?_append_right (by omega)] at h
    by_cases e : i = l.length
    · subst e; simp at h; exact .inr ⟨rfl, h⟩
    · rw [List.getElem?_eq_none (by simp; omega)] at h; cases h
theorem SomeAt.ev {H H' : Hp} {d g l t0 t1 t2 l8 d9 t10 : Addr} (S : SomeAt H l t0 t1 t2 l8 d9 t10) (hn : ∀ x ∈ [l, t0, t1, t2, l8, d9, t10], x ≠ d ∧ x ≠ g) (k : ∀ b o, H b = some o → b ≠ d → b ≠ g → H' b = some o) : SomeAt H' l t0 t1 t2 l8 d9 t10 := by
  have q : ∀ {b : Addr} {o : HO}, H b = some o → b ∈ [l, t0, t1, t2, l8, d9, t10] → H' b = some o := fun e m => k _ _ e (hn _ m).1 (hn _ m).2
  exact ⟨q S.l (by simp), q S.t0 (by simp), q S.t1 (by simp), q S.t2 (by simp), q S.l8 (by simp), q S.d9 (by simp), q S.t10 (by simp)⟩
theorem some_repr : someD.all (fun a => reprB a && (reprB (.list [a, a, a, a, a]) && someD.all fun b => reprB (.list [a, a, b]) && reprB (.list [a, b, a]))) = true := by decide +kernel
theorem some_r {a : PyData} (h : a ∈ someD) : reprB a = true ∧ reprB (.list [a, a, a, a, a]) = true ∧ ∀ b ∈ someD, reprB (.list [a, a, b]) = true ∧ reprB (.list [a, b, a]) = true := by
  have q := List.all_eq_true.mp some_repr a h
  simp only [Bool.and_eq_true] at q
  refine ⟨q.1, q.2.1, fun b hb => ?_⟩
  have r := List.all_eq_true.mp q.2.2 b hb
  simpa only [Bool.and_eq_true] using r
end Cp

set_option Elab.async false
set_option linter.all false
set_option maxRecDepth 100000
set_option maxHeartbeats 4000000
namespace Cp
open PySem PySem.Spec L2 PyProof.Rows
abbrev sLaw : Stmt := top 37
abbrev nLaw : List Str := ["script", "draw", "some", "turn", "one", "two", "places", "late", "every", "first", "third", "last", "caught", "e", "told", "error", "k"]
def spLaw (K : PySem.W.Frag) : Sp := fun vs H Q _ => ∃ (a : Addr) (ns : List Int), vs = [.ref a] ∧ SqL K H a (ns.map V.int) ∧ ns.length ≤ 63 ∧ ∀ H', Q (.bl true) H'
/-- bases by class -/
def bRow (j : Nat) : List Bool := if j < 7 then [true, true, false, false, false] else if j < 10 then [false, false, true, false, false] else [false, false, false, true, true]
def kRow (j : Nat) : List Bool := (List.range 11).map fun i => decide (i = j)
structure LM (P : Program) (w : World) (K : PySem.W.Frag) (mg : Str → Option Value) (base : Heap) (cs : List Addr) (CP : Addr) : Prop where
  c0 : C1 P w K mg base "BadLayout" "place" tlVE "ValueError" "ValueError.__new__" "ValueError.__init__" tlVE (cs.getD 0 0)
  c1 : C1 P w K mg base "BadFile" "place" tlVE "ValueError" "ValueError.__new__" "ValueError.__init__" tlVE (cs.getD 1 0)
  c2 : C1 P w K mg base "BadRow" "place" tlVE "ValueError" "ValueError.__new__" "ValueError.__init__" tlVE (cs.getD 2 0)
  c3 : C1 P w K mg base "BadLog" "place" tlVE "ValueError" "ValueError.__new__" "ValueError.__init__" tlVE (cs.getD 3 0)
  c4 : C1 P w K mg base "BadText" "place" tlVE "ValueError" "ValueError.__new__" "ValueError.__init__" tlVE (cs.getD 4 0)
  c5 : C1 P w K mg base "BadDeed" "word" tlVE "ValueError" "ValueError.__new__" "ValueError.__init__" tlVE (cs.getD 5 0)
  c7 : C1 P w K mg base "Clash" "name" tlRE "RuntimeError" "RuntimeError.__new__" "RuntimeError.__init__" tlRE (cs.getD 7 0)
  c8 : C2 P w K mg base "Gap" "kind" "other" tlRE "RuntimeError" "RuntimeError.__new__" "RuntimeError.__init__" tlRE (cs.getD 8 0)
  c9 : C2 P w K mg base "Waste" "kind" "other" tlRE "RuntimeError" "RuntimeError.__new__" "RuntimeError.__init__" tlRE (cs.getD 9 0)
  c10 : C1 P w K mg base "Missing" "name" tlKE "LookupError" "LookupError.__new__" "LookupError.__init__" [.type "LookupError", .type "Exception", .type "BaseException", .type "object"] (cs.getD 10 0)
  gQ : mg "BadQuestion" = some (.ref (cs.getD 6 0))
  qQ : PySem.W.excIn K (cs.getD 6 0) tlVE "ValueError.__new__" = true
  kQ : PySem.W.keepIn K (.ref (cs.getD 6 0)) = true
  gP : mg "PartsError" = some (.ref CP)
  qP : PySem.W.excIn K CP tlVE "ValueError.__new__" = true
  kP : PySem.W.keepIn K (.ref CP) = true
  x6 : ExcC K (cs.getD 6 0)
  xP : ExcC K CP
  te : PySem.W.exmOne K (.ref (cs.getD 0 0)) (.ref CP) = some true
  kk : ∀ i, i < 11 → ∀ j, j < 11 → PySem.W.kitOne K (.ref (cs.getD i 0)) (.ref (cs.getD j 0)) = some ((kRow i).getD j false)
  kb : ∀ i, i < 11 → ∀ j, j < 5 → PySem.W.kitOne K (.ref (cs.getD i 0)) ((baseV CP).getD j .none) = some ((bRow i).getD j false)
  pk : ∀ j, j < 11 → PySem.W.kitOne K (.ref CP) (.ref (cs.getD j 0)) = some false
  pb : ∀ j, j < 5 → PySem.W.kitOne K (.ref CP) ((baseV CP).getD j .none) = some ([true, true, false, false, false].getD j false)
  n0 : ∃ t, mg "MOST_KINDS" = some (.int 24 t)
  n1 : ∃ t, mg "MOST_BASES" = some (.int 6 t)
  n2 : ∃ t, mg "MOST_EDITION" = some (.int 99 t)
  n3 : ∃ t, mg "MOST_CONTENT" = some (.int 999999 t)
  n4 : ∃ t, mg "MOST_STEPS" = some (.int 400 t)
theorem look_kind (u v : V) : List.lookup ("kind" : Str) [(("other" : Str), u), (("kind" : Str), v)] = some v := by
  have e : (("kind" : Str) == ("other" : Str)) = false := by decide +kernel
  simp [List.lookup, e]
theorem kRow_idx : ∀ j : Fin 11, idxs (kRow j.val) 11 = [(j.val : Int)] := by decide +kernel
theorem kinds_sh : SeqAt.shaped (.list ((List.range' 0 11).map fun j : Nat => PyData.list [.int (j : Int)])) = true := by decide +kernel
theorem kinds_eq : PyData.eqv (.list ((List.range' 0 11).map fun j : Nat => PyData.list [.int (j : Int)])) (.list ((List.range' 0 11).map fun j : Nat => PyData.list [.int (j : Int)])) = true := by decide +kernel
def basesD : PyData := .list ((List.range' 0 11).map fun j => PyData.list ((List.range 5).map fun i => .bool ((bRow j).getD i false)))
def bD (l : List Bool) : PyData := .list (l.map PyData.bool)
def wantD : PyData := .list ((List.replicate 7 (bD [true, true, false, false, false])) ++ (List.replicate 3 (bD [false, false, true, false, false])) ++ [bD [false, false, false, true, true]])
theorem bases_sh : SeqAt.shaped basesD = true ∧ SeqAt.shaped wantD = true ∧ PyData.eqv basesD wantD = true := by decide +kernel
theorem bD_sh : SeqAt.shaped (bD [true, true, false, false, false]) = true ∧ PyData.eqv (bD [true, true, false, false, false]) (bD [true, true, false, false, false]) = true := by decide +kernel
theorem nil_sh : SeqAt.shaped (.list []) = true ∧ PyData.eqv (.list []) (.list []) = true := by decide +kernel
theorem zero_sh : SeqAt.shaped (.list [.int 0]) = true ∧ PyData.eqv (.list [.int 0]) (.list [.int 0]) = true := by decide +kernel
theorem five_ok : reprB (.list [.int 24, .int 6, .int 99, .int 999999, .int 400]) = true := by decide +kernel
theorem dp_bl {K : PySem.W.Frag} {H : Hp} : ∀ l : List Bool, DpAll K H (l.map V.bl) (l.map PyData.bool)
  | [] => .nil
  | b :: r => .cons (.bl b) (dp_bl r)
theorem dp_rep {K : PySem.W.Frag} {H : Hp} {v : V} {d : PyData} (h : Dp K H v d) : ∀ n : Nat, DpAll K H (List.replicate n v) (List.replicate n d)
  | 0 => .nil
  | n + 1 => .cons h (dp_rep h n)
theorem dp_app {K : PySem.W.Frag} {H : Hp} : ∀ {vs us : List V} {ds es : List PyData}, DpAll K H vs ds → DpAll K H us es → DpAll K H (vs ++ us) (ds ++ es)
  | [], _, _, _, h, g => by cases h; exact g
  | _ :: _, _, _, _, h, g => by cases h with | cons a b => exact .cons a (dp_app b g)
section
variable {P : Program} {w : World} {K : PySem.W.Frag} {mg : Str → Option Value} {base : Heap} {cs : List Addr} {CP : Addr}
theorem scLaw : FnScope nLaw ["script"] (defScope sLaw) := ⟨rfl, rfl, rfl, by decide +kernel, rfl, by decide +kernel, by decide +kernel⟩
theorem ok_law {f fB fN fK fA fL : Addr} {fd fdB fdN fdK fdA fdL : FuncData} (hmod : ∃ o, base.get? sysModules = some o) (F : Fun K "law" "law" sLaw f fd) (T : TB mg) (M : LM P w K mg base cs CP)
    (GB : FnOk P w K mg base CX0 1 fB fdB ["script"] (spBegun K)) (FB : Fun K "_law_begun" "_law_begun" sBegun fB fdB) (bB : Binds K fdB ["script"] []) (mB : mg "_law_begun" = some (.ref fB))
    (GN : FnOk P w K mg base CX0 1 fN fdN ["draw", "below"] spNext) (FN : Fun K "_law_next" "_law_next" sNext fN fdN) (bN : Binds K fdN ["draw", "below"] []) (mN : mg "_law_next" = some (.ref fN))
    (GK : FnOk P w K mg base CX0 1 fK fdK ["e"] (spKinds K cs)) (FK : Fun K "_law_kinds" "_law_kinds" sKinds fK fdK) (bK : Binds K fdK ["e"] []) (mK : mg "_law_kinds" = some (.ref fK))
    (GA : FnOk P w K mg base CX0 1 fA fdA ["e"] (spBases K CP)) (FA : Fun K "_law_bases" "_law_bases" sBases fA fdA) (bA : Binds K fdA ["e"] []) (mA : mg "_law_bases" = some (.ref fA))
    (GL : FnOk P w K mg base (L2.CX P w) 5 fL fdL ["thing"] (spNone (cs.getD 0 0))) (kL : PySem.W.keepIn K (.ref fL) = true) (bL : Binds K fdL ["thing"] []) (mL : mg "need_layout" = some (.ref fL)) :
    GOk P w K mg base CX0 6 f fd ["script"] (spLaw K) := by
  refine gfun_ok F scLaw (fun vs H Q E h => ?_) (fun cdv A outer s H vs Q E hg hr h => ?_)
  · obtain ⟨a, ns, rfl, _⟩ := h
    rfl
  · obtain ⟨a, ns, rfl, hS, hlen, k⟩ := h
    have hu := hu_of hr
    have hr1 : Room 1 _ := hr.mono (by omega)
    have hr2 : Room 2 _ := hr.mono (by omega)
    have hrl : Room 5 _ := hr
    have hgd : (A.deeper (envOfC "law" (defScope sLaw) s.heap.objs.size f cdv)).guards = some [] := hg
    have nd := scLaw.nd
    suffices main : ∃ t, PSs (cxOf CX0 P w K mg base nLaw "law" (defScope sLaw) f cdv A outer s H E).nox (defBody sLaw) t ∧ t { nx := fun _ H' => Q .non H', rt := Q } (start nLaw [.ref a]) H by
      obtain ⟨t, x, y⟩ := main
      exact ⟨t, x.nox, y⟩
    refine ⟨_, (pss_cons (ps_set (i := 1) nd rfl (.inl rfl) (pe_call GB hr1 (by rfl) mB FB.kp bB .nil pass0 (pa_cons (pv 0) pa_nil)))
      (pss_cons (ps_set (i := 2) nd rfl (.inl rfl) (pe_lst (pa_cons (pe_tup pa_nil) (pa_cons (pe_tup (pa_cons pe_int pa_nil)) (pa_cons (pe_tup (pa_cons pe_int (pa_cons pe_str pa_nil))) (pa_cons pe_str (pa_cons pe_str (pa_cons pe_str (pa_cons pe_non (pa_cons pe_int (pa_cons (pe_lst pa_nil) (pa_cons pe_dnewK (pa_cons (pe_tup (pa_cons pe_str (pa_cons pe_int pa_nil))) (pa_cons (pe_op op_sub (pe_op op_pow pe_int pe_int) pe_int) pa_nil))))))))))))))
      (pss_cons (ps_for PassesOwn.never rfl (pi_range1 rfl T.range (pa_cons (pe_op op_add pe_int (pe_op op_fdiv (pe_callB (call_min2 rfl) (by rfl) T.min (by decide +kernel) (pa_cons pe_int (pa_cons (pe_callB call_len_seq (by rfl) T.len (PySem.boot_len) (pa_cons (pv 0) pa_nil)) pa_nil))) pe_int)) pa_nil)) (pg_name (i := 3) nd rfl (.inl rfl)) (pss_cons (ps_par (i := 4) (j := 5) (by rfl) nd rfl rfl (by decide) rfl rfl (pa_cons (pe_ix ix_list (pv 2) (pe_call GN hr1 (by rfl) mN FN.kp bN .nil pass0 (pa_cons (pv 1) (pa_cons (pe_callB call_len_seq (by rfl) T.len PySem.boot_len (pa_cons (pv 2) pa_nil)) pa_nil))) (fun _ _ => rfl)) (pa_cons (pe_ix ix_list (pv 2) (pe_call GN hr1 (by rfl) mN FN.kp bN .nil pass0 (pa_cons (pv 1) (pa_cons (pe_callB call_len_seq (by rfl) T.len PySem.boot_len (pa_cons (pv 2) pa_nil)) pa_nil))) (fun _ _ => rfl)) pa_nil)) (by rfl))
      (pss_cons (ps_set (i := 6) nd rfl (.inl rfl) (pe_lst (pa_cons (pe_c1 M.c0 hr2 (by rfl) mono_v1 (pa_cons (pv 4) pa_nil)) (pa_cons (pe_c1 M.c1 hr2 (by rfl) mono_v1 (pa_cons (pv 4) pa_nil)) (pa_cons (pe_c1 M.c2 hr2 (by rfl) mono_v1 (pa_cons (pv 4) pa_nil)) (pa_cons (pe_c1 M.c3 hr2 (by rfl) mono_v1 (pa_cons (pv 4) pa_nil)) (pa_cons (pe_c1 M.c4 hr2 (by rfl) mono_v1 (pa_cons (pv 4) pa_nil)) pa_nil)))))))
      (pss_cons (ps_if (PW.pt (pw_or (pt_cmpR op_ne (pe_callB (call_reprQ hmod hgd hr.units) (by rfl) T.repr (by decide +kernel) (pa_cons (pe_lc (own := [("error", 15)]) (g := gName 15) (tt := tYes) rfl nd (pi_list (pv 6)) (blkOk_by (N := nLaw) (sc := defScope sLaw) (by decide +kernel)) (fun _ _ _ _ _ => pg_name (i := 15) nd rfl (.inl rfl)) (fun _ _ _ _ _ => pts_nil) (fun _ _ _ _ _ => (show PE _ _ (tEf K "place" _) from pe_ef (pv 15)))) pa_nil)) (pe_callB (call_reprQ hmod hgd hr.units) (by rfl) T.repr (by decide +kernel) (pa_cons (pe_op op_rep (pe_lst (pa_cons (pv 4) pa_nil)) pe_int) pa_nil)) (nomark _)) (pw_or1 (pt_cmpR op_ne (pe_callB (call_reprQ hmod hgd hr.units) (by rfl) T.repr (by decide +kernel) (pa_cons (pe_ef (pe_c1 M.c5 hr2 (by rfl) mono_v1 (pa_cons (pv 4) pa_nil))) pa_nil)) (pe_callB (call_reprQ hmod hgd hr.units) (by rfl) T.repr (by decide +kernel) (pa_cons (pv 4) pa_nil)) (nomark _))))) (pss_one (ps_ret pe_bl)) pss_nil)
      (pss_cons (ps_set (i := 7) nd rfl (.inl rfl) (pe_lst (pa_cons (pe_c1 M.c7 hr2 (by rfl) mono_v1 (pa_cons (pv 4) pa_nil)) (pa_cons (pe_c2 M.c8 hr2 (by rfl) mono_v2 (pa_cons (pv 4) (pa_cons (pv 5) pa_nil))) (pa_cons (pe_c2 M.c9 hr2 (by rfl) mono_v2 (pa_cons (pv 4) (pa_cons (pv 5) pa_nil))) (pa_cons (pe_c1 M.c10 hr2 (by rfl) mono_v1 (pa_cons (pv 4) pa_nil)) pa_nil))))))
      (pss_cons (ps_if (pt_cmpR op_ne (pe_callB (call_reprQ hmod hgd hr.units) (by rfl) T.repr (by decide +kernel) (pa_cons (pe_lst (pa_cons (pe_ef (pe_ix ix_list (pv 7) pe_int (fun _ _ => rfl))) (pa_cons (pe_ef (pe_ix ix_list (pv 7) pe_int (fun _ _ => rfl))) (pa_cons (pe_ef (pe_ix ix_list (pv 7) pe_int (fun _ _ => rfl))) pa_nil)))) pa_nil)) (pe_callB (call_reprQ hmod hgd hr.units) (by rfl) T.repr (by decide +kernel) (pa_cons (pe_lst (pa_cons (pv 4) (pa_cons (pv 4) (pa_cons (pv 5) pa_nil)))) pa_nil)) (nomark _)) (pss_one (ps_ret pe_bl)) pss_nil)
      (pss_cons (ps_if (pt_cmpR op_ne (pe_callB (call_reprQ hmod hgd hr.units) (by rfl) T.repr (by decide +kernel) (pa_cons (pe_lst (pa_cons (pe_ef (pe_ix ix_list (pv 7) pe_int (fun _ _ => rfl))) (pa_cons (pe_ef (pe_ix ix_list (pv 7) pe_int (fun _ _ => rfl))) (pa_cons (pe_ef (pe_ix ix_list (pv 7) pe_int (fun _ _ => rfl))) pa_nil)))) pa_nil)) (pe_callB (call_reprQ hmod hgd hr.units) (by rfl) T.repr (by decide +kernel) (pa_cons (pe_lst (pa_cons (pv 4) (pa_cons (pv 5) (pa_cons (pv 4) pa_nil)))) pa_nil)) (nomark _)) (pss_one (ps_ret pe_bl)) pss_nil)
      (pss_cons (ps_set (i := 8) nd rfl (.inl rfl) (pe_op op_cat (pe_op op_cat (pv 6) (pe_lst (pa_cons (pe_c1 M.c5 hr2 (by rfl) mono_v1 (pa_cons (pv 4) pa_nil)) (pa_cons (pe_exc1 PySem.F.excBase_ValueError M.qQ M.gQ M.kQ (by rfl) pe_str) pa_nil)))) (pv 7)))
      (pss_cons (ps_if (pt_cmpR (op_neD hr.units) (pe_lc (own := [("error", 15)]) (g := gName 15) (tt := tYes) rfl nd (pi_list (pv 8)) (blkOk_by (N := nLaw) (sc := defScope sLaw) (by decide +kernel)) (fun _ _ _ _ _ => pg_name (i := 15) nd rfl (.inl rfl)) (fun _ _ _ _ _ => pts_nil) (fun _ _ _ _ _ => (pe_call GK hr1 (by rfl) mK FK.kp bK .nil pass0 (pa_cons (pv 15) pa_nil)))) (pe_lc (own := [("k", 16)]) (g := gName 16) (tt := tYes) rfl nd (pi_range1 rfl T.range (pa_cons pe_int pa_nil)) (blkOk_by (N := nLaw) (sc := defScope sLaw) (by decide +kernel)) (fun _ _ _ _ _ => pg_name (i := 16) nd rfl (.inl rfl)) (fun _ _ _ _ _ => pts_nil) (fun _ _ _ _ _ => (pe_lst (pa_cons (pv 16) pa_nil)))) (nomark _)) (pss_one (ps_ret pe_bl)) pss_nil)
      (pss_cons (ps_par (i := 9) (j := 10) (by rfl) nd rfl rfl (by decide) rfl rfl (pa_cons (pe_lst (pa_cons pe_bl (pa_cons pe_bl (pa_cons pe_bl (pa_cons pe_bl (pa_cons pe_bl pa_nil)))))) (pa_cons (pe_lst (pa_cons pe_bl (pa_cons pe_bl (pa_cons pe_bl (pa_cons pe_bl (pa_cons pe_bl pa_nil)))))) pa_nil)) (by rfl))
      (pss_cons (ps_set (i := 11) nd rfl (.inl rfl) (pe_lst (pa_cons pe_bl (pa_cons pe_bl (pa_cons pe_bl (pa_cons pe_bl (pa_cons pe_bl pa_nil)))))))
      (pss_one (ps_if (pt_cmpR (op_neD hr.units) (pe_lc (own := [("error", 15)]) (g := gName 15) (tt := tYes) rfl nd (pi_list (pv 8)) (blkOk_by (N := nLaw) (sc := defScope sLaw) (by decide +kernel)) (fun _ _ _ _ _ => pg_name (i := 15) nd rfl (.inl rfl)) (fun _ _ _ _ _ => pts_nil) (fun _ _ _ _ _ => (pe_call GA hr1 (by rfl) mA FA.kp bA .nil pass0 (pa_cons (pv 15) pa_nil)))) (pe_op op_cat (pe_op op_cat (pe_op op_rep (pe_lst (pa_cons (pv 9) pa_nil)) pe_int) (pe_op op_rep (pe_lst (pa_cons (pv 10) pa_nil)) pe_int)) (pe_lst (pa_cons (pv 11) pa_nil))) (nomark _)) (pss_one (ps_ret pe_bl)) pss_nil)))))))))))))
      (pss_cons (ps_if (PW.pt (pw_or (pt_cmpR (op_neD hr.units) (pe_call GA hr1 (by rfl) mA FA.kp bA .nil pass0 (pa_cons (pe_exc1 PySem.F.excBase_ValueError M.qP M.gP M.kP (by rfl) pe_str) pa_nil)) (pe_lst (pa_cons pe_bl (pa_cons pe_bl (pa_cons pe_bl (pa_cons pe_bl (pa_cons pe_bl pa_nil)))))) (nomark _)) (pw_or1 (pt_cmpR (op_neD hr.units) (pe_call GK hr1 (by rfl) mK FK.kp bK .nil pass0 (pa_cons (pe_exc1 PySem.F.excBase_ValueError M.qP M.gP M.kP (by rfl) pe_str) pa_nil)) (pe_lst pa_nil) (nomark _))))) (pss_one (ps_ret pe_bl)) pss_nil)
      (pss_cons (ps_set (i := 12) nd rfl (.inl rfl) pe_non)
      (pss_try_adopt (i := 13) (n := "e") rfl rfl rfl nd rfl rfl ⟨rfl, by decide, .inl M.gP⟩ takes0
        (fun W pn xe tk _ => pss_one (ps_expr (pe_callS GL hrl (by rfl) mL kL bL (fun σ => passAt tk σ) (pa_cons pe_non pa_nil))))
        (fun a oe cls d pn hz hf => pss_one (ps_set (i := 12) nd rfl (.inl rfl) (pv 13)))
        (pss_cons (ps_if (PW.pt (pw_or (pt_cmpR op_isN (pv 12) pe_non (nomark _)) (pw_or (pt_cmpR (op_neD hr.units) (pe_call GK hr1 (by rfl) mK FK.kp bK .nil pass0 (pa_cons (pv 12) pa_nil)) (pe_lst (pa_cons pe_int pa_nil)) (nomark _)) (pw_or1 (pt_cmpR (op_neD hr.units) (pe_call GA hr1 (by rfl) mA FA.kp bA .nil pass0 (pa_cons (pv 12) pa_nil)) (pe_lst (pa_cons pe_bl (pa_cons pe_bl (pa_cons pe_bl (pa_cons pe_bl (pa_cons pe_bl pa_nil)))))) (nomark _)))))) (pss_one (ps_ret pe_bl)) pss_nil)
      (pss_cons (ps_set (i := 14) nd rfl (.inl rfl) (pe_lst (pa_cons (pe_glob (v := .int 24) (by rfl) M.n0.choose_spec ⟨_, rfl⟩) (pa_cons (pe_glob (v := .int 6) (by rfl) M.n1.choose_spec ⟨_, rfl⟩) (pa_cons (pe_glob (v := .int 99) (by rfl) M.n2.choose_spec ⟨_, rfl⟩) (pa_cons (pe_glob (v := .int 999999) (by rfl) M.n3.choose_spec ⟨_, rfl⟩) (pa_cons (pe_glob (v := .int 400) (by rfl) M.n4.choose_spec ⟨_, rfl⟩) pa_nil)))))))
      (pss_one (ps_ret (pe_cmpR op_eq (pe_callB (call_reprQ hmod hgd hr.units) (by rfl) T.repr (by decide +kernel) (pa_cons (pv 14) pa_nil)) (pe_callB (call_reprQ hmod hgd hr.units) (by rfl) T.repr (by decide +kernel) (pa_cons (pe_lst (pa_cons pe_int (pa_cons pe_int (pa_cons pe_int (pa_cons pe_int (pa_cons pe_int pa_nil)))))) pa_nil)) (nomark _)))))))))))), ?_⟩
    refine ⟨_, rfl, a, ns, rfl, hS, hlen, fun d g H1 hd hg1 D s1 => ?_⟩
    -- some
    refine ⟨by show 0 ≤ sizeLine; decide, fun t0 ht0 => ?_⟩
    have f0 := upd_same (H := H1) (a := t0) (o := .tup [])
    have z0 := s_new (o := HO.tup []) ht0
    have w0 := D.aw ht0
    have D0 := D.sm z0
    generalize upd H1 t0 (.tup []) = G0 at f0 z0 D0 ⊢
    refine ⟨by show 1 ≤ sizeLine; decide, fun t1 ht1 => ?_⟩
    have f1 := upd_same (H := G0) (a := t1) (o := .tup [.int 0])
    have z1 := s_new (o := HO.tup [.int 0]) ht1
    have w1 := D0.aw ht1
    have D1 := D0.sm z1
    have f01 := z1 _ _ f0
    generalize upd G0 t1 (.tup [.int 0]) = G1 at f1 z1 D1 f01 ⊢
    refine ⟨by show 2 ≤ sizeLine; decide, fun t2 ht2 => ?_⟩
    have f2 := upd_same (H := G1) (a := t2) (o := .tup [.int 23, .str "form"])
    have z2 := s_new (o := HO.tup [.int 23, .str "form"]) ht2
    have w2 := D1.aw ht2
    have D2 := D1.sm z2
    have f02 := z2 _ _ f01
    have f12 := z2 _ _ f1
    generalize upd G1 t2 (.tup [.int 23, .str "form"]) = G2 at f2 z2 D2 f02 f12 ⊢
    refine ⟨by show 0 ≤ sizeLine; decide, fun l8 hl8 => ?_⟩
    have f3 := upd_same (H := G2) (a := l8) (o := .lst [])
    have z3 := s_new (o := HO.lst []) hl8
    have w3 := D2.aw hl8
    have D3 := D2.sm z3
    generalize upd G2 l8 (.lst []) = G3 at f3 z3 D3 ⊢
    refine fun d9 hd9 => ?_
    have f4 := upd_same (H := G3) (a := d9) (o := .dK [])
    have z4 := s_new (o := HO.dK []) hd9
    have w4 := D3.aw hd9
    have D4 := D3.sm z4
    generalize upd G3 d9 (.dK []) = G4 at f4 z4 D4 ⊢
    refine ⟨by show 2 ≤ sizeLine; decide, fun t10 ht10 => ?_⟩
    have f5 := upd_same (H := G4) (a := t10) (o := .tup [.str "a", .int 5])
    have z5 := s_new (o := HO.tup [.str "a", .int 5]) ht10
    have w5 := D4.aw ht10
    have D5 := D4.sm z5
    generalize upd G4 t10 (.tup [.str "a", .int 5]) = G5 at f5 z5 D5 ⊢
    refine ⟨_, _, rfl, rfl, ⟨by decide, by decide, by decide⟩, _, _, rfl, rfl, ?_⟩
    refine ⟨by show 12 ≤ sizeLine; decide, fun l hl => ?_⟩
    have w6 := D5.aw hl
    have z6 := s_new (o := HO.lst (someV t0 t1 t2 l8 d9 t10)) hl
    have S0 : SomeAt (upd G5 l (.lst (someV t0 t1 t2 l8 d9 t10))) l t0 t1 t2 l8 d9 t10 := by
      have y : Same G2 (upd G5 l (.lst (someV t0 t1 t2 l8 d9 t10))) := ((z3.trans z4).trans z5).trans z6
      exact ⟨upd_same, y _ _ f02, y _ _ f12, y _ _ f2, ((z4.trans z5).trans z6) _ _ f3, (z5.trans z6) _ _ f4, z6 _ _ f5⟩
    have D6 := D5.sm z6
    have e30 : (10 : Int) ^ (Int.toNat 30) - 1 = 10 ^ 30 - 1 := by decide
    have away : ∀ x ∈ [l, t0, t1, t2, l8, d9, t10], x ≠ d ∧ x ≠ g := by
      intro x hx
      simp only [List.mem_cons, List.not_mem_nil, or_false] at hx
      rcases hx with rfl | rfl | rfl | rfl | rfl | rfl | rfl
      · exact w6
      · exact w0
      · exact w1
      · exact w2
      · exact w3
      · exact w4
      · exact w5
    show gName _ _ _ (upd G5 l (.lst (someV t0 t1 t2 l8 d9 t10))) _
    have hS6 : SqL K (upd G5 l (.lst (someV t0 t1 t2 l8 d9 t10))) a (ns.map V.int) := ((((((((s1.trans z0).trans z1).trans z2).trans z3).trans z4).trans z5).trans z6)).seq hS
    generalize upd G5 l (.lst (someV t0 t1 t2 l8 d9 t10)) = G6 at S0 D6 hS6 ⊢
    refine ⟨_, rfl, a, _, rfl, .inl hS6, ?_⟩
    refine ⟨_, _, rfl, _, _, rfl, rfl, (by show (0 : Int) < 6 ∧ (6 : Int) < 1073741824; decide), _, _, rfl, rfl, _, rfl, ?_, ?_, ?_⟩
    · show -(2 ^ 62) ≤ 2 + (if ((ns.map V.int).length : Int) < 60 then ((ns.map V.int).length : Int) else 60) / 6
      split <;> omega
    · show 2 + (if ((ns.map V.int).length : Int) < 60 then ((ns.map V.int).length : Int) else 60) / 6 < 2 ^ 62
      split <;> omega
    refine for_range (lo := 0) (n := _) (fun i σ H' => ∃ (v3 v4 v5 v6 v7 v8 v9 v10 v11 v12 v13 v14 v15 v16 : Option V), σ = [some (.ref a), some (.ref d), some (.ref l), v3, v4, v5, v6, v7, v8, v9, v10, v11, v12, v13, v14, v15, v16] ∧ Drw H' d g ∧ SomeAt H' l t0 t1 t2 l8 d9 t10)
      ⟨none, none, none, none, none, none, none, none, none, none, none, none, none, none, rfl, D6, S0⟩ ?_ ?_
    · rintro i σ H2 hi ⟨v3, v4, v5, v6, v7, v8, v9, v10, v11, v12, v13, v14, v15, v16, rfl, D7, S7⟩
      refine ⟨_, rfl, _, rfl, _, rfl, l, _, rfl, .inl (SqL.of S7.l), d, g, 12, rfl, D7, by decide, by decide, fun r1 H3 q0 q1 ev1 => ?_⟩
      obtain ⟨x1, d1, hx1, hd1, hq1⟩ := some_pick l t0 t1 t2 l8 d9 t10 q0 q1
      have S8 := S7.ev away ev1.kp
      refine ⟨l, _, _, x1, rfl, rfl, SqL.of S8.l, hx1, ?_⟩
      refine ⟨_, rfl, _, rfl, _, rfl, l, _, rfl, .inl (SqL.of S8.l), d, g, 12, rfl, ev1.dr, by decide, by decide, fun r2 H4 p0 p1 ev2 => ?_⟩
      obtain ⟨x2, d2, hx2, hd2, hq2⟩ := some_pick l t0 t1 t2 l8 d9 t10 p0 p1
      have S9 := S8.ev away ev2.kp
      have D9 := ev2.dr
      refine ⟨l, _, _, x2, rfl, rfl, SqL.of S9.l, hx2, _, _, rfl, ?_⟩
      have h1 := hq1 H4 S9
      have h2 := hq2 H4 S9
      obtain ⟨r1a, r1b, r12⟩ := some_r hd1
      obtain ⟨r2a, _, _⟩ := some_r hd2
      obtain ⟨r12a, r12b⟩ := r12 d2 hd2
      -- places
      refine ⟨_, rfl, _, rfl, fun a0 A0 n0 y0 e0 => ?_⟩
      refine ⟨_, rfl, _, rfl, fun a1 A1 n1 y1 e1 => ?_⟩
      refine ⟨_, rfl, _, rfl, fun a2 A2 n2 y2 e2 => ?_⟩
      refine ⟨_, rfl, _, rfl, fun a3 A3 n3 y3 e3 => ?_⟩
      refine ⟨_, rfl, _, rfl, fun a4 A4 n4 y4 e4 => ?_⟩
      refine ⟨by show 5 ≤ sizeLine; decide, fun l6 hl6 => ?_⟩
      have f6 := upd_same (H := A4) (a := l6) (o := .lst [.ref a0, .ref a1, .ref a2, .ref a3, .ref a4])
      have y5 := s_new (o := HO.lst [.ref a0, .ref a1, .ref a2, .ref a3, .ref a4]) hl6
      have eP : ∀ (j : Nat) (q : Addr), [a0, a1, a2, a3, a4][j]? = some q → Err (upd A4 l6 (.lst [.ref a0, .ref a1, .ref a2, .ref a3, .ref a4])) q (cs.getD j 0) [("place", x1)] ∧ XfC K (cs.getD j 0) ∧ PySem.W.findIn K (.ref (cs.getD j 0)) "place" = some none := by
        intro j q e
        match j, e with
        | 0, e => obtain rfl := Option.some.inj e; exact ⟨(((((e0.same y1).same y2).same y3).same y4).same y5), M.c0.xf, M.c0.no⟩
        | 1, e => obtain rfl := Option.some.inj e; exact ⟨((((e1.same y2).same y3).same y4).same y5), M.c1.xf, M.c1.no⟩
        | 2, e => obtain rfl := Option.some.inj e; exact ⟨(((e2.same y3).same y4).same y5), M.c2.xf, M.c2.no⟩
        | 3, e => obtain rfl := Option.some.inj e; exact ⟨((e3.same y4).same y5), M.c3.xf, M.c3.no⟩
        | 4, e => obtain rfl := Option.some.inj e; exact ⟨(e4.same y5), M.c4.xf, M.c4.no⟩
        | j + 5, e => simp at e
      have Y5 : Same H4 (upd A4 l6 (.lst [.ref a0, .ref a1, .ref a2, .ref a3, .ref a4])) := ((((y0.trans y1).trans y2).trans y3).trans y4).trans y5
      generalize upd A4 l6 (.lst [.ref a0, .ref a1, .ref a2, .ref a3, .ref a4]) = A5 at f6 eP Y5 ⊢
      refine ⟨_, rfl, l6, rfl, ⟨_, SqL.of f6⟩, fun D6' hD6 => lc_list (xs := [a0, a1, a2, a3, a4].map V.ref) (fun i H' => H' D6' = some (.lst (List.replicate i x1)) ∧ Same A5 H') ⟨upd_same, s_new hD6⟩ (fun i H' _ ⟨_, u⟩ => SqL.of (u _ _ f6)) ?_ ?_⟩
      · rintro j y H5 hj ⟨u1, u2⟩
        have hj5 : j < 5 := by
          have q := (List.getElem?_eq_some_iff.mp hj).1
          simpa using q
        rw [List.getElem?_map] at hj
        cases hq : [a0, a1, a2, a3, a4][j]? with
        | none => rw [hq] at hj; cases hj
        | some q =>
          rw [hq] at hj
          obtain rfl := Option.some.inj hj
          obtain ⟨p1, p2, p3⟩ := eP j q hq
          refine ⟨rfl, _, rfl, q, _, _, x1, rfl, p2, p3, p1.same u2, by simp [List.lookup], _, u1, by rw [List.length_replicate]; exact small1000 (by omega), ?_, fun b o e => by rw [upd_ne (ne_of_none e hD6)]; exact u2 b o e⟩
          rw [List.replicate_succ']
          exact upd_same
      · rintro H5 ⟨u1, u2⟩
        have Y6 := Y5.trans u2
        refine ⟨.ref D6', .list [d1, d1, d1, d1, d1], rfl, .lst u1 (.cons (h1.same Y6) (.cons (h1.same Y6) (.cons (h1.same Y6) (.cons (h1.same Y6) (.cons (h1.same Y6) .nil))))), r1b, ?_⟩
        refine ⟨_, rfl, by show 1 ≤ sizeLine; decide, fun q1' hq1' => ?_⟩
        refine ⟨q1', 5, [x1], rfl, rfl, upd_same, by decide, by decide, by show 5 ≤ sizeLine; decide, fun p1 hp1 => ?_⟩
        have Y7 := (Y6.trans (s_new (o := HO.lst [x1]) hq1')).trans (s_new (o := HO.lst [x1, x1, x1, x1, x1]) hp1)
        refine ⟨.ref p1, .list [d1, d1, d1, d1, d1], rfl, .lst (xs := [x1, x1, x1, x1, x1]) upd_same (.cons (h1.same Y7) (.cons (h1.same Y7) (.cons (h1.same Y7) (.cons (h1.same Y7) (.cons (h1.same Y7) .nil))))), r1b, rfl, _, rfl, ?_⟩
        refine iteNS rfl ?_
        have f6' := u2 _ _ f6
        have f6'' := (s_new (o := HO.lst [x1, x1, x1, x1, x1]) hp1) _ _ ((s_new (o := HO.lst [x1]) hq1') _ _ f6')
        have eP7 : ∀ (j : Nat) (q : Addr), [a0, a1, a2, a3, a4][j]? = some q → ErrW (upd (upd H5 q1' (.lst [x1])) p1 (.lst [x1, x1, x1, x1, x1])) q (cs.getD j 0) := fun j q e => .inr ⟨_, ((eP j q e).1.same u2).same ((s_new (o := HO.lst [x1]) hq1').trans (s_new (o := HO.lst [x1, x1, x1, x1, x1]) hp1))⟩
        rw [show (List.replicate (Int.toNat 5) [x1]).flatten = [x1, x1, x1, x1, x1] from rfl]
        have f6b : upd (upd H5 q1' (.lst [x1])) p1 (.lst [x1, x1, x1, x1, x1]) l6 = some (.lst [.ref a0, .ref a1, .ref a2, .ref a3, .ref a4]) := f6''
        generalize upd (upd H5 q1' (.lst [x1])) p1 (.lst [x1, x1, x1, x1, x1]) = B0 at Y7 f6b eP7 ⊢
        refine ⟨_, rfl, _, rfl, fun a5 B1 n5 y6 e5 => ?_⟩
        refine ⟨a5, _, _, x1, rfl, M.c5.xf, M.c5.no, e5, by simp [List.lookup], x1, d1, rfl, h1.same (Y7.trans y6), r1a, ?_⟩
        refine ⟨_, rfl, x1, d1, rfl, h1.same (Y7.trans y6), r1a, rfl, _, rfl, ?_⟩
        refine iteNS rfl ?_
        -- late
        refine ⟨_, rfl, _, rfl, fun b0 B2 m0 t0' e7 => ?_⟩
        refine ⟨_, rfl, _, rfl, _, _, rfl, fun b1 B3 m1 t1' e8 => ?_⟩
        refine ⟨_, rfl, _, rfl, _, _, rfl, fun b2 B4 m2 t2' e9 => ?_⟩
        refine ⟨_, rfl, _, rfl, fun b3 B5 m3 t3' e10 => ?_⟩
        refine ⟨by show 4 ≤ sizeLine; decide, fun l7 hl7 => ?_⟩
        have f7 := upd_same (H := B5) (a := l7) (o := .lst [.ref b0, .ref b1, .ref b2, .ref b3])
        have t4' := s_new (o := HO.lst [.ref b0, .ref b1, .ref b2, .ref b3]) hl7
        have T4 := t4'
        have T3 := t3'.trans T4
        have T2 := t2'.trans T3
        have T1 := t1'.trans T2
        have T0 := (y6.trans t0').trans T1
        have Y8 := Y7.trans T0
        have g7 := e7.same T1
        have g8 := e8.same T2
        have g9 := e9.same T3
        have g10 := e10.same T4
        have f6c := T0 _ _ f6b
        have eP8 : ∀ (j : Nat) (q : Addr), [a0, a1, a2, a3, a4][j]? = some q → ErrW (upd B5 l7 (.lst [.ref b0, .ref b1, .ref b2, .ref b3])) q (cs.getD j 0) := fun j q e => (eP7 j q e).same T0
        generalize upd B5 l7 (.lst [.ref b0, .ref b1, .ref b2, .ref b3]) = B6 at f7 Y8 g7 g8 g9 g10 f6c eP8 ⊢
        refine ⟨_, rfl, l7, _, _, _, rfl, rfl, SqL.of f7, rfl, b0, _, _, x1, rfl, M.c7.xf, M.c7.no, g7, by simp [List.lookup], ?_⟩
        refine ⟨_, rfl, l7, _, _, _, rfl, rfl, SqL.of f7, rfl, b1, _, _, x1, rfl, M.c8.xf, M.c8.n1, g8, look_kind _ _, ?_⟩
        refine ⟨_, rfl, l7, _, _, _, rfl, rfl, SqL.of f7, rfl, b1, _, _, x2, rfl, M.c8.xf, M.c8.n2, g8, by simp [List.lookup], ?_⟩
        refine ⟨by show 3 ≤ sizeLine; decide, fun u1' hu1 => ?_⟩
        have U1 := Y8.trans (s_new (o := HO.lst [x1, x1, x2]) hu1)
        refine ⟨.ref u1', .list [d1, d1, d2], rfl, .lst upd_same (.cons (h1.same U1) (.cons (h1.same U1) (.cons (h2.same U1) .nil))), r12a, ?_⟩
        refine ⟨_, rfl, _, rfl, _, rfl, by show 3 ≤ sizeLine; decide, fun u2' hu2 => ?_⟩
        have U2 := U1.trans (s_new (o := HO.lst [x1, x1, x2]) hu2)
        refine ⟨.ref u2', .list [d1, d1, d2], rfl, .lst upd_same (.cons (h1.same U2) (.cons (h1.same U2) (.cons (h2.same U2) .nil))), r12a, rfl, _, rfl, ?_⟩
        refine iteNS rfl ?_
        have X2 := (s_new (o := HO.lst [x1, x1, x2]) hu1).trans (s_new (o := HO.lst [x1, x1, x2]) hu2)
        have f7b := X2 _ _ f7
        have f6d := X2 _ _ f6c
        have g7b := g7.same X2
        have g8b := g8.same X2
        have g9b := g9.same X2
        have g10b := g10.same X2
        have eP9 : ∀ (j : Nat) (q : Addr), [a0, a1, a2, a3, a4][j]? = some q → ErrW (upd (upd B6 u1' (.lst [x1, x1, x2])) u2' (.lst [x1, x1, x2])) q (cs.getD j 0) := fun j q e => (eP8 j q e).same X2
        generalize upd (upd B6 u1' (.lst [x1, x1, x2])) u2' (.lst [x1, x1, x2]) = B7 at f7b f6d g7b g8b g9b g10b eP9 U2 ⊢
        refine ⟨_, rfl, l7, _, _, _, rfl, rfl, SqL.of f7b, rfl, b2, _, _, x1, rfl, M.c9.xf, M.c9.n1, g9b, look_kind _ _, ?_⟩
        refine ⟨_, rfl, l7, _, _, _, rfl, rfl, SqL.of f7b, rfl, b2, _, _, x2, rfl, M.c9.xf, M.c9.n2, g9b, by simp [List.lookup], ?_⟩
        refine ⟨_, rfl, l7, _, _, _, rfl, rfl, SqL.of f7b, rfl, b3, _, _, x1, rfl, M.c10.xf, M.c10.no, g10b, by simp [List.lookup], ?_⟩
        refine ⟨by show 3 ≤ sizeLine; decide, fun u3' hu3 => ?_⟩
        have U3 := U2.trans (s_new (o := HO.lst [x1, x2, x1]) hu3)
        refine ⟨.ref u3', .list [d1, d2, d1], rfl, .lst upd_same (.cons (h1.same U3) (.cons (h2.same U3) (.cons (h1.same U3) .nil))), r12b, ?_⟩
        refine ⟨_, rfl, _, rfl, _, rfl, by show 3 ≤ sizeLine; decide, fun u4' hu4 => ?_⟩
        have U4 := U3.trans (s_new (o := HO.lst [x1, x2, x1]) hu4)
        refine ⟨.ref u4', .list [d1, d2, d1], rfl, .lst upd_same (.cons (h1.same U4) (.cons (h2.same U4) (.cons (h1.same U4) .nil))), r12b, rfl, _, rfl, ?_⟩
        refine iteNS rfl ?_
        have X3 := (s_new (o := HO.lst [x1, x2, x1]) hu3).trans (s_new (o := HO.lst [x1, x2, x1]) hu4)
        have f7c := X3 _ _ f7b
        have f6e := X3 _ _ f6d
        have g7c := g7b.same X3
        have g8c := g8b.same X3
        have g9c := g9b.same X3
        have g10c := g10b.same X3
        have eP10 : ∀ (j : Nat) (q : Addr), [a0, a1, a2, a3, a4][j]? = some q → ErrW (upd (upd B7 u3' (.lst [x1, x2, x1])) u4' (.lst [x1, x2, x1])) q (cs.getD j 0) := fun j q e => (eP9 j q e).same X3
        generalize upd (upd B7 u3' (.lst [x1, x2, x1])) u4' (.lst [x1, x2, x1]) = B8 at f7c f6e g7c g8c g9c g10c eP10 U4 ⊢
        -- every
        refine ⟨_, rfl, _, rfl, _, rfl, fun c5 C1' o5 v5' e11 => ?_⟩
        refine fun c6 o6 => ?_
        have e12 : ErAt (upd C1' c6 (ExO (.ref (cs.getD 6 0)) c6)) c6 (cs.getD 6 0) none := .of_ExO upd_same
        have v6' := s_new (o := ExO (.ref (cs.getD 6 0)) c6) o6
        refine ⟨by show 2 ≤ sizeLine; decide, fun c7 o7 => ?_⟩
        have v7' := s_new (o := HO.lst [.ref c5, .ref c6]) o7
        refine ⟨l6, c7, _, _, rfl, rfl, (v5'.trans (v6'.trans v7')) _ _ f6e, upd_same, by show 5 + 2 ≤ sizeLine; decide, fun c8 o8 => ?_⟩
        have v8' := s_new (o := HO.lst ([.ref a0, .ref a1, .ref a2, .ref a3, .ref a4] ++ [.ref c5, .ref c6])) o8
        refine ⟨_, rfl, c8, l7, _, _, rfl, rfl, upd_same, (v5'.trans (v6'.trans (v7'.trans v8'))) _ _ f7c, by show 7 + 4 ≤ sizeLine; decide, fun c9 o9 => ?_⟩
        have v9' := s_new (o := HO.lst ([.ref a0, .ref a1, .ref a2, .ref a3, .ref a4] ++ [.ref c5, .ref c6] ++ [.ref b0, .ref b1, .ref b2, .ref b3])) o9
        have W0 : Same B8 _ := v5'.trans (v6'.trans (v7'.trans (v8'.trans v9')))
        have fE := upd_same (H := upd (upd (upd C1' c6 (ExO (.ref (cs.getD 6 0)) c6)) c7 (.lst [.ref c5, .ref c6])) c8 (.lst ([.ref a0, .ref a1, .ref a2, .ref a3, .ref a4] ++ [.ref c5, .ref c6]))) (a := c9) (o := .lst ([.ref a0, .ref a1, .ref a2, .ref a3, .ref a4] ++ [.ref c5, .ref c6] ++ [.ref b0, .ref b1, .ref b2, .ref b3]))
        have U5 := U4.trans W0
        have eE : ∀ (j : Nat) (q : Addr), [a0, a1, a2, a3, a4, c5, c6, b0, b1, b2, b3][j]? = some q → ErrW (upd (upd (upd (upd C1' c6 (ExO (.ref (cs.getD 6 0)) c6)) c7 (.lst [.ref c5, .ref c6])) c8 (.lst ([.ref a0, .ref a1, .ref a2, .ref a3, .ref a4] ++ [.ref c5, .ref c6]))) c9 (.lst ([.ref a0, .ref a1, .ref a2, .ref a3, .ref a4] ++ [.ref c5, .ref c6] ++ [.ref b0, .ref b1, .ref b2, .ref b3]))) q (cs.getD j 0) ∧ ExcC K (cs.getD j 0) := by
          intro j q e
          match j, e with
          | 0, e => exact ⟨(eP10 0 q e).same W0, M.c0.xc⟩
          | 1, e => exact ⟨(eP10 1 q e).same W0, M.c1.xc⟩
          | 2, e => exact ⟨(eP10 2 q e).same W0, M.c2.xc⟩
          | 3, e => exact ⟨(eP10 3 q e).same W0, M.c3.xc⟩
          | 4, e => exact ⟨(eP10 4 q e).same W0, M.c4.xc⟩
          | 5, e => obtain rfl := Option.some.inj e; exact ⟨.inr ⟨_, e11.same (v6'.trans (v7'.trans (v8'.trans v9')))⟩, M.c5.xc⟩
          | 6, e => obtain rfl := Option.some.inj e; exact ⟨.inl (e12.same (v7'.trans (v8'.trans v9'))), M.x6⟩
          | 7, e => obtain rfl := Option.some.inj e; exact ⟨.inr ⟨_, g7c.same W0⟩, M.c7.xc⟩
          | 8, e => obtain rfl := Option.some.inj e; exact ⟨.inr ⟨_, g8c.same W0⟩, M.c8.xc⟩
          | 9, e => obtain rfl := Option.some.inj e; exact ⟨.inr ⟨_, g9c.same W0⟩, M.c9.xc⟩
          | 10, e => obtain rfl := Option.some.inj e; exact ⟨.inr ⟨_, g10c.same W0⟩, M.c10.xc⟩
          | j + 11, e => simp at e
        generalize upd (upd (upd (upd C1' c6 (ExO (.ref (cs.getD 6 0)) c6)) c7 (.lst [.ref c5, .ref c6])) c8 (.lst ([.ref a0, .ref a1, .ref a2, .ref a3, .ref a4] ++ [.ref c5, .ref c6]))) c9 (.lst ([.ref a0, .ref a1, .ref a2, .ref a3, .ref a4] ++ [.ref c5, .ref c6] ++ [.ref b0, .ref b1, .ref b2, .ref b3])) = C9 at U5 eE fE ⊢
        replace fE : C9 c9 = some (.lst ([a0, a1, a2, a3, a4, c5, c6, b0, b1, b2, b3].map V.ref)) := fE
        -- kinds of every
        refine ⟨_, rfl, c9, rfl, ⟨_, SqL.of fE⟩, fun K1 hK1 => lc_list (xs := [a0, a1, a2, a3, a4, c5, c6, b0, b1, b2, b3].map V.ref) (fun i H' => ∃ xs : List Addr, H' K1 = some (.lst (xs.map V.ref)) ∧ xs.length = i ∧ (∀ (j : Nat) (q : Addr), xs[j]? = some q → q ≠ K1 ∧ H' q = some (.lst [V.int (j : Int)])) ∧ Same C9 H')
          ⟨[], upd_same, rfl, fun j q e => by simp at e, s_new hK1⟩ (fun i H' _ ⟨_, _, _, _, u⟩ => SqL.of (u _ _ fE)) ?_ ?_⟩
        · rintro j y H6 hj ⟨xs, k1, k2, k3, k4⟩
          have hj11 : j < 11 := by
            have q := (List.getElem?_eq_some_iff.mp hj).1
            simpa using q
          rw [List.getElem?_map] at hj
          cases hq : [a0, a1, a2, a3, a4, c5, c6, b0, b1, b2, b3][j]? with
          | none => rw [hq] at hj; cases hj
          | some q =>
            rw [hq] at hj
            obtain rfl := Option.some.inj hj
            obtain ⟨p1, p2⟩ := eE j q hq
            refine ⟨rfl, _, rfl, q, _, kRow j, rfl, p1.same k4, p2, M.kk j hj11, fun l' H7 nl hl' s7 => ?_⟩
            rw [kRow_idx ⟨j, hj11⟩] at hl'
            have nK : l' ≠ K1 := fun z => by rw [z, k1] at nl; cases nl
            refine ⟨_, s7 _ _ k1, by rw [List.length_map]; exact small1000 (by omega), xs ++ [l'], by rw [List.map_append]; exact upd_same, by rw [List.length_append, k2]; rfl, fun i q' e => ?_, fun b o e => by rw [upd_ne (ne_of_none e hK1)]; exact s7 _ _ (k4 b o e)⟩
            rcases snoc_at e with e | ⟨e1, e2⟩
            · obtain ⟨x1', x2'⟩ := k3 i q' e
              exact ⟨x1', by rw [upd_ne x1']; exact s7 _ _ x2'⟩
            · subst e2
              exact ⟨nK, by rw [upd_ne nK, e1, k2]; exact hl'⟩
        rintro H6 ⟨xs, k1, k2, k3, k4⟩
        refine ⟨_, rfl, by decide, by decide, fun K2 hK2 => lc_range (n := 11) (lo := 0) (fun i H' => ∃ ys : List Addr, H' K2 = some (.lst (ys.map V.ref)) ∧ ys.length = i ∧ (∀ (j : Nat) (q : Addr), ys[j]? = some q → q ≠ K2 ∧ H' q = some (.lst [V.int (j : Int)])) ∧ Same H6 H')
          ⟨[], upd_same, rfl, fun j q e => by simp at e, s_new hK2⟩ ?_ ?_⟩
        · rintro j H7 hj ⟨ys, m1', m2', m3', m4'⟩
          refine ⟨rfl, _, rfl, by show 1 ≤ sizeLine; decide, fun q nq => ?_⟩
          have nK : q ≠ K2 := fun z => by rw [z, m1'] at nq; cases nq
          have s8 := s_new (o := HO.lst [V.int (0 + (j : Int))]) nq
          refine ⟨_, s8 _ _ m1', by rw [List.length_map]; exact small1000 (by omega), ys ++ [q], by rw [List.map_append]; exact upd_same, by rw [List.length_append, m2']; rfl, fun i q' e => ?_, fun b o e => by rw [upd_ne (ne_of_none e hK2)]; exact s8 _ _ (m4' b o e)⟩
          rcases snoc_at e with e | ⟨e1, e2⟩
          · obtain ⟨x1', x2'⟩ := m3' i q' e
            exact ⟨x1', by rw [upd_ne x1']; exact s8 _ _ x2'⟩
          · subst e2
            exact ⟨nK, by rw [upd_ne nK, e1, m2', upd_same, Int.zero_add]⟩
        rintro H7 ⟨ys, m1', m2', m3', m4'⟩
        have dk1 : Dp K H7 (.ref K1) (.list ((List.range' 0 11).map fun j : Nat => PyData.list [.int (j : Int)])) := by
          have q := dp_rng (K := K) (H := H7) xs 0 fun j q e => by rw [Nat.zero_add]; exact m4' _ _ (k3 j q e).2
          rw [k2] at q
          exact .lst (SqL.of (m4' _ _ k1)) q
        have dk2 : Dp K H7 (.ref K2) (.list ((List.range' 0 11).map fun j : Nat => PyData.list [.int (j : Int)])) := by
          have q := dp_rng (K := K) (H := H7) ys 0 fun j q e => by rw [Nat.zero_add]; exact (m3' j q e).2
          rw [m2'] at q
          exact .lst (SqL.of m1') q
        refine ⟨_, _, dk1, dk2, kinds_sh, kinds_sh, _, rfl, ?_⟩
        rw [kinds_eq]
        refine iteF ?_
        have k5 := k4.trans m4'
        have fE' := k5 _ _ fE
        have eE' : ∀ (j : Nat) (q : Addr), [a0, a1, a2, a3, a4, c5, c6, b0, b1, b2, b3][j]? = some q → ErrW H7 q (cs.getD j 0) ∧ ExcC K (cs.getD j 0) := fun j q e => ⟨(eE j q e).1.same k5, (eE j q e).2⟩
        have U6 := U5.trans k5
        -- first, third, last
        refine ⟨by show 5 ≤ sizeLine; decide, fun x7 hx7 => ?_⟩
        refine ⟨by show 5 ≤ sizeLine; decide, fun x8 hx8 => ⟨_, _, rfl, ?_⟩⟩
        refine ⟨by show 5 ≤ sizeLine; decide, fun x9 hx9 => ?_⟩
        have j7 := s_new (o := HO.lst ([true, true, false, false, false].map V.bl)) hx7
        have j8 := s_new (o := HO.lst ([false, false, true, false, false].map V.bl)) hx8
        have j9 := s_new (o := HO.lst ([false, false, false, true, true].map V.bl)) hx9
        have i7 := (j8.trans j9) _ _ upd_same
        have i8 := j9 _ _ upd_same
        have i9 := upd_same (H := upd (upd H7 x7 (.lst ([true, true, false, false, false].map V.bl))) x8 (.lst ([false, false, true, false, false].map V.bl))) (a := x9) (o := .lst ([false, false, false, true, true].map V.bl))
        have J := j7.trans (j8.trans j9)
        have fE2 := J _ _ fE'
        have eE2 : ∀ (j : Nat) (q : Addr), [a0, a1, a2, a3, a4, c5, c6, b0, b1, b2, b3][j]? = some q → ErrW (upd (upd (upd H7 x7 (.lst ([true, true, false, false, false].map V.bl))) x8 (.lst ([false, false, true, false, false].map V.bl))) x9 (.lst ([false, false, false, true, true].map V.bl))) q (cs.getD j 0) ∧ ExcC K (cs.getD j 0) := fun j q e => ⟨(eE' j q e).1.same J, (eE' j q e).2⟩
        have U7 := U6.trans J
        refine ⟨_, rfl, c9, rfl, ⟨_, SqL.of fE2⟩, fun K3 hK3 => lc_list (xs := [a0, a1, a2, a3, a4, c5, c6, b0, b1, b2, b3].map V.ref) (fun i H' => ∃ xs : List Addr, H' K3 = some (.lst (xs.map V.ref)) ∧ xs.length = i ∧ (∀ (j : Nat) (q : Addr), xs[j]? = some q → q ≠ K3 ∧ H' q = some (.lst (rowV (bRow j) 5))) ∧ Same (upd (upd (upd H7 x7 (.lst ([true, true, false, false, false].map V.bl))) x8 (.lst ([false, false, true, false, false].map V.bl))) x9 (.lst ([false, false, false, true, true].map V.bl))) H')
          ⟨[], upd_same, rfl, fun j q e => by simp at e, s_new hK3⟩ (fun i H' _ ⟨_, _, _, _, u⟩ => SqL.of (u _ _ fE2)) ?_ ?_⟩
        · rintro j y H8 hj ⟨zs, k1', k2', k3', k4'⟩
          have hj11 : j < 11 := by
            have q := (List.getElem?_eq_some_iff.mp hj).1
            simpa using q
          rw [List.getElem?_map] at hj
          cases hq : [a0, a1, a2, a3, a4, c5, c6, b0, b1, b2, b3][j]? with
          | none => rw [hq] at hj; cases hj
          | some q =>
            rw [hq] at hj
            obtain rfl := Option.some.inj hj
            obtain ⟨p1, p2⟩ := eE2 j q hq
            refine ⟨rfl, _, rfl, q, _, bRow j, rfl, p1.same k4', p2, M.kb j hj11, fun l' H9 nl hl' s7 => ?_⟩
            have nK : l' ≠ K3 := fun z => by rw [z, k1'] at nl; cases nl
            refine ⟨_, s7 _ _ k1', by rw [List.length_map]; exact small1000 (by omega), zs ++ [l'], by rw [List.map_append]; exact upd_same, by rw [List.length_append, k2']; rfl, fun i q' e => ?_, fun b o e => by rw [upd_ne (ne_of_none e hK3)]; exact s7 _ _ (k4' b o e)⟩
            rcases snoc_at e with e | ⟨e1, e2⟩
            · obtain ⟨x1', x2'⟩ := k3' i q' e
              exact ⟨x1', by rw [upd_ne x1']; exact s7 _ _ x2'⟩
            · subst e2
              exact ⟨nK, by rw [upd_ne nK, e1, k2']; exact hl'⟩
        rintro H8 ⟨zs, k1', k2', k3', k4'⟩
        refine ⟨_, rfl, by show 1 ≤ sizeLine; decide, fun r1' ha1 => ?_⟩
        refine ⟨r1', 7, [.ref x7], rfl, rfl, upd_same, by decide, by decide, by show 7 ≤ sizeLine; decide, fun r2' ha2 => ?_⟩
        refine ⟨_, rfl, by show 1 ≤ sizeLine; decide, fun r3' ha3 => ?_⟩
        refine ⟨r3', 3, [.ref x8], rfl, rfl, upd_same, by decide, by decide, by show 3 ≤ sizeLine; decide, fun r4' ha4 => ?_⟩
        have ba1 := s_new (o := HO.lst [.ref x7]) ha1
        have ba2 := s_new (o := HO.lst (List.replicate (Int.toNat 7) [V.ref x7]).flatten) ha2
        have ba3 := s_new (o := HO.lst [.ref x8]) ha3
        have ba4 := s_new (o := HO.lst (List.replicate (Int.toNat 3) [V.ref x8]).flatten) ha4
        refine ⟨r2', r4', _, _, rfl, rfl, (ba3.trans ba4) _ _ upd_same, upd_same, by show 7 + 3 ≤ sizeLine; decide, fun r5' ha5 => ?_⟩
        have ba5 := s_new (o := HO.lst ((List.replicate (Int.toNat 7) [V.ref x7]).flatten ++ (List.replicate (Int.toNat 3) [V.ref x8]).flatten)) ha5
        refine ⟨_, rfl, by show 1 ≤ sizeLine; decide, fun r6' ha6 => ?_⟩
        have ba6 := s_new (o := HO.lst [.ref x9]) ha6
        refine ⟨r5', r6', _, _, rfl, rfl, ba6 _ _ upd_same, upd_same, by show 10 + 1 ≤ sizeLine; decide, fun r7' ha7 => ?_⟩
        have ba7 := s_new (o := HO.lst ((List.replicate (Int.toNat 7) [V.ref x7]).flatten ++ (List.replicate (Int.toNat 3) [V.ref x8]).flatten ++ [.ref x9])) ha7
        have BA := ((((((ba1.trans ba2).trans ba3).trans ba4).trans ba5).trans ba6).trans ba7)
        have BB := k4'.trans BA
        refine ⟨basesD, wantD, ?_, .lst (SqL.of upd_same) (dp_app (dp_app (dp_rep (.lst (SqL.of (BB _ _ i7)) (dp_bl [true, true, false, false, false])) 7) (dp_rep (.lst (SqL.of (BB _ _ i8)) (dp_bl [false, false, true, false, false])) 3)) (.cons (.lst (SqL.of (BB _ _ i9)) (dp_bl [false, false, false, true, true])) .nil)), bases_sh.1, bases_sh.2.1, _, rfl, ?_⟩
        · have q := dp_rows (K := K) (H := _) bRow zs 0 fun j q e => by rw [Nat.zero_add]; exact BA _ _ (k3' j q e).2
          rw [k2'] at q
          exact .lst (SqL.of (BA _ _ k1')) q
        rw [bases_sh.2.2]
        refine iteF ?_
        have UU := (U7.trans k4').trans BA
        exact ⟨_, _, _, _, _, _, _, _, _, _, _, _, _, _, rfl, D9.sm UU, S9.same UU⟩
    · rintro σ H2 ⟨v3, v4, v5, v6, v7, v8, v9, v10, v11, v12, v13, v14, v15, v16, rfl, D7, S7⟩
      refine fun p0 hp0 => ?_
      refine ⟨p0, CP, [true, true, false, false, false], rfl, .inl (.of_ExO upd_same), M.xP, M.pb, fun l' H3 nl hl' s3 => ?_⟩
      refine ⟨by show 5 ≤ sizeLine; decide, fun q1' hq1' => ?_⟩
      have s4 := s_new (o := HO.lst ([true, true, false, false, false].map V.bl)) hq1'
      refine ⟨_, _, .lst (SqL.of (s4 _ _ hl')) (dp_bl [true, true, false, false, false]), .lst (SqL.of upd_same) (dp_bl [true, true, false, false, false]), bD_sh.1, bD_sh.1, _, rfl, ?_⟩
      rw [show PyData.eqv (.list ([true, true, false, false, false].map PyData.bool)) (.list ([true, true, false, false, false].map PyData.bool)) = true from bD_sh.2]
      refine iteF ?_
      refine fun p1 hp1 => ?_
      refine ⟨p1, CP, [], rfl, .inl (.of_ExO upd_same), M.xP, M.pk, fun l2' H4 nl2 hl2' s5 => ?_⟩
      rw [show idxs [] 11 = [] by decide +kernel] at hl2'
      refine ⟨by show 0 ≤ sizeLine; decide, fun q2' hq2' => ?_⟩
      have s6 := s_new (o := HO.lst []) hq2'
      refine ⟨_, _, .lst (SqL.of (s6 _ _ hl2')) .nil, .lst (SqL.of upd_same) .nil, nil_sh.1, nil_sh.1, _, rfl, ?_⟩
      rw [nil_sh.2]
      refine iteF ?_
      -- caught
      refine ⟨rfl, fun t d' H5 hd' ht' s7 => ⟨true, M.te, fun _ a0 ha0 => ?_, fun q => nomatch q⟩⟩
      refine ⟨_, rfl, ha0, ?_⟩
      have eC : ErrW (upd H5 a0 (exh a0 (.ref (cs.getD 0 0)) (some d'))) a0 (cs.getD 0 0) := .inr ⟨_, d', .of_exh upd_same, .inr (by rw [upd_ne (ne_of_none hd' ha0)]; exact hd')⟩
      generalize upd H5 a0 (exh a0 (.ref (cs.getD 0 0)) (some d')) = H6 at eC ⊢
      refine ⟨_, rfl, rfl, _, rfl, ?_⟩
      refine iteF ?_
      refine ⟨_, rfl, a0, _, kRow 0, rfl, eC, M.c0.xc, M.kk 0 (by decide), fun l3' H7 nl3 hl3' s8 => ?_⟩
      rw [kRow_idx ⟨0, by decide⟩] at hl3'
      refine ⟨by show 1 ≤ sizeLine; decide, fun q3' hq3' => ?_⟩
      have s9 := s_new (o := HO.lst [.int 0]) hq3'
      refine ⟨_, _, .lst (SqL.of (s9 _ _ hl3')) (.cons (.int _) .nil), .lst (SqL.of upd_same) (.cons (.int _) .nil), zero_sh.1, zero_sh.1, _, rfl, ?_⟩
      rw [show PyData.eqv (.list [.int ((⟨0, by decide⟩ : Fin 11).val : Int)]) (.list [.int 0]) = true from zero_sh.2]
      refine iteF ?_
      refine ⟨_, rfl, a0, _, bRow 0, rfl, (eC.same s8).same s9, M.c0.xc, M.kb 0 (by decide), fun l4' H8 nl4 hl4' s10 => ?_⟩
      refine ⟨by show 5 ≤ sizeLine; decide, fun q4' hq4' => ?_⟩
      have s11 := s_new (o := HO.lst ([true, true, false, false, false].map V.bl)) hq4'
      refine ⟨_, _, .lst (SqL.of (s11 _ _ hl4')) (dp_bl [true, true, false, false, false]), .lst (SqL.of upd_same) (dp_bl [true, true, false, false, false]), bD_sh.1, bD_sh.1, _, rfl, ?_⟩
      rw [show PyData.eqv (.list ([true, true, false, false, false].map PyData.bool)) (.list ([true, true, false, false, false].map PyData.bool)) = true from bD_sh.2]
      refine iteF ?_
      -- told
      refine ⟨by show 5 ≤ sizeLine; decide, fun q5' hq5' => ?_⟩
      refine ⟨_, rfl, .ref q5', _, rfl, .lst upd_same (.cons (.int 24) (.cons (.int 6) (.cons (.int 99) (.cons (.int 999999) (.cons (.int 400) .nil))))), five_ok, ?_⟩
      refine ⟨by show 5 ≤ sizeLine; decide, fun q6' hq6' => ?_⟩
      refine ⟨.ref q6', _, rfl, .lst upd_same (.cons (.int 24) (.cons (.int 6) (.cons (.int 99) (.cons (.int 999999) (.cons (.int 400) .nil))))), five_ok, rfl, ?_⟩
      show Q (.bl (decide _)) _
      rw [decide_eq_true rfl]
      exact k _
end
end Cp

set_option Elab.async false
set_option linter.all false
set_option maxRecDepth 100000
set_option maxHeartbeats 4000000
namespace Cp
open PySem PySem.Spec L2 PyProof.Rows
def exB (K : PySem.W.Frag) (D : Addr) : Bool := decide (PySem.W.findIn K (.ref D) "__getattribute__" = some (some (.builtin "BaseException.__getattribute__"))) && (decide (PySem.W.findIn K (.ref D) "__getattr__" = some none) && (decide (PySem.W.subIn K (.ref D) (.type "BaseException") = some true) &&
  (PySem.W.hasDictIn K D && (decide (PySem.W.findIn K (.ref D) "__class__" = some (some (.builtin "object.__class__"))) && (decide (PySem.W.specialIn K (.builtin "object.__class__") "__get__" = some (some (.builtin "getset_descriptor.__get__"))) &&
  (decide (PySem.W.takesIn K (.builtin "object.__class__") = some true) && decide (PySem.W.mroIn K D (.type "object") = some true)))))))
theorem exB_ok {K : PySem.W.Frag} {D : Addr} (h : exB K D = true) : ExcC K D := by
  unfold exB at h
  simp only [Bool.and_eq_true, decide_eq_true_eq] at h
  obtain ⟨h1, h2, h3, h4, h5, h6, h7, h8⟩ := h
  exact ⟨h1, h2, h3, h4, h5, h6, h7, h8⟩
def noB (K : PySem.W.Frag) (C : Addr) (f : Str) : Bool := decide (PySem.W.findIn K (.ref C) f = some none)
theorem noB_ok {K : PySem.W.Frag} {C : Addr} {f : Str} (h : noB K C f = true) : PySem.W.findIn K (.ref C) f = some none := of_decide_eq_true h
def kitB (K : PySem.W.Frag) (C : Addr) (c : Value) (b : Bool) : Bool := decide (PySem.W.kitOne K (.ref C) c = some b)
def factsB (K : PySem.W.Frag) (cs : List Addr) (CP : Addr) : Bool :=
  (CP :: cs).all (exB K) && (cs.all (xfB K) && (oegB tlVE "ValueError.__new__" K (cs.getD 0 0) && (oegB tlVE "ValueError.__new__" K (cs.getD 1 0) && (oegB tlVE "ValueError.__new__" K (cs.getD 2 0) && (oegB tlVE "ValueError.__new__" K (cs.getD 3 0) && (oegB tlVE "ValueError.__new__" K (cs.getD 4 0) && (oegB tlVE "ValueError.__new__" K (cs.getD 5 0) && (oegB tlRE "RuntimeError.__new__" K (cs.getD 7 0) && (oegB tlRE "RuntimeError.__new__" K (cs.getD 8 0) && (oegB tlRE "RuntimeError.__new__" K (cs.getD 9 0) && (oegB tlKE "LookupError.__new__" K (cs.getD 10 0) && (noB K (cs.getD 0 0) "place" && (noB K (cs.getD 1 0) "place" && (noB K (cs.getD 2 0) "place" && (noB K (cs.getD 3 0) "place" && (noB K (cs.getD 4 0) "place" && (noB K (cs.getD 5 0) "word" && (noB K (cs.getD 7 0) "name" && (noB K (cs.getD 8 0) "kind" && (noB K (cs.getD 8 0) "other" && (noB K (cs.getD 9 0) "kind" && (noB K (cs.getD 9 0) "other" && (noB K (cs.getD 10 0) "name" && (PySem.W.excIn K (cs.getD 6 0) tlVE "ValueError.__new__" && (PySem.W.keepIn K (.ref (cs.getD 6 0)) && (PySem.W.excIn K CP tlVE "ValueError.__new__" && (PySem.W.keepIn K (.ref CP) && (decide (PySem.W.exmOne K (.ref (cs.getD 0 0)) (.ref CP) = some true) && ((List.range 11).all (fun i => (List.range 11).all fun j => kitB K (cs.getD i 0) (.ref (cs.getD j 0)) ((kRow i).getD j false)) && ((List.range 11).all (fun i => (List.range 5).all fun j => kitB K (cs.getD i 0) ((baseV CP).getD j .none) ((bRow i).getD j false)) && ((List.range 11).all (fun j => kitB K CP (.ref (cs.getD j 0)) false) && ((List.range 5).all (fun j => kitB K CP ((baseV CP).getD j .none) ([true, true, false, false, false].getD j false))))))))))))))))))))))))))))))))))
theorem rng_all {n : Nat} {p : Nat → Bool} (h : (List.range n).all p = true) {i : Nat} (hi : i < n) : p i = true := List.all_eq_true.mp h i (List.mem_range.mpr hi)
theorem all_mk {P : Program} {w : World} {K : PySem.W.Frag} {h : Heap} {mg : Str → Option Value} {fa : Addr} (X : K.In h) (G : h.Ns mainGlobals mg) (hfa : mg "law" = some (.ref fa))
    {C0 C1 C2 C3 C4 C5 C6 C7 C8 C9 C10 CP f0 f1 f2 f3 f4 f5 f6 f7 fI0 fI1 fI2 fI3 fI4 fI5 fI7 fI8 fI9 fI10 : Addr} {oc0 kV0 dc0 pm0 cd0 ct0 oc1 kV1 dc1 pm1 cd1 ct1 oc2 kV2 dc2 pm2 cd2 ct2 oc3 kV3 dc3 pm3 cd3 ct3 oc4 kV4 dc4 pm4 cd4 ct4 oc5 kV5 dc5 pm5 cd5 ct5 oc6 kV6 dc6 pm6 cd6 ct6 oc7 kV7 dc7 pm7 cd7 ct7 ocI0 kVI0 dcI0 pmI0 cdI0 ctI0 ocI1 kVI1 dcI1 pmI1 cdI1 ctI1 ocI2 kVI2 dcI2 pmI2 cdI2 ctI2 ocI3 kVI3 dcI3 pmI3 cdI3 ctI3 ocI4 kVI4 dcI4 pmI4 cdI4 ctI4 ocI5 kVI5 dcI5 pmI5 cdI5 ctI5 ocI7 kVI7 dcI7 pmI7 cdI7 ctI7 ocI8 kVI8 dcI8 pmI8 cdI8 ctI8 ocI9 kVI9 dcI9 pmI9 cdI9 ctI9 ocI10 kVI10 dcI10 pmI10 cdI10 ctI10 : Value} {od0 an0 od1 an1 od2 an2 od3 an3 od4 an4 od5 an5 od6 an6 od7 an7 odI0 anI0 odI1 anI1 odI2 anI2 odI3 anI3 odI4 anI4 odI5 anI5 odI7 anI7 odI8 anI8 odI9 anI9 odI10 anI10 : Option Addr} {sl0 sl1 sl2 sl3 sl4 sl5 sl6 sl7 slI0 slI1 slI2 slI3 slI4 slI5 slI7 slI8 slI9 slI10 : Array (Option Value)} {tk0 tk1 tk2 tk3 tk4 : Tok}
    (aC0 : PySem.W.nsIn K mainGlobals "BadLayout" = some (some (.ref C0)))
    (aC1 : PySem.W.nsIn K mainGlobals "BadFile" = some (some (.ref C1)))
    (aC2 : PySem.W.nsIn K mainGlobals "BadRow" = some (some (.ref C2)))
    (aC3 : PySem.W.nsIn K mainGlobals "BadLog" = some (some (.ref C3)))
    (aC4 : PySem.W.nsIn K mainGlobals "BadText" = some (some (.ref C4)))
    (aC5 : PySem.W.nsIn K mainGlobals "BadDeed" = some (some (.ref C5)))
    (aC6 : PySem.W.nsIn K mainGlobals "BadQuestion" = some (some (.ref C6)))
    (aC7 : PySem.W.nsIn K mainGlobals "Clash" = some (some (.ref C7)))
    (aC8 : PySem.W.nsIn K mainGlobals "Gap" = some (some (.ref C8)))
    (aC9 : PySem.W.nsIn K mainGlobals "Waste" = some (some (.ref C9)))
    (aC10 : PySem.W.nsIn K mainGlobals "Missing" = some (some (.ref C10)))
    (aCP : PySem.W.nsIn K mainGlobals "PartsError" = some (some (.ref CP)))
    (a0 : PySem.W.nsIn K mainGlobals "law" = some (some (.ref f0)))
    (l0 : K.lookup f0 = some ⟨oc0, od0, .func (PySem.W.fnOf "law" "law" (defArgs sLaw) (defBody sLaw) (defScope sLaw) .none kV0 dc0 pm0 an0 cd0 ct0), sl0⟩)
    (c0 : PySem.W.codeIn K cd0 "law" = true)
    (k0 : PySem.W.keepIn K (.ref f0) = true)
    (a1 : PySem.W.nsIn K mainGlobals "_law_begun" = some (some (.ref f1)))
    (l1 : K.lookup f1 = some ⟨oc1, od1, .func (PySem.W.fnOf "_law_begun" "_law_begun" (defArgs sBegun) (defBody sBegun) (defScope sBegun) .none kV1 dc1 pm1 an1 cd1 ct1), sl1⟩)
    (c1 : PySem.W.codeIn K cd1 "_law_begun" = true)
    (k1 : PySem.W.keepIn K (.ref f1) = true)
    (a2 : PySem.W.nsIn K mainGlobals "_law_next" = some (some (.ref f2)))
    (l2 : K.lookup f2 = some ⟨oc2, od2, .func (PySem.W.fnOf "_law_next" "_law_next" (defArgs sNext) (defBody sNext) (defScope sNext) .none kV2 dc2 pm2 an2 cd2 ct2), sl2⟩)
    (c2 : PySem.W.codeIn K cd2 "_law_next" = true)
    (k2 : PySem.W.keepIn K (.ref f2) = true)
    (a3 : PySem.W.nsIn K mainGlobals "_law_kinds" = some (some (.ref f3)))
    (l3 : K.lookup f3 = some ⟨oc3, od3, .func (PySem.W.fnOf "_law_kinds" "_law_kinds" (defArgs sKinds) (defBody sKinds) (defScope sKinds) .none kV3 dc3 pm3 an3 cd3 ct3), sl3⟩)
    (c3 : PySem.W.codeIn K cd3 "_law_kinds" = true)
    (k3 : PySem.W.keepIn K (.ref f3) = true)
    (a4 : PySem.W.nsIn K mainGlobals "_law_bases" = some (some (.ref f4)))
    (l4 : K.lookup f4 = some ⟨oc4, od4, .func (PySem.W.fnOf "_law_bases" "_law_bases" (defArgs sBases) (defBody sBases) (defScope sBases) .none kV4 dc4 pm4 an4 cd4 ct4), sl4⟩)
    (c4 : PySem.W.codeIn K cd4 "_law_bases" = true)
    (k4 : PySem.W.keepIn K (.ref f4) = true)
    (a5 : PySem.W.nsIn K mainGlobals "need_layout" = some (some (.ref f5)))
    (l5 : K.lookup f5 = some ⟨oc5, od5, .func (PySem.W.fnOf "need_layout" "need_layout" (defArgs sNeedL) (defBody sNeedL) (defScope sNeedL) .none kV5 dc5 pm5 an5 cd5 ct5), sl5⟩)
    (c5 : PySem.W.codeIn K cd5 "need_layout" = true)
    (k5 : PySem.W.keepIn K (.ref f5) = true)
    (a6 : PySem.W.nsIn K mainGlobals "reached_bits" = some (some (.ref f6)))
    (l6 : K.lookup f6 = some ⟨oc6, od6, .func (PySem.W.fnOf "reached_bits" "reached_bits" (defArgs sReach) (defBody sReach) (defScope sReach) .none kV6 dc6 pm6 an6 cd6 ct6), sl6⟩)
    (c6 : PySem.W.codeIn K cd6 "reached_bits" = true)
    (k6 : PySem.W.keepIn K (.ref f6) = true)
    (a7 : PySem.W.nsIn K mainGlobals "look_at" = some (some (.ref f7)))
    (l7 : K.lookup f7 = some ⟨oc7, od7, .func (PySem.W.fnOf "look_at" "look_at" (defArgs sLook) (defBody sLook) (defScope sLook) .none kV7 dc7 pm7 an7 cd7 ct7), sl7⟩)
    (c7 : PySem.W.codeIn K cd7 "look_at" = true)
    (k7 : PySem.W.keepIn K (.ref f7) = true)
    (i0 : PySem.W.findIn K (.ref C0) "__init__" = some (some (.ref fI0)))
    (t0 : PySem.W.typeIn K (.ref fI0) = some (.type "function"))
    (lI0 : K.lookup fI0 = some ⟨ocI0, odI0, .func (PySem.W.fnOf "__init__" "BadLayout.__init__" (defArgs sIBadLayout) (defBody sIBadLayout) (defScope sIBadLayout) .none kVI0 dcI0 pmI0 anI0 cdI0 ctI0), slI0⟩)
    (cI0 : PySem.W.codeIn K cdI0 "BadLayout.__init__" = true)
    (kI0 : PySem.W.keepIn K (.ref fI0) = true)
    (i1 : PySem.W.findIn K (.ref C1) "__init__" = some (some (.ref fI1)))
    (t1 : PySem.W.typeIn K (.ref fI1) = some (.type "function"))
    (lI1 : K.lookup fI1 = some ⟨ocI1, odI1, .func (PySem.W.fnOf "__init__" "BadFile.__init__" (defArgs sIBadFile) (defBody sIBadFile) (defScope sIBadFile) .none kVI1 dcI1 pmI1 anI1 cdI1 ctI1), slI1⟩)
    (cI1 : PySem.W.codeIn K cdI1 "BadFile.__init__" = true)
    (kI1 : PySem.W.keepIn K (.ref fI1) = true)
    (i2 : PySem.W.findIn K (.ref C2) "__init__" = some (some (.ref fI2)))
    (t2 : PySem.W.typeIn K (.ref fI2) = some (.type "function"))
    (lI2 : K.lookup fI2 = some ⟨ocI2, odI2, .func (PySem.W.fnOf "__init__" "BadRow.__init__" (defArgs sIBadRow) (defBody sIBadRow) (defScope sIBadRow) .none kVI2 dcI2 pmI2 anI2 cdI2 ctI2), slI2⟩)
    (cI2 : PySem.W.codeIn K cdI2 "BadRow.__init__" = true)
    (kI2 : PySem.W.keepIn K (.ref fI2) = true)
    (i3 : PySem.W.findIn K (.ref C3) "__init__" = some (some (.ref fI3)))
    (t3 : PySem.W.typeIn K (.ref fI3) = some (.type "function"))
    (lI3 : K.lookup fI3 = some ⟨ocI3, odI3, .func (PySem.W.fnOf "__init__" "BadLog.__init__" (defArgs sIBadLog) (defBody sIBadLog) (defScope sIBadLog) .none kVI3 dcI3 pmI3 anI3 cdI3 ctI3), slI3⟩)
    (cI3 : PySem.W.codeIn K cdI3 "BadLog.__init__" = true)
    (kI3 : PySem.W.keepIn K (.ref fI3) = true)
    (i4 : PySem.W.findIn K (.ref C4) "__init__" = some (some (.ref fI4)))
    (t4 : PySem.W.typeIn K (.ref fI4) = some (.type "function"))
    (lI4 : K.lookup fI4 = some ⟨ocI4, odI4, .func (PySem.W.fnOf "__init__" "BadText.__init__" (defArgs sIBadText) (defBody sIBadText) (defScope sIBadText) .none kVI4 dcI4 pmI4 anI4 cdI4 ctI4), slI4⟩)
    (cI4 : PySem.W.codeIn K cdI4 "BadText.__init__" = true)
    (kI4 : PySem.W.keepIn K (.ref fI4) = true)
    (i5 : PySem.W.findIn K (.ref C5) "__init__" = some (some (.ref fI5)))
    (t5 : PySem.W.typeIn K (.ref fI5) = some (.type "function"))
    (lI5 : K.lookup fI5 = some ⟨ocI5, odI5, .func (PySem.W.fnOf "__init__" "BadDeed.__init__" (defArgs sIBadDeed) (defBody sIBadDeed) (defScope sIBadDeed) .none kVI5 dcI5 pmI5 anI5 cdI5 ctI5), slI5⟩)
    (cI5 : PySem.W.codeIn K cdI5 "BadDeed.__init__" = true)
    (kI5 : PySem.W.keepIn K (.ref fI5) = true)
    (i7 : PySem.W.findIn K (.ref C7) "__init__" = some (some (.ref fI7)))
    (t7 : PySem.W.typeIn K (.ref fI7) = some (.type "function"))
    (lI7 : K.lookup fI7 = some ⟨ocI7, odI7, .func (PySem.W.fnOf "__init__" "Clash.__init__" (defArgs sIClash) (defBody sIClash) (defScope sIClash) .none kVI7 dcI7 pmI7 anI7 cdI7 ctI7), slI7⟩)
    (cI7 : PySem.W.codeIn K cdI7 "Clash.__init__" = true)
    (kI7 : PySem.W.keepIn K (.ref fI7) = true)
    (i8 : PySem.W.findIn K (.ref C8) "__init__" = some (some (.ref fI8)))
    (t8 : PySem.W.typeIn K (.ref fI8) = some (.type "function"))
    (lI8 : K.lookup fI8 = some ⟨ocI8, odI8, .func (PySem.W.fnOf "__init__" "Gap.__init__" (defArgs sIGap) (defBody sIGap) (defScope sIGap) .none kVI8 dcI8 pmI8 anI8 cdI8 ctI8), slI8⟩)
    (cI8 : PySem.W.codeIn K cdI8 "Gap.__init__" = true)
    (kI8 : PySem.W.keepIn K (.ref fI8) = true)
    (i9 : PySem.W.findIn K (.ref C9) "__init__" = some (some (.ref fI9)))
    (t9 : PySem.W.typeIn K (.ref fI9) = some (.type "function"))
    (lI9 : K.lookup fI9 = some ⟨ocI9, odI9, .func (PySem.W.fnOf "__init__" "Waste.__init__" (defArgs sIWaste) (defBody sIWaste) (defScope sIWaste) .none kVI9 dcI9 pmI9 anI9 cdI9 ctI9), slI9⟩)
    (cI9 : PySem.W.codeIn K cdI9 "Waste.__init__" = true)
    (kI9 : PySem.W.keepIn K (.ref fI9) = true)
    (i10 : PySem.W.findIn K (.ref C10) "__init__" = some (some (.ref fI10)))
    (t10 : PySem.W.typeIn K (.ref fI10) = some (.type "function"))
    (lI10 : K.lookup fI10 = some ⟨ocI10, odI10, .func (PySem.W.fnOf "__init__" "Missing.__init__" (defArgs sIMissing) (defBody sIMissing) (defScope sIMissing) .none kVI10 dcI10 pmI10 anI10 cdI10 ctI10), slI10⟩)
    (cI10 : PySem.W.codeIn K cdI10 "Missing.__init__" = true)
    (kI10 : PySem.W.keepIn K (.ref fI10) = true)
    (z_isinstance : PySem.W.nsIn K mainGlobals "isinstance" = some none)
    (z_ValueError : PySem.W.nsIn K mainGlobals "ValueError" = some none)
    (z_RuntimeError : PySem.W.nsIn K mainGlobals "RuntimeError" = some none)
    (z_KeyError : PySem.W.nsIn K mainGlobals "KeyError" = some none)
    (z_LookupError : PySem.W.nsIn K mainGlobals "LookupError" = some none)
    (z_range : PySem.W.nsIn K mainGlobals "range" = some none)
    (z_tuple : PySem.W.nsIn K mainGlobals "tuple" = some none)
    (z_int : PySem.W.nsIn K mainGlobals "int" = some none)
    (z_max : PySem.W.nsIn K mainGlobals "max" = some none)
    (z_min : PySem.W.nsIn K mainGlobals "min" = some none)
    (z_len : PySem.W.nsIn K mainGlobals "len" = some none)
    (z_enumerate : PySem.W.nsIn K mainGlobals "enumerate" = some none)
    (z_list : PySem.W.nsIn K mainGlobals "list" = some none)
    (z_repr : PySem.W.nsIn K mainGlobals "repr" = some none)
    (n0 : PySem.W.nsIn K mainGlobals "MOST_KINDS" = some (some (.int 24 tk0)))
    (n1 : PySem.W.nsIn K mainGlobals "MOST_BASES" = some (some (.int 6 tk1)))
    (n2 : PySem.W.nsIn K mainGlobals "MOST_EDITION" = some (some (.int 99 tk2)))
    (n3 : PySem.W.nsIn K mainGlobals "MOST_CONTENT" = some (some (.int 999999 tk3)))
    (n4 : PySem.W.nsIn K mainGlobals "MOST_STEPS" = some (some (.int 400 tk4)))
    (fb : factsB K [C0, C1, C2, C3, C4, C5, C6, C7, C8, C9, C10] CP = true) :
    ∃ fd : FuncData, (∀ (s : Shared) (u : Value), BindsTo s fd ⟨[u], []⟩ [("script", u)]) ∧ ∀ base : Heap, K.In base → base.Ns mainGlobals mg → (∃ o, base.get? sysModules = some o) → GOk P w K mg base CX0 6 fa fd ["script"] (spLaw K) := by
  have e := hfa.symm.trans (PySem.W.mg_of X G a0)
  cases e
  unfold factsB at fb
  simp only [Bool.and_eq_true] at fb
  obtain ⟨p0, p1, p2, p3, p4, p5, p6, p7, p8, p9, p10, p11, p12, p13, p14, p15, p16, p17, p18, p19, p20, p21, p22, p23, p24, p25, p26, p27, p28, p29, p30, p31, p32⟩ := fb
  have ex : ∀ C ∈ CP :: [C0, C1, C2, C3, C4, C5, C6, C7, C8, C9, C10], ExcC K C := fun C hC => exB_ok (List.all_eq_true.mp p0 C hC)
  have xf : ∀ C ∈ [C0, C1, C2, C3, C4, C5, C6, C7, C8, C9, C10], XfC K C := fun C hC => xfB_ok (List.all_eq_true.mp p1 C hC)
  have F0 := fun_mk (st := sLaw) l0 c0 k0
  have F1 := fun_mk (st := sBegun) l1 c1 k1
  have F2 := fun_mk (st := sNext) l2 c2 k2
  have F3 := fun_mk (st := sKinds) l3 c3 k3
  have F4 := fun_mk (st := sBases) l4 c4 k4
  have F5 := fun_mk (st := sNeedL) l5 c5 k5
  have F6 := fun_mk (st := sReach) l6 c6 k6
  have F7 := fun_mk (st := sLook) l7 c7 k7
  have b1 := F1.binds (ps := ["script"]) fun _ _ _ _ _ _ us hl => match us, hl with | [_], _ => rfl
  have b2 := F2.binds (ps := ["draw", "below"]) fun _ _ _ _ _ _ us hl => match us, hl with | [_, _], _ => rfl
  have b3 := F3.binds (ps := ["e"]) fun _ _ _ _ _ _ us hl => match us, hl with | [_], _ => rfl
  have b4 := F4.binds (ps := ["e"]) fun _ _ _ _ _ _ us hl => match us, hl with | [_], _ => rfl
  have b5 := F5.binds (ps := ["thing"]) fun _ _ _ _ _ _ us hl => match us, hl with | [_], _ => rfl
  have b6 := F6.binds (ps := ["thing"]) fun _ _ _ _ _ _ us hl => match us, hl with | [_], _ => rfl
  have b7 := F7.binds (ps := ["thing"]) fun _ _ _ _ _ _ us hl => match us, hl with | [_], _ => rfl
  have FI0 := fun_mk (st := sIBadLayout) lI0 cI0 kI0
  have bI0 := FI0.binds (ps := ["self", "place"]) fun _ _ _ _ _ _ us hl => match us, hl with | [_, _], _ => rfl
  have O0 : OexG tlVE "ValueError" "ValueError.__new__" "ValueError.__init__" tlVE K C0 := OexG.of tl_VE p2
  have FI1 := fun_mk (st := sIBadFile) lI1 cI1 kI1
  have bI1 := FI1.binds (ps := ["self", "place"]) fun _ _ _ _ _ _ us hl => match us, hl with | [_, _], _ => rfl
  have O1 : OexG tlVE "ValueError" "ValueError.__new__" "ValueError.__init__" tlVE K C1 := OexG.of tl_VE p3
  have FI2 := fun_mk (st := sIBadRow) lI2 cI2 kI2
  have bI2 := FI2.binds (ps := ["self", "place"]) fun _ _ _ _ _ _ us hl => match us, hl with | [_, _], _ => rfl
  have O2 : OexG tlVE "ValueError" "ValueError.__new__" "ValueError.__init__" tlVE K C2 := OexG.of tl_VE p4
  have FI3 := fun_mk (st := sIBadLog) lI3 cI3 kI3
  have bI3 := FI3.binds (ps := ["self", "place"]) fun _ _ _ _ _ _ us hl => match us, hl with | [_, _], _ => rfl
  have O3 : OexG tlVE "ValueError" "ValueError.__new__" "ValueError.__init__" tlVE K C3 := OexG.of tl_VE p5
  have FI4 := fun_mk (st := sIBadText) lI4 cI4 kI4
  have bI4 := FI4.binds (ps := ["self", "place"]) fun _ _ _ _ _ _ us hl => match us, hl with | [_, _], _ => rfl
  have O4 : OexG tlVE "ValueError" "ValueError.__new__" "ValueError.__init__" tlVE K C4 := OexG.of tl_VE p6
  have FI5 := fun_mk (st := sIBadDeed) lI5 cI5 kI5
  have bI5 := FI5.binds (ps := ["self", "word"]) fun _ _ _ _ _ _ us hl => match us, hl with | [_, _], _ => rfl
  have O5 : OexG tlVE "ValueError" "ValueError.__new__" "ValueError.__init__" tlVE K C5 := OexG.of tl_VE p7
  have FI7 := fun_mk (st := sIClash) lI7 cI7 kI7
  have bI7 := FI7.binds (ps := ["self", "name"]) fun _ _ _ _ _ _ us hl => match us, hl with | [_, _], _ => rfl
  have O7 : OexG tlRE "RuntimeError" "RuntimeError.__new__" "RuntimeError.__init__" tlRE K C7 := OexG.of tl_RE p8
  have FI8 := fun_mk (st := sIGap) lI8 cI8 kI8
  have bI8 := FI8.binds (ps := ["self", "kind", "other"]) fun _ _ _ _ _ _ us hl => match us, hl with | [_, _, _], _ => rfl
  have O8 : OexG tlRE "RuntimeError" "RuntimeError.__new__" "RuntimeError.__init__" tlRE K C8 := OexG.of tl_RE p9
  have FI9 := fun_mk (st := sIWaste) lI9 cI9 kI9
  have bI9 := FI9.binds (ps := ["self", "kind", "other"]) fun _ _ _ _ _ _ us hl => match us, hl with | [_, _, _], _ => rfl
  have O9 : OexG tlRE "RuntimeError" "RuntimeError.__new__" "RuntimeError.__init__" tlRE K C9 := OexG.of tl_RE p10
  have FI10 := fun_mk (st := sIMissing) lI10 cI10 kI10
  have bI10 := FI10.binds (ps := ["self", "name"]) fun _ _ _ _ _ _ us hl => match us, hl with | [_, _], _ => rfl
  have O10 : OexG tlKE "LookupError" "LookupError.__new__" "LookupError.__init__" [.type "LookupError", .type "Exception", .type "BaseException", .type "object"] K C10 := OexG.of tl_KE p11
  refine ⟨PySem.W.fnOf "law" "law" (defArgs sLaw) (defBody sLaw) (defScope sLaw) .none kV0 dc0 pm0 an0 cd0 ct0, fun s u => .of_eq rfl, fun base _ _ hmod => ?_⟩
  have T : TB mg := ⟨PySem.W.mg_none_of X G z_int, PySem.W.mg_none_of X G z_max, PySem.W.mg_none_of X G z_min, PySem.W.mg_none_of X G z_len, PySem.W.mg_none_of X G z_range, PySem.W.mg_none_of X G z_enumerate, PySem.W.mg_none_of X G z_tuple, PySem.W.mg_none_of X G z_list, PySem.W.mg_none_of X G z_repr⟩
  have TT : TC K mg [C0, C1, C2, C3, C4, C5, C6, C7, C8, C9, C10] CP := ⟨PySem.W.mg_of X G aC0, PySem.W.mg_of X G aC1, PySem.W.mg_of X G aC2, PySem.W.mg_of X G aC3, PySem.W.mg_of X G aC4, PySem.W.mg_of X G aC5, PySem.W.mg_of X G aC6, PySem.W.mg_of X G aC7, PySem.W.mg_of X G aC8, PySem.W.mg_of X G aC9, PySem.W.mg_of X G aC10, PySem.W.mg_of X G aCP, PySem.W.mg_none_of X G z_isinstance, PySem.W.mg_none_of X G z_ValueError, PySem.W.mg_none_of X G z_RuntimeError, PySem.W.mg_none_of X G z_KeyError, PySem.W.mg_none_of X G z_LookupError, PySem.W.mg_none_of X G z_range⟩
  have M : LM P w K mg base [C0, C1, C2, C3, C4, C5, C6, C7, C8, C9, C10] CP := {
    c0 := ⟨PySem.W.mg_of X G aC0, O0, ⟨_, _, i0, t0, ok_IBadLayout (tl := tlVE) (B := "ValueError") (newId := "ValueError.__new__") (initId := "ValueError.__init__") (bmB := tlVE) FI0, bI0⟩, noB_ok p12, xf _ (by simp), ex _ (by simp)⟩
    c1 := ⟨PySem.W.mg_of X G aC1, O1, ⟨_, _, i1, t1, ok_IBadFile (tl := tlVE) (B := "ValueError") (newId := "ValueError.__new__") (initId := "ValueError.__init__") (bmB := tlVE) FI1, bI1⟩, noB_ok p13, xf _ (by simp), ex _ (by simp)⟩
    c2 := ⟨PySem.W.mg_of X G aC2, O2, ⟨_, _, i2, t2, ok_IBadRow (tl := tlVE) (B := "ValueError") (newId := "ValueError.__new__") (initId := "ValueError.__init__") (bmB := tlVE) FI2, bI2⟩, noB_ok p14, xf _ (by simp), ex _ (by simp)⟩
    c3 := ⟨PySem.W.mg_of X G aC3, O3, ⟨_, _, i3, t3, ok_IBadLog (tl := tlVE) (B := "ValueError") (newId := "ValueError.__new__") (initId := "ValueError.__init__") (bmB := tlVE) FI3, bI3⟩, noB_ok p15, xf _ (by simp), ex _ (by simp)⟩
    c4 := ⟨PySem.W.mg_of X G aC4, O4, ⟨_, _, i4, t4, ok_IBadText (tl := tlVE) (B := "ValueError") (newId := "ValueError.__new__") (initId := "ValueError.__init__") (bmB := tlVE) FI4, bI4⟩, noB_ok p16, xf _ (by simp), ex _ (by simp)⟩
    c5 := ⟨PySem.W.mg_of X G aC5, O5, ⟨_, _, i5, t5, ok_IBadDeed (tl := tlVE) (B := "ValueError") (newId := "ValueError.__new__") (initId := "ValueError.__init__") (bmB := tlVE) FI5, bI5⟩, noB_ok p17, xf _ (by simp), ex _ (by simp)⟩
    c7 := ⟨PySem.W.mg_of X G aC7, O7, ⟨_, _, i7, t7, ok_IClash (tl := tlRE) (B := "RuntimeError") (newId := "RuntimeError.__new__") (initId := "RuntimeError.__init__") (bmB := tlRE) FI7, bI7⟩, noB_ok p18, xf _ (by simp), ex _ (by simp)⟩
    c8 := ⟨PySem.W.mg_of X G aC8, O8, ⟨_, _, i8, t8, ok_IGap (tl := tlRE) (B := "RuntimeError") (newId := "RuntimeError.__new__") (initId := "RuntimeError.__init__") (bmB := tlRE) FI8, bI8⟩, noB_ok p19, noB_ok p20, xf _ (by simp), ex _ (by simp)⟩
    c9 := ⟨PySem.W.mg_of X G aC9, O9, ⟨_, _, i9, t9, ok_IWaste (tl := tlRE) (B := "RuntimeError") (newId := "RuntimeError.__new__") (initId := "RuntimeError.__init__") (bmB := tlRE) FI9, bI9⟩, noB_ok p21, noB_ok p22, xf _ (by simp), ex _ (by simp)⟩
    c10 := ⟨PySem.W.mg_of X G aC10, O10, ⟨_, _, i10, t10, ok_IMissing (tl := tlKE) (B := "LookupError") (newId := "LookupError.__new__") (initId := "LookupError.__init__") (bmB := [.type "LookupError", .type "Exception", .type "BaseException", .type "object"]) FI10, bI10⟩, noB_ok p23, xf _ (by simp), ex _ (by simp)⟩
    gQ := PySem.W.mg_of X G aC6
    qQ := p24
    kQ := p25
    gP := PySem.W.mg_of X G aCP
    qP := p26
    kP := p27
    x6 := ex _ (by simp)
    xP := ex _ (by simp)
    te := of_decide_eq_true p28
    kk := fun i hi j hj => of_decide_eq_true (rng_all (rng_all p29 hi) hj)
    kb := fun i hi j hj => of_decide_eq_true (rng_all (rng_all p30 hi) hj)
    pk := fun j hj => of_decide_eq_true (rng_all p31 hj)
    pb := fun j hj => of_decide_eq_true (rng_all p32 hj)
    n0 := ⟨_, PySem.W.mg_of X G n0⟩
    n1 := ⟨_, PySem.W.mg_of X G n1⟩
    n2 := ⟨_, PySem.W.mg_of X G n2⟩
    n3 := ⟨_, PySem.W.mg_of X G n3⟩
    n4 := ⟨_, PySem.W.mg_of X G n4⟩
  }
  have GN := ok_look0 (P := P) (w := w) (mg := mg) (base := base) F7 FI0 bI0 O0 (noB_ok p12) i0 t0 (PySem.W.mg_of X G aC0) (PySem.W.mg_none_of X G z_isinstance) (PySem.W.mg_none_of X G z_tuple)
  have GR := ok_reach0 F6 GN k7 b7 (PySem.W.mg_of X G a7)
  have GL := ok_needL F5 GR k6 b6 (PySem.W.mg_of X G a6)
  exact ok_law hmod F0 T M (ok_begun F1 T) F1 b1 (PySem.W.mg_of X G a1) (ok_next F2 T) F2 b2 (PySem.W.mg_of X G a2) (ok_kinds F3 TT) F3 b3 (PySem.W.mg_of X G a3) (ok_bases F4 TT) F4 b4 (PySem.W.mg_of X G a4) GL k5 b5 (PySem.W.mg_of X G a5)
end Cp
set_option Elab.async false
set_option linter.all false
open PySem PySem.W PyProof.Rows
set_option maxRecDepth 100000 in
set_option maxHeartbeats 0 in
theorem PySem.Challenge.cw_carriedparts_k27_errors_and_their_bases_holds : PySem.Challenge.rw_carriedparts_k27_errors_and_their_bases.Holds := by
  w_on; o_law; k_head; (case hw => w_witness2)
  k_fill
  refine Cp.bwalk_K (l := PySem.Challenge.rw_carriedparts_k27_errors_and_their_bases) (n := 63) (k := 6) (x := "script") (CX := L2.CX0) (sp := Cp.spLaw) (by decide +kernel) rfl (by decide) rfl ⟨rfl, by decide, by decide⟩ (fun w h Y => PySem.W.kIn_of Y) ?F ?S (fun _ _ _ _ z => z)
  case S =>
    intro K H a ns hl hS
    exact ⟨a, ns, rfl, hS, hl, fun _ => rfl⟩
  case F =>
    intro w mg fa h KX G hmg
    refine' Cp.all_mk KX G hmg ?aC0 ?aC1 ?aC2 ?aC3 ?aC4 ?aC5 ?aC6 ?aC7 ?aC8 ?aC9 ?aC10 ?aCP ?a0 ?l0 ?c0 ?k0 ?a1 ?l1 ?c1 ?k1 ?a2 ?l2 ?c2 ?k2 ?a3 ?l3 ?c3 ?k3 ?a4 ?l4 ?c4 ?k4 ?a5 ?l5 ?c5 ?k5 ?a6 ?l6 ?c6 ?k6 ?a7 ?l7 ?c7 ?k7 ?i0 ?t0 ?lI0 ?cI0 ?kI0 ?i1 ?t1 ?lI1 ?cI1 ?kI1 ?i2 ?t2 ?lI2 ?cI2 ?kI2 ?i3 ?t3 ?lI3 ?cI3 ?kI3 ?i4 ?t4 ?lI4 ?cI4 ?kI4 ?i5 ?t5 ?lI5 ?cI5 ?kI5 ?i7 ?t7 ?lI7 ?cI7 ?kI7 ?i8 ?t8 ?lI8 ?cI8 ?kI8 ?i9 ?t9 ?lI9 ?cI9 ?kI9 ?i10 ?t10 ?lI10 ?cI10 ?kI10 ?z_isinstance ?z_ValueError ?z_RuntimeError ?z_KeyError ?z_LookupError ?z_range ?z_tuple ?z_int ?z_max ?z_min ?z_len ?z_enumerate ?z_list ?z_repr ?n0 ?n1 ?n2 ?n3 ?n4 ?fb
    (case aC0 => k_is)
    (case aC1 => k_is)
    (case aC2 => k_is)
    (case aC3 => k_is)
    (case aC4 => k_is)
    (case aC5 => k_is)
    (case aC6 => k_is)
    (case aC7 => k_is)
    (case aC8 => k_is)
    (case aC9 => k_is)
    (case aC10 => k_is)
    (case aCP => k_is)
    (case a0 => k_is)
    (case l0 => k_is)
    (case c0 => k_is)
    (case k0 => k_is)
    (case a1 => k_is)
    (case l1 => k_is)
    (case c1 => k_is)
    (case k1 => k_is)
    (case a2 => k_is)
    (case l2 => k_is)
    (case c2 => k_is)
    (case k2 => k_is)
    (case a3 => k_is)
    (case l3 => k_is)
    (case c3 => k_is)
    (case k3 => k_is)
    (case a4 => k_is)
    (case l4 => k_is)
    (case c4 => k_is)
    (case k4 => k_is)
    (case a5 => k_is)
    (case l5 => k_is)
    (case c5 => k_is)
    (case k5 => k_is)
    (case a6 => k_is)
    (case l6 => k_is)
    (case c6 => k_is)
    (case k6 => k_is)
    (case a7 => k_is)
    (case l7 => k_is)
    (case c7 => k_is)
    (case k7 => k_is)
    (case i0 => k_is)
    (case t0 => k_is)
    (case lI0 => k_is)
    (case cI0 => k_is)
    (case kI0 => k_is)
    (case i1 => k_is)
    (case t1 => k_is)
    (case lI1 => k_is)
    (case cI1 => k_is)
    (case kI1 => k_is)
    (case i2 => k_is)
    (case t2 => k_is)
    (case lI2 => k_is)
    (case cI2 => k_is)
    (case kI2 => k_is)
    (case i3 => k_is)
    (case t3 => k_is)
    (case lI3 => k_is)
    (case cI3 => k_is)
    (case kI3 => k_is)
    (case i4 => k_is)
    (case t4 => k_is)
    (case lI4 => k_is)
    (case cI4 => k_is)
    (case kI4 => k_is)
    (case i5 => k_is)
    (case t5 => k_is)
    (case lI5 => k_is)
    (case cI5 => k_is)
    (case kI5 => k_is)
    (case i7 => k_is)
    (case t7 => k_is)
    (case lI7 => k_is)
    (case cI7 => k_is)
    (case kI7 => k_is)
    (case i8 => k_is)
    (case t8 => k_is)
    (case lI8 => k_is)
    (case cI8 => k_is)
    (case kI8 => k_is)
    (case i9 => k_is)
    (case t9 => k_is)
    (case lI9 => k_is)
    (case cI9 => k_is)
    (case kI9 => k_is)
    (case i10 => k_is)
    (case t10 => k_is)
    (case lI10 => k_is)
    (case cI10 => k_is)
    (case kI10 => k_is)
    (case z_isinstance => k_is)
    (case z_ValueError => k_is)
    (case z_RuntimeError => k_is)
    (case z_KeyError => k_is)
    (case z_LookupError => k_is)
    (case z_range => k_is)
    (case z_tuple => k_is)
    (case z_int => k_is)
    (case z_max => k_is)
    (case z_min => k_is)
    (case z_len => k_is)
    (case z_enumerate => k_is)
    (case z_list => k_is)
    (case z_repr => k_is)
    (case n0 => k_is)
    (case n1 => k_is)
    (case n2 => k_is)
    (case n3 => k_is)
    (case n4 => k_is)
    (case fb => kernel_rfl)
