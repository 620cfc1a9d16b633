import PyProof.Rows.All
import Wide.All
import OpenK.AllK
import Wide.FinOn
import HandS.ForMost
import HandS.ForExc
import HandS.Small
import HandS.Conv
import HandS.Codes
import HandS.ToBytes
import HandS.WideBits
import HandS.StrMore
import KE.KStrBytes
import HandS.Walk
import HandS.Style
import HandS.TupAny
import HandS.More
import HandS.Ends
import HandS.ExcInit
import HandS.ExcField
import HandS.ExcIs
import HandS.TryMany
import PyProof.ReprLen
import PyProof.StrLawsRepr
import KE.GoesMore
import PyProof.EnumMake
import HandS.Iter
import HandS.Strs
import PyProof.JoinWalk
import HandS.MapObj
import HandS.IsInst
import HandS.ExcValue
import HandS.RaiseMore
import PyProof.NeKinds
import HandS.TryOnly
import HandS.RaiseOp
import KE.KDictIter
import HandS.Text
import HandS.SetTxt0
import HandS.SetBool
import HandS.Set
import PyProof.Rows.SortStr
import HandS.DictComp
import HandS.HeadHook3
import KE.GoesEnum
import HandS.RevTup
import HandS.List
import KE.KRevSl
import HandS.Finally
import PySem.Challenge.RW_carriedparts_k30_widened
set_option Elab.async false
set_option maxRecDepth 100000
namespace Cp
open PySem L2
def top (i : Nat) : Stmt := PySem.Challenge.pw_carriedparts_k30_widened.main.body.getD i (.Pass ⟨0, 0, 0, 0⟩)
abbrev sBegun : Stmt := top 30
abbrev sNext : Stmt := top 31
abbrev sTitles : Stmt := top 32
abbrev sSign : Stmt := top 33
abbrev sFrame : Stmt := top 34
abbrev sUnder : Stmt := top 35
abbrev sWord : Stmt := top 36
abbrev sMarks : Stmt := top 37
abbrev sMarked : Stmt := top 38
/-! ### the drawer: a dict of three, with a list -/
abbrev kx (x : Str) : Key := Sum.inr x
def drK (m t : Int) (g : Addr) : List (Key × V) := [(kx "mixed", .int m), (kx "great", .ref g), (kx "turn", .int t)]
def Drw (H : Hp) (d g : Addr) : Prop := ∃ (m t : Int) (gs : List Int), H d = some (.dK (drK m t g)) ∧ H g = some (.lst (gs.map V.int)) ∧ gs.length ≤ 63
/-- all but the drawer's own two objects is kept, and the drawer stands -/
structure Ev (d g : Addr) (H H' : Hp) : Prop where
  kp : ∀ b o, H b = some o → b ≠ d → b ≠ g → H' b = some o
  dr : Drw H' d g
theorem Ev.trans {d g : Addr} {H H1 H2 : Hp} (a : Ev d g H H1) (b : Ev d g H1 H2) : Ev d g H H2 := ⟨fun c o e h1 h2 => b.kp c o (a.kp c o e h1 h2) h1 h2, b.dr⟩
theorem Ev.refl {d g : Addr} {H : Hp} (a : Drw H d g) : Ev d g H H := ⟨fun _ _ e _ _ => e, a⟩
theorem Drw.hd {H : Hp} {d g : Addr} (a : Drw H d g) : ∃ o, H d = some o := by
  obtain ⟨m, t, gs, h, _⟩ := a
  exact ⟨_, h⟩
theorem Drw.hg {H : Hp} {d g : Addr} (a : Drw H d g) : ∃ o, H g = some o := by
  obtain ⟨m, t, gs, _, h, _⟩ := a
  exact ⟨_, h⟩
theorem Ev.free {d g : Addr} {H H' : Hp} (a : Ev d g H H') (x : Drw H d g) {p : Addr} (h : H' p = none) : H p = none := by
  cases q : H p with
  | none => rfl
  | some o =>
    by_cases e1 : p = d
    · subst e1
      obtain ⟨o', h'⟩ := a.dr.hd
      rw [h] at h'
      cases h'
    · by_cases e2 : p = g
      · subst e2
        obtain ⟨o', h'⟩ := a.dr.hg
        rw [h] at h'
        cases h'
      · rw [a.kp p o q e1 e2] at h
        cases h
/-- a new object beside the drawer -/
theorem Ev.new {d g : Addr} {H H' : Hp} (a : Ev d g H H') {p : Addr} {o : HO} (h : H' p = none) : Ev d g H (upd H' p o) := by
  obtain ⟨m, t, gs, h1, h2, h3⟩ := a.dr
  exact ⟨fun b u e e1 e2 => by rw [upd_ne (ne_of_none (a.kp b u e e1 e2) h)]; exact a.kp b u e e1 e2,
    m, t, gs, by rw [upd_ne (ne_of_none h1 h)]; exact h1, by rw [upd_ne (ne_of_none h2 h)]; exact h2, h3⟩

theorem n_mg : ¬ (("mixed" : Str) = "great") := by decide +kernel
theorem n_mt : ¬ (("mixed" : Str) = "turn") := by decide +kernel
theorem n_gm : ¬ (("great" : Str) = "mixed") := by decide +kernel
theorem n_gt : ¬ (("great" : Str) = "turn") := by decide +kernel
theorem n_tm : ¬ (("turn" : Str) = "mixed") := by decide +kernel
theorem n_tg : ¬ (("turn" : Str) = "great") := by decide +kernel
theorem kne {x y : Str} (h : ¬ x = y) : ¬ (kx x = kx y) := fun q => h (Sum.inr.inj q)
theorem dr_mixed (m t : Int) (g : Addr) : valV (drK m t g) (kx "mixed") = some (.int m) := by
  unfold drK
  exact valV_pos (p := (kx "mixed", V.int m)) rfl
theorem dr_great (m t : Int) (g : Addr) : valV (drK m t g) (kx "great") = some (.ref g) := by
  unfold drK
  rw [valV_neg (p := (kx "mixed", V.int m)) (kne n_mg)]
  exact valV_pos (p := (kx "great", V.ref g)) rfl
theorem dr_turn (m t : Int) (g : Addr) : valV (drK m t g) (kx "turn") = some (.int t) := by
  unfold drK
  rw [valV_neg (p := (kx "mixed", V.int m)) (kne n_mt), valV_neg (p := (kx "great", V.ref g)) (kne n_gt)]
  exact valV_pos (p := (kx "turn", V.int t)) rfl
theorem dr_put_turn (m t u : Int) (g : Addr) : putK (drK m t g) (kx "turn") (.int u) = drK m u g := by
  unfold putK
  rw [valV_any, dr_turn, if_pos (show (some (V.int t)).isSome = true from rfl)]
  unfold drK
  simp only [List.map_cons, List.map_nil]
  rw [if_neg (kne n_mt), if_neg (kne n_gt), if_pos trivial]
theorem dr_put_mixed (m t u : Int) (g : Addr) : putK (drK m t g) (kx "mixed") (.int u) = drK u t g := by
  unfold putK
  rw [valV_any, dr_mixed, if_pos (show (some (V.int m)).isSome = true from rfl)]
  unfold drK
  simp only [List.map_cons, List.map_nil]
  rw [if_neg (kne n_gm), if_neg (kne n_tm), if_pos trivial]
theorem get_turn {H : Hp} {d g : Addr} {m t : Int} (hd : H d = some (.dK (drK m t g))) : DGet H d (.str "turn") (some (.int t)) := by
  have q := DGet.k (k := kx "turn") hd
  rw [dr_turn] at q
  exact q
theorem get_mixed {H : Hp} {d g : Addr} {m t : Int} (hd : H d = some (.dK (drK m t g))) : DGet H d (.str "mixed") (some (.int m)) := by
  have q := DGet.k (k := kx "mixed") hd
  rw [dr_mixed] at q
  exact q
theorem get_great {H : Hp} {d g : Addr} {m t : Int} (hd : H d = some (.dK (drK m t g))) : DGet H d (.str "great") (some (.ref g)) := by
  have q := DGet.k (k := kx "great") hd
  rw [dr_great] at q
  exact q
theorem put_turn {H : Hp} {d g : Addr} {m t u : Int} (hd : H d = some (.dK (drK m t g))) : DPut H d (.str "turn") (.int u) (upd H d (.dK (drK m u g))) := by
  have q := DPut.k (k := kx "turn") (v := .int u) hd (by show 3 < sizeLine; decide)
  rw [dr_put_turn] at q
  exact q
theorem put_mixed {H : Hp} {d g : Addr} {m t u : Int} (hd : H d = some (.dK (drK m t g))) : DPut H d (.str "mixed") (.int u) (upd H d (.dK (drK u t g))) := by
  have q := DPut.k (k := kx "mixed") (v := .int u) hd (by show 3 < sizeLine; decide)
  rw [dr_put_mixed] at q
  exact q
theorem upd_keep {H : Hp} {a p : Addr} {o u : HO} (h : H a = some o) (hp : H p = none) : upd H p u a = some o := by
  rw [upd_ne (ne_of_none h hp)]
  exact h
theorem gen_val {T : V → Hp → Prop} {H : Hp} {z : Int} (Pz : Int → Prop) (hz : Pz z) (h : ∀ y, Pz y → T (.int y) H) : T (.int z) H := h z hz
theorem fm_nn {x n : Int} (h : 0 < n) : 0 ≤ x.fmod n := by
  rw [Int.fmod_eq_emod_of_nonneg _ (Int.le_of_lt h)]
  exact Int.emod_nonneg _ (by omega)
theorem fm_lt {x n : Int} (h : 0 < n) : x.fmod n < n := by
  rw [Int.fmod_eq_emod_of_nonneg _ (Int.le_of_lt h)]
  exact Int.emod_lt_of_pos _ h
theorem at_ok (x : Int) (L : Nat) : 0 ≤ x.fmod (if (L : Int) > 1 then (L : Int) else 1) ∧ (0 < L → x.fmod (if (L : Int) > 1 then (L : Int) else 1) < L) := by
  by_cases q1 : (L : Int) > 1
  · rw [if_pos q1]
    exact ⟨fm_nn (by omega), fun _ => fm_lt (by omega)⟩
  · rw [if_neg q1]
    exact ⟨fm_nn (by omega), fun q => by have := fm_lt (x := x) (n := 1) (by omega); omega⟩
theorem ixn_of {xs : List V} {z : Int} {j : Nat} (e : z = (j : Int)) (h : j < xs.length) : ixN xs.length z = some j := by
  subst e
  unfold ixN
  rw [if_pos (by omega), if_pos (by omega)]
  rfl
theorem dp_ints {K : PySem.W.Frag} {H : Hp} : ∀ gs : List Int, DpAll K H (gs.map V.int) (gs.map PyData.int)
  | [] => .nil
  | x :: r => .cons (.int x) (dp_ints r)
theorem can_ints : ∀ gs : List Int, PyData.canLayAll0 (gs.map PyData.int) = true
  | [] => by simp [PyData.canLayAll0]
  | x :: r => by simp [PyData.canLayAll0, PyData.canLay0, can_ints r]
theorem dep_ints : ∀ gs : List Int, PyData.depthAll (gs.map PyData.int) = 0
  | [] => by simp [PyData.depthAll]
  | x :: r => by simp [PyData.depthAll, PyData.depth, dep_ints r]
theorem shaped_ints (gs : List Int) : SeqAt.shaped (.list (gs.map PyData.int)) = true := by
  unfold SeqAt.shaped
  simp [PyData.canLay0, can_ints, PyData.depth, dep_ints]
theorem eqv_nil (gs : List Int) : PyData.eqv (.list (gs.map PyData.int)) (.list []) = decide (gs = []) := by
  cases gs with
  | nil => simp [PyData.eqv, PyData.eqvAll]
  | cons x r => simp [PyData.eqv, PyData.eqvAll]
def spNext : Sp := fun vs H Q _ => ∃ (d g : Addr) (n : Int), vs = [.ref d, .int n] ∧ Drw H d g ∧ 0 < n ∧ n < 1073741824 ∧ ∀ (r : Int) (H' : Hp), 0 ≤ r → r < n → Ev d g H H' → Q (.int r) H'
def spBegun (K : PySem.W.Frag) : Sp := fun vs H Q _ => ∃ (a : Addr) (ns : List Int), vs = [.ref a] ∧ SqL K H a (ns.map V.int) ∧ ns.length ≤ 63 ∧
  ∀ (d g : Addr) (H' : Hp), H d = none → H g = none → Drw H' d g → Same H H' → Q (.ref d) H'
structure TB (mg : Str → Option Value) : Prop where
  int : mg "int" = none
  max : mg "max" = none
  min : mg "min" = none
  len : mg "len" = none
  range : mg "range" = none
  enum : mg "enumerate" = none
  tuple : mg "tuple" = none
  list : mg "list" = none
  repr : mg "repr" = none
section
variable {P : Program} {w : World} {K : PySem.W.Frag} {mg : Str → Option Value} {base : Heap}
theorem scNext : FnScope ["draw", "below", "great", "at", "found", "mixed"] ["draw", "below"] (defScope sNext) := ⟨rfl, rfl, rfl, by decide +kernel, rfl, by decide +kernel, by decide +kernel⟩
theorem ok_next {f : Addr} {fd : FuncData} (F : Fun K "_law_next" "_law_next" sNext f fd) (T : TB mg) : FnOk P w K mg base CX0 1 f fd ["draw", "below"] spNext := by
  refine F.ok scNext (fun vs H Q E h => ?_) (fun cdv A outer s H vs Q E hr h => ?_)
  · obtain ⟨d, g, n, rfl, _⟩ := h
    rfl
  · obtain ⟨d, g, n, rfl, D, n0, n1, k⟩ := h
    have hu := hu_of hr
    refine ⟨_, pss_cons (ps_asg (pe_tup (pa_cons (pe_op op_add (pe_dget hu (pv 0) pe_str (fun _ _ => rfl)) pe_int) (pa_cons (pe_dget hu (pv 0) pe_str (fun _ _ => rfl)) pa_nil)))
        (pg_tup (by rfl) (pgs_cons (pg_sub (pv 0) pe_str (set_dict hu)) (pgs_cons (pg_name (i := 2) scNext.nd rfl (.inl rfl)) pgs_nil))))
      (pss_cons (ps_set (i := 3) scNext.nd rfl (.inl rfl) (pe_op op_modN (pe_callTy call_int1 (by rfl) T.int (by decide +kernel) (pa_cons (pe_dget hu (pv 0) pe_str (fun _ _ => rfl)) pa_nil))
          (pe_callB (call_max2 rfl) (by rfl) T.max (by decide +kernel) (pa_cons pe_int (pa_cons (pe_callB call_len_seq (by rfl) T.len PySem.boot_len (pa_cons (pv 2) pa_nil)) pa_nil)))))
      (C8.pss_cut (ps_if (PW.pt (pw_and (pt_cmpR (op_neD hr.units) (pv 2) (pe_lst pa_nil) (nomark _)) (pw_and1 (pt_cmpR op_gt (pe_ix ix_list (pv 2) (pv 3) (fun _ _ => rfl)) pe_int (nomark _)))))
          (pss_cons (ps_set (i := 4) scNext.nd rfl (.inl rfl) (pe_op op_modN (pe_callTy call_int1 (by rfl) T.int (by decide +kernel) (pa_cons (pe_ix ix_list (pv 2) (pv 3) (fun _ _ => rfl)) pa_nil)) (pv 1)))
          (pss_cons (ps_asg (pe_op op_fdivN (pe_ix ix_list (pv 2) (pv 3) (fun _ _ => rfl)) (pv 1)) (pg_sub (pv 2) (pv 3) set_list))
          (pss_one (ps_ret (pv 4))))) pss_nil)
      (pss_cons (ps_set (i := 5) scNext.nd rfl (.inl rfl) (pe_callTy call_int1 (by rfl) T.int (by decide +kernel) (pa_cons
          (pe_op op_add (pe_op op_add (pe_op op_mul (pe_dget hu (pv 0) pe_str (fun _ _ => rfl)) pe_int) (pe_op op_mul pe_int (pe_dget hu (pv 0) pe_str (fun _ _ => rfl)))) pe_int) pa_nil)))
      (pss_cons (ps_dput hu (pv 0) pe_str (pe_op op_mod (pe_callTy call_int1 (by rfl) T.int (by decide +kernel) (pa_cons (pv 5) pa_nil)) pe_int) rfl)
      (pss_one (ps_ret (pe_op op_modN (pe_callTy call_int1 (by rfl) T.int (by decide +kernel) (pa_cons (pe_op op_fdiv (pe_dget hu (pv 0) pe_str (fun _ _ => rfl)) pe_int) pa_nil)) (pv 1)))))))), ?_⟩
    obtain ⟨m, t, gs, hd, hg, hgl⟩ := D
    refine ⟨_, rfl, d, _, rfl, get_turn hd, _, _, rfl, rfl, _, rfl, d, _, rfl, get_great hd, ?_⟩
    refine ⟨by show 2 ≤ sizeLine; decide, fun p hp => ?_⟩
    have ndp : d ≠ p := ne_of_none hd hp
    have ngp : g ≠ p := ne_of_none hg hp
    have ngd : g ≠ d := ne_of hg hd (by intro q; cases q)
    refine ⟨p, _, rfl, SqT.of upd_same, rfl, _, _, rfl, _, rfl, d, _, rfl, put_turn (upd_keep hd hp), _, _, rfl, rfl, ?_⟩
    generalize hH1 : upd (upd H p _) d _ = H1
    have hd1 : H1 d = some (.dK (drK m (t + 1) g)) := by rw [← hH1]; exact upd_same
    have hg1 : H1 g = some (.lst (gs.map V.int)) := by rw [← hH1, upd_ne ngd, upd_ne ngp]; exact hg
    have kp1 : ∀ b o, H b = some o → b ≠ d → b ≠ g → H1 b = some o := fun b o e e1 e2 => by rw [← hH1, upd_ne e1, upd_ne (ne_of_none e hp)]; exact e
    -- at
    refine ⟨_, rfl, d, _, rfl, get_turn hd1, .inl ⟨_, rfl, ?_⟩⟩
    refine ⟨_, rfl, g, _, rfl, .inl (SqL.of hg1), ?_⟩
    refine ⟨_, _, rfl, ?_⟩
    refine ⟨_, _, rfl, rfl, ?_, ?_⟩
    · split <;> omega
    rw [List.length_map]
    have hz := at_ok (t + 1) gs.length
    have hz' := hz
    generalize ez : Int.fmod (t + 1) (if (gs.length : Int) > 1 then (gs.length : Int) else 1) = z at hz'
    obtain ⟨z0, z1⟩ := hz'
    -- the way by the digits, or past it
    refine ⟨fun σ' H' => (∃ x3 x4, σ' = [some (.ref d), some (.int n), some (.ref g), x3, x4, none]) ∧ ∃ gs' : List Int, H' d = some (.dK (drK m (t + 1) g)) ∧ H' g = some (.lst (gs'.map V.int)) ∧ gs'.length ≤ 63 ∧
      ∀ b o, H b = some o → b ≠ d → b ≠ g → H' b = some o, ?_, ?_⟩
    · refine ⟨_, rfl, (by show 0 ≤ sizeLine; decide), fun l hl => ?_⟩
      have hg2 : upd H1 l (.lst []) g = some (.lst (gs.map V.int)) := upd_keep hg1 hl
      have hd2 : upd H1 l (.lst []) d = some (.dK (drK m (t + 1) g)) := upd_keep hd1 hl
      have kp2 : ∀ b o, H b = some o → b ≠ d → b ≠ g → upd H1 l (.lst []) b = some o := fun b o e e1 e2 => upd_keep (kp1 b o e e1 e2) hl
      refine ⟨_, _, .lst (SqL.of hg2) (dp_ints gs), .lst (SqL.of upd_same) .nil, shaped_ints gs, rfl, _, rfl, ?_⟩
      rw [eqv_nil]
      by_cases eg : gs = []
      · rw [decide_eq_true eg]
        refine iteF (iteF ?_)
        exact ⟨⟨_, _, rfl⟩, gs, hd2, hg2, hgl, kp2⟩
      · rw [decide_eq_false eg]
        refine iteT ?_
        have hpos : 0 < gs.length := List.length_pos_iff.mpr eg
        obtain ⟨j, ej⟩ : ∃ j : Nat, z = (j : Int) := ⟨z.toNat, by omega⟩
        have hj : j < gs.length := by have := z1 hpos; omega
        have hat : (gs.map V.int)[j]? = some (.int gs[j]) := by rw [List.getElem?_map, List.getElem?_eq_getElem hj]; rfl
        refine ⟨_, rfl, _, rfl, g, _, _, _, rfl, rfl, SqL.of hg2, at_of (ez.trans ej) hat, _, _, rfl, rfl, _, rfl, ?_⟩
        by_cases hp0 : (0 : Int) < gs[j]
        · rw [decide_eq_true hp0]
          refine iteT ?_
          refine ⟨_, rfl, _, rfl, g, _, _, _, rfl, rfl, SqL.of hg2, at_of (ez.trans ej) hat, .inl ⟨_, rfl, _, rfl, _, _, rfl, rfl, (by omega), ?_⟩⟩
          refine ⟨_, rfl, _, rfl, g, _, _, _, rfl, rfl, SqL.of hg2, at_of (ez.trans ej) hat, _, rfl, _, _, rfl, rfl, ⟨by omega, by omega⟩, _, rfl, _, rfl, g, _, _, j, rfl, rfl, hg2, ixn_of (ez.trans ej) (by rw [List.length_map]; exact hj), _, rfl, ?_⟩
          refine k _ _ (fm_nn n0) (fm_lt n0) ⟨fun b o e e1 e2 => by rw [upd_ne e2]; exact kp2 b o e e1 e2, m, t + 1, gs.set j (gs[j].fdiv n), by rw [upd_ne ngd.symm]; exact hd2, ?_, by rw [List.length_set]; exact hgl⟩
          rw [List.map_set]
          exact upd_same
        · rw [decide_eq_false hp0]
          refine iteF ?_
          exact ⟨⟨_, _, rfl⟩, gs, hd2, hg2, hgl, kp2⟩
    · rintro σ' H2 ⟨⟨x3, x4, rfl⟩, gs', hd2, hg2, hgl2, kp2⟩
      refine ⟨_, rfl, d, _, rfl, get_mixed hd2, _, _, rfl, rfl, .inr (by decide), _, rfl, d, _, rfl, get_turn hd2, _, _, rfl, rfl, .inl (by decide), _, _, rfl, rfl, _, _, rfl, rfl, .inl ⟨_, rfl, ?_⟩⟩
      refine ⟨_, rfl, .inl ⟨_, rfl, _, _, rfl, rfl, (by show (0 : Int) < 2305843009213693951; decide), _, rfl, d, _, rfl, put_mixed hd2, ?_⟩⟩
      refine ⟨_, rfl, d, _, rfl, get_mixed upd_same, _, _, rfl, rfl, (by show (0 : Int) < 32749 ∧ (32749 : Int) < 1073741824; decide), .inl ⟨_, rfl, _, rfl, _, _, rfl, rfl, (by omega), ?_⟩⟩
      exact k _ _ (fm_nn n0) (fm_lt n0) ⟨fun b o e e1 e2 => by rw [upd_ne e1]; exact kp2 b o e e1 e2, _, t + 1, gs', upd_same, by rw [upd_ne ngd]; exact hg2, hgl2⟩
end
end Cp

set_option Elab.async false
set_option linter.all false
set_option maxRecDepth 100000
/-! ### a text's bytes; the number of many bytes -/
namespace Cp
open PySem PySem.Spec PyProof.Rows
section
variable {prog : Program} {w : World} {M : Model} {A : Around} {E : Value → Shared → Prop} {s : Shared}
theorem big_int {n : Nat} {Q : Value → Shared → Prop} (hn : n < 2 ^ 100000) (h : Q (.int (n : Int) s.toks) { s with toks := s.toks + 1 }) : wpAny M A (mkIntGrown (n : Int)) Q E s := by
  have hb : bitsLine = 134217728 := by first | rfl | decide
  have hl : ¬ ((n : Int).natAbs.log2 ≥ bitsLine) := by
    rw [Int.natAbs_natCast, hb]
    rcases Nat.eq_zero_or_pos n with hz | hz
    · subst hz; decide
    · have := (Nat.log2_lt (by omega)).mpr hn
      omega
  unfold mkIntGrown; rw [if_neg hl]; exact wpAny_mkInt h
theorem bytes_many {b : Array UInt8} {t u : Tok} {P : Fin → Shared → Prop} (hl : b.size ≤ 10000) (h : P (.done (.ret (.int (PySem.W.KFB.value (PySem.W.KBw.bInts b)) s.toks))) { s with toks := s.toks + 1 }) :
    wpAny M A (Builtin.«int.from_bytes» ⟨[.type "int", .bytes b t, .str (PySem.Str.ofString "big") u], []⟩) P E s := by
  have hv : ((b.toList.foldl (fun (acc : Nat) (b : UInt8) => acc * 256 + b.toNat) 0 : Nat) : Int) = PySem.W.KFB.value (PySem.W.KBw.bInts b) := PySem.W.KFB.fold_cast b.toList 0
  have hn : b.toList.foldl (fun (acc : Nat) (b : UInt8) => acc * 256 + b.toNat) 0 < 2 ^ 100000 := by
    have h1 := PySem.W.KFB.fold_lt b.toList 0
    rw [Nat.zero_add, Nat.one_mul, Array.length_toList] at h1
    have h2 : (256 : Nat) ^ b.size = 2 ^ (8 * b.size) := by rw [Nat.pow_mul]
    rw [h2] at h1
    exact Nat.lt_of_lt_of_le h1 (Nat.pow_le_pow_right (by decide) (by omega))
  unfold Builtin.«int.from_bytes»; refine wpAny_bind (wpAny_of_eq (a := true) PySem.W.KFB.type_int ?_); refine PySem.W.KFB.if_not rfl ?_
  refine wpAny_bind (wpAny_of_eq (a := true) PySem.F.conv_sub_int ?_); refine PySem.W.KFB.if_not rfl ?_
  refine wpAny_bind (wpAny_of_eq (a := [some (.bytes b t), some (.str (PySem.Str.ofString "big") u), none]) (by kernel_rfl) ?_); refine wpAny_bind (wpAny_of_eq (a := PySem.Str.ofString "big") (by kernel_rfl) ?_)
  refine wpAny_bind (wpAny_of_eq (a := false) rfl ?_); refine wpAny_bind (wpAny_of_eq (a := false) (by kernel_rfl) ?_); refine wpAny_bind (wpAny_of_eq (a := b) rfl ?_)
  show wpAny _ _ (mkIntGrown (b.toList.foldl (fun (acc : Int) (b : UInt8) => acc * 256 + (b.toNat : Int)) ((0 : Nat) : Int)) >>= fun v => _) _ _ _
  rw [PySem.W.KFB.foldI_eq]; refine wpAny_bind (big_int hn ?_); rw [hv]
  refine PySem.W.KFB.if_so (by decide +kernel) ?_
  exact wpAny_bind (wpAny_pure (wpAny_pure h))
end
end Cp
namespace Cp
open PySem PySem.Spec L2 PyProof.Rows
/-- text.encode() -/
theorem mt_encode {X : Cx} : MtR X "str.encode" (fun x xs H Q => ∃ a, x = .str a ∧ xs = [] ∧ (PySem.W.KSb.Asc a ∧ a.length ≤ 16777216) ∧ Q (.byt (byteArr (PySem.W.KSb.codes a))) H) := by
  intro pins s σ H x xs v us Q I rx rs h
  obtain ⟨a, rfl, rfl, ⟨ha, hz⟩, q⟩ := h
  obtain ⟨t, rfl⟩ := rx
  cases rs
  refine PySem.W.KSb.encode_K ha hz fun c t' k hc _ _ => ?_
  rw [byteArr_of hc]
  exact ⟨.byt _, H, I.tok k, ⟨t', rfl⟩, q⟩
/-- int.from_bytes(b, "big") of many bytes -/
def tFromB (t : TA) : TE := fun σ H Q => ∀ u, H u = none → t σ (upd H u (fbHO u)) fun vs H2 => H2 u = some (fbHO u) ∧ ∃ ks : List Int, B8 ks ∧ ks.length ≤ 10000 ∧ vs = [.byt (byteArr ks), .str "big"] ∧ Q (.int (PySem.W.KFB.value ks)) H2
theorem pe_fromB {X : Cx} {o e : Expr} {es : List Expr} {t : TA} {apos pos : Pos} {pl : Sem Bool} (ho : PE X o (fun σ H Q => Q (.ty "int") H)) (ha : PA X (e :: es) t) (hst : starEach (e :: es) X.env = (false, eval e X.env) :: starEach es X.env := by rfl) (hpl : (backTo pos (starEach es X.env)).any (·.1) = false := by rfl)
    (ht : eval (.Call (.Attribute o "from_bytes" apos) (e :: es) [] pos) X.env = (eval o X.env >>= fun ov => standAt apos.atName >>= fun _ => holding [ov] (getMethod ov "from_bytes" pl) >>= fun (f, first) => callWith pos f first (backTo pos (starEach (e :: es) X.env)) (backToKw pos (keywordEach [] X.env))) := by rfl) :
    PE X (.Call (.Attribute o "from_bytes" apos) (e :: es) [] pos) (tFromB t) := by
  refine ⟨fun pins s σ H Q I h => ?_⟩
  refine PySem.W.methodCall_KW (pl := pl) (thn (ho.run pins s σ H (fun x H1 => x = .ty "int" ∧ H1 = H) I ⟨rfl, rfl⟩) fun v s1 ⟨x, H1, I1, rx, ex, eH⟩ => ?_) ht
  subst ex eH
  obtain rfl : v = Value.type "int" := rx
  refine fb_get I1.kIn (find_fb _) ?_
  have eb : (s1.heap.push PySem.W.KFB.bound).get? s1.heap.objs.size = some PySem.W.KFB.bound := Heap.get?_push_size _ rfl
  have I2 := I1.laid (t' := s1.toks + 1) (a := s1.heap.objs.size) (o := fbHO s1.heap.objs.size) (h' := s1.heap.push PySem.W.KFB.bound) (fun b u q => Heap.get?_push_of_some _ q) (Nat.le_refl _) ⟨eb, ⟨_, eb⟩, fun h1 h2 f k => k _ f⟩
  refine (callWith_fb (thn (ha.run pos pins _ σ _ _ I2 (h _ (I1.hok.fresh (Nat.le_refl _)))) fun us s2 ⟨vs, H2, I3, rv, hu, ks, h8, hl, ev, k⟩ => ⟨fb_at I3 hu, ?_⟩) hst hpl : wpAny _ _ (callWith pos (.ref s1.heap.objs.size) [] (backTo pos (starEach (e :: es) X.env)) []) _ _ _)
  rw [ev] at rv
  obtain ⟨u1, u2, rfl, ⟨t1, rfl⟩, ⟨t2, rfl⟩⟩ := rv.two
  refine PySem.W.KFB.call_of (fb_at I3 hu) (fun z => bytes_many (by rw [byteArr_size]; exact hl) z) ?_
  rw [bInts_of h8]
  exact ⟨.int _, H2, I3.tok _, ⟨_, rfl⟩, k⟩
end Cp

set_option Elab.async false
set_option maxRecDepth 100000
namespace Cp
open PySem L2
theorem same_upd {H H' : Hp} (e : Same H H') {p : Addr} {o : HO} (h : H' p = none) : Same H (L2.upd H' p o) := fun b u q => by
  rw [upd_ne (ne_of_none (e b u q) h)]
  exact e b u q
theorem int_at {ns : List Int} {i : Nat} {y : V} (hi : (ns.map V.int)[i]? = some y) : ∃ z, y = V.int z := by
  rw [List.getElem?_map] at hi
  cases e : ns[i]? with
  | none =>
    rw [e] at hi
    cases hi
  | some z =>
    rw [e] at hi
    exact ⟨z, (Option.some.inj hi).symm⟩
theorem mk_dr (m t : Int) (g : Addr) : mergeK [] (drK m t g) = drK m t g := by
  have e1 : putK ([] : List (Key × V)) (kx "mixed") (.int m) = [(kx "mixed", .int m)] := putK_new _ valV_nil
  have e2 : putK [(kx "mixed", V.int m)] (kx "great") (.ref g) = [(kx "mixed", .int m), (kx "great", .ref g)] := putK_new _ (by rw [valV_neg (p := (kx "mixed", V.int m)) (kne n_mg)]; exact valV_nil)
  have e3 : putK [(kx "mixed", V.int m), (kx "great", .ref g)] (kx "turn") (.int t) = [(kx "mixed", .int m), (kx "great", .ref g), (kx "turn", .int t)] :=
    putK_new _ (by rw [valV_neg (p := (kx "mixed", V.int m)) (kne n_mt), valV_neg (p := (kx "great", V.ref g)) (kne n_gt)]; exact valV_nil)
  unfold mergeK drK
  simp only [List.foldl_cons, List.foldl_nil]
  rw [e1, e2, e3]
section
variable {P : Program} {w : World} {K : PySem.W.Frag} {mg : Str → Option Value} {base : Heap}
theorem scBegun : FnScope ["script", "mixed", "k", "cell"] ["script"] (defScope sBegun) := ⟨rfl, rfl, rfl, by decide +kernel, rfl, by decide +kernel, by decide +kernel⟩
theorem ok_begun {f : Addr} {fd : FuncData} (F : Fun K "_law_begun" "_law_begun" sBegun f fd) (T : TB mg) : FnOk P w K mg base CX0 1 f fd ["script"] (spBegun K) := by
  refine F.ok scBegun (fun vs H Q E h => ?_) (fun cdv A outer s H vs Q E hr h => ?_)
  · obtain ⟨a, ns, rfl, _⟩ := h
    rfl
  · obtain ⟨a, ns, rfl, hS, hlen, k⟩ := h
    have hu := hu_of hr
    refine ⟨_, pss_cons (ps_set (i := 1) scBegun.nd rfl (.inl rfl) (pe_op op_add pe_int (pe_op op_mul pe_int (pe_callB call_len_seq (by rfl) T.len PySem.boot_len (pa_cons (pv 0) pa_nil)))))
      (pss_cons (ps_for PassesOwn.never rfl (pi_enum (by rfl) T.enum (pa_cons (pv 0) pa_nil)) (pg_tup (by rfl) (pgs_cons (pg_name (i := 2) scBegun.nd rfl (.inl rfl)) (pgs_cons (pg_name (i := 3) scBegun.nd rfl (.inl rfl)) pgs_nil)))
        (pss_one (ps_set (i := 1) scBegun.nd rfl (.inl rfl) (pe_op op_mod (pe_callTy call_int1 (by rfl) T.int (by decide +kernel) (pa_cons
          (pe_op op_add (pe_op op_add (pe_op op_mul (pv 1) pe_int) (pv 3)) (pe_op op_mul pe_int (pv 2))) pa_nil)) pe_int))))
      (pss_one (ps_ret (pe_disp (pps_cons pe_str (pv 1) (pps_cons pe_str
        (pe_lc (own := [("cell", 3)]) (g := gName 3) rfl scBegun.nd (pi_list (pv 0)) (blkOk_by (N := ["script", "mixed", "k", "cell"]) (sc := defScope sBegun) (by decide +kernel)) (fun _ _ _ _ _ => pg_name (i := 3) scBegun.nd rfl (Or.inl rfl))
          (fun _ _ _ _ _ => pts_one (pt_cmpR op_ge (pv 3) (pe_op op_pow pe_int pe_int) (nomark _))) (fun _ _ _ _ _ => pv 3)) (pps_cons pe_str pe_int pps_nil))) rfl rfl (by intro q; cases q) (by decide))))), ?_⟩
    refine ⟨_, rfl, _, _, rfl, .inl hS, _, _, rfl, rfl, .inl (by decide), _, _, rfl, rfl, ?_⟩
    refine ⟨_, rfl, a, _, rfl, hS, for_it (walk_enum (xs := ns.map V.int)) (fun i σ H2 => ∃ m v2 v3, σ = [some (.ref a), some (.int m), v2, v3] ∧ Same H H2) ⟨_, none, none, rfl, Same.refl H⟩ (fun i σ H2 _ ⟨_, _, _, _, s2⟩ => s2.seq hS) ?_ ?_⟩
    · rintro i y σ H2 H3 hi ⟨m, v2, v3, rfl, s2⟩ ⟨t, x1, x2, rfl, ht, rfl, e1, e2⟩
      cases e1
      obtain ⟨z, rfl⟩ := int_at e2
      refine ⟨t, _, rfl, SqT.of upd_same, rfl, _, _, rfl, _, _, rfl, rfl, ?_⟩
      refine ⟨_, rfl, _, _, rfl, rfl, .inr (by decide), _, rfl, _, _, rfl, rfl, _, rfl, _, _, rfl, rfl, .inl (by decide), _, _, rfl, rfl, .inl ⟨_, rfl, _, _, rfl, rfl, (by show (0 : Int) < 2305843009213693951; decide), ?_⟩⟩
      exact ⟨_, _, _, rfl, same_upd s2 ht⟩
    · rintro σ H2 ⟨m, v2, v3, rfl, s2⟩
      intro p hp
      refine ⟨_, rfl, ?_⟩
      refine ⟨_, rfl, a, rfl, ⟨_, (same_upd s2 hp).seq hS⟩, fun D hD => lc_list (xs := ns.map V.int) (fun i H3 => ∃ gs : List Int, H3 D = some (.lst (gs.map V.int)) ∧ gs.length ≤ i ∧ Same (L2.upd H2 p (.dK [])) H3) ⟨[], upd_same, Nat.le_refl _, same_upd (Same.refl _) hD⟩
        (fun i H3 _ ⟨_, _, _, s3⟩ => s3.seq ((same_upd s2 hp).seq hS)) ?_ ?_⟩
      · rintro i y H3 hi ⟨gs, h1, h2, s3⟩
        obtain ⟨z, rfl⟩ := int_at hi
        have hil : i < 63 := by
          have q := (List.getElem?_eq_some_iff.mp hi).1
          rw [List.length_map] at q
          omega
        refine ⟨rfl, _, rfl, _, _, rfl, rfl, ⟨by decide, by decide, by decide⟩, _, _, rfl, rfl, _, rfl, ?_⟩
        refine ite2 (fun _ => ?_) (fun _ => ?_)
        · refine ⟨_, rfl, _, h1, by rw [List.length_map]; exact small1000 (by omega), gs ++ [z], by rw [List.map_append]; exact upd_same, by rw [List.length_append, List.length_singleton]; omega, fun b o e => ?_⟩
          rw [upd_ne (fun q => by rw [q] at e; rw [hD] at e; cases e)]
          exact s3 b o e
        · exact ⟨gs, h1, by omega, s3⟩
      · rintro H3 ⟨gs, h1, h2, s3⟩
        refine ⟨s3 _ _ upd_same, drK m 0 D, rfl, by show 3 ≤ 15; decide, ?_⟩
        rw [mk_dr]
        have hDp : D ≠ p := fun q => by rw [q, upd_same] at hD; cases hD
        have hD0 : H2 D = none := by
          rw [upd_ne hDp] at hD
          exact hD
        rw [List.length_map] at h2
        refine k p D _ (s2.free hp) (s2.free hD0) ⟨m, 0, gs, upd_same, by rw [upd_ne hDp]; exact h1, by omega⟩ fun b o e => ?_
        rw [upd_ne (ne_of_none (s2 b o e) hp)]
        exact s3 b o (upd_keep (s2 b o e) hp)
end
end Cp

set_option Elab.async false
set_option linter.all false
set_option maxRecDepth 100000
namespace Cp
open PySem L2
/-! ### letters and names -/
def ltr (k : Nat) : Str := ⟨#[97 + k]⟩
def okC (c : Nat) : Bool := decide (97 ≤ c) && decide (c ≤ 122)
def okS (x : Str) : Bool := x.cps.toList.all okC
def okN (x : Str) : Bool := decide (1 ≤ x.length) && decide (x.length ≤ 8) && okS x
theorem ltr_inj {a b : Nat} (h : ltr a = ltr b) : a = b := by
  unfold ltr at h
  have q : (#[97 + a] : Array Nat) = #[97 + b] := by injection h
  have q2 : [97 + a] = [97 + b] := congrArg Array.toList q
  simp at q2
  exact q2
theorem ltr_len (k : Nat) : (ltr k).length = 1 := rfl
theorem ltr_okS {k : Nat} (h : k < 26) : okS (ltr k) = true := by
  unfold okS ltr okC
  simp
  omega
theorem ltr_okN {k : Nat} (h : k < 26) : okN (ltr k) = true := by
  unfold okN
  rw [ltr_okS h, ltr_len]
  rfl
theorem len_app (x y : Str) : (x ++ y).length = x.length + y.length := PySem.Str.length_append x y
theorem codes_app (x y : Str) : (x ++ y).cps.toList = x.cps.toList ++ y.cps.toList := by
  show (PySem.Str.cps (x ++ y)).toList = _
  rw [PySem.Str.cps_append, Array.toList_append]
theorem okS_app {x y : Str} (h1 : okS x = true) (h2 : okS y = true) : okS (x ++ y) = true := by
  unfold okS at *
  rw [codes_app, List.all_append, h1, h2]
  rfl
theorem str_ext {x y : Str} (h : x.cps.toList = y.cps.toList) : x = y := by
  cases x
  cases y
  simp at h
  rw [h]
theorem app_inj_right {x y z : Str} (h : x ++ y = x ++ z) : y = z := by
  have q := congrArg (fun s : Str => s.cps.toList) h
  simp only [codes_app] at q
  exact str_ext (List.append_cancel_left q)
theorem app_inj_left {x y z : Str} (h : y ++ x = z ++ x) : y = z := by
  have q := congrArg (fun s : Str => s.cps.toList) h
  simp only [codes_app] at q
  exact str_ext (List.append_cancel_right q)
/-- 24 names, no two alike -/
structure Tit (ts : List Str) : Prop where
  len : ts.length = 24
  nd : ts.Nodup
  ok : ∀ x ∈ ts, okN x = true
theorem alpha_at : ∀ j : Fin 26, ("abcdefghijklmnopqrstuvwxyz" : Str).cps.toList[j.val]? = some (97 + j.val) := by decide +kernel
theorem alpha_len : ("abcdefghijklmnopqrstuvwxyz" : Str).cps.toList.length = 26 := by decide +kernel
theorem alpha_sz : ("abcdefghijklmnopqrstuvwxyz" : Str).length ≤ sizeLine := by decide +kernel
theorem alpha_atI {z : Int} (h0 : 0 ≤ z) (h1 : z < 26) : atI ("abcdefghijklmnopqrstuvwxyz" : Str).cps.toList z = some (97 + z.toNat) := by
  obtain ⟨j, e⟩ : ∃ j : Nat, z = (j : Int) := ⟨z.toNat, by omega⟩
  subst e
  exact atI_nat (alpha_at ⟨j, by omega⟩)
def rowS (s : Int) (k : Nat) : Str := ltr ((s + 7 * (k : Int)) % 26).toNat
def rowL (s : Int) (i : Nat) : List Str := (List.range i).map (rowS s)
theorem rowL_succ (s : Int) (i : Nat) : rowL s (i + 1) = rowL s i ++ [rowS s i] := by
  unfold rowL
  rw [List.range_succ, List.map_append]
  rfl
theorem rowL_len (s : Int) (i : Nat) : (rowL s i).length = i := by
  unfold rowL
  rw [List.length_map, List.length_range]
theorem rowS_inj {s : Int} {a b : Nat} (ha : a < 24) (hb : b < 24) (h : rowS s a = rowS s b) : a = b := by
  have q := ltr_inj h
  omega
theorem nd_map {α β : Type} {f : α → β} : ∀ {l : List α}, l.Nodup → (∀ a ∈ l, ∀ b ∈ l, f a = f b → a = b) → (l.map f).Nodup
  | [], _, _ => List.nodup_nil
  | x :: r, h, hi => by
    obtain ⟨h1, h2⟩ := List.nodup_cons.mp h
    rw [List.map_cons]
    refine List.nodup_cons.mpr ⟨fun hm => ?_, nd_map h2 fun a ha b hb => hi a (List.mem_cons_of_mem _ ha) b (List.mem_cons_of_mem _ hb)⟩
    obtain ⟨y, hy, e⟩ := List.mem_map.mp hm
    have q := hi y (List.mem_cons_of_mem _ hy) x List.mem_cons_self e
    exact h1 (q ▸ hy)
theorem rowL_nd (s : Int) : (rowL s 24).Nodup := nd_map List.nodup_range fun a ha b hb e => rowS_inj (List.mem_range.mp ha) (List.mem_range.mp hb) e
theorem rowS_lt (s : Int) (k : Nat) : ((s + 7 * (k : Int)) % 26).toNat < 26 := by omega
theorem rowL_ok (s : Int) {x : Str} (h : x ∈ rowL s 24) : x.length = 1 ∧ okS x = true := by
  obtain ⟨k, _, e⟩ := List.mem_map.mp h
  subst e
  exact ⟨rfl, ltr_okS (rowS_lt s k)⟩
theorem tit_row (s : Int) : Tit (rowL s 24) := ⟨rowL_len s 24, rowL_nd s, fun x hx => by
  obtain ⟨h1, h2⟩ := rowL_ok s hx
  unfold okN
  rw [h1, h2]
  rfl⟩
theorem tit_stem (s : Int) {st : Str} (h1 : st.length ≤ 7) (h2 : okS st = true) (f : Str → Str) (hf : (f = fun x => st ++ x) ∨ f = fun x => x ++ st) : Tit ((rowL s 24).map f) := by
  refine ⟨by rw [List.length_map, rowL_len], nd_map (rowL_nd s) fun a _ b _ e => ?_, fun x hx => ?_⟩
  · rcases hf with rfl | rfl
    · exact app_inj_right e
    · exact app_inj_left e
  · obtain ⟨y, hy, rfl⟩ := List.mem_map.mp hx
    obtain ⟨q1, q2⟩ := rowL_ok s hy
    rcases hf with rfl | rfl
    · unfold okN
      rw [len_app, q1, okS_app h2 q2, decide_eq_true (show 1 ≤ st.length + 1 by omega), decide_eq_true (show st.length + 1 ≤ 8 by omega)]
      rfl
    · unfold okN
      rw [len_app, q1, okS_app q2 h2, decide_eq_true (show 1 ≤ 1 + st.length by omega), decide_eq_true (show 1 + st.length ≤ 8 by omega)]
      rfl
def wordL : List Str := ["set", "make", "drop", "kind", "part", "file", "undo", "redo", "gaps", "wastes", "letters", "stale", "lost", "done", "no", "none", "empty", "nothing", "mark", "base", "one", "other", "layout", "edition"]
theorem tit_words : Tit wordL := ⟨by decide +kernel, by decide +kernel, by decide +kernel⟩
theorem tit_turned {k : Nat} : Tit (wordL.drop k ++ wordL.take k) := by
  have T := tit_words
  have p : (wordL.drop k ++ wordL.take k).Perm wordL := by
    have q := List.perm_append_comm (l₁ := wordL.drop k) (l₂ := wordL.take k)
    rw [List.take_append_drop] at q
    exact q
  exact ⟨by rw [p.length_eq]; exact T.len, p.nodup_iff.mpr T.nd, fun x hx => T.ok x (p.mem_iff.mp hx)⟩
end Cp

set_option Elab.async false
set_option linter.all false
set_option maxRecDepth 100000
namespace Cp
open PySem L2
def spSign : Sp := fun vs H Q _ => ∃ z : Int, vs = [.int z] ∧ Q (.str (ltr (z % 26).toNat)) H
def spTitles : Sp := fun vs H Q _ => ∃ d g : Addr, vs = [.ref d] ∧ Drw H d g ∧ ∀ (l : Addr) (ts : List Str) (H' : Hp), Tit ts → H l = none → H' l = some (.lst (ts.map V.str)) → Ev d g H H' → Q (.ref l) H'
theorem Drw.ned {H : Hp} {d g p : Addr} (D : Drw H d g) (hp : H p = none) : p ≠ d := by
  obtain ⟨o, h⟩ := D.hd
  exact (ne_of_none h hp).symm
theorem Drw.neg {H : Hp} {d g p : Addr} (D : Drw H d g) (hp : H p = none) : p ≠ g := by
  obtain ⟨o, h⟩ := D.hg
  exact (ne_of_none h hp).symm
theorem Drw.up {H : Hp} {d g p : Addr} {o : HO} (D : Drw H d g) (hp : H p = none) : Drw (upd H p o) d g := ((Ev.refl D).new hp).dr
theorem Drw.same {H H' : Hp} {d g : Addr} (D : Drw H d g) (s : Same H H') : Drw H' d g := by
  obtain ⟨m, t, gs, h1, h2, h3⟩ := D
  exact ⟨m, t, gs, s _ _ h1, s _ _ h2, h3⟩
theorem Ev.same {H H1 H2 : Hp} {d g : Addr} (e : Ev d g H H1) (s : Same H1 H2) : Ev d g H H2 := ⟨fun b o q e1 e2 => s _ _ (e.kp b o q e1 e2), e.dr.same s⟩
theorem same_new {H : Hp} {p : Addr} {o : HO} (h : H p = none) : Same H (upd H p o) := same_upd (Same.refl H) h
theorem cut_from (xs : List V) (j : Nat) : cutV xs (some (j : Int)) none = xs.drop j := by
  unfold cutV
  rw [HT.sIx_nat, HT.sIx_none]
  by_cases h : j ≤ xs.length
  · rw [Nat.min_eq_left h]
    exact List.take_of_length_le (by rw [List.length_drop]; exact Nat.le_refl _)
  · rw [Nat.min_eq_right (by omega), List.drop_of_length_le (Nat.le_refl _), List.drop_of_length_le (by omega)]
    exact List.take_nil
theorem cut_to (xs : List V) (j : Nat) : cutV xs none (some (j : Int)) = xs.take j := by
  unfold cutV
  rw [HT.sIx_nat, HT.sIx_none, List.drop_zero, Nat.sub_zero]
  by_cases h : j ≤ xs.length
  · rw [Nat.min_eq_left h]
  · rw [Nat.min_eq_right (by omega), List.take_of_length_le (Nat.le_refl _), List.take_of_length_le (by omega)]
theorem str_at {ns : List Str} {i : Nat} {y : V} (hi : (ns.map V.str)[i]? = some y) : ∃ z, ns[i]? = some z ∧ y = V.str z := by
  rw [List.getElem?_map] at hi
  cases e : ns[i]? with
  | none =>
    rw [e] at hi
    cases hi
  | some z =>
    rw [e] at hi
    exact ⟨z, rfl, (Option.some.inj hi).symm⟩
theorem take_snoc {α : Type} {l : List α} {i : Nat} {x : α} (h : l[i]? = some x) : l.take (i + 1) = l.take i ++ [x] := by
  rw [List.take_add_one, h]
  rfl
abbrev nTitles : List Str := ["draw", "signs", "start", "way", "words", "row", "stem", "turn", "k", "sign"]
section
variable {P : Program} {w : World} {K : PySem.W.Frag} {mg : Str → Option Value} {base : Heap}
theorem scSign : FnScope ["at"] ["at"] (defScope sSign) := ⟨rfl, rfl, rfl, by decide +kernel, rfl, by decide +kernel, by decide +kernel⟩
theorem ok_sign {f : Addr} {fd : FuncData} (F : Fun K "_law_sign" "_law_sign" sSign f fd) (T : TB mg) : FnOk P w K mg base CX0 1 f fd ["at"] spSign := by
  refine F.ok scSign (fun vs H Q E h => ?_) (fun cdv A outer s H vs Q E hr h => ?_)
  · obtain ⟨z, rfl, _⟩ := h
    rfl
  · obtain ⟨z, rfl, k⟩ := h
    refine ⟨_, pss_one (ps_ret (pe_ix ix_str pe_str (pe_op op_mod (pe_callTy call_int1 (by rfl) T.int (by decide +kernel) (pa_cons (pv 0) pa_nil)) pe_int) (fun _ _ => rfl))), ?_⟩
    refine ⟨_, rfl, .inl ⟨_, rfl, _, _, rfl, rfl, (by show (0 : Int) < 26; decide), _, _, _, rfl, rfl, alpha_sz, alpha_atI (Int.emod_nonneg _ (by decide)) (Int.emod_lt_of_pos _ (by decide)), ?_⟩⟩
    exact k
theorem scTitles : FnScope nTitles ["draw"] (defScope sTitles) := ⟨rfl, rfl, rfl, by decide +kernel, rfl, by decide +kernel, by decide +kernel⟩
theorem ok_titles {f fN : Addr} {fd fdN : FuncData} (F : Fun K "_law_titles" "_law_titles" sTitles f fd) (T : TB mg) (FN : Fun K "_law_next" "_law_next" sNext fN fdN) (bN : Binds K fdN ["draw", "below"] []) (mN : mg "_law_next" = some (.ref fN)) :
    FnOk P w K mg base CX0 2 f fd ["draw"] spTitles := by
  have GN : FnOk P w K mg base CX0 1 fN fdN ["draw", "below"] spNext := ok_next FN T
  refine F.ok scTitles (fun vs H Q E h => ?_) (fun cdv A outer s H vs Q E hr h => ?_)
  · obtain ⟨d, g, rfl, _⟩ := h
    rfl
  · obtain ⟨d, g, rfl, D, k⟩ := h
    have hu := hu_of hr
    have nd := scTitles.nd
    refine ⟨_, pss_cons (ps_asg (pe_tup (pa_cons pe_str (pa_cons (pe_call GN hr (by rfl) mN FN.kp bN .nil pass0 (pa_cons (pv 0) (pa_cons pe_int pa_nil))) pa_nil)))
        (pg_tup (by rfl) (pgs_cons (pg_name (i := 1) nd rfl (.inr rfl)) (pgs_cons (pg_name (i := 2) nd rfl (.inr rfl)) pgs_nil))))
      (pss_cons (ps_set (i := 3) nd rfl (.inr rfl) (pe_call GN hr (by rfl) mN FN.kp bN .nil pass0 (pa_cons (pv 0) (pa_cons pe_int pa_nil))))
      (pss_cons (ps_if (pt_cmpR op_eq (pv 3) pe_int (nomark _))
          (pss_cons (ps_set (i := 4) nd rfl (.inl rfl) (pe_lst (pa_cons pe_str (pa_cons pe_str (pa_cons pe_str (pa_cons pe_str (pa_cons pe_str (pa_cons pe_str (pa_cons pe_str (pa_cons pe_str (pa_cons pe_str (pa_cons pe_str pa_nil))))))))))))
          (pss_cons (ps_set (i := 4) nd rfl (.inl rfl) (pe_op op_cat (pv 4) (pe_lst (pa_cons pe_str (pa_cons pe_str (pa_cons pe_str (pa_cons pe_str (pa_cons pe_str (pa_cons pe_str (pa_cons pe_str (pa_cons pe_str pa_nil)))))))))))
          (pss_cons (ps_set (i := 4) nd rfl (.inl rfl) (pe_op op_cat (pv 4) (pe_lst (pa_cons pe_str (pa_cons pe_str (pa_cons pe_str (pa_cons pe_str (pa_cons pe_str (pa_cons pe_str pa_nil)))))))))
          (pss_one (ps_ret (pe_op op_cat (pe_slice sl_list (pv 4) (po_some (pe_op op_mod (pv 2) pe_int)) po_none) (pe_slice sl_list (pv 4) po_none (po_some (pe_op op_mod (pv 2) pe_int))))))))) pss_nil)
      (pss_cons (ps_setLc (i := 5) (own := [("k", 8)]) (g := gName 8) rfl nd rfl rfl (sw_true rfl rfl rfl (by decide +kernel)) (pi_range1 rfl T.range (pa_cons pe_int pa_nil)) (blkOk_by (N := nTitles) (sc := defScope sTitles) (by decide +kernel)) (fun _ _ _ _ _ => pg_name (i := 8) nd rfl (Or.inl rfl)) (fun _ _ _ _ _ => pts_nil)
          (fun _ _ _ _ _ => pe_ix ix_str (pv 1) (pe_op op_mod (pe_callTy call_int1 (by rfl) T.int (by decide +kernel) (pa_cons (pe_op op_add (pv 2) (pe_op op_mul pe_int (pv 8))) pa_nil)) pe_int) (fun _ _ => rfl)))
      (pss_cons (ps_set (i := 6) nd rfl (.inr rfl) pe_str)
      (pss_cons (ps_for PassesOwn.never rfl (pi_range1 rfl T.range (pa_cons (pe_call GN hr (by rfl) mN FN.kp bN .nil pass0 (pa_cons (pv 0) (pa_cons pe_int pa_nil))) pa_nil)) (pg_name (i := 7) nd rfl (.inl rfl))
          (pss_one (ps_set (i := 6) nd rfl (.inr rfl) (pe_op op_add_str (pv 6) (pe_ix ix_str (pv 1) (pe_call GN hr (by rfl) mN FN.kp bN .nil pass0 (pa_cons (pv 0) (pa_cons pe_int pa_nil))) (fun _ _ => rfl))))))
      (pss_cons (ps_if (pt_cmpR op_eq (pv 3) pe_int (nomark _)) (pss_one (ps_ret (pv 5))) pss_nil)
      (pss_one (ps_ret (pe_lc (own := [("sign", 9)]) (g := gName 9) rfl nd (pi_list (pv 5)) (blkOk_by (N := nTitles) (sc := defScope sTitles) (by decide +kernel)) (fun _ _ _ _ _ => pg_name (i := 9) nd rfl (Or.inl rfl)) (fun _ _ _ _ _ => pts_nil)
          (fun _ _ _ _ _ => pe_ifExp (pt_cmpR op_eq (pv 3) pe_int (nomark _)) (pe_op op_add_str (pv 6) (pv 9)) (pe_op op_add_str (pv 9) (pv 6)))))))))))), ?_⟩
    refine ⟨_, rfl, d, g, 26, rfl, D, by decide, by decide, fun st H1 st0 st1 e1 => ?_⟩
    refine ⟨by show 2 ≤ sizeLine; decide, fun p hp => ?_⟩
    have e1' := e1.new (o := .tup [V.str "abcdefghijklmnopqrstuvwxyz", V.int st]) hp
    refine ⟨p, _, rfl, SqT.of upd_same, rfl, _, _, rfl, _, _, rfl, rfl, ?_⟩
    refine ⟨_, rfl, d, g, 4, rfl, e1'.dr, by decide, by decide, fun wy H2 w0 w1 e2 => ?_⟩
    have e3 := e1'.trans e2
    refine ⟨_, rfl, rfl, _, rfl, ?_⟩
    refine ite2 (fun _ => ?_) (fun _ => ?_)
    · refine ⟨by show 10 ≤ sizeLine; decide, fun p1 hp1 => ?_⟩
      refine ⟨_, rfl, by show 8 ≤ sizeLine; decide, fun p2 hp2 => ?_⟩
      have m1 := upd_keep (H := upd H2 p1 _) (u := .lst [V.str "letters", V.str "stale", V.str "lost", V.str "done", V.str "no", V.str "none", V.str "empty", V.str "nothing"]) upd_same hp2
      refine ⟨_, _, _, _, rfl, rfl, m1, upd_same, by show 18 ≤ sizeLine; decide, fun p3 hp3 => ?_⟩
      refine ⟨_, rfl, by show 6 ≤ sizeLine; decide, fun p4 hp4 => ?_⟩
      refine ⟨_, _, _, _, rfl, rfl, upd_keep upd_same hp4, upd_same, by show 24 ≤ sizeLine; decide, fun p5 hp5 => ?_⟩
      have e9 := ((((e3.new hp1).new hp2).new hp3).new hp4).new (o := .lst (wordL.map V.str)) hp5
      generalize hH : upd _ p5 _ = H5
      have hH' : upd _ p5 (.lst (wordL.map V.str)) = H5 := hH
      rw [hH'] at e9
      have hw : H5 p5 = some (.lst (wordL.map V.str)) := by rw [← hH']; exact upd_same
      obtain ⟨j, ej⟩ : ∃ j : Nat, st % 24 = (j : Int) := ⟨(st % 24).toNat, by omega⟩
      refine ⟨_, rfl, _, rfl, _, _, rfl, rfl, (by show (0 : Int) < 24; decide), _, rfl, p5, _, rfl, SqL.of hw, fun q1 hq1 => ?_⟩
      refine ⟨_, rfl, _, rfl, _, _, rfl, rfl, (by show (0 : Int) < 24; decide), _, rfl, p5, _, rfl, SqL.of (upd_keep hw hq1), fun q2 hq2 => ?_⟩
      rw [ej, cut_from, cut_to, ← List.map_drop, ← List.map_take]
      rw [ej, cut_from, ← List.map_drop] at hq2
      refine ⟨_, _, _, _, rfl, rfl, upd_keep upd_same hq2, upd_same, ?_, fun q3 hq3 => ?_⟩
      · rw [List.length_map, List.length_map, List.length_drop, List.length_take]
        have := tit_words.len
        exact Nat.le_of_lt (small1000 (by omega))
      · refine k q3 (wordL.drop j ++ wordL.take j) _ tit_turned (((e9.new hq1).new hq2).free D hq3) ?_ (((e9.new hq1).new hq2).new hq3)
        rw [List.map_append]
        exact upd_same
    · refine ⟨_, rfl, by decide, by decide, fun p1 hp1 => lc_range (n := 24) (lo := 0) (fun i H3 => H3 p1 = some (.lst ((rowL st i).map V.str)) ∧ Same H2 H3) ⟨upd_same, same_new hp1⟩ ?_ ?_⟩
      · rintro i H3 hi ⟨h1, s3⟩
        refine ⟨rfl, _, rfl, _, rfl, _, rfl, _, _, rfl, rfl, .inl (by decide), _, _, rfl, rfl, .inl ⟨_, rfl, _, _, rfl, rfl, (by show (0 : Int) < 26; decide), _, _, _, rfl, rfl, alpha_sz, alpha_atI (Int.emod_nonneg _ (by decide)) (Int.emod_lt_of_pos _ (by decide)), ?_⟩⟩
        refine ⟨_, h1, ?_, ?_, ?_⟩
        · rw [List.length_map, rowL_len]
          exact small1000 (by omega)
        · rw [rowL_succ, List.map_append, show (0 : Int) + (i : Int) = (i : Int) from Int.zero_add _]
          exact upd_same
        · exact fun b o e => by rw [upd_ne (ne_of_none e hp1)]; exact s3 b o e
      · rintro H3 ⟨h1, s3⟩
        have hp10 : H p1 = none := e3.free D hp1
        have e5 := e3.same s3
        refine ⟨_, rfl, d, g, 8, rfl, e5.dr, by decide, by decide, fun n8 H4 n80 n81 e6 => ⟨_, rfl, by omega, by omega, ?_⟩⟩
        refine for_range (lo := 0) (n := n8.toNat) (fun i σ H5 => ∃ (sm : Str) (v7 : Option V), σ = [some (.ref d), some (.str "abcdefghijklmnopqrstuvwxyz"), some (.int st), some (.int wy), none, some (.ref p1), some (.str sm), v7, none, none] ∧
          sm.length = i ∧ okS sm = true ∧ Ev d g H H5 ∧ H5 p1 = some (.lst ((rowL st 24).map V.str))) ?_ ?_ ?_
        · exact ⟨_, none, rfl, rfl, by decide +kernel, e5.trans e6, e6.kp _ _ h1 (D.ned hp10) (D.neg hp10)⟩
        · rintro i σ H5 hi ⟨sm, v7, rfl, hl, ho, e7, h5⟩
          refine ⟨_, rfl, _, rfl, _, rfl, d, g, 26, rfl, e7.dr, by decide, by decide, fun c H6 c0 c1 e8 => ?_⟩
          refine ⟨_, _, _, rfl, rfl, alpha_sz, alpha_atI c0 c1, _, _, rfl, rfl, ?_, ?_⟩
          · show sm.length + 1 ≤ sizeLine
            exact Nat.le_of_lt (small1000 (by omega))
          · exact ⟨_, _, rfl, by rw [len_app, hl]; rfl, okS_app ho (ltr_okS (k := c.toNat) (by omega)), e7.trans e8, e8.kp _ _ h5 (D.ned hp10) (D.neg hp10)⟩
        · rintro σ H5 ⟨sm, v7, rfl, hl, ho, e7, h5⟩
          refine ⟨_, rfl, rfl, _, rfl, ?_⟩
          refine ite2 (fun _ => ?_) (fun _ => ?_)
          · exact ⟨_, rfl, k p1 _ _ (tit_row st) hp10 h5 e7⟩
          · refine ⟨_, rfl, p1, rfl, ⟨_, SqL.of h5⟩, fun D2 hD2 => lc_list (xs := (rowL st 24).map V.str) (fun i H6 => H6 D2 = some (.lst ((((rowL st 24).map (if wy = 1 then fun x => sm ++ x else fun x => x ++ sm)).take i).map V.str)) ∧ Same H5 H6) ⟨upd_same, same_new hD2⟩
              (fun i H6 _ ⟨_, s6⟩ => SqL.of (s6 _ _ h5)) ?_ ?_⟩
            · rintro i y H6 hi ⟨h6, s6⟩
              obtain ⟨x, hx, rfl⟩ := str_at hi
              have hx1 := (rowL_ok st (List.mem_of_getElem? hx)).1
              have hi24 : i < 24 := by
                have q := (List.getElem?_eq_some_iff.mp hx).1
                rw [rowL_len] at q
                exact q
              have hf : ((rowL st 24).map (if wy = 1 then fun x => sm ++ x else fun x => x ++ sm))[i]? = some ((if wy = 1 then fun x => sm ++ x else fun x => x ++ sm) x) := by rw [List.getElem?_map, hx]; rfl
              have hs : ∀ z, z = (if wy = 1 then fun x => sm ++ x else fun x => x ++ sm) x → (∃ acc, H6 D2 = some (.lst acc) ∧ acc.length < sizeLine ∧ (upd H6 D2 (.lst (acc ++ [V.str z])) D2 = some (.lst ((((rowL st 24).map (if wy = 1 then fun x => sm ++ x else fun x => x ++ sm)).take (i + 1)).map V.str)) ∧ Same H5 (upd H6 D2 (.lst (acc ++ [V.str z]))))) := by
                intro z ez
                refine ⟨_, h6, ?_, ?_, fun b o e => by rw [upd_ne (ne_of_none e hD2)]; exact s6 b o e⟩
                · rw [List.length_map, List.length_take]
                  exact small1000 (by omega)
                · rw [take_snoc hf, List.map_append, ez]
                  exact upd_same
              refine ⟨rfl, _, rfl, rfl, _, rfl, ?_⟩
              refine ite2 (fun q => ?_) (fun q => ?_)
              · refine ⟨_, rfl, _, rfl, _, _, rfl, rfl, ?_, hs _ ?_⟩
                · exact Nat.le_of_lt (small1000 (by omega))
                · rw [if_pos (V.int.inj (of_decide_eq_true q))]
              · refine ⟨_, rfl, _, rfl, _, _, rfl, rfl, ?_, hs _ ?_⟩
                · exact Nat.le_of_lt (small1000 (by omega))
                · rw [if_neg (fun e => q (decide_eq_true (by rw [e])))]
            · rintro H6 ⟨h6, s6⟩
              refine k D2 _ H6 (tit_stem st (st := sm) (by omega) ho (if wy = 1 then fun x => sm ++ x else fun x => x ++ sm) ?_) (e7.free D hD2) ?_ (e7.same s6)
              · by_cases q : wy = 1
                · exact .inl (if_pos q)
                · exact .inr (if_neg q)
              · rw [h6, List.length_map, rowL_len, List.take_of_length_le (by rw [List.length_map, rowL_len]; exact Nat.le_refl _)]
end
end Cp

set_option Elab.async false
set_option linter.all false
set_option maxRecDepth 100000
namespace Cp
open PySem L2
/-! ### kinds -/
structure Kd where
  nm : Str
  ed : Int
  bs : List Str
  lt : Nat
  mrk : Str
def asc : List Nat → Bool
  | [] => true
  | [_] => true
  | a :: b :: r => decide (a < b) && asc (b :: r)
def okM (x : Str) : Bool := okS x && asc x.cps.toList
structure OkK (k : Kd) : Prop where
  nm : okN k.nm = true
  e1 : 1 ≤ k.ed
  e2 : k.ed ≤ 99
  bl : k.bs.length ≤ 6
  bn : k.bs.Nodup
  bo : ∀ b ∈ k.bs, okN b = true
  lt : k.lt < 26
  mr : okM k.mrk = true
structure Frm (ks : List Kd) : Prop where
  ok : ∀ k ∈ ks, OkK k
  nd : (ks.map Kd.nm).Nodup
  mono : ∀ (i j : Nat) (a b : Kd), i < j → ks[i]? = some a → ks[j]? = some b → a.ed ≤ b.ed
  bas : ∀ (i : Nat) (k : Kd), ks[i]? = some k → ∀ b ∈ k.bs, b ∈ (ks.take i).map Kd.nm
def RowAt (H : Hp) (p : Addr) (k : Kd) : Prop := ∃ b, H p = some (.tup [.str k.nm, .int k.ed, .ref b, .str (ltr k.lt), .str k.mrk]) ∧ H b = some (.tup (k.bs.map V.str))
def RowsAt (H : Hp) (as : List Addr) (ks : List Kd) : Prop := as.length = ks.length ∧ ∀ (i : Nat) (p : Addr) (k : Kd), as[i]? = some p → ks[i]? = some k → RowAt H p k
/-- tuples stay -/
def TK (H H' : Hp) : Prop := ∀ b xs, H b = some (.tup xs) → H' b = some (.tup xs)
theorem TK.refl (H : Hp) : TK H H := fun _ _ h => h
theorem TK.trans {H H1 H2 : Hp} (a : TK H H1) (b : TK H1 H2) : TK H H2 := fun c o h => b c o (a c o h)
theorem tk_same {H H' : Hp} (s : Same H H') : TK H H' := fun b xs e => s b _ e
theorem tk_new {H : Hp} {p : Addr} {o : HO} (h : H p = none) : TK H (upd H p o) := fun b xs e => upd_keep e h
theorem tk_lst {H : Hp} {a : Addr} {xs : List V} {o : HO} (h : H a = some (.lst xs)) : TK H (upd H a o) := fun b ys e => by
  rw [upd_ne (ne_of e h (by intro q; cases q))]
  exact e
theorem tk_dk {H : Hp} {a : Addr} {xs : List (Key × V)} {o : HO} (h : H a = some (.dK xs)) : TK H (upd H a o) := fun b ys e => by
  rw [upd_ne (ne_of e h (by intro q; cases q))]
  exact e
theorem Ev.tk {d g : Addr} {H H' : Hp} (e : Ev d g H H') (D : Drw H d g) : TK H H' := fun b xs q => by
  obtain ⟨m, t, gs, h1, h2, _⟩ := D
  exact e.kp b _ q (ne_of q h1 (by intro z; cases z)) (ne_of q h2 (by intro z; cases z))
theorem RowAt.tk {H H' : Hp} {p : Addr} {k : Kd} (r : RowAt H p k) (t : TK H H') : RowAt H' p k := by
  obtain ⟨b, h1, h2⟩ := r
  exact ⟨b, t _ _ h1, t _ _ h2⟩
theorem RowsAt.tk {H H' : Hp} {as : List Addr} {ks : List Kd} (r : RowsAt H as ks) (t : TK H H') : RowsAt H' as ks := ⟨r.1, fun i p k h1 h2 => (r.2 i p k h1 h2).tk t⟩
theorem get_snoc {α : Type} {l : List α} {x y : α} {i : Nat} (h : (l ++ [x])[i]? = some y) : l[i]? = some y ∨ (i = l.length ∧ x = y) := by
  by_cases q : i < l.length
  · rw [List.getElem?_append_left q] at h
    exact .inl h
  · rw [List.getElem?_append_right (by omega)] at h
    have hl := (List.getElem?_eq_some_iff.mp h).1
    simp at hl
    have e : i = l.length := by omega
    subst e
    simp at h
    exact .inr ⟨rfl, h⟩
theorem get_at {α : Type} {l : List α} {x : α} : (l ++ [x])[l.length]? = some x := by simp
theorem RowsAt.snoc {H : Hp} {as : List Addr} {ks : List Kd} {p : Addr} {k : Kd} (r : RowsAt H as ks) (h : RowAt H p k) : RowsAt H (as ++ [p]) (ks ++ [k]) := by
  refine ⟨by rw [List.length_append, List.length_append, r.1]; rfl, fun i q j h1 h2 => ?_⟩
  rcases get_snoc h1 with a | ⟨a, rfl⟩
  · rcases get_snoc h2 with b | ⟨b, rfl⟩
    · exact r.2 i q j a b
    · have := (List.getElem?_eq_some_iff.mp a).1
      have := r.1
      omega
  · rcases get_snoc h2 with b | ⟨b, rfl⟩
    · have := (List.getElem?_eq_some_iff.mp b).1
      have := r.1
      omega
    · exact h
theorem RowsAt.nil {H : Hp} : RowsAt H [] [] := ⟨rfl, fun i p k h _ => by simp at h⟩
theorem frm_nil : Frm [] := ⟨fun k h => by simp at h, List.nodup_nil, fun i j a b _ h => by simp at h, fun i k h => by simp at h⟩
theorem frm_snoc {ks : List Kd} {k : Kd} (F : Frm ks) (o : OkK k) (hn : k.nm ∉ ks.map Kd.nm) (he : ∀ a ∈ ks, a.ed ≤ k.ed) (hb : ∀ b ∈ k.bs, b ∈ ks.map Kd.nm) : Frm (ks ++ [k]) := by
  refine ⟨fun a ha => ?_, ?_, fun i j a b hij h1 h2 => ?_, fun i a h b hb' => ?_⟩
  · rcases List.mem_append.mp ha with h | h
    · exact F.ok a h
    · rw [List.mem_singleton.mp h]
      exact o
  · rw [List.map_append]
    exact nd_snoc F.nd hn
  · rcases get_snoc h1 with a1 | ⟨a1, rfl⟩
    · rcases get_snoc h2 with b1 | ⟨b1, rfl⟩
      · exact F.mono i j a b hij a1 b1
      · exact he a (List.mem_of_getElem? a1)
    · rcases get_snoc h2 with b1 | ⟨b1, _⟩
      · have := (List.getElem?_eq_some_iff.mp b1).1
        omega
      · omega
  · rcases get_snoc h with a1 | ⟨a1, rfl⟩
    · have hl := (List.getElem?_eq_some_iff.mp a1).1
      rw [List.take_append_of_le_length (by omega)]
      exact F.bas i a a1 b hb'
    · rw [a1, List.take_append_of_le_length (Nat.le_refl _), List.take_of_length_le (Nat.le_refl _)]
      exact hb b hb'
theorem pick (zs : List Int) {r : Int} (h0 : 0 ≤ r) (h1 : r < zs.length) : ∃ z, z ∈ zs ∧ atI (zs.map V.int) r = some (.int z) := by
  obtain ⟨j, e⟩ : ∃ j : Nat, r = (j : Int) := ⟨r.toNat, by omega⟩
  subst e
  have hj : j < zs.length := by omega
  exact ⟨zs[j], List.getElem_mem hj, atI_nat (by rw [List.getElem?_map, List.getElem?_eq_getElem hj]; rfl)⟩
theorem flat_strs (bs : List Str) : (bs.map V.str).all flatV = true := by
  rw [List.all_eq_true]
  intro x hx
  obtain ⟨y, _, rfl⟩ := List.mem_map.mp hx
  rfl
theorem in_strs (x : Str) (bs : List Str) : inV (.str x) (bs.map V.str) = decide (x ∈ bs) := by
  unfold inV
  induction bs with
  | nil => rfl
  | cons b r ih =>
    rw [List.map_cons, List.any_cons, ih]
    by_cases q : b = x
    · subst q
      have e : eqV (V.str b) (V.str b) = true := by simp [eqV]
      rw [e, Bool.true_or]
      exact (decide_eq_true List.mem_cons_self).symm
    · have e : eqV (V.str b) (V.str x) = false := by simp [eqV, q]
      rw [e, Bool.false_or]
      by_cases m : x ∈ r
      · rw [decide_eq_true m, decide_eq_true (List.mem_cons_of_mem _ m)]
      · rw [decide_eq_false m, decide_eq_false (fun z => by
          rcases List.mem_cons.mp z with z | z
          · exact q z.symm
          · exact m z)]
theorem strs_at {ts : List Str} {r : Int} {j : Nat} (e : r = (j : Int)) (h : j < ts.length) : atI (ts.map V.str) r = some (.str ts[j]) :=
  at_of e (by rw [List.getElem?_map, List.getElem?_eq_getElem h]; rfl)
end Cp

set_option Elab.async false
set_option linter.all false
set_option maxRecDepth 100000
namespace Cp
open PySem L2
def spFrame : Sp := fun vs H Q _ => ∃ (d g : Addr) (n : Int), vs = [.ref d, .int n] ∧ Drw H d g ∧ 0 < n ∧ n ≤ 24 ∧
  ∀ (l : Addr) (as : List Addr) (ks : List Kd) (H' : Hp), Frm ks → 1 ≤ ks.length → ks.length ≤ 24 → H l = none → H' l = some (.lst (as.map V.ref)) → RowsAt H' as ks → Ev d g H H' → Q (.ref l) H'
abbrev nFrame : List Str := ["draw", "most", "titles", "many", "rows", "pool", "start", "ed", "k", "bases", "turn", "base", "at"]
section
variable {P : Program} {w : World} {K : PySem.W.Frag} {mg : Str → Option Value} {base : Heap}
theorem scFrame : FnScope nFrame ["draw", "most"] (defScope sFrame) := ⟨rfl, rfl, rfl, by decide +kernel, rfl, by decide +kernel, by decide +kernel⟩
theorem ok_frame {f fN fT fS : Addr} {fd fdN fdT fdS : FuncData} (F : Fun K "_law_frame" "_law_frame" sFrame f fd) (T : TB mg) (FN : Fun K "_law_next" "_law_next" sNext fN fdN) (bN : Binds K fdN ["draw", "below"] []) (mN : mg "_law_next" = some (.ref fN))
    (FT : Fun K "_law_titles" "_law_titles" sTitles fT fdT) (bT : Binds K fdT ["draw"] []) (mT : mg "_law_titles" = some (.ref fT)) (FS : Fun K "_law_sign" "_law_sign" sSign fS fdS) (bS : Binds K fdS ["at"] []) (mS : mg "_law_sign" = some (.ref fS)) :
    FnOk P w K mg base CX0 3 f fd ["draw", "most"] spFrame := by
  have GN : FnOk P w K mg base CX0 1 fN fdN ["draw", "below"] spNext := ok_next FN T
  have GT : FnOk P w K mg base CX0 2 fT fdT ["draw"] spTitles := ok_titles FT T FN bN mN
  have GS : FnOk P w K mg base CX0 1 fS fdS ["at"] spSign := ok_sign FS T
  refine F.ok scFrame (fun vs H Q E h => ?_) (fun cdv A outer s H vs Q E hr h => ?_)
  · obtain ⟨d, g, n, rfl, _⟩ := h
    rfl
  · obtain ⟨d, g, n, rfl, D, n0, n1, k⟩ := h
    have hu := hu_of hr
    have hr1 : Room 1 _ := hr.mono (by decide)
    have nd := scFrame.nd
    refine ⟨_, (pss_cons (ps_par3 (i := 2) (j := 3) (l := 4) rfl nd rfl rfl rfl (by decide) (by decide) (by decide) rfl rfl rfl (pa_cons (pe_call GT hr (by rfl) mT FT.kp bT .nil pass0 (pa_cons (pv 0) pa_nil)) (pa_cons (pe_op op_add pe_int (pe_call GN hr1 (by rfl) mN FN.kp bN .nil pass0 (pa_cons (pv 0) (pa_cons (pv 1) pa_nil)))) (pa_cons (pe_lst pa_nil) pa_nil))) (by rfl))
      (pss_cons (ps_par3 (i := 5) (j := 6) (l := 7) rfl nd rfl rfl rfl (by decide) (by decide) (by decide) rfl rfl rfl (pa_cons (pe_ix ix_list (pe_lst (pa_cons pe_int (pa_cons pe_int (pa_cons pe_int pa_nil)))) (pe_call GN hr1 (by rfl) mN FN.kp bN .nil pass0 (pa_cons (pv 0) (pa_cons pe_int pa_nil))) (fun _ _ => rfl)) (pa_cons (pe_call GN hr1 (by rfl) mN FN.kp bN .nil pass0 (pa_cons (pv 0) (pa_cons pe_int pa_nil))) (pa_cons pe_int pa_nil))) (by rfl))
      (pss_cons (ps_for PassesOwn.never rfl (pi_range1 rfl T.range (pa_cons (pv 3) pa_nil)) (pg_name (i := 8) nd rfl (.inl rfl)) (pss_cons (ps_set (i := 7) nd rfl (.inl rfl) (pe_callB (call_min2 rfl) (by rfl) T.min (by decide +kernel) (pa_cons pe_int (pa_cons (pe_op op_add (pv 7) (pe_ix ix_list (pe_lst (pa_cons pe_int (pa_cons pe_int (pa_cons pe_int (pa_cons pe_int (pa_cons pe_int (pa_cons pe_int (pa_cons pe_int (pa_cons pe_int pa_nil))))))))) (pe_call GN hr1 (by rfl) mN FN.kp bN .nil pass0 (pa_cons (pv 0) (pa_cons pe_int pa_nil))) (fun _ _ => rfl))) pa_nil))))
      (pss_cons (ps_set (i := 9) nd rfl (.inl rfl) (pe_lst pa_nil))
      (pss_cons (ps_for PassesOwn.never rfl (pi_range1 rfl T.range (pa_cons (pe_ix ix_list (pe_lst (pa_cons pe_int (pa_cons pe_int (pa_cons pe_int (pa_cons pe_int (pa_cons pe_int (pa_cons pe_int (pa_cons pe_int (pa_cons pe_int pa_nil))))))))) (pe_call GN hr1 (by rfl) mN FN.kp bN .nil pass0 (pa_cons (pv 0) (pa_cons pe_int pa_nil))) (fun _ _ => rfl)) pa_nil)) (pg_name (i := 10) nd rfl (.inl rfl)) (pss_cons (ps_set (i := 11) nd rfl (.inl rfl) (pe_ix ix_list (pv 2) (pe_call GN hr1 (by rfl) mN FN.kp bN .nil pass0 (pa_cons (pv 0) (pa_cons (pe_op op_add (pv 8) pe_int) pa_nil))) (fun _ _ => rfl)))
      (pss_one (ps_if (PW.pt (pw_and (pt_cmpR op_ne (pv 11) (pe_ix ix_list (pv 2) (pv 8) (fun _ _ => rfl)) (nomark _)) (pw_and (pt_cmpR op_notIn_seq (pv 11) (pv 9) (by rfl)) (pw_and1 (pt_cmpR op_lt (pe_callB call_len_seq (by rfl) T.len (PySem.boot_len) (pa_cons (pv 9) pa_nil)) pe_int (nomark _)))))) (pss_one (ps_expr (pe_bm PySem.F.plainAttrs_list PySem.F.slot_list_append PySem.F.type_list_append mt_append (pv 9) (pa_cons (pv 11) pa_nil)))) pss_nil))))
      (pss_cons (ps_set (i := 12) nd rfl (.inl rfl) (pe_op op_add (pe_op op_add (pv 6) (pe_op op_mul pe_int (pv 8))) (pe_call GN hr1 (by rfl) mN FN.kp bN .nil pass0 (pa_cons (pv 0) (pa_cons pe_int pa_nil)))))
      (C8.pss_cut (ps_if (pt_cmpR op_lt (pv 5) pe_int (nomark _)) (pss_one (ps_set (i := 12) nd rfl (.inl rfl) (pe_op op_add (pv 6) (pe_op op_mul pe_int (pe_call GN hr1 (by rfl) mN FN.kp bN .nil pass0 (pa_cons (pv 0) (pa_cons (pv 5) pa_nil))))))) pss_nil)
      (pss_one (ps_expr (pe_bm PySem.F.plainAttrs_list PySem.F.slot_list_append PySem.F.type_list_append mt_append (pv 4) (pa_cons (pe_tup (pa_cons (pe_ix ix_list (pv 2) (pv 8) (fun _ _ => rfl)) (pa_cons (pv 7) (pa_cons (pe_callTy call_tuple_of (by rfl) T.tuple (by decide +kernel) (pa_cons (pv 9) pa_nil)) (pa_cons (pe_call GS hr1 (by rfl) mS FS.kp bS .nil pass0 (pa_cons (pv 12) pa_nil)) (pa_cons pe_str pa_nil)))))) pa_nil))))))))))
      (pss_one (ps_ret (pv 4)))))), ?_⟩
    refine ⟨_, rfl, d, g, rfl, D, fun lt ts H1 tt hlt h1 e1 => ?_⟩
    refine ⟨_, rfl, _, rfl, d, g, n, rfl, e1.dr, n0, by omega, fun mny H2 m0 m1 e2 => ?_⟩
    refine ⟨_, _, rfl, rfl, (by show 0 ≤ sizeLine; decide), fun r hr0 => ?_⟩
    have e12 := e1.trans e2
    have er := e12.new (o := .lst []) hr0
    have hrH : H r = none := e12.free D hr0
    have hl3 : upd H2 r (.lst []) lt = some (.lst (ts.map V.str)) := upd_keep (e2.kp _ _ h1 (D.ned hlt) (D.neg hlt)) hr0
    refine ⟨_, _, _, rfl, by show 3 ≤ sizeLine; decide, fun q hq => ?_⟩
    have er2 := er.new (o := .lst [V.int 2, V.int 4, V.int 26]) hq
    have hqH : H q = none := er.free D hq
    have hl4 : upd (upd H2 r (.lst [])) q (.lst [V.int 2, V.int 4, V.int 26]) lt = _ := upd_keep hl3 hq
    have hr4 : upd (upd H2 r (.lst [])) q (.lst [V.int 2, V.int 4, V.int 26]) r = _ := upd_keep upd_same hq
    refine ⟨_, rfl, d, g, 3, rfl, er2.dr, by decide, by decide, fun c H4 c0 c1 e4 => ?_⟩
    obtain ⟨pl, hpl, hat⟩ := pick [2, 4, 26] c0 (by exact c1)
    have hp0 : 0 < pl ∧ pl < 27 := by simp at hpl; omega
    refine ⟨q, _, _, _, rfl, rfl, SqL.of (e4.kp _ _ upd_same (D.ned hqH) (D.neg hqH)), hat, ?_⟩
    refine ⟨_, rfl, d, g, 26, rfl, e4.dr, by decide, by decide, fun st H5 st0 st1 e5 => ⟨_, _, _, rfl, ?_⟩⟩
    have e7 : Ev d g H H5 := (er2.trans e4).trans e5
    have hl5 : H5 lt = some (.lst (ts.map V.str)) := e5.kp _ _ (e4.kp _ _ hl4 (D.ned hlt) (D.neg hlt)) (D.ned hlt) (D.neg hlt)
    have hr5 : H5 r = some (.lst []) := e5.kp _ _ (e4.kp _ _ hr4 (D.ned hrH) (D.neg hrH)) (D.ned hrH) (D.neg hrH)
    refine ⟨_, rfl, _, rfl, by omega, by omega, ?_⟩
    have tl := tt.len
    refine for_range (lo := 0) (n := (1 + mny).toNat) (fun i σ H' => ∃ (ed : Int) (as : List Addr) (ks : List Kd) (v8 v9 v10 v11 v12 : Option V), σ = [some (.ref d), some (.int n), some (.ref lt), some (.int (1 + mny)), some (.ref r), some (.int pl), some (.int st), some (.int ed), v8, v9, v10, v11, v12] ∧
      1 ≤ ed ∧ ed ≤ 99 ∧ Ev d g H H' ∧ H' lt = some (.lst (ts.map V.str)) ∧ H' r = some (.lst (as.map V.ref)) ∧ RowsAt H' as ks ∧ Frm ks ∧ ks.map Kd.nm = ts.take i ∧ ∀ a ∈ ks, a.ed ≤ ed) ?_ ?_ ?_
    · exact ⟨1, [], [], none, none, none, none, none, rfl, by decide, by decide, e7, hl5, hr5, RowsAt.nil, frm_nil, rfl, fun a h => by simp at h⟩
    · rintro i σ H6 hi ⟨ed, as, ks, v8, v9, v10, v11, v12, rfl, ed0, ed1, e8, hl6, hr6, R, FK, hnm, hed⟩
      have hi24 : i < ts.length := by omega
      have hkl : ks.length = i := by
        have := congrArg List.length hnm
        rw [List.length_map, List.length_take] at this
        omega
      -- ed
      refine ⟨_, rfl, by show 8 ≤ sizeLine; decide, fun q1 hq1 => ?_⟩
      have e9 := e8.new (o := .lst [V.int 0, V.int 1, V.int 0, V.int 1, V.int 2, V.int 1, V.int 0, V.int 40]) hq1
      have hq1H : H q1 = none := e8.free D hq1
      refine ⟨_, rfl, d, g, 8, rfl, e9.dr, by decide, by decide, fun c1 H7 c10 c11 e10 => ?_⟩
      obtain ⟨z1, hz1, hat1⟩ := pick [0, 1, 0, 1, 2, 1, 0, 40] c10 (by exact c11)
      have hz10 : 0 ≤ z1 := by simp at hz1; omega
      refine ⟨q1, _, _, _, rfl, rfl, SqL.of (e10.kp _ _ upd_same (D.ned hq1H) (D.neg hq1H)), hat1, _, _, rfl, rfl, _, _, rfl, ?_⟩
      have e11 := e9.trans e10
      have hl7 : H7 lt = _ := e10.kp _ _ (upd_keep hl6 hq1) (D.ned hlt) (D.neg hlt)
      have hr7 : H7 r = _ := e10.kp _ _ (upd_keep hr6 hq1) (D.ned hrH) (D.neg hrH)
      have R7 := (R.tk (tk_new (o := .lst [V.int 0, V.int 1, V.int 0, V.int 1, V.int 2, V.int 1, V.int 0, V.int 40]) hq1)).tk (e10.tk e9.dr)
      -- bases
      refine ⟨by show 0 ≤ sizeLine; decide, fun b0 hb0 => ?_⟩
      have e13 := e11.new (o := .lst []) hb0
      have hb0H : H b0 = none := e11.free D hb0
      have nlb : lt ≠ b0 := ne_of_none hl7 hb0
      have nrb : r ≠ b0 := ne_of_none hr7 hb0
      refine ⟨by show 8 ≤ sizeLine; decide, fun q2 hq2 => ?_⟩
      have e14 := e13.new (o := .lst [V.int 0, V.int 1, V.int 2, V.int 1, V.int 3, V.int 2, V.int 0, V.int 9]) hq2
      have hq2H : H q2 = none := e13.free D hq2
      refine ⟨_, rfl, d, g, 8, rfl, e14.dr, by decide, by decide, fun c2 H8 c20 c21 e15 => ?_⟩
      obtain ⟨z2, hz2, hat2⟩ := pick [0, 1, 2, 1, 3, 2, 0, 9] c20 (by exact c21)
      have hz20 : 0 ≤ z2 ∧ z2 < 10 := by simp at hz2; omega
      refine ⟨q2, _, _, _, rfl, rfl, SqL.of (e15.kp _ _ upd_same (D.ned hq2H) (D.neg hq2H)), hat2, _, rfl, by omega, by omega, ?_⟩
      have e16 := e14.trans e15
      have hl8 : H8 lt = _ := e15.kp _ _ (upd_keep (upd_keep hl7 hb0) hq2) (D.ned hlt) (D.neg hlt)
      have hr8 : H8 r = _ := e15.kp _ _ (upd_keep (upd_keep hr7 hb0) hq2) (D.ned hrH) (D.neg hrH)
      have hb8 : H8 b0 = some (.lst []) := e15.kp _ _ (upd_keep upd_same hq2) (D.ned hb0H) (D.neg hb0H)
      have R8 := (R7.tk ((tk_new (o := .lst []) hb0).trans (tk_new (o := .lst [V.int 0, V.int 1, V.int 2, V.int 1, V.int 3, V.int 2, V.int 0, V.int 9]) hq2))).tk (e15.tk e14.dr)
      refine for_range (lo := 0) (n := z2.toNat) (fun j σ H' => ∃ (ed' : Int) (bs : List Str) (v10 v11 v12 : Option V), σ = [some (.ref d), some (.int n), some (.ref lt), some (.int (1 + mny)), some (.ref r), some (.int pl), some (.int st), some (.int ed'), some (.int (0 + (i : Int))), some (.ref b0), v10, v11, v12] ∧
        ed ≤ ed' ∧ ed' ≤ 99 ∧ Ev d g H H' ∧ H' lt = some (.lst (ts.map V.str)) ∧ H' r = some (.lst (as.map V.ref)) ∧ RowsAt H' as ks ∧ H' b0 = some (.lst (bs.map V.str)) ∧ bs.Nodup ∧ bs.length ≤ 6 ∧ ∀ b ∈ bs, b ∈ ts.take i) ?_ ?_ ?_
      · refine ⟨_, [], v10, v11, v12, rfl, ?_, ?_, e16, hl8, hr8, R8, hb8, List.nodup_nil, Nat.zero_le _, fun b h => by simp at h⟩
        · split <;> omega
        · split <;> omega
      · rintro j σ H9 hj ⟨ed', bs, v10, v11, v12, rfl, ee0, ee1, e17, hl9, hr9, R9, hb9, bn, bl, bm⟩
        refine ⟨_, rfl, _, rfl, _, rfl, _, _, rfl, rfl, d, g, _, rfl, e17.dr, by omega, by omega, fun x H10 x0 x1 e18 => ?_⟩
        have e19 := e17.trans e18
        have hl10 : H10 lt = _ := e18.kp _ _ hl9 (D.ned hlt) (D.neg hlt)
        have hr10 : H10 r = _ := e18.kp _ _ hr9 (D.ned hrH) (D.neg hrH)
        have hb10 : H10 b0 = _ := e18.kp _ _ hb9 (D.ned hb0H) (D.neg hb0H)
        have R10 := R9.tk (e18.tk e17.dr)
        obtain ⟨y, ey⟩ : ∃ y : Nat, x = (y : Int) := ⟨x.toNat, by omega⟩
        have hy : y < ts.length := by omega
        refine ⟨lt, _, _, _, rfl, rfl, SqL.of hl10, strs_at ey hy, ?_⟩
        refine ⟨_, rfl, _, rfl, _, rfl, lt, _, _, _, rfl, rfl, SqL.of hl10, strs_at (Int.zero_add _) hi24, rfl, _, rfl, ?_⟩
        refine ite2 (fun qa => ?_) (fun _ => ?_)
        · refine ⟨_, rfl, _, rfl, b0, _, rfl, .inl (SqL.of hb10), rfl, flat_strs _, _, rfl, ?_⟩
          refine ite2 (fun qb => ?_) (fun _ => ?_)
          · refine ⟨_, rfl, b0, _, rfl, .inl (SqL.of hb10), _, _, rfl, rfl, _, rfl, ?_⟩
            refine ite2 (fun qc => ?_) (fun _ => ?_)
            · refine ⟨_, rfl, .inl ⟨rfl, _, SqL.of hb10⟩, _, rfl, b0, _, _, rfl, rfl, hb10, by rw [List.length_map]; exact small1000 (by omega), ?_⟩
              have qb' : ¬ ts[y] ∈ bs := by
                rw [if_pos rfl, in_strs] at qb
                simpa using qb
              have qc' : bs.length < 6 := by
                have := of_decide_eq_true qc
                rw [List.length_map] at this
                omega
              have hyi : y ≠ i := fun e => by
                subst e
                simp at qa
              refine ⟨ed', bs ++ [ts[y]], _, _, _, rfl, ee0, ee1, ⟨fun b o e1 e2 e3 => by rw [upd_ne (ne_of_none e1 hb0H)]; exact e19.kp b o e1 e2 e3, ?_⟩, by rw [upd_ne nlb]; exact hl10, by rw [upd_ne nrb]; exact hr10, R10.tk (tk_lst hb10), by rw [List.map_append]; exact upd_same, nd_snoc bn qb', by rw [List.length_append]; show bs.length + 1 ≤ 6; omega, fun b hb => ?_⟩
              · obtain ⟨m', t', gs', a1, a2, a3⟩ := e19.dr
                exact ⟨m', t', gs', by rw [upd_ne (D.ned hb0H).symm]; exact a1, by rw [upd_ne (D.neg hb0H).symm]; exact a2, a3⟩
              · rcases List.mem_append.mp hb with hb | hb
                · exact bm b hb
                · rw [List.mem_singleton.mp hb]
                  have : (ts.take i)[y]? = some ts[y] := by
                    rw [List.getElem?_take_of_lt (by omega), List.getElem?_eq_getElem hy]
                  exact List.mem_of_getElem? this
            · exact ⟨ed', bs, _, _, _, rfl, ee0, ee1, e19, hl10, hr10, R10, hb10, bn, bl, bm⟩
          · exact ⟨ed', bs, _, _, _, rfl, ee0, ee1, e19, hl10, hr10, R10, hb10, bn, bl, bm⟩
        · exact ⟨ed', bs, _, _, _, rfl, ee0, ee1, e19, hl10, hr10, R10, hb10, bn, bl, bm⟩
      · rintro σ H9 ⟨ed', bs, v10, v11, v12, rfl, ee0, ee1, e17, hl9, hr9, R9, hb9, bn, bl, bm⟩
        refine ⟨_, rfl, _, rfl, _, _, rfl, rfl, .inl (by decide), _, _, rfl, rfl, _, rfl, d, g, 2, rfl, e17.dr, by decide, by decide, fun x H10 x0 x1 e18 => ⟨_, _, rfl, rfl, ?_⟩⟩
        have e19 := e17.trans e18
        have hl10 : H10 lt = _ := e18.kp _ _ hl9 (D.ned hlt) (D.neg hlt)
        have hr10 : H10 r = _ := e18.kp _ _ hr9 (D.ned hrH) (D.neg hrH)
        have hb10 : H10 b0 = _ := e18.kp _ _ hb9 (D.ned hb0H) (D.neg hb0H)
        have R10 := R9.tk (e18.tk e17.dr)
        refine ⟨fun σ H' => ∃ (v10 v11 : Option V) (at_ : Int), σ = [some (.ref d), some (.int n), some (.ref lt), some (.int (1 + mny)), some (.ref r), some (.int pl), some (.int st), some (.int ed'), some (.int (0 + (i : Int))), some (.ref b0), v10, v11, some (.int at_)] ∧
          Ev d g H H' ∧ H' lt = some (.lst (ts.map V.str)) ∧ H' r = some (.lst (as.map V.ref)) ∧ RowsAt H' as ks ∧ H' b0 = some (.lst (bs.map V.str)), ?_, ?_⟩
        · refine ⟨_, rfl, _, _, rfl, rfl, _, rfl, ?_⟩
          refine ite2 (fun _ => ?_) (fun _ => ?_)
          · refine ⟨_, rfl, _, rfl, _, rfl, d, g, pl, rfl, e19.dr, by omega, by omega, fun x2 H11 _ _ e20 => ⟨_, _, rfl, rfl, .inl (by decide), _, _, rfl, rfl, ?_⟩⟩
            exact ⟨_, _, _, rfl, e19.trans e20, e20.kp _ _ hl10 (D.ned hlt) (D.neg hlt), e20.kp _ _ hr10 (D.ned hrH) (D.neg hrH), R10.tk (e20.tk e19.dr), e20.kp _ _ hb10 (D.ned hb0H) (D.neg hb0H)⟩
          · exact ⟨_, _, _, rfl, e19, hl10, hr10, R10, hb10⟩
        · rintro σ H11 ⟨w10, w11, at_, rfl, e21, hl11, hr11, R11, hb11⟩
          refine ⟨_, rfl, .inl ⟨rfl, _, SqL.of hr11⟩, _, rfl, _, rfl, lt, _, _, _, rfl, rfl, SqL.of hl11, strs_at (Int.zero_add _) hi24, _, rfl, _, rfl, b0, _, rfl, .inl ⟨SqL.of hb11, fun t ht => ?_⟩⟩
          refine ⟨_, rfl, _, rfl, by show 5 ≤ sizeLine; decide, fun p hp => ?_⟩
          have hr12 : upd (upd H11 t (.tup (bs.map V.str))) p (.tup [V.str ts[i], V.int ed', V.ref t, V.str (ltr (at_ % 26).toNat), V.str ""]) r = some (.lst (as.map V.ref)) := upd_keep (upd_keep hr11 ht) hp
          refine ⟨r, _, _, rfl, rfl, hr12, by rw [List.length_map, R.1, hkl]; exact small1000 (by omega), ?_⟩
          have e22 := (e21.new (o := .tup (bs.map V.str)) ht).new (o := .tup [V.str ts[i], V.int ed', V.ref t, V.str (ltr (at_ % 26).toNat), V.str ""]) hp
          have npr : p ≠ r := (ne_of_none (upd_keep (u := .tup (bs.map V.str)) hr11 ht) hp).symm
          have ntr : t ≠ r := (ne_of_none hr11 ht).symm
          have ntp : t ≠ p := ne_of_none (upd_same (H := H11) (a := t) (o := .tup (bs.map V.str))) hp
          have nlr : lt ≠ r := fun e => by rw [e] at hl3; rw [upd_same] at hl3; have := congrArg (fun o => match o with | some (HO.lst xs) => xs.length | _ => 0) hl3; simp at this; omega
          refine ⟨ed', as ++ [p], ks ++ [⟨ts[i], ed', bs, (at_ % 26).toNat, ""⟩], _, _, _, _, _, rfl, by omega, ee1, ⟨fun b o a1 a2 a3 => by rw [upd_ne (ne_of_none a1 hrH)]; exact e22.kp b o a1 a2 a3, ?_⟩, ?_, ?_, ?_, ?_, ?_, ?_⟩
          · obtain ⟨m', t', gs', a1, a2, a3⟩ := e22.dr
            exact ⟨m', t', gs', by rw [upd_ne (D.ned hrH).symm]; exact a1, by rw [upd_ne (D.neg hrH).symm]; exact a2, a3⟩
          · rw [upd_ne nlr]
            exact upd_keep (upd_keep hl11 ht) hp
          · rw [List.map_append]
            exact upd_same
          · refine ((R11.tk ((tk_new (o := .tup (bs.map V.str)) ht).trans (tk_new (o := .tup [V.str ts[i], V.int ed', V.ref t, V.str (ltr (at_ % 26).toNat), V.str ""]) hp))).tk (tk_lst hr12)).snoc ⟨t, ?_, ?_⟩
            · rw [upd_ne npr]
              exact upd_same
            · rw [upd_ne ntr, upd_ne ntp]
              exact upd_same
          · refine frm_snoc FK ⟨tt.ok _ (List.getElem_mem hi24), (by show 1 ≤ ed'; omega), ee1, bl, bn, fun b hb => tt.ok b (List.mem_of_mem_take (bm b hb)), by show (at_ % 26).toNat < 26; omega, (by show okM ("" : Str) = true; decide +kernel)⟩ ?_ (fun a ha => Int.le_trans (hed a ha) ee0) ?_
            · rw [hnm]
              show ts[i] ∉ ts.take i
              intro hm
              obtain ⟨y, hy, ey⟩ := List.mem_iff_getElem.mp hm
              rw [List.getElem_take] at ey
              rw [List.length_take] at hy
              have := (List.getElem_inj tt.nd).mp ey
              omega
            · intro b hb
              rw [hnm]
              exact bm b hb
          · rw [List.map_append, hnm]
            exact (take_snoc (List.getElem?_eq_getElem hi24)).symm
          · intro a ha
            rcases List.mem_append.mp ha with ha | ha
            · exact Int.le_trans (hed a ha) ee0
            · rw [List.mem_singleton.mp ha]
              exact Int.le_refl _
    · rintro σ H6 ⟨ed, as, ks, v8, v9, v10, v11, v12, rfl, ed0, ed1, e8, hl6, hr6, R, FK, hnm, hed⟩
      have hkl : ks.length = (1 + mny).toNat := by
        have := congrArg List.length hnm
        rw [List.length_map, List.length_take] at this
        omega
      exact ⟨_, rfl, k r as ks H6 FK (by omega) (by omega) hrH hr6 R e8⟩
end
end Cp

set_option Elab.async false
set_option linter.all false
set_option maxRecDepth 100000
namespace Cp
open PySem L2
/-! ### what is beneath, as the law tells it -/
def look? (fs : List (Str × List Str)) (x : Str) : Option (List Str) := (fs.find? fun f => decide (f.1 = x)).map (·.2)
def look (fs : List (Str × List Str)) (x : Str) : List Str := (look? fs x).getD []
def ownOf (fs : List (Str × List Str)) (bs : List Str) : List Str := bs.flatMap fun b => look fs b ++ [b]
def undOf (all : List Kd) (fs : List (Str × List Str)) (k : Kd) : List Str := (all.map Kd.nm).filter fun x => decide (x ∈ ownOf fs k.bs)
def undAll (all : List Kd) : List Kd → List (Str × List Str) → List (Str × List Str)
  | [], fs => fs
  | k :: r, fs => undAll all r (fs ++ [(k.nm, undOf all fs k)])
theorem undAll_snoc (all : List Kd) : ∀ (ks : List Kd) (k : Kd) (fs : List (Str × List Str)), undAll all (ks ++ [k]) fs = undAll all ks fs ++ [(k.nm, undOf all (undAll all ks fs) k)]
  | [], k, fs => rfl
  | a :: r, k, fs => by
    rw [List.cons_append]
    unfold undAll
    rw [undAll_snoc all r k]
theorem undAll_names (all : List Kd) : ∀ (ks : List Kd) (fs : List (Str × List Str)), (undAll all ks fs).map (·.1) = fs.map (·.1) ++ ks.map Kd.nm
  | [], fs => by simp [undAll]
  | k :: r, fs => by
    unfold undAll
    rw [undAll_names all r, List.map_append, List.append_assoc]
    rfl
theorem undOf_len (all : List Kd) (fs : List (Str × List Str)) (k : Kd) : (undOf all fs k).length ≤ all.length := by
  unfold undOf
  have := List.length_filter_le (fun x => decide (x ∈ ownOf fs k.bs)) (all.map Kd.nm)
  rw [List.length_map] at this
  exact this
theorem undAll_len (all : List Kd) : ∀ (ks : List Kd) (fs : List (Str × List Str)), (∀ f ∈ fs, f.2.length ≤ all.length) → ∀ f ∈ undAll all ks fs, f.2.length ≤ all.length
  | [], fs, h => h
  | k :: r, fs, h => by
    unfold undAll
    refine undAll_len all r _ fun f hf => ?_
    rcases List.mem_append.mp hf with hf | hf
    · exact h f hf
    · rw [List.mem_singleton.mp hf]
      exact undOf_len all fs k
theorem look?_mem {fs : List (Str × List Str)} {x : Str} {ys : List Str} (h : look? fs x = some ys) : (x, ys) ∈ fs := by
  unfold look? at h
  cases e : fs.find? fun f => decide (f.1 = x) with
  | none =>
    rw [e] at h
    cases h
  | some f =>
    rw [e] at h
    have h1 := List.find?_some e
    have h2 := List.mem_of_find?_eq_some e
    have h3 : f.1 = x := of_decide_eq_true h1
    have h4 : f.2 = ys := Option.some.inj h
    rw [← h3, ← h4]
    exact h2
theorem look?_some {fs : List (Str × List Str)} {x : Str} (h : x ∈ fs.map (·.1)) : ∃ ys, look? fs x = some ys := by
  unfold look?
  cases e : fs.find? fun f => decide (f.1 = x) with
  | none =>
    obtain ⟨f, hf, e2⟩ := List.mem_map.mp h
    have := List.find?_eq_none.mp e f hf
    simp [e2] at this
  | some f => exact ⟨f.2, rfl⟩
theorem ownOf_len {fs : List (Str × List Str)} {n : Nat} (h : ∀ f ∈ fs, f.2.length ≤ n) : ∀ bs : List Str, (ownOf fs bs).length ≤ bs.length * (n + 1)
  | [] => by simp [ownOf]
  | b :: r => by
    have ih := ownOf_len h r
    have hl : (look fs b).length ≤ n := by
      unfold look
      cases e : look? fs b with
      | none => exact Nat.zero_le _
      | some ys => exact h _ (look?_mem e)
    unfold ownOf at *
    rw [List.flatMap_cons, List.length_append, List.length_append, List.length_cons (a := b) (as := r), Nat.add_mul]
    simp only [List.length_cons, List.length_nil]
    omega
theorem ownOf_snoc (fs : List (Str × List Str)) (bs : List Str) (b : Str) : ownOf fs (bs ++ [b]) = ownOf fs bs ++ look fs b ++ [b] := by
  unfold ownOf
  rw [List.flatMap_append]
  simp
/-- a dict of names to lists of names stands at p -/
def UndR (H0 H : Hp) (kv : Key × V) (f : Str × List Str) : Prop := kv.1 = kx f.1 ∧ ∃ q, kv.2 = .ref q ∧ H0 q = none ∧ H q = some (.lst (f.2.map V.str))
def UndAt (H0 H : Hp) (p : Addr) (fs : List (Str × List Str)) : Prop := ∃ kvs : List (Key × V), H p = some (.dK kvs) ∧ Paired (UndR H0 H) kvs fs
theorem pd_len {α β : Type} {R : α → β → Prop} {l : List α} {m : List β} (h : Paired R l m) : l.length = m.length := Paired.length h
theorem pd_snoc {α β : Type} {R : α → β → Prop} : ∀ {l : List α} {m : List β} {a : α} {b : β}, Paired R l m → R a b → Paired R (l ++ [a]) (m ++ [b])
  | _, _, _, _, .nil, r => .cons r .nil
  | _, _, _, _, .cons q t, r => .cons q (pd_snoc t r)
theorem und_look {H0 H : Hp} {x : Str} : ∀ {kvs : List (Key × V)} {fs : List (Str × List Str)}, Paired (UndR H0 H) kvs fs → ∀ {ys}, look? fs x = some ys → ∃ q, valV kvs (kx x) = some (.ref q) ∧ H q = some (.lst (ys.map V.str))
  | _, _, .nil, ys, h => by simp [look?] at h
  | kv :: kvs, f :: fs, .cons r t, ys, h => by
    obtain ⟨r1, q, r2, _, r3⟩ := r
    by_cases e : f.1 = x
    · have h1 : look? (f :: fs) x = some f.2 := by
        unfold look?
        rw [List.find?_cons_of_pos (by exact decide_eq_true e)]
        rfl
      rw [h1] at h
      cases h
      exact ⟨q, by rw [valV_pos (p := kv) (by rw [r1, e]), r2], r3⟩
    · have h1 : look? (f :: fs) x = look? fs x := by
        unfold look?
        rw [List.find?_cons_of_neg (by simp [e])]
      rw [h1] at h
      obtain ⟨q', a1, a2⟩ := und_look t h
      exact ⟨q', by rw [valV_neg (p := kv) (by rw [r1]; exact kne e)]; exact a1, a2⟩
theorem und_none {H0 H : Hp} {x : Str} : ∀ {kvs : List (Key × V)} {fs : List (Str × List Str)}, Paired (UndR H0 H) kvs fs → ¬ x ∈ fs.map (·.1) → valV kvs (kx x) = none
  | _, _, .nil, h => valV_nil
  | kv :: kvs, f :: fs, .cons r t, h => by
    rw [List.map_cons] at h
    rw [valV_neg (p := kv) (by rw [r.1]; exact kne fun e => h (by rw [e]; exact List.mem_cons_self))]
    exact und_none t fun m => h (List.mem_cons_of_mem _ m)
theorem UndR.mono {H0 H H' : Hp} {kv : Key × V} {f : Str × List Str} (r : UndR H0 H kv f) (h : ∀ q xs, H0 q = none → H q = some (.lst xs) → H' q = some (.lst xs)) : UndR H0 H' kv f := by
  obtain ⟨r1, q, r2, r3, r4⟩ := r
  exact ⟨r1, q, r2, r3, h q _ r3 r4⟩
theorem pd_mono {α β : Type} {R S : α → β → Prop} (h : ∀ a b, R a b → S a b) : ∀ {l : List α} {m : List β}, Paired R l m → Paired S l m
  | _, _, .nil => .nil
  | _, _, .cons r t => .cons (h _ _ r) (pd_mono h t)
end Cp

set_option Elab.async false
set_option linter.all false
set_option maxRecDepth 100000
namespace Cp
open PySem L2
theorem ref_at {as : List Addr} {i : Nat} {y : V} (hi : (as.map V.ref)[i]? = some y) : ∃ q, as[i]? = some q ∧ y = V.ref q := by
  rw [List.getElem?_map] at hi
  cases e : as[i]? with
  | none =>
    rw [e] at hi
    cases hi
  | some z =>
    rw [e] at hi
    exact ⟨z, rfl, (Option.some.inj hi).symm⟩
theorem filt1 {α : Type} {p : α → Bool} {x : α} (h : p x = true) : [x].filter p = [x] := by simp [h]
theorem filt0 {α : Type} {p : α → Bool} {x : α} (h : ¬ p x = true) : [x].filter p = [] := by simp [h]
abbrev nUnder : List Str := ["plan", "found", "name", "ed", "bases", "letter", "mark", "own", "base", "kind"]
theorem scUnder : FnScope nUnder ["plan"] (defScope sUnder) := ⟨rfl, rfl, rfl, by decide +kernel, rfl, by decide +kernel, by decide +kernel⟩

def spUnderL : Sp := fun vs H Q _ => ∃ (a : Addr) (as : List Addr) (ks : List Kd), vs = [.ref a] ∧ H a = some (.lst (as.map V.ref)) ∧ RowsAt H as ks ∧ Frm ks ∧ ks.length ≤ 24 ∧
  ∀ (p : Addr) (H' : Hp), H p = none → UndAt H H' p (undAll ks ks []) → Same H H' → Q (.ref p) H'
section
variable {P : Program} {w : World} {K : PySem.W.Frag} {mg : Str → Option Value} {base : Heap}
theorem ok_underL {f : Addr} {fd : FuncData} (F : Fun K "_law_under" "_law_under" sUnder f fd) (T : TB mg) : FnOk P w K mg base CX0 1 f fd ["plan"] spUnderL := by
  refine F.ok scUnder (fun vs H Q E h => ?_) (fun cdv A outer s H vs Q E hr h => ?_)
  · obtain ⟨a, as, ks, rfl, _⟩ := h
    rfl
  · obtain ⟨a, as, ks, rfl, hA, R, FK, hk24, k⟩ := h
    have hu := hu_of hr
    have nd := scUnder.nd
    refine ⟨_, (pss_cons (ps_set (i := 1) nd rfl (.inl rfl) pe_dnewK)
      (pss_cons (ps_for PassesOwn.never rfl (pi_list (pv 0)) (pg_tup (by rfl) (pgs_cons (pg_name (i := 2) nd rfl (.inl rfl)) (pgs_cons (pg_name (i := 3) nd rfl (.inl rfl)) (pgs_cons (pg_name (i := 4) nd rfl (.inl rfl)) (pgs_cons (pg_name (i := 5) nd rfl (.inl rfl)) (pgs_cons (pg_name (i := 6) nd rfl (.inl rfl)) pgs_nil)))))) (pss_cons (ps_set (i := 7) nd rfl (.inr rfl) (pe_lst pa_nil))
      (pss_cons (ps_for PassesOwn.never rfl (pi_tup (pv 4)) (pg_name (i := 8) nd rfl (.inl rfl)) (pss_one (ps_set (i := 7) nd rfl (.inr rfl) (pe_op op_cat (pe_op op_cat (pv 7) (pe_dget hu (pv 1) (pv 8) (fun _ _ => rfl))) (pe_lst (pa_cons (pv 8) pa_nil))))))
      (pss_one (ps_dput hu (pv 1) (pv 2) (pe_lc (own := [("kind", 9)]) (g := gName 9) rfl nd (pi_list (pv 0)) (blkOk_by (N := nUnder) (sc := defScope sUnder) (by decide +kernel)) (fun _ _ _ _ _ => (pg_name (i := 9) nd rfl (.inl rfl))) (fun _ _ _ _ _ => pts_one (pt_cmpR (show OpR _ _ (rIn K false) from op_in_seq) (pe_ix (show IxR _ (rIxT K) from ix_tup) (pv 9) pe_int (fun _ _ => rfl)) (pv 7) (by rfl))) (fun _ _ _ _ _ => (pe_ix (show IxR _ (rIxT K) from ix_tup) (pv 9) pe_int (fun _ _ => rfl)))) rfl)))))
      (pss_one (ps_ret (pv 1))))), ?_⟩
    intro p hp
    refine ⟨_, rfl, a, rfl, ⟨_, SqL.of (upd_keep hA hp)⟩, for_list (K := K) (a := a) (xs := as.map V.ref) (fun i σ H' => ∃ v2 v3 v4 v5 v6 v7 v8 v9, σ = [some (.ref a), some (.ref p), v2, v3, v4, v5, v6, v7, v8, v9] ∧ Same H H' ∧ UndAt H H' p (undAll ks (ks.take i) []))
      ⟨none, none, none, none, none, none, none, none, rfl, same_new hp, [], upd_same, .nil⟩ (fun i σ H' _ ⟨_, _, _, _, _, _, _, _, _, s2, _⟩ => SqL.of (s2 _ _ hA)) ?_ ?_⟩
    · rintro i y σ H2 hi ⟨v2, v3, v4, v5, v6, v7, v8, v9, rfl, s2, kvs, hp2, U⟩
      obtain ⟨q, hq, rfl⟩ := ref_at hi
      have hik : i < ks.length := by
        have := (List.getElem?_eq_some_iff.mp hq).1
        rw [R.1] at this
        exact this
      have hkd : ks[i]? = some ks[i] := List.getElem?_eq_getElem hik
      have hkO := FK.ok ks[i] (List.getElem_mem hik)
      generalize hkk : ks[i] = kd at hkd hkO
      have RW := (R.tk (tk_same s2)).2 i q kd hq hkd
      obtain ⟨b, hb1, hb2⟩ := RW
      refine ⟨q, _, rfl, SqT.of hb1, rfl, _, _, rfl, _, _, rfl, _, _, rfl, _, _, rfl, _, _, rfl, rfl, ?_⟩
      refine ⟨by show 0 ≤ sizeLine; decide, fun o0 ho0 => ?_⟩
      have hfl : ∀ f ∈ undAll ks (ks.take i) [], f.2.length ≤ ks.length := undAll_len ks _ [] fun f h => by simp at h
      have hin : ∀ x ∈ kd.bs, ∃ ys, look? (undAll ks (ks.take i) []) x = some ys := fun x hx => look?_some (by
        rw [undAll_names]
        exact FK.bas i kd hkd x hx)
      refine ⟨_, rfl, b, rfl, ⟨_, SqT.of (upd_keep hb2 ho0)⟩, for_tup (K := K) (a := b) (xs := kd.bs.map V.str) (fun j σ H' => ∃ o v8, σ = [some (.ref a), some (.ref p), some (.str kd.nm), some (.int kd.ed), some (.ref b), some (.str (ltr kd.lt)), some (.str kd.mrk), some (.ref o), v8, v9] ∧ H' o = some (.lst ((ownOf (undAll ks (ks.take i) []) (kd.bs.take j)).map V.str)) ∧ Same H2 H')
        ⟨o0, _, rfl, upd_same, same_new ho0⟩ (fun j σ H' _ ⟨_, _, _, _, s3⟩ => SqT.of (s3 _ _ hb2)) ?_ ?_⟩
      · rintro j y σ H3 hj ⟨o, w8, rfl, ho, s3⟩
        obtain ⟨x, hx, rfl⟩ := str_at hj
        obtain ⟨ys, hys⟩ := hin x (List.mem_of_getElem? hx)
        obtain ⟨u, hu1, hu2⟩ := und_look U hys
        have hlk : look (undAll ks (ks.take i) []) x = ys := by
          unfold look
          rw [hys]
          rfl
        have hyl : ys.length ≤ 24 := Nat.le_trans (hfl _ (look?_mem hys)) hk24
        have hjl : j < kd.bs.length := (List.getElem?_eq_some_iff.mp hx).1
        have hol : (ownOf (undAll ks (ks.take i) []) (kd.bs.take j)).length ≤ 150 := by
          have h1 := ownOf_len hfl (kd.bs.take j)
          have h2 : (kd.bs.take j).length ≤ 5 := by
            rw [List.length_take]
            have := hkO.bl
            omega
          have h3 : (kd.bs.take j).length * (ks.length + 1) ≤ 5 * 25 := Nat.mul_le_mul h2 (by omega)
          omega
        have hgt : DGet H3 p (.str x) (some (.ref u)) := by
          have q := DGet.k (k := kx x) (s3 _ _ hp2)
          rw [hu1] at q
          exact q
        refine ⟨_, rfl, _, rfl, _, rfl, p, _, rfl, hgt, ?_⟩
        refine ⟨o, u, _, _, rfl, rfl, ho, s3 _ _ hu2, ?_, fun l1 hl1 => ?_⟩
        · rw [List.length_map, List.length_map]
          exact Nat.le_of_lt (small1000 (by omega))
        refine ⟨_, rfl, by show 1 ≤ sizeLine; decide, fun l2 hl2 => ?_⟩
        refine ⟨l1, l2, _, _, rfl, rfl, upd_keep upd_same hl2, upd_same, ?_, fun l3 hl3 => ?_⟩
        · rw [List.length_append, List.length_map, List.length_map]
          show _ + 1 ≤ sizeLine
          exact Nat.le_of_lt (small1000 (by omega))
        refine ⟨l3, _, rfl, ?_, same_upd (same_upd (same_upd s3 hl1) hl2) hl3⟩
        rw [take_snoc hx, ownOf_snoc, hlk, List.map_append, List.map_append]
        exact upd_same
      · rintro σ H3 ⟨o, w8, rfl, ho, s3⟩
        rw [List.length_map, List.take_of_length_le (Nat.le_refl _)] at ho
        have hAH : H3 a = some (.lst (as.map V.ref)) := s3 _ _ (s2 _ _ hA)
        have R3 := R.tk (tk_same (s2.trans s3))
        refine ⟨_, rfl, a, rfl, ⟨_, SqL.of hAH⟩, fun D hD => lc_list (xs := as.map V.ref) (fun j H' => H' D = some (.lst ((((ks.take j).map Kd.nm).filter fun x => decide (x ∈ ownOf (undAll ks (ks.take i) []) kd.bs)).map V.str)) ∧ Same H3 H') ⟨upd_same, same_new hD⟩
          (fun j H' _ ⟨_, s4⟩ => SqL.of (s4 _ _ hAH)) ?_ ?_⟩
        · rintro j y H4 hj ⟨h4, s4⟩
          obtain ⟨q2, hq2, rfl⟩ := ref_at hj
          have hjk : j < ks.length := by
            have := (List.getElem?_eq_some_iff.mp hq2).1
            rw [R.1] at this
            exact this
          have hkj : ks[j]? = some ks[j] := List.getElem?_eq_getElem hjk
          generalize ks[j] = kj at hkj
          obtain ⟨b2, c1, c2⟩ := (R3.tk (tk_same s4)).2 j q2 kj hq2 hkj
          refine ⟨rfl, _, rfl, q2, _, _, _, rfl, rfl, SqT.of c1, rfl, _, rfl, o, _, rfl, .inl (SqL.of (s4 _ _ ho)), rfl, flat_strs _, _, rfl, ?_⟩
          rw [if_neg (by decide), in_strs]
          have hcl : (((ks.take j).map Kd.nm).filter fun x => decide (x ∈ ownOf (undAll ks (ks.take i) []) kd.bs)).length ≤ 24 := by
            have h1 := List.length_filter_le (fun x => decide (x ∈ ownOf (undAll ks (ks.take i) []) kd.bs)) ((ks.take j).map Kd.nm)
            rw [List.length_map, List.length_take] at h1
            omega
          refine ite2 (fun hm => ?_) (fun hm => ?_)
          · refine ⟨_, rfl, q2, _, _, _, rfl, rfl, SqT.of c1, rfl, _, h4, by rw [List.length_map]; exact small1000 (by omega), ?_, fun b o e => by rw [upd_ne (ne_of_none e hD)]; exact s4 b o e⟩
            rw [take_snoc hkj, List.map_append, List.filter_append]
            have : (([kj].map Kd.nm).filter fun x => decide (x ∈ ownOf (undAll ks (ks.take i) []) kd.bs)) = [kj.nm] := by
              exact filt1 hm
            rw [this, List.map_append]
            exact upd_same
          · refine ⟨?_, s4⟩
            rw [take_snoc hkj, List.map_append, List.filter_append]
            have : (([kj].map Kd.nm).filter fun x => decide (x ∈ ownOf (undAll ks (ks.take i) []) kd.bs)) = [] := by
              exact filt0 hm
            rw [this, List.append_nil]
            exact h4
        · rintro H4 ⟨h4, s4⟩
          rw [List.length_map, R.1, List.take_of_length_le (Nat.le_refl _)] at h4
          have hp4 := s4 _ _ (s3 _ _ hp2)
          have hnone : valV kvs (kx kd.nm) = none := und_none U (by
            rw [undAll_names]
            intro hm
            have hm' : kd.nm ∈ (ks.take i).map Kd.nm := hm
            obtain ⟨k2, hk2, e2⟩ := List.mem_map.mp hm'
            obtain ⟨y, hy, ey⟩ := List.mem_iff_getElem.mp hk2
            rw [List.getElem_take] at ey
            rw [List.length_take] at hy
            have hi2 : (ks.map Kd.nm)[i]? = some kd.nm := by rw [List.getElem?_map, hkd]; rfl
            have hy2 : (ks.map Kd.nm)[y]? = some kd.nm := by rw [List.getElem?_map, List.getElem?_eq_getElem (by omega), ey]; exact congrArg some e2
            have := nd_ix FK.nd hi2 hy2
            omega)
          have hpl : kvs.length ≤ 24 := by
            rw [pd_len U]
            have := congrArg List.length (undAll_names ks (ks.take i) [])
            rw [List.length_map] at this
            rw [this, List.length_append, List.length_map, List.length_map, List.length_take]
            simp only [List.length_nil]
            omega
          have hDp : D ≠ p := ne_of h4 hp4 (by intro z; cases z)
          have hD0 : H D = none := (s2.trans s3).free hD
          refine ⟨_, rfl, _, rfl, p, _, rfl, DPut.k (k := kx kd.nm) hp4 (small1000 (by omega)), ?_⟩
          refine ⟨_, _, _, _, _, _, _, _, rfl, fun b o e => ?_, _, upd_same, ?_⟩
          · rw [upd_ne (ne_of_none e hp)]
            exact s4 _ _ (s3 _ _ (s2 _ _ e))
          · rw [putK_new _ hnone, take_snoc hkd, undAll_snoc]
            refine pd_snoc (pd_mono (fun kv f r => r.mono fun q xs q0 e => ?_) U) ⟨rfl, D, rfl, hD0, ?_⟩
            · rw [upd_ne hDp]
              exact h4
            · rw [upd_ne (ne_of e hp2 (by intro z; cases z))]
              exact s4 _ _ (s3 _ _ e)
    · rintro σ H2 ⟨v2, v3, v4, v5, v6, v7, v8, v9, rfl, s2, U⟩
      rw [List.length_map, R.1, List.take_of_length_le (Nat.le_refl _)] at U
      exact ⟨_, rfl, k p H2 hp U s2⟩
end

def spUnderT : Sp := fun vs H Q _ => ∃ (a : Addr) (as : List Addr) (ks : List Kd), vs = [.ref a] ∧ H a = some (.tup (as.map V.ref)) ∧ RowsAt H as ks ∧ Frm ks ∧ ks.length ≤ 24 ∧
  ∀ (p : Addr) (H' : Hp), H p = none → UndAt H H' p (undAll ks ks []) → Same H H' → Q (.ref p) H'
section
variable {P : Program} {w : World} {K : PySem.W.Frag} {mg : Str → Option Value} {base : Heap}
theorem ok_underT {f : Addr} {fd : FuncData} (F : Fun K "_law_under" "_law_under" sUnder f fd) (T : TB mg) : FnOk P w K mg base CX0 1 f fd ["plan"] spUnderT := by
  refine F.ok scUnder (fun vs H Q E h => ?_) (fun cdv A outer s H vs Q E hr h => ?_)
  · obtain ⟨a, as, ks, rfl, _⟩ := h
    rfl
  · obtain ⟨a, as, ks, rfl, hA, R, FK, hk24, k⟩ := h
    have hu := hu_of hr
    have nd := scUnder.nd
    refine ⟨_, (pss_cons (ps_set (i := 1) nd rfl (.inl rfl) pe_dnewK)
      (pss_cons (ps_for PassesOwn.never rfl (pi_tup (pv 0)) (pg_tup (by rfl) (pgs_cons (pg_name (i := 2) nd rfl (.inl rfl)) (pgs_cons (pg_name (i := 3) nd rfl (.inl rfl)) (pgs_cons (pg_name (i := 4) nd rfl (.inl rfl)) (pgs_cons (pg_name (i := 5) nd rfl (.inl rfl)) (pgs_cons (pg_name (i := 6) nd rfl (.inl rfl)) pgs_nil)))))) (pss_cons (ps_set (i := 7) nd rfl (.inr rfl) (pe_lst pa_nil))
      (pss_cons (ps_for PassesOwn.never rfl (pi_tup (pv 4)) (pg_name (i := 8) nd rfl (.inl rfl)) (pss_one (ps_set (i := 7) nd rfl (.inr rfl) (pe_op op_cat (pe_op op_cat (pv 7) (pe_dget hu (pv 1) (pv 8) (fun _ _ => rfl))) (pe_lst (pa_cons (pv 8) pa_nil))))))
      (pss_one (ps_dput hu (pv 1) (pv 2) (pe_lc (own := [("kind", 9)]) (g := gName 9) rfl nd (pi_tup (pv 0)) (blkOk_by (N := nUnder) (sc := defScope sUnder) (by decide +kernel)) (fun _ _ _ _ _ => (pg_name (i := 9) nd rfl (.inl rfl))) (fun _ _ _ _ _ => pts_one (pt_cmpR (show OpR _ _ (rIn K false) from op_in_seq) (pe_ix (show IxR _ (rIxT K) from ix_tup) (pv 9) pe_int (fun _ _ => rfl)) (pv 7) (by rfl))) (fun _ _ _ _ _ => (pe_ix (show IxR _ (rIxT K) from ix_tup) (pv 9) pe_int (fun _ _ => rfl)))) rfl)))))
      (pss_one (ps_ret (pv 1))))), ?_⟩
    intro p hp
    refine ⟨_, rfl, a, rfl, ⟨_, SqT.of (upd_keep hA hp)⟩, for_tup (K := K) (a := a) (xs := as.map V.ref) (fun i σ H' => ∃ v2 v3 v4 v5 v6 v7 v8 v9, σ = [some (.ref a), some (.ref p), v2, v3, v4, v5, v6, v7, v8, v9] ∧ Same H H' ∧ UndAt H H' p (undAll ks (ks.take i) []))
      ⟨none, none, none, none, none, none, none, none, rfl, same_new hp, [], upd_same, .nil⟩ (fun i σ H' _ ⟨_, _, _, _, _, _, _, _, _, s2, _⟩ => SqT.of (s2 _ _ hA)) ?_ ?_⟩
    · rintro i y σ H2 hi ⟨v2, v3, v4, v5, v6, v7, v8, v9, rfl, s2, kvs, hp2, U⟩
      obtain ⟨q, hq, rfl⟩ := ref_at hi
      have hik : i < ks.length := by
        have := (List.getElem?_eq_some_iff.mp hq).1
        rw [R.1] at this
        exact this
      have hkd : ks[i]? = some ks[i] := List.getElem?_eq_getElem hik
      have hkO := FK.ok ks[i] (List.getElem_mem hik)
      generalize hkk : ks[i] = kd at hkd hkO
      have RW := (R.tk (tk_same s2)).2 i q kd hq hkd
      obtain ⟨b, hb1, hb2⟩ := RW
      refine ⟨q, _, rfl, SqT.of hb1, rfl, _, _, rfl, _, _, rfl, _, _, rfl, _, _, rfl, _, _, rfl, rfl, ?_⟩
      refine ⟨by show 0 ≤ sizeLine; decide, fun o0 ho0 => ?_⟩
      have hfl : ∀ f ∈ undAll ks (ks.take i) [], f.2.length ≤ ks.length := undAll_len ks _ [] fun f h => by simp at h
      have hin : ∀ x ∈ kd.bs, ∃ ys, look? (undAll ks (ks.take i) []) x = some ys := fun x hx => look?_some (by
        rw [undAll_names]
        exact FK.bas i kd hkd x hx)
      refine ⟨_, rfl, b, rfl, ⟨_, SqT.of (upd_keep hb2 ho0)⟩, for_tup (K := K) (a := b) (xs := kd.bs.map V.str) (fun j σ H' => ∃ o v8, σ = [some (.ref a), some (.ref p), some (.str kd.nm), some (.int kd.ed), some (.ref b), some (.str (ltr kd.lt)), some (.str kd.mrk), some (.ref o), v8, v9] ∧ H' o = some (.lst ((ownOf (undAll ks (ks.take i) []) (kd.bs.take j)).map V.str)) ∧ Same H2 H')
        ⟨o0, _, rfl, upd_same, same_new ho0⟩ (fun j σ H' _ ⟨_, _, _, _, s3⟩ => SqT.of (s3 _ _ hb2)) ?_ ?_⟩
      · rintro j y σ H3 hj ⟨o, w8, rfl, ho, s3⟩
        obtain ⟨x, hx, rfl⟩ := str_at hj
        obtain ⟨ys, hys⟩ := hin x (List.mem_of_getElem? hx)
        obtain ⟨u, hu1, hu2⟩ := und_look U hys
        have hlk : look (undAll ks (ks.take i) []) x = ys := by
          unfold look
          rw [hys]
          rfl
        have hyl : ys.length ≤ 24 := Nat.le_trans (hfl _ (look?_mem hys)) hk24
        have hjl : j < kd.bs.length := (List.getElem?_eq_some_iff.mp hx).1
        have hol : (ownOf (undAll ks (ks.take i) []) (kd.bs.take j)).length ≤ 150 := by
          have h1 := ownOf_len hfl (kd.bs.take j)
          have h2 : (kd.bs.take j).length ≤ 5 := by
            rw [List.length_take]
            have := hkO.bl
            omega
          have h3 : (kd.bs.take j).length * (ks.length + 1) ≤ 5 * 25 := Nat.mul_le_mul h2 (by omega)
          omega
        have hgt : DGet H3 p (.str x) (some (.ref u)) := by
          have q := DGet.k (k := kx x) (s3 _ _ hp2)
          rw [hu1] at q
          exact q
        refine ⟨_, rfl, _, rfl, _, rfl, p, _, rfl, hgt, ?_⟩
        refine ⟨o, u, _, _, rfl, rfl, ho, s3 _ _ hu2, ?_, fun l1 hl1 => ?_⟩
        · rw [List.length_map, List.length_map]
          exact Nat.le_of_lt (small1000 (by omega))
        refine ⟨_, rfl, by show 1 ≤ sizeLine; decide, fun l2 hl2 => ?_⟩
        refine ⟨l1, l2, _, _, rfl, rfl, upd_keep upd_same hl2, upd_same, ?_, fun l3 hl3 => ?_⟩
        · rw [List.length_append, List.length_map, List.length_map]
          show _ + 1 ≤ sizeLine
          exact Nat.le_of_lt (small1000 (by omega))
        refine ⟨l3, _, rfl, ?_, same_upd (same_upd (same_upd s3 hl1) hl2) hl3⟩
        rw [take_snoc hx, ownOf_snoc, hlk, List.map_append, List.map_append]
        exact upd_same
      · rintro σ H3 ⟨o, w8, rfl, ho, s3⟩
        rw [List.length_map, List.take_of_length_le (Nat.le_refl _)] at ho
        have hAH : H3 a = some (.tup (as.map V.ref)) := s3 _ _ (s2 _ _ hA)
        have R3 := R.tk (tk_same (s2.trans s3))
        refine ⟨_, rfl, a, rfl, ⟨_, SqT.of hAH⟩, fun D hD => lc_tup (xs := as.map V.ref) (fun j H' => H' D = some (.lst ((((ks.take j).map Kd.nm).filter fun x => decide (x ∈ ownOf (undAll ks (ks.take i) []) kd.bs)).map V.str)) ∧ Same H3 H') ⟨upd_same, same_new hD⟩
          (fun j H' _ ⟨_, s4⟩ => SqT.of (s4 _ _ hAH)) ?_ ?_⟩
        · rintro j y H4 hj ⟨h4, s4⟩
          obtain ⟨q2, hq2, rfl⟩ := ref_at hj
          have hjk : j < ks.length := by
            have := (List.getElem?_eq_some_iff.mp hq2).1
            rw [R.1] at this
            exact this
          have hkj : ks[j]? = some ks[j] := List.getElem?_eq_getElem hjk
          generalize ks[j] = kj at hkj
          obtain ⟨b2, c1, c2⟩ := (R3.tk (tk_same s4)).2 j q2 kj hq2 hkj
          refine ⟨rfl, _, rfl, q2, _, _, _, rfl, rfl, SqT.of c1, rfl, _, rfl, o, _, rfl, .inl (SqL.of (s4 _ _ ho)), rfl, flat_strs _, _, rfl, ?_⟩
          rw [if_neg (by decide), in_strs]
          have hcl : (((ks.take j).map Kd.nm).filter fun x => decide (x ∈ ownOf (undAll ks (ks.take i) []) kd.bs)).length ≤ 24 := by
            have h1 := List.length_filter_le (fun x => decide (x ∈ ownOf (undAll ks (ks.take i) []) kd.bs)) ((ks.take j).map Kd.nm)
            rw [List.length_map, List.length_take] at h1
            omega
          refine ite2 (fun hm => ?_) (fun hm => ?_)
          · refine ⟨_, rfl, q2, _, _, _, rfl, rfl, SqT.of c1, rfl, _, h4, by rw [List.length_map]; exact small1000 (by omega), ?_, fun b o e => by rw [upd_ne (ne_of_none e hD)]; exact s4 b o e⟩
            rw [take_snoc hkj, List.map_append, List.filter_append]
            have : (([kj].map Kd.nm).filter fun x => decide (x ∈ ownOf (undAll ks (ks.take i) []) kd.bs)) = [kj.nm] := by
              exact filt1 hm
            rw [this, List.map_append]
            exact upd_same
          · refine ⟨?_, s4⟩
            rw [take_snoc hkj, List.map_append, List.filter_append]
            have : (([kj].map Kd.nm).filter fun x => decide (x ∈ ownOf (undAll ks (ks.take i) []) kd.bs)) = [] := by
              exact filt0 hm
            rw [this, List.append_nil]
            exact h4
        · rintro H4 ⟨h4, s4⟩
          rw [List.length_map, R.1, List.take_of_length_le (Nat.le_refl _)] at h4
          have hp4 := s4 _ _ (s3 _ _ hp2)
          have hnone : valV kvs (kx kd.nm) = none := und_none U (by
            rw [undAll_names]
            intro hm
            have hm' : kd.nm ∈ (ks.take i).map Kd.nm := hm
            obtain ⟨k2, hk2, e2⟩ := List.mem_map.mp hm'
            obtain ⟨y, hy, ey⟩ := List.mem_iff_getElem.mp hk2
            rw [List.getElem_take] at ey
            rw [List.length_take] at hy
            have hi2 : (ks.map Kd.nm)[i]? = some kd.nm := by rw [List.getElem?_map, hkd]; rfl
            have hy2 : (ks.map Kd.nm)[y]? = some kd.nm := by rw [List.getElem?_map, List.getElem?_eq_getElem (by omega), ey]; exact congrArg some e2
            have := nd_ix FK.nd hi2 hy2
            omega)
          have hpl : kvs.length ≤ 24 := by
            rw [pd_len U]
            have := congrArg List.length (undAll_names ks (ks.take i) [])
            rw [List.length_map] at this
            rw [this, List.length_append, List.length_map, List.length_map, List.length_take]
            simp only [List.length_nil]
            omega
          have hDp : D ≠ p := ne_of h4 hp4 (by intro z; cases z)
          have hD0 : H D = none := (s2.trans s3).free hD
          refine ⟨_, rfl, _, rfl, p, _, rfl, DPut.k (k := kx kd.nm) hp4 (small1000 (by omega)), ?_⟩
          refine ⟨_, _, _, _, _, _, _, _, rfl, fun b o e => ?_, _, upd_same, ?_⟩
          · rw [upd_ne (ne_of_none e hp)]
            exact s4 _ _ (s3 _ _ (s2 _ _ e))
          · rw [putK_new _ hnone, take_snoc hkd, undAll_snoc]
            refine pd_snoc (pd_mono (fun kv f r => r.mono fun q xs q0 e => ?_) U) ⟨rfl, D, rfl, hD0, ?_⟩
            · rw [upd_ne hDp]
              exact h4
            · rw [upd_ne (ne_of e hp2 (by intro z; cases z))]
              exact s4 _ _ (s3 _ _ e)
    · rintro σ H2 ⟨v2, v3, v4, v5, v6, v7, v8, v9, rfl, s2, U⟩
      rw [List.length_map, R.1, List.take_of_length_le (Nat.le_refl _)] at U
      exact ⟨_, rfl, k p H2 hp U s2⟩
end
end Cp

set_option Elab.async false
set_option linter.all false
set_option maxRecDepth 100000
namespace Cp
open PySem L2 PyProof.Rows
/-! ### list(a text) -/
def sgs (x : Str) : List Str := x.cps.toList.map fun c => ⟨#[c]⟩
theorem call_list_txt {X : Cx} (hc : X.calm = true) : CallR X (.type "list") (fun xs H Q => ∃ x : Str, xs = [.str x] ∧ x.cps.size ≤ sizeLine ∧ ∀ l, H l = none → Q (.ref l) (upd H l (.lst ((sgs x).map V.str)))) := by
  intro pins s σ H xs us Q I r h
  obtain ⟨x, rfl, hz, q⟩ := h
  obtain ⟨u, rfl, t, rfl⟩ := vals1 r
  refine PySem.call_list_str (I.ok.hd hc) x t (fun h' tk acc c' hk e hi => ?_) hz
  refine ⟨.ref s.heap.objs.size, upd H s.heap.objs.size (.lst ((sgs x).map V.str)), I.laid hk (Nat.le_refl _) ⟨?_, acc.toList, c', ?_, ?_⟩, rfl, q _ (I.hok.fresh (Nat.le_refl _))⟩
  · unfold sgs
    rw [List.length_map, List.length_map, Array.length_toList]
    exact hz
  · refine vals_of_idx _ _ ?_ fun j u hj => ?_
    · unfold sgs
      rw [List.length_map, List.length_map, Array.length_toList, Array.length_toList]
      exact hi.1
    · obtain ⟨c, t', hc', rfl⟩ := hi.2 j u (by rw [← Array.getElem?_toList]; exact hj)
      refine ⟨.str ⟨#[c]⟩, ?_, ⟨_, rfl⟩⟩
      unfold sgs
      rw [List.getElem?_map, List.getElem?_map, Array.getElem?_toList, hc']
      rfl
  · rw [Array.toArray_toList]
    exact e
end Cp

set_option Elab.async false
set_option linter.all false
set_option maxRecDepth 100000
namespace Cp
open PySem L2
/-! ### the word of some letters -/
def wpart (xs : List Str) (n : Nat) : List Str := ((List.range n).filter fun k => decide (ltr k ∈ xs)).map ltr
def wordOf (xs : List Str) : Str := Txt.join "" (wpart xs 26)
def wcode (xs : List Str) : List Nat := ((List.range 26).filter fun k => decide (ltr k ∈ xs)).map fun k => 97 + k
theorem joinL_nil : ∀ l : List (List Nat), TL.joinL [] l = l.flatten
  | [] => rfl
  | [p] => by simp [TL.joinL]
  | p :: q :: r => by
    show p ++ ([] ++ TL.joinL [] (q :: r)) = _
    rw [joinL_nil (q :: r)]
    simp
theorem wordOf_codes (xs : List Str) : (wordOf xs).cps.toList = wcode xs := by
  unfold wordOf
  rw [TL.join_eq]
  show TL.tl (Str.join "" (wpart xs 26)) = _
  rw [TL.tl_join]
  have e : TL.tl ("" : Str) = [] := by decide +kernel
  rw [e, joinL_nil]
  unfold wpart wcode
  generalize ((List.range 26).filter fun k => decide (ltr k ∈ xs)) = l
  induction l with
  | nil => rfl
  | cons a r ih =>
    simp only [List.map_cons, List.flatten_cons, ih]
    rfl
theorem asc_of : ∀ {l : List Nat}, l.Pairwise (· < ·) → asc l = true
  | [], _ => rfl
  | [_], _ => rfl
  | a :: b :: r, h => by
    unfold asc
    rw [asc_of (List.pairwise_cons.mp h).2, decide_eq_true ((List.pairwise_cons.mp h).1 b List.mem_cons_self)]
    rfl
theorem wordOf_okM (xs : List Str) : okM (wordOf xs) = true := by
  unfold okM okS
  rw [wordOf_codes]
  have h1 : (wcode xs).all okC = true := by
    rw [List.all_eq_true]
    intro c hc
    obtain ⟨k, hk, rfl⟩ := List.mem_map.mp hc
    have := List.mem_range.mp (List.mem_filter.mp hk).1
    unfold okC
    simp
    omega
  have h2 : (wcode xs).Pairwise (· < ·) := by
    unfold wcode
    refine List.pairwise_map.mpr ((List.pairwise_lt_range.filter _).imp fun h => by omega)
  rw [h1, asc_of h2]
  rfl
theorem wordOf_len (xs : List Str) : (wordOf xs).cps.size ≤ 26 := by
  have := congrArg List.length (wordOf_codes xs)
  rw [Array.length_toList] at this
  rw [this]
  unfold wcode
  rw [List.length_map]
  have h := List.length_filter_le (fun k => decide (ltr k ∈ xs)) (List.range 26)
  rw [List.length_range] at h
  exact h
def spWord : Sp := fun vs H Q _ => ∃ (a : Addr) (xs : List Str), vs = [.ref a] ∧ H a = some (.lst (xs.map V.str)) ∧ ∀ H' : Hp, Same H H' → Q (.str (wordOf xs)) H'
abbrev nWord : List Str := ["signs", "k"]
section
variable {P : Program} {w : World} {K : PySem.W.Frag} {mg : Str → Option Value} {base : Heap}
theorem scWord : FnScope nWord ["signs"] (defScope sWord) := ⟨rfl, rfl, rfl, by decide +kernel, rfl, by decide +kernel, by decide +kernel⟩
theorem ok_word {f fS : Addr} {fd fdS : FuncData} (F : Fun K "_law_word" "_law_word" sWord f fd) (T : TB mg) (FS : Fun K "_law_sign" "_law_sign" sSign fS fdS) (bS : Binds K fdS ["at"] []) (mS : mg "_law_sign" = some (.ref fS)) :
    FnOk P w K mg base CX0 2 f fd ["signs"] spWord := by
  have GS : FnOk P w K mg base CX0 1 fS fdS ["at"] spSign := ok_sign FS T
  refine F.ok scWord (fun vs H Q E h => ?_) (fun cdv A outer s H vs Q E hr h => ?_)
  · obtain ⟨a, xs, rfl, _⟩ := h
    rfl
  · obtain ⟨a, xs, rfl, hA, k⟩ := h
    have nd := scWord.nd
    refine ⟨_, (pss_one (ps_ret (pe_join pe_str (pe_lc (own := [("k", 1)]) (g := gName 1) rfl nd (pi_range1 rfl T.range (pa_cons pe_int pa_nil)) (blkOk_by (N := nWord) (sc := defScope sWord) (by decide +kernel)) (fun _ _ _ _ _ => (pg_name (i := 1) nd rfl (.inl rfl))) (fun _ _ _ _ _ => pts_one (pt_cmpR (show OpR _ _ (rIn K false) from op_in_seq) (pe_call GS hr (by rfl) mS FS.kp bS .nil pass0 (pa_cons (pv 1) pa_nil)) (pv 0) (by rfl))) (fun _ _ _ _ _ => (pe_call GS hr (by rfl) mS FS.kp bS .nil pass0 (pa_cons (pv 1) pa_nil))))))), ?_⟩
    refine ⟨⟨_, rfl⟩, _, rfl, by decide, by decide, fun D hD => lc_range (n := 26) (lo := 0) (fun i H' => H' D = some (.lst ((wpart xs i).map V.str)) ∧ Same H H') ⟨upd_same, same_new hD⟩ ?_ ?_⟩
    · rintro i H2 hi ⟨h1, s2⟩
      have e26 : (((0 : Int) + (i : Int)) % 26).toNat = i := by omega
      have hl : (wpart xs i).length ≤ 26 := by
        unfold wpart
        rw [List.length_map]
        have h := List.length_filter_le (fun k => decide (ltr k ∈ xs)) (List.range i)
        rw [List.length_range] at h
        omega
      refine ⟨rfl, _, rfl, _, rfl, ?_⟩
      rw [e26]
      refine ⟨_, rfl, a, _, rfl, .inl (SqL.of (s2 _ _ hA)), rfl, flat_strs _, _, rfl, ?_⟩
      rw [if_neg (by decide), in_strs]
      refine ite2 (fun hm => ?_) (fun hm => ?_)
      · refine ⟨_, rfl, _, rfl, ?_⟩
        rw [e26]
        refine ⟨_, h1, by rw [List.length_map]; exact small1000 (by omega), ?_, fun b o e => by rw [upd_ne (ne_of_none e hD)]; exact s2 b o e⟩
        have : wpart xs (i + 1) = wpart xs i ++ [ltr i] := by
          unfold wpart
          rw [List.range_succ, List.filter_append, filt1 (p := fun k => decide (ltr k ∈ xs)) hm, List.map_append]
          rfl
        rw [this, List.map_append]
        exact upd_same
      · have : wpart xs (i + 1) = wpart xs i := by
          unfold wpart
          rw [List.range_succ, List.filter_append, filt0 (p := fun k => decide (ltr k ∈ xs)) hm, List.append_nil]
        rw [this]
        exact ⟨h1, s2⟩
    · rintro H2 ⟨h1, s2⟩
      refine ⟨_, D, wpart xs 26, rfl, rfl, .inl (SqL.of h1), ?_, k H2 s2⟩
      have hl : (wpart xs 26).length ≤ 26 := by
        unfold wpart
        rw [List.length_map]
        have h := List.length_filter_le (fun k => decide (ltr k ∈ xs)) (List.range 26)
        rw [List.length_range] at h
        exact h
      have hs : ∀ l : List Nat, ((l.map ltr).map (·.length)).sum = l.length := by
        intro l
        induction l with
        | nil => rfl
        | cons a r ih =>
          simp only [List.map_cons, List.sum_cons, ih, ltr_len, List.length_cons]
          omega
      have e0 : (("" : Str)).length = 0 := by decide +kernel
      rw [e0]
      unfold wpart at hl ⊢
      rw [hs]
      rw [List.length_map] at hl
      omega
end
end Cp

set_option Elab.async false
set_option linter.all false
set_option maxRecDepth 100000
namespace Cp
open PySem L2
theorem undAll_app (all : List Kd) : ∀ (a b : List Kd) (fs : List (Str × List Str)), undAll all (a ++ b) fs = undAll all b (undAll all a fs)
  | [], b, fs => rfl
  | k :: r, b, fs => by
    exact undAll_app all r b (fs ++ [(k.nm, undOf all fs k)])
theorem undAll_pre (all : List Kd) : ∀ (b : List Kd) (fs : List (Str × List Str)), ∃ r, undAll all b fs = fs ++ r
  | [], fs => ⟨[], by simp [undAll]⟩
  | k :: r, fs => by
    unfold undAll
    obtain ⟨q, e⟩ := undAll_pre all r (fs ++ [(k.nm, undOf all fs k)])
    exact ⟨(k.nm, undOf all fs k) :: q, by rw [e, List.append_assoc]; rfl⟩
theorem look?_app_not {fs gs : List (Str × List Str)} {x : Str} (h : ¬ x ∈ fs.map (·.1)) : look? (fs ++ gs) x = look? gs x := by
  unfold look?
  rw [List.find?_append]
  have : fs.find? (fun f => decide (f.1 = x)) = none := List.find?_eq_none.mpr fun f hf => by
    intro q
    exact h (List.mem_map.mpr ⟨f, hf, of_decide_eq_true q⟩)
  rw [this]
  rfl
theorem nm_not {ks : List Kd} (h : (ks.map Kd.nm).Nodup) {i : Nat} {k : Kd} (hk : ks[i]? = some k) : ¬ k.nm ∈ (ks.take i).map Kd.nm := by
  intro hm
  obtain ⟨k2, hk2, e2⟩ := List.mem_map.mp hm
  obtain ⟨y, hy, ey⟩ := List.mem_iff_getElem.mp hk2
  rw [List.getElem_take] at ey
  rw [List.length_take] at hy
  have hi2 : (ks.map Kd.nm)[i]? = some k.nm := by rw [List.getElem?_map, hk]; rfl
  have hy2 : (ks.map Kd.nm)[y]? = some k.nm := by rw [List.getElem?_map, List.getElem?_eq_getElem (by omega), ey]; exact congrArg some e2
  have := nd_ix h hi2 hy2
  omega
theorem take_cut {ks : List Kd} {i : Nat} {k : Kd} (hk : ks[i]? = some k) : ks = ks.take i ++ (k :: ks.drop (i + 1)) := by
  have hl := (List.getElem?_eq_some_iff.mp hk).1
  have e := (List.getElem?_eq_some_iff.mp hk).2
  rw [← e, List.getElem_cons_drop, List.take_append_drop]
/-- what is told of the i-th -/
theorem look_full {ks : List Kd} (h : (ks.map Kd.nm).Nodup) {i : Nat} {k : Kd} (hk : ks[i]? = some k) : look? (undAll ks ks []) k.nm = some (undOf ks (undAll ks (ks.take i) []) k) := by
  have e := take_cut hk
  have e1 : undAll ks ks [] = undAll ks (ks.take i ++ (k :: ks.drop (i + 1))) [] := congrArg (fun z => undAll ks z []) e
  rw [e1, undAll_app]
  have e2 : undAll ks (k :: ks.drop (i + 1)) (undAll ks (ks.take i) []) = undAll ks (ks.drop (i + 1)) (undAll ks (ks.take i) [] ++ [(k.nm, undOf ks (undAll ks (ks.take i) []) k)]) := rfl
  obtain ⟨r, e3⟩ := undAll_pre ks (ks.drop (i + 1)) (undAll ks (ks.take i) [] ++ [(k.nm, undOf ks (undAll ks (ks.take i) []) k)])
  rw [e2, e3, List.append_assoc, look?_app_not (by rw [undAll_names]; exact nm_not h hk)]
  unfold look?
  rw [List.singleton_append, List.find?_cons_of_pos (by exact decide_eq_true rfl)]
  rfl
/-- only what stands ahead is beneath -/
theorem own_sub {fs : List (Str × List Str)} {S : List Str} {bs : List Str} (h1 : ∀ b ∈ bs, b ∈ S) (h2 : ∀ f ∈ fs, ∀ x ∈ f.2, x ∈ S) {x : Str} (hx : x ∈ ownOf fs bs) : x ∈ S := by
  unfold ownOf at hx
  obtain ⟨b, hb, hm⟩ := List.mem_flatMap.mp hx
  rcases List.mem_append.mp hm with hm | hm
  · unfold look at hm
    cases e : look? fs b with
    | none =>
      rw [e] at hm
      simp at hm
    | some ys =>
      rw [e] at hm
      exact h2 _ (look?_mem e) x hm
  · rw [List.mem_singleton.mp hm]
    exact h1 b hb
theorem und_sub {ks : List Kd} (F : Frm ks) : ∀ i, i ≤ ks.length → ∀ f ∈ undAll ks (ks.take i) [], ∀ x ∈ f.2, x ∈ (ks.take i).map Kd.nm
  | 0, _, f, hf => by
    rw [List.take_zero] at hf
    simp [undAll] at hf
  | i + 1, hi, f, hf => by
    have hk : ks[i]? = some ks[i] := List.getElem?_eq_getElem (by omega)
    rw [take_snoc hk, undAll_snoc] at hf
    intro x hx
    rw [take_snoc hk, List.map_append]
    refine List.mem_append_left _ ?_
    rcases List.mem_append.mp hf with hf | hf
    · exact und_sub F i (by omega) f hf x hx
    · rw [List.mem_singleton.mp hf] at hx
      have hx2 : x ∈ ownOf (undAll ks (ks.take i) []) ks[i].bs := of_decide_eq_true (List.mem_filter.mp hx).2
      exact own_sub (F.bas i ks[i] hk) (und_sub F i (by omega)) hx2
theorem undOf_sub {ks : List Kd} (F : Frm ks) {i : Nat} {k : Kd} (hk : ks[i]? = some k) {x : Str} (hx : x ∈ undOf ks (undAll ks (ks.take i) []) k) : x ∈ (ks.take i).map Kd.nm := by
  have hx2 : x ∈ ownOf (undAll ks (ks.take i) []) k.bs := of_decide_eq_true (List.mem_filter.mp hx).2
  exact own_sub (F.bas i k hk) (und_sub F i (Nat.le_of_lt (List.getElem?_eq_some_iff.mp hk).1)) hx2
/-! ### marks -/
def mlook? (ms : List (Str × Str)) (x : Str) : Option Str := (ms.find? fun f => decide (f.1 = x)).map (·.2)
def mlook (ms : List (Str × Str)) (x : Str) : Str := (mlook? ms x).getD Str.empty
def msK (ms : List (Str × Str)) : List (Key × V) := ms.map fun f => (kx f.1, V.str f.2)
theorem msK_look (ms : List (Str × Str)) (x : Str) : valV (msK ms) (kx x) = (mlook? ms x).map V.str := by
  induction ms with
  | nil => rfl
  | cons f r ih =>
    unfold msK at *
    rw [List.map_cons]
    by_cases e : f.1 = x
    · rw [valV_pos (p := (kx f.1, V.str f.2)) (by rw [e])]
      unfold mlook?
      rw [List.find?_cons_of_pos (by exact decide_eq_true e)]
      rfl
    · rw [valV_neg (p := (kx f.1, V.str f.2)) (kne e), ih]
      unfold mlook?
      rw [List.find?_cons_of_neg (by simp [e])]
theorem mlook?_mem {fs : List (Str × Str)} {x : Str} {ys : Str} (h : mlook? fs x = some ys) : (x, ys) ∈ fs := by
  unfold mlook? at h
  cases e : fs.find? fun f => decide (f.1 = x) with
  | none =>
    rw [e] at h
    cases h
  | some f =>
    rw [e] at h
    have h1 := List.find?_some e
    have h3 : f.1 = x := of_decide_eq_true h1
    have h4 : f.2 = ys := Option.some.inj h
    rw [← h3, ← h4]
    exact List.mem_of_find?_eq_some e
theorem mlook?_some {fs : List (Str × Str)} {x : Str} (h : x ∈ fs.map (·.1)) : ∃ ys, mlook? fs x = some ys := by
  unfold mlook?
  cases e : fs.find? fun f => decide (f.1 = x) with
  | none =>
    obtain ⟨f, hf, e2⟩ := List.mem_map.mp h
    have := List.find?_eq_none.mp e f hf
    simp [e2] at this
  | some f => exact ⟨f.2, rfl⟩
theorem mlook?_none {fs : List (Str × Str)} {x : Str} (h : ¬ x ∈ fs.map (·.1)) : mlook? fs x = none := by
  unfold mlook?
  rw [List.find?_eq_none.mpr fun f hf q => h (List.mem_map.mpr ⟨f, hf, of_decide_eq_true q⟩)]
  rfl
def mkLet (way : Int) (und : List Str) (ed : Int) (ms : List (Str × Str)) (k : Kd) : List Str :=
  if k.nm ∈ und then sgs (mlook ms k.nm) ++ (if way = 3 ∨ k.ed < ed then [ltr k.lt] else []) else []
def ownM (way : Int) (und : List Str) (ed : Int) (ms : List (Str × Str)) (ks : List Kd) : List Str := ks.flatMap (mkLet way und ed ms)
theorem ownM_snoc (way : Int) (und : List Str) (ed : Int) (ms : List (Str × Str)) (ks : List Kd) (k : Kd) : ownM way und ed ms (ks ++ [k]) = ownM way und ed ms ks ++ mkLet way und ed ms k := by
  unfold ownM
  rw [List.flatMap_append]
  simp
theorem sgs_len (x : Str) : (sgs x).length = x.cps.size := by
  unfold sgs
  rw [List.length_map, Array.length_toList]
theorem mkLet_len {way : Int} {und : List Str} {ed : Int} {ms : List (Str × Str)} {k : Kd} (h : ∀ f ∈ ms, f.2.cps.size ≤ 26) : (mkLet way und ed ms k).length ≤ 27 := by
  have hl : (mlook ms k.nm).cps.size ≤ 26 := by
    unfold mlook
    cases e : mlook? ms k.nm with
    | none => exact Nat.zero_le _
    | some ys => exact h _ (mlook?_mem e)
  unfold mkLet
  split
  · rw [List.length_append, sgs_len]
    split
    · show _ + 1 ≤ 27
      omega
    · show _ + 0 ≤ 27
      omega
  · exact Nat.zero_le _
theorem ownM_len {way : Int} {und : List Str} {ed : Int} {ms : List (Str × Str)} (h : ∀ f ∈ ms, f.2.cps.size ≤ 26) : ∀ ks : List Kd, (ownM way und ed ms ks).length ≤ ks.length * 27
  | [] => Nat.zero_le _
  | k :: r => by
    have ih := ownM_len (way := way) (und := und) (ed := ed) h r
    have h1 := mkLet_len (way := way) (und := und) (ed := ed) (k := k) h
    unfold ownM at *
    rw [List.flatMap_cons, List.length_append, List.length_cons, Nat.add_mul]
    omega
structure MS (way : Int) (ks : List Kd) (ms : List (Str × Str)) : Prop where
  nm : ms.map (·.1) = ks.map Kd.nm
  ok : ∀ f ∈ ms, okM f.2 = true ∧ f.2.cps.size ≤ 26
  ex : way ≠ 0 → ∀ (i : Nat) (k : Kd), ks[i]? = some k → ms[i]? = some (k.nm, wordOf (ownM way (undOf ks (undAll ks (ks.take i) []) k) k.ed (ms.take i) ks))
end Cp

set_option Elab.async false
set_option linter.all false
set_option maxRecDepth 100000
namespace Cp
open PySem L2
def spMarks : Sp := fun vs H Q _ => ∃ (d g a : Addr) (way : Int) (as : List Addr) (ks : List Kd), vs = [.ref d, .ref a, .int way] ∧ Drw H d g ∧ H a = some (.lst (as.map V.ref)) ∧ a ≠ g ∧ RowsAt H as ks ∧ Frm ks ∧ 1 ≤ ks.length ∧ ks.length ≤ 24 ∧
  ∀ (p : Addr) (ms : List (Str × Str)) (H' : Hp), MS way ks ms → H p = none → H' p = some (.dK (msK ms)) → Ev d g H H' → Q (.ref p) H'
abbrev nMarks : List Str := ["draw", "rows", "way", "under", "marks", "name", "ed", "bases", "letter", "mark", "own", "kind", "turn"]
section
variable {P : Program} {w : World} {K : PySem.W.Frag} {mg : Str → Option Value} {base : Heap}
theorem scMarks : FnScope nMarks ["draw", "rows", "way"] (defScope sMarks) := ⟨rfl, rfl, rfl, by decide +kernel, rfl, by decide +kernel, by decide +kernel⟩
theorem ok_marks {f fN fU fW fS : Addr} {fd fdN fdU fdW fdS : FuncData} (F : Fun K "_law_marks" "_law_marks" sMarks f fd) (T : TB mg) (FN : Fun K "_law_next" "_law_next" sNext fN fdN) (bN : Binds K fdN ["draw", "below"] []) (mN : mg "_law_next" = some (.ref fN))
    (FU : Fun K "_law_under" "_law_under" sUnder fU fdU) (bU : Binds K fdU ["plan"] []) (mU : mg "_law_under" = some (.ref fU)) (FW : Fun K "_law_word" "_law_word" sWord fW fdW) (bW : Binds K fdW ["signs"] []) (mW : mg "_law_word" = some (.ref fW))
    (FS : Fun K "_law_sign" "_law_sign" sSign fS fdS) (bS : Binds K fdS ["at"] []) (mS : mg "_law_sign" = some (.ref fS)) :
    FnOk P w K mg base CX0 3 f fd ["draw", "rows", "way"] spMarks := by
  have GN : FnOk P w K mg base CX0 1 fN fdN ["draw", "below"] spNext := ok_next FN T
  have GU : FnOk P w K mg base CX0 1 fU fdU ["plan"] spUnderL := ok_underL FU T
  have GW : FnOk P w K mg base CX0 2 fW fdW ["signs"] spWord := ok_word FW T FS bS mS
  refine F.ok scMarks (fun vs H Q E h => ?_) (fun cdv A outer s H vs Q E hr h => ?_)
  · obtain ⟨d, g, a, way, as, ks, rfl, _⟩ := h
    rfl
  · skip
    obtain ⟨d, g, a, way, as, ks, rfl, D, hA, hag, R, FK, hk1, hk24, k⟩ := h
    have hu := hu_of hr
    have hr1 : Room 1 _ := hr.mono (by decide)
    have nd := scMarks.nd
    have had : a ≠ d := by
      obtain ⟨m, t, gs, h1, _⟩ := D
      exact ne_of hA h1 (by intro z; cases z)
    refine ⟨_, (pss_cons (ps_par (i := 3) (j := 4) (by rfl) nd rfl rfl (by decide) rfl rfl (pa_cons (pe_call GU hr1 (by rfl) mU FU.kp bU .nil pass0 (pa_cons (pv 1) pa_nil)) (pa_cons pe_dnewK pa_nil)) (by rfl))
      (pss_cons (ps_for PassesOwn.never rfl (pi_list (pv 1)) (pg_tup (by rfl) (pgs_cons (pg_name (i := 5) nd rfl (.inl rfl)) (pgs_cons (pg_name (i := 6) nd rfl (.inl rfl)) (pgs_cons (pg_name (i := 7) nd rfl (.inl rfl)) (pgs_cons (pg_name (i := 8) nd rfl (.inl rfl)) (pgs_cons (pg_name (i := 9) nd rfl (.inl rfl)) pgs_nil)))))) (pss_cons (ps_set (i := 10) nd rfl (.inl rfl) (pe_lst pa_nil))
      (pss_cons (ps_for PassesOwn.never rfl (pi_list (pv 1)) (pg_name (i := 11) nd rfl (.inl rfl)) (pss_one (ps_if (pt_cmpR op_in_seq (pe_ix ix_tup (pv 11) pe_int (fun _ _ => rfl)) (pe_dget hu (pv 3) (pv 5) (fun _ _ => rfl)) (by rfl)) (pss_cons (ps_set (i := 10) nd rfl (.inl rfl) (pe_op op_cat (pv 10) (pe_callTy (call_list_txt rfl) (by rfl) T.list (by decide +kernel) (pa_cons (pe_dget hu (pv 4) (pe_ix ix_tup (pv 11) pe_int (fun _ _ => rfl)) (fun _ _ => rfl)) pa_nil))))
      (pss_one (ps_if (PW.pt (pw_or (pt_cmpR op_eq (pv 2) pe_int (nomark _)) (pw_or1 (pt_cmpR op_lt (pe_ix ix_tup (pv 11) pe_int (fun _ _ => rfl)) (pv 6) (nomark _))))) (pss_one (ps_expr (pe_bm PySem.F.plainAttrs_list PySem.F.slot_list_append PySem.F.type_list_append mt_append (pv 10) (pa_cons (pe_ix ix_tup (pv 11) pe_int (fun _ _ => rfl)) pa_nil)))) pss_nil))) pss_nil)))
      (C8.pss_cut (ps_if (pt_cmpR op_eq (pv 2) pe_int (nomark _)) (pss_cons (ps_set (i := 10) nd rfl (.inl rfl) (pe_lst pa_nil))
      (pss_one (ps_for PassesOwn.never rfl (pi_range1 rfl T.range (pa_cons (pe_call GN hr1 (by rfl) mN FN.kp bN .nil pass0 (pa_cons (pv 0) (pa_cons pe_int pa_nil))) pa_nil)) (pg_name (i := 12) nd rfl (.inl rfl)) (pss_one (ps_expr (pe_bm PySem.F.plainAttrs_list PySem.F.slot_list_append PySem.F.type_list_append mt_append (pv 10) (pa_cons (pe_ix ix_tup (pe_ix ix_list (pv 1) (pe_call GN hr1 (by rfl) mN FN.kp bN .nil pass0 (pa_cons (pv 0) (pa_cons (pe_callB call_len_seq (by rfl) T.len (PySem.boot_len) (pa_cons (pv 1) pa_nil)) pa_nil))) (fun _ _ => rfl)) pe_int (fun _ _ => rfl)) pa_nil))))))) pss_nil)
      (pss_one (ps_dput hu (pv 4) (pv 5) (pe_call GW hr (by rfl) mW FW.kp bW .nil pass0 (pa_cons (pv 10) pa_nil)) rfl))))))
      (pss_one (ps_ret (pv 4))))), ?_⟩
    refine ⟨_, rfl, a, as, ks, rfl, hA, R, FK, hk24, fun pu H1 hpu U s1 => ?_⟩
    intro pm hpm
    have hpmH : H pm = none := s1.free hpm
    refine ⟨_, _, rfl, ?_⟩
    have s2 : Same H (upd H1 pm (.dK [])) := same_upd s1 hpm
    have hA2 := s2 _ _ hA
    obtain ⟨kvs, hu1, U1⟩ := U
    have npu : pu ≠ pm := ne_of_none hu1 hpm
    have U2 : Paired (UndR H (upd H1 pm (.dK []))) kvs (undAll ks ks []) := pd_mono (fun kv f r => r.mono fun q xs _ e => upd_keep e hpm) U1
    refine ⟨_, rfl, a, rfl, ⟨_, SqL.of hA2⟩, for_list (K := K) (a := a) (xs := as.map V.ref) (fun i σ H' => ∃ (ms : List (Str × Str)) (v5 v6 v7 v8 v9 v10 v11 v12 : Option V), σ = [some (.ref d), some (.ref a), some (.int way), some (.ref pu), some (.ref pm), v5, v6, v7, v8, v9, v10, v11, v12] ∧
        Ev d g H H' ∧ H' pu = some (.dK kvs) ∧ Paired (UndR H H') kvs (undAll ks ks []) ∧ H' pm = some (.dK (msK ms)) ∧ ms.map (·.1) = (ks.take i).map Kd.nm ∧ (∀ f ∈ ms, okM f.2 = true ∧ f.2.cps.size ≤ 26) ∧
        (way ≠ 0 → ∀ (j : Nat) (kd : Kd), j < i → ks[j]? = some kd → ms[j]? = some (kd.nm, wordOf (ownM way (undOf ks (undAll ks (ks.take j) []) kd) kd.ed (ms.take j) ks))))
      ⟨[], none, none, none, none, none, none, none, none, rfl, (Ev.refl D).same s2, upd_keep hu1 hpm, U2, upd_same, by rw [List.take_zero]; rfl, fun f h => by simp at h, fun _ j kd h => by omega⟩
      (fun i σ H' _ ⟨_, _, _, _, _, _, _, _, _, _, e, _⟩ => SqL.of (e.kp _ _ hA had hag)) ?_ ?_⟩
    · rintro i y σ H3 hi ⟨ms, v5, v6, v7, v8, v9, v10, v11, v12, rfl, e3, hu3, U3, hm3, hms, hok, hex⟩
      obtain ⟨q, hq, rfl⟩ := ref_at hi
      have hik : i < ks.length := by
        have := (List.getElem?_eq_some_iff.mp hq).1
        rw [R.1] at this
        exact this
      have hkd : ks[i]? = some ks[i] := List.getElem?_eq_getElem hik
      have hkO := FK.ok ks[i] (List.getElem_mem hik)
      generalize hkk : ks[i] = kd at hkd hkO
      have R3 := R.tk (e3.tk D)
      obtain ⟨b, hb1, hb2⟩ := R3.2 i q kd hq hkd
      have hpu0 : H pu = none := hpu
      refine ⟨q, _, rfl, SqT.of hb1, rfl, _, _, rfl, _, _, rfl, _, _, rfl, _, _, rfl, _, _, rfl, rfl, ?_⟩
      refine ⟨by show 0 ≤ sizeLine; decide, fun o0 ho0 => ?_⟩
      have hund := look_full FK.nd hkd
      obtain ⟨uq, hv1, hv2⟩ := und_look U3 hund
      have hgu : ∀ H', H' pu = some (.dK kvs) → DGet H' pu (.str kd.nm) (some (.ref uq)) := fun H' h => by
        have z := DGet.k (k := kx kd.nm) h
        rw [hv1] at z
        exact z
      have hA3 : H3 a = _ := e3.kp _ _ hA had hag
      have hsz : ∀ f ∈ ms, f.2.cps.size ≤ 26 := fun f hf => (hok f hf).2
      have hmsl : ms.length = i := by
        have := congrArg List.length hms
        rw [List.length_map, List.length_map, List.length_take] at this
        omega
      refine ⟨_, rfl, a, rfl, ⟨_, SqL.of (upd_keep hA3 ho0)⟩, for_list (K := K) (a := a) (xs := as.map V.ref) (fun j σ H' => ∃ (o : Addr) (w11 : Option V), σ = [some (.ref d), some (.ref a), some (.int way), some (.ref pu), some (.ref pm), some (.str kd.nm), some (.int kd.ed), some (.ref b), some (.str (ltr kd.lt)), some (.str kd.mrk), some (.ref o), w11, v12] ∧
          H3 o = none ∧ H' o = some (.lst ((ownM way (undOf ks (undAll ks (ks.take i) []) kd) kd.ed ms (ks.take j)).map V.str)) ∧ Same H3 H')
        ⟨o0, v11, rfl, ho0, upd_same, same_new ho0⟩ (fun j σ H' _ ⟨_, _, _, _, _, s4⟩ => SqL.of (s4 _ _ hA3)) ?_ ?_⟩
      · rintro j y σ H4 hj ⟨o, w11, rfl, ho3, ho4, s4⟩
        obtain ⟨q2, hq2, rfl⟩ := ref_at hj
        have hjk : j < ks.length := by
          have := (List.getElem?_eq_some_iff.mp hq2).1
          rw [R.1] at this
          exact this
        have hkj : ks[j]? = some ks[j] := List.getElem?_eq_getElem hjk
        generalize ks[j] = kj at hkj
        obtain ⟨b2, c1, c2⟩ := (R3.tk (tk_same s4)).2 j q2 kj hq2 hkj
        have hol := ownM_len (way := way) (und := undOf ks (undAll ks (ks.take i) []) kd) (ed := kd.ed) hsz (ks.take j)
        have hol2 : (ks.take j).length ≤ 24 := by
          rw [List.length_take]
          omega
        have hol3 : (ownM way (undOf ks (undAll ks (ks.take i) []) kd) kd.ed ms (ks.take j)).length ≤ 24 * 27 := Nat.le_trans hol (Nat.mul_le_mul hol2 (Nat.le_refl _))
        refine ⟨_, rfl, q2, _, _, _, rfl, rfl, SqT.of c1, rfl, _, rfl, _, rfl, pu, _, rfl, hgu _ (s4 _ _ hu3), uq, _, rfl, .inl (SqL.of (s4 _ _ hv2)), rfl, flat_strs _, _, rfl, ?_⟩
        rw [if_neg (by decide), in_strs]
        refine ite2 (fun hm => ?_) (fun hm => ?_)
        · have hmem : kj.nm ∈ undOf ks (undAll ks (ks.take i) []) kd := of_decide_eq_true hm
          have hin : kj.nm ∈ ms.map (·.1) := by
            rw [hms]
            exact undOf_sub FK hkd hmem
          obtain ⟨mj, hmj⟩ := mlook?_some hin
          have hmjs : mj.cps.size ≤ 26 := hsz _ (mlook?_mem hmj)
          have hgm : DGet H4 pm (.str kj.nm) (some (.str mj)) := by
            have z := DGet.k (k := kx kj.nm) (s4 _ _ hm3)
            rw [msK_look, hmj] at z
            exact z
          refine ⟨_, rfl, _, rfl, _, rfl, q2, _, _, _, rfl, rfl, SqT.of c1, rfl, pm, _, rfl, hgm, mj, rfl, ?_, fun l1 hl1 => ?_⟩
          · exact Nat.le_of_lt (small1000 (by omega))
          have ho5 := upd_keep (u := .lst ((sgs mj).map V.str)) ho4 hl1
          refine ⟨o, l1, _, _, rfl, rfl, ho5, upd_same, ?_, fun l2 hl2 => ?_⟩
          · rw [List.length_map, List.length_map, sgs_len]
            exact Nat.le_of_lt (small1000 (by omega))
          have s6 : Same H3 (upd (upd H4 l1 (.lst ((sgs mj).map V.str))) l2 (.lst ((ownM way (undOf ks (undAll ks (ks.take i) []) kd) kd.ed ms (ks.take j)).map V.str ++ (sgs mj).map V.str))) := same_upd (same_upd s4 hl1) hl2
          have hl23 : H3 l2 = none := (same_upd s4 hl1).free hl2
          have c16 := upd_keep (u := .lst ((ownM way (undOf ks (undAll ks (ks.take i) []) kd) kd.ed ms (ks.take j)).map V.str ++ (sgs mj).map V.str)) (upd_keep (u := .lst ((sgs mj).map V.str)) c1 hl1) hl2
          have hlk : mlook ms kj.nm = mj := by
            unfold mlook
            rw [hmj]
            rfl
          have fin_t : (way = 3 ∨ kj.ed < kd.ed) → ownM way (undOf ks (undAll ks (ks.take i) []) kd) kd.ed ms (ks.take (j + 1)) = ownM way (undOf ks (undAll ks (ks.take i) []) kd) kd.ed ms (ks.take j) ++ sgs mj ++ [ltr kj.lt] := fun h => by
            rw [take_snoc hkj, ownM_snoc]
            unfold mkLet
            rw [if_pos hmem, hlk, if_pos h, List.append_assoc]
          have fin_f : ¬ (way = 3 ∨ kj.ed < kd.ed) → ownM way (undOf ks (undAll ks (ks.take i) []) kd) kd.ed ms (ks.take (j + 1)) = ownM way (undOf ks (undAll ks (ks.take i) []) kd) kd.ed ms (ks.take j) ++ sgs mj := fun h => by
            rw [take_snoc hkj, ownM_snoc]
            unfold mkLet
            rw [if_pos hmem, hlk, if_neg h, List.append_nil]
          have app : (way = 3 ∨ kj.ed < kd.ed) → ∀ Hx, Hx = upd (upd H4 l1 (.lst ((sgs mj).map V.str))) l2 (.lst ((ownM way (undOf ks (undAll ks (ks.take i) []) kd) kd.ed ms (ks.take j)).map V.str ++ (sgs mj).map V.str)) →
              ((ownM way (undOf ks (undAll ks (ks.take i) []) kd) kd.ed ms (ks.take j)).map V.str ++ (sgs mj).map V.str).length < sizeLine ∧ upd Hx l2 (.lst ((ownM way (undOf ks (undAll ks (ks.take i) []) kd) kd.ed ms (ks.take j)).map V.str ++ (sgs mj).map V.str ++ [V.str (ltr kj.lt)])) l2 = some (.lst ((ownM way (undOf ks (undAll ks (ks.take i) []) kd) kd.ed ms (ks.take (j + 1))).map V.str)) ∧
              Same H3 (upd Hx l2 (.lst ((ownM way (undOf ks (undAll ks (ks.take i) []) kd) kd.ed ms (ks.take j)).map V.str ++ (sgs mj).map V.str ++ [V.str (ltr kj.lt)]))) := fun h Hx ex => by
            subst ex
            refine ⟨?_, ?_, fun b o e => by rw [upd_ne (ne_of_none e hl23)]; exact s6 b o e⟩
            · rw [List.length_append, List.length_map, List.length_map, sgs_len]
              exact small1000 (by omega)
            · rw [fin_t h, List.map_append, List.map_append]
              exact upd_same
          refine ⟨_, rfl, rfl, _, rfl, ?_⟩
          refine ite2 (fun hw => ?_) (fun hw => ?_)
          · have hw' : way = 3 := V.int.inj (of_decide_eq_true hw)
            obtain ⟨a1, a2, a3⟩ := app (.inl hw') _ rfl
            refine iteT ?_
            exact ⟨_, rfl, .inl ⟨rfl, _, SqL.of upd_same⟩, _, rfl, q2, _, _, _, rfl, rfl, SqT.of c16, rfl, l2, _, _, rfl, rfl, upd_same, a1, l2, _, rfl, hl23, a2, a3⟩
          · refine ⟨_, rfl, q2, _, _, _, rfl, rfl, SqT.of c16, rfl, _, rfl, _, _, rfl, rfl, _, rfl, ?_⟩
            refine ite2 (fun hz => ?_) (fun hz => ?_)
            · have hz' : kj.ed < kd.ed := of_decide_eq_true hz
              obtain ⟨a1, a2, a3⟩ := app (.inr hz') _ rfl
              exact ⟨_, rfl, .inl ⟨rfl, _, SqL.of upd_same⟩, _, rfl, q2, _, _, _, rfl, rfl, SqT.of c16, rfl, l2, _, _, rfl, rfl, upd_same, a1, l2, _, rfl, hl23, a2, a3⟩
            · refine ⟨l2, _, rfl, hl23, ?_, s6⟩
              rw [fin_f (fun z => by
                rcases z with z | z
                · exact hw (decide_eq_true (by rw [z]))
                · exact hz (decide_eq_true z)), List.map_append]
              exact upd_same
        · refine ⟨o, _, rfl, ho3, ?_, s4⟩
          rw [take_snoc hkj, ownM_snoc]
          unfold mkLet
          rw [if_neg (fun z => hm (decide_eq_true z)), List.append_nil]
          exact ho4
      · rintro σ H4 ⟨o, w11, rfl, ho3, ho4, s4⟩
        rw [List.length_map, R.1, List.take_of_length_le (Nat.le_refl _)] at ho4
        have e4 := e3.same s4
        have ho0 : H o = none := e3.free D ho3
        -- the way 0
        refine ⟨fun σ H' => ∃ (o' : Addr) (xs : List Str) (w11 w12 : Option V), σ = [some (.ref d), some (.ref a), some (.int way), some (.ref pu), some (.ref pm), some (.str kd.nm), some (.int kd.ed), some (.ref b), some (.str (ltr kd.lt)), some (.str kd.mrk), some (.ref o'), w11, w12] ∧
          H' o' = some (.lst (xs.map V.str)) ∧ Ev d g H3 H' ∧ (way ≠ 0 → xs = ownM way (undOf ks (undAll ks (ks.take i) []) kd) kd.ed ms ks), ?_, ?_⟩
        · refine ⟨_, rfl, rfl, _, rfl, ?_⟩
          refine ite2 (fun hw => ?_) (fun hw => ?_)
          · have hw' : way = 0 := V.int.inj (of_decide_eq_true hw)
            refine ⟨by show 0 ≤ sizeLine; decide, fun o5 ho5 => ?_⟩
            have ho53 : H3 o5 = none := s4.free ho5
            have e5 : Ev d g H3 (upd H4 o5 (.lst [])) := ((Ev.refl e3.dr).same s4).new ho5
            refine ⟨_, rfl, d, g, 4, rfl, e5.dr, by decide, by decide, fun n4 H5 n40 n41 e6 => ⟨_, rfl, by omega, by omega, ?_⟩⟩
            have ne5 : o5 ≠ d ∧ o5 ≠ g := ⟨e3.dr.ned ho53, e3.dr.neg ho53⟩
            refine for_range (lo := 0) (n := n4.toNat) (fun j σ H' => ∃ (xs : List Str) (w11 w12 : Option V), σ = [some (.ref d), some (.ref a), some (.int way), some (.ref pu), some (.ref pm), some (.str kd.nm), some (.int kd.ed), some (.ref b), some (.str (ltr kd.lt)), some (.str kd.mrk), some (.ref o5), w11, w12] ∧
              H' o5 = some (.lst (xs.map V.str)) ∧ xs.length = j ∧ Ev d g H3 H') ⟨[], _, _, rfl, e6.kp _ _ upd_same ne5.1 ne5.2, rfl, e5.trans e6⟩ ?_ ?_
            · rintro j σ H6 hj ⟨xs, x11, x12, rfl, h6, hxl, e7⟩
              have hA6 : H6 a = some (.lst (as.map V.ref)) := e7.kp _ _ hA3 had hag
              have e70 := e3.trans e7
              have hlen : (((as.map V.ref).length : Nat) : Int) = (ks.length : Int) := by rw [List.length_map, R.1]
              refine ⟨_, rfl, .inl ⟨rfl, _, SqL.of h6⟩, _, rfl, _, rfl, _, rfl, a, _, rfl, .inl (SqL.of hA6), d, g, _, rfl, e7.dr, by omega, by omega, fun c H7 c0 c1 e8 => ?_⟩
              have e9 := e7.trans e8
              have hA7 : H7 a = some (.lst (as.map V.ref)) := e9.kp _ _ hA3 had hag
              obtain ⟨y, ey⟩ : ∃ y : Nat, c = (y : Int) := ⟨c.toNat, by omega⟩
              have hy : y < as.length := by rw [R.1]; omega
              have hyk : y < ks.length := by rw [← R.1]; exact hy
              have hay : as[y]? = some as[y] := List.getElem?_eq_getElem hy
              obtain ⟨b3, c3, _⟩ := (R.tk ((e3.trans e9).tk D)).2 y as[y] ks[y] hay (List.getElem?_eq_getElem hyk)
              have h7 : H7 o5 = some (.lst (xs.map V.str)) := e8.kp _ _ h6 ne5.1 ne5.2
              refine ⟨a, _, _, _, rfl, rfl, SqL.of hA7, at_of ey (show (as.map V.ref)[y]? = some (V.ref as[y]) by rw [List.getElem?_map, hay]; rfl), as[y], _, _, _, rfl, rfl, SqT.of c3, rfl, o5, _, _, rfl, rfl, h7, by rw [List.length_map]; exact small1000 (by omega), ?_⟩
              refine ⟨xs ++ [ltr ks[y].lt], _, _, rfl, by rw [List.map_append]; exact upd_same, by rw [List.length_append, hxl]; rfl, ⟨fun b o e a1 a2 => by rw [upd_ne (ne_of_none e ho53)]; exact e9.kp b o e a1 a2, ?_⟩⟩
              obtain ⟨m', t', gs', a1, a2, a3⟩ := e9.dr
              exact ⟨m', t', gs', by rw [upd_ne ne5.1.symm]; exact a1, by rw [upd_ne ne5.2.symm]; exact a2, a3⟩
            · rintro σ H6 ⟨xs, x11, x12, rfl, h6, hxl, e7⟩
              exact ⟨o5, xs, _, _, rfl, h6, e7, fun h => absurd hw' h⟩
          · exact ⟨o, _, _, _, rfl, ho4, (Ev.refl e3.dr).same s4, fun _ => rfl⟩
        · rintro σ H5 ⟨o', xs, x11, x12, rfl, h5, e5, hxs⟩
          refine ⟨_, rfl, o', xs, rfl, h5, fun H6 s6 => ?_⟩
          have e6 : Ev d g H3 H6 := e5.same s6
          have e60 := e3.trans e6
          have npmd : pm ≠ d := D.ned hpmH
          have npmg : pm ≠ g := D.neg hpmH
          have hm6 : H6 pm = _ := e6.kp _ _ hm3 npmd npmg
          have hnone : valV (msK ms) (kx kd.nm) = none := by
            rw [msK_look, mlook?_none (by rw [hms]; exact nm_not FK.nd hkd)]
            rfl
          refine ⟨_, rfl, _, rfl, pm, _, rfl, DPut.k (k := kx kd.nm) hm6 (by unfold msK; rw [List.length_map]; exact small1000 (by omega)), ?_⟩
          refine ⟨ms ++ [(kd.nm, wordOf xs)], _, _, _, _, _, _, _, _, rfl, ⟨fun b o e a1 a2 => by rw [upd_ne (ne_of_none e hpmH)]; exact e60.kp b o e a1 a2, ?_⟩, ?_, ?_, ?_, ?_, ?_, ?_⟩
          · obtain ⟨m', t', gs', a1, a2, a3⟩ := e60.dr
            exact ⟨m', t', gs', by rw [upd_ne npmd.symm]; exact a1, by rw [upd_ne npmg.symm]; exact a2, a3⟩
          · rw [upd_ne npu]
            exact e6.kp _ _ hu3 (D.ned hpu0) (D.neg hpu0)
          · refine pd_mono (fun kv f r => r.mono fun q xs q0 e => ?_) U3
            rw [upd_ne (ne_of e hm3 (by intro z; cases z))]
            exact e6.kp _ _ e (D.ned q0) (D.neg q0)
          · rw [putK_new _ hnone]
            unfold msK
            rw [List.map_append]
            exact upd_same
          · rw [List.map_append, hms, take_snoc hkd, List.map_append]
            rfl
          · intro f hf
            rcases List.mem_append.mp hf with hf | hf
            · exact hok f hf
            · rw [List.mem_singleton.mp hf]
              exact ⟨wordOf_okM xs, wordOf_len xs⟩
          · intro hw j kj hj hkj
            by_cases hji : j = i
            · subst hji
              have ekd : kj = kd := Option.some.inj (hkj.symm.trans hkd)
              subst ekd
              have et : (ms ++ [(kj.nm, wordOf xs)]).take j = ms := by
                rw [List.take_append_of_le_length (by omega)]
                exact List.take_of_length_le (by omega)
              rw [et, List.getElem?_append_right (by omega), hmsl, Nat.sub_self, hxs hw]
              rfl
            · have hlt : j < i := by omega
              rw [List.getElem?_append_left (by omega), List.take_append_of_le_length (by omega)]
              exact hex hw j kj hlt hkj
    · rintro σ H3 ⟨ms, v5, v6, v7, v8, v9, v10, v11, v12, rfl, e3, hu3, U3, hm3, hms, hok, hex⟩
      rw [List.length_map, R.1, List.take_of_length_le (Nat.le_refl _)] at hms
      refine ⟨_, rfl, k pm ms H3 ⟨hms, hok, fun hw i kd hkd => ?_⟩ hpmH hm3 e3⟩
      exact hex hw i kd (by rw [List.length_map, R.1]; exact (List.getElem?_eq_some_iff.mp hkd).1) hkd
end
end Cp

set_option Elab.async false
set_option linter.all false
set_option maxRecDepth 100000
namespace Cp
open PySem L2
def setM (k : Kd) (m : Str) : Kd := { k with mrk := m }
/-- the same kinds with other marks -/
def Mkd (ks ks' : List Kd) : Prop := ks'.length = ks.length ∧ ∀ (j : Nat) (k k' : Kd), ks[j]? = some k → ks'[j]? = some k' → k' = setM k k'.mrk ∧ okM k'.mrk = true
theorem mkd_nm {ks ks' : List Kd} (h : Mkd ks ks') : ks'.map Kd.nm = ks.map Kd.nm := by
  apply List.ext_getElem?
  intro i
  rw [List.getElem?_map, List.getElem?_map]
  cases e : ks[i]? with
  | none =>
    have := List.getElem?_eq_none_iff.mp e
    rw [List.getElem?_eq_none_iff.mpr (by rw [h.1]; exact this)]
  | some k =>
    have hl := (List.getElem?_eq_some_iff.mp e).1
    have e2 : ks'[i]? = some (ks'[i]'(by rw [h.1]; exact hl)) := List.getElem?_eq_getElem _
    rw [e2, (h.2 i k _ e e2).1]
    rfl
theorem mkd_take {ks ks' : List Kd} (h : Mkd ks ks') (i : Nat) : Mkd (ks.take i) (ks'.take i) := by
  refine ⟨by rw [List.length_take, List.length_take, h.1], fun j k k' h1 h2 => ?_⟩
  rw [List.getElem?_take] at h1 h2
  split at h1
  · rename_i hj
    rw [if_pos hj] at h2
    exact h.2 j k k' h1 h2
  · cases h1
theorem mkd_some {ks ks' : List Kd} (h : Mkd ks ks') {i : Nat} {k' : Kd} (e : ks'[i]? = some k') : ∃ k, ks[i]? = some k ∧ k' = setM k k'.mrk ∧ okM k'.mrk = true := by
  have hl := (List.getElem?_eq_some_iff.mp e).1
  have e1 : ks[i]? = some (ks[i]'(by rw [← h.1]; exact hl)) := List.getElem?_eq_getElem _
  exact ⟨_, e1, h.2 i _ k' e1 e⟩
theorem frm_mkd {ks ks' : List Kd} (F : Frm ks) (h : Mkd ks ks') : Frm ks' := by
  refine ⟨fun k' hk' => ?_, by rw [mkd_nm h]; exact F.nd, fun i j a b hij h1 h2 => ?_, fun i k' e b hb => ?_⟩
  · obtain ⟨i, hi, ei⟩ := List.mem_iff_getElem.mp hk'
    obtain ⟨k, hk, e, hm⟩ := mkd_some h (by rw [List.getElem?_eq_getElem hi, ei])
    have O := F.ok k (List.mem_of_getElem? hk)
    rw [e]
    exact ⟨O.nm, O.e1, O.e2, O.bl, O.bn, O.bo, O.lt, hm⟩
  · obtain ⟨k1, hk1, e1, _⟩ := mkd_some h h1
    obtain ⟨k2, hk2, e2, _⟩ := mkd_some h h2
    rw [e1, e2]
    exact F.mono i j k1 k2 hij hk1 hk2
  · obtain ⟨k, hk, e1, _⟩ := mkd_some h e
    rw [mkd_nm (mkd_take h i)]
    rw [e1] at hb
    exact F.bas i k hk b hb
theorem mlook_at {ms : List (Str × Str)} (h : (ms.map (·.1)).Nodup) {i : Nat} {x m : Str} (e : ms[i]? = some (x, m)) : mlook? ms x = some m := by
  obtain ⟨ys, hy⟩ := mlook?_some (List.mem_map.mpr ⟨_, List.mem_of_getElem? e, rfl⟩)
  have hy2 : mlook? ms x = some ys := hy
  obtain ⟨j, hj, ej⟩ := List.mem_iff_getElem.mp (mlook?_mem hy2)
  have a1 : (ms.map (·.1))[i]? = some x := by rw [List.getElem?_map, e]; rfl
  have a2 : (ms.map (·.1))[j]? = some x := by rw [List.getElem?_map, List.getElem?_eq_getElem hj, ej]; rfl
  have ij := nd_ix h a1 a2
  subst ij
  rw [List.getElem?_eq_getElem hj, ej] at e
  cases e
  exact hy2
theorem sgs_ltr (k : Nat) : (⟨#[97 + k]⟩ : Str) = ltr k := rfl
def spMarked : Sp := fun vs H Q _ => ∃ (d g a : Addr) (way : Int) (as : List Addr) (ks : List Kd), vs = [.ref d, .ref a, .int way] ∧ Drw H d g ∧ H a = some (.lst (as.map V.ref)) ∧ a ≠ g ∧ RowsAt H as ks ∧ Frm ks ∧ 1 ≤ ks.length ∧ ks.length ≤ 24 ∧
  ∀ (t : Addr) (as' : List Addr) (ks' : List Kd) (ms : List (Str × Str)) (H' : Hp), Mkd ks ks' → MS way ks ms → (way ≠ 2 → ks'.map Kd.mrk = ms.map (·.2)) → H t = none → H' t = some (.tup (as'.map V.ref)) → RowsAt H' as' ks' → Ev d g H H' → Q (.ref t) H'
abbrev nMarked : List Str := ["draw", "rows", "way", "marks", "found", "name", "ed", "bases", "letter", "mark", "told", "some", "sign", "more", "kind", "one"]
section
variable {P : Program} {w : World} {K : PySem.W.Frag} {mg : Str → Option Value} {base : Heap}
theorem scMarked : FnScope nMarked ["draw", "rows", "way"] (defScope sMarked) := ⟨rfl, rfl, rfl, by decide +kernel, rfl, by decide +kernel, by decide +kernel⟩
theorem ok_marked {f fM fN fU fW fS : Addr} {fd fdM fdN fdU fdW fdS : FuncData} (F : Fun K "_law_marked" "_law_marked" sMarked f fd) (T : TB mg) (FN : Fun K "_law_next" "_law_next" sNext fN fdN) (bN : Binds K fdN ["draw", "below"] []) (mN : mg "_law_next" = some (.ref fN))
    (FM : Fun K "_law_marks" "_law_marks" sMarks fM fdM) (bM : Binds K fdM ["draw", "rows", "way"] []) (mM : mg "_law_marks" = some (.ref fM))
    (FU : Fun K "_law_under" "_law_under" sUnder fU fdU) (bU : Binds K fdU ["plan"] []) (mU : mg "_law_under" = some (.ref fU)) (FW : Fun K "_law_word" "_law_word" sWord fW fdW) (bW : Binds K fdW ["signs"] []) (mW : mg "_law_word" = some (.ref fW))
    (FS : Fun K "_law_sign" "_law_sign" sSign fS fdS) (bS : Binds K fdS ["at"] []) (mS : mg "_law_sign" = some (.ref fS)) :
    FnOk P w K mg base CX0 4 f fd ["draw", "rows", "way"] spMarked := by
  have GN : FnOk P w K mg base CX0 1 fN fdN ["draw", "below"] spNext := ok_next FN T
  have GM : FnOk P w K mg base CX0 3 fM fdM ["draw", "rows", "way"] spMarks := ok_marks FM T FN bN mN FU bU mU FW bW mW FS bS mS
  have GW : FnOk P w K mg base CX0 2 fW fdW ["signs"] spWord := ok_word FW T FS bS mS
  have GS : FnOk P w K mg base CX0 1 fS fdS ["at"] spSign := ok_sign FS T
  refine F.ok scMarked (fun vs H Q E h => ?_) (fun cdv A outer s H vs Q E hr h => ?_)
  · obtain ⟨d, g, a, way, as, ks, rfl, _⟩ := h
    rfl
  · obtain ⟨d, g, a, way, as, ks, rfl, D, hA, hag, R, FK, hk1, hk24, k⟩ := h
    have hu := hu_of hr
    have hr1 : Room 1 _ := hr.mono (by decide)
    have hr2 : Room 2 _ := hr.mono (by decide)
    have nd := scMarked.nd
    have had : a ≠ d := by
      obtain ⟨m, t, gs, h1, _⟩ := D
      exact ne_of hA h1 (by intro z; cases z)
    refine ⟨_, (pss_cons (ps_par (i := 3) (j := 4) (by rfl) nd rfl rfl (by decide) rfl rfl (pa_cons (pe_call GM hr (by rfl) mM FM.kp bM .nil pass0 (pa_cons (pv 0) (pa_cons (pv 1) (pa_cons (pv 2) pa_nil)))) (pa_cons (pe_lst pa_nil) pa_nil)) (by rfl))
      (pss_cons (ps_for PassesOwn.never rfl (pi_list (pv 1)) (pg_tup (by rfl) (pgs_cons (pg_name (i := 5) nd rfl (.inl rfl)) (pgs_cons (pg_name (i := 6) nd rfl (.inr rfl)) (pgs_cons (pg_name (i := 7) nd rfl (.inl rfl)) (pgs_cons (pg_name (i := 8) nd rfl (.inl rfl)) (pgs_cons (pg_name (i := 9) nd rfl (.inl rfl)) pgs_nil)))))) (pss_cons (ps_set (i := 10) nd rfl (.inl rfl) (pe_dget hu (pv 3) (pv 5) (fun _ _ => rfl)))
      (C8.pss_cut (ps_if (PW.pt (pw_and (pt_cmpR op_eq (pv 2) pe_int (nomark _)) (pw_and1 (pt_cmpR op_eq (pe_call GN hr1 (by rfl) mN FN.kp bN .nil pass0 (pa_cons (pv 0) (pa_cons pe_int pa_nil))) pe_int (nomark _))))) (pss_cons (ps_setLc (i := 11) (own := [("kind", 14)]) (g := gName 14) rfl nd rfl rfl (sw_true rfl rfl rfl (by decide +kernel)) (pi_list (pv 1)) (blkOk_by (N := nMarked) (sc := defScope sMarked) (by decide +kernel)) (fun _ _ _ _ _ => (pg_name (i := 14) nd rfl (.inl rfl))) (fun _ _ _ _ _ => pts_one (pt_cmpR op_lt (pe_ix (show IxR _ (rIxT K) from ix_tup) (pv 14) pe_int (fun _ _ => rfl)) (pv 6) (nomark _))) (fun _ _ _ _ _ => (pe_ix (show IxR _ (rIxT K) from ix_tup) (pv 14) pe_int (fun _ _ => rfl))))
      (pss_cons (ps_expr (pe_bm PySem.F.plainAttrs_list PySem.F.slot_list_append PySem.F.type_list_append mt_append (pv 11) (pa_cons (pe_call GS hr1 (by rfl) mS FS.kp bS .nil pass0 (pa_cons (pe_call GN hr1 (by rfl) mN FN.kp bN .nil pass0 (pa_cons (pv 0) (pa_cons pe_int pa_nil))) pa_nil)) pa_nil)))
      (pss_cons (ps_set (i := 12) nd rfl (.inr rfl) (pe_ix ix_list (pv 11) (pe_call GN hr1 (by rfl) mN FN.kp bN .nil pass0 (pa_cons (pv 0) (pa_cons (pe_callB call_len_seq (by rfl) T.len (PySem.boot_len) (pa_cons (pv 11) pa_nil)) pa_nil))) (fun _ _ => rfl)))
      (pss_cons (ps_set (i := 13) nd rfl (.inl rfl) (pe_ifExp (pt_cmpR op_in_sign (pv 12) (pv 10) (by rfl)) (pe_lst pa_nil) (pe_lst (pa_cons (pv 12) pa_nil))))
      (pss_one (ps_set (i := 10) nd rfl (.inl rfl) (pe_call GW hr2 (by rfl) mW FW.kp bW .nil pass0 (pa_cons (pe_op op_cat (pe_lc (own := [("one", 15)]) (g := gName 15) rfl nd (pi_str (pv 10)) (blkOk_by (N := nMarked) (sc := defScope sMarked) (by decide +kernel)) (fun _ _ _ _ _ => (pg_name (i := 15) nd rfl (.inl rfl))) (fun _ _ _ _ _ => pts_one (pt_cmpR op_ne (pv 15) (pv 12) (nomark _))) (fun _ _ _ _ _ => (pv 15))) (pv 13)) pa_nil)))))))) pss_nil)
      (pss_one (ps_expr (pe_bm PySem.F.plainAttrs_list PySem.F.slot_list_append PySem.F.type_list_append mt_append (pv 4) (pa_cons (pe_tup (pa_cons (pv 5) (pa_cons (pv 6) (pa_cons (pv 7) (pa_cons (pv 8) (pa_cons (pv 10) pa_nil)))))) pa_nil)))))))
      (pss_one (ps_ret (pe_callTy call_tuple_of (by rfl) T.tuple (by decide +kernel) (pa_cons (pv 4) pa_nil)))))), ?_⟩
    refine ⟨_, rfl, _, rfl, _, rfl, d, g, a, way, as, ks, rfl, D, hA, hag, R, FK, hk1, hk24, fun pm ms H1 M hpm hm1 e1 => ?_⟩
    refine ⟨by show 0 ≤ sizeLine; decide, fun fo hfo => ⟨_, _, rfl, ?_⟩⟩
    have hfoH : H fo = none := e1.free D hfo
    have e2 := e1.new (o := .lst []) hfo
    have hmnd : (ms.map (·.1)).Nodup := by rw [M.nm]; exact FK.nd
    have hmsl : ms.length = ks.length := by
      have := congrArg List.length M.nm
      rw [List.length_map, List.length_map] at this
      exact this
    refine ⟨_, rfl, a, rfl, ⟨_, SqL.of (e2.kp _ _ hA had hag)⟩, for_list (K := K) (a := a) (xs := as.map V.ref) (fun i σ H' => ∃ (as' : List Addr) (ks' : List Kd) (v5 v6 v7 v8 v9 v10 v11 v12 v13 : Option V), σ = [some (.ref d), some (.ref a), some (.int way), some (.ref pm), some (.ref fo), v5, v6, v7, v8, v9, v10, v11, v12, v13, none, none] ∧
        Ev d g H H' ∧ H' pm = some (.dK (msK ms)) ∧ H' fo = some (.lst (as'.map V.ref)) ∧ RowsAt H' as' ks' ∧ Mkd (ks.take i) ks' ∧ (way ≠ 2 → ks'.map Kd.mrk = (ms.take i).map (·.2)))
      ⟨[], [], none, none, none, none, none, none, none, none, none, rfl, e2, upd_keep hm1 hfo, upd_same, RowsAt.nil, ⟨by rw [List.take_zero], fun j k k' h => by rw [List.take_zero] at h; simp at h⟩, fun _ => by rw [List.take_zero]; rfl⟩
      (fun i σ H' _ ⟨_, _, _, _, _, _, _, _, _, _, _, _, e, _⟩ => SqL.of (e.kp _ _ hA had hag)) ?_ ?_⟩
    · rintro i y σ H3 hi ⟨as', ks', v5, v6, v7, v8, v9, v10, v11, v12, v13, rfl, e3, hm3, hf3, R3', K3, X3⟩
      obtain ⟨q, hq, rfl⟩ := ref_at hi
      have hik : i < ks.length := by
        have := (List.getElem?_eq_some_iff.mp hq).1
        rw [R.1] at this
        exact this
      have hkd : ks[i]? = some ks[i] := List.getElem?_eq_getElem hik
      have hkO := FK.ok ks[i] (List.getElem_mem hik)
      generalize ks[i] = kd at hkd hkO
      have R3 := R.tk (e3.tk D)
      obtain ⟨b, hb1, hb2⟩ := R3.2 i q kd hq hkd
      have hA3 : H3 a = _ := e3.kp _ _ hA had hag
      have hpmH : H pm = none := hpm
      have npm : pm ≠ d ∧ pm ≠ g := ⟨D.ned hpmH, D.neg hpmH⟩
      have nfo : fo ≠ d ∧ fo ≠ g := ⟨D.ned hfoH, D.neg hfoH⟩
      have hmi : ms[i]? = some ms[i] := List.getElem?_eq_getElem (by omega)
      have hm1n : (ms[i]'(by omega)).1 = kd.nm := by
        have a1 : (ms.map (·.1))[i]? = some (ms[i]'(by omega)).1 := by rw [List.getElem?_map, hmi]; rfl
        rw [M.nm, List.getElem?_map, hkd] at a1
        exact (Option.some.inj a1).symm
      obtain ⟨mi, hmi2⟩ : ∃ mi, ms[i]? = some (kd.nm, mi) := ⟨(ms[i]'(by omega)).2, by rw [hmi, ← hm1n]⟩
      have hlk := mlook_at hmnd hmi2
      obtain ⟨hmo, hms0⟩ := M.ok _ (List.mem_of_getElem? hmi2)
      have hms : mi.cps.size ≤ 26 := hms0
      have hgm : DGet H3 pm (.str kd.nm) (some (.str mi)) := by
        have z := DGet.k (k := kx kd.nm) hm3
        rw [msK_look, hlk] at z
        exact z
      refine ⟨q, _, rfl, SqT.of hb1, rfl, _, _, rfl, _, _, rfl, _, _, rfl, _, _, rfl, _, _, rfl, rfl, ?_⟩
      refine ⟨_, rfl, _, rfl, pm, _, rfl, hgm, ?_⟩
      refine ⟨fun σ H' => ∃ (tl : Str) (v11 v12 v13 : Option V), σ = [some (.ref d), some (.ref a), some (.int way), some (.ref pm), some (.ref fo), some (.str kd.nm), some (.int kd.ed), some (.ref b), some (.str (ltr kd.lt)), some (.str kd.mrk), some (.str tl), v11, v12, v13, none, none] ∧
        Ev d g H3 H' ∧ okM tl = true ∧ (way ≠ 2 → tl = mi), ?_, ?_⟩
      · refine ⟨_, rfl, rfl, _, rfl, ?_⟩
        refine ite2 (fun hw => ?_) (fun hw => iteF ?_)
        · have hw2 : way = 2 := V.int.inj (of_decide_eq_true hw)
          refine ⟨_, rfl, d, g, 3, rfl, e3.dr, by decide, by decide, fun r3 H4 _ _ e4 => ⟨rfl, _, rfl, ?_⟩⟩
          have e40 := e3.trans e4
          refine ite2 (fun _ => ?_) (fun _ => ?_)
          · have hA4 : H4 a = _ := e4.kp _ _ hA3 had hag
            have R4 := R3.tk (e4.tk e3.dr)
            refine ⟨_, rfl, a, rfl, ⟨_, SqL.of hA4⟩, fun so hso => lc_list (xs := as.map V.ref) (fun j H' => ∃ xs : List Nat, H' so = some (.lst ((xs.map ltr).map V.str)) ∧ xs.length ≤ j ∧ (∀ x ∈ xs, x < 26) ∧ Same H4 H') ⟨[], upd_same, Nat.le_refl _, fun x h => by simp at h, same_new hso⟩
              (fun j H' _ ⟨_, _, _, _, s5⟩ => SqL.of (s5 _ _ hA4)) ?_ ?_⟩
            · rintro j y H5 hj ⟨xs, h5, hl5, hx5, s5⟩
              obtain ⟨q2, hq2, rfl⟩ := ref_at hj
              have hjk : j < ks.length := by
                have := (List.getElem?_eq_some_iff.mp hq2).1
                rw [R.1] at this
                exact this
              have hkj : ks[j]? = some ks[j] := List.getElem?_eq_getElem hjk
              have hkjO := FK.ok ks[j] (List.getElem_mem hjk)
              generalize ks[j] = kj at hkj hkjO
              obtain ⟨b2, c1, c2⟩ := (R4.tk (tk_same s5)).2 j q2 kj hq2 hkj
              refine ⟨rfl, _, rfl, q2, _, _, _, rfl, rfl, SqT.of c1, rfl, _, rfl, _, _, rfl, rfl, _, rfl, ?_⟩
              refine ite2 (fun _ => ?_) (fun _ => ?_)
              · refine ⟨_, rfl, q2, _, _, _, rfl, rfl, SqT.of c1, rfl, _, h5, by rw [List.length_map, List.length_map]; exact small1000 (by omega), xs ++ [kj.lt], by rw [List.map_append, List.map_append]; exact upd_same, by rw [List.length_append]; show xs.length + 1 ≤ j + 1; omega, fun x hx => ?_, fun b o e => by rw [upd_ne (ne_of_none e hso)]; exact s5 b o e⟩
                rcases List.mem_append.mp hx with hx | hx
                · exact hx5 x hx
                · rw [List.mem_singleton.mp hx]
                  exact hkjO.lt
              · exact ⟨xs, h5, by omega, hx5, s5⟩
            · rintro H5 ⟨xs, h5, hl5, hx5, s5⟩
              rw [List.length_map, R.1] at hl5
              have e5 : Ev d g H3 H5 := e4.same s5
              have hso3 : H3 so = none := e4.free e3.dr hso
              have nso : so ≠ d ∧ so ≠ g := ⟨e3.dr.ned hso3, e3.dr.neg hso3⟩
              refine ⟨_, rfl, .inl ⟨rfl, _, SqL.of h5⟩, _, rfl, d, g, 26, rfl, e5.dr, by decide, by decide, fun r4 H6 _ _ e6 => ?_⟩
              have h6 : H6 so = _ := e6.kp _ _ h5 nso.1 nso.2
              have e60 := e5.trans e6
              refine ⟨_, rfl, so, _, _, rfl, rfl, h6, by rw [List.length_map, List.length_map]; exact small1000 (by omega), ?_⟩
              generalize hx4 : (r4 % 26).toNat = x4
              have hx426 : x4 < 26 := by omega
              have h7e : (xs.map ltr).map V.str ++ [V.str (ltr x4)] = ((xs ++ [x4]).map ltr).map V.str := by rw [List.map_append, List.map_append]; rfl
              rw [h7e]
              generalize hH7 : upd H6 so (.lst (((xs ++ [x4]).map ltr).map V.str)) = H7
              have h7 : H7 so = some (.lst (((xs ++ [x4]).map ltr).map V.str)) := by rw [← hH7]; exact upd_same
              have e70 : Ev d g H3 H7 := by
                rw [← hH7]
                refine ⟨fun b o e a1 a2 => by rw [upd_ne (ne_of_none e hso3)]; exact e60.kp b o e a1 a2, ?_⟩
                obtain ⟨m', t', gs', a1, a2, a3⟩ := e60.dr
                exact ⟨m', t', gs', by rw [upd_ne nso.1.symm]; exact a1, by rw [upd_ne nso.2.symm]; exact a2, a3⟩
              have hx7 : ∀ x ∈ xs ++ [x4], x < 26 := fun x hx => by
                rcases List.mem_append.mp hx with hx | hx
                · exact hx5 x hx
                · rw [List.mem_singleton.mp hx]
                  exact hx426
              have hl7 : (xs ++ [x4]).length = xs.length + 1 := by rw [List.length_append]; rfl
              generalize hzs : xs ++ [x4] = zs at h7 hx7 hl7
              refine ⟨_, rfl, _, rfl, _, rfl, so, _, rfl, .inl (SqL.of h7), d, g, _, rfl, e70.dr, by rw [List.length_map, List.length_map]; omega, by rw [List.length_map, List.length_map]; omega, fun r5 H8 r50 r51 e8 => ?_⟩
              rw [List.length_map, List.length_map] at r51
              obtain ⟨j5, ej5⟩ : ∃ j : Nat, r5 = (j : Int) := ⟨r5.toNat, by omega⟩
              have hj5 : j5 < zs.length := by omega
              have e80 := e70.trans e8
              have h8 : H8 so = _ := e8.kp _ _ h7 nso.1 nso.2
              have hzj : zs[j5] < 26 := hx7 _ (List.getElem_mem hj5)
              have hat5 : ((zs.map ltr).map V.str)[j5]? = some (V.str (ltr zs[j5])) := by
                rw [List.getElem?_map, List.getElem?_map, List.getElem?_eq_getElem hj5]
                rfl
              generalize zs[j5] = z5 at hzj hat5
              refine ⟨so, _, _, _, rfl, rfl, SqL.of h8, at_of ej5 hat5, ?_⟩
              -- more
              have key : ∀ (mr : Addr) (mo : List Str) (H9 : Hp), mo.length ≤ 1 → H9 mr = some (.lst (mo.map V.str)) → Ev d g H3 H9 → ∀ (v11 : Option V),
                  (tSeq (tAsg (tCall spWord [] E0 (tCons (tOp rCat (tLc (iStr (tVar 10)) (gName 15) (fun σ H Q => (tTest (tOp rNe (tVar 15) (tVar 12))) σ H Q) (tVar 15) [15]) (tVar 13)) tNil)) (gName 10)) tNext) 
                  { nx := fun σ H' => ∃ (tl : Str) (v11 v12 v13 : Option V), σ = [some (.ref d), some (.ref a), some (.int way), some (.ref pm), some (.ref fo), some (.str kd.nm), some (.int kd.ed), some (.ref b), some (.str (ltr kd.lt)), some (.str kd.mrk), some (.str tl), v11, v12, v13, none, none] ∧ Ev d g H3 H' ∧ okM tl = true ∧ (way ≠ 2 → tl = mi), rt := Q }
                  [some (.ref d), some (.ref a), some (.int way), some (.ref pm), some (.ref fo), some (.str kd.nm), some (.int kd.ed), some (.ref b), some (.str (ltr kd.lt)), some (.str kd.mrk), some (.str mi), v11, some (.str (ltr z5)), some (.ref mr), none, none] H9 := by
                intro mr mo H9 hmo1 h9 e9 v11
                refine ⟨_, rfl, _, rfl, fun dc hdc => lc_it (walk_str (z := mi)) (fun j H' => ∃ ys : List Str, H' dc = some (.lst (ys.map V.str)) ∧ ys.length ≤ j ∧ Same H9 H') ⟨[], upd_same, Nat.le_refl _, same_new hdc⟩ (fun _ _ _ _ => trivial) ?_ ?_⟩
                · rintro j y H10 H10' hj ⟨ys, h10, hl10, s10⟩ ⟨rfl, c, hc, rfl⟩
                  refine ⟨rfl, _, rfl, _, rfl, rfl, _, rfl, ?_⟩
                  refine ite2 (fun _ => ?_) (fun _ => ?_)
                  · exact ⟨_, rfl, _, h10, by rw [List.length_map]; exact small1000 (by omega), ys ++ [_], by rw [List.map_append]; exact upd_same, by rw [List.length_append]; show ys.length + 1 ≤ j + 1; omega, fun b o e => by rw [upd_ne (ne_of_none e hdc)]; exact s10 b o e⟩
                  · exact ⟨ys, h10, by omega, s10⟩
                · rintro H10 ⟨ys, h10, hl10, s10⟩
                  refine ⟨_, rfl, dc, mr, _, _, rfl, rfl, h10, s10 _ _ h9, ?_, fun l1 hl1 => ?_⟩
                  · rw [List.length_map, List.length_map]
                    exact Nat.le_of_lt (small1000 (by omega))
                  refine ⟨l1, ys ++ mo, rfl, by rw [List.map_append]; exact upd_same, fun H11 s11 => ?_⟩
                  exact ⟨_, _, _, _, rfl, ((e9.same s10).new hl1).same s11, wordOf_okM _, fun h => absurd hw2 h⟩
              refine ⟨_, rfl, _, rfl, 97 + z5, mi, rfl, rfl, _, rfl, ?_⟩
              refine ite2 (fun _ => ?_) (fun _ => ?_)
              · refine ⟨by show 0 ≤ sizeLine; decide, fun mr hmr => ?_⟩
                exact key mr [] _ (Nat.zero_le _) upd_same (e80.new hmr) _
              · refine ⟨_, rfl, by show 1 ≤ sizeLine; decide, fun mr hmr => ?_⟩
                exact key mr [ltr z5] _ (Nat.le_refl _) upd_same (e80.new hmr) _
          · exact ⟨mi, _, _, _, rfl, e4, hmo, fun _ => rfl⟩
        · exact ⟨mi, _, _, _, rfl, Ev.refl e3.dr, hmo, fun _ => rfl⟩
      · rintro σ H4 ⟨tl, x11, x12, x13, rfl, e4, htl, hex⟩
        have e40 := e3.trans e4
        have hf4 : H4 fo = _ := e4.kp _ _ hf3 nfo.1 nfo.2
        refine ⟨_, rfl, .inl ⟨rfl, _, SqL.of hf4⟩, _, rfl, _, rfl, _, rfl, _, rfl, _, rfl, by show 5 ≤ sizeLine; decide, fun p hp => ?_⟩
        have hf5 := upd_keep (u := .tup [V.str kd.nm, V.int kd.ed, V.ref b, V.str (ltr kd.lt), V.str tl]) hf4 hp
        have hkl : ks'.length = i := by
          rw [K3.1, List.length_take]
          omega
        refine ⟨fo, _, _, rfl, rfl, hf5, by rw [List.length_map, R3'.1, hkl]; exact small1000 (by omega), ?_⟩
        have e5 := e40.new (o := .tup [V.str kd.nm, V.int kd.ed, V.ref b, V.str (ltr kd.lt), V.str tl]) hp
        have nfp : p ≠ fo := (ne_of_none hf4 hp).symm
        refine ⟨as' ++ [p], ks' ++ [setM kd tl], _, _, _, _, _, _, _, _, _, rfl, ⟨fun c o z a1 a2 => by rw [upd_ne (ne_of_none z hfoH)]; exact e5.kp c o z a1 a2, ?_⟩, ?_, ?_, ?_, ?_, ?_⟩
        · obtain ⟨m', t', gs', a1, a2, a3⟩ := e5.dr
          exact ⟨m', t', gs', by rw [upd_ne nfo.1.symm]; exact a1, by rw [upd_ne nfo.2.symm]; exact a2, a3⟩
        · have hm4 : H4 pm = _ := e4.kp _ _ hm3 npm.1 npm.2
          rw [upd_ne (ne_of (upd_keep hm4 hp) hf5 (by intro z; cases z))]
          exact upd_keep hm4 hp
        · rw [List.map_append]
          exact upd_same
        · have tk5 := ((e4.tk e3.dr).trans (tk_new (o := .tup [V.str kd.nm, V.int kd.ed, V.ref b, V.str (ltr kd.lt), V.str tl]) hp)).trans (tk_lst (o := .lst (as'.map V.ref ++ [V.ref p])) hf5)
          refine (R3'.tk tk5).snoc ⟨b, ?_, tk5 _ _ hb2⟩
          rw [upd_ne nfp]
          exact upd_same
        · rw [take_snoc hkd]
          refine ⟨by rw [List.length_append, List.length_append, K3.1]; rfl, fun j k1 k2 h1 h2 => ?_⟩
          rcases get_snoc h1 with c1 | ⟨c1, rfl⟩
          · rcases get_snoc h2 with c2 | ⟨c2, rfl⟩
            · exact K3.2 j k1 k2 c1 c2
            · have := (List.getElem?_eq_some_iff.mp c1).1
              rw [K3.1] at c2
              omega
          · rcases get_snoc h2 with c2 | ⟨c2, rfl⟩
            · have := (List.getElem?_eq_some_iff.mp c2).1
              rw [K3.1] at this
              omega
            · exact ⟨rfl, htl⟩
        · intro hw
          rw [List.map_append, X3 hw, take_snoc hmi2, List.map_append, hex hw]
          rfl
    · rintro σ H3 ⟨as', ks', v5, v6, v7, v8, v9, v10, v11, v12, v13, rfl, e3, hm3, hf3, R3', K3, X3⟩
      rw [List.length_map, R.1, List.take_of_length_le (Nat.le_refl _)] at K3
      rw [List.length_map, R.1, List.take_of_length_le (by omega)] at X3
      refine ⟨_, rfl, fo, _, rfl, .inl ⟨SqL.of hf3, fun t ht => ?_⟩⟩
      exact k t as' ks' ms _ K3 M X3 (e3.free D ht) upd_same (R3'.tk (tk_new ht)) (e3.new ht)
end
/-! ### a layout -/
/-- a drawn layout stands at t -/
structure LayAt (H : Hp) (t : Addr) (as : List Addr) (ks : List Kd) : Prop where
  tp : H t = some (.tup (as.map V.ref))
  rw : RowsAt H as ks
  fm : Frm ks
  l1 : 1 ≤ ks.length
  l2 : ks.length ≤ 24
end Cp

set_option Elab.async false
set_option linter.all false
set_option maxRecDepth 100000
/-! ### defs that are promised only where no repr is under way: what repr tells of a tuple hangs on that -/
namespace Cp
open PySem PySem.Spec L2 PyProof.Rows
structure GOk (P : Program) (w : World) (K : PySem.W.Frag) (mg : Str → Option Value) (base : Heap) (CX : CXT) (k : Nat) (f : Addr) (fd : FuncData) (ps : List Str) (sp : Sp) : Prop where
  len : ∀ vs H Q E, sp vs H Q E → vs.length = ps.length
  run : ∀ (A : Around) (outer : List Env) (s : Shared) (H : Hp) (args : Args) (us : List Value) (vs : List V) (Q : VK) (E : XK), A.guards = some [] → Room k A → Env0 P w K mg base A outer s H → BindsTo s fd args (ps.zip us) → Vals vs us →
    sp vs H Q E → codeAny (model P w) A (.call (.ref f) args) (CR CX outer P w H s Q E) s
theorem GOk.of {P : Program} {w : World} {K : PySem.W.Frag} {mg : Str → Option Value} {base : Heap} {CX : CXT} {k : Nat} {f : Addr} {fd : FuncData} {ps : List Str} {sp : Sp} (F : FnOk P w K mg base CX k f fd ps sp) : GOk P w K mg base CX k f fd ps sp :=
  ⟨F.len, fun A outer s H args us vs Q E _ hr e0 hb r h => F.run A outer s H args us vs Q E hr e0 hb r h⟩
theorem deeper_guards {A : Around} {env : Env} : (A.deeper env).guards = A.guards := rfl
section
variable {P : Program} {w : World} {K : PySem.W.Frag} {mg : Str → Option Value} {base : Heap}
/-- a def by its body, the guards known -/
theorem gfun_ok {CX : CXT} {x qual : Str} {st : Stmt} {f : Addr} {fd : FuncData} {N ps : List Str} {k : Nat} {sp : Sp} (F : Fun K x qual st f fd) (S : FnScope N ps (defScope st)) (len : ∀ vs H Q E, sp vs H Q E → vs.length = ps.length)
    (hbody : ∀ (cdv : Value) (A : Around) (outer : List Env) (s : Shared) (H : Hp) (vs : List V) (Q : VK) (E : XK), A.guards = some [] → Room k (A.deeper (envOfC qual (defScope st) s.heap.objs.size f cdv)) → sp vs H Q E →
      ∃ t, PSs (cxOf CX P w K mg base N qual (defScope st) f cdv A outer s H E) (defBody st) t ∧ t { nx := fun _ H' => Q .non H', rt := Q } (start N vs) H) : GOk P w K mg base CX (k + 1) f fd ps sp := by
  obtain ⟨oc, od, kV, doc, pm, an, cdv, ct, osl, efd, hlook, hcode⟩ := F.ex
  subst efd
  constructor
  · exact len
  intro A outer s H args us vs Q E hg hr e0 hb r hsp
  have heq := len _ _ _ _ hsp
  have inK : K.In s.heap := e0.mod.kin.keeps (fun b o e => (e0.bs b o e).1)
  have noL : s.heap.NoLimit := e0.mod.nolimit.keeps (fun b o e => (e0.bs b o e).1)
  have kinds : ∀ y ∈ ps.zip us, (defScope st).names.lookup y.1 = some .local ∨ ((defScope st).names.lookup y.1 = some .cell ∧ ((cellsFrom (s.heap.objs.size + 1) (defScope st).names []).lookup y.1).isSome = true) := by
    intro y hy
    have hp : y.1 ∈ ps := (List.of_mem_zip (show (y.1, y.2) ∈ ps.zip us from hy)).1
    cases S.par y.1 hp with
    | inl q => exact Or.inl q
    | inr q => exact Or.inr ⟨q, PySem.W.cellsFrom_some _ _ _ (Or.inl q)⟩
  refine codeAny_call_function hr.depth (inK _ _ hlook) rfl S.co S.gen rfl (PySem.W.codeRec_of inK hcode) (hb _ _ _ _ ?_)
  refine wpAny_newFunctionEnv_cells S.kind kinds ?_
  intro env henv s1 hin
  subst henv
  refine ⟨noL.keeps hin.toInCall.keep, codeAny_func ?_⟩
  obtain ⟨t, ht, hq⟩ := hbody cdv A outer s H vs Q E hg (hr.deeper _) hsp
  have I := inv_start (CX := CX) (E := E) S hr.hd e0 heq r hin
  have done : ∀ {σ' : L2.St} {H' : Hp} {v : V} {u : Value} {s' : Shared}, Inv (cxOf CX P w K mg base N qual (defScope st) f cdv A outer s H E) [] σ' H' s' → RelV v u → Q v H' → CE outer P w H s Q u s' := by
    intro σ' H' v u s' J rv q
    exact ⟨v, H', J.os, J.bare, J.base, J.hok, rv, q⟩
  refine wpAny_mono (ht.run [] s1 (start N vs) H _ I hq) ?_ (fun e s' hs => hs)
  intro fl s' hs
  match fl, hs with
  | .ret u, hs =>
    obtain ⟨v, σ', H', J, rv, q⟩ := hs
    exact done J rv q
  | .next, hs =>
    obtain ⟨σ', H', J, q⟩ := hs
    exact done (v := .non) (u := .none) J rfl q
  | .brk, hs =>
    obtain ⟨_, _, _, q⟩ := hs
    exact q.elim
  | .cont, hs =>
    obtain ⟨_, _, _, q⟩ := hs
    exact q.elim
end
section
variable {X : Cx} {k : Nat} {f : Addr} {fd : FuncData} {ps : List Str} {sp : Sp} {CX : CXT} {E : XK} {dvs : List V} {ds : List Value}
/-- f(e, ..) of such a def, from a def that knows the guards, too -/
theorem g_call {x : Str} {p pos : Pos} {e : Expr} {es : List Expr} {t : TA} (F : GOk X.prog X.w X.K X.mg X.base CX k f fd ps sp) (hgd : X.A.guards = some []) (hr : Room k X.A) (hg : Gl X x) (hm : X.mg x = some (.ref f)) (hk : PySem.W.keepIn X.K (.ref f) = true)
    (hb : Binds X.K fd ps ds) (hd : Vals dvs ds) (hx : Passes CX X E) (ha : PA X (e :: es) t) (hdb : (x == ("__debug__" : Str)) = false := by decide) (he : starEach (e :: es) X.env = (false, eval e X.env) :: starEach es X.env := by rfl)
    (hpl : (backTo pos (starEach es X.env)).any (·.1) = false := by rfl) : PE X (.Call (.Name x p) (e :: es) [] pos) (tCall sp dvs E t) := by
  constructor
  intro pins s σ H Q I h
  refine wpAny_Call_Name_kw (ld_glob I hg hm ?_ hdb)
  refine PySem.W.callWith_K (h₀ := X.base) I.ok.mod.kin hk (thn (ha.run pos pins s σ H _ I h) ?_) he hpl
  intro us s1 hres
  obtain ⟨vs, H1, I1, r1, q1⟩ := hres
  refine ⟨I1.kIn, ?_⟩
  have r2 : Vals (vs ++ dvs) (us ++ ds) := r1.append hd
  have hlen : (us ++ ds).length = ps.length := by
    rw [← r2.length]
    exact F.len _ _ _ _ q1
  have R := F.run X.A X.stack s1 H1 ⟨us, []⟩ (us ++ ds) (vs ++ dvs) Q E hgd hr I1.env0 (hb s1 us I1.kIn hlen) r2 q1
  refine wpAny_call (codeAny_mono R ?_)
  intro r s' hq
  match r, hq with
  | .error e, hq => exact hx pins σ H1 s1 e s' I1 hq
  | .ok (.ret u), hq => exact I1.after hq
  | .ok .next, hq => exact hq.elim
  | .ok .brk, hq => exact hq.elim
  | .ok .cont, hq => exact hq.elim
/-- repr of data -/
theorem call_reprD (hgd : X.A.guards = some []) (hu : X.A.units + 64 < cLine) : CallR X (.builtin "repr") (fun xs H Q => ∃ (a : Addr) (d : PyData), xs = [.ref a] ∧ Dp X.K H (.ref a) d ∧ d.showable = true ∧ d.hasDict = false ∧ d.depth ≤ 60 ∧ d.shown.length ≤ sizeLine ∧ Q (.str d.shown) H) := by
  intro pins s σ H xs us Q I r h
  obtain ⟨a, d, rfl, hd, h1, h2, h3, h4, q⟩ := h
  obtain ⟨u, rfl, rx⟩ := vals1 r
  cases rx
  obtain ⟨as, rd⟩ := Dp.reads I d (.ref a) _ hd rfl
  refine PySem.repr_of_reads' rd h1 (fun z => by rw [h2] at z; cases z) hgd (by omega) (fun b o e => e) (fun h' u tk hk => ?_) h4
  exact ⟨.str d.shown, H, I.kept hk, ⟨_, rfl⟩, q⟩
end
end Cp

set_option Elab.async false
set_option linter.all false
set_option maxRecDepth 100000
namespace Cp
open PySem PySem.Spec L2 PyProof.Rows
/-- the law's own call, its promise being asked of the caller alone (whose guards are known) -/
theorem glaw_call {P : Program} {w : World} {K : PySem.W.Frag} {mg mb : Str → Option Value} {CX : CXT} {k : Nat} {fa a : Addr} {fd : FuncData} {x : Str} {sp : Sp} {s₁ : Shared} {vs : List Value} {ns : List Int}
    (inK : K.In s₁.heap) (hns : s₁.heap.Ns mainGlobals mg) (hbn : s₁.heap.Ns builtinsNs mb) (hbb : ∀ y : Str, y ≠ "__name__" → mb y = bootBuiltins y) (nolim : s₁.heap.NoLimit) (hgens : s₁.gens = #[])
    (hat : s₁.heap.get? a = some { cls := .type "list", data := .seq vs.toArray }) (hints : IntsAre vs ns) (hsize : ns.length ≤ sizeLine) (hroom : Room k callerA)
    (F : ∀ base : Heap, K.In base → base.Ns mainGlobals mg → GOk P w K mg base CX k fa fd [x] sp) (hbind : ∀ (s : Shared) (u : Value), BindsTo s fd ⟨[u], []⟩ [(x, u)])
    (hsp : ∀ H : Hp, Only H → SqL K H a (ns.map V.int) → sp [.ref a] H (fun v _ => v = .bl true) fun _ _ _ => False)
    (hCX : ∀ H e s', CX [] H s₁ (fun _ _ _ => False) e s' → False) :
    codeAny (model P w) callerA (.call (.ref fa) ⟨[.ref a], []⟩) (fun r s' => r = .ok (.ret (.bool true)) ∧ OldK s₁.heap s'.heap ∧ s'.os = s₁.os ∧ AllBare s'.gens) s₁ := by
  have rel : Vals (ns.map V.int) vs := vals_ints hints
  have hlen := hints.length
  suffices main : ∀ H : Hp, Only H → SqL K H a (ns.map V.int) → HOk P w H s₁.heap → (∀ b, H b ≠ none → b = a ∧ K.lookup a = none) →
      codeAny (model P w) callerA (.call (.ref fa) ⟨[.ref a], []⟩) (fun r s' => r = .ok (.ret (.bool true)) ∧ OldK s₁.heap s'.heap ∧ s'.os = s₁.os ∧ AllBare s'.gens) s₁ by
    rcases hk : K.lookup a with _ | o
    · refine main (fun b => if b = a then some (HO.frz { cls := .type "list", data := .seq vs.toArray } (.lst (ns.map V.int))) else none) (fun b => ?_) (Or.inl (Or.inr ⟨{ cls := .type "list", data := .seq vs.toArray }, if_pos rfl⟩)) (fun b u z => ?_) (fun b z => ?_)
      · by_cases e : b = a
        · exact Or.inr ⟨_, _, if_pos e⟩
        · exact Or.inl (if_neg e)
      · by_cases e : b = a
        · have q := z.symm.trans (if_pos e)
          cases q
          rw [e]
          exact ⟨hat, (by rw [List.length_map]; exact hsize), vs, _, rel, hat⟩
        · have q := z.symm.trans (if_neg e)
          cases q
      · by_cases e : b = a
        · exact ⟨e, hk⟩
        · exact (z (if_neg e)).elim
    · have q := inK a o hk
      rw [hat] at q
      cases q
      exact main (fun _ => none) (fun _ => Or.inl rfl) (Or.inr ⟨_, vs.toArray, _, hk, rfl, rfl, rfl, (by rw [List.size_toArray, hlen]; exact hsize), (by simpa using rel)⟩) (fun b u z => by cases (show (none : Option HO) = some u from z)) (fun b z => (z rfl).elim)
  intro H only hS hok honly
  have keepB : ∀ {b : Addr} {o : Obj}, s₁.heap.get? b = some o → H b = none → (hidT s₁.heap H).get? b = some o := hidT_get
  have dictFree : ∀ {b : Addr} {o : Obj} {es : Array DictEntry} {ep : Nat}, s₁.heap.get? b = some o → o.data = .dict es ep → H b = none := by
    intro b o es ep e hd
    rcases q : H b with _ | u
    · rfl
    · have hb := (honly b (by rw [q]; exact fun z => nomatch z)).1
      rw [hb, hat] at e
      cases e
      exact nomatch hd
  have nsB : ∀ {b : Addr} {m : Str → Option Value}, s₁.heap.Ns b m → (hidT s₁.heap H).Ns b m := by
    intro b m h
    obtain ⟨o, es, ep, e, hd, r⟩ := h
    exact ⟨o, es, ep, keepB e (dictFree e hd), hd, r⟩
  have inB : K.In (hidT s₁.heap H) := by
    intro b o e
    refine keepB (inK b o e) ?_
    rcases q : H b with _ | u
    · rfl
    · obtain ⟨hb, hn⟩ := honly b (by rw [q]; exact fun z => nomatch z)
      rw [hb, hn] at e
      cases e
  have md : Mod K mg (hidT s₁.heap H) := by
    obtain ⟨mc, h1, h2⟩ := nolim
    exact ⟨inB, nsB hns, ⟨mb, nsB hbn, hbb⟩, ⟨mc, nsB h1, h2⟩⟩
  have noFr : ∀ b : Addr, ¬ b ∈ frs [] := fun b z => by cases z
  have env : Env0 P w K mg (hidT s₁.heap H) callerA [] s₁ H := ⟨rfl, md, fun _ _ e => of_hidT e, Nat.le_of_eq (hidT_size _ _), trivial, fun b hb => (noFr b hb).elim, hok, .of_eq hgens⟩
  have R := (F _ inB (nsB hns)).run callerA [] s₁ H ⟨[.ref a], []⟩ [.ref a] [.ref a] _ _ rfl hroom env (hbind s₁ (.ref a)) (.cons rfl .nil) (hsp H only hS)
  refine codeAny_mono R ?_
  intro r s' h
  match r, h with
  | .error e, h => exact (hCX H e s' h).elim
  | .ok .next, h => exact h.elim
  | .ok .brk, h => exact h.elim
  | .ok .cont, h => exact h.elim
  | .ok (.ret u), h =>
    obtain ⟨v, H', hos, hbare, hun, hok', hrel, hq⟩ := h
    have hv : v = .bl true := hq
    rw [hv] at hrel
    have hu : u = Value.bool true := hrel
    subst hu
    refine ⟨rfl, OldK.of_keep ?_, hos, hbare⟩
    intro b o e
    rcases only b with z | ⟨ob, xs, z⟩
    · exact hun.keep b o e z (noFr b) (fun q => by cases q)
    · have g1 := (hok b _ z).1
      have g2 := (hok' b _ (hun.frzs b ob _ z)).1
      rw [e] at g1
      cases g1
      exact g2
theorem gwalk_of {l : PySem.W.OpenLaw} {n k : Nat} {q : Program} {loose : List Str} {XP : (Str → Option Value) → Heap → Prop} {YP : World → Heap → Prop} {d : DefRec} {K : Params → PySem.W.Frag} {CX : World → CXT} {sp : World → Sp} {x : Str}
    (hn : l.most = some n) (hn2 : n ≤ sizeLine) (hdf : d.params.defaults = []) (hr : Room k callerA) (hY : ∀ (w : World) (h : Heap), YP w h → (K w.params).In h)
    (F : ∀ (w : World) (mg : Str → Option Value) (fa : Addr) (h : Heap), (K w.params).In h → h.Ns mainGlobals mg → mg d.name = some (.ref fa) → ∃ fd : FuncData, (∀ (s : Shared) (u : Value), BindsTo s fd ⟨[u], []⟩ [(x, u)]) ∧
      ∀ base : Heap, (K w.params).In base → base.Ns mainGlobals mg → GOk l.prog w (K w.params) mg base (CX w) k fa fd [x] (sp w))
    (hsp : ∀ (w : World) (H : Hp) (a : Addr) (ns : List Int), ns.length ≤ n → Only H → SqL (K w.params) H a (ns.map V.int) → sp w [.ref a] H (fun v _ => v = .bl true) fun _ _ _ => False)
    (hCX : ∀ (w : World) (H : Hp) (s : Shared) (e : Value) (s' : Shared), CX w [] H s (fun _ _ _ => False) e s' → False) :
    PySem.W.WalkO q loose XP YP l.row.toRowW d [] (fun f vs => PySem.call f vs) := by
  refine Att.attach_call hn hdf ?_
  intro w s₀ s₁ mg mb fa o pm cd doc a vs ns G Y ho hd hcd hmg hobj hints hlen hg
  obtain ⟨fd, hb, hF⟩ := F w mg fa s₁.heap (hY w _ Y) G.T.g hmg
  exact glaw_call (hY w _ Y) G.T.g G.T.b G.T.builtins G.T.nolimit hg hobj hints (Nat.le_trans hlen hn2) hr hF hb (fun H hO hS => hsp w H a ns hlen hO hS) (fun H e s' => hCX w H s₁ e s')
end Cp

set_option Elab.async false
set_option linter.all false
set_option maxRecDepth 100000
/-! ### try: .. except x as n: caught = n; what is behind it may still read the error: it stays pinned -/
namespace Cp
open PySem PySem.Spec L2 PyProof.Rows
/-- the context in which some more objects are pinned -/
abbrev held (X : Cx) (pn : List (Addr × Obj)) : Cx := { X with pn := pn }
section
variable {X : Cx} {pins : List (Addr × Obj)} {σ : L2.St} {H : Hp} {s : Shared}
theorem held_ok (ok : X.Ok) (pn : List (Addr × Obj)) : (held X pn).Ok where
  mod := ok.mod
  kind := ok.kind
  glob := ok.glob
  blt := ok.blt
  above := ok.above
  inj := ok.inj
  has := ok.has
  cab := ok.cab
  hd := ok.hd
  frames := ok.frames
  stk := ok.stk
  exf := ok.exf
  bs := ok.bs
  bsz := ok.bsz
  noex := ok.noex
  exfs := ok.exfs
  funs := ok.funs
  frf := ok.frf
theorem held_of {a : Addr} {pn : List (Addr × Obj)} (J : Inv (X.suite a pn) [] σ H s) (ok : X.Ok) : Inv (held X pn) [] σ H s where
  ok := held_ok ok pn
  os := J.os
  bare := J.bare
  base := J.base
  loc := J.loc
  cell := J.cell
  free := J.free
  freeC := J.freeC
  pin := J.pin
  hok := J.hok
  len := J.len
theorem unheld {q : Addr × Obj} {more : List (Addr × Obj)} (J : Inv (held X (q :: (X.pn ++ pins))) more σ H s) (ok : X.Ok) : Inv X pins σ H s where
  ok := ok
  os := J.os
  bare := J.bare
  base := J.base
  loc := J.loc
  cell := J.cell
  free := J.free
  freeC := J.freeC
  pin := fun p hp => J.pin p (List.mem_append_left _ (List.mem_cons_of_mem _ hp))
  hok := J.hok
  len := J.len
theorem sp_unheld {q : Addr × Obj} {D : Ends} {f : Flow} (ok : X.Ok) (h : SP (held X (q :: (X.pn ++ pins))) [] D f s) : SP X pins D f s := by
  match f, h with
  | .next, h =>
    obtain ⟨σ1, H1, J, z⟩ := h
    exact ⟨σ1, H1, unheld J ok, z⟩
  | .brk, h =>
    obtain ⟨σ1, H1, J, z⟩ := h
    exact ⟨σ1, H1, unheld J ok, z⟩
  | .cont, h =>
    obtain ⟨σ1, H1, J, z⟩ := h
    exact ⟨σ1, H1, unheld J ok, z⟩
  | .ret u, h =>
    obtain ⟨v, σ1, H1, J, r, z⟩ := h
    exact ⟨v, σ1, H1, unheld J ok, r, z⟩
end
/-- what is wished of an error of the body: behind the suite ue is read, in which the error is still held -/
def wKeep (K : PySem.W.Frag) (c : Value) (i : Nat) (ts ue : Addr → Value → Option Addr → TS) (Wout : WX) (D : Ends) : WX := fun cls d σ H =>
  ∃ b, PySem.W.exmOne K cls c = some b ∧
    (b = true → ∀ a, H a = none → ts a cls d { nx := fun σ1 H1 => ue a cls d D (σ1.set i none) H1, rt := D.rt, bk := fun σ1 H1 => D.bk (σ1.set i none) H1, ct := fun σ1 H1 => D.ct (σ1.set i none) H1 } (σ.set i (some (.ref a))) H) ∧
    (b = false → Wout cls d σ H)
section
variable {X : Cx} {x n : Str} {c : Value} {i : Nat} {body suite rest : List Stmt} {b₀ : Stmt} {np pos pos' : Pos} {tb : WX → TS} {u : TS} {ts ue : Addr → Value → Option Addr → TS} {Wout : WX}
theorem pss_try_keep (hs : X.stack = X.env :: X.outer) (hf : X.env.frame = some X.env.locals) (hN : X.N.Nodup) (hi : X.N[i]? = some n) (hln : X.env.kindOf n = some .local) (hc : Names X x c) (tk : Takes X Wout)
    (hb : ∀ (W : WX) (pn : List (Addr × Obj)) (xe : Value → Shared → Prop), Takes (X.tr pn xe) W → PassesOwn (model X.prog X.w) X.A X.env xe → PSs (X.tr pn xe) body (tb W))
    (hsu : ∀ (a : Addr) (oe : Obj) (cls : Value) (d : Option Addr) (pn : List (Addr × Obj)), Zc cls d oe → (∃ vs, oe.data = .fields vs) → PSs (X.suite a ((a, oe) :: pn)) (b₀ :: suite) (ts a cls d))
    (hrest : PSs X rest u) (hheld : ∀ (a : Addr) (oe : Obj) (cls : Value) (d : Option Addr) (pn : List (Addr × Obj)), Zc cls d oe → (∃ vs, oe.data = .fields vs) → PSs (held X ((a, oe) :: pn)) rest (ue a cls d)) :
    PSs X (.Try body [.ExceptHandler (some (.Name x np)) (some n) (b₀ :: suite) pos'] [] [] pos :: rest) (fun D σ H => tb (wKeep X.K c i ts ue Wout D) { D with nx := u D } σ H) := by
  constructor
  intro pins s σ H D I h
  have ok := I.ok
  have frm : X.A.frames = some (X.env :: X.outer) := by
    rw [ok.frames, hs]
  have locN : Loc X.env.scope n := Or.inl hln
  refine wpAny_execs_cons (wpAny_Try_except ?_)
  have Qn : ∀ (s1 : Shared), (∃ σ1 H1, Inv X pins σ1 H1 s1 ∧ u D σ1 H1) → wpAny (model X.prog X.w) X.A (execs rest X.env) (SP X pins D) X.xe s1 := by
    intro s1 z
    obtain ⟨σ1, H1, J, q⟩ := z
    exact hrest.run pins s1 σ1 H1 D J q
  refine wpAny_mono ((hb (wKeep X.K c i ts ue Wout D) (X.pn ++ pins) _ ?ca PassesOwn.looking).run [] s σ H { D with nx := u D } (I.toTry _) h) ?en (fun e s1 he => he)
  case en =>
    intro f s1 hsp
    match f, hsp with
    | .next, hsp =>
      obtain ⟨σ1, H1, J, q⟩ := hsp
      exact wpAny_execs_nil (Qn _ ⟨σ1, H1, J.ofTry ok, q⟩)
    | .brk, hsp =>
      obtain ⟨σ1, H1, J, q⟩ := hsp
      exact ⟨σ1, H1, J.ofTry ok, q⟩
    | .cont, hsp =>
      obtain ⟨σ1, H1, J, q⟩ := hsp
      exact ⟨σ1, H1, J.ofTry ok, q⟩
    | .ret v1, hsp =>
      obtain ⟨v, σ1, H1, J, r, q⟩ := hsp
      exact ⟨v, σ1, H1, J.ofTry ok, r, q⟩
  case ca =>
    intro ev s2 hx
    obtain ⟨a, B, sI, pinsI, σI, HI, cls, d, ea, JI, kB, upI, skyI, na, osI, bareI, b, hb1, yes, no⟩ := hx
    subst ea
    have J : Inv X pins σI HI sI := JI.ofTry ok
    have sky : Sky B (X.env :: X.outer) a (Zc cls d) X.env.locals s2.heap := by
      rw [← hs]
      exact skyI
    show wpAny (model X.prog X.w) X.A (noteFrame (.ref a) X.env) _ _ _
    refine Sky.land Zc.steady frm hf sky ?_
    intro h3 fl3 up3
    have J3 : Inv X pins σI HI { s2 with heap := h3 } := J.landed kB fl3.1 (upI.trans up3) osI bareI
    obtain ⟨oe3, vs3, he3, hz3, hd3⟩ := fl3.there
    have away : a ∉ frs (X.env :: X.outer) := by
      intro hm
      obtain ⟨_, o', e', hnf⟩ := fl3.2.2.1.mem hm
      rw [he3] at e'
      cases e'
      exact hnf _ hd3
    have awayL : a ≠ X.env.locals := by
      intro z
      refine away (List.mem_filterMap.mpr ⟨X.env, List.mem_cons_self, ?_⟩)
      rw [hf, z]
    have awayF : a ∉ X.fs := by
      intro hm
      obtain ⟨e, he, q⟩ := List.mem_filterMap.mp hm
      exact away (List.mem_filterMap.mpr ⟨e, List.mem_cons_of_mem _ he, q⟩)
    have S3 := J3.suite he3 hd3 na awayL awayF
    refine wpAny_handleBy_cons (codeAny_handlers_test ?_) (fun q => by cases q)
    have ty3 : PySem.W.Looks (model X.prog X.w) h3 (typeOf (.ref a)) cls := by
      intro A Q E s' k q
      refine wpAny_typeOf_ref (k _ _ he3) ?_
      rw [hz3.1]
      exact q
    have ask := PySem.W.exm_one (M := model X.prog X.w) J3.kIn ty3 hb1
    have named : ∀ {Q : Value → Shared → Prop} {E : Value → Shared → Prop}, Q c { s2 with heap := h3 } → wpAny (model X.prog X.w) (X.A.mark (some (.ref a))) (eval (.Name x np) X.env) Q E { s2 with heap := h3 } := by
      intro Q E q
      obtain ⟨hg, hdb, hm⟩ := hc
      rcases hm with hm | ⟨hm, hv, hnn⟩
      · exact ld_glob (X := X.suite a ((a, oe3) :: (X.pn ++ pins))) S3 hg hm q hdb
      · exact ld_blt (X := X.suite a ((a, oe3) :: (X.pn ++ pins))) S3 hg hm hv q hnn hdb
    refine named (ask.here ?_)
    match b, yes, no with
    | true, yes, _ =>
      refine codeAny_handlers_suite_as (HandSPX.lands_againZ fl3 ?_)
      intro h4 fl4 up4
      have J4 : Inv X pins σI HI { s2 with heap := h4 } := J.landed kB fl4.1 ((upI.trans up3).trans up4) osI bareI
      obtain ⟨oe4, vs4, he4, hz4, hd4⟩ := fl4.there
      have S4 := J4.suite he4 hd4 na awayL awayF
      refine store_ok (X := X.suite a ((a, oe4) :: (X.pn ++ pins))) (v := .ref a) S4 hN hi locN rfl ?_ (Or.inr hln)
      intro s5 S5
      refine wpAny_mono ((hsu a oe4 cls d (X.pn ++ pins) hz4 ⟨_, hd4⟩).run [] s5 _ HI _ S5 (yes rfl a na)) ?_ (fun _ _ z => z.elim)
      intro f s6 hsp
      match f, hsp with
      | .next, hsp =>
        obtain ⟨σ6, H6, S6, q6⟩ := hsp
        refine gone_ok (X := held X ((a, oe4) :: (X.pn ++ pins))) (held_of S6 ok) hN hi hln ?_
        intro s7 J7
        exact thn ((hheld a oe4 cls d (X.pn ++ pins) hz4 ⟨_, hd4⟩).run [] s7 _ H6 D J7 q6) (fun f' s' z => sp_unheld ok z)
      | .brk, hsp =>
        obtain ⟨σ6, H6, S6, q6⟩ := hsp
        exact gone_ok (S6.unsuite ok) hN hi hln (fun s7 J7 => ⟨_, _, J7, q6⟩)
      | .cont, hsp =>
        obtain ⟨σ6, H6, S6, q6⟩ := hsp
        exact gone_ok (S6.unsuite ok) hN hi hln (fun s7 J7 => ⟨_, _, J7, q6⟩)
      | .ret u6, hsp =>
        obtain ⟨v6, σ6, H6, S6, r6, q6⟩ := hsp
        exact gone_ok (S6.unsuite ok) hN hi hln (fun s7 J7 => ⟨_, _, _, J7, r6, q6⟩)
    | false, _, no =>
      show wpAny _ X.A (handleBy (.ref a) X.env []) _ _ _
      refine wpAny_handleBy_nil ?_
      obtain ⟨_, _, _, oe, vs, T, oT, ts', he, hz, hd, h1, hr⟩ := id fl3
      unfold PySem.passOn
      refine wpAny_bind (wpAny_field he hd h1 ?_)
      rw [if_neg (show ¬ ((Value.ref T == Value.none) = true) by simp)]
      have on : ∀ {Q : Flow → Shared → Prop}, wpAny (model X.prog X.w) X.A (setFlight (.ref a) X.env.frame) (fun _ s4 => wpAny (model X.prog X.w) X.A (throw (.ref a) : Sem Flow) Q X.xe s4) X.xe { s2 with heap := h3 } := by
        intro Q
        rw [hf]
        refine HandSPX.setFlight_upZ fl3 ?_
        intro h4 hh4 up4
        refine wpAny_throw (tk _ _ ?_)
        refine ⟨a, B, sI, pins, σI, HI, cls, d, rfl, J, kB, (upI.trans up3).trans up4, Or.inr (Or.inr ?_), na, osI, bareI, no rfl⟩
        rw [hs]
        exact hh4
      first
        | exact wpAny_bind (wpAny_pure (wpAny_bind on))
        | exact wpAny_bind on
end
end Cp

set_option Elab.async false
set_option linter.all false
set_option maxRecDepth 100000
namespace Cp
open PySem PySem.Spec L2 PyProof.Rows
/-- what is never read -/
theorem pe_no {X : Cx} {e : Expr} : PE X e (fun _ _ _ => False) := ⟨fun _ _ _ _ _ _ h => h.elim⟩
/-- caught.f, the error being held -/
theorem pe_heldf {X : Cx} {a C : Addr} {oe : Obj} {cls : Value} {d : Option Addr} {pn : List (Addr × Obj)} {e : Expr} {te : TE} {pos : Pos} {n : Str} (T : XfC X.K C) (noF : PySem.W.findIn X.K (.ref C) n = some none)
    (hz : Zc cls d oe) (hf : ∃ vs, oe.data = .fields vs) (he : PE (held X ((a, oe) :: pn)) e te) (hb : attributeBase e n X.env (eval e X.env) = eval e X.env := by rfl) :
    PE (held X ((a, oe) :: pn)) (.Attribute e n pos) (tXf a cls d C n te) := by
  constructor
  intro pins s σ H Q I h
  refine attr_of hb (thn (he.run pins s σ H _ I h) ?_)
  intro u s1 hh
  obtain ⟨x, H1, I1, rx, ex, ec, dd, fs, v, ed, ea, look, q⟩ := hh
  subst ex ec ed
  have hu : u = Value.ref a := rx
  subst hu
  have pinned := (I1.pin (a, oe) (List.mem_append_left _ List.mem_cons_self)).1
  obtain ⟨vs, hd⟩ := hf
  have dictAt : ObjOk X.prog X.w H1 s1.heap dd (.xd fs) := I1.hok dd _ ea
  obtain ⟨mA, hns, hr⟩ := dictAt
  obtain ⟨od, ho, hl⟩ := lookIn_ns hns
  have some_ := RelO.some_of (v := v) (o := mA n) (by rw [← look]; exact hr n)
  obtain ⟨u, hu, ru⟩ := some_
  have inst : PySem.W.InstAt s1.heap a oe C (some od) := by
    refine ⟨pinned, hz.1, ?_, ?_⟩
    · unfold PySem.W.notCls
      rw [hd]
    · rw [hz.2]
      exact ho
  have found := PySem.W.findObj_own T.hdC noF rfl (show _ = _ by rw [hl, hu])
  exact HandSPX.exc_get I1.kIn inst T.ga T.gg T.exC found (handed_of ru) ⟨v, H1, I1.tok _, ru, q⟩
end Cp

set_option Elab.async false
set_option linter.all false
set_option maxRecDepth 100000
namespace Cp
open PySem L2
/-! ### data whose repr is told, and how long it is -/
mutual
def okD : PyData → Bool
  | .none => true
  | .bool _ => true
  | .int i => decide (0 ≤ i) && decide (i < 10 ^ 10)
  | .str x => x.cps.toList.all fun c => decide (c < 16 ^ 8)
  | .list xs => okDs xs
  | .tuple xs => okDs xs
  | .dict _ => false
def okDs : List PyData → Bool
  | [] => true
  | x :: r => okD x && okDs r
end
mutual
def szD : PyData → Nat
  | .none => 4
  | .bool _ => 5
  | .int _ => 10
  | .str x => 10 * x.length + 2
  | .list xs => szDs xs + 3
  | .tuple xs => szDs xs + 3
  | .dict _ => 0
def szDs : List PyData → Nat
  | [] => 0
  | x :: r => szD x + 2 + szDs r
end
theorem log_small {i : Int} (h0 : 0 ≤ i) (h : i < 10 ^ 10) : i.natAbs.log2 < 1920 := by
  by_cases z : i.natAbs = 0
  · rw [z]
    decide
  · have e34 : (2 : Nat) ^ 34 = 17179869184 := by decide
    have hb : i.natAbs < 2 ^ 34 := by
      rw [e34]
      omega
    have q : i.natAbs.log2 < 34 := (Nat.log2_lt z).mpr hb
    omega
mutual
theorem okD_show : ∀ d : PyData, okD d = true → d.showable = true
  | .none, _ => by simp [PyData.showable]
  | .bool _, _ => by simp [PyData.showable]
  | .int i, h => by
    unfold okD at h
    simp only [Bool.and_eq_true, decide_eq_true_eq] at h
    simp [PyData.showable, log_small h.1 h.2]
  | .str _, _ => by simp [PyData.showable]
  | .list xs, h => by
    unfold okD at h
    simp [PyData.showable, okDs_show xs h]
  | .tuple xs, h => by
    unfold okD at h
    simp [PyData.showable, okDs_show xs h]
  | .dict _, h => by simp [okD] at h
theorem okDs_show : ∀ ds : List PyData, okDs ds = true → PyData.showableAll ds = true
  | [], _ => by simp [PyData.showableAll]
  | x :: r, h => by
    unfold okDs at h
    simp only [Bool.and_eq_true] at h
    simp [PyData.showableAll, okD_show x h.1, okDs_show r h.2]
end
mutual
theorem okD_dict : ∀ d : PyData, okD d = true → d.hasDict = false
  | .none, _ => by simp [PyData.hasDict]
  | .bool _, _ => by simp [PyData.hasDict]
  | .int i, h => by simp [PyData.hasDict]
  | .str _, _ => by simp [PyData.hasDict]
  | .list xs, h => by
    unfold okD at h
    simp [PyData.hasDict, okDs_dict xs h]
  | .tuple xs, h => by
    unfold okD at h
    simp [PyData.hasDict, okDs_dict xs h]
  | .dict _, h => by simp [okD] at h
theorem okDs_dict : ∀ ds : List PyData, okDs ds = true → PyData.hasDictAll ds = false
  | [], _ => by simp [PyData.hasDictAll]
  | x :: r, h => by
    unfold okDs at h
    simp only [Bool.and_eq_true] at h
    simp [PyData.hasDictAll, okD_dict x h.1, okDs_dict r h.2]
end
theorem shown_sum : ∀ ds : List PyData, (∀ d ∈ ds, d.shown.length ≤ szD d) → ((PyData.shownAll ds).map (·.length)).sum + 2 * (PyData.shownAll ds).length ≤ szDs ds
  | [], _ => by simp [PyData.shownAll, szDs]
  | x :: r, h => by
    have h1 := h x List.mem_cons_self
    have h2 := shown_sum r fun d hd => h d (List.mem_cons_of_mem _ hd)
    unfold PyData.shownAll szDs
    simp only [List.map_cons, List.sum_cons, List.length_cons]
    omega
mutual
theorem okD_len : ∀ d : PyData, okD d = true → d.shown.length ≤ szD d
  | .none, _ => by unfold PyData.shown szD; decide +kernel
  | .bool true, _ => by unfold PyData.shown szD; decide +kernel
  | .bool false, _ => by unfold PyData.shown szD; decide +kernel
  | .int i, h => by
    unfold okD at h
    simp only [Bool.and_eq_true, decide_eq_true_eq] at h
    unfold PyData.shown szD
    exact PyProof.Rows.toString_length_le h.1 (by decide) h.2
  | .str x, h => by
    unfold okD at h
    unfold PyData.shown szD
    refine PySem.StrLaws.reprText_len x fun c hc => ?_
    exact of_decide_eq_true (List.all_eq_true.mp h c hc)
  | .list xs, h => by
    unfold okD at h
    unfold PyData.shown szD
    have h1 := listText_len_le (PyData.shownAll xs)
    have h2 := shown_sum xs (okDs_len xs h)
    omega
  | .tuple xs, h => by
    unfold okD at h
    unfold PyData.shown szD
    have h1 := tupleText_len_le (PyData.shownAll xs)
    have h2 := shown_sum xs (okDs_len xs h)
    omega
  | .dict _, h => by simp [okD] at h
theorem okDs_len : ∀ ds : List PyData, okDs ds = true → ∀ d ∈ ds, d.shown.length ≤ szD d
  | [], _, d, hd => by simp at hd
  | x :: r, h, d, hd => by
    unfold okDs at h
    simp only [Bool.and_eq_true] at h
    rcases List.mem_cons.mp hd with e | hd
    · rw [e]
      exact okD_len x h.1
    · exact okDs_len r h.2 d hd
end
/-! ### names, kinds, layouts as data -/
def kdD (k : Kd) : PyData := .tuple [.str k.nm, .int k.ed, .tuple (k.bs.map PyData.str), .str (ltr k.lt), .str k.mrk]
def layD (ks : List Kd) : PyData := .tuple (ks.map kdD)
theorem okS_codes {x : Str} (h : okS x = true) : (x.cps.toList.all fun c => decide (c < 16 ^ 8)) = true := by
  unfold okS at h
  rw [List.all_eq_true] at h ⊢
  intro c hc
  have := h c hc
  unfold okC at this
  simp at this
  exact decide_eq_true (by omega)
theorem okN_S {x : Str} (h : okN x = true) : okS x = true ∧ 1 ≤ x.length ∧ x.length ≤ 8 := by
  unfold okN at h
  simp only [Bool.and_eq_true, decide_eq_true_eq] at h
  exact ⟨h.2, h.1.1, h.1.2⟩
theorem okM_S {x : Str} (h : okM x = true) : okS x = true := by
  unfold okM at h
  simp only [Bool.and_eq_true] at h
  exact h.1
theorem strs_ok : ∀ bs : List Str, (∀ b ∈ bs, okN b = true) → okDs (bs.map PyData.str) = true ∧ szDs (bs.map PyData.str) ≤ 84 * bs.length
  | [], _ => by simp [okDs, szDs]
  | b :: r, h => by
    obtain ⟨h1, h2⟩ := strs_ok r fun x hx => h x (List.mem_cons_of_mem _ hx)
    obtain ⟨a1, a2, a3⟩ := okN_S (h b List.mem_cons_self)
    refine ⟨?_, ?_⟩
    · rw [List.map_cons]
      unfold okDs
      rw [h1]
      unfold okD
      rw [okS_codes a1]
      rfl
    · rw [List.map_cons]
      unfold szDs szD
      rw [List.length_cons]
      omega
theorem asc_bound : ∀ (l : List Nat) (a : Nat), asc (a :: l) = true → (∀ c ∈ a :: l, c ≤ 122) → a + (a :: l).length ≤ 123
  | [], a, _, h => by
    have := h a List.mem_cons_self
    simp
    omega
  | b :: r, a, h, hc => by
    unfold asc at h
    simp only [Bool.and_eq_true, decide_eq_true_eq] at h
    have := asc_bound r b h.2 fun c hm => hc c (List.mem_cons_of_mem _ hm)
    simp only [List.length_cons] at *
    omega
theorem okM_len {x : Str} (h : okM x = true) : x.length ≤ 26 := by
  have hS := okM_S h
  unfold okM at h
  simp only [Bool.and_eq_true] at h
  have hl : x.length = x.cps.toList.length := (Array.length_toList).symm
  rw [hl]
  unfold okS at hS
  rw [List.all_eq_true] at hS
  generalize x.cps.toList = l at *
  cases l with
  | nil => exact Nat.zero_le _
  | cons a r =>
    have h97 : 97 ≤ a ∧ a ≤ 122 := by
      have := hS a List.mem_cons_self
      unfold okC at this
      simp at this
      exact this
    have := asc_bound r a h.2 fun c hc => by
      have := hS c hc
      unfold okC at this
      simp at this
      exact this.2
    omega
theorem kd_ok {k : Kd} (o : OkK k) : okD (kdD k) = true ∧ szD (kdD k) ≤ 1000 := by
  obtain ⟨b1, b2⟩ := strs_ok k.bs o.bo
  obtain ⟨a1, a2, a3⟩ := okN_S o.nm
  have m1 := okM_S o.mr
  have m2 := okM_len o.mr
  have e1 := o.e1
  have e2 := o.e2
  have bl := o.bl
  refine ⟨?_, ?_⟩
  · unfold kdD
    simp only [okD, okDs, Bool.and_true]
    rw [okS_codes a1, b1, okS_codes (ltr_okS o.lt), okS_codes m1]
    simp
    omega
  · unfold kdD
    simp only [szD, szDs]
    rw [ltr_len]
    omega
theorem lay_ok : ∀ ks : List Kd, (∀ k ∈ ks, OkK k) → okDs (ks.map kdD) = true ∧ szDs (ks.map kdD) ≤ 1002 * ks.length
  | [], _ => by simp [okDs, szDs]
  | k :: r, h => by
    obtain ⟨h1, h2⟩ := lay_ok r fun x hx => h x (List.mem_cons_of_mem _ hx)
    obtain ⟨a1, a2⟩ := kd_ok (h k List.mem_cons_self)
    refine ⟨?_, ?_⟩
    · rw [List.map_cons]
      unfold okDs
      rw [h1, a1]
      rfl
    · rw [List.map_cons]
      unfold szDs
      rw [List.length_cons]
      omega
theorem dp_strs {K : PySem.W.Frag} {H : Hp} : ∀ bs : List Str, DpAll K H (bs.map V.str) (bs.map PyData.str)
  | [] => .nil
  | b :: r => .cons (.str b) (dp_strs r)
theorem dp_row {K : PySem.W.Frag} {H : Hp} {p : Addr} {k : Kd} (r : RowAt H p k) : Dp K H (.ref p) (kdD k) := by
  obtain ⟨b, h1, h2⟩ := r
  exact .tup (SqT.of h1) (.cons (.str _) (.cons (.int _) (.cons (.tup (SqT.of h2) (dp_strs _)) (.cons (.str _) (.cons (.str _) .nil)))))
theorem dp_rows {K : PySem.W.Frag} {H : Hp} : ∀ {as : List Addr} {ks : List Kd}, RowsAt H as ks → DpAll K H (as.map V.ref) (ks.map kdD)
  | [], [], _ => .nil
  | [], _ :: _, r => by have := r.1; simp at this
  | _ :: _, [], r => by have := r.1; simp at this
  | a :: as, k :: ks, r => .cons (dp_row (r.2 0 a k rfl rfl)) (dp_rows ⟨by have := r.1; simpa using this, fun i p q h1 h2 => r.2 (i + 1) p q (by simpa using h1) (by simpa using h2)⟩)
theorem dp_lay {K : PySem.W.Frag} {H : Hp} {t : Addr} {as : List Addr} {ks : List Kd} (L : LayAt H t as ks) : Dp K H (.ref t) (layD ks) := .tup (SqT.of L.tp) (dp_rows L.rw)
theorem dep_strs : ∀ bs : List Str, PyData.depthAll (bs.map PyData.str) = 0
  | [] => by simp [PyData.depthAll]
  | b :: r => by simp [PyData.depthAll, PyData.depth, dep_strs r]
theorem dep_kd (k : Kd) : (kdD k).depth = 2 := by
  unfold kdD
  simp [PyData.depth, PyData.depthAll, dep_strs]
theorem dep_kds : ∀ ks : List Kd, PyData.depthAll (ks.map kdD) ≤ 2
  | [] => by simp [PyData.depthAll]
  | k :: r => by
    have := dep_kds r
    simp only [List.map_cons, PyData.depthAll, dep_kd]
    omega
end Cp

set_option Elab.async false
set_option linter.all false
set_option maxRecDepth 100000
/-! ### enumerate(a tuple) -/
namespace Cp
open PySem PySem.Spec PyProof.Rows
open Sem (wp)
open AutoSeq1 (wpAny_loadPart')
abbrev itT (t : Addr) : Obj := { cls := .type "tuple_iterator", data := .fields #[.ref t, .int 0 0] }
abbrev enO (a : Addr) : Obj := { cls := .type "enumerate", data := .fields #[.none, .bool false, .ref a, rawInt 0, .none, .none] }
set_option maxHeartbeats 2000000 in
theorem enum_newT (l : Addr) (items : Array Value) (n : Nat) (dct : Option Addr) (sl : Array (Option Value)) :
    Meets (Builtin.«enumerate.__new__» ⟨[.type "enumerate", .ref l], []⟩) (fun _ R s => s.heap.get? l = some { cls := .type "tuple", dict := dct, data := .seq items n, slots := sl } ∧ R (.ok (.ret (.ref (s.heap.push (itT l)).objs.size))) { s with heap := (s.heap.push (itT l)).push (enO s.heap.objs.size) }) :=
  .of_wp fun prog w A R s h => by
    obtain ⟨hp, g, d, tk, os⟩ := s
    obtain ⟨hl, h⟩ := h
    have sub := sub_enumerate
    have hT : Heap.IsTuple (Shared.heap ⟨hp, g, d, tk, os⟩) l items := ⟨_, hl, rfl, n, rfl⟩
    wp_walk using wpAny_loadPart' hl
    refine wpAny_stack_any fun st => wpAny_pure ?_
    split
    · (rename_i c _ _ _ _ _); cases (c == Value.type "enumerate")
      · (wp_walk using wpAny_loadPart' hl, wpAny_pyIter_tuple hT); exact ⟨_, rfl, h⟩
      · (wp_walk using wpAny_loadPart' hl, wpAny_pyIter_tuple hT); exact ⟨_, rfl, h⟩
    · (wp_walk using wpAny_loadPart' hl, wpAny_pyIter_tuple hT); exact ⟨_, rfl, h⟩
section
variable {prog : Program} {w : World} {A : Around} {E : Value → Shared → Prop} {s : Shared}
theorem enum_tuple {l : Addr} {items : Array Value} {Q : Value → Shared → Prop} (hT : s.heap.IsTuple l items)
    (h : ∀ h', IsEnum h' (s.heap.objs.size + 1) s.heap.objs.size 0 .none → h'.IsTupleIter s.heap.objs.size l 0 → (∀ b o, s.heap.get? b = some o → h'.get? b = some o) → Q (.ref (s.heap.objs.size + 1)) { s with heap := h' }) :
    wpAny (model prog w) A (call (.type "enumerate") [.ref l]) Q E s := by
  obtain ⟨⟨c, dct, dt, sl⟩, hl, hc, n, hd⟩ := hT
  cases (show c = .type "tuple" from hc)
  cases (show dt = .seq items n from hd)
  refine callType_new F.called_enumerate (by decide) (F.typeCall_enumerate_1 _) (F.newCall_enumerate_1 _) (fun obj => F.args_object_init_2 obj _) F.entry_enumerate_new (enum_newT l items n dct sl) ⟨hl, ?_⟩
  have sz : (s.heap.push (itT l)).objs.size = s.heap.objs.size + 1 := Heap.size_push ..
  (show _ ∧ _); rw [sz]
  have he : IsEnum ((s.heap.push (itT l)).push (enO s.heap.objs.size)) (s.heap.objs.size + 1) s.heap.objs.size 0 .none := by
    have q := Heap.get?_push_size (s.heap.push (itT l)) (o := enO s.heap.objs.size) rfl
    rwa [sz] at q
  exact ⟨⟨_, he, rfl⟩, h _ he ⟨_, Heap.get?_push_of_some _ (Heap.get?_push_size _ rfl), rfl, rfl⟩ fun b o x => Heap.get?_push_of_some _ (Heap.get?_push_of_some _ x)⟩
end
end Cp
namespace Cp
open PySem PySem.Spec L2 PyProof.Rows
/-- the tuple at a; each item in a new pair -/
def ItT (K : PySem.W.Frag) (a : Addr) : It :=
  ⟨fun i H => ∃ (xs : List V) (x : V), SqT K H a xs ∧ xs[i]? = some x, fun i H v H' => ∃ T x, v = .ref T ∧ H T = none ∧ H' = upd H T (.tup [.int (i : Nat), x]) ∧ ∀ xs, SqT K H a xs → xs[i]? = some x, fun i H => ∃ xs : List V, SqT K H a xs ∧ xs.length ≤ i⟩
theorem turn_enT {P : Program} {w : World} {K : PySem.W.Frag} {elts : List Expr} {kk : Nat} {tpos : Pos} (a e it : Addr) :
    Turn P w K (.Tuple elts kk tpos) (ItT K a) [e, it] e (fun i h => (∃ old, IsEnum h e it ((i : Nat) : Int) old) ∧ h.IsTupleIter it a i ∧ e ≠ it ∧ a ≠ it ∧ e ≠ a) := by
  have two : ∀ {b : Addr}, b ∈ [e, it] → b = e ∨ b = it := fun hb => by simpa using hb
  refine ⟨by simp, fun i h st b hb => ?_, fun i h h' st k => ?_, ?_, ?_, fun A i s Q E st h => wpAny_pyIter_enum st.1.choose_spec h⟩
  · obtain ⟨⟨old, he⟩, ⟨o, ho, hc, hd⟩, _⟩ := st
    rcases two hb with rfl | rfl
    · exact ⟨_, he, fun v q => nomatch q⟩
    · exact ⟨o, ho, fun v q => by rw [hd] at q; cases q⟩
  · obtain ⟨⟨old, he⟩, hi, hne⟩ := st
    exact ⟨⟨old, k e (by simp) _ he⟩, hi.at fun o q => k it (by simp) o q, hne⟩
  · intro X hP hw hK hc i pins s σ H E I hf st hg
    subst hP hw hK
    obtain ⟨⟨old, he⟩, hit, hne, hna, hea⟩ := st
    obtain ⟨xs, x, hq, hx⟩ := hg
    obtain ⟨its, rv, p, hz⟩ := I.tuple hq
    obtain ⟨u, hu, ru⟩ := rv.get hx
    have hel : e < s.heap.objs.size := Heap.lt_size he
    have hil : it < s.heap.objs.size := by obtain ⟨_, q, _⟩ := hit; exact Heap.lt_size q
    have hlt : i < its.toArray.size := by rw [List.size_toArray]; exact (List.getElem?_eq_some_iff.mp hu).1
    refine wpAny_pyNext_enum_itemD (Draws.tuple (A := X.A.in1) (I.ok.hd hc) it a hna its.toArray) he ⟨hit, p⟩ hlt hne (by simp [hne, hea]) fun y h' tk hy ho st' hT sz hk => ?_
    have ey : y = u := by rw [List.getElem?_toArray, hu] at hy; exact (Option.some.inj hy).symm
    subst ey
    refine ⟨_, rfl, wpAny_letOwnedTupleGo_enum (s := { s with heap := h', toks := tk + 1 }) ho fun h'' he' sb => ?_⟩
    have hT2 : h''.get? s.heap.objs.size = some { cls := .type "tuple", data := .seq #[.int i tk, y] } := (sb.2 _ (Nat.ne_of_gt hel)).trans hT
    have new : ObjOk X.prog X.w (upd H s.heap.objs.size (.tup [.int (i : Nat), x])) h'' s.heap.objs.size (.tup [.int (i : Nat), x]) := ⟨by show 2 ≤ sizeLine; decide, [.int i tk, y], .cons ⟨_, rfl⟩ (.cons ru .nil), ⟨_, hT2, rfl, _, rfl⟩⟩
    have I1 : Inv X pins σ (upd H s.heap.objs.size (.tup [.int (i : Nat), x])) { s with heap := h'', toks := tk + 1 } :=
      I.turnedNew (ch := [e, it]) (fun b ob hb q => (sb.2 b (fun z => hb (by simp [z]))).trans (hk b ob (fun z => hb (by simp [z])) (fun z => hb (by simp [z])) q)) hf (Nat.le_refl _) new
    refine ⟨.ref s.heap.objs.size, _, I1, rfl, ⟨_, x, rfl, I.hok.fresh (Nat.le_refl _), rfl, fun ys hy => by rw [I.tuple_inj hy hq]; exact hx⟩, ⟨⟨y, ?_⟩, st'.1.at fun o q => (sb.2 it (Ne.symm hne)).trans q, hne, hna, hea⟩, fun b hb => ?_⟩
    · rw [show ((i + 1 : Nat) : Int) = (i : Int) + 1 by omega]; exact he'
    · have hb' : b < s.heap.objs.size := (two hb).elim (fun z => z ▸ hel) fun z => z ▸ hil
      rw [upd_ne (Nat.ne_of_lt hb')]; exact (hf b hb).1
  · intro X hP hw hK hc i pins s σ H E I hf st hg
    subst hP hw hK
    obtain ⟨⟨old, he⟩, hit, hne, hna, hea⟩ := st
    obtain ⟨xs, hq, hx⟩ := hg
    obtain ⟨its, rv, p, hz⟩ := I.tuple hq
    obtain ⟨f0, f1, f2, f3, f4, f5⟩ := hf it (by simp)
    have hl := rv.length
    have none_ : its.toArray[i]? = none := by rw [List.getElem?_toArray]; exact List.getElem?_eq_none (by omega)
    have D : Draws X.prog X.w X.A.in1 it [it, a] 0 (fun _ _ => False) (fun _ h => h.IsTupleIter it a i ∧ h.IsTuple a its.toArray) :=
      ⟨fun _ _ st => let ⟨o, ho, _⟩ := st.1; ⟨o, ho⟩, fun _ _ _ st hk => ⟨st.1.at fun o e => hk it (by simp) o e, st.2.at fun o e => hk a (by simp) o e⟩, fun j s Q E hj st hQ => absurd hj (Nat.not_lt_zero _), fun s Q E st hE => wpAny_nextOf_tuple_end (I.ok.hd hc) st.1 st.2 none_ hE⟩
    exact wpAny_pyNext_enum_endD D he ⟨hit, p⟩ fun h' eb => ⟨rfl, I.turned (t' := s.toks) (fun b o hb q => eb b o hb q) f0 f1 f3 f4 f5⟩
def iEnT (K : PySem.W.Frag) (ta : TA) : TI := fun σ H R => ta σ H fun vs H1 => ∃ a xs, vs = [.ref a] ∧ SqT K H1 a xs ∧ R (ItT K a) H1
theorem pi_enT {X : Cx} {e : Expr} {ta : TA} {p pos tpos : Pos} {elts : List Expr} {kk : Nat} (hg : Gl X "enumerate") (hm : X.mg "enumerate" = none) (ha : PA X [e] ta) (hs : starEach [e] X.env = [(false, eval e X.env)] := by rfl) :
    PI X (.Tuple elts kk tpos) (.Call (.Name "enumerate" p) [e] [] pos) (iEnT X.K ta) := by
  refine ⟨fun pins s σ H R I h => Call_ (ld_blt I hg hm boot_enumerate (PyProof.Rows.callWith_type1 (thn (ha.run pos pins s σ H _ I h) fun us s1 ⟨vs, H1, I1, r1, a, xs, ex, hq, q⟩ => ?_) hs rfl))⟩
  subst ex
  obtain ⟨u, rfl, r⟩ := r1.one
  obtain rfl : u = Value.ref a := r
  obtain ⟨its, rv, p', hz⟩ := I1.tuple hq
  have lt : a < s1.heap.objs.size := by obtain ⟨_, ho, _⟩ := p'; exact Heap.lt_size ho
  refine enum_tuple p' fun h' he hit hk => wpAny_pyIter_enum he ?_
  have I2 : Inv X pins σ H1 { s1 with heap := h' } := I1.kept (t' := s1.toks) hk
  refine ⟨s1.heap.objs.size + 1, [s1.heap.objs.size + 1, s1.heap.objs.size], _, _, H1, rfl, I2, turn_enT a (s1.heap.objs.size + 1) s1.heap.objs.size, ⟨⟨.none, he⟩, hit, Nat.succ_ne_self _, Nat.ne_of_lt lt, Nat.ne_of_gt (Nat.lt_succ_of_lt lt)⟩, fun b hb => ?_, q⟩
  have hle : s1.heap.objs.size ≤ b := by
    rcases (show b = s1.heap.objs.size + 1 ∨ b = s1.heap.objs.size by simpa using hb) with rfl | rfl
    · exact Nat.le_add_right _ _
    · exact Nat.le_refl _
  exact I1.fpOk hle (I1.hok.fresh hle)
/-- over a tuple that stands still -/
theorem for_enT {K : PySem.W.Frag} {a : Addr} {xs : List V} {g : TG} {tb : TS} {D : Ends} {σ : L2.St} {H : Hp} (Pv : Nat → L2.St → Hp → Prop) (h0 : Pv 0 σ H) (hl : ∀ i σ H, i ≤ xs.length → Pv i σ H → SqT K H a xs)
    (hs : ∀ i x σ H T, xs[i]? = some x → Pv i σ H → H T = none → g (.ref T) σ (upd H T (.tup [.int (i : Nat), x])) fun σ2 H2 => tb { D with nx := Pv (i + 1), ct := Pv (i + 1), bk := D.nx } σ2 H2) (hd : ∀ σ H, Pv xs.length σ H → D.nx σ H) :
    ∃ W : Nat → Nat → L2.St → Hp → Prop, (∃ m, W 0 m σ H) ∧ ∀ i m σ H, W i m σ H →
      ((ItT K a).stop i H ∧ D.nx σ H) ∨ ((ItT K a).go i H ∧ ∃ N : L2.St → Hp → Prop, (∀ σ' H', N σ' H' → ∃ m', m' < m ∧ W (i + 1) m' σ' H') ∧ ∀ x H', (ItT K a).yld i H x H' → g x σ H' fun σ2 H2 => tb { D with nx := N, ct := N, bk := D.nx } σ2 H2) := by
  refine ⟨fun i m σ H => m = xs.length - i ∧ i ≤ xs.length ∧ Pv i σ H, ⟨_, rfl, Nat.zero_le _, h0⟩, ?_⟩
  rintro i m σ H ⟨rfl, hi, p⟩
  have q := hl i σ H hi p
  rcases Nat.lt_or_ge i xs.length with hlt | hge
  · refine .inr ⟨⟨xs, xs[i], q, by simp [hlt]⟩, Pv (i + 1), fun σ' H' p' => ⟨xs.length - (i + 1), by omega, rfl, hlt, p'⟩, fun x H' y => ?_⟩
    obtain ⟨T, x, rfl, hT, rfl, hx⟩ := y
    exact hs i x σ H T (hx xs q) p hT
  · obtain rfl : i = xs.length := by omega
    exact .inl ⟨⟨xs, q, Nat.le_refl _⟩, hd σ H p⟩
end Cp

set_option Elab.async false
set_option linter.all false
set_option maxRecDepth 100000
/-! ### len(set(a tuple of texts)) -/
namespace Cp
open PySem PySem.Spec PyProof.Rows
/-- the first ones of equal texts -/
def grow (acc : List Str) (x : Str) : List Str := if x ∈ acc then acc else acc ++ [x]
def firsts (xs : List Str) : List Str := xs.foldl grow []
theorem firsts_snoc (xs : List Str) (x : Str) : firsts (xs ++ [x]) = grow (firsts xs) x := by
  unfold firsts; rw [List.foldl_append]; rfl
theorem grow_mem {acc : List Str} {x k : Str} : k ∈ grow acc x ↔ k ∈ acc ∨ k = x := by
  unfold grow
  split
  · rename_i h
    exact ⟨Or.inl, fun q => q.elim id fun e => e ▸ h⟩
  · simp
theorem grow_len (acc : List Str) (x : Str) : (grow acc x).length = if decide (x ∈ acc) = true then acc.length else acc.length + 1 := by
  unfold grow
  by_cases h : x ∈ acc
  · rw [if_pos h, if_pos (decide_eq_true h)]
  · rw [if_neg h, if_neg (by rw [decide_eq_false h]; decide), List.length_append]; rfl
theorem take_next {xs : List Str} {i : Nat} (h : i < xs.length) : xs.take (i + 1) = xs.take i ++ [xs.getD i Str.empty] := by
  rw [List.take_add_one, List.getD_eq_getElem?_getD, List.getElem?_eq_getElem h]; rfl
theorem foldl_grow_len : ∀ (xs acc : List Str), (xs.foldl grow acc).length ≤ acc.length + xs.length
  | [], acc => by simp
  | x :: r, acc => by
    have h1 := foldl_grow_len r (grow acc x)
    have h2 := grow_len acc x
    simp only [List.foldl_cons, List.length_cons]
    split at h2 <;> omega
theorem firsts_le (xs : List Str) : (firsts xs).length ≤ xs.length := by
  have := foldl_grow_len xs []
  simpa [firsts] using this
theorem foldl_grow_nd : ∀ (xs acc : List Str), acc.Nodup → ((xs.foldl grow acc).length = acc.length + xs.length ↔ xs.Nodup ∧ ∀ x ∈ xs, x ∉ acc)
  | [], acc, _ => by simp
  | x :: r, acc, ha => by
    by_cases h : x ∈ acc
    · have e : grow acc x = acc := if_pos h
      have h1 := foldl_grow_len r acc
      simp only [List.foldl_cons, e, List.length_cons]
      constructor
      · intro q; omega
      · intro q; exact absurd h (q.2 x List.mem_cons_self)
    · have e : grow acc x = acc ++ [x] := if_neg h
      have hn : (acc ++ [x]).Nodup := by
        rw [List.nodup_append]
        exact ⟨ha, by simp, fun a ha' b hb => by simp at hb; subst hb; exact fun q => h (q ▸ ha')⟩
      have ih := foldl_grow_nd r (acc ++ [x]) hn
      simp only [List.foldl_cons, e, List.length_cons]
      have el : acc.length + (r.length + 1) = (acc ++ [x]).length + r.length := by simp; omega
      rw [el, ih, List.nodup_cons]
      constructor
      · rintro ⟨q1, q2⟩
        refine ⟨⟨fun q => ?_, q1⟩, fun y hy => ?_⟩
        · exact q2 x q (by simp)
        · rcases List.mem_cons.mp hy with rfl | hy
          · exact h
          · exact fun q => q2 y hy (by simp [q])
      · rintro ⟨⟨q1, q2⟩, q3⟩
        refine ⟨q2, fun y hy q => ?_⟩
        rcases List.mem_append.mp q with q | q
        · exact q3 y (List.mem_cons_of_mem _ hy) q
        · simp at q; subst q; exact q1 hy
theorem firsts_nd (xs : List Str) : (firsts xs).length = xs.length ↔ xs.Nodup := by
  have h := foldl_grow_nd xs [] List.nodup_nil
  simp only [List.length_nil, Nat.zero_add, List.not_mem_nil, not_false_eq_true, implies_true, and_true] at h
  exact h
end Cp

set_option Elab.async false
set_option linter.all false
set_option maxRecDepth 100000
namespace Cp
open PySem PySem.Spec PyProof.Rows
abbrev inF (xs : List Str) (i : Nat) : Str → Bool := fun k => decide (k ∈ firsts (xs.take i))
section
variable {prog : Program} {w : World} {A : Around} {R : Result → Shared → Prop} {I : Addr} {fp wr : List Addr} {G : Array GenState → Array GenState → Prop} {n : Nat} {P : Nat → Value → Prop} {St : Nat → Shared → Prop}
/-- texts are put into a set, one by one -/
theorem fill_set (W : WalksS prog w A.in1 I fp wr G n P St) (S : Addr) (away : S ∉ fp) (xs : List Str) (many : xs.length = n) (room : n + 1 < scanBound) (hval : ∀ i v, P i v → ∃ t, v = .str (xs.getD i Str.empty) t) :
    ∀ (left i : Nat) (s : Shared), i + left = n → St i s → s.heap.SetOf (PySem.strKind prog w) S (inF xs i) (firsts (xs.take i)).length →
      (∀ s', Moved (S :: wr) G s s' → s'.heap.SetOf (PySem.strKind prog w) S (inF xs n) (firsts (xs.take n)).length → R (.ok (.ret .none)) s') → codeAny (model prog w) A (.builtin "set.update.loop" ⟨[.ref S, .ref I], []⟩) R s := by
  have noS : S ∉ wr := fun h => away (W.sub _ h)
  have more : ∀ b ∈ wr, b ∈ S :: wr := fun _ h => List.mem_cons_of_mem _ h
  have keepS : ∀ {h h' : Heap} {f : Str → Bool} {m : Nat}, h.SetOf (PySem.strKind prog w) S f m → (∀ o, h.get? S = some o → h'.get? S = some o) → h'.SetOf (PySem.strKind prog w) S f m := by
    intro h h' f m hs k; obtain ⟨o, es, ep, t, ho, rest⟩ := hs; exact ⟨o, es, ep, t, k o ho, rest⟩
  intro left
  induction left with
  | zero =>
    intro i s hi hst hS hR
    obtain rfl : i = n := by omega
    refine codeAny_builtin PyProof.Rows.F.entry_set_update_loop ?_; rw [Around.under_plainId PyProof.Rows.F.plain_set_update_loop _]
    refine (wpAny_bind (W.done s _ _ hst fun s' hm => ?_) : wpAny _ A.in1 (pyNext (.ref I) >>= _) _ _ s)
    show wpAny _ A.in1 (ret Value.none) _ _ s'; exact wpAny_pure (hR s' (hm.mono more) (keepS hS fun o e => hm.heap S o noS e))
  | succ left ih =>
    intro i s hi hst hS hR
    have lt : i < n := by omega
    refine codeAny_builtin PyProof.Rows.F.entry_set_update_loop ?_; rw [Around.under_plainId PyProof.Rows.F.plain_set_update_loop _]
    refine (wpAny_bind (W.item i s _ _ lt hst fun v s' hP hst' hm => ?_) : wpAny _ A.in1 (pyNext (.ref I) >>= _) _ _ s)
    obtain ⟨t, rfl⟩ := hval i v hP
    have hS1 := keepS hS fun o e => hm.heap S o noS e
    show wpAny _ A.in1 (holding [Value.str (xs.getD i Str.empty) t] (setAdd S (.str (xs.getD i Str.empty) t)) >>= _) _ _ s'
    unfold setAdd
    refine wpAny_bind (wpAny_holding (wpAny_holding (wpAny_bind ((PySem.strKind prog w).pyHash (k := xs.getD i Str.empty) (strKind_is _ _ _ _) ?_))))
    have hl := firsts_le (xs.take i)
    rw [List.length_take] at hl
    refine wpAny_setAddHashed_of (knd := PySem.strKind prog w) (s := { s' with toks := s'.toks + 1 }) (strKind_is _ _ _ _) rfl hS1 (by omega) fun h' same hS2 => ?_
    have en : firsts (xs.take (i + 1)) = grow (firsts (xs.take i)) (xs.getD i Str.empty) := by rw [take_next (by omega), firsts_snoc]
    have hS3 : h'.SetOf (PySem.strKind prog w) S (inF xs (i + 1)) (firsts (xs.take (i + 1))).length := by
      refine PyProof.Rows.SetOf_congr hS2 (fun k => ?_) (by rw [en, grow_len])
      rw [← Bool.decide_or]
      show _ = decide (k ∈ firsts (xs.take (i + 1)))
      rw [en]
      exact decide_eq_decide.mpr grow_mem.symm
    refine wpAny_pure ⟨plainId_quiet PyProof.Rows.F.plain_set_update_loop _, ih (i + 1) _ (by omega) (W.frame _ s' _ _ hst' (Nat.le_succ _) fun b hb o e => (same.2 b fun q : b = S => away (q ▸ hb)).trans e) hS3 fun s2 hm2 hS4 => ?_⟩
    exact hR s2 (Moved.trans W.gtrans ((hm.mono more).then_heap (Nat.le_succ _) fun b o hb e => (same.2 b fun q : b = S => hb (q ▸ List.mem_cons_self)).trans e) hm2) hS4
end
section
variable {prog : Program} {w : World} {A : Around} {E : Value → Shared → Prop} {s : Shared}
abbrev newSet (led : Bool) : Obj := { cls := .type "set", dict := none, data := .set #[] 0 (.fresh 0 0 led) }
theorem strs_get : ∀ {vs : List Value} {xs : List Str}, PyProof.Rows.StrsAre vs xs → ∀ (i : Nat) (v : Value), vs[i]? = some v → ∃ t, v = .str (xs.getD i Str.empty) t := by
  intro vs xs r
  induction r with
  | nil => intro i v h; simp at h
  | cons x t r ih =>
    intro i v h
    cases i with
    | zero => simp at h; exact ⟨t, by rw [← h]; rfl⟩
    | succ i => rw [List.getElem?_cons_succ] at h; obtain ⟨t', e⟩ := ih i v h; exact ⟨t', by rw [e]; rfl⟩
set_option maxHeartbeats 3200000 in
/-- set(t), t a tuple of texts: a new set of the first ones -/
theorem set_of_tup {l : Addr} {items : Array Value} {xs : List Str} {Q : Value → Shared → Prop} (hh : A.handled = none) (hl : s.heap.IsTuple l items) (hi : PyProof.Rows.StrsAre items.toList xs) (hn1 : xs.length + 1 < scanBound)
    (h : ∀ (h' : Heap) (tk : Nat), h'.SetOf (PySem.strKind prog w) s.heap.objs.size (inF xs xs.length) (firsts xs).length → (∀ b o, s.heap.get? b = some o → h'.get? b = some o) → Q (.ref s.heap.objs.size) { s with heap := h', toks := tk }) :
    wpAny (model prog w) A (call (.type "set") [.ref l]) Q E s := by
  obtain ⟨c, tl, hmro⟩ := PySem.F.called_set.mro
  have hmade := PySem.F.called_set.made; have hsub := PySem.F.called_set.sub
  have h1 := PySem.F.called_set.notType; have h2 := PySem.F.called_set.canCreate; have hct := PySem.F.typeCall_set_1 (.ref l)
  have hsz : xs.length = items.size := by rw [← StrsAre.len_eq hi, Array.length_toList]
  refine wpAny_call (codeAny_of_tree (?_ : wpAny _ _ (callAny (.type "set") _) _ _ _))
  refine wpAny_pure ⟨Code.quiet_builtin _ (by decide +kernel), codeAny_builtin PySem.F.entry_type_call ?_⟩
  rw [Around.under_plain (weight_type_call_type "set" [.ref l] []) rfl]
  repeat (any_goals (first | assumption | wp_step))
  refine codeAny_mono (code_set_new_1 (.ref l) (E := E) (Q₁ := fun obj s₁ => ∃ led : Bool, obj = .ref s.heap.objs.size ∧ s₁ = { s with heap := s.heap.push (newSet led) }) fun led => ⟨led, rfl, rfl⟩) fun r s₁ hr => ?_
  match r, hr with
  | .error e, hr => exact hr
  | .ok .next, hr => exact hr.elim
  | .ok .brk, hr => exact hr.elim
  | .ok .cont, hr => exact hr.elim
  | .ok (.ret obj), ⟨led, e1, e2⟩ =>
    subst e1 e2
    have hS : (s.heap.push (newSet led)).get? s.heap.objs.size = some (newSet led) := Heap.get?_push_size _ rfl
    have hT : Shared.TypeIs { s with heap := s.heap.push (newSet led) } (.ref s.heap.objs.size) "set" := ⟨_, hS, rfl⟩
    have hli := PySem.F.called_set.init.lookup; have hbi := PySem.F.called_set.init.bind (.ref s.heap.objs.size)
    repeat (any_goals (first | assumption | wp_step))
    refine codeAny_mono (codeAny_call_builtin (R := wants (fun r s₂ => r = .none ∧ ∃ h' tk, s₂ = { s with heap := h', toks := tk } ∧ h'.SetOf (PySem.strKind prog w) s.heap.objs.size (inF xs xs.length) (firsts xs).length ∧
        (∀ b o, s.heap.get? b = some o → h'.get? b = some o)) E) PySem.F.called_set.init.plain PySem.F.entry_set_init (check_set_init_1 hT ?_)) fun r₂ s₂ hr₂ => ?_
    · obtain ⟨⟨ocls, odict, odata, oslots⟩, hol, hcl, nl, hdl⟩ := hl
      dsimp only at hcl hdl
      subst hcl hdl
      have hol' : (s.heap.push (newSet led)).get? l = some { cls := .type "tuple", dict := odict, data := .seq items nl, slots := oslots } := Heap.get?_push_of_some _ hol
      have hsls := PySem.F.sub_tuple_set; have hslf := PySem.F.sub_tuple_frozenset
      have hne : (Value.type "tuple" == Value.type "dict") = false := by decide
      have hl1 : (s.heap.push (newSet led)).IsTuple l items := ⟨_, hol', rfl, nl, rfl⟩
      have hlS : l < s.heap.objs.size := Heap.lt_size hol
      have ez : (s.heap.push (newSet led)).objs.size = s.heap.objs.size + 1 := Heap.size_push ..
      have hneI : l ≠ (s.heap.push (newSet led)).objs.size := by rw [ez]; exact Nat.ne_of_lt (Nat.lt_succ_of_lt hlS)
      have hSf : s.heap.objs.size ∉ [(s.heap.push (newSet led)).objs.size, l] := by
        rw [ez]; simp only [List.mem_cons, List.not_mem_nil, or_false, not_or]; exact ⟨Nat.ne_of_lt (Nat.lt_succ_self _), Nat.ne_of_gt hlS⟩
      have hh3 : A.in1.in1.in1.handled = none := by simp [hh]
      unfold Builtin.«set.__init__» noKeywords Builtin.Frozenset.updateFrom
      generalize hPI : pyIter = PI
      wp_walk
      subst hPI
      refine wpAny_pyIter_tuple hl1 (wpAny_bind (wpAny_runValue ?_))
      refine fill_set ((Walks.tuple hh3 _ l hneI items).toS) s.heap.objs.size hSf xs hsz (by omega) (fun i v hv => strs_get hi i v (by rw [Array.getElem?_toList]; exact hv)) items.size 0 _ (by omega) ⟨⟨_, Heap.get?_push_size _ rfl, rfl, rfl⟩, (hl1.push _)⟩ ?hS0 ?hR
      case hS0 => exact PyProof.Rows.SetOf_congr ((PyProof.Rows.setObjOf_fresh (knd := PySem.strKind prog w) led).setOf (Heap.get?_push_of_some _ hS) (by unfold scanBound; omega)) (fun _ => rfl) rfl
      case hR =>
        rintro ⟨h', g', d', tk', os'⟩ hm hS'
        obtain rfl : g' = s.gens := hm.gens
        obtain rfl : d' = s.drawn := hm.drawn
        obtain rfl : os' = s.os := hm.os
        rw [← hsz, List.take_length] at hS'
        refine wpAny_pure (wpAny_pure ⟨rfl, h', tk', rfl, by rw [hsz] at hS' ⊢; simpa [inF, hsz] using hS', fun b o e => ?_⟩ : wpAny _ _ (ret Value.none) _ _ _)
        have hb := Heap.lt_size e
        refine hm.heap b o ?_ (Heap.get?_push_of_some _ (Heap.get?_push_of_some _ e))
        rw [ez]; simp only [List.mem_cons, List.not_mem_nil, or_false, not_or]; exact ⟨Nat.ne_of_lt hb, Nat.ne_of_lt (Nat.lt_succ_of_lt hb)⟩
    · match r₂, hr₂ with
      | .error e, hr₂ => exact hr₂
      | .ok .next, hr₂ => exact hr₂.elim
      | .ok .brk, hr₂ => exact hr₂.elim
      | .ok .cont, hr₂ => exact hr₂.elim
      | .ok (.ret r), ⟨e1, h', tk, e2, hS', hk'⟩ =>
        subst e1 e2
        repeat (any_goals (first | assumption | wp_step))
        exact h _ _ hS' hk'
end
end Cp
namespace Cp
open PySem PySem.Spec L2 PyProof.Rows
/-- len(set(t)), t a tuple of texts -/
def tLenSetS (K : PySem.W.Frag) (ta : TE) : TE := fun σ H Q => ta σ H fun x H1 => ∃ (l : Addr) (xs : List Str), x = .ref l ∧ SqT K H1 l (xs.map V.str) ∧ xs.length ≤ 1000 ∧ Q (.int (firsts xs).length) H1
theorem vals_strs : ∀ {ys : List Str} {us : List Value}, Vals (ys.map V.str) us → PyProof.Rows.StrsAre us ys
  | [], _, .nil => .nil
  | y :: ys, _, .cons r t => by
    obtain ⟨k, rfl⟩ := r
    exact .cons y k (vals_strs t)
theorem pe_lenSetS {X : Cx} {a : Expr} {ta : TE} {p p2 q pos : Pos} (hc : X.calm = true) (hg : Gl X "len") (hm : X.mg "len" = none) (hg2 : Gl X "set") (hm2 : X.mg "set" = none) (ha : PE X a ta)
    (na : starEach [a] X.env = (false, eval a X.env) :: starEach [] X.env := by rfl) : PE X (.Call (.Name "len" p) [.Call (.Name "set" p2) [a] [] q] [] pos) (tLenSetS X.K ta) := by
  refine ⟨fun pins s σ H Q I h => Call_ (ld_blt I hg hm PySem.boot_len (PyProof.Rows.callWith_builtin1 (PyProof.Rows.args_cons ?_ rfl) rfl rfl))⟩
  refine Call_ (ld_blt I hg2 hm2 PyProof.Rows.boot_set (PyProof.Rows.callWith_type1 (PyProof.Rows.args_cons (thn (ha.run pins s σ H _ I h) fun v s1 ⟨x, H1, I1, r1, q1⟩ => PyProof.Rows.args_nil ?_) na) na rfl))
  obtain ⟨l, xs, rfl, hq, h1, q1⟩ := q1
  cases r1
  obtain ⟨its, r, pl, hz⟩ := I1.tuple hq
  refine set_of_tup (I1.ok.hd hc) pl (by simpa using vals_strs r) (by unfold scanBound; omega) fun h' tk hS hk => PyProof.Rows.args_nil ?_
  obtain ⟨o, es, ep, t, ho, hex, hd, _, _, _, hf, hn⟩ := hS
  have I2 : Inv X pins σ H1 { s1 with heap := h', toks := tk } := I1.kept fun b o e => hk b o e
  have hl := firsts_le xs
  exact call_len_set ho hex hd hf (by rw [hn]; omega) ⟨.int (firsts xs).length, H1, I2.tok _, ⟨_, by rw [hn]⟩, q1⟩
end Cp

set_option Elab.async false
set_option linter.all false
set_option maxRecDepth 100000
/-! ### sep.join(a dict of texts) -/
namespace Cp
open PySem PySem.Spec PyProof.Rows
theorem dk_len : typeLookup (.type "dict_keyiterator") "__len__" = pure none := by (rw [typeLookup_type, builtinLookup_eq_fast]); kernel_rfl
theorem dk_hint : typeLookup (.type "dict_keyiterator") "__length_hint__" = pure (some (.builtin "dict_keyiterator.__length_hint__")) := by (rw [typeLookup_type, builtinLookup_eq_fast]); kernel_rfl
abbrev newL : Obj := { cls := .type "list", data := .seq ([] : List Value).toArray }
section
variable {prog : Program} {w : World} {A : Around} {E : Value → Shared → Prop} {s : Shared} {I : Addr} {fp wr : List Addr} {G : Array GenState → Array GenState → Prop} {n : Nat} {P : Nat → Value → Prop} {St : Nat → Shared → Prop}
set_option maxHeartbeats 3200000 in
/-- all that a dict's iterator still gives -/
theorem collect_dk {Q : List Value → Shared → Prop} (W : WalksS prog w A.in1 I fp wr G n P St) (kind : ∀ i s, St i s → s.TypeIs (.ref I) "dict_keyiterator") (st0 : St 0 s) (old : ∀ b ∈ fp, b < s.heap.objs.size) (mine : I ∈ fp)
    (next : ∀ s' acc, Moved wr G s s' → ItemsOf P acc n → Q acc.toList s') (few : n ≤ sizeLine) : wpAny (model prog w) A (collect (.ref I)) Q E s := by
  have away : s.heap.objs.size ∉ fp := fun hm => Nat.lt_irrefl _ (old _ hm)
  have ne : s.heap.objs.size ≠ I := fun e => away (e ▸ mine)
  unfold collect; refine wpAny_bind (wpAny_runValue (codeAny_builtin F.entry_proto_collect ?_)); rw [Around.under_plainId F.plain_proto_collect _]
  refine (wpAny_bind (wpAny_newObj_type ?_) : wpAny _ A.in1 (newList [] >>= fun l => again (.builtin "list.__iadd__" ⟨[l, .ref I], []⟩)) _ _ s)
  refine wpAny_pure ⟨plainId_quiet F.plain_list_iadd _, codeAny_builtin F.entry_list_iadd ?_⟩; rw [Around.under_plainId F.plain_list_iadd _]
  have st1 := W.frame 0 s (s.heap.push newL) s.toks st0 (Nat.le_refl _) fun b _ o e => Heap.get?_push_of_some _ e
  have at1 : (s.heap.push newL).get? s.heap.objs.size = some newL := Heap.get?_push_size _ rfl
  have ns : Builtin.List.listSameRef (.ref s.heap.objs.size) (.ref I) = false := by simp [Builtin.List.listSameRef, ne]
  show wpAny _ A.in1 (Builtin.List.listExtendWith (.ref s.heap.objs.size) (.ref I) (.ref s.heap.objs.size)) _ _ _
  unfold Builtin.List.listExtendWith; refine wpAny_bind (wpAny_typeOf (kind 0 _ st1) ?_)
  rw [if_neg (by rw [ns]; decide)]; refine wpAny_bind (W.self 0 _ _ _ st1 ?_); refine wpAny_bind (wpAny_holding ?_)
  unfold Builtin.List.listLengthHint; refine wpAny_bind (wpAny_specialOf (kind 0 _ st1) dk_len ?_)
  show wpAny _ A.in1 (specialOf (Value.ref I) (Str.ofString "__length_hint__") >>= _) _ _ _; refine wpAny_bind (wpAny_specialOf (kind 0 _ st1) dk_hint ?_)
  generalize hid : ("dict_keyiterator.__length_hint__" : String) = id0
  wp_delta
  rw [show splitId id0 = some ("dict_keyiterator", "__length_hint__") from by subst hid; decide +kernel]; subst hid
  refine wpAny_bind (wpAny_isInstance (b := true) (kind 0 _ st1) (by rw [isSubtype_type]; kernel_rfl) ?_); refine wpAny_pure ?_
  rw [if_neg (by decide)]
  refine wpAny_pure ⟨plainId_quiet F.plain_extend_loop _, codeAny_extend_loopS W few _ away _ n 0 _ _ _ rfl (Nat.zero_le _) st1 at1 (ItemsOf.nil P) fun s' acc' c' hm at2 got => ?_⟩
  refine (wpAny_bind (wpAny_load at2 ?_) : wpAny _ A (load s.heap.objs.size >>= _) _ _ s')
  exact wpAny_pure (next s' acc' (Moved.drop_new (o := newL) (tk := s.toks) hm (Nat.le_refl _)) got)
end
section
variable {prog : Program} {w : World} {A : Around} {E : Value → Shared → Prop} {s : Shared}
set_option maxHeartbeats 3200000 in
theorem join_dk {K : Type} [DecidableEq K] {knd : KeyKind prog w K} {d : Addr} {kvs : List (K × Value)} {ep : Nat} {x : Str} {t : Tok} {ys : List Str} {Q : Value → Shared → Prop} (hh : A.handled = none) (lo : (d == sysModules) = false) (hm : s.heap.DictAt knd d kvs ep)
    (hk : ∀ acc : Array Value, ItemsOf (fun i v => ∃ k x, kvs[i]? = some (k, x) ∧ knd.is k v = true) acc kvs.length → StrsAre acc.toList ys) (hok : (ys.map (·.length)).sum + ys.length * x.length ≤ 16777216) (hn : kvs.length ≤ sizeLine)
    (hQ : ∀ (h' : Heap) (k : Nat) (t' : Tok), (∀ b o, s.heap.get? b = some o → h'.get? b = some o) → Q (.str (Txt.join x ys) t') { s with heap := h', toks := k }) : wpAny (model prog w) A (call (.builtin "str.join") [.str x t, .ref d]) Q E s := by
  refine wpAny_call (codeAny_call_builtin F.slot_str_join.plain F.entry_str_join (F.slot_str_join.check _ _ _ _ _ _ _ _ (typeIs_str _ _ _) (F.args_str_join_2 _ _) ?_)); rw [join_tree_other]
  refine wpAny_bind (wpAny_typeOf hm.dictOf.typeIs ?_)
  refine (wpAny_bind (wpAny_tryCatch (wpAny_pyIter_dict lo hm ?_)) : wpAny _ A.in1 ((pyIter (.ref d)).tryCatch _ >>= fun it => collect it >>= fun items => joinTail x items) _ _ s)
  have lt := hm.lt_size
  refine wpAny_bind (collect_dk (Walks.dictKeys (A := A.in1.in1) (knd := knd) hh _ d (Nat.ne_of_lt lt) kvs ep).toS (fun i s' st => ⟨_, st.1.choose_spec.1, st.1.choose_spec.2.1⟩) ⟨⟨_, Heap.get?_push_size _ rfl, rfl, rfl⟩, hm.push _⟩ (fun b hb => ?_) (by simp) (fun s' acc mv got => ?_) hn)
  · show b < (s.heap.push _).objs.size
    rw [Heap.size_push]
    rcases List.mem_cons.mp hb with rfl | hb
    · exact Nat.lt_succ_self _
    · rw [List.mem_singleton.mp hb]; exact Nat.lt_succ_of_lt lt
  · obtain ⟨l, hl, ht⟩ := strsAre_values (hk acc got)
    subst ht; rw [hl]
    have hok' := joinOk_of hok
    unfold JoinOk at hok'; rw [Bool.not_eq_true'] at hok'
    have g : Gives (joinTail x (strValues l)) (joinMade x l) := by
      have g0 := gives_joinTail x l hok'
      (cases l with | nil => exact g0 | cons p r => (cases r with | nil => exact g0 | cons q r' => exact g0))
    refine g prog w A (wants Q E) s' (post_join l ⟨joinFit_length hok', fun t' k => ?_⟩)
    rw [Moved.eq_with mv]
    refine hQ s'.heap k t' fun b o e => mv.heap b o (fun q => ?_) (Heap.get?_push_of_some _ e)
    have := Heap.lt_size e
    rw [List.mem_singleton.mp q] at this
    exact Nat.lt_irrefl _ this
end
end Cp
namespace Cp
open PySem PySem.Spec L2 PyProof.Rows
theorem strs_of_at : ∀ {ys : List Str} {us : List Value}, us.length = ys.length → (∀ (j : Nat) (y : Str) (u : Value), ys[j]? = some y → us[j]? = some u → ∃ t, u = .str y t) → StrsAre us ys
  | [], [], _, _ => .nil
  | y :: ys, u :: us, hl, h => by
    obtain ⟨t, rfl⟩ := h 0 y u rfl rfl
    exact .cons y t (strs_of_at (by simpa using hl) fun j y' u' a b => h (j + 1) y' u' (by simpa using a) (by simpa using b))
  | [], _ :: _, hl, _ => by simp at hl
  | _ :: _, [], hl, _ => by simp at hl
theorem mt_joinK {X : Cx} (hc : X.calm = true) : MtR X "str.join" (fun x xs H Q => ∃ (a : Str) (p : Addr) (ys : List Str) (kvs : List (Key × V)), x = .str a ∧ xs = [.ref p] ∧ H p = some (.dK kvs) ∧ kvs.map (·.1) = ys.map kx ∧
    (ys.map (·.length)).sum + ys.length * a.length ≤ 16777216 ∧ Q (.str (Txt.join a ys)) H) := by
  intro pins s σ H x xs v us Q I rx rs h
  obtain ⟨a, p, ys, kvs, rfl, rfl, hp, hk, hz, q⟩ := h
  obtain ⟨t, rfl⟩ := rx
  obtain ⟨u, rfl, rx⟩ := rs.one
  obtain rfl : u = Value.ref p := rx
  obtain ⟨z, lo, vs, rk, hd⟩ := (show ObjOk X.prog X.w H s.heap p (.dK kvs) from I.hok p _ hp)
  obtain ⟨ep, hat⟩ := hd.dictAt
  have hl : kvs.length = vs.length := Paired.length rk
  have hy : kvs.length = ys.length := by have := congrArg List.length hk; simpa using this
  refine join_dk (knd := mixKind X.prog X.w) (I.ok.hd hc) lo hat (fun acc got => ?_) hz (by rw [← hl]; exact z) fun h' k t' kp => ⟨.str _, H, I.kept kp, ⟨t', rfl⟩, q⟩
  have el : acc.toList.length = acc.size := by simp
  refine strs_of_at (by rw [el, got.1, ← hl, hy]) fun j y u h1 h2 => ?_
  obtain ⟨k, y', hky, hi⟩ := got.2 j u (by rw [← Array.getElem?_toList]; exact h2)
  have e1 : (kvs.map (·.1))[j]? = some k := by rw [KV.keys rk, List.getElem?_map, hky]; rfl
  rw [hk, List.getElem?_map, h1] at e1
  have e2 : k = kx y := (Option.some.inj e1).symm
  subst e2
  exact (show RelV (kV (kx y)) u from keyIs_rel hi)
end Cp

set_option Elab.async false
set_option linter.all false
set_option maxRecDepth 100000
/-! ### marks and names told from what is none -/
namespace Cp
/-- digits of 256, behind what stands ahead -/
def nvA (a : Nat) (l : List Nat) : Nat := l.foldl (fun a k => a * 256 + k) a
theorem glue_or (a b x y : Nat) (hx : x < 256) (hy : y < 256) : (a * 256 + x) ||| (b * 256 + y) = (a ||| b) * 256 + (x ||| y) := by
  have e : ∀ z t : Nat, z * 256 + t = 2 ^ 8 * z + t := fun z t => by omega
  rw [e, e, e]
  have h : x ||| y < 2 ^ 8 := Nat.or_lt_two_pow (n := 8) hx hy
  refine Nat.eq_of_testBit_eq fun i => ?_
  rw [Nat.testBit_or, Nat.testBit_two_pow_mul_add _ hx, Nat.testBit_two_pow_mul_add _ hy, Nat.testBit_two_pow_mul_add _ h]
  split <;> simp
theorem glue_and (a b x y : Nat) (hx : x < 256) (hy : y < 256) : (a * 256 + x) &&& (b * 256 + y) = (a &&& b) * 256 + (x &&& y) := by
  have e : ∀ z t : Nat, z * 256 + t = 2 ^ 8 * z + t := fun z t => by omega
  rw [e, e, e]
  have h : x &&& y < 2 ^ 8 := Nat.and_lt_two_pow x (n := 8) hy
  refine Nat.eq_of_testBit_eq fun i => ?_
  rw [Nat.testBit_and, Nat.testBit_two_pow_mul_add _ hx, Nat.testBit_two_pow_mul_add _ hy, Nat.testBit_two_pow_mul_add _ h]
  split <;> simp
theorem low_or : ∀ d : Fin 128, d.val ||| 128 = d.val + 128 := by decide +kernel
theorem top_iff : ∀ e : Fin 256, e.val &&& 128 = 0 ↔ e.val < 128 := by decide +kernel
theorem top_lt : ∀ e : Fin 256, e.val &&& 128 < 256 := by decide +kernel
theorem digits : ∀ (l : List (Nat × Nat)) (a2 a1 o lf : Nat), (∀ p ∈ l, p.1 < 128 ∧ p.2 < 128) → (a1 ||| 128 * o) = lf + a2 →
    ∃ LF, (nvA a1 (l.map (·.1)) ||| 128 * nvA o (l.map fun _ => 1)) = LF + nvA a2 (l.map (·.2)) ∧ (LF &&& (128 * nvA o (l.map fun _ => 1)) = 0 ↔ lf &&& (128 * o) = 0 ∧ ∀ p ∈ l, p.1 < p.2)
  | [], a2, a1, o, lf, _, h1 => ⟨lf, h1, by simp [nvA]⟩
  | (x, y) :: r, a2, a1, o, lf, h, h1 => by
    obtain ⟨hx, hy⟩ := h (x, y) List.mem_cons_self
    simp only at hx hy
    have ho : 128 * (o * 256 + 1) = (128 * o) * 256 + 128 := by omega
    obtain ⟨LF, e1, e2⟩ := digits r (a2 * 256 + y) (a1 * 256 + x) (o * 256 + 1) (lf * 256 + (x + 128 - y)) (fun p hp => h p (List.mem_cons_of_mem _ hp)) (by
      rw [ho, glue_or _ _ _ _ (by omega) (by decide), h1, low_or ⟨x, hx⟩]
      simp only
      omega)
    refine ⟨LF, e1, e2.trans ?_⟩
    rw [ho, glue_and _ _ _ _ (by omega) (by decide)]
    have t1 := top_iff ⟨x + 128 - y, by omega⟩
    simp only at t1
    constructor
    · rintro ⟨q1, q2⟩
      have : (lf &&& 128 * o) = 0 ∧ (x + 128 - y) &&& 128 = 0 := by omega
      refine ⟨this.1, fun p hp => ?_⟩
      rcases List.mem_cons.mp hp with rfl | hp
      · have := t1.mp this.2
        show x < y
        omega
      · exact q2 p hp
    · rintro ⟨q1, q2⟩
      have hxy := q2 (x, y) List.mem_cons_self
      simp only at hxy
      have := t1.mpr (by omega)
      exact ⟨by rw [q1, this], fun p hp => q2 p (List.mem_cons_of_mem _ hp)⟩
/-- the signs of texts, a sign ahead of each; a sign behind each -/
def codesF (ms : List PySem.Str) : List Nat := ms.flatMap fun m => 96 :: m.cps.toList
def codesS (ms : List PySem.Str) : List Nat := ms.flatMap fun m => m.cps.toList ++ [123]
def up : Nat → List Nat → List (Nat × Nat)
  | a, [] => [(a, 123)]
  | a, c :: r => (a, c) :: up c r
theorem up_1 : ∀ (l : List Nat) (a : Nat), (up a l).map (·.1) = a :: l
  | [], a => rfl
  | c :: r, a => by simp only [up, List.map_cons, up_1 r c]
theorem up_2 : ∀ (l : List Nat) (a : Nat), (up a l).map (·.2) = l ++ [123]
  | [], a => rfl
  | c :: r, a => by simp only [up, List.map_cons, up_2 r c, List.cons_append]
theorem up_iff : ∀ (l : List Nat) (a : Nat), (∀ p ∈ up a l, p.1 < p.2) ↔ asc (a :: l) = true ∧ ∀ c ∈ a :: l, c < 123
  | [], a => by simp [up, asc]
  | c :: r, a => by
    have ih := up_iff r c
    simp only [up, List.mem_cons, forall_eq_or_imp, asc, Bool.and_eq_true, decide_eq_true_eq] at ih ⊢
    constructor
    · rintro ⟨h1, h2⟩
      obtain ⟨h3, h4, h5⟩ := ih.mp h2
      exact ⟨⟨h1, h3⟩, by omega, h4, h5⟩
    · rintro ⟨⟨h1, h2⟩, h3, h4, h5⟩
      exact ⟨h1, ih.mpr ⟨h2, h4, h5⟩⟩
theorem up_low : ∀ (l : List Nat) (a : Nat), a < 128 → (∀ c ∈ l, c < 128) → ∀ p ∈ up a l, p.1 < 128 ∧ p.2 < 128
  | [], a, ha, _, p, hp => by
    simp only [up, List.mem_singleton] at hp
    subst hp
    exact ⟨ha, by show 123 < 128; decide⟩
  | c :: r, a, ha, h, p, hp => by
    have hc := h c List.mem_cons_self
    simp only [up, List.mem_cons] at hp
    rcases hp with rfl | hp
    · exact ⟨ha, hc⟩
    · exact up_low r c hc (fun c' h' => h c' (List.mem_cons_of_mem _ h')) p hp
theorem asc_gt : ∀ (l : List Nat) (a : Nat), asc (a :: l) = true → ∀ c ∈ l, a < c
  | [], _, _, c, hc => by simp at hc
  | b :: r, a, h, c, hc => by
    simp only [asc, Bool.and_eq_true, decide_eq_true_eq] at h
    rcases List.mem_cons.mp hc with rfl | hc
    · exact h.1
    · have := asc_gt r b h.2 c hc
      omega
theorem okM_iff (m : PySem.Str) : okM m = true ↔ ∀ p ∈ up 96 m.cps.toList, p.1 < p.2 := by
  rw [up_iff]
  unfold okM okS okC
  simp only [Bool.and_eq_true, List.all_eq_true, decide_eq_true_eq, List.mem_cons, forall_eq_or_imp]
  constructor
  · rintro ⟨h1, h2⟩
    refine ⟨?_, by decide, fun c hc => by have := h1 c hc; omega⟩
    cases hl : m.cps.toList with
    | nil => rfl
    | cons c r =>
      rw [hl] at h1 h2
      have := h1 c List.mem_cons_self
      simp only [asc, Bool.and_eq_true, decide_eq_true_eq]
      exact ⟨by omega, h2⟩
  · rintro ⟨h1, _, h2⟩
    refine ⟨fun c hc => ⟨by have := asc_gt _ _ h1 c hc; omega, by have := h2 c hc; omega⟩, ?_⟩
    cases hl : m.cps.toList with
    | nil => rfl
    | cons c r =>
      rw [hl] at h1
      simp only [asc, Bool.and_eq_true] at h1
      exact h1.2
theorem pairs_of : ∀ ms : List PySem.Str, (∀ m ∈ ms, ∀ c ∈ m.cps.toList, c < 128) → ∃ l : List (Nat × Nat), l.map (·.1) = codesF ms ∧ l.map (·.2) = codesS ms ∧ (∀ p ∈ l, p.1 < 128 ∧ p.2 < 128) ∧ ((∀ p ∈ l, p.1 < p.2) ↔ ∀ m ∈ ms, okM m = true)
  | [], _ => ⟨[], rfl, rfl, fun p hp => by simp at hp, by simp⟩
  | m :: r, h => by
    obtain ⟨l, l1, l2, l3, l4⟩ := pairs_of r fun m hm => h m (List.mem_cons_of_mem _ hm)
    have hm := h m List.mem_cons_self
    refine ⟨up 96 m.cps.toList ++ l, ?_, ?_, fun p hp => ?_, ?_⟩
    · rw [List.map_append, up_1, l1]; rfl
    · rw [List.map_append, up_2, l2]; rfl
    · rcases List.mem_append.mp hp with hp | hp
      · exact up_low _ _ (by decide) hm p hp
      · exact l3 p hp
    · simp only [List.mem_append, List.mem_cons, forall_eq_or_imp, okM_iff m]
      constructor
      · intro q
        exact ⟨fun p hp => q p (.inl hp), l4.mp fun p hp => q p (.inr hp)⟩
      · rintro ⟨q1, q2⟩ p (hp | hp)
        · exact q1 p hp
        · exact l4.mpr q2 p hp
def ones : Nat → Nat
  | 0 => 0
  | n + 1 => ones n * 256 + 1
theorem nvA_ones : ∀ (l : List (Nat × Nat)) (n : Nat), nvA (ones n) (l.map fun _ => 1) = ones (n + l.length)
  | [], n => rfl
  | p :: r, n => by
    show nvA (ones (n + 1)) (r.map fun _ => 1) = _
    rw [nvA_ones r (n + 1), List.length_cons]
    congr 1
    omega
theorem ones_eq : ∀ n : Nat, ones n * 255 + 1 = 256 ^ n
  | 0 => rfl
  | n + 1 => by
    have := ones_eq n
    rw [Nat.pow_succ, ← this]
    show (ones n * 256 + 1) * 255 + 1 = _
    omega
theorem tops_cut (n m : Nat) : 128 * ones (n + m) / 256 ^ m = 128 * ones n := by
  have h1 := ones_eq (n + m)
  have h2 := ones_eq n
  have h3 := ones_eq m
  have h4 : 256 ^ (n + m) = 256 ^ n * 256 ^ m := Nat.pow_add ..
  have hp : 0 < 256 ^ m := Nat.pow_pos (by decide)
  have e : ones (n + m) = ones n * 256 ^ m + ones m := by
    have : (ones (n + m)) * 255 = (ones n * 256 ^ m + ones m) * 255 := by
      have q1 : ones (n + m) * 255 + 1 = (ones n * 255 + 1) * 256 ^ m := by rw [h1, h2, h4]
      rw [Nat.add_mul, Nat.one_mul] at q1
      rw [Nat.add_mul, Nat.mul_right_comm]
      omega
    exact Nat.eq_of_mul_eq_mul_right (by decide) this
  rw [e, Nat.mul_add, ← Nat.mul_assoc, Nat.add_comm, Nat.add_mul_div_right _ _ hp, Nat.div_eq_of_lt (by omega), Nat.zero_add]
/-- what the program finds of texts -/
theorem marks_by_bits {ms : List PySem.Str} (h : ∀ m ∈ ms, ∀ c ∈ m.cps.toList, c < 128) : ∃ LF : Nat, (nvA 0 (codesF ms) ||| 128 * ones (codesS ms).length) = LF + nvA 0 (codesS ms) ∧
    (LF &&& (128 * ones (codesS ms).length) = 0 ↔ ms.all okM = true) := by
  obtain ⟨l, l1, l2, l3, l4⟩ := pairs_of ms h
  obtain ⟨LF, e1, e2⟩ := digits l 0 0 0 0 l3 rfl
  have hl : (codesS ms).length = l.length := by rw [← l2, List.length_map]
  have ho : nvA 0 (l.map fun _ => 1) = ones l.length := by
    have := nvA_ones l 0
    rwa [Nat.zero_add] at this
  rw [ho, l1, l2] at e1
  rw [ho] at e2
  refine ⟨LF, by rw [hl]; exact e1, ?_⟩
  rw [hl, e2, l4, List.all_eq_true]
  exact ⟨fun z => z.2, fun z => ⟨rfl, z⟩⟩
end Cp

set_option Elab.async false
set_option linter.all false
set_option maxRecDepth 100000
/-! ### own classes of errors over any built-in one, with an __init__ of their own: made, given fields -/
namespace Cp
open PySem PySem.Spec PySem.W PySem.Calls PyProof.Rows PySem.HandSPX PySem.Builtin PySem.Builtin.ObjectAttr
/-- own classes, then this tail -/
inductive Over (tl : List Value) : List Value → Prop
  | base : Over tl tl
  | own {c : Addr} {l : List Value} : Over tl l → Over tl (.ref c :: l)
def overB (tl : List Value) : List Value → Bool
  | .ref _ :: r => overB tl r
  | l => l == tl
theorem overB_cases (tl : List Value) : ∀ l : List Value, overB tl l = true → (∃ c r, l = .ref c :: r ∧ overB tl r = true) ∨ l = tl
  | [], z => Or.inr (beq_iff_eq.mp z)
  | .ref c :: r, z => Or.inl ⟨c, r, rfl, z⟩
  | .none :: _, z => Or.inr (beq_iff_eq.mp z)
  | .ellipsis :: _, z => Or.inr (beq_iff_eq.mp z)
  | .notImplemented :: _, z => Or.inr (beq_iff_eq.mp z)
  | .bool _ :: _, z => Or.inr (beq_iff_eq.mp z)
  | .int _ _ :: _, z => Or.inr (beq_iff_eq.mp z)
  | .float _ _ :: _, z => Or.inr (beq_iff_eq.mp z)
  | .str _ _ :: _, z => Or.inr (beq_iff_eq.mp z)
  | .bytes _ _ :: _, z => Or.inr (beq_iff_eq.mp z)
  | .type _ :: _, z => Or.inr (beq_iff_eq.mp z)
  | .builtin _ :: _, z => Or.inr (beq_iff_eq.mp z)
theorem Over.of {tl : List Value} : ∀ {l : List Value}, overB tl l = true → Over tl l := by
  intro l
  induction l with
  | nil => intro e; exact (overB_cases tl [] e).elim (fun ⟨_, _, q, _⟩ => nomatch q) (fun q => q ▸ .base)
  | cons a r ih =>
    intro e
    rcases overB_cases tl (a :: r) e with ⟨c, r', q, z⟩ | q
    · obtain ⟨rfl, rfl⟩ := List.cons.inj q
      exact .own (ih z)
    · rw [q]; exact .base
/-- what is asked of a tail -/
structure Tl (tl : List Value) (B newId initId : String) (bmB : List Value) : Prop where
  F : ExcBaseFacts B newId initId bmB
  hB : tl.contains (.type B) = true
  hA : tl.contains (.type "AttributeError") = false
  hN : tl.contains (.type "NameError") = false
  hO : tl.contains (.type "object") = true
  ne : tl.isEmpty = false
  ps : ∀ self, refuseLoop self "__setattr__" tl = pure ()
theorem Over.cont {tl l : List Value} (o : Over tl l) (x : String) : l.contains (.type x) = tl.contains (.type x) := by
  induction o with
  | base => rfl
  | own _ ih => rw [List.contains_cons, ih]; rfl
theorem Over.ne {tl l : List Value} (o : Over tl l) (n : tl.isEmpty = false) : l.isEmpty = false := by
  cases o with
  | base => exact n
  | own _ => rfl
theorem Over.pass {tl l : List Value} (o : Over tl l) {self : Value} (p : refuseLoop self "__setattr__" tl = pure ()) : refuseLoop self "__setattr__" l = pure () := by
  induction o with
  | base => exact p
  | own _ ih => rw [refuseLoop_ref]; exact ih
abbrev tlVE : List Value := [.type "ValueError", .type "Exception", .type "BaseException", .type "object"]
abbrev tlRE : List Value := [.type "RuntimeError", .type "Exception", .type "BaseException", .type "object"]
abbrev tlKE : List Value := [.type "KeyError", .type "LookupError", .type "Exception", .type "BaseException", .type "object"]
theorem tl_VE : Tl tlVE "ValueError" "ValueError.__new__" "ValueError.__init__" tlVE := ⟨PySem.F.excBase_ValueError, by decide +kernel, by decide +kernel, by decide +kernel, by decide +kernel, rfl, fun self => by kernel_rfl⟩
theorem tl_RE : Tl tlRE "RuntimeError" "RuntimeError.__new__" "RuntimeError.__init__" tlRE := ⟨PySem.F.excBase_RuntimeError, by decide +kernel, by decide +kernel, by decide +kernel, by decide +kernel, rfl, fun self => by kernel_rfl⟩
theorem tl_KE : Tl tlKE "LookupError" "LookupError.__new__" "LookupError.__init__" [.type "LookupError", .type "Exception", .type "BaseException", .type "object"] := ⟨PySem.F.excBase_LookupError, by decide +kernel, by decide +kernel, by decide +kernel, by decide +kernel, rfl, fun self => by kernel_rfl⟩
section
variable {tl : List Value} {nm q : Str} {C N : Addr} {bs bm bmB : List Value} {hdct : Bool} {sn : List Str} {sub : List Value} {ab : Bool} {col : Option Bool} {dd : Option Addr} {k0 k1 k2 k3 k5 : Option Value} {B newId initId : String}
variable {h : Heap} {g : Array GenState} {d : Drawn} {t : Nat} {os : OsState}
theorem chk_new {M : Model} {A : Around} {E : Value → Shared → Prop} {args : List Value} {Z : Unit → Shared → Prop} (T : Tl tl B newId initId bmB) (o : Over tl bm)
    (hc : h.get? C = some (excClassObj nm q C N bs bm hdct sn sub ab col dd k0 k1 k2 k3 k5 newId)) (z : Z () ⟨h, g, d, t, os⟩) : wpAny M A (checkBuiltinCall newId ⟨.ref C :: args, []⟩) Z E ⟨h, g, d, t, os⟩ := by
  have c1 : (Value.ref C :: bm).contains (.type B) = true := by rw [List.contains_cons, o.cont, T.hB, Bool.or_true]
  have c2 := T.F.noStar
  simp only [checkBuiltinCall, T.F.newKind, T.F.newSplit, T.F.newRow]
  repeat (first | refine wpAny_loadPart_at hc ?_ | (refine wpAny_isSubtype_exc hc ?_; rw [c1]) | refine wpAny_staticBase_exc hc ?_ | refine wpAny_madeBy_exc hc ?_ | simp only [bne_self_eq_false, Bool.false_eq_true, if_false] | wp_step)
  exact z
variable {prog : Program} {w : World} {A : Around} {E : Value → Shared → Prop} {R : Result → Shared → Prop}
theorem made_new {args : List Value} (T : Tl tl B newId initId bmB) (o : Over tl bm) (hc : h.get? C = some (excClassObj nm q C N bs bm hdct sn sub ab col dd k0 k1 k2 k3 k5 newId))
    (z : R (.ok (.ret (.ref (h.objs.size + 1)))) ⟨(h.push (W.kdv_tup args)).push (excO C h.objs.size), g, d, t, os⟩) (hz : args.length ≤ sizeLine) :
    codeAny (model prog w) A (.builtin newId ⟨.ref C :: args, []⟩) R ⟨h, g, d, t, os⟩ := by
  have c0 := T.F.ends
  have c1 : (Value.ref C :: bm).contains (.type B) = true := by rw [List.contains_cons, o.cont, T.hB, Bool.or_true]
  have c2 : (Value.ref C :: bm).contains (.type "AttributeError") = false := by rw [List.contains_cons, o.cont, T.hA]; rfl
  have c3 : (Value.ref C :: bm).contains (.type "NameError") = false := by rw [List.contains_cons, o.cont, T.hN]; rfl
  refine codeAny_builtinAt T.F.entry ?_
  unfold PySem.Builtin.«BaseException.__new__»; refine PySem.wpAt_bind ?_; show PySem.wpAt _ _ _ (stack >>= _) _ _ _
  refine PySem.wpAt_bind (PySem.wpAt_stack fun _ _ => PySem.wpAt_of_wpAny ?_); wp_walk
  refine PySem.wpAt_of_wpAny ?_; rw [T.F.owner]
  repeat (first | with_reducible refine wpAny_madeHere_exc T.F.canon hc ?_ | with_reducible refine wpAny_loadPart_at hc ?_ | (with_reducible refine wpAny_isSubtype_exc hc ?_; first | rw [c1] | rw [c2] | rw [c3]) | wp_step)
  show R _ _; rw [Heap.size_push]; exact z
theorem type_new {args : List Value} {fI : Addr} {Z : Fin → Shared → Prop} (T : Tl tl B newId initId bmB) (o : Over tl bm) (hc : h.get? C = some (excClassObj nm q C N bs bm hdct sn sub ab col dd k0 k1 k2 k3 k5 newId))
    (hi : W.Looks (model prog w) h (typeLookup (.ref C) "__init__") (some (.ref fI))) (hb : ∀ x, W.Looks (model prog w) h (bindSpecial (.ref fI) x) (.ref fI, [x])) (hz : args.length ≤ sizeLine)
    (z : codeAny (model prog w) A (.call (.ref fI) ⟨.ref (h.objs.size + 1) :: args, []⟩) (fun r s' => match r with | .ok (.ret v) => v = .none ∧ Z (.done (.ret (.ref (h.objs.size + 1)))) s' | .ok _ => False | .error e => E e s') ⟨(h.push (W.kdv_tup args)).push (excO C h.objs.size), g, d, t, os⟩) :
    wpAny (model prog w) A (Builtin.«type.__call__» ⟨.ref C :: args, []⟩) Z E ⟨h, g, d, t, os⟩ := by
  repeat (first | with_reducible refine wpAny_loadPart_at hc ?_ | with_reducible refine wpAny_madeBy_exc hc ?_ | wp_step)
  refine codeAny_call_builtin_code (Code.quiet_builtin _ T.F.quiet) (chk_new T o hc (made_new T o hc (?_ : wpAny _ _ _ _ _ _) hz))
  have kp : ∀ b u, h.get? b = some u → ((h.push (W.kdv_tup args)).push (excO C h.objs.size)).get? b = some u := fun b u e => Heap.get?_push_of_some _ (Heap.get?_push_of_some _ e)
  have hc1 := kp _ _ hc
  have hx : ((h.push (W.kdv_tup args)).push (excO C h.objs.size)).get? (h.objs.size + 1) = some (excO C h.objs.size) := by heap_get
  have c4 : (Value.ref C :: bm).contains (.ref C) = true := by simp
  unfold isInstance
  repeat (first | with_reducible refine wpAny_loadPart_at hx ?_ | (with_reducible refine wpAny_isSubtype_exc hc1 ?_; rw [c4]) | wp_step)
  show wpAny _ _ (typeLookup (.ref C) _) _ _ _
  refine (hi.keeps kp).at (wpAny_holding (wpAny_bind (((hb (.ref (h.objs.size + 1))).keeps kp).at (wpAny_bind (wpAny_call (codeAny_mono z fun r s' y => ?_))))))
  rcases r with e | (v | _ | _ | _) <;> first | exact y | exact y.elim | skip
  obtain ⟨rfl, y⟩ := y
  first | exact wpAny_pure (wpAny_pure y) | (wp_walk; exact y)
theorem call_new {args : List Value} {fI : Addr} (T : Tl tl B newId initId bmB) (o : Over tl bm) (hc : h.get? C = some (excClassObj nm q C N bs bm hdct sn sub ab col dd k0 k1 k2 k3 k5 newId))
    (hi : W.Looks (model prog w) h (typeLookup (.ref C) "__init__") (some (.ref fI))) (hb : ∀ x, W.Looks (model prog w) h (bindSpecial (.ref fI) x) (.ref fI, [x])) (hz : args.length ≤ sizeLine)
    (z : codeAny (model prog w) (A.under (.builtin "type.__call__" ⟨.ref C :: args, []⟩)) (.call (.ref fI) ⟨.ref (h.objs.size + 1) :: args, []⟩) (W.InitBack (h.objs.size + 1) R) ⟨(h.push (W.kdv_tup args)).push (excO C h.objs.size), g, d, t, os⟩) :
    codeAny (model prog w) A (.call (.ref C) ⟨args, []⟩) R ⟨h, g, d, t, os⟩ := by
  have f1 := tc_lookup
  have f2 := tc_bind (.ref C)
  have f3 : (⟨h, g, d, t, os⟩ : Shared).TypeIs (.ref C) "type" := ⟨_, hc, rfl⟩
  refine codeAny_of_tree (?_ : wpAny _ _ (callAny (.ref C) _) _ _ _)
  repeat (any_goals (first | assumption | with_reducible refine wpAny_loadPart_at hc ?_ | wp_step))
  refine ⟨rfl, codeAny_call_builtin_at (Code.quiet_builtin _ (by decide +kernel)) entry_typeCall (wpAny_check_type_call_sub hc (type_new T o hc hi hb hz (codeAny_mono z fun r s' y => ?_)))⟩
  rcases r with e | (v | _ | _ | _) <;> exact y
end
end Cp

set_option Elab.async false
set_option linter.all false
set_option maxRecDepth 100000
set_option maxHeartbeats 4000000
namespace Cp
open PySem PySem.Spec PySem.W PySem.Calls PyProof.Rows PySem.HandSPX PySem.Builtin.ObjectAttr
section
variable {tl : List Value} {prog : Program} {w : World} {A : Around} {E : Value → Shared → Prop} {R : Result → Shared → Prop} {hq0 : Heap} {g : Array GenState} {d : Drawn} {t : Nat} {os : OsState}
theorem put_first {K : W.Frag} {f : Str} {tk : Tok} {v : Value} {x C : Addr} {fv : Array Value} {cd : ClassData} (X : K.In hq0) (hx : hq0.get? x = some { cls := .ref C, data := .fields fv }) (hcd : W.clsIn K C = some cd)
    (o : Over tl cd.mro) (n0 : tl.isEmpty = false) (h0 : tl.contains (.type "object") = true) (p0 : ∀ self, refuseLoop self "__setattr__" tl = pure ()) (hh : cd.hasDict = true) (ha : W.findIn K (.ref C) f = some none)
    (z : ∀ h' tk' da, (∀ b u, b ≠ x → hq0.get? b = some u → h'.get? b = some u) → hq0.objs.size ≤ da → da ≠ x → h'.get? x = some { cls := .ref C, dict := some da, data := .fields fv } →
      h'.Ns1 da (fun y => if y = f then some v else none) → R (.ok (.ret .none)) ⟨h', g, d, tk', os⟩) :
    codeAny (model prog w) A (.call (.builtin "object.__setattr__") ⟨[.ref x, .str f tk, v], []⟩) R ⟨hq0, g, d, t, os⟩ := by
  have I : W.InstAt hq0 x { cls := .ref C, data := .fields fv } C none := ⟨hx, rfl, rfl, trivial⟩
  have st := F.store_object
  have e1 := o.ne n0
  have e2 : cd.mro.contains (.type "object") = true := (o.cont _).trans h0
  have e3 : x ≠ hq0.objs.size := Nat.ne_of_lt (Heap.lt_size hx)
  have e4 : W.Looks (model prog w) hq0 (isInstance (.ref x) (.type "object")) true := I.type.andThen (W.looks_mroIn X (by unfold W.mroIn; rw [hcd, Option.bind_some, if_neg (by rw [e1]; decide), e2]))
  refine codeAny_call_builtin st.slot.plain st.entry (@W.check_slot (model prog w) _ _ ⟨hq0, g, d, t, os⟩ "object.__setattr__" "object" "__setattr__" (.ref x) [.str f tk, v] [] _ st.kind st.split e4 (st.args (.ref x) (.str f tk) v) ?_)
  have e5 : W.Looks (model prog w) hq0 (mroOf (.ref C)) cd.mro := (W.looks_clsIn X hcd).andThen .now
  have e6 : W.Looks (model prog w) hq0 (storeTaker? none) none := .now
  have e7 : W.Looks (model prog w) hq0 (classData C) cd := W.looks_clsIn X hcd
  rw [W.osa_eq, refuse_eq]
  refine wpAny_bind (wpAny_bind (I.type.at (wpAny_bind (e5.at (?_ : wpAny _ _ (refuseLoop _ _ _) _ _ _)))))
  rw [o.pass (p0 _)]
  refine wpAny_pure (wpAny_bind (I.type.at (wpAny_bind ((W.looks_findIn X ha).at (wpAny_bind (e6.at (?_ : wpAny _ _ (storeInOwnDict (.ref x) (.ref C) (.str f tk) f v false) _ _ _)))))))
  obtain ⟨nm, bs, mro, ns, qn, hd, sn, sb, ab, col, dl⟩ := cd
  dsimp only at hh
  subst hh
  unfold storeInOwnDict ownDictForStores
  repeat (first | with_reducible refine store_in_new ?_ ?_ | with_reducible refine wpAny_loadPart_at hx ?_ | with_reducible refine e7.at ?_ | wp_step)
  · exact ⟨_, #[], _, (Heap.get?_update_ne _ _ _ _ e3.symm).trans (Heap.get?_push_at rfl rfl), rfl, fun e he => absurd he (by simp), fun _ => rfl⟩
  · intro h' tk' hn' hs
    refine z h' tk' hq0.objs.size (fun b u hb ho => ?_) (Nat.le_refl _) e3.symm ((hs.2 x e3).trans (Heap.get?_update_self _ (Heap.get?_push_of_some _ hx) rfl)) hn'
    exact (hs.2 b (Nat.ne_of_lt (Heap.lt_size ho))).trans ((Heap.get?_update_ne _ _ _ _ hb).trans (Heap.get?_push_of_some _ ho))
theorem put_next {K : W.Frag} {f : Str} {tk : Tok} {v : Value} {x C da : Addr} {fv : Array Value} {cd : ClassData} {m0 : Str → Option Value} {nl : List Str} (X : K.In hq0) (hx : hq0.get? x = some { cls := .ref C, dict := some da, data := .fields fv })
    (hn0 : hq0.Ns1 da m0) (hw : Within m0 nl) (hz : nl.length ≤ 1000) (hcd : W.clsIn K C = some cd) (o : Over tl cd.mro) (n0 : tl.isEmpty = false) (h0 : tl.contains (.type "object") = true)
    (p0 : ∀ self, refuseLoop self "__setattr__" tl = pure ()) (hh : cd.hasDict = true) (ha : W.findIn K (.ref C) f = some none)
    (z : ∀ h' tk', (∀ b u, b ≠ da → hq0.get? b = some u → h'.get? b = some u) → h'.Ns1 da (fun y => if y = f then some v else m0 y) → R (.ok (.ret .none)) ⟨h', g, d, tk', os⟩) :
    codeAny (model prog w) A (.call (.builtin "object.__setattr__") ⟨[.ref x, .str f tk, v], []⟩) R ⟨hq0, g, d, t, os⟩ := by
  obtain ⟨ob, esD, epD, hob, hdD, _⟩ := hn0.count hw
  have I : W.InstAt hq0 x { cls := .ref C, dict := some da, data := .fields fv } C (some ob) := ⟨hx, rfl, rfl, hob⟩
  have st := F.store_object
  have e1 := o.ne n0
  have e2 : cd.mro.contains (.type "object") = true := (o.cont _).trans h0
  have e4 : W.Looks (model prog w) hq0 (isInstance (.ref x) (.type "object")) true := I.type.andThen (W.looks_mroIn X (by unfold W.mroIn; rw [hcd, Option.bind_some, if_neg (by rw [e1]; decide), e2]))
  refine codeAny_call_builtin st.slot.plain st.entry (@W.check_slot (model prog w) _ _ ⟨hq0, g, d, t, os⟩ "object.__setattr__" "object" "__setattr__" (.ref x) [.str f tk, v] [] _ st.kind st.split e4 (st.args (.ref x) (.str f tk) v) ?_)
  have e5 : W.Looks (model prog w) hq0 (mroOf (.ref C)) cd.mro := (W.looks_clsIn X hcd).andThen .now
  have e6 : W.Looks (model prog w) hq0 (storeTaker? none) none := .now
  have e7 : W.Looks (model prog w) hq0 (classData C) cd := W.looks_clsIn X hcd
  rw [W.osa_eq, refuse_eq]
  refine wpAny_bind (wpAny_bind (I.type.at (wpAny_bind (e5.at (?_ : wpAny _ _ (refuseLoop _ _ _) _ _ _)))))
  rw [o.pass (p0 _)]
  refine wpAny_pure (wpAny_bind (I.type.at (wpAny_bind ((W.looks_findIn X ha).at (wpAny_bind (e6.at (?_ : wpAny _ _ (storeInOwnDict (.ref x) (.ref C) (.str f tk) f v false) _ _ _)))))))
  obtain ⟨nm, bs, mro, ns, qn, hd, sn, sb, ab, col, dl⟩ := cd
  dsimp only at hh
  subst hh
  unfold storeInOwnDict ownDictForStores
  repeat (first | with_reducible refine PySem.OEX.store_in_old hn0 hw hz ?_ | with_reducible refine wpAny_loadPart_at hx ?_ | with_reducible refine e7.at ?_ | wp_step)
  exact fun h' tk' hn' hs => z h' tk' (fun b u hb ho => (hs.2 b hb).trans ho) hn'
end
end Cp
namespace Cp
open PySem PySem.Spec L2 PyProof.Rows
/-- what the written part says of an own class over this tail -/
structure OexG (tl : List Value) (B newId initId : String) (bmB : List Value) (K : PySem.W.Frag) (C : Addr) : Prop where
  T : Tl tl B newId initId bmB
  cls : ∃ nm q N bs bm sn sub ab col dd k0 k1 k2 k3 k5, K.lookup C = some (excClassObj nm q C N bs bm true sn sub ab col dd k0 k1 k2 k3 k5 newId) ∧ Over tl bm
  sa : PySem.W.findIn K (.ref C) "__setattr__" = some (some (.builtin "object.__setattr__"))
  exC : PySem.W.subIn K (.ref C) (.type "BaseException") = some true
  tyC : PySem.W.typeIn K (.ref C) = some (.type "type")
  kC : PySem.W.keepIn K (.ref C) = true
section
variable {tl : List Value} {B newId initId : String} {bmB : List Value} {X : Cx} {pins : List (Addr × Obj)} {σ : L2.St} {H : Hp} {s : Shared} {a C da : Addr} {f : Str} {y : V} {u : Value} {fs : List (Str × V)} {Q : Unit → Shared → Prop} {E : Value → Shared → Prop} {A : Around}
theorem OexG.cd {K : PySem.W.Frag} (T : OexG tl B newId initId bmB K C) : ∃ cd, PySem.W.clsIn K C = some cd ∧ Over tl cd.mro ∧ cd.hasDict = true := by
  obtain ⟨nm, q, N, bs, bm, sn, sub, ab, col, dd, k0, k1, k2, k3, k5, e, o⟩ := T.cls
  refine ⟨_, by unfold PySem.W.clsIn; rw [e] <;> rfl, .own o, rfl⟩
theorem st_first (T : OexG tl B newId initId bmB X.K C) (I : Inv X pins σ H s) (e : H a = some (exo a C none)) (hno : PySem.W.findIn X.K (.ref C) f = some none) (ry : RelV y u)
    (h : ∀ da s', H da = none → da ≠ a → Inv X pins σ (upd (upd H da (exd da [(f, y)])) a (exo a C (some da))) s' → Q () s') : wpAny (model X.prog X.w) A (setAttr (.ref a) f u) Q E s := by
  obtain ⟨cd, c1, c2, c3⟩ := T.cd
  obtain ⟨t0, ho⟩ := exo_at I.hok e
  obtain ⟨hq0, g, d, t, os⟩ := s
  refine PySem.W.set_plain I.kIn (ox := { cls := .ref C, dict := none, data := .fields #[.ref t0, .none, .none, .none, .bool false, .none] }) (od := none) ⟨ho, rfl, rfl, trivial⟩ T.sa ?_
  refine put_first I.kIn ho c1 c2 T.T.ne T.T.hO T.T.ps c3 hno (fun h' tk' da k dn dne hx hn => ?_)
  have z1 : H da = none := I.hok.fresh dn
  have z2 : ∀ {b : Addr} {o : Obj}, hq0.get? b = some o → b ≠ da := fun {b o} q => Nat.ne_of_lt (Nat.lt_of_lt_of_le (Heap.lt_size q) dn)
  have z3 : ∀ {b : Addr}, H b = none → b ≠ a := fun {b} n z => by
    rw [z, e] at n
    cases n
  have U : Un X.fs [] H (upd (upd H da (exd da [(f, y)])) a (exo a C (some da))) hq0 h' := {
    keep := fun b o q n _ _ => k b o (z3 n) q
    slot := fun b o q n _ _ => ⟨o.slots, k b o (z3 n) q⟩
    free := fun b o q n _ => (upd_ne (z3 n)).trans ((upd_ne (z2 q)).trans n)
    there := fun b o q _ => if hb : b = a then ⟨_, hb ▸ hx⟩ else ⟨o, k b o hb q⟩
    tups := fun b xs q => (upd_ne (at_ne e q exo_tup)).trans ((upd_ne (ne_of_none q z1)).trans q)
    frzs := fun b o v q => (upd_ne (at_ne e q exo_frz)).trans ((upd_ne (ne_of_none q z1)).trans q)
    tbls := fun b ps q => ⟨#[], by rw [upd_ne (at_ne e q exo_tbl), upd_ne (ne_of_none q z1), q, Array.append_empty]⟩ }
  refine h da _ z1 dne (I.un (t' := tk') U fun b o q => ?_)
  by_cases hb : b = a
  · subst hb; rw [upd_same] at q; cases q; exact exo_ok hx
  · rw [upd_ne hb] at q
    by_cases hd : b = da
    · subst hd; rw [upd_same] at q; cases q; exact exd_ok hn (relO_put (fs := []) ry fun g => True.intro)
    · rw [upd_ne hd] at q
      exact (I.hok b o q).stay (fun c v hc z => k c v (hc.elim (fun hc => hc ▸ hb) (fun hc => at_ne e hc exo_own)) z)
        (fun c hc => (upd_ne (at_ne e hc exo_own)).trans ((upd_ne (ne_of_none hc z1)).trans hc)) (fun c xs hc => (upd_ne (at_ne e hc exo_tup)).trans ((upd_ne (ne_of_none hc z1)).trans hc))
theorem st_next (T : OexG tl B newId initId bmB X.K C) (I : Inv X pins σ H s) (e : H a = some (exo a C (some da))) (ed : H da = some (exd da fs)) (hl0 : fs.length ≤ 900) (hno : PySem.W.findIn X.K (.ref C) f = some none) (ry : RelV y u)
    (h : ∀ s', Inv X pins σ (upd H da (exd da ((f, y) :: fs))) s' → Q () s') : wpAny (model X.prog X.w) A (setAttr (.ref a) f u) Q E s := by
  obtain ⟨cd, c1, c2, c3⟩ := T.cd
  obtain ⟨t0, ho⟩ := exo_at I.hok e
  obtain ⟨mm, hn0, rl⟩ := exd_at I.hok ed
  obtain ⟨hq0, g, d, t, os⟩ := s
  obtain ⟨ob, _, _, hob, _, _⟩ := hn0.count (within_of rl)
  refine PySem.W.set_plain I.kIn (ox := { cls := .ref C, dict := some da, data := .fields #[.ref t0, .none, .none, .none, .bool false, .none] }) (od := some ob) ⟨ho, rfl, rfl, hob⟩ T.sa ?_
  refine put_next I.kIn ho hn0 (within_of rl) (by rw [List.length_map]; omega) c1 c2 T.T.ne T.T.hO T.T.ps c3 hno (fun h' tk' k hn => ?_)
  have hd : ∃ o, h'.get? da = some o := match hn with | ⟨o1, _, _, e', _⟩ => ⟨o1, e'⟩
  exact h _ (I.write (t' := tk') (x := da) (e := da) (o := exd da ((f, y) :: fs)) (by rw [ed]; exact True.intro) (.inl rfl) k hd (exd_ok hn (relO_put ry rl)))
end
/-- self.f = e in an own error's __init__ -/
def tOsg (tl : List Value) (B newId initId : String) (bmB : List Value) (K : PySem.W.Frag) (f : Str) (to te : TE) : TS := fun D σ H => te σ H fun y H1 => to σ H1 fun x H2 => ∃ a C : Addr, x = .ref a ∧ OexG tl B newId initId bmB K C ∧ PySem.W.findIn K (.ref C) f = some none ∧
  ((H2 a = some (exo a C none) ∧ ∀ da, H2 da = none → da ≠ a → D.nx σ (upd (upd H2 da (exd da [(f, y)])) a (exo a C (some da)))) ∨
    ∃ (da : Addr) (fs : List (Str × V)), H2 a = some (exo a C (some da)) ∧ H2 da = some (exd da fs) ∧ fs.length ≤ 900 ∧ D.nx σ (upd H2 da (exd da ((f, y) :: fs))))
section
variable {tl : List Value} {B newId initId : String} {bmB : List Value} {X : Cx} {o e : Expr} {es : List Expr} {to te : TE} {ta : TA} {f : Str} {p p' p1 p2 pos : Pos}
theorem ps_osg (ho : PE X o to) (he : PE X e te) (hs : swapsWith e (some (.Attribute o f p')) pos.line X.env = pure false := by rfl) : PS X (.Assign [.Attribute o f p'] e pos) (tOsg tl B newId initId bmB X.K f to te) := by
  refine ⟨fun pins s σ H D I h => plainObj_wpAny_Assign_Attribute (thn (he.run pins s σ H _ I h) fun v s1 ⟨y, H1, I1, r1, q1⟩ => thn (ho.run pins s1 σ H1 _ I1 q1) fun u s2 ⟨x, H2, I2, r2, a, C, ex, T, hno, q⟩ => ?_) hs⟩
  subst ex; obtain rfl : u = Value.ref a := r2
  exact q.elim (fun ⟨ea, q⟩ => st_first T I2 ea hno r1 fun da s' n ne J => ⟨σ, _, J, q da n ne⟩) (fun ⟨da, fs, ea, ed, hl0, q⟩ => st_next T I2 ea ed hl0 hno r1 fun s' J => ⟨σ, _, J, q⟩)
theorem pmk_oeg {CX : CXT} {x : Str} {C fI : Addr} {k : Nat} {fd : FuncData} {ps : List Str} {sp : Sp} (T : OexG tl B newId initId bmB X.K C) (iC : PySem.W.findIn X.K (.ref C) "__init__" = some (some (.ref fI))) (tI : PySem.W.typeIn X.K (.ref fI) = some (.type "function"))
    (F1 : FnOk X.prog X.w X.K X.mg X.base CX k fI fd ps sp) (hr : Room (k + 1) X.A) (hb : Binds X.K fd ps []) (hx : Passes CX X (fun _ _ _ => False)) (hg : Gl X x) (hm : X.mg x = some (.ref C)) (ha : PA X (e :: es) ta)
    (hdb : (x == ("__debug__" : Str)) = false := by decide) (he : starEach (e :: es) X.env = (false, eval e X.env) :: starEach es X.env := by rfl) (hpl : (backTo pos (starEach es X.env)).any (·.1) = false := by rfl) :
    PMk X (.Call (.Name x p) (e :: es) [] pos) (tMkO C sp [] ta) := by
  intro pins s σ H Q I h
  obtain ⟨nm, q, N, bs, bm, sn, sub, ab, col, dd, k0, k1, k2, k3, k5, hC, hbm⟩ := T.cls
  refine wpAny_Call_Name_kw (ld_glob I hg hm (PySem.W.callWith_K (h₀ := X.base) I.ok.mod.kin T.kC (thn (ha.run pos pins s σ H _ I h) fun us s1 ⟨vs, H1, I1, r1, hz, q1⟩ => ⟨I1.kIn, (?_ : wpAny _ _ (call (.ref C) us) _ _ _)⟩) he hpl) hdb)
  obtain ⟨hq0, g, dr, tk, os⟩ := s1
  have sz : hq0.objs.size ≤ hq0.objs.size + 1 := Nat.le_succ _
  have hq := q1 (hq0.objs.size + 1) (I1.hok.fresh sz)
  have kp : ∀ b o, hq0.get? b = some o → ((hq0.push (PySem.W.kdv_tup us)).push (PySem.HandSPX.excO C hq0.objs.size)).get? b = some o := fun b o e => Heap.get?_push_of_some _ (Heap.get?_push_of_some _ e)
  have hg1 : ((hq0.push (PySem.W.kdv_tup us)).push (PySem.HandSPX.excO C hq0.objs.size)).get? (hq0.objs.size + 1) = some (PySem.HandSPX.excO C hq0.objs.size) := by heap_get
  have I2 : Inv X pins σ (upd H1 (hq0.objs.size + 1) (exo (hq0.objs.size + 1) C none)) ⟨(hq0.push (PySem.W.kdv_tup us)).push (PySem.HandSPX.excO C hq0.objs.size), g, dr, tk, os⟩ := I1.laid (t' := tk) (a := hq0.objs.size + 1) (o := exo (hq0.objs.size + 1) C none) kp sz (exo_ok hg1)
  have rv2 : Vals (V.ref (hq0.objs.size + 1) :: (vs ++ [])) (Value.ref (hq0.objs.size + 1) :: (us ++ [])) := .cons rfl (r1.append .nil)
  have hl0 : (Value.ref (hq0.objs.size + 1) :: us ++ []).length = ps.length := (rv2.length.symm.trans (F1.len _ _ _ _ hq)) ▸ rfl
  have hus : us.length ≤ sizeLine := by rw [← Paired.length r1, sizeLine_eq]; omega
  refine wpAny_call (call_new T.T hbm (I1.kIn _ _ hC) (PySem.W.looks_findIn I1.kIn iC) (fun self => PySem.W.bind_fn I1.kIn self tI) hus
    (codeAny_mono (F1.run _ X.stack _ _ ⟨Value.ref (hq0.objs.size + 1) :: us, []⟩ (Value.ref (hq0.objs.size + 1) :: (us ++ [])) _ _ (fun _ _ _ => False) (hr.make C us []) (I2.env0.make C us []) (by simpa only [List.append_nil, List.cons_append] using hb _ (Value.ref (hq0.objs.size + 1) :: us) I2.kIn hl0) rv2 hq) fun r s' hq' => ?_))
  match r, hq' with
  | .error er, hq' => exact hx pins σ _ _ er s' I2 hq'
  | .ok (.ret u), ⟨v, H2, os2, bare2, un2, hok2, rv, ev, d, fs, ea, ed, hd1, q2⟩ =>
    subst ev; obtain ⟨h2, g2, d2, t2, os'⟩ := s'
    exact ⟨rv, mk_end (raises_own T.exC T.tyC) I1 sz kp un2 hok2 os2 bare2 ea ed hd1 q2⟩
  | .ok .next, z => exact False.elim z
  | .ok .brk, z => exact False.elim z
  | .ok .cont, z => exact False.elim z
end
end Cp

set_option Elab.async false
set_option linter.all false
set_option maxRecDepth 100000
/-! ### what is asked of an own error class, as a Bool over the written part -/
namespace Cp
open PySem PySem.Spec L2 PyProof.Rows
def oegMro (tl : List Value) (C : Addr) : List Value → Bool
  | .ref c :: r => c == C && overB tl r
  | _ => false
def oegObj (tl : List Value) (newId : String) (C : Addr) (o : Obj) : Bool := match o with
  | ⟨.type "type", _, .cls cd, sl⟩ => oegMro tl C cd.mro && (cd.hasDict && (!cd.hasDel && (match sl.toList with
    | [_, _, _, _, some (.builtin n), _] => n == newId
    | _ => false)))
  | _ => false
def oegB (tl : List Value) (newId : String) (K : PySem.W.Frag) (C : Addr) : Bool := (K.lookup C).any (oegObj tl newId C) && (decide (PySem.W.findIn K (.ref C) "__setattr__" = some (some (.builtin "object.__setattr__"))) &&
  (decide (PySem.W.subIn K (.ref C) (.type "BaseException") = some true) && (decide (PySem.W.typeIn K (.ref C) = some (.type "type")) && PySem.W.keepIn K (.ref C))))
theorem OexG.of {tl : List Value} {B newId initId : String} {bmB : List Value} {K : PySem.W.Frag} {C : Addr} (T : Tl tl B newId initId bmB) (h : oegB tl newId K C = true) : OexG tl B newId initId bmB K C := by
  unfold oegB at h
  simp only [Bool.and_eq_true, decide_eq_true_eq] at h
  obtain ⟨h1, h2, h3, h4, h5⟩ := h
  refine ⟨T, ?_, h2, h3, h4, h5⟩
  cases hl : K.lookup C with
  | none => rw [hl] at h1; cases h1
  | some o =>
    rw [hl] at h1
    have h6 : oegObj tl newId C o = true := h1
    unfold oegObj at h6
    split at h6
    · rename_i dd cd sl
      simp only [Bool.and_eq_true, Bool.not_eq_true'] at h6
      obtain ⟨g1, g2, g3, g4⟩ := h6
      unfold oegMro at g1
      split at g1
      · rename_i c r hm
        simp only [Bool.and_eq_true, beq_iff_eq] at g1
        obtain ⟨rfl, go⟩ := g1
        split at g4
        · rename_i k0 k1 k2 k3 n k5 hs
          have en : n = newId := beq_iff_eq.mp g4
          subst en
          obtain ⟨nm, bs, mro, ns, qn, hd, sn, sub, ab, col, del⟩ := cd
          dsimp only at hm g2 g3
          subst hm g2 g3
          obtain ⟨ls⟩ := sl
          dsimp only at hs
          subst hs
          exact ⟨nm, qn, ns, bs, r, sn, sub, ab, col, dd, k0, k1, k2, k3, k5, rfl, Over.of go⟩
        · cases g4
      · cases g1
    · cases h6
end Cp

set_option Elab.async false
set_option linter.all false
set_option maxRecDepth 100000
set_option maxHeartbeats 4000000
/-! ### isinstance of a held error: a class, a tuple of classes -/
namespace Cp
open PySem PySem.Spec PySem.W PySem.Calls PyProof.Rows
section
variable {K : Frag} {D x : Addr} {oe od : Obj}
theorem cls_found {a g : Value} {o : Option Obj} (h1 : (clsIn K D).isSome = true) (h2 : findIn K (.ref D) "__class__" = some (some a)) (h3 : specialIn K a "__get__" = some (some g)) (h4 : takesIn K a = some true) : findObj K D o "__class__" = some (.bind g a) := by
  obtain ⟨cd, e⟩ := Option.isSome_iff_exists.mp h1
  unfold findObj
  rw [e, Option.bind_some, h2, Option.bind_some]; simp [h3, h4]
theorem held_class {prog : Program} {w : World} {A : Around} {E : Value → Shared → Prop} {s : Shared} {Z : Option Value → Shared → Prop} {o : Option Obj} (C : L2.ExcC K D) (X : K.In s.heap) (I : InstAt s.heap x oe D o) (z : Z (some (.ref D)) { s with toks := s.toks + 1 }) :
    wpAny (model prog w) A (getAttr? (.ref x) "__class__") Z E s := by
  have hf := cls_found (o := o) (by obtain ⟨cd, hc, _⟩ := any_some C.hd; rw [hc]; rfl) C.ha C.hn C.ht
  obtain ⟨h, g, d, tk, os⟩ := s
  have w0 := I.type (M := model prog w)
  have w1 := looks_findIn (M := model prog w) X C.hg
  have w2 := looks_findIn (M := model prog w) X C.hk
  have w3 := looks_find (M := model prog w) X I hf
  have w4 : Looks (model prog w) h (isInstance (.ref x) (.type "BaseException")) true := w0.andThen (looks_subIn X C.hs)
  have n0 : (false && onTheHeap (Value.builtin "BaseException.__getattribute__")) = false := rfl
  have n1 : (Value.builtin "BaseException.__getattribute__" == Value.builtin "object.__getattribute__") = false := by decide +kernel
  have n2 : (onTheHeap (Value.ref D) && Value.builtin "BaseException.__getattribute__" == Value.builtin "object.__getattribute__") = false := by rw [n1]; rfl
  unfold getAttr? getAttrBy? getAttrBy
  refine wpAny_bind (wpAny_mkText (wpAny_bind (wpAny_attempt (wpAny_holding (wpAny_bind (w0.at (wpAny_bind (w1.at ?_))))))))
  show wpAny _ _ (if (onTheHeap (Value.ref D) && Value.builtin "BaseException.__getattribute__" == Value.builtin "object.__getattribute__") = true then _ else _) _ _ _; rw [n2, if_neg Bool.false_ne_true]
  unfold getAttrByItsOwn hookBefore; refine wpAny_bind ?_
  rw [if_pos (show onTheHeap (Value.ref D) = true from rfl)]
  refine w2.at (wpAny_bind (wpAny_attempt (wpAny_holding ?_)))
  unfold callGetattribute; rw [n0, if_neg Bool.false_ne_true]
  unfold boundAndCalled; rw [PySem.F.excAttr_ValueError.ga.bind (.ref x)]
  refine wpAny_bind (wpAny_pure (?_ : wpAny _ _ (call (.builtin "BaseException.__getattribute__") [.ref x, .str "__class__" tk]) _ _ _))
  refine wpAny_call (codeAny_call_builtin PySem.F.excAttr_ValueError.ga.plain PySem.F.entry_bexc_ga (@check_slot (model prog w) _ _ ⟨h, g, d, tk + 1, os⟩ "BaseException.__getattribute__" "BaseException" "__getattribute__" (.ref x) [.str "__class__" tk] [] _ (by decide +kernel) (by decide +kernel) w4 (PySem.F.args_bexc_ga (.ref x) (.str "__class__" tk)) ?_))
  unfold Builtin.«object.__getattribute__»
  refine wpAny_bind (wpAny_of_eq (a := ((Value.ref x : Value), [Value.str "__class__" tk])) (by first | rfl | (simp only [slotArgs]; rfl)) (wpAny_bind (wpAny_pure (wpAny_bind (w0.at (wpAny_bind (w3.at ?_)))))))
  show wpAny _ _ (holding [Value.builtin "object.__class__"] (call (.builtin "getset_descriptor.__get__") [.builtin "object.__class__", .ref x, .ref D]) >>= ret) _ _ _
  refine wpAny_bind (wpAny_holding (wpAny_call (class_get (s := ⟨h, g, d, tk + 1, os⟩) (ox := oe) (od := o) X I C.hm (wpAny_pure (?_ : wpAny _ _ (handedOut (.ref D)) _ _ _)))))
  rw [handedOut_of (v := .ref D) rfl]
  first
    | exact wpAny_pure (wpAny_pure z)
    | exact wpAny_pure z
    | exact wpAny_pure (wpAny_bind (wpAny_pure (wpAny_pure z)))
theorem held_kit {o : Option Obj} (C : L2.ExcC K D) : KitX K (.ref x) (.ref D) (fun h => InstAt h x oe D o) := by
  obtain ⟨cd, hcd, _⟩ := any_some C.hd
  unfold clsIn at hcd
  split at hcd
  · rename_i c' d' cd' sl' ho
    refine ⟨fun _ _ _ I => I.type, fun _ _ X _ A' Q' E' s' k q => ?_, fun h tp dd its n sl X ht => ?_, fun X I z => held_class C X I z⟩
    · unfold isType loadHead
      exact wpAny_bind (wpAny_loadPart (k _ _ (X _ _ ho)) (wpAny_pure q))
    · refine Bool.eq_false_iff.mpr fun q => ?_
      have e : D = tp := Value.ref.inj (beq_iff_eq.mp q)
      subst e
      cases (X _ _ ho).symm.trans ht
  · cases hcd
end
end Cp
namespace Cp
open PySem PySem.Spec L2 PyProof.Rows
/-- isinstance(e, c) of the held error e -/
def rIsH (K : PySem.W.Frag) (D a : Addr) (d : Option Addr) : List V → Hp → VK → Prop := fun xs H Q => ∃ (c : V) (b : Bool), xs = [.ref a, c] ∧ (d = none ∨ ∃ dd fs, d = some dd ∧ H dd = some (.xd fs)) ∧
  ((∃ cv, (∀ u, RelV c u → u = cv) ∧ PySem.W.kitOne K (.ref D) cv = some b) ∨ ∃ (tp : Addr) (cs : List V) (cvs : List Value), c = .ref tp ∧ H tp = some (.tup cs) ∧ (∀ us, Vals cs us → us = cvs) ∧ PySem.W.kitAny K (.ref D) cvs = some b) ∧ Q (.bl b) H
theorem call_isH {X : Cx} {a D : Addr} {oe : Obj} {d : Option Addr} {pn : List (Addr × Obj)} (C : ExcC X.K D) (hz : Zc (.ref D) d oe) (hf : ∃ vs, oe.data = .fields vs) : CallR (held X ((a, oe) :: pn)) (.builtin "isinstance") (rIsH X.K D a d) := by
  intro pins s σ H xs us Q I r h
  obtain ⟨c, b, rfl, hd, hc, q⟩ := h
  cases r with
  | cons rx rr =>
    cases rr with
    | cons rt rr =>
      cases rr
      cases rx
      obtain ⟨hget, _⟩ := I.pin (a, oe) (List.mem_append.mpr (.inl List.mem_cons_self))
      obtain ⟨vs, hv⟩ := hf
      have J : ∃ od, PySem.W.InstAt s.heap a oe D od := by
        rcases hd with e | ⟨dd, fs, e, hdd⟩
        · refine ⟨none, hget, hz.1, ?_, ?_⟩
          · unfold PySem.W.notCls; rw [hv]
          · rw [hz.2, e]; trivial
        · have dictAt : ObjOk X.prog X.w H s.heap dd (.xd fs) := I.hok dd _ hdd
          obtain ⟨mA, hns, _⟩ := dictAt
          obtain ⟨od, ho, _⟩ := lookIn_ns hns
          refine ⟨some od, hget, hz.1, ?_, ?_⟩
          · unfold PySem.W.notCls; rw [hv]
          · rw [hz.2, e]; exact ho
      obtain ⟨od, J⟩ := J
      rcases hc with ⟨cv, hcv, e⟩ | ⟨tp, cs, cvs, ec, ht, hcs, e⟩
      · have ec := hcv _ rt
        subst ec
        exact PySem.W.kia_one (held_kit C) I.kIn J e (fun z => nomatch z) fun tk => ⟨.bl b, H, I.kept (t' := tk) fun _ _ z => z, rfl, q⟩
      · subst ec
        cases rt
        have tupAt : ObjOk X.prog X.w H s.heap tp (.tup cs) := I.hok tp _ ht
        obtain ⟨_, its, ri, hit⟩ := tupAt
        have ei := hcs _ ri
        subst ei
        obtain ⟨⟨oc, odd, oda, osl⟩, ho, h1, n, h2⟩ := hit
        dsimp only at h1 h2
        subst h1 h2
        exact PySem.W.kia_tup (held_kit C) I.kIn J ho e (fun z => nomatch z) fun tk => ⟨.bl b, H, I.kept (t' := tk) fun _ _ z => z, rfl, q⟩
end Cp

set_option Elab.async false
set_option linter.all false
set_option maxRecDepth 100000
/-! ### errors as values: made, read, asked for their class, kept behind a try -/
namespace Cp
open PySem PySem.Spec L2 PyProof.Rows
/-- an error of the class at C stands at a, its dict is d -/
def ErAt (H : Hp) (a C : Addr) (d : Option Addr) : Prop := ∃ φ : Heap → Prop, H a = some (.ext φ) ∧ ∀ h, φ h → ∃ (oe : Obj) (vs : Array Value), h.get? a = some oe ∧ Zc (.ref C) d oe ∧ oe.data = .fields vs
/-- the dict of an error -/
def EdAt (H : Hp) (d : Addr) (fs : List (Str × V)) : Prop := H d = some (exd d fs) ∨ H d = some (.xd fs)
theorem ErAt.of_exo {H : Hp} {a C : Addr} {d : Option Addr} (e : H a = some (exo a C d)) : ErAt H a C d := ⟨_, e, fun h z => by
  obtain ⟨t, q⟩ := z
  exact ⟨_, _, q, ⟨rfl, rfl⟩, rfl⟩⟩
theorem ErAt.of_ExO {H : Hp} {a C : Addr} (e : H a = some (ExO (.ref C) a)) : ErAt H a C none := ⟨_, e, fun h z => by
  obtain ⟨oe, vs, q, zc, hd, _⟩ := z
  exact ⟨oe, vs, q, zc, hd⟩⟩
theorem ErAt.same {H H' : Hp} {a C : Addr} {d : Option Addr} (e : ErAt H a C d) (s : Same H H') : ErAt H' a C d := by
  obtain ⟨φ, h1, h2⟩ := e
  exact ⟨φ, s _ _ h1, h2⟩
theorem EdAt.same {H H' : Hp} {d : Addr} {fs : List (Str × V)} (e : EdAt H d fs) (s : Same H H') : EdAt H' d fs := e.elim (fun z => .inl (s _ _ z)) fun z => .inr (s _ _ z)
/-- a whole error: its fields -/
def Err (H : Hp) (a C : Addr) (fs : List (Str × V)) : Prop := ∃ d, ErAt H a C (some d) ∧ EdAt H d fs
theorem Err.same {H H' : Hp} {a C : Addr} {fs : List (Str × V)} (e : Err H a C fs) (s : Same H H') : Err H' a C fs := by
  obtain ⟨d, h1, h2⟩ := e
  exact ⟨d, h1.same s, h2.same s⟩
/-- an error with or without fields -/
def ErrW (H : Hp) (a C : Addr) : Prop := ErAt H a C none ∨ ∃ fs, Err H a C fs
theorem ErrW.same {H H' : Hp} {a C : Addr} (e : ErrW H a C) (s : Same H H') : ErrW H' a C := e.elim (fun z => .inl (z.same s)) fun ⟨fs, z⟩ => .inr ⟨fs, z.same s⟩
section
variable {X : Cx} {pins : List (Addr × Obj)} {σ : L2.St} {H : Hp} {s : Shared}
theorem EdAt.look {d : Addr} {fs : List (Str × V)} (I : Inv X pins σ H s) (e : EdAt H d fs) : ∃ mA, s.heap.Ns1 d mA ∧ ∀ f, RelO (fs.lookup f) (mA f) := by
  rcases e with e | e
  · exact exd_at I.hok e
  · exact I.hok d _ e
theorem ErAt.raw {a C : Addr} {d : Option Addr} (I : Inv X pins σ H s) (e : ErAt H a C d) : ∃ (oe : Obj) (vs : Array Value), s.heap.get? a = some oe ∧ Zc (.ref C) d oe ∧ oe.data = .fields vs := by
  obtain ⟨φ, h1, h2⟩ := e
  have x : ObjOk X.prog X.w H s.heap a (.ext φ) := I.hok a _ h1
  exact h2 _ x.1
theorem ErrW.inst {a C : Addr} (I : Inv X pins σ H s) (e : ErrW H a C) : ∃ oe od, PySem.W.InstAt s.heap a oe C od := by
  rcases e with e | ⟨fs, d, e, ed⟩
  · obtain ⟨oe, vs, g, z, hv⟩ := e.raw I
    exact ⟨oe, none, g, z.1, by unfold PySem.W.notCls; rw [hv], by rw [z.2]; trivial⟩
  · obtain ⟨oe, vs, g, z, hv⟩ := e.raw I
    obtain ⟨mA, hns, _⟩ := ed.look I
    obtain ⟨od, ho, _⟩ := lookIn_ns hns
    exact ⟨oe, some od, g, z.1, by unfold PySem.W.notCls; rw [hv], by rw [z.2]; exact ho⟩
end
/-- e.n of an error that is tracked -/
def tEf (K : PySem.W.Frag) (n : Str) (te : TE) : TE := fun σ H Q => te σ H fun x H1 => ∃ (a C : Addr) (fs : List (Str × V)) (v : V), x = .ref a ∧ XfC K C ∧ PySem.W.findIn K (.ref C) n = some none ∧ Err H1 a C fs ∧ fs.lookup n = some v ∧ Q v H1
theorem pe_ef {X : Cx} {e : Expr} {te : TE} {pos : Pos} {n : Str} (he : PE X e te) (hb : attributeBase e n X.env (eval e X.env) = eval e X.env := by rfl) : PE X (.Attribute e n pos) (tEf X.K n te) := by
  constructor
  intro pins s σ H Q I h
  refine attr_of hb (thn (he.run pins s σ H _ I h) ?_)
  intro u s1 hh
  obtain ⟨x, H1, I1, rx, a, C, fs, v, ex, T, noF, ⟨dd, ea, ed⟩, look, q⟩ := hh
  subst ex
  obtain rfl : u = Value.ref a := rx
  obtain ⟨oe, vs, pinned, hz, hd⟩ := ea.raw I1
  obtain ⟨mA, hns, hr⟩ := ed.look I1
  obtain ⟨od, ho, hl⟩ := lookIn_ns hns
  obtain ⟨u, hu, ru⟩ := RelO.some_of (v := v) (o := mA n) (by rw [← look]; exact hr n)
  have inst : PySem.W.InstAt s1.heap a oe C (some od) := by
    refine ⟨pinned, hz.1, ?_, ?_⟩
    · unfold PySem.W.notCls; rw [hd]
    · rw [hz.2]; exact ho
  have found := PySem.W.findObj_own T.hdC noF rfl (show _ = _ by rw [hl, hu])
  exact HandSPX.exc_get I1.kIn inst T.ga T.gg T.exC found (handed_of ru) ⟨v, H1, I1.tok _, ru, q⟩
/-- isinstance(e, c) of an error that is tracked -/
def rIsR (K : PySem.W.Frag) : List V → Hp → VK → Prop := fun xs H Q => ∃ (a D : Addr) (c : V) (cv : Value) (b : Bool), xs = [.ref a, c] ∧ ErrW H a D ∧ ExcC K D ∧ (∀ u, RelV c u → u = cv) ∧ PySem.W.kitOne K (.ref D) cv = some b ∧ Q (.bl b) H
theorem call_isR {X : Cx} : CallR X (.builtin "isinstance") (rIsR X.K) := by
  intro pins s σ H xs us Q I r h
  obtain ⟨a, D, c, cv, b, rfl, he, C, hcv, e, q⟩ := h
  cases r with
  | cons rx rr =>
    cases rr with
    | cons rt rr =>
      cases rr
      cases rx
      obtain ⟨oe, od, J⟩ := he.inst I
      have ec := hcv _ rt
      subst ec
      exact PySem.W.kia_one (held_kit C) I.kIn J e (fun z => nomatch z) fun tk => ⟨.bl b, H, I.kept (t' := tk) fun _ _ z => z, rfl, q⟩
/-- C(e, ..), an own error class with an __init__: the error as a value -/
def tMkV (C : Addr) (sp : Sp) (ta : TA) : TE := fun σ H Q => ta σ H fun vs H1 => vs.length ≤ 1000 ∧ ∀ a, H1 a = none → sp (.ref a :: vs) (upd H1 a (exo a C none)) (fun v H2 => v = .non ∧ Q (.ref a) H2) (fun _ _ _ => False)
section
variable {tl : List Value} {B newId initId : String} {bmB : List Value} {X : Cx} {e : Expr} {es : List Expr} {ta : TA} {p pos : Pos}
theorem pe_mkv {x : Str} {C fI : Addr} {k : Nat} {fd : FuncData} {ps : List Str} {sp : Sp} (T : OexG tl B newId initId bmB X.K C) (iC : PySem.W.findIn X.K (.ref C) "__init__" = some (some (.ref fI))) (tI : PySem.W.typeIn X.K (.ref fI) = some (.type "function"))
    (F1 : FnOk X.prog X.w X.K X.mg X.base CX0 k fI fd ps sp) (hr : Room (k + 1) X.A) (hb : Binds X.K fd ps []) (hg : Gl X x) (hm : X.mg x = some (.ref C)) (ha : PA X (e :: es) ta)
    (hdb : (x == ("__debug__" : Str)) = false := by decide) (he : starEach (e :: es) X.env = (false, eval e X.env) :: starEach es X.env := by rfl) (hpl : (backTo pos (starEach es X.env)).any (·.1) = false := by rfl) :
    PE X (.Call (.Name x p) (e :: es) [] pos) (tMkV C sp ta) := by
  constructor
  intro pins s σ H Q I h
  obtain ⟨nm, q, N, bs, bm, sn, sub, ab, col, dd, k0, k1, k2, k3, k5, hC, hbm⟩ := T.cls
  refine wpAny_Call_Name_kw (ld_glob I hg hm (PySem.W.callWith_K (h₀ := X.base) I.ok.mod.kin T.kC (thn (ha.run pos pins s σ H _ I h) fun us s1 ⟨vs, H1, I1, r1, hz, q1⟩ => ⟨I1.kIn, (?_ : wpAny _ _ (call (.ref C) us) _ _ _)⟩) he hpl) hdb)
  obtain ⟨hq0, g, dr, tk, os⟩ := s1
  have sz : hq0.objs.size ≤ hq0.objs.size + 1 := Nat.le_succ _
  have hq := q1 (hq0.objs.size + 1) (I1.hok.fresh sz)
  have kp : ∀ b o, hq0.get? b = some o → ((hq0.push (PySem.W.kdv_tup us)).push (PySem.HandSPX.excO C hq0.objs.size)).get? b = some o := fun b o e => Heap.get?_push_of_some _ (Heap.get?_push_of_some _ e)
  have hg1 : ((hq0.push (PySem.W.kdv_tup us)).push (PySem.HandSPX.excO C hq0.objs.size)).get? (hq0.objs.size + 1) = some (PySem.HandSPX.excO C hq0.objs.size) := by heap_get
  have I2 : Inv X pins σ (upd H1 (hq0.objs.size + 1) (exo (hq0.objs.size + 1) C none)) ⟨(hq0.push (PySem.W.kdv_tup us)).push (PySem.HandSPX.excO C hq0.objs.size), g, dr, tk, os⟩ := I1.laid (t' := tk) (a := hq0.objs.size + 1) (o := exo (hq0.objs.size + 1) C none) kp sz (exo_ok hg1)
  have rv2 : Vals (V.ref (hq0.objs.size + 1) :: vs) (Value.ref (hq0.objs.size + 1) :: us) := .cons rfl r1
  have hl0 : (Value.ref (hq0.objs.size + 1) :: us ++ []).length = ps.length := by rw [List.append_nil]; exact (rv2.length.symm.trans (F1.len _ _ _ _ hq))
  have hus : us.length ≤ sizeLine := by rw [← Paired.length r1, sizeLine_eq]; omega
  refine wpAny_call (call_new T.T hbm (I1.kIn _ _ hC) (PySem.W.looks_findIn I1.kIn iC) (fun self => PySem.W.bind_fn I1.kIn self tI) hus
    (codeAny_mono (F1.run _ X.stack _ _ ⟨Value.ref (hq0.objs.size + 1) :: us, []⟩ (Value.ref (hq0.objs.size + 1) :: us) _ _ (fun _ _ _ => False) (hr.make C us []) (I2.env0.make C us []) (by simpa only [List.append_nil, List.cons_append] using hb _ (Value.ref (hq0.objs.size + 1) :: us) I2.kIn hl0) rv2 hq) fun r s' hq' => ?_))
  match r, hq' with
  | .error er, z => exact False.elim z
  | .ok (.ret u), ⟨v, H2, os2, bare2, un2, hok2, rv, ev, q2⟩ =>
    subst ev
    exact ⟨rv, I2.after ⟨.ref (hq0.objs.size + 1), H2, os2, bare2, un2, hok2, rfl, q2⟩⟩
  | .ok .next, z => exact False.elim z
  | .ok .brk, z => exact False.elim z
  | .ok .cont, z => exact False.elim z
end
end Cp

set_option Elab.async false
set_option linter.all false
set_option maxRecDepth 100000
/-! ### an error that was caught is tracked behind its try -/
namespace Cp
open PySem PySem.Spec L2 PyProof.Rows
/-- an error of the class cls, with the dict d, at a -/
def exh (a : Addr) (cls : Value) (d : Option Addr) : HO := .ext fun h => ∃ (oe : Obj) (vs : Array Value), h.get? a = some oe ∧ Zc cls d oe ∧ oe.data = .fields vs
theorem ErAt.of_exh {H : Hp} {a C : Addr} {d : Option Addr} (e : H a = some (exh a (.ref C) d)) : ErAt H a C d := ⟨_, e, fun h z => z⟩
theorem adopt {X : Cx} {pins : List (Addr × Obj)} {σ : L2.St} {H : Hp} {s : Shared} {a : Addr} {cls : Value} {d : Option Addr} {oe : Obj} (I : Inv X pins σ H s) (new : X.s_0.heap.get? a = none) (g : s.heap.get? a = some oe) (z : Zc cls d oe) (hv : ∃ vs, oe.data = .fields vs)
    (na : H a = none) (nl : a ≠ X.env.locals) (np : ∀ p ∈ X.pn ++ pins, p.1 ≠ a) : Inv X pins σ (upd H a (exh a cls d)) s := by
  obtain ⟨vs, hd⟩ := hv
  have up : ∀ {b : Addr} {o : HO}, H b = some o → upd H a (exh a cls d) b = some o := fun {b o} e => by rw [upd_ne (ne_of_none e na)]; exact e
  have un : ∀ {b : Addr}, b ≠ a → H b = none → upd H a (exh a cls d) b = none := fun {b} hb e => by rw [upd_ne hb]; exact e
  refine ⟨I.ok, I.os, I.bare, ⟨I.base.keep, I.base.slot, fun b o e n hx => un (fun q => ?_) (I.base.free b o e n hx), I.base.there, fun b xs e => up (I.base.tups b xs e), fun b o u e => up (I.base.frzs b o u e), fun b ps e => ?_⟩, I.loc, I.cell, un nl.symm I.free, fun x c e => un (fun q => ?_) (I.freeC x c e), fun p hp => ?_, fun b o e => ?_, I.len⟩
  · rw [q, new] at e; cases e
  · obtain ⟨more, q⟩ := I.base.tbls b ps e
    exact ⟨more, up q⟩
  · obtain ⟨v, o, ho, hc⟩ := I.cell x c e
    rw [q, g] at ho
    cases ho
    rw [hd] at hc
    cases hc
  · obtain ⟨p1, p2, p3⟩ := I.pin p hp
    exact ⟨p1, un (np p hp) p2, p3⟩
  · by_cases hb : b = a
    · subst hb
      rw [upd_same] at e
      cases e
      exact ⟨⟨oe, vs, g, z, hd⟩, ⟨oe, g⟩, fun h1 h2 y k => by
        obtain ⟨oe', vs', g', r⟩ := y
        exact ⟨oe', vs', k _ g', r⟩⟩
    · rw [upd_ne hb] at e
      exact (I.hok b o e).stay (fun _ _ _ q => q) (fun _ q => up q) fun _ _ q => up q
/-- what is wished of an error of the body: behind the suite the error is tracked -/
def wAdopt (K : PySem.W.Frag) (c : Value) (i : Nat) (ts : Addr → Value → Option Addr → TS) (u : TS) (Wout : WX) (D : Ends) : WX := fun cls d σ H =>
  ∃ b, PySem.W.exmOne K cls c = some b ∧
    (b = true → ∀ a, H a = none → ts a cls d { nx := fun σ1 H1 => H1 a = none ∧ u D (σ1.set i none) (upd H1 a (exh a cls d)), rt := fun _ _ => False, bk := fun _ _ => False, ct := fun _ _ => False } (σ.set i (some (.ref a))) H) ∧
    (b = false → Wout cls d σ H)
section
variable {X : Cx} {x n : Str} {c : Value} {i : Nat} {body suite rest : List Stmt} {b₀ : Stmt} {np pos pos' : Pos} {tb : WX → TS} {u : TS} {ts : Addr → Value → Option Addr → TS} {Wout : WX}
theorem pss_try_adopt (hex : X.ex = []) (hs : X.stack = X.env :: X.outer) (hf : X.env.frame = some X.env.locals) (hN : X.N.Nodup) (hi : X.N[i]? = some n) (hln : X.env.kindOf n = some .local) (hc : Names X x c) (tk : Takes X Wout)
    (hb : ∀ (W : WX) (pn : List (Addr × Obj)) (xe : Value → Shared → Prop), Takes (X.tr pn xe) W → PassesOwn (model X.prog X.w) X.A X.env xe → PSs (X.tr pn xe) body (tb W))
    (hsu : ∀ (a : Addr) (oe : Obj) (cls : Value) (d : Option Addr) (pn : List (Addr × Obj)), Zc cls d oe → (∃ vs, oe.data = .fields vs) → PSs (X.suite a ((a, oe) :: pn)) (b₀ :: suite) (ts a cls d))
    (hrest : PSs X rest u) :
    PSs X (.Try body [.ExceptHandler (some (.Name x np)) (some n) (b₀ :: suite) pos'] [] [] pos :: rest) (fun D σ H => tb (wAdopt X.K c i ts u Wout D) { D with nx := u D } σ H) := by
  constructor
  intro pins s σ H D I h
  have ok := I.ok
  have frm : X.A.frames = some (X.env :: X.outer) := by rw [ok.frames, hs]
  have locN : Loc X.env.scope n := Or.inl hln
  refine wpAny_execs_cons (wpAny_Try_except ?_)
  refine wpAny_mono ((hb (wAdopt X.K c i ts u Wout D) (X.pn ++ pins) _ ?ca PassesOwn.looking).run [] s σ H { D with nx := u D } (I.toTry _) h) ?en (fun e s1 he => he)
  case en =>
    intro f s1 hsp
    match f, hsp with
    | .next, ⟨σ1, H1, J, q⟩ => exact wpAny_execs_nil (hrest.run pins s1 σ1 H1 D (J.ofTry ok) q)
    | .brk, ⟨σ1, H1, J, q⟩ => exact ⟨σ1, H1, J.ofTry ok, q⟩
    | .cont, ⟨σ1, H1, J, q⟩ => exact ⟨σ1, H1, J.ofTry ok, q⟩
    | .ret v1, ⟨v, σ1, H1, J, r, q⟩ => exact ⟨v, σ1, H1, J.ofTry ok, r, q⟩
  case ca =>
    intro ev s2 hx
    obtain ⟨a, B, sI, pinsI, σI, HI, cls, d, ea, JI, kB, upI, skyI, na, osI, bareI, b, hb1, yes, no⟩ := hx
    subst ea
    have J : Inv X pins σI HI sI := JI.ofTry ok
    have sky : Sky B (X.env :: X.outer) a (Zc cls d) X.env.locals s2.heap := by rw [← hs]; exact skyI
    show wpAny (model X.prog X.w) X.A (noteFrame (.ref a) X.env) _ _ _
    refine Sky.land Zc.steady frm hf sky fun h3 fl3 up3 => ?_
    have J3 : Inv X pins σI HI { s2 with heap := h3 } := J.landed kB fl3.1 (upI.trans up3) osI bareI
    obtain ⟨oe3, vs3, he3, hz3, hd3⟩ := fl3.there
    have away : a ∉ frs (X.env :: X.outer) := by
      intro hm
      obtain ⟨_, o', e', hnf⟩ := fl3.2.2.1.mem hm
      rw [he3] at e'
      cases e'
      exact hnf _ hd3
    have awayL : a ≠ X.env.locals := fun z => away (List.mem_filterMap.mpr ⟨X.env, List.mem_cons_self, by rw [hf, z]⟩)
    have awayF : a ∉ X.fs := by
      intro hm
      obtain ⟨e, he, q⟩ := List.mem_filterMap.mp hm
      exact away (List.mem_filterMap.mpr ⟨e, List.mem_cons_of_mem _ he, q⟩)
    have notI : sI.heap.get? a = none := by
      cases q : sI.heap.get? a with
      | none => rfl
      | some o =>
        have q1 := kB a o q (by rw [hs]; exact away)
        have q2 := fl3.2.1
        rw [q1] at q2
        cases q2
    have not0 : X.s_0.heap.get? a = none := by
      cases q : X.s_0.heap.get? a with
      | none => rfl
      | some o =>
        obtain ⟨o', q'⟩ := J.base.there a o q (by rw [hex]; exact List.not_mem_nil)
        rw [notI] at q'
        cases q'
    have pinI : ∀ p ∈ X.pn ++ pins, p.1 ≠ a := fun p hp z => by
      have q := (J.pin p hp).1
      rw [z, notI] at q
      cases q
    have S3 := J3.suite he3 hd3 na awayL awayF
    refine wpAny_handleBy_cons (codeAny_handlers_test ?_) (fun q => by cases q)
    have ty3 : PySem.W.Looks (model X.prog X.w) h3 (typeOf (.ref a)) cls := by
      intro A Q E s' k q
      refine wpAny_typeOf_ref (k _ _ he3) ?_
      rw [hz3.1]
      exact q
    have ask := PySem.W.exm_one (M := model X.prog X.w) J3.kIn ty3 hb1
    have named : ∀ {Q : Value → Shared → Prop} {E : Value → Shared → Prop}, Q c { s2 with heap := h3 } → wpAny (model X.prog X.w) (X.A.mark (some (.ref a))) (eval (.Name x np) X.env) Q E { s2 with heap := h3 } := by
      intro Q E q
      obtain ⟨hg, hdb, hm⟩ := hc
      rcases hm with hm | ⟨hm, hv, hnn⟩
      · exact ld_glob (X := X.suite a ((a, oe3) :: (X.pn ++ pins))) S3 hg hm q hdb
      · exact ld_blt (X := X.suite a ((a, oe3) :: (X.pn ++ pins))) S3 hg hm hv q hnn hdb
    refine named (ask.here ?_)
    match b, yes, no with
    | true, yes, _ =>
      refine codeAny_handlers_suite_as (HandSPX.lands_againZ fl3 fun h4 fl4 up4 => ?_)
      have J4 : Inv X pins σI HI { s2 with heap := h4 } := J.landed kB fl4.1 ((upI.trans up3).trans up4) osI bareI
      obtain ⟨oe4, vs4, he4, hz4, hd4⟩ := fl4.there
      have S4 := J4.suite he4 hd4 na awayL awayF
      refine store_ok (X := X.suite a ((a, oe4) :: (X.pn ++ pins))) (v := .ref a) S4 hN hi locN rfl (fun s5 S5 => ?_) (Or.inr hln)
      refine wpAny_mono ((hsu a oe4 cls d (X.pn ++ pins) hz4 ⟨_, hd4⟩).run [] s5 _ HI _ S5 (yes rfl a na)) ?_ (fun _ _ z => z.elim)
      intro f s6 hsp
      match f, hsp with
      | .next, ⟨σ6, H6, S6, na6, q6⟩ =>
        refine gone_ok (X := held X ((a, oe4) :: (X.pn ++ pins))) (held_of S6 ok) hN hi hln fun s7 J7 => ?_
        have g7 := (J7.pin (a, oe4) (List.mem_append_left _ List.mem_cons_self)).1
        exact hrest.run pins s7 _ _ D (adopt (unheld J7 ok) not0 g7 hz4 ⟨_, hd4⟩ na6 awayL pinI) q6
      | .brk, ⟨_, _, _, q⟩ => exact q.elim
      | .cont, ⟨_, _, _, q⟩ => exact q.elim
      | .ret u6, ⟨_, _, _, _, _, q⟩ => exact q.elim
    | false, _, no =>
      show wpAny _ X.A (handleBy (.ref a) X.env []) _ _ _
      refine wpAny_handleBy_nil ?_
      obtain ⟨_, _, _, oe, vs, T, oT, ts', he, hz, hd, h1, hr⟩ := id fl3
      unfold PySem.passOn
      refine wpAny_bind (wpAny_field he hd h1 ?_)
      rw [if_neg (show ¬ ((Value.ref T == Value.none) = true) by simp)]
      have on : ∀ {Q : Flow → Shared → Prop}, wpAny (model X.prog X.w) X.A (setFlight (.ref a) X.env.frame) (fun _ s4 => wpAny (model X.prog X.w) X.A (throw (.ref a) : Sem Flow) Q X.xe s4) X.xe { s2 with heap := h3 } := by
        intro Q
        rw [hf]
        refine HandSPX.setFlight_upZ fl3 fun h4 hh4 up4 => wpAny_throw (tk _ _ ?_)
        refine ⟨a, B, sI, pins, σI, HI, cls, d, rfl, J, kB, (upI.trans up3).trans up4, Or.inr (Or.inr ?_), na, osI, bareI, no rfl⟩
        rw [hs]
        exact hh4
      first
        | exact wpAny_bind (wpAny_pure (wpAny_bind on))
        | exact wpAny_bind on
end
end Cp

set_option Elab.async false
set_option linter.all false
set_option maxRecDepth 100000
/-! ### repr of data in which empty dicts may stand -/
namespace Cp
open PySem PySem.Spec L2 PyProof.Rows
mutual
/-- tracked data: the empty dict is one, too -/
inductive Dq (H : Hp) : V → PyData → Prop
  | non : Dq H .non .none
  | bl (b : Bool) : Dq H (.bl b) (.bool b)
  | int (i : Int) : Dq H (.int i) (.int i)
  | str (x : Str) : Dq H (.str x) (.str x)
  | lst {a : Addr} {xs : List V} {ds : List PyData} : H a = some (.lst xs) → DqAll H xs ds → Dq H (.ref a) (.list ds)
  | tup {a : Addr} {xs : List V} {ds : List PyData} : H a = some (.tup xs) → DqAll H xs ds → Dq H (.ref a) (.tuple ds)
  | dct {a : Addr} : H a = some (.dK []) → Dq H (.ref a) (.dict [])
inductive DqAll (H : Hp) : List V → List PyData → Prop
  | nil : DqAll H [] []
  | cons {v : V} {vs : List V} {d : PyData} {ds : List PyData} : Dq H v d → DqAll H vs ds → DqAll H (v :: vs) (d :: ds)
end
mutual
theorem Dq.same {H H' : Hp} (s : Same H H') : ∀ {d : PyData} {v : V}, Dq H v d → Dq H' v d
  | .none, _, h => by cases h; exact .non
  | .bool b, _, h => by cases h; exact .bl b
  | .int i, _, h => by cases h; exact .int i
  | .str x, _, h => by cases h; exact .str x
  | .list ds, _, h => by cases h with | lst a b => exact .lst (s _ _ a) (DqAll.same s b)
  | .tuple ds, _, h => by cases h with | tup a b => exact .tup (s _ _ a) (DqAll.same s b)
  | .dict _, _, h => by cases h with | dct a => exact .dct (s _ _ a)
theorem DqAll.same {H H' : Hp} (s : Same H H') : ∀ {ds : List PyData} {vs : List V}, DqAll H vs ds → DqAll H' vs ds
  | [], _, h => by cases h; exact .nil
  | d :: ds, _, h => by cases h with | cons a b => exact .cons (Dq.same s a) (DqAll.same s b)
end
section
variable {X : Cx} {pins : List (Addr × Obj)} {σ : L2.St} {H : Hp} {s : Shared}
/-- what is tracked does not stand where the modules stand -/
theorem trk_mod (hb : ∃ o, X.base.get? sysModules = some o) (I : Inv X pins σ H s) {a : Addr} {o : HO} (e : H a = some o) : a ≠ sysModules := by
  intro q
  obtain ⟨o1, e1⟩ := hb
  have h2 := (I.bs _ _ e1).2
  rw [← q, e] at h2
  cases h2
mutual
theorem Dq.reads (hb : ∃ o, X.base.get? sysModules = some o) (I : Inv X pins σ H s) : ∀ (d : PyData) (v : V) (u : Value), Dq H v d → RelV v u → ∃ as, Reads s.heap u d as ∧ sysModules ∉ as
  | .none, _, _, h, r => by cases h; cases r; exact ⟨_, Reads.none, List.not_mem_nil⟩
  | .bool b, _, _, h, r => by cases h; cases r; exact ⟨_, Reads.bool b, List.not_mem_nil⟩
  | .int i, _, _, h, r => by cases h; obtain ⟨t, rfl⟩ := r; exact ⟨_, Reads.int i t, List.not_mem_nil⟩
  | .str x, _, _, h, r => by cases h; obtain ⟨t, rfl⟩ := r; exact ⟨_, Reads.str x t, List.not_mem_nil⟩
  | .list ds, _, _, h, r => by
    cases h with
    | lst hs ha =>
      cases r
      have hm := trk_mod hb I hs
      obtain ⟨its, rv, ⟨o, n, ho, hc, _, hd⟩, _⟩ := I.list (SqL.of hs)
      obtain ⟨as, hr, hn⟩ := DqAll.reads hb I ds _ its ha rv
      exact ⟨_, Reads.list ho hc hd hr, fun q => (List.mem_cons.mp q).elim (fun q => hm q.symm) hn⟩
  | .tuple ds, _, _, h, r => by
    cases h with
    | tup hs ha =>
      cases r
      obtain ⟨its, rv, ⟨o, ho, hc, n, hd⟩, _⟩ := I.tuple (SqT.of hs)
      obtain ⟨as, hr, hn⟩ := DqAll.reads hb I ds _ its ha rv
      exact ⟨_, Reads.tuple ho hc hd hr, hn⟩
  | .dict _, _, _, h, r => by
    cases h with
    | dct hs =>
      cases r
      have hm := trk_mod hb I hs
      obtain ⟨_, _, vs, kv, o, es, ep, ho, hx, hd, _, hp, _⟩ := dk_of I.hok hs
      cases kv
      have e0 : es.toList = [] := by
        generalize es.toList = l at hp
        cases hp
        rfl
      exact ⟨_, Reads.dict (kvs := []) ho hx.1 hd (by rw [e0]; exact .nil) (by rw [e0]; exact .nil), fun q => by simp at q; exact hm q.symm⟩
theorem DqAll.reads (hb : ∃ o, X.base.get? sysModules = some o) (I : Inv X pins σ H s) : ∀ (ds : List PyData) (vs : List V) (us : List Value), DqAll H vs ds → Vals vs us → ∃ as, ReadsAll s.heap us ds as ∧ sysModules ∉ as
  | [], _, _, h, r => by cases h; cases r; exact ⟨_, ReadsAll.nil, List.not_mem_nil⟩
  | d :: ds, _, _, h, r => by
    cases h with
    | cons h1 h2 =>
      cases r with
      | cons r1 r2 =>
        obtain ⟨as, q1, n1⟩ := Dq.reads hb I d _ _ h1 r1
        obtain ⟨bs, q2, n2⟩ := DqAll.reads hb I ds _ _ h2 r2
        exact ⟨_, ReadsAll.cons q1 q2, fun q => (List.mem_append.mp q).elim n1 n2⟩
end
end
/-- what repr asks of data -/
def reprB (d : PyData) : Bool := d.showable && (decide (d.depth ≤ 60) && decide (d.shown.length ≤ sizeLine))
/-- repr of any such data -/
theorem call_reprQ {X : Cx} (hm : ∃ o, X.base.get? sysModules = some o) (hgd : X.A.guards = some []) (hu : X.A.units + 64 < cLine) : CallR X (.builtin "repr") (fun xs H Q => ∃ (v : V) (d : PyData), xs = [v] ∧ Dq H v d ∧ reprB d = true ∧ Q (.str d.shown) H) := by
  intro pins s σ H xs us Q I r h
  obtain ⟨v, d, rfl, hd, hb, q⟩ := h
  unfold reprB at hb
  simp only [Bool.and_eq_true, decide_eq_true_eq] at hb
  obtain ⟨h1, h3, h4⟩ := hb
  obtain ⟨u, rfl, rx⟩ := vals1 r
  obtain ⟨as, rd, nm⟩ := Dq.reads hm I d v u hd rx
  have fin : ∀ h' tk t, (∀ b o, s.heap.get? b = some o → h'.get? b = some o) → EP X pins σ Q (.str d.shown t) { s with heap := h', toks := tk } := fun h' tk t hk => ⟨.str d.shown, H, I.kept hk, ⟨_, rfl⟩, q⟩
  have obj : ∀ a, u = .ref a → wpAny (model X.prog X.w) X.A (call (.builtin "repr") [u]) (EP X pins σ Q) X.xe s := fun a e => by
    subst e
    exact PySem.repr_of_reads' rd h1 (fun _ => nm) hgd (by omega) (fun b o e => e) (fun h' u tk hk => fin h' tk u hk) h4
  cases hd with
  | non => cases rx; exact PySem.P.repr_of_none ⟨.str (PyData.none).shown, H, I.tok _, ⟨s.toks, by rw [PyData.shown]⟩, q⟩
  | bl b => cases rx; exact PySem.P.repr_of_bool ⟨.str (PyData.bool b).shown, H, I.tok _, ⟨s.toks, by rw [PyData.shown]⟩, q⟩
  | int i =>
    obtain ⟨t, rfl⟩ := rx
    simp only [PyData.showable, decide_eq_true_eq] at h1
    exact PySem.P.repr_of_int h1 ⟨.str (PyData.int i).shown, H, I.tok _, ⟨s.toks, by rw [PyData.shown]⟩, q⟩
  | str x =>
    obtain ⟨t, rfl⟩ := rx
    exact PySem.P.repr_of_str ⟨.str (PyData.str x).shown, H, I.tok _, ⟨s.toks, by rw [PyData.shown]⟩, q⟩ (by rw [← PyData.shown_str]; exact h4)
  | lst a b => cases rx; exact obj _ rfl
  | tup a b => cases rx; exact obj _ rfl
  | dct a => cases rx; exact obj _ rfl
end Cp

set_option Elab.async false
set_option linter.all false
set_option maxRecDepth 100000
namespace Cp
open PySem PySem.Spec L2 PyProof.Rows
abbrev sHla : Stmt := top 16
abbrev sMks : Stmt := top 17
/-- the names that the program reads -/
structure TP (mg : Str → Option Value) : Prop where
  isinstance : mg "isinstance" = none
  tuple : mg "tuple" = none
  len : mg "len" = none
  str : mg "str" = none
  int : mg "int" = none
  set : mg "set" = none
  enum : mg "enumerate" = none
  list : mg "list" = none
theorem pss_no {X : Cx} {ss : List Stmt} : PSs X ss (fun _ _ _ => False) := ⟨fun _ _ _ _ _ _ h => h.elim⟩
theorem s_new {H : Hp} {p : Addr} {o : HO} (h : H p = none) : Same H (upd H p o) := same_upd (Same.refl H) h
/-! ### the types of data -/
def tyD : PyData → Value
  | .none => .type "NoneType"
  | .bool _ => .type "bool"
  | .int _ => .type "int"
  | .str _ => .type "str"
  | .list _ => .type "list"
  | .tuple _ => .type "tuple"
  | .dict _ => .type "dict"
theorem Dq.ty {K : PySem.W.Frag} {H : Hp} {v : V} {d : PyData} (h : Dq H v d) : TyX K H v (tyD d) := by
  cases h with
  | non => exact .base .non
  | bl b => exact .base (.bl b)
  | int i => exact .base (.int i)
  | str x => exact .base (.str x)
  | lst a b => exact .base (.lst a)
  | tup a b => exact .base (.tup a)
  | dct a => exact .base (.dK a)
def isTup : PyData → Bool
  | .tuple _ => true
  | _ => false
def isStr : PyData → Bool
  | .str _ => true
  | _ => false
def isInt : PyData → Bool
  | .int _ => true
  | .bool _ => true
  | _ => false
def isBool : PyData → Bool
  | .bool _ => true
  | _ => false
theorem kTup (K : PySem.W.Frag) : ∀ d : PyData, PySem.W.kitOne K (tyD d) (.type "tuple") = some (isTup d)
  | .none => kit_ty (by decide +kernel : kitB "NoneType" "tuple" = some false)
  | .bool b => kit_ty (by decide +kernel : kitB "bool" "tuple" = some false)
  | .int i => kit_ty (by decide +kernel : kitB "int" "tuple" = some false)
  | .str x => kit_ty (by decide +kernel : kitB "str" "tuple" = some false)
  | .list l => kit_ty (by decide +kernel : kitB "list" "tuple" = some false)
  | .tuple l => kit_ty (by decide +kernel : kitB "tuple" "tuple" = some true)
  | .dict l => kit_ty (by decide +kernel : kitB "dict" "tuple" = some false)
theorem kStr (K : PySem.W.Frag) : ∀ d : PyData, PySem.W.kitOne K (tyD d) (.type "str") = some (isStr d)
  | .none => kit_ty (by decide +kernel : kitB "NoneType" "str" = some false)
  | .bool b => kit_ty (by decide +kernel : kitB "bool" "str" = some false)
  | .int i => kit_ty (by decide +kernel : kitB "int" "str" = some false)
  | .str x => kit_ty (by decide +kernel : kitB "str" "str" = some true)
  | .list l => kit_ty (by decide +kernel : kitB "list" "str" = some false)
  | .tuple l => kit_ty (by decide +kernel : kitB "tuple" "str" = some false)
  | .dict l => kit_ty (by decide +kernel : kitB "dict" "str" = some false)
theorem kInt (K : PySem.W.Frag) : ∀ d : PyData, PySem.W.kitOne K (tyD d) (.type "int") = some (isInt d)
  | .none => kit_ty (by decide +kernel : kitB "NoneType" "int" = some false)
  | .bool b => kit_ty (by decide +kernel : kitB "bool" "int" = some true)
  | .int i => kit_ty (by decide +kernel : kitB "int" "int" = some true)
  | .str x => kit_ty (by decide +kernel : kitB "str" "int" = some false)
  | .list l => kit_ty (by decide +kernel : kitB "list" "int" = some false)
  | .tuple l => kit_ty (by decide +kernel : kitB "tuple" "int" = some false)
  | .dict l => kit_ty (by decide +kernel : kitB "dict" "int" = some false)
theorem kBool (K : PySem.W.Frag) : ∀ d : PyData, PySem.W.kitOne K (tyD d) (.type "bool") = some (isBool d)
  | .none => kit_ty (by decide +kernel : kitB "NoneType" "bool" = some false)
  | .bool b => kit_ty (by decide +kernel : kitB "bool" "bool" = some true)
  | .int i => kit_ty (by decide +kernel : kitB "int" "bool" = some false)
  | .str x => kit_ty (by decide +kernel : kitB "str" "bool" = some false)
  | .list l => kit_ty (by decide +kernel : kitB "list" "bool" = some false)
  | .tuple l => kit_ty (by decide +kernel : kitB "tuple" "bool" = some false)
  | .dict l => kit_ty (by decide +kernel : kitB "dict" "bool" = some false)
/-! ### bytes: their methods without arguments -/
theorem byt_isalpha : Slot "bytes" (Str.ofString "isalpha") "bytes.isalpha" := Slot.of (owner := "bytes") (n := "isalpha") (by (rw [typeLookup_type, builtinLookup_eq_fast]); kernel_rfl) (by decide +kernel) (by decide +kernel) (by decide +kernel) (.inr (by kernel_rfl)) (by rw [isSubtype_type]; kernel_rfl) (by decide +kernel)
theorem byt_islower : Slot "bytes" (Str.ofString "islower") "bytes.islower" := Slot.of (owner := "bytes") (n := "islower") (by (rw [typeLookup_type, builtinLookup_eq_fast]); kernel_rfl) (by decide +kernel) (by decide +kernel) (by decide +kernel) (.inr (by kernel_rfl)) (by rw [isSubtype_type]; kernel_rfl) (by decide +kernel)
theorem byt_isalpha_t : typeOf (Value.builtin "bytes.isalpha") = pure (Value.type "method_descriptor") := by
  show builtinType "bytes.isalpha" = _
  rw [builtinType_eq_fast]; kernel_rfl
theorem byt_islower_t : typeOf (Value.builtin "bytes.islower") = pure (Value.type "method_descriptor") := by
  show builtinType "bytes.islower" = _
  rw [builtinType_eq_fast]; kernel_rfl
theorem byt_plain : PlainAttrs "bytes" := ⟨⟨"bytes.__getattribute__", by (rw [typeLookup_type, builtinLookup_eq_fast]); kernel_rfl, by decide +kernel⟩, by (rw [typeLookup_type, builtinLookup_eq_fast]); kernel_rfl⟩
/-- b.m() of bytes -/
def tB0 (r : V → List V → Hp → VK → Prop) (to : TE) : TE := fun σ H Q => to σ H fun x H1 => (∃ b, x = .byt b) ∧ r x [] H1 Q
theorem pe_byt0 {X : Cx} {o : Expr} {to : TE} {id : String} {name : Str} {apos pos : Pos} {r : V → List V → Hp → VK → Prop} {pl : Sem Bool} (sl : Slot "bytes" name id) (ty : typeOf (.builtin id) = pure (.type "method_descriptor")) (m : MtR X id r) (ho : PE X o to)
    (ht : eval (.Call (.Attribute o name apos) [] [] pos) X.env = (eval o X.env >>= fun ov => standAt apos.atName >>= fun _ => holding [ov] (getMethod ov name pl) >>= fun (f, first) => callWith pos f first (backTo pos (starEach [] X.env)) (backToKw pos (keywordEach [] X.env))) := by rfl) :
    PE X (.Call (.Attribute o name apos) [] [] pos) (tB0 r to) := by
  refine ⟨fun pins s σ H Q I h => ?_⟩
  refine PySem.W.methodCall_KW (pl := pl) (thn (ho.run pins s σ H _ I h) fun v s1 ⟨x, H1, I1, rx, ⟨b, ex⟩, q⟩ => ?_) ht
  subst ex
  obtain ⟨t, rfl⟩ := rx
  exact getMethod_builtin (PySem.W.typeIs_bytes s1 b t) byt_plain sl ty (fun a e => nomatch e) (callWith_method0 (m pins s1 σ H1 (.byt b) [] (.bytes b t) [] Q I1 ⟨t, rfl⟩ .nil q))
theorem mt_byt_isalpha {X : Cx} : MtR X "bytes.isalpha" (fun x xs H Q => ∃ b : Array UInt8, x = .byt b ∧ xs = [] ∧ Q (.bl (Builtin.Bytes.allOf Builtin.Bytes.isAlpha b.toList)) H) := by
  intro pins s σ H x xs v us Q I rx rs h
  obtain ⟨b, rfl, rfl, q⟩ := h
  obtain ⟨t, rfl⟩ := rx
  cases rs
  refine wpAny_call_entry (b := Builtin.«bytes.isalpha») byt_isalpha (PySem.W.typeIs_bytes s b t) (entryFor_of_tree (by kernel_rfl)) ?_ (by kernel_rfl)
  show wpAny _ _ (Builtin.Bytes.testM _ _ _ _) _ _ _
  unfold Builtin.Bytes.testM
  refine wpAny_bind (wpAny_of_eq (a := .bytes b t) (by kernel_rfl) ?_)
  refine wpAny_bind (wpAny_of_eq (a := b) rfl ?_)
  exact wpAny_pure ⟨_, rfl, .bl _, H, I, rfl, q⟩
theorem mt_byt_islower {X : Cx} : MtR X "bytes.islower" (fun x xs H Q => ∃ b : Array UInt8, x = .byt b ∧ xs = [] ∧ Q (.bl (Builtin.Bytes.oneCase Builtin.Bytes.isLower Builtin.Bytes.isUpper b.toList)) H) := by
  intro pins s σ H x xs v us Q I rx rs h
  obtain ⟨b, rfl, rfl, q⟩ := h
  obtain ⟨t, rfl⟩ := rx
  cases rs
  refine wpAny_call_entry (b := Builtin.«bytes.islower») byt_islower (PySem.W.typeIs_bytes s b t) (entryFor_of_tree (by kernel_rfl)) ?_ (by kernel_rfl)
  show wpAny _ _ (Builtin.Bytes.testM _ _ _ _) _ _ _
  unfold Builtin.Bytes.testM
  refine wpAny_bind (wpAny_of_eq (a := .bytes b t) (by kernel_rfl) ?_)
  refine wpAny_bind (wpAny_of_eq (a := b) rfl ?_)
  exact wpAny_pure ⟨_, rfl, .bl _, H, I, rfl, q⟩
/-! ### letters alone -/
theorem byt_are : (∀ c : Fin 128, Builtin.Bytes.isAlpha (UInt8.ofNat c.val) = (decide (65 ≤ c.val) && decide (c.val ≤ 90) || okC c.val)) ∧ (∀ c : Fin 128, Builtin.Bytes.isLower (UInt8.ofNat c.val) = okC c.val) ∧ (∀ c : Fin 128, Builtin.Bytes.isUpper (UInt8.ofNat c.val) = (decide (65 ≤ c.val) && decide (c.val ≤ 90))) := by decide +kernel
end Cp

set_option Elab.async false
set_option linter.all false
set_option maxRecDepth 100000
namespace Cp
open PySem PySem.Spec L2 PyProof.Rows
theorem byt_list {x : Str} (ha : ∀ c ∈ x.cps.toList, c < 128) : (byteArr (PySem.W.KSb.codes x)).toList = x.cps.toList.map UInt8.ofNat := by
  unfold byteArr PySem.W.KSb.codes
  rw [List.map_map]
  simp only
  refine List.map_congr_left fun c hc => ?_
  show (((c : Nat) : Int).toNat).toUInt8 = _
  rw [Int.toNat_natCast]
theorem hlb_eq {x : Str} (ha : ∀ c ∈ x.cps.toList, c < 128) : (Builtin.Bytes.allOf Builtin.Bytes.isAlpha (byteArr (PySem.W.KSb.codes x)).toList && Builtin.Bytes.oneCase Builtin.Bytes.isLower Builtin.Bytes.isUpper (byteArr (PySem.W.KSb.codes x)).toList) = (decide (x.length ≠ 0) && okS x) := by
  obtain ⟨l1, l2, l3⟩ := byt_are
  have hl : x.length = x.cps.toList.length := (Array.length_toList).symm
  rw [byt_list ha, hl]
  unfold okS Builtin.Bytes.allOf Builtin.Bytes.oneCase
  generalize x.cps.toList = l at ha
  rw [Bool.eq_iff_iff]
  simp only [Bool.and_eq_true, decide_eq_true_eq, List.all_eq_true, List.any_eq_true, Bool.not_eq_true', List.any_eq_false, List.mem_map, forall_exists_index, and_imp, forall_apply_eq_imp_iff₂, List.isEmpty_eq_false_iff, ne_eq, List.map_eq_nil_iff]
  constructor
  · rintro ⟨⟨h0, h1⟩, h2, h3⟩
    refine ⟨fun e => h0 (List.eq_nil_of_length_eq_zero e), fun c hc => ?_⟩
    have a1 := h1 c hc
    have a3 := h3 c hc
    rw [l1 ⟨c, ha c hc⟩] at a1
    rw [l3 ⟨c, ha c hc⟩, Bool.not_eq_true] at a3
    simp only at a1 a3
    rw [a3, Bool.false_or] at a1
    exact a1
  · rintro ⟨h0, h1⟩
    refine ⟨⟨fun e => h0 (by rw [e]; rfl), fun c hc => ?_⟩, ?_, fun c hc => ?_⟩
    · rw [l1 ⟨c, ha c hc⟩]
      simp only [h1 c hc, Bool.or_true]
    · cases l with
      | nil => exact absurd rfl h0
      | cons c r => exact ⟨_, ⟨c, List.mem_cons_self, rfl⟩, by rw [l2 ⟨c, ha c List.mem_cons_self⟩]; exact h1 c List.mem_cons_self⟩
    · rw [l3 ⟨c, ha c hc⟩]
      have := h1 c hc
      unfold okC at this
      simp only [Bool.and_eq_true, decide_eq_true_eq] at this ⊢
      (try simp only)
      omega
theorem isascii_iff {x : Str} : Txt.isascii x = true ↔ ∀ c ∈ x.cps.toList, c < 128 := by
  unfold Txt.isascii
  rw [← Array.all_toList, List.all_eq_true]
  exact ⟨fun h c hc => by simpa using h c hc, fun h c hc => by simpa using h c hc⟩
theorem okS_ascii {x : Str} (h : okS x = true) : ∀ c ∈ x.cps.toList, c < 128 := fun c hc => by
  unfold okS okC at h
  simp only [List.all_eq_true, Bool.and_eq_true, decide_eq_true_eq] at h
  have := h c hc
  omega
theorem joinF : ∀ {ms : List Str}, ms ≠ [] → 96 :: TL.joinL [96] (ms.map fun m => m.cps.toList) = codesF ms
  | [], h => absurd rfl h
  | [m], _ => by simp [codesF, TL.joinL]
  | m :: n :: r, _ => by
    have := joinF (ms := n :: r) (by simp)
    show 96 :: (m.cps.toList ++ ([96] ++ TL.joinL [96] ((n :: r).map fun m => m.cps.toList))) = (96 :: m.cps.toList) ++ codesF (n :: r)
    rw [← this]
    simp
theorem joinS : ∀ {ms : List Str}, ms ≠ [] → TL.joinL [123] (ms.map fun m => m.cps.toList) ++ [123] = codesS ms
  | [], h => absurd rfl h
  | [m], _ => by simp [codesS, TL.joinL]
  | m :: n :: r, _ => by
    have := joinS (ms := n :: r) (by simp)
    show (m.cps.toList ++ ([123] ++ TL.joinL [123] ((n :: r).map fun m => m.cps.toList))) ++ [123] = (m.cps.toList ++ [123]) ++ codesS (n :: r)
    rw [← this]
    simp
theorem firstF {ms : List Str} (h : ms ≠ []) : (("`" : Str) ++ Txt.join "`" ms).cps.toList = codesF ms := by
  rw [codes_app, TL.join_eq]
  have := TL.tl_join "`" ms
  unfold TL.tl at this
  rw [this, ← joinF h]
  rfl
theorem secondS {ms : List Str} (h : ms ≠ []) : (Txt.join "{" ms ++ ("{" : Str)).cps.toList = codesS ms := by
  rw [codes_app, TL.join_eq]
  have := TL.tl_join "{" ms
  unfold TL.tl at this
  rw [this, ← joinS h]
  rfl
theorem sumS : ∀ ms : List Str, (ms.map (·.length)).sum + ms.length * 1 = (codesS ms).length
  | [] => rfl
  | m :: r => by
    have h := sumS r
    show m.length + (r.map (·.length)).sum + (r.length + 1) * 1 = ((m.cps.toList ++ [123]) ++ codesS r).length
    have e : m.cps.toList.length = m.length := Array.length_toList
    simp only [List.length_append, List.length_cons, List.length_nil]
    omega
theorem val_cast : ∀ (l : List Nat) (a : Nat), ((l.map fun c => ((c : Nat) : Int)).foldl (fun a k => a * 256 + k) (a : Int)) = ((nvA a l : Nat) : Int)
  | [], _ => rfl
  | c :: r, a => by
    rw [List.map_cons, List.foldl_cons, show ((a : Int) * 256 + (c : Int)) = ((a * 256 + c : Nat) : Int) by push_cast; rfl, val_cast r]
    rfl
theorem val_of {x : Str} {l : List Nat} (h : x.cps.toList = l) : PySem.W.KFB.value (PySem.W.KSb.codes x) = ((nvA 0 l : Nat) : Int) := by
  unfold PySem.W.KFB.value PySem.W.KSb.codes
  rw [h]
  exact val_cast l 0
theorem low_all {ms : List Str} : ((∀ c ∈ codesS ms, c < 128) ↔ ∀ m ∈ ms, ∀ c ∈ m.cps.toList, c < 128) ∧ ((∀ m ∈ ms, ∀ c ∈ m.cps.toList, c < 128) → ∀ c ∈ codesF ms, c < 128) ∧ (codesF ms).length = (codesS ms).length := by
  refine ⟨⟨fun h m hm c hc => h c (List.mem_flatMap.mpr ⟨m, hm, List.mem_append_left _ hc⟩), fun h c hc => ?_⟩, fun h c hc => ?_, ?_⟩
  · obtain ⟨m, hm, hc⟩ := List.mem_flatMap.mp hc
    rcases List.mem_append.mp hc with hc | hc
    · exact h m hm c hc
    · rw [List.mem_singleton.mp hc]; decide
  · obtain ⟨m, hm, hc⟩ := List.mem_flatMap.mp hc
    rcases List.mem_cons.mp hc with rfl | hc
    · decide
    · exact h m hm c hc
  · induction ms with
    | nil => rfl
    | cons m r ih =>
      show ((96 :: m.cps.toList) ++ codesF r).length = ((m.cps.toList ++ [123]) ++ codesS r).length
      rw [List.length_append, List.length_append, ih]
      simp
theorem asc_low {x : Str} {l : List Nat} (h : x.cps.toList = l) (hl : ∀ c ∈ l, c < 128) : PySem.W.KSb.Asc x := fun c hc => hl c (h ▸ hc)
theorem b8_low {x : Str} {l : List Nat} (h : x.cps.toList = l) (hl : ∀ c ∈ l, c < 128) : B8 (PySem.W.KSb.codes x) := by
  intro k hk
  obtain ⟨c, hc, rfl⟩ := List.mem_map.mp hk
  have := hl c (h ▸ hc)
  omega
def spHla : Sp := fun vs H Q _ => ∃ x : Str, vs = [.str x] ∧ x.length ≤ 10000 ∧ Q (.bl (decide (x.length ≠ 0) && okS x)) H
section
variable {P : Program} {w : World} {K : PySem.W.Frag} {mg : Str → Option Value} {base : Heap}
theorem scHla : FnScope ["text", "data"] ["text"] (defScope sHla) := ⟨rfl, rfl, rfl, by decide +kernel, rfl, by decide +kernel, by decide +kernel⟩
theorem ok_hla {f : Addr} {fd : FuncData} (F : Fun K "has_letters_alone" "has_letters_alone" sHla f fd) : FnOk P w K mg base CX0 1 f fd ["text"] spHla := by
  refine F.ok scHla (fun vs H Q E h => ?_) (fun cdv A outer s H vs Q E hr h => ?_)
  · obtain ⟨x, rfl, _⟩ := h; rfl
  · obtain ⟨x, rfl, hx, k⟩ := h
    have nd := scHla.nd
    refine ⟨_, (pss_cons (ps_if (pt_not (pt_val (pe_m0 PySem.F.slot_str_isascii PySem.F.type_str_isascii mt_isascii (pv 0)))) (pss_one (ps_ret pe_bl)) pss_nil)
      (pss_cons (ps_set (i := 1) nd rfl (.inl rfl) (pe_m0 PySem.F.slot_str_encode PySem.F.type_str_encode mt_encode (pv 0)))
      (pss_one (ps_ret (pe_and (pe_byt0 byt_isalpha byt_isalpha_t mt_byt_isalpha (pv 1)) (pe_one (pe_byt0 byt_islower byt_islower_t mt_byt_islower (pv 1)))))))), ?_⟩
    refine ⟨_, rfl, ⟨_, rfl⟩, _, rfl, rfl, trivial, _, rfl, ?_⟩
    cases ha0 : Txt.isascii x with
    | false =>
      refine iteT ?_
      have e : okS x = false := by
        cases h : okS x with
        | false => rfl
        | true => rw [isascii_iff.mpr (okS_ascii h)] at ha0; cases ha0
      rw [e, Bool.and_false] at k
      exact k
    | true =>
      refine iteF ?_
      have ha := isascii_iff.mp ha0
      rw [← hlb_eq ha] at k
      refine ⟨_, rfl, ⟨_, rfl⟩, _, rfl, rfl, ⟨ha, by omega⟩, _, rfl, ⟨_, rfl⟩, _, rfl, rfl, _, rfl, ?_⟩
      refine ite2 (fun h1 => ?_) (fun h1 => ?_)
      · rw [h1, Bool.true_and] at k
        exact ⟨_, rfl, ⟨_, rfl⟩, _, rfl, rfl, k⟩
      · rw [Bool.not_eq_true] at h1
        rw [h1, Bool.false_and] at k
        exact k
end
end Cp

set_option Elab.async false
set_option linter.all false
set_option maxRecDepth 100000
namespace Cp
open PySem PySem.Spec L2 PyProof.Rows
theorem ones_lt (n : Nat) : 128 * ones n < 2 ^ (8 * n) := by
  have h := ones_eq n
  have e : (256 : Nat) ^ n = 2 ^ (8 * n) := by rw [Nat.pow_mul]
  omega
theorem codesS_le : ∀ {ms : List Str} {b : Nat}, (∀ m ∈ ms, m.length ≤ b) → (codesS ms).length ≤ (b + 1) * ms.length
  | [], _, _ => by simp [codesS]
  | m :: r, b, h => by
    have h1 := codesS_le fun m hm => h m (List.mem_cons_of_mem _ hm)
    have h2 : m.cps.toList.length ≤ b := by
      rw [Array.length_toList]
      exact h m List.mem_cons_self
    show ((m.cps.toList ++ [123]) ++ codesS r).length ≤ _
    simp only [List.length_append, List.length_cons, List.length_nil, Nat.mul_succ]
    omega
/-- a mark has at most 26 signs -/
theorem asc_len : ∀ (l : List Nat) (a : Nat), asc (a :: l) = true → (∀ c ∈ a :: l, c ≤ 122) → a + l.length ≤ 122
  | [], a, _, h => by simpa using h
  | b :: r, a, h, hc => by
    simp only [asc, Bool.and_eq_true, decide_eq_true_eq] at h
    have := asc_len r b h.2 fun c hm => hc c (List.mem_cons_of_mem _ hm)
    simp only [List.length_cons]
    omega
theorem okM_len' {m : Str} (h : okM m = true) : m.length ≤ 26 := by
  unfold okM okS okC at h
  simp only [Bool.and_eq_true, List.all_eq_true, decide_eq_true_eq] at h
  have hl : m.length = m.cps.toList.length := (Array.length_toList).symm
  rw [hl]
  cases hc : m.cps.toList with
  | nil => simp
  | cons a r =>
    rw [hc] at h
    have h1 := asc_len r a h.2 fun c hm => (h.1 c hm).2
    have h2 := (h.1 a List.mem_cons_self).1
    simp only [List.length_cons]
    omega
/-- whether texts are marks -/
def spMks (n : Nat) : Sp := fun vs H Q _ => ∃ (a : Addr) (ms : List Str), vs = [.ref a] ∧ H a = some (.lst (ms.map V.str)) ∧ ms ≠ [] ∧ ms.length ≤ 2 ^ n ∧ ms.length ≤ 24 ∧ (∀ m ∈ ms, m.length ≤ 1000) ∧ ∀ H', Same H H' → Q (.bl (ms.all okM)) H'
def spMks' : Nat → Sp
  | 0 => fun _ _ _ _ => False
  | n + 1 => spMks n
abbrev nMks : List Str := ["texts", "first", "half", "second", "tops", "left"]
structure TQ (mg : Str → Option Value) : Prop where
  below : ∃ t, mg "_BELOW_LETTERS" = some (.str "`" t)
  above : ∃ t, mg "_ABOVE_LETTERS" = some (.str "{" t)
  tops : ∃ t, mg "_TOPS" = some (.int ((128 * ones 324 : Nat) : Int) t)
  many : ∃ t, mg "_MOST_SIGNS" = some (.int 324 t)
theorem half_add {α : Type} (l : List α) (f : α → Bool) (h : Nat) : ((l.take h).all f && (l.drop h).all f) = l.all f := by
  rw [← List.all_append, List.take_append_drop]
section
variable {P : Program} {w : World} {K : PySem.W.Frag} {mg : Str → Option Value} {base : Heap}
theorem scMks : FnScope nMks ["texts"] (defScope sMks) := ⟨rfl, rfl, rfl, by decide +kernel, rfl, by decide +kernel, by decide +kernel⟩
theorem ok_mks' {f : Addr} {fd : FuncData} (F : Fun K "are_marks" "are_marks" sMks f fd) (T : TP mg) (U : TQ mg) (b : Binds K fd ["texts"] []) (m : mg "are_marks" = some (.ref f)) : ∀ n, FnOk P w K mg base CX0 n f fd ["texts"] (spMks' n)
  | 0 => ⟨fun _ _ _ _ h => h.elim, fun _ _ _ _ _ _ _ _ _ _ _ _ _ h => h.elim⟩
  | n + 1 => by
    have GR := ok_mks' F T U b m n
    refine F.ok scMks (fun vs H Q E h => ?_) (fun cdv A outer s H vs Q E hr h => ?_)
    · obtain ⟨a, ms, rfl, _⟩ := h; rfl
    · obtain ⟨a, ms, rfl, ha, h1, hn, h2, h3, k⟩ := h
      have nd := scMks.nd
      refine ⟨_, (pss_cons (ps_set (i := 1) nd rfl (.inl rfl) (pe_op op_add_str (pe_glob (v := .str "`") (by rfl) U.below.choose_spec ⟨_, rfl⟩) (pe_join (pe_glob (v := .str "`") (by rfl) U.below.choose_spec ⟨_, rfl⟩) (pv 0))))
        (pss_cons (ps_if (pt_cmpR op_gt (pe_callB call_len_str (by rfl) T.len PySem.boot_len (pa_cons (pv 1) pa_nil)) (pe_glob (v := .int 324) (by rfl) U.many.choose_spec ⟨_, rfl⟩) (nomark _))
          (pss_cons (ps_set (i := 2) nd rfl (.inl rfl) (pe_op op_fdivN (pe_callB call_len_seq (by rfl) T.len PySem.boot_len (pa_cons (pv 0) pa_nil)) pe_int))
          (pss_one (ps_ret (pe_and (pe_cmpR op_gt (pv 2) pe_int (nomark _)) (pe_and (pe_call GR hr (by rfl) m F.kp b .nil pass0 (pa_cons (pe_slice sl_list (pv 0) po_none (po_some (pv 2))) pa_nil)) (pe_one (pe_call GR hr (by rfl) m F.kp b .nil pass0 (pa_cons (pe_slice sl_list (pv 0) (po_some (pv 2)) po_none) pa_nil)))))))) pss_nil)
        (pss_cons (ps_set (i := 3) nd rfl (.inl rfl) (pe_op op_add_str (pe_join (pe_glob (v := .str "{") (by rfl) U.above.choose_spec ⟨_, rfl⟩) (pv 0)) (pe_glob (v := .str "{") (by rfl) U.above.choose_spec ⟨_, rfl⟩)))
        (pss_cons (ps_if (pt_not (pt_val (pe_m0 PySem.F.slot_str_isascii PySem.F.type_str_isascii mt_isascii (pv 3)))) (pss_one (ps_ret pe_bl)) pss_nil)
        (pss_cons (ps_set (i := 4) nd rfl (.inl rfl) (pe_op op_shr (pe_glob (v := .int ((128 * ones 324 : Nat) : Int)) (by rfl) U.tops.choose_spec ⟨_, rfl⟩) (pe_op op_mul pe_int (pe_op op_sub (pe_glob (v := .int 324) (by rfl) U.many.choose_spec ⟨_, rfl⟩) (pe_callB call_len_str (by rfl) T.len PySem.boot_len (pa_cons (pv 3) pa_nil))))))
        (pss_cons (ps_set (i := 5) nd rfl (.inl rfl) (pe_op op_sub (pe_op op_or (pe_fromB (pe_bltn (v := .ty "int") (u := .type "int") (by rfl) T.int (by decide +kernel) rfl) (pa_cons (pe_m0 PySem.F.slot_str_encode PySem.F.type_str_encode mt_encode (pv 1)) (pa_cons pe_str pa_nil))) (pv 4))
          (pe_fromB (pe_bltn (v := .ty "int") (u := .type "int") (by rfl) T.int (by decide +kernel) rfl) (pa_cons (pe_m0 PySem.F.slot_str_encode PySem.F.type_str_encode mt_encode (pv 3)) (pa_cons pe_str pa_nil)))))
        (pss_one (ps_ret (pe_cmpR op_eq (pe_op op_and (pv 5) (pv 4)) pe_int (nomark _)))))))))), ?_⟩
      have hF := firstF h1
      have hS := secondS h1
      generalize hf : (("`" : Str) ++ Txt.join "`" ms) = F1 at hF
      obtain ⟨lsi, lfi, ll⟩ := low_all (ms := ms)
      have n24 : (codesS ms).length ≤ 24024 := Nat.le_trans (codesS_le h3) (by omega)
      have sm := sumS ms
      have lF : F1.length = (codesS ms).length := by rw [← ll, ← hF, Array.length_toList]; rfl
      have z1 : (24024 : Nat) ≤ sizeLine := by decide
      have len2 : (Txt.join "{" ms ++ ("{" : Str)).length = (codesS ms).length := by rw [← hS, Array.length_toList]; rfl
      generalize hn' : (codesS ms).length = cn at *
      refine ⟨⟨_, rfl⟩, _, rfl, _, a, ms, rfl, rfl, .inl (SqL.of ha), (by show (ms.map (·.length)).sum + ms.length * 1 ≤ 16777216; omega), _, _, rfl, rfl, ?_, ?_⟩
      · show (1 : Nat) + (Txt.join "`" ms).length ≤ sizeLine
        have : F1.length = 1 + (Txt.join "`" ms).length := by rw [← hf]; exact len_app _ _
        omega
      show tSeq _ _ _ _ _
      rw [hf]
      refine ⟨_, rfl, _, rfl, by omega, _, _, rfl, rfl, _, rfl, ?_⟩
      have ka : ∀ (H' : Hp) (b : Bool), b = ms.all okM → Same H H' → Q (.bl b) H' := fun H' b e s => by rw [e]; exact k H' s
      refine ite2 (fun hgt => ?_) (fun hgt => ?_)
      · have hgt : 324 < cn := by have := of_decide_eq_true hgt; omega
        have eh : (((ms.map V.str).length : Nat) : Int).fdiv 2 = ((ms.length / 2 : Nat) : Int) := by
          rw [List.length_map, Int.fdiv_eq_ediv_of_nonneg _ (by decide)]
          omega
        refine ⟨_, rfl, a, _, rfl, .inl (SqL.of ha), _, _, rfl, rfl, ⟨by decide, by decide⟩, ?_⟩
        (try dsimp only); rw [eh]
        refine ⟨_, rfl, _, _, rfl, rfl, _, rfl, ?_⟩
        refine ite2 (fun hh => ?_) (fun hh => ?_)
        · have hh : 0 < ms.length / 2 := by have := of_decide_eq_true hh; omega
          unfold tNoPart
          cases n with
          | zero => rw [Nat.pow_zero] at hn; omega
          | succ n =>
          have hn2 : ms.length ≤ 2 * 2 ^ n := by rw [Nat.pow_succ] at hn; omega
          refine ⟨_, rfl, _, rfl, _, rfl, a, _, rfl, SqL.of ha, fun p hp => ?_⟩
          refine ⟨p, ms.take (ms.length / 2), rfl, ?_, ?_, ?_, ?_, fun m hm => h3 m (List.mem_of_mem_take hm), fun H1 s1 => ⟨_, rfl, ?_⟩⟩
          · rw [upd_same]
            unfold cutV
            rw [HT.sIx_none, HT.sIx_nat, List.drop_zero, Nat.sub_zero, List.length_map, Nat.min_eq_left (by omega), List.map_take]
          · intro e
            have := congrArg List.length e
            rw [List.length_take] at this
            simp only [List.length_nil] at this
            omega
          · rw [List.length_take]; omega
          · rw [List.length_take]; omega
          have sH := (s_new hp).trans s1
          refine ite2 (fun ht => ?_) (fun ht => ?_)
          · refine ⟨_, rfl, _, rfl, _, rfl, a, _, rfl, SqL.of (sH _ _ ha), fun p2 hp2 => ?_⟩
            refine ⟨p2, ms.drop (ms.length / 2), rfl, ?_, ?_, ?_, ?_, fun m hm => h3 m (List.mem_of_mem_drop hm), fun H2 s2 => ?_⟩
            · rw [upd_same]
              unfold cutV
              rw [HT.sIx_nat, HT.sIx_none, List.length_map, Nat.min_eq_left (by omega), List.take_of_length_le (by rw [List.length_drop, List.length_map]; omega), List.map_drop]
            · intro e
              have := congrArg List.length e
              rw [List.length_drop] at this
              simp only [List.length_nil] at this
              omega
            · rw [List.length_drop]; omega
            · rw [List.length_drop]; omega
            refine ka H2 _ ?_ ((sH.trans (s_new hp2)).trans s2)
            rw [← half_add ms okM (ms.length / 2), ht, Bool.true_and]
          · rw [Bool.not_eq_true] at ht
            refine ka H1 _ ?_ sH
            rw [← half_add ms okM (ms.length / 2), ht, Bool.false_and]
        · have hh : ms.length / 2 = 0 := by
            rw [decide_eq_true_eq] at hh
            omega
          refine ka H _ ?_ (Same.refl H)
          match ms, h1, hh, hn' with
          | [m], _, _, hc =>
            cases hk : [m].all okM with
            | false => rfl
            | true =>
              simp only [List.all_cons, List.all_nil, Bool.and_true] at hk
              have h26 := okM_len' hk
              have : (codesS [m]).length ≤ (26 + 1) * [m].length := codesS_le (b := 26) fun x hx => by rw [List.mem_singleton.mp hx]; exact h26
              simp only [List.length_cons, List.length_nil] at this
              omega
          | _ :: _ :: _, _, hh, _ => simp only [List.length_cons] at hh; omega
      have n324 : cn ≤ 324 := by
        rw [decide_eq_true_eq] at hgt
        omega
      refine ⟨⟨_, rfl⟩, _, rfl, _, a, ms, rfl, rfl, .inl (SqL.of ha), (by show (ms.map (·.length)).sum + ms.length * 1 ≤ 16777216; omega), _, _, rfl, rfl, ?_, ?_⟩
      · show (Txt.join "{" ms).length + (1 : Nat) ≤ sizeLine
        have : (Txt.join "{" ms ++ ("{" : Str)).length = (Txt.join "{" ms).length + 1 := len_app _ _
        omega
      show tSeq _ _ _ _ _
      generalize hs : (Txt.join "{" ms ++ ("{" : Str)) = S1 at hS len2
      have hasc : Txt.isascii S1 = true ↔ ∀ c ∈ codesS ms, c < 128 := by rw [isascii_iff, hS]
      refine ⟨_, rfl, ⟨_, rfl⟩, _, rfl, rfl, trivial, _, rfl, ?_⟩
      cases ha0 : Txt.isascii S1 with
      | false =>
        refine iteT ?_
        refine ka H _ ?_ (Same.refl H)
        cases hk : ms.all okM with
        | false => rfl
        | true =>
          rw [List.all_eq_true] at hk
          have : Txt.isascii S1 = true := hasc.mpr (lsi.mpr fun m hm c hc => by
            have := hk m hm
            unfold okM okS okC at this
            simp only [Bool.and_eq_true, List.all_eq_true, decide_eq_true_eq] at this
            have := (this.1 c hc).2
            omega)
          rw [ha0] at this
          cases this
      | true =>
      refine iteF ?_
      have ls := hasc.mp ha0
      have lm := lsi.mp ls
      have lf := lfi lm
      obtain ⟨LF, e1, e2⟩ := marks_by_bits lm
      rw [hn'] at e1 e2
      have hq : ((128 * ones 324 : Nat) : Int) / 2 ^ ((8 : Int) * (324 - (S1.length : Int))).toNat = ((128 * ones cn : Nat) : Int) := by
        obtain ⟨m', hm'⟩ : ∃ m', 324 = cn + m' := ⟨324 - cn, by omega⟩
        have a1 : ((8 : Int) * (324 - (S1.length : Int))).toNat = 8 * m' := by rw [len2]; omega
        have a2 : ((2 : Int) ^ (8 * m')) = ((256 ^ m' : Nat) : Int) := by rw [Int.pow_mul]; push_cast; rfl
        rw [a1, a2, hm', ← Int.natCast_ediv, tops_cut]
      refine ⟨_, rfl, _, rfl, (by rw [len2]; omega), _, _, rfl, rfl, _, _, rfl, rfl, .inl ⟨by decide, by decide⟩, _, _, rfl, rfl, (by rw [len2]; omega), ?_⟩
      show tSeq _ _ _ _ _
      (try dsimp only); rw [hq]
      have cl : ∀ {x : Str} {l : List Nat}, x.cps.toList = l → l.length = cn → (PySem.W.KSb.codes x).length ≤ 10000 := fun {x l} h1 h2 => by
        unfold PySem.W.KSb.codes
        rw [List.length_map, h1, h2]
        omega
      refine fun u hu => ⟨_, rfl, ⟨_, rfl⟩, _, rfl, rfl, ⟨asc_low hF lf, by rw [lF]; omega⟩, upd_same, _, b8_low hF lf, cl hF ll, rfl, _, rfl, _, _, rfl, rfl, ?_⟩
      refine fun u2 hu2 => ⟨_, rfl, ⟨_, rfl⟩, _, rfl, rfl, ⟨asc_low hS ls, by rw [len2]; omega⟩, upd_same, _, b8_low hS ls, cl hS hn', rfl, _, _, rfl, rfl, ?_⟩
      have hl : Builtin.bitOr (PySem.W.KFB.value (PySem.W.KSb.codes F1)) ((128 * ones cn : Nat) : Int) - PySem.W.KFB.value (PySem.W.KSb.codes S1) = (LF : Int) := by
        rw [val_of hS, val_of hF, bitOr_nn (Int.natCast_nonneg _) (Int.natCast_nonneg _), Int.toNat_natCast, Int.toNat_natCast, e1]
        push_cast
        omega
      (try dsimp only); rw [hl]
      refine ⟨_, rfl, _, rfl, _, _, rfl, rfl, rfl, ?_⟩
      have ha2 : Builtin.bitAnd (LF : Int) ((128 * ones cn : Nat) : Int) = (((LF &&& (128 * ones cn)) : Nat) : Int) := by
        rw [PyProof.Rows.bitAnd_pp (Int.natCast_nonneg _) (Int.natCast_nonneg _), Int.toNat_natCast, Int.toNat_natCast]
      refine ka _ _ ?_ (same_upd (s_new hu) hu2)
      rw [Bool.eq_iff_iff, ← e2, decide_eq_true_eq]
      dsimp only
      rw [ha2]
      exact ⟨fun z => Int.ofNat.inj (V.int.inj z), fun z => by rw [z]; rfl⟩
end
end Cp

set_option Elab.async false
set_option linter.all false
set_option maxRecDepth 100000
namespace Cp
open PySem PySem.Spec L2 PyProof.Rows
theorem ge_bool_int (b : Bool) (i : Int) (t : Tok) : Gives (Builtin.«int.__ge__» ⟨[.bool b, .int i t], []⟩) (.val (.bool (decide ((if b = true then (1 : Int) else 0) ≥ i)))) :=
  .of_wp fun M A E s Q h => by (obtain ⟨hp, g, d, tk, os⟩ := s); wp_walk; exact ⟨_, rfl, h⟩
/-- a number beside a number or a bool -/
def rLeE : R2 := fun x y H Q => ∃ i : Int, x = .int i ∧ ((∃ j : Int, y = .int j ∧ Q (.bl (decide (i ≤ j))) H) ∨ ∃ b : Bool, y = .bl b ∧ Q (.bl (decide (i ≤ if b = true then 1 else 0))) H)
theorem op_leE {X : Cx} : OpR X (compareOp .LtE) rLeE := by
  intro pins s σ H x y v u Q I rx ry h
  obtain ⟨i, rfl, ⟨j, rfl, q⟩ | ⟨b, rfl, q⟩⟩ := h
  · exact op_le pins s σ H _ _ v u Q I rx ry ⟨i, j, rfl, rfl, q⟩
  · obtain ⟨t, rfl⟩ := rx
    cases (show u = Value.bool b from ry)
    refine (SeqAt.rc_sub_first_or (typeIs_int s i t) rfl (by decide) PySem.F.sub_bool_int PySem.F.slot_bool_ge_refl
      (call_gives PySem.F.slot_bool_ge_refl rfl PySem.F.entry_int_ge (PySem.F.args_int_ge_2 _ _) (ge_bool_int b i t) ⟨nofun, ?_⟩) (.inl rfl) : wpAny _ _ (richCompare .LtE (.int i t) (.bool b)) _ _ s)
    exact ⟨.bl _, H, I, rfl, q⟩
/-- is, of a number or a bool -/
def rIsE : R2 := fun x y H Q => ∃ b : Bool, y = .bl b ∧ ((∃ i : Int, x = .int i ∧ Q (.bl false) H) ∨ ∃ a : Bool, x = .bl a ∧ Q (.bl (decide (a = b))) H)
theorem op_isE {X : Cx} : OpR X (compareOp .Is) rIsE := by
  intro pins s σ H x y v u Q I rx ry h
  obtain ⟨b, rfl, ⟨i, rfl, q⟩ | ⟨a, rfl, q⟩⟩ := h
  · obtain ⟨t, rfl⟩ := rx
    cases (show u = Value.bool b from ry)
    exact wpAny_is_other rfl (fun z => nomatch z) ⟨.bl false, H, I, rfl, q⟩
  · exact op_isBl pins s σ H _ _ v u Q I rx ry ⟨a, b, rfl, rfl, q⟩
/-! ### bases -/
def strIn (ns : List Str) : PyData → Bool
  | .str x => decide (x ∈ ns)
  | _ => false
def strOf : PyData → Str
  | .str x => x
  | _ => Str.empty
def basesB (ns : List Str) : PyData → Bool
  | .tuple ds => decide (ds.length ≤ 6) && (ds.all (strIn ns) && decide ((ds.map strOf).Nodup))
  | _ => false
theorem dq_len {H : Hp} : ∀ {vs : List V} {ds : List PyData}, DqAll H vs ds → vs.length = ds.length
  | _, _, .nil => rfl
  | _, _, .cons _ t => by simp [dq_len t]
theorem dq_at {H : Hp} : ∀ {vs : List V} {ds : List PyData} (i : Nat), DqAll H vs ds → ∀ {v : V}, vs[i]? = some v → ∃ d, ds[i]? = some d ∧ Dq H v d
  | _, _, _, .nil, _, h => by simp at h
  | _, _, 0, .cons a _, _, h => by
    simp only [List.getElem?_cons_zero, Option.some.injEq] at h
    subst h
    exact ⟨_, rfl, a⟩
  | _, _, i + 1, .cons _ t, _, h => by
    rw [List.getElem?_cons_succ] at h
    obtain ⟨d, h1, h2⟩ := dq_at i t h
    exact ⟨d, by rw [List.getElem?_cons_succ]; exact h1, h2⟩
theorem dq_strs {H : Hp} {ns : List Str} : ∀ {vs : List V} {ds : List PyData}, DqAll H vs ds → ds.all (strIn ns) = true → vs = (ds.map strOf).map V.str
  | _, _, .nil, _ => rfl
  | _, _, .cons (d := d) a t, h => by
    rw [List.all_cons, Bool.and_eq_true] at h
    cases a with
    | str x => rw [dq_strs t h.2]; rfl
    | _ => exact absurd h.1 (by simp [strIn])
def alphaL : List Nat := ("abcdefghijklmnopqrstuvwxyz" : Str).cps.toList
def okHead (tk : List Str) (le : Int) (n : Str) (e : Int) (l m : Str) (b : PyData) : Bool :=
  decide (1 ≤ n.length) && (decide (n.length ≤ 8) && (!decide (n ∈ tk) && (decide (le ≤ e) && (decide (e ≤ 99) && (decide (l.length = 1) && (l.cps.toList.all (fun c => decide (c ∈ alphaL)) && (decide (m.length ≤ 26) && basesB tk b)))))))
/-- what the program takes as a kind whose name and mark have any signs -/
def stepA (tk : List Str) (le : Int) : PyData → Option (Str × Int × Str)
  | .tuple [dn, de, db, dl, dm] => match dn, de, dl, dm with
    | .str n, .int e, .str l, .str m => if okHead tk le n e l m db = true then some (n, e, m) else none
    | _, _, _, _ => none
  | _ => none
def aheadA : List PyData → List Str → Int → List (Str × Str)
  | [], _, _ => []
  | d :: r, tk, le => match stepA tk le d with
    | some (n, e, m) => (n, m) :: aheadA r (tk ++ [n]) e
    | none => []
mutual
/-- no text in it is long -/
def bndD : PyData → Bool
  | .str x => decide (x.length ≤ 1000)
  | .list l => bndDs l
  | .tuple l => bndDs l
  | _ => true
def bndDs : List PyData → Bool
  | [] => true
  | d :: r => bndD d && bndDs r
end
theorem bndDs_all : ∀ {l : List PyData}, bndDs l = true → ∀ d ∈ l, bndD d = true
  | [], _, d, h => by simp at h
  | e :: r, h, d, hd => by
    simp only [bndDs, Bool.and_eq_true] at h
    rcases List.mem_cons.mp hd with rfl | hd
    · exact h.1
    · exact bndDs_all h.2 d hd
theorem stepA_no {tk : List Str} {le : Int} {n : Str} {de db dl dm : PyData} (h : ∀ e l m, de = .int e → dl = .str l → dm = .str m → okHead tk le n e l m db = false) : stepA tk le (.tuple [.str n, de, db, dl, dm]) = none := by
  cases de with
  | int e => cases dl with
    | str l => cases dm with
      | str m =>
        show (if okHead tk le n e l m db = true then _ else _) = _
        rw [h e l m rfl rfl rfl]
        rfl
      | _ => rfl
    | _ => rfl
  | _ => rfl
theorem len1 {x : Str} (h : x.length = 1) : ∃ c, x = ⟨#[c]⟩ := by
  obtain ⟨⟨l⟩⟩ := x
  match l, h with
  | [c], _ => exact ⟨c, rfl⟩
/-! ### where it is wrong -/
def badAt : List (Str × Str) → Nat → Option Nat
  | [], _ => none
  | (n, m) :: r, i => if (okS n && okM m) = true then badAt r (i + 1) else some i
def placeP : PyData → Option (List Nat)
  | .tuple ds => if 1 ≤ ds.length ∧ ds.length ≤ 24 then (match badAt (aheadA ds [] 1) 0 with
      | some i => some [i]
      | none => if (aheadA ds [] 1).length < ds.length then some [(aheadA ds [] 1).length] else none) else some []
  | _ => some []
def nmT (S : List Str) : List (Key × V) := S.map fun n => (kx n, V.bl true)
theorem nmT_some : ∀ (S : List Str) (x : Str), (valV (nmT S) (kx x)).isSome = true ↔ x ∈ S
  | [], x => by simp [nmT, valV]
  | n :: r, x => by
    have ih := nmT_some r x
    unfold nmT at ih ⊢
    rw [List.map_cons]
    unfold valV at ih ⊢
    by_cases e : n = x
    · subst e
      simp
    · have e2 : ¬ kx n = kx x := fun q => e (Sum.inr.inj q)
      have e3 : ¬ x = n := fun q => e q.symm
      rw [List.find?_cons_of_neg (by simpa using e2)]
      rw [ih]
      simp [e3]
theorem nmT_put {S : List Str} {x : Str} : putK (nmT S) (kx x) (.bl true) = nmT (if x ∈ S then S else S ++ [x]) := by
  unfold putK
  by_cases h : x ∈ S
  · rw [if_pos h, if_pos (by
      rw [List.any_eq_true]
      exact ⟨(kx x, .bl true), List.mem_map.mpr ⟨x, h, rfl⟩, by simp⟩)]
    unfold nmT
    rw [List.map_map]
    refine List.map_congr_left fun n hn => ?_
    show (if kx n = kx x then _ else _) = _
    split
    · rename_i q
      show (kx n, V.bl true) = _
      rw [show kx n = kx x from q]
    · rfl
  · rw [if_neg h, if_neg (by
      rw [List.any_eq_true]
      rintro ⟨q, h1, h2⟩
      obtain ⟨n, hn, rfl⟩ := List.mem_map.mp h1
      have : kx n = kx x := by simpa using h2
      exact h (Sum.inr.inj this ▸ hn))]
    unfold nmT
    rw [List.map_append]
    rfl
theorem nmT_keys (S : List Str) : (nmT S).map (fun kv => kV kv.1) = S.map V.str := by
  unfold nmT
  rw [List.map_map]
  rfl
theorem nmT_grow (S : List Str) (x : Str) : putK (nmT S) (kx x) (.bl true) = nmT (grow S x) := nmT_put
/-! ### what a kind reaches -/
structure Rk where
  nm : Str
  mr : Str
  bt : Nat
  sr : Bool
def rchK (rs : List Rk) : List (Key × V) := rs.map fun r => (kx r.nm, V.int ((r.bt : Nat) : Int))
def lkB (rs : List Rk) (x : Str) : Nat := ((rs.find? fun r => decide (r.nm = x)).map Rk.bt).getD 0
theorem rch_none : ∀ {rs : List Rk} {x : Str}, x ∉ rs.map Rk.nm → valV (rchK rs) (kx x) = none
  | [], _, _ => rfl
  | r :: l, x, h => by
    have h1 : ¬ r.nm = x := fun e => h (e ▸ List.mem_cons_self)
    unfold rchK
    rw [List.map_cons, valV_neg (p := (kx r.nm, V.int ((r.bt : Nat) : Int))) (kne h1)]
    exact rch_none fun q => h (List.mem_cons_of_mem _ q)
theorem rch_get : ∀ {rs : List Rk} {x : Str}, x ∈ rs.map Rk.nm → valV (rchK rs) (kx x) = some (.int ((lkB rs x : Nat) : Int))
  | [], _, h => by simp at h
  | r :: l, x, h => by
    unfold rchK lkB
    rw [List.map_cons]
    by_cases e : r.nm = x
    · rw [valV_pos (p := (kx r.nm, V.int ((r.bt : Nat) : Int))) (congrArg kx e), List.find?_cons_of_pos (by simpa using e)]
      rfl
    · rw [valV_neg (p := (kx r.nm, V.int ((r.bt : Nat) : Int))) (kne e), List.find?_cons_of_neg (by simpa using e)]
      rcases List.mem_cons.mp h with q | q
      · exact absurd q.symm e
      · exact rch_get q
theorem rch_put {rs : List Rk} {r : Rk} (h : r.nm ∉ rs.map Rk.nm) : putK (rchK rs) (kx r.nm) (.int ((r.bt : Nat) : Int)) = rchK (rs ++ [r]) := by
  unfold putK
  rw [valV_any, rch_none h, if_neg (by decide)]
  unfold rchK
  rw [List.map_append]
  rfl
theorem rch_len (rs : List Rk) : (rchK rs).length = rs.length := List.length_map _
theorem rch_keys (rs : List Rk) : (rchK rs).map (·.1) = (rs.map Rk.nm).map kx := by
  unfold rchK
  rw [List.map_map, List.map_map]
  rfl
def bitsB (rs : List Rk) (bs : List Str) : Nat := bs.foldl (fun acc x => acc ||| lkB rs x) (2 ^ rs.length)
theorem bitsB_snoc (rs : List Rk) (bs : List Str) (x : Str) : bitsB rs (bs ++ [x]) = bitsB rs bs ||| lkB rs x := by
  unfold bitsB
  rw [List.foldl_append]
  rfl
def rootsF : List Rk → Nat → Nat
  | [], _ => 0
  | r :: l, i => (if r.sr = true then 2 ^ i else 0) ||| rootsF l (i + 1)
theorem rootsF_snoc : ∀ (l : List Rk) (r : Rk) (i : Nat), rootsF (l ++ [r]) i = rootsF l i ||| (if r.sr = true then 2 ^ (i + l.length) else 0)
  | [], r, i => by simp [rootsF]
  | x :: l, r, i => by
    show (if x.sr = true then 2 ^ i else 0) ||| rootsF (l ++ [r]) (i + 1) = ((if x.sr = true then 2 ^ i else 0) ||| rootsF l (i + 1)) ||| _
    rw [rootsF_snoc l r (i + 1), Nat.or_assoc, show i + 1 + l.length = i + (x :: l).length by simp only [List.length_cons]; omega]
def isLet (l : Str) : Bool := decide (l.length = 1) && l.cps.toList.all (fun c => decide (c ∈ alphaL))
def okHeadB (tk : List Str) (le : Int) (n : Str) (e : Int) (l : Str) (b : PyData) : Bool :=
  decide (n.length ≤ 8) && (!decide (n ∈ tk) && (decide (le ≤ e) && (decide (e ≤ 99) && (isLet l && basesB tk b))))
def basL : PyData → List Str
  | .tuple ds => ds.map strOf
  | _ => []
/-- what the program takes as a kind but for the signs -/
def stepB (tk : List Str) (le : Int) : PyData → Option (Str × Int × Str × List Str)
  | .tuple [dn, de, db, dl, dm] => match dn, de, dl, dm with
    | .str n, .int e, .str l, .str m => if okHeadB tk le n e l db = true then some (n, e, m, basL db) else none
    | _, _, _, _ => none
  | _ => none
def newR (pre : List Rk) (n m : Str) (bs : List Str) : Rk := ⟨n, m, bitsB pre bs, bs.isEmpty⟩
def aheadB : List PyData → List Rk → Int → List Rk
  | [], _, _ => []
  | d :: r, pre, le => match stepB (pre.map Rk.nm) le d with
    | some (n, e, m, bs) => newR pre n m bs :: aheadB r (pre ++ [newR pre n m bs]) e
    | none => []
theorem stepB_no {tk : List Str} {le : Int} {n : Str} {de db dl dm : PyData} (h : ∀ e l m, de = .int e → dl = .str l → dm = .str m → okHeadB tk le n e l db = false) : stepB tk le (.tuple [.str n, de, db, dl, dm]) = none := by
  cases de with
  | int e => cases dl with
    | str l => cases dm with
      | str m =>
        show (if okHeadB tk le n e l db = true then _ else _) = _
        rw [h e l m rfl rfl rfl]
        rfl
      | _ => rfl
    | _ => rfl
  | _ => rfl
theorem okHead_B (tk : List Str) (le : Int) (n : Str) (e : Int) (l m : Str) (b : PyData) : okHead tk le n e l m b = (decide (1 ≤ n.length) && (okHeadB tk le n e l b && decide (m.length ≤ 26))) := by
  unfold okHead okHeadB isLet
  generalize decide (1 ≤ n.length) = a1
  generalize decide (n.length ≤ 8) = a2
  generalize decide (n ∈ tk) = a3
  generalize decide (le ≤ e) = a4
  generalize decide (e ≤ 99) = a5
  generalize decide (l.length = 1) = a6
  generalize (l.cps.toList.all fun c => decide (c ∈ alphaL)) = a7
  generalize decide (m.length ≤ 26) = a8
  generalize basesB tk b = a9
  cases a1 <;> cases a2 <;> cases a3 <;> cases a4 <;> cases a5 <;> cases a6 <;> cases a7 <;> cases a8 <;> cases a9 <;> rfl
theorem stepA_B (tk : List Str) (le : Int) (d : PyData) : stepA tk le d = match stepB tk le d with
    | some (n, e, m, _) => if 1 ≤ n.length ∧ m.length ≤ 26 then some (n, e, m) else none
    | none => none := by
  unfold stepA stepB
  split
  · rename_i dn de db dl dm
    split
    · rename_i n e l m
      rw [okHead_B]
      by_cases h1 : okHeadB tk le n e l db = true
      · rw [if_pos h1, h1, Bool.true_and]
        by_cases h2 : 1 ≤ n.length
        · by_cases h3 : m.length ≤ 26
          · rw [if_pos (by rw [decide_eq_true h2, decide_eq_true h3]; rfl)]
            exact (if_pos ⟨h2, h3⟩).symm
          · rw [if_neg (by rw [decide_eq_false h3, Bool.and_false]; decide)]
            exact (if_neg fun z => h3 z.2).symm
        · rw [if_neg (by rw [decide_eq_false h2, Bool.false_and]; decide)]
          exact (if_neg fun z => h2 z.1).symm
      · rw [if_neg h1, if_neg (by rw [Bool.not_eq_true] at h1; rw [h1, Bool.false_and, Bool.and_false]; decide)]
    · rfl
  · rfl
/-- where a name or a mark is wrong -/
def badB : List Rk → Nat → Option Nat
  | [], _ => none
  | r :: l, i => if (decide (r.nm.length ≠ 0) && okS r.nm && okM r.mr) = true then badB l (i + 1) else some i
theorem place_B : ∀ (ds : List PyData) (pre : List Rk) (le : Int) (i : Nat),
    (match badB (aheadB ds pre le) i with | some j => some j | none => if (aheadB ds pre le).length < ds.length then some (i + (aheadB ds pre le).length) else none) =
    (match badAt (aheadA ds (pre.map Rk.nm) le) i with | some j => some j | none => if (aheadA ds (pre.map Rk.nm) le).length < ds.length then some (i + (aheadA ds (pre.map Rk.nm) le).length) else none)
  | [], pre, le, i => by simp [aheadB, aheadA, badB, badAt]
  | d :: r, pre, le, i => by
    have hA := stepA_B (pre.map Rk.nm) le d
    unfold aheadB aheadA
    cases hs : stepB (pre.map Rk.nm) le d with
    | none =>
      rw [hs] at hA
      simp only at hA
      rw [hA]
      simp [badB, badAt]
    | some x =>
      obtain ⟨n, e, m, bs⟩ := x
      rw [hs] at hA
      simp only at hA
      have ih := place_B r (pre ++ [newR pre n m bs]) e (i + 1)
      have en : (pre ++ [newR pre n m bs]).map Rk.nm = pre.map Rk.nm ++ [n] := by rw [List.map_append]; rfl
      rw [en] at ih
      by_cases hc : 1 ≤ n.length ∧ m.length ≤ 26
      · rw [if_pos hc] at hA
        rw [hA]
        simp only [List.length_cons]
        have h0 : decide (n.length ≠ 0) = true := decide_eq_true (by omega)
        by_cases hg : (okS n && okM m) = true
        · have hb : badB (newR pre n m bs :: aheadB r (pre ++ [newR pre n m bs]) e) i = badB (aheadB r (pre ++ [newR pre n m bs]) e) (i + 1) := by
            show (if (decide (n.length ≠ 0) && okS n && okM m) = true then _ else _) = _
            rw [h0, Bool.true_and, if_pos hg]
          have ha : badAt ((n, m) :: aheadA r (pre.map Rk.nm ++ [n]) e) i = badAt (aheadA r (pre.map Rk.nm ++ [n]) e) (i + 1) := by
            conv => lhs; unfold badAt
            rw [if_pos hg]
          rw [hb, ha]
          generalize aheadB r (pre ++ [newR pre n m bs]) e = L at ih
          generalize aheadA r (pre.map Rk.nm ++ [n]) e = M at ih
          cases h1 : badB L (i + 1) with
          | some j =>
            rw [h1] at ih
            simp only at ih
            cases h2 : badAt M (i + 1) with
            | some j2 => rw [h2] at ih; exact ih
            | none =>
              rw [h2] at ih
              simp only at ih ⊢
              rw [ih]
              split
              · rw [if_pos (by omega)]; congr 1; omega
              · rw [if_neg (by omega)]
          | none =>
            rw [h1] at ih
            simp only at ih
            cases h2 : badAt M (i + 1) with
            | some j2 =>
              rw [h2] at ih
              simp only at ih ⊢
              rw [← ih]
              split
              · rw [if_pos (by omega)]; congr 1; omega
              · rw [if_neg (by omega)]
            | none =>
              rw [h2] at ih
              simp only at ih ⊢
              by_cases q1 : L.length < r.length
              · rw [if_pos q1] at ih
                rw [if_pos (by omega)]
                split at ih
                · rename_i q2
                  rw [if_pos (by omega)]
                  have := Option.some.inj ih
                  congr 1
                  omega
                · cases ih
              · rw [if_neg q1] at ih
                rw [if_neg (by omega)]
                split at ih
                · cases ih
                · rw [if_neg (by omega)]
        · have hb : badB (newR pre n m bs :: aheadB r (pre ++ [newR pre n m bs]) e) i = some i := by
            show (if (decide (n.length ≠ 0) && okS n && okM m) = true then _ else _) = _
            rw [h0, Bool.true_and, if_neg hg]
          have ha : badAt ((n, m) :: aheadA r (pre.map Rk.nm ++ [n]) e) i = some i := by
            unfold badAt
            rw [if_neg hg]
          rw [hb, ha]
      · rw [if_neg hc] at hA
        rw [hA]
        have hb : badB (newR pre n m bs :: aheadB r (pre ++ [newR pre n m bs]) e) i = some i := by
          show (if (decide (n.length ≠ 0) && okS n && okM m) = true then _ else _) = _
          rw [if_neg]
          intro q
          simp only [Bool.and_eq_true, decide_eq_true_eq] at q
          have := okM_len' q.2
          omega
        simp only [hb]
        simp [badAt]
end Cp

set_option Elab.async false
set_option linter.all false
set_option maxRecDepth 100000
/-! ### except (A, B) as n: caught = n, the error held behind the suite -/
namespace Cp
open PySem PySem.Spec L2 PyProof.Rows
/-- what a clause's test answers of an error of this class -/
def Asks (X : Cx) (tx : Expr) (cls : Value) (b : Bool) : Prop := ∀ (a : Addr) (oe : Obj) (pn : List (Addr × Obj)) {Z : Bool → Shared → Prop} {E : Value → Shared → Prop} {s : Shared} {σ : L2.St} {H : Hp}, Inv (X.suite a ((a, oe) :: pn)) [] σ H s →
  PySem.W.Looks (model X.prog X.w) s.heap (typeOf (.ref a)) cls → (∀ h', (∀ q o, s.heap.get? q = some o → h'.get? q = some o) → Z b { s with heap := h' }) →
  wpAny (model X.prog X.w) (X.A.mark (some (.ref a))) (eval tx X.env) (fun c s₁ => wpAny (model X.prog X.w) (X.A.mark (some (.ref a))) (excMatches (.ref a) c) Z E s₁) E s
theorem flyz_keeps {B h h' : Heap} {l : List Env} {e : Addr} {Z : Obj → Prop} (x : HandSPX.FlyingZ B l e Z h) (k : ∀ b o, h.get? b = some o → h'.get? b = some o) : HandSPX.FlyingZ B l e Z h' := by
  obtain ⟨f1, f2, f3, oe, vs, T, oT, ts, he, hz, hd, h1, hn, hT, hr, h3⟩ := x
  exact ⟨fun b o q => k b o (f1 b o q), f2, f3.of_keeps fun b o q _ => ⟨o, k b o q, rfl⟩, oe, vs, T, oT, ts, k _ _ he, hz, hd, h1, hn, hT, k _ _ hr, h3⟩
theorem name_in {X : Cx} {x : Str} {c : Value} {np : Pos} (hc : Names X x c) {a : Addr} {oe : Obj} {pn : List (Addr × Obj)} {Z : Value → Shared → Prop} {E : Value → Shared → Prop} {s : Shared} {σ : L2.St} {H : Hp} (S : Inv (X.suite a ((a, oe) :: pn)) [] σ H s) (q : Z c s) :
    wpAny (model X.prog X.w) (X.A.mark (some (.ref a))) (eval (.Name x np) X.env) Z E s := by
  obtain ⟨hg, hdb, hm⟩ := hc
  rcases hm with hm | ⟨hm, hv, hnn⟩
  · exact ld_glob (X := X.suite a ((a, oe) :: pn)) S hg hm q hdb
  · exact ld_blt (X := X.suite a ((a, oe) :: pn)) S hg hm hv q hnn hdb
theorem asks_name {X : Cx} {x : Str} {c cls : Value} {np : Pos} {b : Bool} (hc : Names X x c) (e : PySem.W.exmOne X.K cls c = some b) : Asks X (.Name x np) cls b := fun a oe pn {Z E s σ H} S ty q =>
  name_in hc S ((PySem.W.exm_one S.kIn ty e).here (q s.heap fun _ _ z => z))
theorem asks_two {X : Cx} {x1 x2 : Str} {c1 c2 cls : Value} {p1 p2 tp : Pos} {kk : Nat} {b : Bool} (h1 : Names X x1 c1) (h2 : Names X x2 c2) (e : PySem.W.exmAny X.K cls [c1, c2] = some b) : Asks X (.Tuple [.Name x1 p1, .Name x2 p2] kk tp) cls b := fun a oe pn {Z E s σ H} S ty q => by
  refine wpAny_Tuple (wpAny_items_cons (name_in h1 S (wpAny_items_cons (name_in h2 S (wpAny_items_nil ⟨by size_fits, ?_⟩)))))
  have kp : ∀ q o, s.heap.get? q = some o → (s.heap.push { cls := .type "tuple", data := .seq [c1, c2].toArray }).get? q = some o := fun _ _ z => Heap.get?_push_of_some _ z
  exact (PySem.W.exm_tup2 (S.kIn.keeps kp) (ty.keeps kp) (Heap.get?_push_size s.heap rfl) e).here (q _ kp)
/-- what is wished of an error of the body: behind the suite ue is read, in which the error is still held -/
def wKeepT (Dec : Value → Bool → Prop) (i : Nat) (ts ue : Addr → Value → Option Addr → TS) (Wout : WX) (D : Ends) : WX := fun cls d σ H =>
  ∃ b, Dec cls b ∧
    (b = true → ∀ a, H a = none → ts a cls d { nx := fun σ1 H1 => ue a cls d D (σ1.set i none) H1, rt := D.rt, bk := fun σ1 H1 => D.bk (σ1.set i none) H1, ct := fun σ1 H1 => D.ct (σ1.set i none) H1 } (σ.set i (some (.ref a))) H) ∧
    (b = false → Wout cls d σ H)
section
variable {X : Cx} {n : Str} {tx : Expr} {Dec : Value → Bool → Prop} {i : Nat} {body suite rest : List Stmt} {b₀ : Stmt} {pos pos' : Pos} {tb : WX → TS} {u : TS} {ts ue : Addr → Value → Option Addr → TS} {Wout : WX}
theorem pss_try_keepT (hs : X.stack = X.env :: X.outer) (hf : X.env.frame = some X.env.locals) (hN : X.N.Nodup) (hi : X.N[i]? = some n) (hln : X.env.kindOf n = some .local) (hask : ∀ cls b, Dec cls b → Asks X tx cls b) (tk : Takes X Wout)
    (hb : ∀ (W : WX) (pn : List (Addr × Obj)) (xe : Value → Shared → Prop), Takes (X.tr pn xe) W → PassesOwn (model X.prog X.w) X.A X.env xe → PSs (X.tr pn xe) body (tb W))
    (hsu : ∀ (a : Addr) (oe : Obj) (cls : Value) (d : Option Addr) (pn : List (Addr × Obj)), Zc cls d oe → (∃ vs, oe.data = .fields vs) → PSs (X.suite a ((a, oe) :: pn)) (b₀ :: suite) (ts a cls d))
    (hrest : PSs X rest u) (hheld : ∀ (a : Addr) (oe : Obj) (cls : Value) (d : Option Addr) (pn : List (Addr × Obj)), Zc cls d oe → (∃ vs, oe.data = .fields vs) → PSs (held X ((a, oe) :: pn)) rest (ue a cls d)) :
    PSs X (.Try body [.ExceptHandler (some tx) (some n) (b₀ :: suite) pos'] [] [] pos :: rest) (fun D σ H => tb (wKeepT Dec i ts ue Wout D) { D with nx := u D } σ H) := by
  constructor
  intro pins s σ H D I h
  have ok := I.ok
  have frm : X.A.frames = some (X.env :: X.outer) := by
    rw [ok.frames, hs]
  have locN : Loc X.env.scope n := Or.inl hln
  refine wpAny_execs_cons (wpAny_Try_except ?_)
  have Qn : ∀ (s1 : Shared), (∃ σ1 H1, Inv X pins σ1 H1 s1 ∧ u D σ1 H1) → wpAny (model X.prog X.w) X.A (execs rest X.env) (SP X pins D) X.xe s1 := by
    intro s1 z
    obtain ⟨σ1, H1, J, q⟩ := z
    exact hrest.run pins s1 σ1 H1 D J q
  refine wpAny_mono ((hb (wKeepT Dec i ts ue Wout D) (X.pn ++ pins) _ ?ca PassesOwn.looking).run [] s σ H { D with nx := u D } (I.toTry _) h) ?en (fun e s1 he => he)
  case en =>
    intro f s1 hsp
    match f, hsp with
    | .next, hsp =>
      obtain ⟨σ1, H1, J, q⟩ := hsp
      exact wpAny_execs_nil (Qn _ ⟨σ1, H1, J.ofTry ok, q⟩)
    | .brk, hsp =>
      obtain ⟨σ1, H1, J, q⟩ := hsp
      exact ⟨σ1, H1, J.ofTry ok, q⟩
    | .cont, hsp =>
      obtain ⟨σ1, H1, J, q⟩ := hsp
      exact ⟨σ1, H1, J.ofTry ok, q⟩
    | .ret v1, hsp =>
      obtain ⟨v, σ1, H1, J, r, q⟩ := hsp
      exact ⟨v, σ1, H1, J.ofTry ok, r, q⟩
  case ca =>
    intro ev s2 hx
    obtain ⟨a, B, sI, pinsI, σI, HI, cls, d, ea, JI, kB, upI, skyI, na, osI, bareI, b, hb1, yes, no⟩ := hx
    subst ea
    have J : Inv X pins σI HI sI := JI.ofTry ok
    have sky : Sky B (X.env :: X.outer) a (Zc cls d) X.env.locals s2.heap := by
      rw [← hs]
      exact skyI
    show wpAny (model X.prog X.w) X.A (noteFrame (.ref a) X.env) _ _ _
    refine Sky.land Zc.steady frm hf sky ?_
    intro h3 fl3 up3
    have J3 : Inv X pins σI HI { s2 with heap := h3 } := J.landed kB fl3.1 (upI.trans up3) osI bareI
    obtain ⟨oe3, vs3, he3, hz3, hd3⟩ := fl3.there
    have away : a ∉ frs (X.env :: X.outer) := by
      intro hm
      obtain ⟨_, o', e', hnf⟩ := fl3.2.2.1.mem hm
      rw [he3] at e'
      cases e'
      exact hnf _ hd3
    have awayL : a ≠ X.env.locals := by
      intro z
      refine away (List.mem_filterMap.mpr ⟨X.env, List.mem_cons_self, ?_⟩)
      rw [hf, z]
    have awayF : a ∉ X.fs := by
      intro hm
      obtain ⟨e, he, q⟩ := List.mem_filterMap.mp hm
      exact away (List.mem_filterMap.mpr ⟨e, List.mem_cons_of_mem _ he, q⟩)
    have S3 := J3.suite he3 hd3 na awayL awayF
    refine wpAny_handleBy_cons (codeAny_handlers_test ?_) (fun q => by cases q)
    have ty3 : PySem.W.Looks (model X.prog X.w) h3 (typeOf (.ref a)) cls := by
      intro A Q E s' k q
      refine wpAny_typeOf_ref (k _ _ he3) ?_
      rw [hz3.1]
      exact q
    refine hask cls b hb1 a oe3 (X.pn ++ pins) S3 ty3 (fun h3' k3 => ?_)
    have fl3 := flyz_keeps fl3 k3
    have up3 : s2.heap.UpToSlots h3' := up3.trans (Heap.UpToSlots.of_keeps k3)
    match b, yes, no with
    | true, yes, _ =>
      refine codeAny_handlers_suite_as (HandSPX.lands_againZ fl3 ?_)
      intro h4 fl4 up4
      have J4 : Inv X pins σI HI { s2 with heap := h4 } := J.landed kB fl4.1 ((upI.trans up3).trans up4) osI bareI
      obtain ⟨oe4, vs4, he4, hz4, hd4⟩ := fl4.there
      have S4 := J4.suite he4 hd4 na awayL awayF
      refine store_ok (X := X.suite a ((a, oe4) :: (X.pn ++ pins))) (v := .ref a) S4 hN hi locN rfl ?_ (Or.inr hln)
      intro s5 S5
      refine wpAny_mono ((hsu a oe4 cls d (X.pn ++ pins) hz4 ⟨_, hd4⟩).run [] s5 _ HI _ S5 (yes rfl a na)) ?_ (fun _ _ z => z.elim)
      intro f s6 hsp
      match f, hsp with
      | .next, hsp =>
        obtain ⟨σ6, H6, S6, q6⟩ := hsp
        refine gone_ok (X := held X ((a, oe4) :: (X.pn ++ pins))) (held_of S6 ok) hN hi hln ?_
        intro s7 J7
        exact thn ((hheld a oe4 cls d (X.pn ++ pins) hz4 ⟨_, hd4⟩).run [] s7 _ H6 D J7 q6) (fun f' s' z => sp_unheld ok z)
      | .brk, hsp =>
        obtain ⟨σ6, H6, S6, q6⟩ := hsp
        exact gone_ok (S6.unsuite ok) hN hi hln (fun s7 J7 => ⟨_, _, J7, q6⟩)
      | .cont, hsp =>
        obtain ⟨σ6, H6, S6, q6⟩ := hsp
        exact gone_ok (S6.unsuite ok) hN hi hln (fun s7 J7 => ⟨_, _, J7, q6⟩)
      | .ret u6, hsp =>
        obtain ⟨v6, σ6, H6, S6, r6, q6⟩ := hsp
        exact gone_ok (S6.unsuite ok) hN hi hln (fun s7 J7 => ⟨_, _, _, J7, r6, q6⟩)
    | false, _, no =>
      show wpAny _ X.A (handleBy (.ref a) X.env []) _ _ _
      refine wpAny_handleBy_nil ?_
      obtain ⟨_, _, _, oe, vs, T, oT, ts', he, hz, hd, h1, hr⟩ := id fl3
      unfold PySem.passOn
      refine wpAny_bind (wpAny_field he hd h1 ?_)
      rw [if_neg (show ¬ ((Value.ref T == Value.none) = true) by simp)]
      have on : ∀ {Q : Flow → Shared → Prop}, wpAny (model X.prog X.w) X.A (setFlight (.ref a) X.env.frame) (fun _ s4 => wpAny (model X.prog X.w) X.A (throw (.ref a) : Sem Flow) Q X.xe s4) X.xe { s2 with heap := h3' } := by
        intro Q
        rw [hf]
        refine HandSPX.setFlight_upZ fl3 ?_
        intro h4 hh4 up4
        refine wpAny_throw (tk _ _ ?_)
        refine ⟨a, B, sI, pins, σI, HI, cls, d, rfl, J, kB, (upI.trans up3).trans up4, Or.inr (Or.inr ?_), na, osI, bareI, no rfl⟩
        rw [hs]
        exact hh4
      first
        | exact wpAny_bind (wpAny_pure (wpAny_bind on))
        | exact wpAny_bind on
end
end Cp

set_option Elab.async false
set_option linter.all false
set_option maxRecDepth 100000
namespace Cp
open PySem PySem.Spec L2 PyProof.Rows
section
variable {X : Cx}
theorem isiK (K : PySem.W.Frag) (e : X.K = K := by rfl) : CallR X (.builtin "isinstance") (rIsi K) := e ▸ call_isi
theorem lenK (K : PySem.W.Frag) (e : X.K = K := by rfl) : CallR X (.builtin "len") (fun xs H Q => ∃ p ys, xs = [.ref p] ∧ (SqL K H p ys ∨ SqT K H p ys) ∧ Q (.int ys.length) H) := e ▸ call_len_seq
theorem pg_tupK (K : PySem.W.Frag) {pos : Pos} {es : List Expr} {k : Nat} {t : TGs} {n : Nat} (hc : X.calm = true) (ht : PGs X es t) (hn : (assignEach es X.env).length = n := by rfl) (hno : List.findIdx? (fun x => x.fst) (assignEach es X.env) = none := by rfl) (e : X.K = K := by rfl) : PG X (.Tuple es k pos) (gTup K n t) := e ▸ pg_tup hc ht hn hno
theorem pi_tupK (K : PySem.W.Frag) {tg l : Expr} {tl : TE} (h : PE X l tl) (e : X.K = K := by rfl) : PI X tg l (iTup K tl) := e ▸ pi_tup h
theorem pt_truthK (K : PySem.W.Frag) {a : Expr} {ta : TE} (h : PE X a ta) (he : ∀ whole : Sem Value, PySem.isTrue a X.env whole = (do let v ← whole; standAt a.pos; holding [v] (truthy v))) (e : X.K = K := by rfl) : PT X a fun σ H Q => ta σ H fun x H' => ∃ k, TruV K x H' k ∧ Q k H' := e ▸ pt_truth h he
theorem notIn_kdK (K : PySem.W.Frag) {w : World} {d : Addr} {es : Array DictEntry} {n : Nat} (D : KDict K w d es n) (e : X.K = K := by rfl) (e2 : X.w = w := by rfl) : OpR X (compareOp .NotIn) fun x y H Q => ∃ (z : Str) (r : Option Value), x = .str z ∧ y = .ref d ∧ PySem.W.nsIn K d z = some r ∧ Q (.bl (!r.isSome)) H := by
  subst e
  subst e2
  exact op_notIn_kd D
theorem ip_or : PIp X .BitOr (rI0 fun i j => .int (Builtin.bitOr i j)) := iop_or
theorem ip_add : PIp X .Add (rI0 fun i j => .int (i + j)) := iop_add
theorem lenSetK (K : PySem.W.Frag) {a : Expr} {ta : TE} {p p2 q pos : Pos} (hc : X.calm = true) (hg : Gl X "len") (hm : X.mg "len" = none) (hg2 : Gl X "set") (hm2 : X.mg "set" = none) (ha : PE X a ta) (na : starEach [a] X.env = (false, eval a X.env) :: starEach [] X.env := by rfl) (e : X.K = K := by rfl) : PE X (.Call (.Name "len" p) [.Call (.Name "set" p2) [a] [] q] [] pos) (tLenSetS K ta) := e ▸ pe_lenSetS hc hg hm hg2 hm2 ha na
end
abbrev sTake : Stmt := top 18
structure TN (mg : Str → Option Value) : Prop where
  ln : ∃ t, mg "LONGEST_NAME" = some (.int 8 t)
  me : ∃ t, mg "MOST_EDITION" = some (.int 99 t)
  mb : ∃ t, mg "MOST_BASES" = some (.int 6 t)
  ke : mg "KeyError" = none
structure LtD (K : PySem.W.Frag) (w : World) (mg : Str → Option Value) (dL : Addr) (es : Array DictEntry) (n : Nat) : Prop where
  g : mg "IS_LETTER" = some (.ref dL)
  kd : KDict K w dL es n
  has : ∀ z : Str, ∃ r, PySem.W.nsIn K dL z = some r ∧ r.isSome = isLet z
def spTake : Sp := fun vs H Q _ => ∃ (a p q : Addr) (xs : List V) (ds : List PyData), vs = [.ref a, .ref p, .ref q] ∧ H a = some (.tup xs) ∧ DqAll H xs ds ∧ ds.length ≤ 24 ∧ bndDs ds = true ∧ H p = some (.dK []) ∧ H q = some (.dK []) ∧ p ≠ q ∧
  ∃ H0 : Hp, Same H0 H ∧ H0 p = none ∧ H0 q = none ∧ H0 a = some (.tup xs) ∧ DqAll H0 xs ds ∧ ∀ H', Same H0 H' → H' p = some (.dK (rchK (aheadB ds [] 1))) → H' q = some (.dK (nmT (firsts ((aheadB ds [] 1).map Rk.mr)))) → Q (.int ((rootsF (aheadB ds [] 1) 0 : Nat) : Int)) H'
abbrev nTake : List Str := ["kinds", "reached", "marks", "roots", "own", "least", "kind", "name", "edition", "bases", "letter", "mark", "bits", "base", "many"]
def exB0 (a b : String) : Option Bool := if ((PySem.fastBuiltinMro b).map (·.contains (Value.type "BaseException")) == some true) = true then (if PySem.W.kitMeta b = true then (PySem.fastBuiltinMro a).map (·.contains (Value.type b)) else none) else none
theorem kE (K : PySem.W.Frag) : PySem.W.exmOne K (.type "KeyError") (.type "KeyError") = some true := (by decide +kernel : exB0 "KeyError" "KeyError" = some true)
section
variable {P : Program} {w : World} {K : PySem.W.Frag} {mg : Str → Option Value} {base : Heap}
theorem scTake : FnScope nTake ["kinds", "reached", "marks"] (defScope sTake) := ⟨rfl, rfl, rfl, by decide +kernel, rfl, by decide +kernel, by decide +kernel⟩
theorem ok_take {f : Addr} {fd : FuncData} {dL : Addr} {es : Array DictEntry} {n : Nat} (F : Fun K "_take_kinds" "_take_kinds" sTake f fd) (T : TP mg) (U : TN mg) (D : LtD K w mg dL es n) : FnOk P w K mg base CX0 1 f fd ["kinds", "reached", "marks"] spTake := by
  refine F.ok scTake (fun vs H Q E h => ?_) (fun cdv A outer s H vs Q E hr h => ?_)
  · obtain ⟨a, p, q, xs, ds, rfl, _⟩ := h; rfl
  · obtain ⟨a, p, q, xs, ds, rfl, ha, hall, h24, hbd, hp, hq, npq, H0, s0, hp0, hq0, ha0, hall0, k⟩ := h
    have nd := scTake.nd
    have hu := hu_of hr
    refine ⟨_, (pss_cons (ps_set (i := 3) nd rfl (.inl rfl) pe_int)
      (pss_cons (ps_set (i := 4) nd rfl (.inl rfl) pe_int)
      (pss_cons (ps_set (i := 5) nd rfl (.inl rfl) pe_int)
      (pss_cons (ps_try_only (c := .type "KeyError") rfl rfl ⟨rfl, by decide, .inr ⟨U.ke, by decide +kernel, by decide⟩⟩ takes0 (fun W pn xe tk po =>
        (pss_one (ps_for po rfl (pi_tupK K (pv 0)) (pg_name (i := 6) nd rfl (.inl rfl))
          (pss_cons (ps_if (PW.pt (pw_or (pt_not (pt_val (pe_callB (isiK K) (by rfl) T.isinstance (by decide +kernel) (pa_cons (pv 6) (pa_cons (pe_bltn (v := .ty "tuple") (u := .type "tuple") (by rfl) T.tuple (by decide +kernel) rfl) pa_nil)))))
            (pw_or1 (pt_cmpR op_ne (pe_callB (lenK K) (by rfl) T.len PySem.boot_len (pa_cons (pv 6) pa_nil)) pe_int (nomark _))))) (pss_one ps_break) pss_nil)
          (pss_cons (ps_asg (pv 6) (pg_tupK K (n := 5) (by rfl) (pgs_cons (pg_name (i := 7) nd rfl (.inl rfl)) (pgs_cons (pg_name (i := 8) nd rfl (.inl rfl)) (pgs_cons (pg_name (i := 9) nd rfl (.inl rfl)) (pgs_cons (pg_name (i := 10) nd rfl (.inl rfl)) (pgs_cons (pg_name (i := 11) nd rfl (.inl rfl)) pgs_nil)))))))
          (pss_cons (ps_if (PW.pt (pw_or (pt_not (pt_val (pe_callB (isiK K) (by rfl) T.isinstance (by decide +kernel) (pa_cons (pv 7) (pa_cons (pe_bltn (v := .ty "str") (u := .type "str") (by rfl) T.str (by decide +kernel) rfl) pa_nil)))))
            (pw_or (pt_cmpR op_gt (pe_callB call_len_str (by rfl) T.len PySem.boot_len (pa_cons (pv 7) pa_nil)) (pe_glob (v := .int 8) (by rfl) U.ln.choose_spec ⟨_, rfl⟩) (nomark _))
            (pw_or1 (pt_cmp (pc_din hu (pv 7) (pv 1))))))) (pss_one ps_break) pss_nil)
          (pss_cons (ps_if (PW.pt (pw_or (pt_not (pt_val (pe_callB (isiK K) (by rfl) T.isinstance (by decide +kernel) (pa_cons (pv 8) (pa_cons (pe_bltn (v := .ty "int") (u := .type "int") (by rfl) T.int (by decide +kernel) rfl) pa_nil)))))
            (pw_or (pt_cmpR op_isE (pv 8) pe_bl (nomark _)) (pw_or1 (pt_not (pt_chain op_leE op_le (pv 5) (pv 8) (pe_glob (v := .int 99) (by rfl) U.me.choose_spec ⟨_, rfl⟩))))))) (pss_one ps_break) pss_nil)
          (pss_cons (ps_if (PW.pt (pw_or (pt_not (pt_val (pe_callB (isiK K) (by rfl) T.isinstance (by decide +kernel) (pa_cons (pv 10) (pa_cons (pe_bltn (v := .ty "str") (u := .type "str") (by rfl) T.str (by decide +kernel) rfl) pa_nil)))))
            (pw_or1 (pt_cmpR (notIn_kdK K D.kd) (pv 10) (pe_glob (u := .ref dL) (v := .ref dL) (by rfl) D.g rfl) (by rfl))))) (pss_one ps_break) pss_nil)
          (pss_cons (ps_if (PW.pt (pw_or (pt_not (pt_val (pe_callB (isiK K) (by rfl) T.isinstance (by decide +kernel) (pa_cons (pv 11) (pa_cons (pe_bltn (v := .ty "str") (u := .type "str") (by rfl) T.str (by decide +kernel) rfl) pa_nil)))))
            (pw_or1 (pt_not (pt_val (pe_callB (isiK K) (by rfl) T.isinstance (by decide +kernel) (pa_cons (pv 9) (pa_cons (pe_bltn (v := .ty "tuple") (u := .type "tuple") (by rfl) T.tuple (by decide +kernel) rfl) pa_nil)))))))) (pss_one ps_break) pss_nil)
          (pss_cons (ps_set (i := 12) nd rfl (.inl rfl) (pv 4))
          (pss_cons (ps_if (pt_truthK K (pv 9) (fun _ => rfl))
            (pss_cons (ps_for po rfl (pi_tupK K (pv 9)) (pg_name (i := 13) nd rfl (.inl rfl))
              (pss_cons (ps_if (pt_not (pt_val (pe_callB (isiK K) (by rfl) T.isinstance (by decide +kernel) (pa_cons (pv 13) (pa_cons (pe_bltn (v := .ty "str") (u := .type "str") (by rfl) T.str (by decide +kernel) rfl) pa_nil))))) (pss_one (ps_ret (pv 3))) pss_nil)
              (pss_one (ps_aug (i := 12) nd rfl (.inl rfl) (pe_dgetX (by rfl) hu tk (pv 1) (pv 13) (fun _ _ => rfl)) ip_or))))
            (pss_cons (ps_set (i := 14) nd rfl (.inl rfl) (pe_callB (lenK K) (by rfl) T.len PySem.boot_len (pa_cons (pv 9) pa_nil)))
            (pss_one (ps_if (PW.pt (pw_and (pt_cmpR op_gt (pv 14) pe_int (nomark _)) (pw_and1 (PW.pt (pw_or (pt_cmpR op_gt (pv 14) (pe_glob (v := .int 6) (by rfl) U.mb.choose_spec ⟨_, rfl⟩) (nomark _))
              (pw_or1 (pt_cmpR op_lt (lenSetK K rfl (by rfl) T.len (by rfl) T.set (pv 9)) (pv 14) (nomark _)))))))) (pss_one ps_break) pss_nil))))
            (pss_one (ps_aug (i := 3) nd rfl (.inl rfl) (pv 4) ip_or)))
          (pss_cons (ps_dput hu (pv 1) (pv 7) (pv 12) rfl)
          (pss_cons (ps_dput hu (pv 2) (pv 11) pe_bl rfl)
          (pss_cons (ps_aug (i := 4) nd rfl (.inl rfl) (pv 4) ip_add)
          (pss_one (ps_set (i := 5) nd rfl (.inl rfl) (pv 8)))))))))))))))))
        (fun a oe cls d pn _ _ => pss_one (ps_ret (pv 3))))
      (pss_one (ps_ret (pv 3))))))), ?_⟩
    have hxl := dq_len hall0
    refine ⟨_, rfl, a, rfl, ⟨_, SqT.of ha⟩, for_tup (K := K) (a := a) (xs := xs) (fun j σ H' => Same H0 H' ∧ ∃ (pre : List Rk) (le : Int), 1 ≤ le ∧ pre.length = j ∧ H' p = some (.dK (rchK pre)) ∧ H' q = some (.dK (nmT (firsts (pre.map Rk.mr)))) ∧ aheadB ds [] 1 = pre ++ aheadB (ds.drop j) pre le ∧
        ∃ (w6 w7 w8 w9 w10 w11 w12 w13 w14 : Option V), σ = [some (.ref a), some (.ref p), some (.ref q), some (.int ((rootsF pre 0 : Nat) : Int)), some (.int ((2 ^ j : Nat) : Int)), some (.int le), w6, w7, w8, w9, w10, w11, w12, w13, w14])
      ⟨s0, [], 1, by decide, rfl, hp, hq, rfl, none, none, none, none, none, none, none, none, none, rfl⟩ (fun j σ H' _ ⟨s, _⟩ => SqT.of (s _ _ ha0)) ?_ ?_⟩
    · rintro j y σ H2 hj ⟨s2, pre, le, hle, hpl, h2, h2q, hA, w6, w7, w8, w9, w10, w11, w12, w13, w14, rfl⟩
      obtain ⟨d, hdj, hqd⟩ := dq_at j hall0 hj
      have hjl := (List.getElem?_eq_some_iff.mp hdj).1
      have hdr : ds.drop j = d :: ds.drop (j + 1) := by
        rw [List.drop_eq_getElem_cons hjl, (List.getElem?_eq_some_iff.mp hdj).2]
      have hq2 := Dq.same s2 hqd
      have hbj := bndDs_all hbd d (List.mem_of_getElem? hdj)
      have stop : stepB (pre.map Rk.nm) le d = none → Q (.int ((rootsF pre 0 : Nat) : Int)) H2 := fun e => by
        have e2 : aheadB ds [] 1 = pre := by rw [hA, hdr]; unfold aheadB; rw [e]; exact List.append_nil _
        have := k H2 s2 (by rw [e2]; exact h2) (by rw [e2]; exact h2q)
        rw [e2] at this
        exact this
      refine ⟨_, rfl, _, _, _, _, isTup d, rfl, ClsV.ty "tuple", hq2.ty, kTup K d, _, rfl, ?_⟩
      cases hq2 with
      | non => exact iteT (iteT ⟨_, rfl, stop rfl⟩)
      | bl b => exact iteT (iteT ⟨_, rfl, stop rfl⟩)
      | int i => exact iteT (iteT ⟨_, rfl, stop rfl⟩)
      | str x => exact iteT (iteT ⟨_, rfl, stop rfl⟩)
      | lst a b => exact iteT (iteT ⟨_, rfl, stop rfl⟩)
      | dct a => exact iteT (iteT ⟨_, rfl, stop rfl⟩)
      | @tup r ys dk hqt hqa =>
      refine iteF ?_
      have hyl := dq_len hqa
      refine ⟨_, rfl, r, _, rfl, .inr (SqT.of hqt), rfl, _, rfl, ?_⟩
      by_cases h5 : dk.length = 5
      rotate_left
      · have e5 : decide (V.int ((ys.length : Nat) : Int) = V.int 5) = false := decide_eq_false fun z => h5 (by have := V.int.inj z; omega)
        rw [e5]
        refine iteT ⟨_, rfl, stop ?_⟩
        match dk, h5 with
        | [], _ => rfl
        | [_], _ => rfl
        | [_, _], _ => rfl
        | [_, _, _], _ => rfl
        | [_, _, _, _], _ => rfl
        | [_, _, _, _, _], h => exact absurd rfl h
        | _ :: _ :: _ :: _ :: _ :: _ :: _, _ => rfl
      have e5 : decide (V.int ((ys.length : Nat) : Int) = V.int 5) = true := decide_eq_true (by rw [hyl, h5]; rfl)
      rw [e5]
      refine iteF ?_
      match dk, ys, h5, hyl, hqa, hqt, stop, hdr, hdj, hbj with
      | [dn, de, db, dl, dm], [vn, ve, vb, vl, vm], _, _, .cons qn (.cons qe (.cons qb (.cons ql (.cons qm .nil)))), hqt, stop, hdr, hdj, hbj =>
      refine ⟨_, rfl, r, _, rfl, SqT.of hqt, rfl, _, _, rfl, _, _, rfl, _, _, rfl, _, _, rfl, _, _, rfl, rfl, ?_⟩
      -- its name
      refine ⟨_, rfl, _, _, _, _, isStr dn, rfl, ClsV.ty "str", qn.ty, kStr K dn, _, rfl, ?_⟩
      cases qn with
      | non => exact iteT (iteT ⟨_, rfl, stop rfl⟩)
      | bl b => exact iteT (iteT ⟨_, rfl, stop rfl⟩)
      | int i => exact iteT (iteT ⟨_, rfl, stop rfl⟩)
      | lst a b => exact iteT (iteT ⟨_, rfl, stop rfl⟩)
      | tup a b => exact iteT (iteT ⟨_, rfl, stop rfl⟩)
      | dct a => exact iteT (iteT ⟨_, rfl, stop rfl⟩)
      | str nn =>
      refine iteF ?_
      have z1 : (1000 : Nat) ≤ sizeLine := by decide
      simp only [bndD, bndDs, Bool.and_eq_true, decide_eq_true_eq] at hbj
      obtain ⟨bn, be, bb, bl_, bm, _⟩ := hbj
      refine ⟨_, rfl, _, rfl, by omega, _, _, rfl, rfl, _, rfl, ?_⟩
      by_cases h2' : nn.length ≤ 8
      rotate_left
      · rw [decide_eq_true (show (8 : Int) < (nn.length : Int) by omega)]
        exact iteT (iteT ⟨_, rfl, stop (stepB_no fun e l m _ _ _ => by unfold okHeadB; rw [decide_eq_false h2', Bool.false_and])⟩)
      rw [decide_eq_false (show ¬ (8 : Int) < (nn.length : Int) by omega)]
      refine iteF ?_
      refine ⟨_, rfl, _, rfl, p, _, rfl, DGet.k (k := kx nn) h2, _, rfl, ?_⟩
      by_cases h3 : nn ∈ pre.map Rk.nm
      · rw [rch_get h3]
        exact iteT ⟨_, rfl, stop (stepB_no fun e l m _ _ _ => by unfold okHeadB; rw [decide_eq_true h3]; simp)⟩
      rw [rch_none h3]
      refine iteF ?_
      -- its edition
      refine ⟨_, rfl, _, _, _, _, isInt de, rfl, ClsV.ty "int", qe.ty, kInt K de, _, rfl, ?_⟩
      cases qe with
      | non => exact iteT (iteT ⟨_, rfl, stop rfl⟩)
      | str x => exact iteT (iteT ⟨_, rfl, stop rfl⟩)
      | lst a b => exact iteT (iteT ⟨_, rfl, stop rfl⟩)
      | tup a b => exact iteT (iteT ⟨_, rfl, stop rfl⟩)
      | dct a => exact iteT (iteT ⟨_, rfl, stop rfl⟩)
      | bl b =>
        refine iteF ?_
        refine ⟨_, rfl, true, rfl, .inr ⟨b, rfl, _, rfl, ?_⟩⟩
        cases b with
        | true => exact iteT (iteT ⟨_, rfl, stop rfl⟩)
        | false =>
          refine iteF ?_
          refine ⟨_, rfl, _, rfl, _, rfl, .inr ⟨false, rfl, _, rfl, ?_⟩⟩
          rw [decide_eq_false (show ¬ le ≤ (if false = true then (1 : Int) else 0) by rw [if_neg (by decide)]; omega)]
          exact iteF ⟨_, rfl, iteT ⟨_, rfl, stop rfl⟩⟩
      | int e =>
      refine iteF ?_
      refine ⟨_, rfl, true, rfl, .inl ⟨e, rfl, _, rfl, ?_⟩⟩
      refine iteF ?_
      refine ⟨_, rfl, _, rfl, _, rfl, .inl ⟨e, rfl, _, rfl, ?_⟩⟩
      by_cases h4 : le ≤ e
      rotate_left
      · rw [decide_eq_false h4]
        exact iteF ⟨_, rfl, iteT ⟨_, rfl, stop (stepB_no fun e' l m z _ _ => by cases z; unfold okHeadB; rw [decide_eq_false h4]; simp)⟩⟩
      rw [decide_eq_true h4]
      refine iteT ?_
      refine ⟨_, _, rfl, rfl, _, rfl, ?_⟩
      by_cases h5' : e ≤ 99
      rotate_left
      · rw [decide_eq_false h5']
        exact iteT ⟨_, rfl, stop (stepB_no fun e' l m z _ _ => by cases z; unfold okHeadB; rw [decide_eq_false h5']; simp)⟩
      rw [decide_eq_true h5']
      refine iteF ?_
      -- its letter
      refine ⟨_, rfl, _, _, _, _, isStr dl, rfl, ClsV.ty "str", ql.ty, kStr K dl, _, rfl, ?_⟩
      cases ql with
      | non => exact iteT (iteT ⟨_, rfl, stop rfl⟩)
      | bl b => exact iteT (iteT ⟨_, rfl, stop rfl⟩)
      | int i => exact iteT (iteT ⟨_, rfl, stop rfl⟩)
      | lst a b => exact iteT (iteT ⟨_, rfl, stop rfl⟩)
      | tup a b => exact iteT (iteT ⟨_, rfl, stop rfl⟩)
      | dct a => exact iteT (iteT ⟨_, rfl, stop rfl⟩)
      | str l =>
      refine iteF ?_
      obtain ⟨rL, hL1, hL2⟩ := D.has l
      refine ⟨_, rfl, l, rL, rfl, rfl, hL1, _, rfl, ?_⟩
      rw [hL2]
      by_cases h6 : isLet l = true
      rotate_left
      · rw [Bool.not_eq_true] at h6
        rw [h6]
        exact iteT ⟨_, rfl, stop (stepB_no fun e' l' m z z2 _ => by cases z; cases z2; unfold okHeadB; rw [h6]; simp)⟩
      rw [h6]
      refine iteF ?_
      -- its mark and its bases
      refine ⟨_, rfl, _, _, _, _, isStr dm, rfl, ClsV.ty "str", qm.ty, kStr K dm, _, rfl, ?_⟩
      cases qm with
      | non => exact iteT (iteT ⟨_, rfl, stop rfl⟩)
      | bl b => exact iteT (iteT ⟨_, rfl, stop rfl⟩)
      | int i => exact iteT (iteT ⟨_, rfl, stop rfl⟩)
      | lst a b => exact iteT (iteT ⟨_, rfl, stop rfl⟩)
      | tup a b => exact iteT (iteT ⟨_, rfl, stop rfl⟩)
      | dct a => exact iteT (iteT ⟨_, rfl, stop rfl⟩)
      | str m =>
      refine iteF ?_
      have noB : basesB (pre.map Rk.nm) db = false → stepB (pre.map Rk.nm) le (.tuple [.str nn, .int e, db, .str l, .str m]) = none := fun h => stepB_no fun e' l' m' z z2 z3 => by
        cases z
        cases z2
        cases z3
        unfold okHeadB
        rw [h]
        simp
      refine ⟨_, rfl, _, _, _, _, isTup db, rfl, ClsV.ty "tuple", qb.ty, kTup K db, _, rfl, ?_⟩
      cases qb with
      | non => exact iteT ⟨_, rfl, stop (noB rfl)⟩
      | bl b => exact iteT ⟨_, rfl, stop (noB rfl)⟩
      | int i => exact iteT ⟨_, rfl, stop (noB rfl)⟩
      | str x => exact iteT ⟨_, rfl, stop (noB rfl)⟩
      | lst a b => exact iteT ⟨_, rfl, stop (noB rfl)⟩
      | dct a => exact iteT ⟨_, rfl, stop (noB rfl)⟩
      | @tup rb bx dk hbt hba =>
      refine iteF ?_
      have hbl := dq_len hba
      have nB : ∀ b : Bool, basesB (pre.map Rk.nm) (.tuple dk) = b → (decide (dk.length ≤ 6) && (dk.all (strIn (pre.map Rk.nm)) && decide ((dk.map strOf).Nodup))) = b := fun b h => h
      -- what is kept
      have hlen : pre.length < 24 := by omega
      have z24 : (24 : Nat) ≤ sizeLine := by decide
      generalize hR : newR pre nn m (dk.map strOf) = R
      have hRn : R.nm = nn := by rw [← hR]; rfl
      have hRm : R.mr = m := by rw [← hR]; rfl
      have hRb : R.bt = bitsB pre (dk.map strOf) := by rw [← hR]; rfl
      have hRs : R.sr = (dk.map strOf).isEmpty := by rw [← hR]; rfl
      have dp1 := DPut.k (k := kx nn) (v := .int ((R.bt : Nat) : Int)) h2 (by rw [rch_len]; omega)
      have hput : putK (rchK pre) (kx nn) (.int ((R.bt : Nat) : Int)) = rchK (pre ++ [R]) := by
        have := rch_put (rs := pre) (r := R) (by rw [hRn]; exact h3)
        rwa [hRn] at this
      rw [hput] at dp1
      have h2q' : upd H2 p (.dK (rchK (pre ++ [R]))) q = some (.dK (nmT (firsts (pre.map Rk.mr)))) := by rw [upd_ne (Ne.symm npq)]; exact h2q
      have dp2 := DPut.k (k := kx m) (v := .bl true) h2q' (by
        have h1 := firsts_le (pre.map Rk.mr)
        rw [List.length_map] at h1
        show (List.map _ _).length < _
        rw [List.length_map]
        omega)
      rw [nmT_grow, ← firsts_snoc] at dp2
      have hmm : pre.map Rk.mr ++ [m] = (pre ++ [R]).map Rk.mr := by rw [List.map_append, ← hRm]; rfl
      rw [hmm] at dp2
      have s4 : Same H0 (upd (upd H2 p (.dK (rchK (pre ++ [R])))) q (.dK (nmT (firsts ((pre ++ [R]).map Rk.mr))))) := fun b o e' => by
        rw [upd_ne (ne_of_none e' hq0), upd_ne (ne_of_none e' hp0)]
        exact s2 _ _ e'
      have h4p : upd (upd H2 p (.dK (rchK (pre ++ [R])))) q (.dK (nmT (firsts ((pre ++ [R]).map Rk.mr)))) p = some (.dK (rchK (pre ++ [R]))) := by rw [upd_ne npq]; exact upd_same
      have h4q : upd (upd H2 p (.dK (rchK (pre ++ [R])))) q (.dK (nmT (firsts ((pre ++ [R]).map Rk.mr)))) q = some (.dK (nmT (firsts ((pre ++ [R]).map Rk.mr)))) := upd_same
      generalize upd (upd H2 p (.dK (rchK (pre ++ [R])))) q (.dK (nmT (firsts ((pre ++ [R]).map Rk.mr)))) = H4 at dp2 s4 h4p h4q
      have hP : basesB (pre.map Rk.nm) (.tuple dk) = true → ∀ (w6 w7 w8 w9 w10 w11 w12 w13 w14 : Option V) (rt ow : Int), rt = ((rootsF (pre ++ [R]) 0 : Nat) : Int) → ow = ((2 ^ (j + 1) : Nat) : Int) → Same H0 H4 ∧ ∃ (pre' : List Rk) (le' : Int), 1 ≤ le' ∧ pre'.length = j + 1 ∧ H4 p = some (.dK (rchK pre')) ∧ H4 q = some (.dK (nmT (firsts (pre'.map Rk.mr)))) ∧ aheadB ds [] 1 = pre' ++ aheadB (ds.drop (j + 1)) pre' le' ∧
          ∃ (w6' w7' w8' w9' w10' w11' w12' w13' w14' : Option V), [some (V.ref a), some (V.ref p), some (V.ref q), some (V.int rt), some (V.int ow), some (V.int e), w6, w7, w8, w9, w10, w11, w12, w13, w14] = [some (V.ref a), some (V.ref p), some (V.ref q), some (V.int ((rootsF pre' 0 : Nat) : Int)), some (V.int ((2 ^ (j + 1) : Nat) : Int)), some (V.int le'), w6', w7', w8', w9', w10', w11', w12', w13', w14'] := by
        intro hb w6 w7 w8 w9 w10 w11 w12 w13 w14 rt ow hrt how
        subst hrt how
        refine ⟨s4, pre ++ [R], e, by omega, by rw [List.length_append, hpl]; rfl, h4p, h4q, ?_, _, _, _, _, _, _, _, _, _, rfl⟩
        have hok : okHeadB (pre.map Rk.nm) le nn e l (.tuple dk) = true := by
          unfold okHeadB
          rw [decide_eq_true h2', decide_eq_false h3, decide_eq_true h4, decide_eq_true h5', h6, hb]
          rfl
        have hst : stepB (pre.map Rk.nm) le (.tuple [.str nn, .int e, .tuple dk, .str l, .str m]) = some (nn, e, m, dk.map strOf) := if_pos hok
        rw [hA, hdr, List.append_assoc]
        conv => lhs; rw [aheadB.eq_def]
        simp only [hst, hR]
        rfl
      refine ⟨_, rfl, ?_⟩
      refine ⟨_, rfl, !bx.isEmpty, .inr (.inl ⟨bx, SqT.of hbt, rfl⟩), ?_⟩
      have ow2 : ((2 ^ j : Nat) : Int) + ((2 ^ j : Nat) : Int) = ((2 ^ (j + 1) : Nat) : Int) := by rw [Nat.pow_succ]; omega
      cases bx with
      | nil =>
        have hd0 : dk = [] := List.eq_nil_of_length_eq_zero (by rw [← hbl]; rfl)
        refine iteF ?_
        refine ⟨_, rfl, _, rfl, _, _, rfl, rfl, ?_⟩
        have eb : ((2 ^ j : Nat) : Int) = ((R.bt : Nat) : Int) := by rw [hRb, hd0, ← hpl]; rfl
        rw [← eb] at dp1
        refine ⟨_, rfl, _, rfl, _, rfl, p, _, rfl, dp1, ?_⟩
        refine ⟨_, rfl, _, rfl, q, _, rfl, dp2, ?_⟩
        refine ⟨_, rfl, _, rfl, _, _, rfl, rfl, _, rfl, hP (by rw [hd0]; rfl) _ _ _ _ _ _ _ _ _ _ _ ?_ ow2⟩
        rw [rootsF_snoc, if_pos (by rw [hRs, hd0]; rfl), Nat.zero_add, hpl, bitOr_nn (Int.natCast_nonneg _) (Int.natCast_nonneg _), Int.toNat_natCast, Int.toNat_natCast]
      | cons b0 br =>
        have hd0 : dk ≠ [] := fun e' => by rw [e'] at hbl; cases hbl
        refine iteT ?_
        refine ⟨_, rfl, rb, rfl, ⟨_, SqT.of hbt⟩, for_tup (K := K) (a := rb) (xs := b0 :: br) (fun i σ H' => H' = H2 ∧ (dk.take i).all (strIn (pre.map Rk.nm)) = true ∧ ∃ w13 : Option V, σ = [some (.ref a), some (.ref p), some (.ref q), some (.int ((rootsF pre 0 : Nat) : Int)), some (.int ((2 ^ j : Nat) : Int)), some (.int le), some (.ref r), some (.str nn), some (.int e), some (.ref rb), some (.str l), some (.str m), some (.int ((bitsB pre ((dk.take i).map strOf) : Nat) : Int)), w13, w14])
          ⟨rfl, rfl, w13, by rw [← hpl]; rfl⟩ (fun i σ H' _ ⟨h, _⟩ => by rw [h]; exact SqT.of hbt) ?_ ?_⟩
        · rintro i y σ H3 hi ⟨rfl, hall3, w13', rfl⟩
          obtain ⟨db', hdbi, hqbi⟩ := dq_at i hba hi
          have allF : strIn (pre.map Rk.nm) db' = false → basesB (pre.map Rk.nm) (.tuple dk) = false := fun h => by
            have : dk.all (strIn (pre.map Rk.nm)) = false := by
              rw [Bool.eq_false_iff]
              intro z
              rw [List.all_eq_true] at z
              rw [z _ (List.mem_of_getElem? hdbi)] at h
              cases h
            show (decide (dk.length ≤ 6) && (dk.all (strIn (pre.map Rk.nm)) && decide ((dk.map strOf).Nodup))) = false
            rw [this, Bool.false_and, Bool.and_false]
          refine ⟨_, rfl, _, _, _, _, isStr db', rfl, ClsV.ty "str", hqbi.ty, kStr K db', _, rfl, ?_⟩
          cases hqbi with
          | non => exact iteT ⟨_, rfl, stop (noB (allF rfl))⟩
          | bl b => exact iteT ⟨_, rfl, stop (noB (allF rfl))⟩
          | int i => exact iteT ⟨_, rfl, stop (noB (allF rfl))⟩
          | lst a b => exact iteT ⟨_, rfl, stop (noB (allF rfl))⟩
          | tup a b => exact iteT ⟨_, rfl, stop (noB (allF rfl))⟩
          | dct a => exact iteT ⟨_, rfl, stop (noB (allF rfl))⟩
          | str x =>
          refine iteF ?_
          refine ⟨_, rfl, _, rfl, _, rfl, p, _, rfl, DGet.k (k := kx x) h2, fun v hv => ?_, fun hn d => ?_⟩
          · have hx : x ∈ pre.map Rk.nm := by
              refine Classical.byContradiction fun z => ?_
              rw [rch_none z] at hv
              cases hv
            rw [rch_get hx] at hv
            cases hv
            refine ⟨_, _, rfl, rfl, rfl, ?_, some (V.str x), ?_⟩
            · rw [take_snoc hdbi, List.all_append, hall3, Bool.true_and]
              show (decide (x ∈ pre.map Rk.nm) && true) = true
              rw [decide_eq_true hx]
              rfl
            · rw [take_snoc hdbi, List.map_append]
              show _ = [_, _, _, _, _, _, _, _, _, _, _, _, some (V.int ((bitsB pre (List.map strOf (List.take i dk) ++ [x]) : Nat) : Int)), _, _]
              rw [bitsB_snoc]; dsimp only; rw [bitOr_nn (Int.natCast_nonneg _) (Int.natCast_nonneg _), Int.toNat_natCast, Int.toNat_natCast]
              rfl
          · refine ⟨true, kE K, fun _ a2 ha2 => ⟨_, rfl, stop (noB (allF ?_))⟩, fun z => nomatch z⟩
            show decide (x ∈ pre.map Rk.nm) = false
            refine decide_eq_false fun z => ?_
            rw [rch_get z] at hn
            cases hn
        · rintro σ H3 ⟨rfl, hall3, w13', rfl⟩
          rw [hbl, List.take_of_length_le (Nat.le_refl _)] at hall3
          rw [hbl, List.take_of_length_le (Nat.le_refl _), ← hRb]
          refine ⟨_, rfl, rb, _, rfl, .inr (SqT.of hbt), ?_⟩
          have hstr : (b0 :: br) = (dk.map strOf).map V.str := dq_strs hba hall3
          have fin : basesB (pre.map Rk.nm) (.tuple dk) = true → ∀ w14, _ := fun hb w14 => hP hb (some (.ref r)) (some (.str nn)) (some (.int e)) (some (.ref rb)) (some (.str l)) (some (.str m)) (some (.int ((R.bt : Nat) : Int))) w13' w14 ((rootsF pre 0 : Nat) : Int) _ (by
            rw [rootsF_snoc, if_neg (by rw [hRs]; cases dk with
              | nil => exact absurd rfl hd0
              | cons _ _ => exact Bool.false_ne_true), Nat.or_zero]) ow2
          have hbB : basesB (pre.map Rk.nm) (.tuple dk) = (decide (dk.length ≤ 6) && decide ((dk.map strOf).Nodup)) := by
            show (decide (dk.length ≤ 6) && (dk.all (strIn (pre.map Rk.nm)) && decide ((dk.map strOf).Nodup))) = _
            rw [hall3, Bool.true_and]
          refine ⟨_, rfl, _, _, rfl, rfl, _, rfl, ?_⟩
          by_cases h1 : (1 : Int) < (((b0 :: br).length : Nat) : Int)
          rotate_left
          · rw [decide_eq_false h1]
            refine iteF (iteF ?_)
            have hb : basesB (pre.map Rk.nm) (.tuple dk) = true := by
              rw [hbB]
              match dk, hd0, hbl with
              | [x], _, _ => simp
              | _ :: _ :: _, _, h => rw [h] at h1; simp only [List.length_cons] at h1; omega
            refine ⟨_, rfl, _, rfl, _, rfl, p, _, rfl, dp1, ?_⟩
            refine ⟨_, rfl, _, rfl, q, _, rfl, dp2, ?_⟩
            exact ⟨_, rfl, _, rfl, _, _, rfl, rfl, _, rfl, fin hb _⟩
          rw [decide_eq_true h1]
          refine iteT ?_
          refine ⟨_, rfl, _, _, rfl, rfl, _, rfl, ?_⟩
          by_cases h6' : (6 : Int) < (((b0 :: br).length : Nat) : Int)
          · rw [decide_eq_true h6']
            refine iteT (iteT ⟨_, rfl, stop (noB ?_)⟩)
            rw [hbB, decide_eq_false (by rw [← hbl]; omega), Bool.false_and]
          rw [decide_eq_false h6']
          refine iteF ?_
          refine ⟨_, rfl, rb, dk.map strOf, rfl, by rw [← hstr]; exact SqT.of hbt, by rw [List.length_map, ← hbl]; omega, _, rfl, _, _, rfl, rfl, _, rfl, ?_⟩
          have hnd : decide ((((firsts (dk.map strOf)).length : Nat) : Int) < (((b0 :: br).length : Nat) : Int)) = !decide ((dk.map strOf).Nodup) := by
            have h7 := firsts_le (dk.map strOf)
            have h8 := firsts_nd (dk.map strOf)
            rw [List.length_map] at h7 h8
            by_cases z : (dk.map strOf).Nodup
            · rw [decide_eq_true z, decide_eq_false (by rw [hbl, h8.mpr z]; omega)]
              rfl
            · rw [decide_eq_false z, decide_eq_true (by
                have : (firsts (dk.map strOf)).length ≠ dk.length := fun q => z (h8.mp q)
                rw [hbl]
                omega)]
              rfl
          rw [hnd]
          by_cases z : (dk.map strOf).Nodup
          · rw [decide_eq_true z]
            refine iteF ?_
            refine ⟨_, rfl, _, rfl, _, rfl, p, _, rfl, dp1, ?_⟩
            refine ⟨_, rfl, _, rfl, q, _, rfl, dp2, ?_⟩
            exact ⟨_, rfl, _, rfl, _, _, rfl, rfl, _, rfl, fin (by rw [hbB, decide_eq_true z, Bool.and_true]; exact decide_eq_true (by rw [← hbl]; omega)) _⟩
          · rw [decide_eq_false z]
            refine iteT ⟨_, rfl, stop (noB ?_)⟩
            rw [hbB, decide_eq_false z, Bool.and_false]
    · rintro σ H2 ⟨s2, pre, le, hle, hpl, h2, h2q, hA, w6, w7, w8, w9, w10, w11, w12, w13, w14, rfl⟩
      have e2 : aheadB ds [] 1 = pre := by rw [hA, hxl, List.drop_of_length_le (Nat.le_refl _)]; exact List.append_nil _
      have := k H2 s2 (by rw [e2]; exact h2) (by rw [e2]; exact h2q)
      rw [e2] at this
      exact ⟨_, rfl, this⟩
end
end Cp

set_option Elab.async false
set_option linter.all false
set_option maxRecDepth 100000
/-! ### enumerate(a dict) -/
namespace Cp
open PySem PySem.Spec PyProof.Rows
open Sem (wp)
open AutoSeq1 (wpAny_loadPart')
abbrev itK (d : Addr) (n ep : Nat) : Obj := { cls := .type "dict_keyiterator", data := .fields #[.ref d, .int 0 0, .int n 0, .int ep 0] }
section
variable {prog : Program} {w : World} {A : Around} {E : Value → Shared → Prop} {s : Shared} {it d : Addr} {i ep : Nat} {KT : Type} [DecidableEq KT] {knd : KeyKind prog w KT} {kvs : List (KT × Value)} {k : KT} {x : Value}
theorem nextOf_key_item {Q : Value → Shared → Prop} (hit : s.heap.IsKeyIter it d i kvs.length ep) (hm : s.heap.DictAt knd d kvs ep) (hx : kvs[i]? = some (k, x))
    (hQ : ∀ key h', knd.is k key = true → h'.IsKeyIter it d (i + 1) kvs.length ep → Heap.SameBut it s.heap h' → Q key { s with heap := h' }) :
    wpAny (model prog w) A (Builtin.SmallTypes.nextOf (.ref it)) Q E s := by
  unfold Builtin.SmallTypes.nextOf
  refine wpAny_bind (PySem.W.kdk_special hit hm hx fun key h' h1 h2 h3 => ?_)
  exact wpAny_pure (hQ key h' h1 h2 h3)
theorem nextOf_key_end {n : Nat} {od : Obj} {es : Array DictEntry} {Q : Value → Shared → Prop} (hh : A.handled = none) (hit : s.heap.IsKeyIter it d i n ep) (hod : s.heap.get? d = some od) (hdd : od.data = .dict es ep)
    (hsz : es.size = n) (hge : n ≤ i) (hE : ∀ h' e, Heap.ExtBut it s.heap h' → (∃ o, h'.get? e = some o ∧ o.cls = .type "StopIteration") → E (.ref e) { s with heap := h' }) :
    wpAny (model prog w) A (Builtin.SmallTypes.nextOf (.ref it)) Q E s := by
  obtain ⟨o, ho, hc, hd⟩ := id hit
  unfold Builtin.SmallTypes.nextOf
  refine wpAny_bind (wpAny_callSpecial?_slot (name := Str.ofString "__next__") hit.typeIs F.slot_dict_keyiterator_next
    (wpAny_call_entry F.slot_dict_keyiterator_next hit.typeIs F.entry_dict_keyiterator_next ?_ (F.args_dict_keyiterator_next_1 _)))
  refine wpAny_bind (wpAny_pure ?_)
  refine wpAny_bind ?_
  refine wpAny_bind ?_
  first | refine wpAny_bind (wpAny_typeNameOfWhole_keyiter hit.typeIs (wpAny_pure ?_)) | refine wpAny_bind (wpAny_typeNameOf_keyiter hit.typeIs (wpAny_pure ?_))
  refine wpAny_bind (wpAny_fieldsOf ho hd ?_)
  have hown : Builtin.Dict_items.ownsTuple "dict_keyiterator" = false := by decide
  simp only [hown, Bool.false_eq_true, if_false]
  show wpAny _ _ (if (Value.ref d == Value.none) = true then _ else _) _ _ s
  rw [if_neg (show ¬ ((Value.ref d == Value.none) = true) from Bool.false_ne_true)]
  refine wpAny_bind (wpAny_pure ?_)
  refine wpAny_bind (wpAny_dictEntries hod hdd ?_)
  rw [if_neg (by rw [hsz]; simp)]
  refine wpAny_bind (wpAny_pure ?_)
  refine wpAny_bind (wpAny_dictEpoch hod hdd ?_)
  rw [if_neg (by simp)]
  refine wpAny_pure ?_
  have hge' : es.size ≤ i := by rw [hsz]; exact hge
  simp only [show ¬ ((i : Int) < 0) from by omega, if_false, Int.toNat_natCast, Array.getElem?_eq_none hge']
  refine wpAny_bind ?_
  first | refine wpAny_bind (wpAny_typeNameOfWhole_keyiter hit.typeIs (wpAny_pure ?_)) | refine wpAny_bind (wpAny_typeNameOf_keyiter hit.typeIs (wpAny_pure ?_))
  show wpAny _ _ (setField (.ref it) 0 .none >>= _) _ _ s
  refine wpAny_bind (wpAny_setField ho hd (by simp) ?_)
  show wpAny _ _ (newExc (.type "StopIteration") [] >>= _) _ _ _
  refine wpAny_bind ?_
  simp only [newExc, newTuple]
  refine wpAny_bind (wpAny_newObj_type ?_ (by size_fits))
  refine wpAny_bind (m := firstArgMember _ _) (wpAny_of_eq (a := Value.none) (by first | rfl | (simp only [firstArgMember]; rfl)) ?_)
  refine wpAny_newObj_type ?_ (by size_fits)
  simp only [raiseNew]
  refine wpAny_bind (wpAny_handled ?_)
  first | rw [show A.in1.handled = none from hh] | rw [hh]
  refine wpAny_bind (wpAny_pure (wpAny_throw ?_))
  exact hE _ _ (((Heap.SameBut.update ..).extBut.push _).push _) ⟨_, Heap.get?_push_size _ rfl, rfl⟩
end
theorem dictAt_keep {prog : Program} {w : World} {KT : Type} [DecidableEq KT] {knd : KeyKind prog w KT} {d : Addr} {kvs : List (KT × Value)} {ep : Nat} {h h' : Heap} (x : h.DictAt knd d kvs ep) (k : ∀ o, h.get? d = some o → h'.get? d = some o) : h'.DictAt knd d kvs ep := by
  obtain ⟨od, es, hod, r⟩ := x
  exact ⟨od, es, k _ hod, r⟩
theorem draws_keys {prog : Program} {w : World} {A : Around} (hh : A.handled = none) (it d : Addr) (hne : d ≠ it) {KT : Type} [DecidableEq KT] (knd : KeyKind prog w KT) (kvs : List (KT × Value)) (ep : Nat) :
    Draws prog w A it [it, d] kvs.length (fun i v => ∃ k x, kvs[i]? = some (k, x) ∧ knd.is k v = true) (fun i h => h.IsKeyIter it d i kvs.length ep ∧ h.DictAt knd d kvs ep) where
  live := fun _ _ st => let ⟨o, ho, _⟩ := st.1; ⟨o, ho⟩
  frame := fun _ _ _ st hk => ⟨st.1.at fun o e => hk it (by simp) o e, dictAt_keep st.2 fun o e => hk d (by simp) o e⟩
  item := fun i s Q E hi st hQ => by
    have hx : kvs[i]? = some (kvs[i].1, kvs[i].2) := List.getElem?_eq_getElem hi
    refine nextOf_key_item st.1 st.2 hx fun key h' hkey hit' hs' => ?_
    exact hQ key h' s.toks ⟨_, _, hx, hkey⟩ ⟨hit', dictAt_keep st.2 fun o e => (hs'.2 d hne).trans e⟩ hs'
  done := fun s Q E st hE => by
    obtain ⟨od, es, hod, hcd, hdd, hk, hp, hn⟩ := id st.2
    exact nextOf_key_end hh st.1 hod hdd (by rw [← hp.length]; simp) (Nat.le_refl _) hE
set_option maxHeartbeats 2000000 in
theorem enum_newD (l : Addr) (es : Array DictEntry) (ep : Nat) (hlo : (l == sysModules) = false) :
    Meets (Builtin.«enumerate.__new__» ⟨[.type "enumerate", .ref l], []⟩) (fun _ R s => s.heap.get? l = some { cls := .type "dict", dict := none, data := .dict es ep, slots := #[] } ∧ R (.ok (.ret (.ref (s.heap.push (itK l es.size ep)).objs.size))) { s with heap := (s.heap.push (itK l es.size ep)).push (enO s.heap.objs.size) }) :=
  .of_wp fun prog w A R s h => by
    obtain ⟨hp, g, d, tk, os⟩ := s
    obtain ⟨hl, h⟩ := h
    have sub := sub_enumerate
    have hX : Obj.ExactDict { cls := .type "dict", dict := none, data := .dict es ep, slots := #[] } := ⟨rfl, rfl, rfl⟩
    have RK : ∀ {A : Around} {E Q : Value → Shared → Prop}, Q (.ref (Shared.heap ⟨hp, g, d, tk, os⟩).objs.size) { (⟨hp, g, d, tk, os⟩ : Shared) with heap := (Shared.heap ⟨hp, g, d, tk, os⟩).push (itK l es.size ep) } → wpAny (model prog w) A (pyIter (.ref l)) Q E ⟨hp, g, d, tk, os⟩ := fun h => L2.iter_keys (s := ⟨hp, g, d, tk, os⟩) hlo hl hX rfl h
    wp_walk using wpAny_loadPart' hl
    refine wpAny_stack_any fun st => wpAny_pure ?_
    split
    · (rename_i c _ _ _ _ _); cases (c == Value.type "enumerate")
      · (wp_walk using wpAny_loadPart' hl, RK); exact ⟨_, rfl, h⟩
      · (wp_walk using wpAny_loadPart' hl, RK); exact ⟨_, rfl, h⟩
    · (wp_walk using wpAny_loadPart' hl, RK); exact ⟨_, rfl, h⟩
section
variable {prog : Program} {w : World} {A : Around} {E : Value → Shared → Prop} {s : Shared}
theorem enum_dict {l : Addr} {od : Obj} {es : Array DictEntry} {ep : Nat} {Q : Value → Shared → Prop} (hlo : (l == sysModules) = false) (ho : s.heap.get? l = some od) (hX : od.ExactDict) (hdat : od.data = .dict es ep)
    (h : ∀ h', IsEnum h' (s.heap.objs.size + 1) s.heap.objs.size 0 .none → h'.IsKeyIter s.heap.objs.size l 0 es.size ep → (∀ b o, s.heap.get? b = some o → h'.get? b = some o) → Q (.ref (s.heap.objs.size + 1)) { s with heap := h' }) :
    wpAny (model prog w) A (call (.type "enumerate") [.ref l]) Q E s := by
  obtain ⟨c, dct, dt, sl⟩ := od
  obtain ⟨hc, hdn, hsl⟩ := hX
  cases (show c = .type "dict" from hc)
  cases (show dct = none from hdn)
  cases (show sl = #[] from hsl)
  cases (show dt = .dict es ep from hdat)
  refine callType_new F.called_enumerate (by decide) (F.typeCall_enumerate_1 _) (F.newCall_enumerate_1 _) (fun obj => F.args_object_init_2 obj _) F.entry_enumerate_new (enum_newD l es ep hlo) ⟨ho, ?_⟩
  have sz : (s.heap.push (itK l es.size ep)).objs.size = s.heap.objs.size + 1 := Heap.size_push ..
  (show _ ∧ _); rw [sz]
  have he : IsEnum ((s.heap.push (itK l es.size ep)).push (enO s.heap.objs.size)) (s.heap.objs.size + 1) s.heap.objs.size 0 .none := by
    have q := Heap.get?_push_size (s.heap.push (itK l es.size ep)) (o := enO s.heap.objs.size) rfl
    rwa [sz] at q
  exact ⟨⟨_, he, rfl⟩, h _ he ⟨_, Heap.get?_push_of_some _ (Heap.get?_push_size _ rfl), rfl, rfl⟩ fun b o x => Heap.get?_push_of_some _ (Heap.get?_push_of_some _ x)⟩
end
end Cp
namespace Cp
open PySem PySem.Spec L2 PyProof.Rows
/-- the keys of the locked dict at a, each in a new pair -/
def ItEk (a : Addr) (od : Obj) (kvs : List (Key × V)) : It :=
  ⟨fun i H => H a = some (.frz od (.dK kvs)) ∧ i < kvs.length, fun i H v H' => ∃ T k x, kvs[i]? = some (k, x) ∧ v = .ref T ∧ H T = none ∧ H' = upd H T (.tup [.int (i : Nat), kV k]), fun i H => H a = some (.frz od (.dK kvs)) ∧ kvs.length ≤ i⟩
theorem turn_enD {P : Program} {w : World} {K : PySem.W.Frag} {elts : List Expr} {kk : Nat} {tpos : Pos} {od : Obj} {kvs : List (Key × V)} {es : Array DictEntry} {ep : Nat} (a e it : Addr) (hod : od.data = .dict es ep) :
    Turn P w K (.Tuple elts kk tpos) (ItEk a od kvs) [e, it] e (fun i h => (∃ old, IsEnum h e it ((i : Nat) : Int) old) ∧ h.IsKeyIter it a i kvs.length ep ∧ e ≠ it ∧ a ≠ it ∧ e ≠ a) := by
  have two : ∀ {b : Addr}, b ∈ [e, it] → b = e ∨ b = it := fun hb => by simpa using hb
  refine ⟨by simp, fun i h st b hb => ?_, fun i h h' st k => ?_, ?_, ?_, fun A i s Q E st h => wpAny_pyIter_enum st.1.choose_spec h⟩
  · obtain ⟨⟨old, he⟩, ⟨o, ho, hc, hd⟩, _⟩ := st
    rcases two hb with rfl | rfl
    · exact ⟨_, he, fun v q => nomatch q⟩
    · exact ⟨o, ho, fun v q => by rw [hd] at q; cases q⟩
  · obtain ⟨⟨old, he⟩, hi, hne⟩ := st
    exact ⟨⟨old, k e (by simp) _ he⟩, hi.at fun o q => k it (by simp) o q, hne⟩
  · intro X hP hw hK hc i pins s σ H E I hf st hg
    subst hP hw hK
    obtain ⟨⟨old, he⟩, hit, hne, hna, hea⟩ := st
    obtain ⟨hq, hi⟩ := hg
    obtain ⟨hs, hgd, hx, es', ep', vs, hdt, hsz, kv, hm⟩ := I.frzK hq
    obtain ⟨rfl, rfl⟩ := dict_ep hod hdt
    obtain ⟨⟨k, v⟩, hkv⟩ : ∃ p, kvs[i]? = some p := ⟨kvs[i], List.getElem?_eq_getElem hi⟩
    obtain ⟨u, hu, ru⟩ := kv_get kv hkv
    have hl : kvs.length = vs.length := Paired.length kv
    rw [hl] at hit
    have hel : e < s.heap.objs.size := Heap.lt_size he
    have hil : it < s.heap.objs.size := by obtain ⟨_, q, _⟩ := hit; exact Heap.lt_size q
    refine wpAny_pyNext_enum_itemD (draws_keys (A := X.A.in1) (I.ok.hd hc) it a hna (mixKind X.prog X.w) vs ep') he ⟨hit, hm⟩ (by rw [← hl]; exact hi) hne (by simp [hne, hea]) fun y h' tk hy ho st' hT sz hk => ?_
    obtain ⟨k2, x2, hk2, hky⟩ := hy
    rw [hu] at hk2
    cases hk2
    have ry : RelV (kV k) y := relV_key (show keyIs k y = true from hky)
    refine ⟨_, rfl, wpAny_letOwnedTupleGo_enum (s := { s with heap := h', toks := tk + 1 }) ho fun h'' he' sb => ?_⟩
    have hT2 : h''.get? s.heap.objs.size = some { cls := .type "tuple", data := .seq #[.int i tk, y] } := (sb.2 _ (Nat.ne_of_gt hel)).trans hT
    have new : ObjOk X.prog X.w (upd H s.heap.objs.size (.tup [.int (i : Nat), kV k])) h'' s.heap.objs.size (.tup [.int (i : Nat), kV k]) := ⟨by show 2 ≤ sizeLine; decide, [.int i tk, y], .cons ⟨_, rfl⟩ (.cons ry .nil), ⟨_, hT2, rfl, _, rfl⟩⟩
    have I1 : Inv X pins σ (upd H s.heap.objs.size (.tup [.int (i : Nat), kV k])) { s with heap := h'', toks := tk + 1 } :=
      I.turnedNew (ch := [e, it]) (fun b ob hb q => (sb.2 b (fun z => hb (by simp [z]))).trans (hk b ob (fun z => hb (by simp [z])) (fun z => hb (by simp [z])) q)) hf (Nat.le_refl _) new
    refine ⟨.ref s.heap.objs.size, _, I1, rfl, ⟨_, k, v, hkv, rfl, I.hok.fresh (Nat.le_refl _), rfl⟩, ⟨⟨y, ?_⟩, ?_, hne, hna, hea⟩, fun b hb => ?_⟩
    · rw [show ((i + 1 : Nat) : Int) = (i : Int) + 1 by omega]; exact he'
    · rw [hl]
      exact st'.1.at fun o q => (sb.2 it (Ne.symm hne)).trans q
    · have hb' : b < s.heap.objs.size := (two hb).elim (fun z => z ▸ hel) fun z => z ▸ hil
      rw [upd_ne (Nat.ne_of_lt hb')]; exact (hf b hb).1
  · intro X hP hw hK hc i pins s σ H E I hf st hg
    subst hP hw hK
    obtain ⟨⟨old, he⟩, hit, hne, hna, hea⟩ := st
    obtain ⟨hq, hi⟩ := hg
    obtain ⟨hs, hgd, hx, es', ep', vs, hdt, hsz, kv, hm⟩ := I.frzK hq
    obtain ⟨rfl, rfl⟩ := dict_ep hod hdt
    obtain ⟨f0, f1, f2, f3, f4, f5⟩ := hf it (by simp)
    have D : Draws X.prog X.w X.A.in1 it [it, a] 0 (fun _ _ => False) (fun _ h => h.IsKeyIter it a i kvs.length ep' ∧ h.get? a = some od) :=
      ⟨fun _ _ st => let ⟨o, ho, _⟩ := st.1; ⟨o, ho⟩, fun _ _ _ st hk => ⟨st.1.at fun o e => hk it (by simp) o e, hk a (by simp) _ st.2⟩, fun j s Q E hj st hQ => absurd hj (Nat.not_lt_zero _), fun s Q E st hE => nextOf_key_end (I.ok.hd hc) st.1 st.2 hdt hsz hi hE⟩
    exact wpAny_pyNext_enum_endD D he ⟨hit, hgd⟩ fun h' eb => ⟨rfl, I.turned (t' := s.toks) (fun b o hb q => eb b o hb q) f0 f1 f3 f4 f5⟩
def iEnD (ta : TA) : TI := fun σ H R => ta σ H fun vs H1 => ∃ a od kvs, vs = [.ref a] ∧ H1 a = some (.frz od (.dK kvs)) ∧ R (ItEk a od kvs) H1
theorem pi_enD {X : Cx} {e : Expr} {ta : TA} {p pos tpos : Pos} {elts : List Expr} {kk : Nat} (hg : Gl X "enumerate") (hm : X.mg "enumerate" = none) (ha : PA X [e] ta) (hs : starEach [e] X.env = [(false, eval e X.env)] := by rfl) :
    PI X (.Tuple elts kk tpos) (.Call (.Name "enumerate" p) [e] [] pos) (iEnD ta) := by
  refine ⟨fun pins s σ H R I h => Call_ (ld_blt I hg hm boot_enumerate (PyProof.Rows.callWith_type1 (thn (ha.run pos pins s σ H _ I h) fun us s1 ⟨vs, H1, I1, r1, a, od, kvs, ex, hq, q⟩ => ?_) hs rfl))⟩
  subst ex
  obtain ⟨u, rfl, r⟩ := r1.one
  obtain rfl : u = Value.ref a := r
  obtain ⟨hsy, hgd, hx, es, ep, vs, hdt, hsz, kv, hdm⟩ := I1.frzK hq
  have lt : a < s1.heap.objs.size := Heap.lt_size hgd
  refine enum_dict hsy hgd hx hdt fun h' he hit hk => wpAny_pyIter_enum he ?_
  have I2 : Inv X pins σ H1 { s1 with heap := h' } := I1.kept (t' := s1.toks) hk
  rw [hsz] at hit
  refine ⟨s1.heap.objs.size + 1, [s1.heap.objs.size + 1, s1.heap.objs.size], _, _, H1, rfl, I2, turn_enD a (s1.heap.objs.size + 1) s1.heap.objs.size hdt, ⟨⟨.none, he⟩, hit, Nat.succ_ne_self _, Nat.ne_of_lt lt, Nat.ne_of_gt (Nat.lt_succ_of_lt lt)⟩, fun b hb => ?_, q⟩
  have hle : s1.heap.objs.size ≤ b := by
    rcases (show b = s1.heap.objs.size + 1 ∨ b = s1.heap.objs.size by simpa using hb) with rfl | rfl
    · exact Nat.le_add_right _ _
    · exact Nat.le_refl _
  exact I1.fpOk hle (I1.hok.fresh hle)
/-- over a locked dict that stands still -/
theorem for_enD {a : Addr} {od : Obj} {kvs : List (Key × V)} {g : TG} {tb : TS} {D : Ends} {σ : L2.St} {H : Hp} (Pv : Nat → L2.St → Hp → Prop) (h0 : Pv 0 σ H) (hl : ∀ i σ H, i ≤ kvs.length → Pv i σ H → H a = some (.frz od (.dK kvs)))
    (hs : ∀ i k v σ H T, kvs[i]? = some (k, v) → Pv i σ H → H T = none → g (.ref T) σ (upd H T (.tup [.int (i : Nat), kV k])) fun σ2 H2 => tb { D with nx := Pv (i + 1), ct := Pv (i + 1), bk := D.nx } σ2 H2) (hd : ∀ σ H, Pv kvs.length σ H → D.nx σ H) :
    ∃ W : Nat → Nat → L2.St → Hp → Prop, (∃ m, W 0 m σ H) ∧ ∀ i m σ H, W i m σ H →
      ((ItEk a od kvs).stop i H ∧ D.nx σ H) ∨ ((ItEk a od kvs).go i H ∧ ∃ N : L2.St → Hp → Prop, (∀ σ' H', N σ' H' → ∃ m', m' < m ∧ W (i + 1) m' σ' H') ∧ ∀ x H', (ItEk a od kvs).yld i H x H' → g x σ H' fun σ2 H2 => tb { D with nx := N, ct := N, bk := D.nx } σ2 H2) := by
  refine ⟨fun i m σ H => m = kvs.length - i ∧ i ≤ kvs.length ∧ Pv i σ H, ⟨_, rfl, Nat.zero_le _, h0⟩, ?_⟩
  rintro i m σ H ⟨rfl, hi, p⟩
  have q := hl i σ H hi p
  rcases Nat.lt_or_ge i kvs.length with hlt | hge
  · refine .inr ⟨⟨q, hlt⟩, Pv (i + 1), fun σ' H' p' => ⟨kvs.length - (i + 1), by omega, rfl, hlt, p'⟩, fun x H' y => ?_⟩
    obtain ⟨T, k, v, hkv, rfl, hT, rfl⟩ := y
    exact hs i k v σ H T hkv p hT
  · obtain rfl : i = kvs.length := by omega
    exact .inl ⟨⟨q, Nat.le_refl _⟩, hd σ H p⟩
end Cp

set_option Elab.async false
set_option linter.all false
set_option maxRecDepth 100000
namespace Cp
open PySem PySem.Spec L2 PyProof.Rows
abbrev sLook : Stmt := top 19
structure TK5 (mg : Str → Option Value) : Prop where
  most : ∃ t, mg "MOST_KINDS" = some (.int 24 t)
  ma : ∃ t, mg "MARK" = some (.int 4 t)
def inCls (st : Stmt) (i : Nat) : Stmt := match st with
  | .ClassDef _ _ _ body _ _ _ _ _ _ _ => body.getD i (.Pass ⟨0, 0, 0, 0⟩)
  | _ => .Pass ⟨0, 0, 0, 0⟩
/-- an __init__ that keeps its one argument -/
def spI1 (tl : List Value) (B newId initId : String) (bmB : List Value) (K : PySem.W.Frag) (f : Str) : Sp := fun vs H Q _ => ∃ (a C : Addr) (v : V), vs = [.ref a, v] ∧ OexG tl B newId initId bmB K C ∧ PySem.W.findIn K (.ref C) f = some none ∧ H a = some (exo a C none) ∧
  ∀ d, H d = none → d ≠ a → Q .non (upd (upd H d (exd d [(f, v)])) a (exo a C (some d)))
theorem raised1 {tl : List Value} {B newId initId : String} {bmB : List Value} {K : PySem.W.Frag} {f : Str} {C : Addr} {v : V} {H : Hp} {Q : XK} (O : OexG tl B newId initId bmB K C) (no : PySem.W.findIn K (.ref C) f = some none)
    (k : ∀ d H', H' d = some (.xd [(f, v)]) → Same H H' → Q (.ref C) (some d) H') : [v].length ≤ 1000 ∧ ∀ a, H a = none → spI1 tl B newId initId bmB K f (.ref a :: ([v] ++ [])) (upd H a (exo a C none))
      (fun v' H2 => v' = .non ∧ ∃ (d : Addr) (fs : List (Str × V)), H2 a = some (exo a C (some d)) ∧ H2 d = some (exd d fs) ∧ H d = none ∧ Q (.ref C) (some d) (upd (del H2 a) d (.xd fs))) (fun _ _ _ => False) :=
  ⟨by simp, fun a ha => ⟨a, C, v, rfl, O, no, upd_same, fun d hd hn => by
    have hd0 : H d = none := by rw [upd_ne hn] at hd; exact hd
    refine ⟨rfl, d, [(f, v)], upd_same, by rw [upd_ne hn]; exact upd_same, hd0, k d _ upd_same fun b o e => ?_⟩
    have h1 := ne_of_none e ha
    have h2 := ne_of_none e hd0
    rw [upd_ne h2, del_ne h1, upd_ne h1, upd_ne h2, upd_ne h1]
    exact e⟩⟩
abbrev sIBad : Stmt := inCls (top 2) 0
/-- the class BadLayout -/
structure ExB (K : PySem.W.Frag) (mg : Str → Option Value) (CB fI : Addr) (fdI : FuncData) : Prop where
  O : OexG tlVE "ValueError" "ValueError.__new__" "ValueError.__init__" tlVE K CB
  no : PySem.W.findIn K (.ref CB) "place" = some none
  ini : PySem.W.findIn K (.ref CB) "__init__" = some (some (.ref fI))
  ty : PySem.W.typeIn K (.ref fI) = some (.type "function")
  g : mg "BadLayout" = some (.ref CB)
  F : Fun K "__init__" "BadLayout.__init__" sIBad fI fdI
  b : Binds K fdI ["self", "place"] []
theorem okS_join : ∀ (xs : List Str), okS (Txt.join "" xs) = xs.all okS := by
  intro xs
  unfold okS
  rw [TL.join_eq]
  have := TL.tl_join "" xs
  unfold TL.tl at this
  rw [this]
  have e : ("" : Str).cps.toList = [] := rfl
  rw [e]
  clear this e
  induction xs with
  | nil => rfl
  | cons x r ih =>
    cases r with
    | nil => simp [TL.joinL]
    | cons y r =>
      show (x.cps.toList ++ ([] ++ TL.joinL [] ((y :: r).map fun m : Str => m.cps.toList))).all okC = _
      rw [List.nil_append, List.all_append, ih]
      rfl
theorem len_join : ∀ {xs : List Str}, xs ≠ [] → (∀ x ∈ xs, 1 ≤ x.length) → (Txt.join "" xs).length ≠ 0 := by
  intro xs h0 h
  have e := TL.tl_join "" xs
  unfold TL.tl at e
  rw [TL.join_eq]
  have hl : (Str.join "" xs).length = (TL.joinL [] (xs.map fun m : Str => m.cps.toList)).length := by
    rw [show (Str.join "" xs).length = (Str.join "" xs).cps.toList.length from (Array.length_toList).symm, e]; rfl
  rw [hl]
  cases xs with
  | nil => exact absurd rfl h0
  | cons x r =>
    have hx : 1 ≤ x.cps.toList.length := by have := h x List.mem_cons_self; rw [Array.length_toList]; exact this
    cases r with
    | nil => show x.cps.toList.length ≠ 0; omega
    | cons y r =>
      show (x.cps.toList ++ ([] ++ TL.joinL [] ((y :: r).map fun m : Str => m.cps.toList))).length ≠ 0
      rw [List.length_append]
      omega
theorem sum_le {α : Type} (f : α → Nat) (m : Nat) : ∀ l : List α, (∀ x ∈ l, f x ≤ m) → (l.map f).sum ≤ m * l.length
  | [], _ => by simp
  | x :: r, h => by
    have h1 := sum_le f m r fun y hy => h y (List.mem_cons_of_mem _ hy)
    have h2 := h x List.mem_cons_self
    rw [List.map_cons, List.sum_cons, List.length_cons, Nat.mul_succ]
    omega
/-! ### what look_at finds -/
def goodR (r : Rk) : Bool := decide (r.nm.length ≠ 0) && okS r.nm && okM r.mr
theorem badB_none : ∀ (l : List Rk) (i : Nat), (∀ r ∈ l, goodR r = true) → badB l i = none
  | [], _, _ => rfl
  | r :: l, i, h => by
    unfold badB
    show (if goodR r = true then _ else _) = _
    rw [if_pos (h r List.mem_cons_self)]
    exact badB_none l _ fun p hp => h p (List.mem_cons_of_mem _ hp)
theorem badB_some : ∀ (l : List Rk) (i j : Nat) {r : Rk}, l[j]? = some r → (∀ k p, k < j → l[k]? = some p → goodR p = true) → ¬ goodR r = true → badB l i = some (i + j)
  | [], _, j, r, h, _, _ => by simp at h
  | r' :: l, i, 0, r, h, _, hb => by
    simp only [List.getElem?_cons_zero, Option.some.injEq] at h
    subst h
    unfold badB
    show (if goodR r' = true then _ else _) = _
    rw [if_neg hb]
    rfl
  | r' :: l, i, j + 1, r, h, hg, hb => by
    rw [List.getElem?_cons_succ] at h
    unfold badB
    show (if goodR r' = true then _ else _) = _
    rw [if_pos (hg 0 r' (by omega) rfl), badB_some l (i + 1) j h (fun k p hk hp => hg (k + 1) p (by omega) (by rw [List.getElem?_cons_succ]; exact hp)) hb]
    congr 1
    omega
theorem aheadB_at : ∀ (ds : List PyData) (pre : List Rk) (le : Int) (i : Nat) {r : Rk}, (aheadB ds pre le)[i]? = some r → ∃ e b l, ds[i]? = some (.tuple [.str r.nm, .int e, b, .str l, .str r.mr]) ∧ r.nm.length ≤ 8
  | [], pre, le, i, r, h => by simp [aheadB] at h
  | d :: ds, pre, le, i, r, h => by
    unfold aheadB at h
    split at h
    · rename_i n' e' m' bs hst
      cases i with
      | zero =>
        simp only [List.getElem?_cons_zero, Option.some.injEq] at h
        subst h
        unfold stepB at hst
        split at hst
        · rename_i dn de db dl dm
          split at hst
          · rename_i n2 e2 l2 m2
            split at hst
            · rename_i hok
              simp only [Option.some.injEq, Prod.mk.injEq] at hst
              obtain ⟨rfl, rfl, rfl, rfl⟩ := hst
              unfold okHeadB at hok
              simp only [Bool.and_eq_true, decide_eq_true_eq] at hok
              exact ⟨_, _, _, rfl, hok.1⟩
            · cases hst
          · cases hst
        · cases hst
      | succ i =>
        rw [List.getElem?_cons_succ] at h
        obtain ⟨e, b, l, h1, h2⟩ := aheadB_at ds _ _ i h
        exact ⟨e, b, l, by rw [List.getElem?_cons_succ]; exact h1, h2⟩
    · simp at h
theorem aheadB_len : ∀ (ds : List PyData) (pre : List Rk) (le : Int), (aheadB ds pre le).length ≤ ds.length
  | [], _, _ => by simp [aheadB]
  | d :: r, pre, le => by
    unfold aheadB
    split
    · rename_i n e m bs _
      simp only [List.length_cons]
      have := aheadB_len r (pre ++ [newR pre n m bs]) e
      omega
    · simp
theorem placeP_B {ds : List PyData} (h : 1 ≤ ds.length ∧ ds.length ≤ 24) : placeP (.tuple ds) = (match badB (aheadB ds [] 1) 0 with
    | some i => some [i]
    | none => if (aheadB ds [] 1).length < ds.length then some [(aheadB ds [] 1).length] else none) := by
  have e := place_B ds [] 1 0
  have e1 : placeP (.tuple ds) = (match badAt (aheadA ds [] 1) 0 with
      | some i => some [i]
      | none => if (aheadA ds [] 1).length < ds.length then some [(aheadA ds [] 1).length] else none) := if_pos h
  rw [e1]
  simp only [List.map_nil] at e
  cases h1 : badB (aheadB ds [] 1) 0 with
  | some i =>
    rw [h1] at e
    simp only at e ⊢
    cases h2 : badAt (aheadA ds [] 1) 0 with
    | some i2 =>
      rw [h2] at e
      simp only at e ⊢
      rw [Option.some.inj e]
    | none =>
      rw [h2] at e
      simp only at e ⊢
      split at e
      · rename_i hlt
        rw [if_pos hlt, Option.some.inj e, Nat.zero_add]
      · cases e
  | none =>
    rw [h1] at e
    simp only at e ⊢
    cases h2 : badAt (aheadA ds [] 1) 0 with
    | some i2 =>
      rw [h2] at e
      simp only at e ⊢
      split at e
      · rename_i hlt
        rw [if_pos hlt, ← Option.some.inj e, Nat.zero_add]
      · cases e
    | none =>
      rw [h2] at e
      simp only at e ⊢
      split at e
      · rename_i hlt
        rw [if_pos hlt]
        split at e
        · rename_i hlt2
          rw [if_pos hlt2]
          have := Option.some.inj e
          congr 2
          omega
        · cases e
      · rename_i hlt
        rw [if_neg hlt]
        split at e
        · cases e
        · rename_i hlt2
          rw [if_neg hlt2]
/-- what a layout reaches, and its roots; of what is none BadLayout with the place -/
def spLook (CB : Addr) : Sp := fun vs H Q E => ∃ (v : V) (d : PyData), vs = [v] ∧ Dq H v d ∧ bndD d = true ∧
  (placeP d = none → ∀ (ds : List PyData) (t p : Addr) (H' : Hp), d = .tuple ds → H p = none → H' p = some (.dK (rchK (aheadB ds [] 1))) → H' t = some (.tup [.ref p, .int ((rootsF (aheadB ds [] 1) 0 : Nat) : Int)]) → Same H H' → Q (.ref t) H') ∧
  (∀ l, placeP d = some l → ∀ (t x : Addr) (H' : Hp), H' x = some (.xd [(("place" : Str), .ref t)]) → H' t = some (.tup (l.map fun i : Nat => V.int (i : Int))) → Same H H' → E (.ref CB) (some x) H')
abbrev nLook : List Str := ["thing", "reached", "marks", "roots", "at", "name"]
theorem firsts_all (xs : List Str) (f : Str → Bool) : (firsts xs).all f = xs.all f := by
  have hm : ∀ (l acc : List Str) (x : Str), x ∈ l.foldl grow acc ↔ x ∈ acc ∨ x ∈ l := by
    intro l
    induction l with
    | nil => intro acc x; simp
    | cons y r ih =>
      intro acc x
      rw [List.foldl_cons, ih, grow_mem, List.mem_cons]
      constructor
      · rintro ((h | h) | h)
        · exact .inl h
        · exact .inr (.inl h)
        · exact .inr (.inr h)
      · rintro (h | h | h)
        · exact .inl (.inl h)
        · exact .inl (.inr h)
        · exact .inr h
  have h2 : ∀ x, x ∈ firsts xs ↔ x ∈ xs := fun x => by
    have := hm xs [] x
    unfold firsts
    simpa using this
  rw [Bool.eq_iff_iff, List.all_eq_true, List.all_eq_true]
  exact ⟨fun z x hx => z x ((h2 x).mpr hx), fun z x hx => z x ((h2 x).mp hx)⟩
theorem firsts_mem {xs : List Str} {x : Str} (h : x ∈ firsts xs) : x ∈ xs := by
  have := firsts_all xs (fun y => decide (y ∈ xs))
  have h2 : xs.all (fun y => decide (y ∈ xs)) = true := by
    rw [List.all_eq_true]
    exact fun y hy => decide_eq_true hy
  rw [h2, List.all_eq_true] at this
  exact of_decide_eq_true (this x h)
theorem firsts_ne {xs : List Str} (h : xs ≠ []) : firsts xs ≠ [] := fun e => by
  have := firsts_all xs (fun _ => false)
  rw [e] at this
  cases xs with
  | nil => exact h rfl
  | cons x r => simp at this
theorem join_le : ∀ {xs : List Str}, (∀ x ∈ xs, x.length ≤ 8) → (Txt.join "" xs).length ≤ 8 * xs.length := by
  intro xs h
  have e := TL.tl_join "" xs
  unfold TL.tl at e
  rw [TL.join_eq]
  have hl : (Str.join "" xs).length = (TL.joinL [] (xs.map fun m : Str => m.cps.toList)).length := by
    rw [show (Str.join "" xs).length = (Str.join "" xs).cps.toList.length from (Array.length_toList).symm, e]; rfl
  rw [hl]
  clear hl e
  induction xs with
  | nil => simp [TL.joinL]
  | cons x r ih =>
    have hx : x.cps.toList.length ≤ 8 := by have := h x List.mem_cons_self; rw [Array.length_toList]; exact this
    have ih2 := ih fun y hy => h y (List.mem_cons_of_mem _ hy)
    cases r with
    | nil => show x.cps.toList.length ≤ 8 * 1; omega
    | cons y r =>
      show (x.cps.toList ++ ([] ++ TL.joinL [] ((y :: r).map fun m : Str => m.cps.toList))).length ≤ _
      rw [List.nil_append, List.length_append, List.length_cons]
      omega
theorem len0 {x : Str} (h : x.length = 0) : x = "" := by
  obtain ⟨⟨l⟩⟩ := x
  cases l with
  | nil => rfl
  | cons _ _ => cases h
section
variable {P : Program} {w : World} {K : PySem.W.Frag} {mg : Str → Option Value} {base : Heap}
theorem scIBad : FnScope ["self", "place"] ["self", "place"] (defScope sIBad) := ⟨rfl, rfl, rfl, by decide +kernel, rfl, by decide +kernel, by decide +kernel⟩
theorem ok_IBad {tl : List Value} {B newId initId : String} {bmB : List Value} {f : Addr} {fd : FuncData} (F : Fun K "__init__" "BadLayout.__init__" sIBad f fd) : FnOk P w K mg base CX0 1 f fd ["self", "place"] (spI1 tl B newId initId bmB K "place") := by
  refine F.ok scIBad (fun vs H Q E h => ?_) (fun cdv A outer s H vs Q E hr h => ?_)
  · obtain ⟨a, C, v, rfl, _⟩ := h; rfl
  · obtain ⟨a, C, v, rfl, O, no, ha, k⟩ := h
    exact ⟨_, pss_one (ps_osg (tl := tl) (B := B) (newId := newId) (initId := initId) (bmB := bmB) (pv 0) (pv 1)), _, rfl, _, rfl, a, C, rfl, O, no, .inl ⟨ha, k⟩⟩
theorem scLook : FnScope nLook ["thing"] (defScope sLook) := ⟨rfl, rfl, rfl, by decide +kernel, rfl, by decide +kernel, by decide +kernel⟩
theorem ok_look {f fT fH fM CB fI : Addr} {fd fdT fdH fdM fdI : FuncData} (F : Fun K "look_at" "look_at" sLook f fd) (T : TP mg) (U : TK5 mg) (M : ExB K mg CB fI fdI)
    (GT : FnOk P w K mg base CX0 1 fT fdT ["kinds", "reached", "marks"] spTake) (FT : Fun K "_take_kinds" "_take_kinds" sTake fT fdT) (bT : Binds K fdT ["kinds", "reached", "marks"] []) (mT : mg "_take_kinds" = some (.ref fT))
    (GH : FnOk P w K mg base CX0 1 fH fdH ["text"] spHla) (FH : Fun K "has_letters_alone" "has_letters_alone" sHla fH fdH) (bH : Binds K fdH ["text"] []) (mH : mg "has_letters_alone" = some (.ref fH))
    (GM : FnOk P w K mg base CX0 6 fM fdM ["texts"] (spMks 5)) (FM : Fun K "are_marks" "are_marks" sMks fM fdM) (bM : Binds K fdM ["texts"] []) (mM : mg "are_marks" = some (.ref fM)) :
    FnOk P w K mg base (L2.CX P w) 7 f fd ["thing"] (spLook CB) := by
  refine F.okX scLook (fun vs H Q E h => ?_) (fun cdv A outer s H vs Q E hr h => ?_)
  · obtain ⟨v, d, rfl, _⟩ := h; rfl
  · obtain ⟨v, d, rfl, hq, hbd, kQ, kE⟩ := h
    have nd := scLook.nd
    have hu := hu_of hr
    have hr1 : Room 1 _ := hr.mono (by decide)
    have hr2 : Room 2 _ := hr.mono (by decide)
    have hr6 : Room 6 _ := hr
    refine ⟨_, (pss_cons (ps_if (PW.pt (pw_or (pt_not (pt_val (pe_callB call_isi (by rfl) T.isinstance (by decide +kernel) (pa_cons (pv 0) (pa_cons (pe_bltn (v := .ty "tuple") (u := .type "tuple") (by rfl) T.tuple (by decide +kernel) rfl) pa_nil)))))
        (pw_or1 (pt_not (pt_chain op_le op_le pe_int (pe_callB call_len_seq (by rfl) T.len PySem.boot_len (pa_cons (pv 0) pa_nil)) (pe_glob (v := .int 24) (by rfl) U.most.choose_spec ⟨_, rfl⟩))))))
        (pss_one (ps_raise rfl (takes_of rfl rfl rfl rfl) (pmk_oeg M.O M.ini M.ty (ok_IBad (tl := tlVE) (B := "ValueError") (newId := "ValueError.__new__") (initId := "ValueError.__init__") (bmB := tlVE) M.F) hr2 M.b pass0 (by rfl) M.g (pa_cons (pe_tup pa_nil) pa_nil)))) pss_nil)
      (pss_cons (ps_set (i := 1) nd rfl (.inl rfl) pe_dnewK)
      (pss_cons (ps_set (i := 2) nd rfl (.inl rfl) pe_dnewK)
      (pss_cons (ps_set (i := 3) nd rfl (.inl rfl) (pe_call GT hr1 (by rfl) mT FT.kp bT .nil pass0 (pa_cons (pv 0) (pa_cons (pv 1) (pa_cons (pv 2) pa_nil)))))
      (C8.pss_cut (ps_if (PW.pt (pw_or (pt_cmp (pc_din hu pe_str (pv 1)))
          (pw_or (pt_not (pt_val (pe_call GH hr1 (by rfl) mH FH.kp bH .nil pass0 (pa_cons (pe_m1 PySem.F.slot_str_join PySem.F.type_str_join (mt_joinK rfl) pe_str (pv 1)) pa_nil))))
          (pw_or1 (pt_not (pt_val (pe_call GM hr6 (by rfl) mM FM.kp bM .nil pass0 (pa_cons (pe_callTy (call_listD rfl) (by rfl) T.list (by decide +kernel) (pa_cons (pv 2) pa_nil)) pa_nil))))))))
        (pss_one (ps_lock (ps_for (passes_of rfl) rfl (pi_enD (by rfl) T.enum (pa_cons (pv 1) pa_nil)) (pg_tup (by rfl) (pgs_cons (pg_name (i := 4) nd rfl (.inl rfl)) (pgs_cons (pg_name (i := 5) nd rfl (.inl rfl)) pgs_nil)))
          (pss_one (ps_if (PW.pt (pw_or (pt_not (pt_val (pe_call GH hr1 (by rfl) mH FH.kp bH .nil pass0 (pa_cons (pv 5) pa_nil))))
            (pw_or1 (pt_not (pt_val (pe_call GM hr6 (by rfl) mM FM.kp bM .nil pass0 (pa_cons (pe_lst (pa_cons (pe_ix ix_tup (pe_ix ix_tup (pv 0) (pv 4) (fun _ _ => rfl)) (pe_glob (v := .int 4) (by rfl) U.ma.choose_spec ⟨_, rfl⟩) (fun _ _ => rfl)) pa_nil)) pa_nil)))))))
            (pss_one (ps_raise rfl (takes_of rfl rfl rfl rfl) (pmk_oeg M.O M.ini M.ty (ok_IBad (tl := tlVE) (B := "ValueError") (newId := "ValueError.__new__") (initId := "ValueError.__init__") (bmB := tlVE) M.F) hr2 M.b pass0 (by rfl) M.g (pa_cons (pe_tup (pa_cons (pv 4) pa_nil)) pa_nil)))) pss_nil))))) pss_nil)
      (pss_cons (ps_if (pt_cmpR op_lt (pe_callB call_lenD (by rfl) T.len PySem.boot_len (pa_cons (pv 1) pa_nil)) (pe_callB call_len_seq (by rfl) T.len PySem.boot_len (pa_cons (pv 0) pa_nil)) (nomark _))
        (pss_one (ps_raise rfl (takes_of rfl rfl rfl rfl) (pmk_oeg M.O M.ini M.ty (ok_IBad (tl := tlVE) (B := "ValueError") (newId := "ValueError.__new__") (initId := "ValueError.__init__") (bmB := tlVE) M.F) hr2 M.b pass0 (by rfl) M.g (pa_cons (pe_tup (pa_cons (pe_callB call_lenD (by rfl) T.len PySem.boot_len (pa_cons (pv 1) pa_nil)) pa_nil)) pa_nil)))) pss_nil)
      (pss_one (ps_ret (pe_tup (pa_cons (pv 1) (pa_cons (pv 3) pa_nil))))))))))), ?_⟩
    refine ⟨_, rfl, _, _, _, _, isTup d, rfl, ClsV.ty "tuple", hq.ty, kTup K d, _, rfl, ?_⟩
    cases hq with
    | non => exact iteT (iteT ⟨Nat.zero_le _, fun t ht => raised1 M.O M.no fun x H' hx s => kE [] rfl t x H' hx (s _ _ upd_same) ((s_new ht).trans s)⟩)
    | bl b => exact iteT (iteT ⟨Nat.zero_le _, fun t ht => raised1 M.O M.no fun x H' hx s => kE [] rfl t x H' hx (s _ _ upd_same) ((s_new ht).trans s)⟩)
    | int i => exact iteT (iteT ⟨Nat.zero_le _, fun t ht => raised1 M.O M.no fun x H' hx s => kE [] rfl t x H' hx (s _ _ upd_same) ((s_new ht).trans s)⟩)
    | str x => exact iteT (iteT ⟨Nat.zero_le _, fun t ht => raised1 M.O M.no fun x H' hx s => kE [] rfl t x H' hx (s _ _ upd_same) ((s_new ht).trans s)⟩)
    | lst a b => exact iteT (iteT ⟨Nat.zero_le _, fun t ht => raised1 M.O M.no fun x H' hx s => kE [] rfl t x H' hx (s _ _ upd_same) ((s_new ht).trans s)⟩)
    | dct a => exact iteT (iteT ⟨Nat.zero_le _, fun t ht => raised1 M.O M.no fun x H' hx s => kE [] rfl t x H' hx (s _ _ upd_same) ((s_new ht).trans s)⟩)
    | @tup a xs ds ha hall =>
    refine iteF ?_
    have hxl := dq_len hall
    refine ⟨_, rfl, a, _, rfl, .inr (SqT.of ha), _, _, rfl, rfl, _, rfl, ?_⟩
    have out : ¬ (1 ≤ ds.length ∧ ds.length ≤ 24) → placeP (.tuple ds) = some [] := fun h => if_neg h
    by_cases hl1 : 1 ≤ ds.length
    rotate_left
    · rw [decide_eq_false (show ¬ (1 : Int) ≤ ((xs.length : Nat) : Int) by omega)]
      exact iteF ⟨_, rfl, iteT ⟨Nat.zero_le _, fun t ht => raised1 M.O M.no fun x H' hx s => kE [] (out fun z => hl1 z.1) t x H' hx (s _ _ upd_same) ((s_new ht).trans s)⟩⟩
    rw [decide_eq_true (show (1 : Int) ≤ ((xs.length : Nat) : Int) by omega)]
    refine iteT ?_
    refine ⟨_, _, rfl, rfl, _, rfl, ?_⟩
    by_cases hl2 : ds.length ≤ 24
    rotate_left
    · rw [decide_eq_false (show ¬ ((xs.length : Nat) : Int) ≤ 24 by omega)]
      exact iteT ⟨Nat.zero_le _, fun t ht => raised1 M.O M.no fun x H' hx s => kE [] (out fun z => hl2 z.2) t x H' hx (s _ _ upd_same) ((s_new ht).trans s)⟩
    rw [decide_eq_true (show ((xs.length : Nat) : Int) ≤ 24 by omega)]
    refine iteF ?_
    have hpl := placeP_B ⟨hl1, hl2⟩
    have hbd2 : bndDs ds = true := by simpa [bndD] using hbd
    refine fun p hp q hq => ?_
    have npq : p ≠ q := fun e => by rw [← e, upd_same] at hq; cases hq
    have hq0 : H q = none := by rw [upd_ne (Ne.symm npq)] at hq; exact hq
    have nap : a ≠ p := ne_of_none ha hp
    have naq : a ≠ q := ne_of_none ha hq0
    have s1 : Same H (upd (upd H p (.dK [])) q (.dK [])) := same_upd (s_new hp) hq
    refine ⟨_, rfl, _, rfl, _, rfl, a, p, q, xs, ds, rfl, s1 _ _ ha, DqAll.same s1 hall, hl2, hbd2, by rw [upd_ne npq]; exact upd_same, upd_same, npq, H, s1, hp, hq0, ha, hall, fun H1 s1 h1 h1q => ?_⟩
    have hat := fun i r => @aheadB_at ds [] 1 i r
    have hml := aheadB_len ds [] 1
    have kQ2 : placeP (.tuple ds) = none → ∀ (t : Addr) (H' : Hp), H' p = some (.dK (rchK (aheadB ds [] 1))) → H' t = some (.tup [.ref p, .int ((rootsF (aheadB ds [] 1) 0 : Nat) : Int)]) → Same H H' → Q (.ref t) H' := fun h t H' h1 h2 s => kQ h ds t p H' rfl hp h1 h2 s
    generalize aheadB ds [] 1 = pre at hpl h1 h1q hat hml kQ2
    have hkind : ∀ (i : Nat) (r : Rk), pre[i]? = some r → ∃ (q : Addr) (ve vb vl : V), xs[i]? = some (.ref q) ∧ H q = some (.tup [.str r.nm, ve, vb, vl, .str r.mr]) ∧ r.nm.length ≤ 8 ∧ r.mr.length ≤ 1000 := fun i r hr => by
      obtain ⟨e, b, l, hds, b1⟩ := hat i r hr
      have hi : i < xs.length := by
        have := (List.getElem?_eq_some_iff.mp hds).1
        omega
      have hx := List.getElem?_eq_getElem hi
      generalize xs[i] = y at hx
      obtain ⟨d, hd, hqd⟩ := dq_at i hall hx
      rw [hds] at hd
      cases hd
      have hb2 := bndDs_all hbd2 _ (List.mem_of_getElem? hds)
      simp only [bndD, bndDs, Bool.and_eq_true, decide_eq_true_eq] at hb2
      cases hqd with
      | tup hq5 hqs =>
      cases hqs with
      | cons c1 t1 => cases t1 with
        | cons c2 t2 => cases t2 with
          | cons c3 t3 => cases t3 with
            | cons c4 t4 => cases t4 with
              | cons c5 t5 =>
                cases t5
                cases c1
                cases c5
                exact ⟨_, _, _, _, hx, hq5, b1, hb2.2.2.2.2.1⟩
    have hkeys : ∀ (i : Nat) (k : Key) (v : V), (rchK pre)[i]? = some (k, v) → ∃ r, pre[i]? = some r ∧ k = kx r.nm := fun i k v h => by
      unfold rchK at h
      rw [List.getElem?_map] at h
      cases hp : pre[i]? with
      | none => rw [hp] at h; cases h
      | some r =>
        rw [hp] at h
        cases h
        exact ⟨r, rfl, rfl⟩
    have hnames : ∀ x ∈ pre.map Rk.nm, x.length ≤ 8 := fun x hx => by
      obtain ⟨r, hm, rfl⟩ := List.mem_map.mp hx
      obtain ⟨i, hi, e⟩ := List.mem_iff_getElem.mp hm
      obtain ⟨_, _, _, _, _, _, b1, _⟩ := hkind i r (by rw [List.getElem?_eq_getElem hi, e])
      exact b1
    have hmarks : ∀ x ∈ pre.map Rk.mr, x.length ≤ 1000 := fun x hx => by
      obtain ⟨r, hm, rfl⟩ := List.mem_map.mp hx
      obtain ⟨i, hi, e⟩ := List.mem_iff_getElem.mp hm
      obtain ⟨_, _, _, _, _, _, _, b2⟩ := hkind i r (by rw [List.getElem?_eq_getElem hi, e])
      exact b2
    refine ⟨fun σ' H' => ∃ (w4 w5 : Option V), σ' = [some (.ref a), some (.ref p), some (.ref q), some (.int ((rootsF pre 0 : Nat) : Int)), w4, w5] ∧ Same H H' ∧ H' p = some (.dK (rchK pre)) ∧ badB pre 0 = none, ?_, ?_⟩
    rotate_left
    · -- behind the looks
      rintro σ' H4 ⟨w4, w5, rfl, s4, h4, hb⟩
      rw [hb] at hpl
      refine ⟨_, rfl, p, _, rfl, h4, _, rfl, a, _, rfl, .inr (SqT.of (s4 _ _ ha)), _, _, rfl, rfl, _, rfl, ?_⟩
      by_cases hlt : pre.length < ds.length
      · rw [decide_eq_true (show (((rchK pre).length : Nat) : Int) < ((xs.length : Nat) : Int) by rw [rch_len]; omega)]
        refine iteT ?_
        refine ⟨_, rfl, p, _, rfl, h4, by show 1 ≤ sizeLine; decide, fun t ht => raised1 M.O M.no fun x H' hx s => kE [pre.length] (by rw [hpl]; exact if_pos hlt) t x H' hx ?_ ((s4.trans (s_new ht)).trans s)⟩
        rw [s _ _ upd_same, rch_len]
        rfl
      · rw [decide_eq_false (show ¬ (((rchK pre).length : Nat) : Int) < ((xs.length : Nat) : Int) by rw [rch_len]; omega)]
        refine iteF ?_
        refine ⟨_, rfl, _, rfl, by show 2 ≤ sizeLine; decide, fun t ht => kQ2 (by rw [hpl]; exact if_neg hlt) t _ (upd_keep h4 ht) upd_same (s4.trans (s_new ht))⟩
    refine ⟨_, rfl, p, _, rfl, DGet.k (k := kx "") h1, _, rfl, ?_⟩
    by_cases he : ("" : Str) ∈ pre.map Rk.nm
    · rw [rch_get he]
      refine iteT (iteT ?_)
      have s5 := s1
      have hp5 := h1
      refine ⟨p, .dK (rchK pre), hp5, trivial, fun od => ?_⟩
      refine ⟨_, rfl, p, od, rchK pre, rfl, upd_same, for_enD (a := p) (od := od) (kvs := rchK pre) (fun i σ H' => Same H H' ∧ H' p = some (.frz od (.dK (rchK pre))) ∧ (∀ k r, k < i → pre[k]? = some r → goodR r = true) ∧ ∃ w4 w5 : Option V, σ = [some (.ref a), some (.ref p), some (.ref q), some (.int ((rootsF pre 0 : Nat) : Int)), w4, w5])
        ⟨fun b o e' => by rw [upd_ne (ne_of_none e' hp)]; exact s5 b o e', upd_same, fun k r hk _ => absurd hk (Nat.not_lt_zero _), _, _, rfl⟩ (fun i σ H' _ ⟨_, h, _⟩ => h) ?_ ?_⟩
      · rintro i k v σ H6 T6 hkv ⟨s6, hp6, hg6, w4, w5, rfl⟩ hT6
        obtain ⟨r, hri, rfl⟩ := hkeys i k v hkv
        obtain ⟨q5, ve, vb, vl, hxi, hq5, b1, b2⟩ := hkind i r hri
        have s7 : Same H (upd H6 T6 (.tup [.int (i : Nat), .str r.nm])) := s6.trans (s_new hT6)
        have hp7 : upd H6 T6 (.tup [.int (i : Nat), .str r.nm]) p = some (.frz od (.dK (rchK pre))) := upd_keep hp6 hT6
        refine ⟨T6, _, rfl, SqT.of upd_same, rfl, _, _, rfl, _, _, rfl, rfl, ?_⟩
        show tIfS _ _ _ _ _ (upd H6 T6 (.tup [.int (i : Nat), .str r.nm]))
        generalize upd H6 T6 (.tup [.int (i : Nat), .str r.nm]) = H7 at s7 hp7
        refine ⟨_, rfl, r.nm, rfl, by omega, _, rfl, ?_⟩
        by_cases ho : (decide (r.nm.length ≠ 0) && okS r.nm) = true
        · rw [ho]
          refine iteF ?_
          refine ⟨_, rfl, _, rfl, a, xs, _, _, rfl, rfl, SqT.of (s7 _ _ ha), atI_nat hxi, q5, _, _, _, rfl, rfl, SqT.of (s7 _ _ hq5), rfl, by show 1 ≤ sizeLine; decide, fun lq hlq => ⟨lq, [r.mr], rfl, upd_same, by simp, by show 1 ≤ 2 ^ 5; decide, by show 1 ≤ 24; decide, fun m hm => by rw [List.mem_singleton.mp hm]; exact b2, fun H8 s8 => ⟨_, rfl, ?_⟩⟩⟩
          have s9 := (s7.trans (s_new hlq)).trans s8
          have hp9 := s8 _ _ (upd_keep hp7 hlq)
          have e1 : [r.mr].all okM = okM r.mr := by simp
          rw [e1]
          by_cases hm : okM r.mr = true
          · rw [hm]
            refine iteF ?_
            refine ⟨s9, hp9, fun k r' hk hr' => ?_, _, _, rfl⟩
            rcases Nat.lt_succ_iff_lt_or_eq.mp hk with hk | rfl
            · exact hg6 k r' hk hr'
            · rw [hri] at hr'
              cases hr'
              show (decide (r.nm.length ≠ 0) && okS r.nm && okM r.mr) = true
              rw [ho, hm]
              rfl
          · have hb : badB pre 0 = some i := by
              have := badB_some pre 0 i hri hg6 (by show ¬ (decide (r.nm.length ≠ 0) && okS r.nm && okM r.mr) = true; rw [Bool.and_eq_true]; exact fun z => hm z.2)
              rwa [Nat.zero_add] at this
            rw [hb] at hpl
            rw [Bool.not_eq_true] at hm
            rw [hm]
            refine iteT ?_
            exact ⟨_, rfl, by show 1 ≤ sizeLine; decide, fun t ht => raised1 M.O M.no fun x H' hx s => kE [i] hpl t x H' hx (s _ _ upd_same) ((s9.trans (s_new ht)).trans s)⟩
        · have hb : badB pre 0 = some i := by
            have := badB_some pre 0 i hri hg6 (by show ¬ (decide (r.nm.length ≠ 0) && okS r.nm && okM r.mr) = true; rw [Bool.and_eq_true]; exact fun z => ho z.1)
            rwa [Nat.zero_add] at this
          rw [hb] at hpl
          rw [Bool.not_eq_true] at ho
          rw [ho]
          refine iteT (iteT ?_)
          exact ⟨_, rfl, by show 1 ≤ sizeLine; decide, fun t ht => raised1 M.O M.no fun x H' hx s => kE [i] hpl t x H' hx (s _ _ upd_same) ((s7.trans (s_new ht)).trans s)⟩
      · rintro σ H6 ⟨s6, hp6, hg6, w4, w5, rfl⟩
        rw [rch_len] at hg6
        refine ⟨hp6, _, _, rfl, fun b o e' => by rw [upd_ne (ne_of_none e' hp)]; exact s6 b o e', upd_same, badB_none pre 0 fun r hr => ?_⟩
        obtain ⟨k, hk, e⟩ := List.mem_iff_getElem.mp hr
        exact hg6 k r hk (by rw [List.getElem?_eq_getElem hk, e])
    rw [rch_none he]
    refine iteF ?_
    refine ⟨⟨_, rfl⟩, _, rfl, _, p, pre.map Rk.nm, _, rfl, rfl, h1, rch_keys _, ?_, ?_⟩
    · show ((pre.map Rk.nm).map (·.length)).sum + (pre.map Rk.nm).length * 0 ≤ 16777216
      have := sum_le (fun x : Str => x.length) 8 (pre.map Rk.nm) hnames
      rw [List.length_map] at this ⊢
      omega
    refine ⟨_, rfl, ?_, _, rfl, ?_⟩
    · have := join_le hnames
      rw [List.length_map] at this
      omega
    by_cases hg : (decide ((Txt.join "" (pre.map Rk.nm)).length ≠ 0) && okS (Txt.join "" (pre.map Rk.nm))) = true
    rotate_left
    · rw [Bool.not_eq_true] at hg
      rw [hg]
      refine iteT (iteT ?_)
      have s5 := s1
      have hp5 := h1
      refine ⟨p, .dK (rchK pre), hp5, trivial, fun od => ?_⟩
      refine ⟨_, rfl, p, od, rchK pre, rfl, upd_same, for_enD (a := p) (od := od) (kvs := rchK pre) (fun i σ H' => Same H H' ∧ H' p = some (.frz od (.dK (rchK pre))) ∧ (∀ k r, k < i → pre[k]? = some r → goodR r = true) ∧ ∃ w4 w5 : Option V, σ = [some (.ref a), some (.ref p), some (.ref q), some (.int ((rootsF pre 0 : Nat) : Int)), w4, w5])
        ⟨fun b o e' => by rw [upd_ne (ne_of_none e' hp)]; exact s5 b o e', upd_same, fun k r hk _ => absurd hk (Nat.not_lt_zero _), _, _, rfl⟩ (fun i σ H' _ ⟨_, h, _⟩ => h) ?_ ?_⟩
      · rintro i k v σ H6 T6 hkv ⟨s6, hp6, hg6, w4, w5, rfl⟩ hT6
        obtain ⟨r, hri, rfl⟩ := hkeys i k v hkv
        obtain ⟨q5, ve, vb, vl, hxi, hq5, b1, b2⟩ := hkind i r hri
        have s7 : Same H (upd H6 T6 (.tup [.int (i : Nat), .str r.nm])) := s6.trans (s_new hT6)
        have hp7 : upd H6 T6 (.tup [.int (i : Nat), .str r.nm]) p = some (.frz od (.dK (rchK pre))) := upd_keep hp6 hT6
        refine ⟨T6, _, rfl, SqT.of upd_same, rfl, _, _, rfl, _, _, rfl, rfl, ?_⟩
        show tIfS _ _ _ _ _ (upd H6 T6 (.tup [.int (i : Nat), .str r.nm]))
        generalize upd H6 T6 (.tup [.int (i : Nat), .str r.nm]) = H7 at s7 hp7
        refine ⟨_, rfl, r.nm, rfl, by omega, _, rfl, ?_⟩
        by_cases ho : (decide (r.nm.length ≠ 0) && okS r.nm) = true
        · rw [ho]
          refine iteF ?_
          refine ⟨_, rfl, _, rfl, a, xs, _, _, rfl, rfl, SqT.of (s7 _ _ ha), atI_nat hxi, q5, _, _, _, rfl, rfl, SqT.of (s7 _ _ hq5), rfl, by show 1 ≤ sizeLine; decide, fun lq hlq => ⟨lq, [r.mr], rfl, upd_same, by simp, by show 1 ≤ 2 ^ 5; decide, by show 1 ≤ 24; decide, fun m hm => by rw [List.mem_singleton.mp hm]; exact b2, fun H8 s8 => ⟨_, rfl, ?_⟩⟩⟩
          have s9 := (s7.trans (s_new hlq)).trans s8
          have hp9 := s8 _ _ (upd_keep hp7 hlq)
          have e1 : [r.mr].all okM = okM r.mr := by simp
          rw [e1]
          by_cases hm : okM r.mr = true
          · rw [hm]
            refine iteF ?_
            refine ⟨s9, hp9, fun k r' hk hr' => ?_, _, _, rfl⟩
            rcases Nat.lt_succ_iff_lt_or_eq.mp hk with hk | rfl
            · exact hg6 k r' hk hr'
            · rw [hri] at hr'
              cases hr'
              show (decide (r.nm.length ≠ 0) && okS r.nm && okM r.mr) = true
              rw [ho, hm]
              rfl
          · have hb : badB pre 0 = some i := by
              have := badB_some pre 0 i hri hg6 (by show ¬ (decide (r.nm.length ≠ 0) && okS r.nm && okM r.mr) = true; rw [Bool.and_eq_true]; exact fun z => hm z.2)
              rwa [Nat.zero_add] at this
            rw [hb] at hpl
            rw [Bool.not_eq_true] at hm
            rw [hm]
            refine iteT ?_
            exact ⟨_, rfl, by show 1 ≤ sizeLine; decide, fun t ht => raised1 M.O M.no fun x H' hx s => kE [i] hpl t x H' hx (s _ _ upd_same) ((s9.trans (s_new ht)).trans s)⟩
        · have hb : badB pre 0 = some i := by
            have := badB_some pre 0 i hri hg6 (by show ¬ (decide (r.nm.length ≠ 0) && okS r.nm && okM r.mr) = true; rw [Bool.and_eq_true]; exact fun z => ho z.1)
            rwa [Nat.zero_add] at this
          rw [hb] at hpl
          rw [Bool.not_eq_true] at ho
          rw [ho]
          refine iteT (iteT ?_)
          exact ⟨_, rfl, by show 1 ≤ sizeLine; decide, fun t ht => raised1 M.O M.no fun x H' hx s => kE [i] hpl t x H' hx (s _ _ upd_same) ((s7.trans (s_new ht)).trans s)⟩
      · rintro σ H6 ⟨s6, hp6, hg6, w4, w5, rfl⟩
        rw [rch_len] at hg6
        refine ⟨hp6, _, _, rfl, fun b o e' => by rw [upd_ne (ne_of_none e' hp)]; exact s6 b o e', upd_same, badB_none pre 0 fun r hr => ?_⟩
        obtain ⟨k, hk, e⟩ := List.mem_iff_getElem.mp hr
        exact hg6 k r hk (by rw [List.getElem?_eq_getElem hk, e])
    have hg1 := hg
    rw [Bool.and_eq_true, decide_eq_true_eq] at hg1
    rw [hg]
    refine iteF ?_
    have hne : pre ≠ [] := fun e => by
      rw [e] at hg1
      exact hg1.1 rfl
    have hfl := firsts_le (pre.map Rk.mr)
    rw [List.length_map] at hfl
    refine ⟨_, rfl, q, _, rfl, .inl h1q, fun D hD => ⟨D, firsts (pre.map Rk.mr), rfl, ?_, ?_, by omega, by omega, fun m hm => hmarks m (firsts_mem hm), fun H4 s4 => ⟨_, rfl, ?_⟩⟩⟩
    · rw [upd_same, nmT_keys]
    · exact firsts_ne fun e => hne (List.map_eq_nil_iff.mp e)
    have s5 := (s1.trans (s_new hD)).trans s4
    have hp5 := s4 _ _ (upd_keep h1 hD)
    rw [firsts_all]
    by_cases hm : (pre.map Rk.mr).all okM = true
    · rw [hm]
      refine iteF ?_
      refine ⟨_, _, rfl, s5, hp5, badB_none pre 0 fun r hr => ?_⟩
      rw [okS_join, List.all_eq_true] at hg1
      rw [List.all_eq_true] at hm
      show (decide (r.nm.length ≠ 0) && okS r.nm && okM r.mr) = true
      rw [hg1.2 _ (List.mem_map.mpr ⟨r, hr, rfl⟩), hm _ (List.mem_map.mpr ⟨r, hr, rfl⟩), decide_eq_true]
      · rfl
      · intro z
        exact he (List.mem_map.mpr ⟨r, hr, len0 z⟩)
    · rw [Bool.not_eq_true] at hm
      rw [hm]
      refine iteT ?_
      refine ⟨p, .dK (rchK pre), hp5, trivial, fun od => ?_⟩
      refine ⟨_, rfl, p, od, rchK pre, rfl, upd_same, for_enD (a := p) (od := od) (kvs := rchK pre) (fun i σ H' => Same H H' ∧ H' p = some (.frz od (.dK (rchK pre))) ∧ (∀ k r, k < i → pre[k]? = some r → goodR r = true) ∧ ∃ w4 w5 : Option V, σ = [some (.ref a), some (.ref p), some (.ref q), some (.int ((rootsF pre 0 : Nat) : Int)), w4, w5])
        ⟨fun b o e' => by rw [upd_ne (ne_of_none e' hp)]; exact s5 b o e', upd_same, fun k r hk _ => absurd hk (Nat.not_lt_zero _), _, _, rfl⟩ (fun i σ H' _ ⟨_, h, _⟩ => h) ?_ ?_⟩
      · rintro i k v σ H6 T6 hkv ⟨s6, hp6, hg6, w4, w5, rfl⟩ hT6
        obtain ⟨r, hri, rfl⟩ := hkeys i k v hkv
        obtain ⟨q5, ve, vb, vl, hxi, hq5, b1, b2⟩ := hkind i r hri
        have s7 : Same H (upd H6 T6 (.tup [.int (i : Nat), .str r.nm])) := s6.trans (s_new hT6)
        have hp7 : upd H6 T6 (.tup [.int (i : Nat), .str r.nm]) p = some (.frz od (.dK (rchK pre))) := upd_keep hp6 hT6
        refine ⟨T6, _, rfl, SqT.of upd_same, rfl, _, _, rfl, _, _, rfl, rfl, ?_⟩
        show tIfS _ _ _ _ _ (upd H6 T6 (.tup [.int (i : Nat), .str r.nm]))
        generalize upd H6 T6 (.tup [.int (i : Nat), .str r.nm]) = H7 at s7 hp7
        refine ⟨_, rfl, r.nm, rfl, by omega, _, rfl, ?_⟩
        by_cases ho : (decide (r.nm.length ≠ 0) && okS r.nm) = true
        · rw [ho]
          refine iteF ?_
          refine ⟨_, rfl, _, rfl, a, xs, _, _, rfl, rfl, SqT.of (s7 _ _ ha), atI_nat hxi, q5, _, _, _, rfl, rfl, SqT.of (s7 _ _ hq5), rfl, by show 1 ≤ sizeLine; decide, fun lq hlq => ⟨lq, [r.mr], rfl, upd_same, by simp, by show 1 ≤ 2 ^ 5; decide, by show 1 ≤ 24; decide, fun m hm => by rw [List.mem_singleton.mp hm]; exact b2, fun H8 s8 => ⟨_, rfl, ?_⟩⟩⟩
          have s9 := (s7.trans (s_new hlq)).trans s8
          have hp9 := s8 _ _ (upd_keep hp7 hlq)
          have e1 : [r.mr].all okM = okM r.mr := by simp
          rw [e1]
          by_cases hm : okM r.mr = true
          · rw [hm]
            refine iteF ?_
            refine ⟨s9, hp9, fun k r' hk hr' => ?_, _, _, rfl⟩
            rcases Nat.lt_succ_iff_lt_or_eq.mp hk with hk | rfl
            · exact hg6 k r' hk hr'
            · rw [hri] at hr'
              cases hr'
              show (decide (r.nm.length ≠ 0) && okS r.nm && okM r.mr) = true
              rw [ho, hm]
              rfl
          · have hb : badB pre 0 = some i := by
              have := badB_some pre 0 i hri hg6 (by show ¬ (decide (r.nm.length ≠ 0) && okS r.nm && okM r.mr) = true; rw [Bool.and_eq_true]; exact fun z => hm z.2)
              rwa [Nat.zero_add] at this
            rw [hb] at hpl
            rw [Bool.not_eq_true] at hm
            rw [hm]
            refine iteT ?_
            exact ⟨_, rfl, by show 1 ≤ sizeLine; decide, fun t ht => raised1 M.O M.no fun x H' hx s => kE [i] hpl t x H' hx (s _ _ upd_same) ((s9.trans (s_new ht)).trans s)⟩
        · have hb : badB pre 0 = some i := by
            have := badB_some pre 0 i hri hg6 (by show ¬ (decide (r.nm.length ≠ 0) && okS r.nm && okM r.mr) = true; rw [Bool.and_eq_true]; exact fun z => ho z.1)
            rwa [Nat.zero_add] at this
          rw [hb] at hpl
          rw [Bool.not_eq_true] at ho
          rw [ho]
          refine iteT (iteT ?_)
          exact ⟨_, rfl, by show 1 ≤ sizeLine; decide, fun t ht => raised1 M.O M.no fun x H' hx s => kE [i] hpl t x H' hx (s _ _ upd_same) ((s7.trans (s_new ht)).trans s)⟩
      · rintro σ H6 ⟨s6, hp6, hg6, w4, w5, rfl⟩
        rw [rch_len] at hg6
        refine ⟨hp6, _, _, rfl, fun b o e' => by rw [upd_ne (ne_of_none e' hp)]; exact s6 b o e', upd_same, badB_none pre 0 fun r hr => ?_⟩
        obtain ⟨k, hk, e⟩ := List.mem_iff_getElem.mp hr
        exact hg6 k r hk (by rw [List.getElem?_eq_getElem hk, e])
end
end Cp

set_option Elab.async false
set_option linter.all false
set_option maxRecDepth 100000
/-! ### a layout as data; what its kinds reach -/
namespace Cp
open PySem PySem.Spec L2 PyProof.Rows
def kdData (k : Kd) : PyData := .tuple [.str k.nm, .int k.ed, .tuple (k.bs.map PyData.str), .str (ltr k.lt), .str k.mrk]
def rksA : List Kd → List Rk → List Rk
  | [], _ => []
  | k :: r, pre => newR pre k.nm k.mrk k.bs :: rksA r (pre ++ [newR pre k.nm k.mrk k.bs])
def rks (ks : List Kd) : List Rk := rksA ks []
theorem rksA_nm : ∀ (ks : List Kd) (pre : List Rk), (rksA ks pre).map Rk.nm = ks.map Kd.nm
  | [], _ => rfl
  | k :: r, pre => by
    show k.nm :: (rksA r (pre ++ [newR pre k.nm k.mrk k.bs])).map Rk.nm = _
    rw [rksA_nm r]
    rfl
theorem rksA_mr : ∀ (ks : List Kd) (pre : List Rk), (rksA ks pre).map Rk.mr = ks.map Kd.mrk
  | [], _ => rfl
  | k :: r, pre => by
    show k.mrk :: (rksA r (pre ++ [newR pre k.nm k.mrk k.bs])).map Rk.mr = _
    rw [rksA_mr r]
    rfl
theorem rks_nm (ks : List Kd) : (rks ks).map Rk.nm = ks.map Kd.nm := rksA_nm ks []
theorem rks_mr (ks : List Kd) : (rks ks).map Rk.mr = ks.map Kd.mrk := rksA_mr ks []
theorem rks_len (ks : List Kd) : (rks ks).length = ks.length := by
  have := congrArg List.length (rks_nm ks)
  rwa [List.length_map, List.length_map] at this
theorem strs_dq (H : Hp) : ∀ bs : List Str, DqAll H (bs.map V.str) (bs.map PyData.str)
  | [] => .nil
  | b :: r => .cons (.str b) (strs_dq H r)
theorem row_dq {H : Hp} {p : Addr} {k : Kd} (r : RowAt H p k) : Dq H (.ref p) (kdData k) := by
  obtain ⟨b, h1, h2⟩ := r
  exact .tup h1 (.cons (.str _) (.cons (.int _) (.cons (.tup h2 (strs_dq H _)) (.cons (.str _) (.cons (.str _) .nil)))))
theorem rows_dq {H : Hp} : ∀ {as : List Addr} {ks : List Kd}, RowsAt H as ks → DqAll H (as.map V.ref) (ks.map kdData)
  | [], [], _ => .nil
  | [], k :: r, h => absurd h.1 (by simp)
  | a :: as, [], h => absurd h.1 (by simp)
  | a :: as, k :: ks, h => .cons (row_dq (h.2 0 a k rfl rfl)) (rows_dq ⟨by have := h.1; simpa using this, fun i p q h1 h2 => h.2 (i + 1) p q (by rw [List.getElem?_cons_succ]; exact h1) (by rw [List.getElem?_cons_succ]; exact h2)⟩)
theorem LayAt.dq {H : Hp} {a : Addr} {as : List Addr} {ks : List Kd} (L : LayAt H a as ks) : Dq H (.ref a) (.tuple (ks.map kdData)) := .tup L.tp (rows_dq L.rw)
theorem strOf_strs (bs : List Str) : (bs.map PyData.str).map strOf = bs := by
  induction bs with
  | nil => rfl
  | cons b r ih => rw [List.map_cons, List.map_cons, ih]; rfl
theorem ltr_let {n : Nat} (h : n < 26) : isLet (ltr n) = true := by
  have : ∀ c : Fin 26, isLet (ltr c.val) = true := by decide +kernel
  exact this ⟨n, h⟩
theorem okN_len {x : Str} (h : okN x = true) : 1 ≤ x.length ∧ x.length ≤ 8 ∧ okS x = true := by
  unfold okN at h
  simp only [Bool.and_eq_true, decide_eq_true_eq] at h
  exact ⟨h.1.1, h.1.2, h.2⟩
theorem step_kd {tk : List Str} {le : Int} {k : Kd} (o : OkK k) (hn : k.nm ∉ tk) (hl : le ≤ k.ed) (hb : ∀ b ∈ k.bs, b ∈ tk) : stepB tk le (kdData k) = some (k.nm, k.ed, k.mrk, k.bs) := by
  have hall : (k.bs.map PyData.str).all (strIn tk) = true := by
    rw [List.all_eq_true]
    intro d hd
    obtain ⟨b, hb', rfl⟩ := List.mem_map.mp hd
    exact decide_eq_true (hb b hb')
  have hbB : basesB tk (.tuple (k.bs.map PyData.str)) = true := by
    show (decide ((k.bs.map PyData.str).length ≤ 6) && ((k.bs.map PyData.str).all (strIn tk) && decide (((k.bs.map PyData.str).map strOf).Nodup))) = true
    rw [hall, strOf_strs, List.length_map, decide_eq_true o.bl, decide_eq_true o.bn]
    rfl
  have hok : okHeadB tk le k.nm k.ed (ltr k.lt) (.tuple (k.bs.map PyData.str)) = true := by
    unfold okHeadB
    rw [decide_eq_true (okN_len o.nm).2.1, decide_eq_false hn, decide_eq_true hl, decide_eq_true o.e2, ltr_let o.lt, hbB]
    rfl
  have e : stepB tk le (kdData k) = some (k.nm, k.ed, k.mrk, basL (.tuple (k.bs.map PyData.str))) := if_pos hok
  rw [e]
  show some (k.nm, k.ed, k.mrk, (k.bs.map PyData.str).map strOf) = _
  rw [strOf_strs]
theorem ahead_ks : ∀ (ks done : List Kd) (pre : List Rk) (le : Int), Frm (done ++ ks) → pre.map Rk.nm = done.map Kd.nm → (∀ k, ks[0]? = some k → le ≤ k.ed) → aheadB (ks.map kdData) pre le = rksA ks pre
  | [], _, _, _, _, _, _ => rfl
  | k :: r, done, pre, le, F, hp, hl => by
    have hk : (done ++ k :: r)[done.length]? = some k := by
      rw [List.getElem?_append_right (Nat.le_refl _), Nat.sub_self]
      rfl
    have o := F.ok k (List.mem_of_getElem? hk)
    have htk : (done ++ k :: r).take done.length = done := by rw [List.take_append_of_le_length (Nat.le_refl _), List.take_length]
    have hb := F.bas _ k hk
    rw [htk] at hb
    have hn : k.nm ∉ done.map Kd.nm := by
      have nd := F.nd
      rw [List.map_append, List.map_cons, List.nodup_append] at nd
      exact fun z => nd.2.2 _ z _ List.mem_cons_self rfl
    have hst := step_kd (tk := pre.map Rk.nm) (le := le) o (by rw [hp]; exact hn) (hl k rfl) (by rw [hp]; exact hb)
    show aheadB (kdData k :: r.map kdData) pre le = _
    conv => lhs; rw [aheadB.eq_def]
    simp only [hst]
    show _ :: aheadB (r.map kdData) (pre ++ [newR pre k.nm k.mrk k.bs]) k.ed = _ :: rksA r (pre ++ [newR pre k.nm k.mrk k.bs])
    rw [ahead_ks r (done ++ [k]) (pre ++ [newR pre k.nm k.mrk k.bs]) k.ed (by rw [List.append_assoc]; exact F) (by rw [List.map_append, List.map_append, hp]; rfl) fun k2 h2 => by
      have hk2 : (done ++ k :: r)[done.length + 1]? = some k2 := by
        rw [List.getElem?_append_right (by omega), Nat.add_sub_cancel_left]
        exact h2
      exact F.mono _ _ k k2 (Nat.lt_succ_self _) hk hk2]
theorem ahead_lay {ks : List Kd} (F : Frm ks) : aheadB (ks.map kdData) [] 1 = rks ks := ahead_ks ks [] [] 1 F rfl fun k h => (F.ok k (List.mem_of_getElem? h)).e1
theorem bnd_lay {ks : List Kd} (F : Frm ks) : bndD (.tuple (ks.map kdData)) = true := by
  have hs : ∀ bs : List Str, (∀ b ∈ bs, b.length ≤ 1000) → bndDs (bs.map PyData.str) = true := by
    intro bs
    induction bs with
    | nil => intro _; rfl
    | cons b r ih =>
      intro h
      show (decide (b.length ≤ 1000) && bndDs (r.map PyData.str)) = true
      rw [decide_eq_true (h b List.mem_cons_self), ih fun x hx => h x (List.mem_cons_of_mem _ hx)]
      rfl
  have hk : ∀ k, OkK k → bndD (kdData k) = true := fun k o => by
    show (decide (k.nm.length ≤ 1000) && (true && (bndDs (k.bs.map PyData.str) && (decide ((ltr k.lt).length ≤ 1000) && (decide (k.mrk.length ≤ 1000) && true))))) = true
    rw [decide_eq_true (by have := (okN_len o.nm).2.1; omega), hs k.bs fun b hb => by have := (okN_len (o.bo b hb)).2.1; omega, decide_eq_true (by rw [ltr_len]; decide), decide_eq_true (by have := okM_len' o.mr; omega)]
    rfl
  show bndDs (ks.map kdData) = true
  have : ∀ l : List Kd, (∀ k ∈ l, OkK k) → bndDs (l.map kdData) = true := by
    intro l
    induction l with
    | nil => intro _; rfl
    | cons k r ih =>
      intro h
      show (bndD (kdData k) && bndDs (r.map kdData)) = true
      rw [hk k (h k List.mem_cons_self), ih fun x hx => h x (List.mem_cons_of_mem _ hx)]
      rfl
  exact this ks F.ok
theorem place_lay {ks : List Kd} (F : Frm ks) (h1 : 1 ≤ ks.length) (h2 : ks.length ≤ 24) : placeP (.tuple (ks.map kdData)) = none := by
  rw [placeP_B ⟨by rw [List.length_map]; exact h1, by rw [List.length_map]; exact h2⟩, ahead_lay F]
  have hg : badB (rks ks) 0 = none := badB_none _ _ fun r hr => by
    obtain ⟨i, hi, e⟩ := List.mem_iff_getElem.mp hr
    have hr2 : (rks ks)[i]? = some r := by rw [List.getElem?_eq_getElem hi, e]
    have hik : i < ks.length := by rw [rks_len] at hi; exact hi
    have hk := List.getElem?_eq_getElem hik
    have o := F.ok _ (List.mem_of_getElem? hk)
    generalize ks[i] = k at hk o
    have e1 : r.nm = k.nm := by
      have := congrArg (fun l : List Str => l[i]?) (rks_nm ks)
      simp only [List.getElem?_map, hr2, hk, Option.map_some, Option.some.injEq] at this
      exact this
    have e2 : r.mr = k.mrk := by
      have := congrArg (fun l : List Str => l[i]?) (rks_mr ks)
      simp only [List.getElem?_map, hr2, hk, Option.map_some, Option.some.injEq] at this
      exact this
    have on := okN_len o.nm
    show (decide (r.nm.length ≠ 0) && okS r.nm && okM r.mr) = true
    rw [e1, e2, decide_eq_true (by omega), on.2.2, o.mr]
    rfl
  rw [hg]
  simp only
  rw [if_neg (by rw [rks_len, List.length_map]; omega)]
/-! ### the bits -/
def Bd (pre : List Rk) : Prop := ∀ r ∈ pre, r.bt < 2 ^ pre.length
theorem lkB_lt {pre : List Rk} (h : Bd pre) (x : Str) : lkB pre x < 2 ^ pre.length := by
  unfold lkB
  cases hf : pre.find? fun r => decide (r.nm = x) with
  | none => exact Nat.pow_pos (by decide)
  | some r => exact h r (List.mem_of_find?_eq_some hf)
theorem bitsB_bd {pre : List Rk} (h : Bd pre) (bs : List Str) : 2 ^ pre.length ≤ bitsB pre bs ∧ bitsB pre bs < 2 ^ (pre.length + 1) := by
  have : ∀ (l : List Str) (acc : Nat), 2 ^ pre.length ≤ acc → acc < 2 ^ (pre.length + 1) → 2 ^ pre.length ≤ l.foldl (fun acc x => acc ||| lkB pre x) acc ∧ l.foldl (fun acc x => acc ||| lkB pre x) acc < 2 ^ (pre.length + 1) := by
    intro l
    induction l with
    | nil => exact fun acc h1 h2 => ⟨h1, h2⟩
    | cons x r ih =>
      intro acc h1 h2
      rw [List.foldl_cons]
      refine ih _ (Nat.le_trans h1 Nat.left_le_or) (Nat.or_lt_two_pow h2 ?_)
      have := lkB_lt h x
      rw [Nat.pow_succ]
      omega
  refine this bs _ (Nat.le_refl _) ?_
  rw [Nat.pow_succ]
  have : 0 < 2 ^ pre.length := Nat.pow_pos (by decide)
  omega
theorem bd_snoc {pre : List Rk} (h : Bd pre) (n m : Str) (bs : List Str) : Bd (pre ++ [newR pre n m bs]) := by
  intro r hr
  rw [List.length_append]
  rcases List.mem_append.mp hr with hr | hr
  · have := h r hr
    show _ < 2 ^ (pre.length + 1)
    rw [Nat.pow_succ]
    omega
  · rw [List.mem_singleton.mp hr]
    exact (bitsB_bd h bs).2
theorem rksA_bt : ∀ (ks : List Kd) (pre : List Rk), Bd pre → ∀ (i : Nat) (r : Rk), (rksA ks pre)[i]? = some r → 2 ^ (pre.length + i) ≤ r.bt ∧ r.bt < 2 ^ (pre.length + i + 1)
  | [], _, _, i, r, h => by simp [rksA] at h
  | k :: l, pre, hb, 0, r, h => by
    simp only [rksA, List.getElem?_cons_zero, Option.some.injEq] at h
    subst h
    exact bitsB_bd hb k.bs
  | k :: l, pre, hb, i + 1, r, h => by
    simp only [rksA, List.getElem?_cons_succ] at h
    have := rksA_bt l _ (bd_snoc hb _ _ _) i r h
    rw [List.length_append] at this
    have e : pre.length + [newR pre k.nm k.mrk k.bs].length + i = pre.length + (i + 1) := by simp only [List.length_cons, List.length_nil]; omega
    rw [e] at this
    exact this
theorem rks_bt {ks : List Kd} {i : Nat} {r : Rk} (h : (rks ks)[i]? = some r) : 2 ^ i ≤ r.bt ∧ r.bt < 2 ^ (i + 1) := by
  have := rksA_bt ks [] (fun r hr => by simp at hr) i r h
  simpa using this
theorem bits_len {n i : Nat} (h1 : 2 ^ i ≤ n) (h2 : n < 2 ^ (i + 1)) : Builtin.Int.intBits ((n : Nat) : Int) = i + 1 := by
  unfold Builtin.Int.intBits
  have hp : 0 < 2 ^ i := Nat.pow_pos (by decide)
  have h0 : n ≠ 0 := by omega
  rw [if_neg (by simpa using h0), Int.natAbs_natCast]
  congr 1
  exact (Nat.log2_eq_iff h0).mpr ⟨h1, h2⟩
end Cp

set_option Elab.async false
set_option linter.all false
set_option maxRecDepth 100000
/-! ### beneath, step by step: from the bases up, from the name down -/
namespace Cp
open PySem L2
def U (ks : List Kd) (x : Str) : List Str := look (undAll ks ks []) x
theorem look?_app_in {fs gs : List (Str × List Str)} {x : Str} (h : x ∈ fs.map (·.1)) : look? (fs ++ gs) x = look? fs x := by
  obtain ⟨ys, e⟩ := look?_some h
  unfold look? at e ⊢
  rw [List.find?_append]
  cases e2 : fs.find? fun f => decide (f.1 = x) with
  | none => rw [e2] at e; cases e
  | some f => rfl
theorem U_at {ks : List Kd} (F : Frm ks) {i : Nat} {k : Kd} (hk : ks[i]? = some k) : U ks k.nm = undOf ks (undAll ks (ks.take i) []) k := by
  unfold U look
  rw [look_full F.nd hk]
  rfl
theorem base_at {ks : List Kd} (F : Frm ks) {i : Nat} {k : Kd} (hk : ks[i]? = some k) {b : Str} (hb : b ∈ k.bs) : ∃ j kb, j < i ∧ ks[j]? = some kb ∧ kb.nm = b := by
  have h := F.bas i k hk b hb
  obtain ⟨kb, h1, h2⟩ := List.mem_map.mp h
  obtain ⟨j, hj⟩ := List.getElem?_of_mem h1
  have hji : j < i := by
    have := (List.getElem?_eq_some_iff.mp hj).1
    rw [List.length_take] at this
    omega
  rw [List.getElem?_take, if_pos hji] at hj
  exact ⟨j, kb, hji, hj, h2⟩
theorem look_preU {ks : List Kd} (F : Frm ks) {i : Nat} {k : Kd} (hk : ks[i]? = some k) {b : Str} (hb : b ∈ k.bs) : look (undAll ks (ks.take i) []) b = U ks b := by
  have hin : b ∈ (undAll ks (ks.take i) []).map (·.1) := by
    rw [undAll_names]
    exact F.bas i k hk b hb
  have e : undAll ks ks [] = undAll ks (ks.take i ++ ks.drop i) [] := by rw [List.take_append_drop]
  obtain ⟨r, e3⟩ := undAll_pre ks (ks.drop i) (undAll ks (ks.take i) [])
  unfold U look
  rw [e, undAll_app, e3, look?_app_in hin]
theorem U_iff {ks : List Kd} (F : Frm ks) {i : Nat} {k : Kd} (hk : ks[i]? = some k) {y : Str} : y ∈ U ks k.nm ↔ ∃ b ∈ k.bs, y = b ∨ y ∈ U ks b := by
  rw [U_at F hk]
  have own : y ∈ ownOf (undAll ks (ks.take i) []) k.bs ↔ ∃ b ∈ k.bs, y = b ∨ y ∈ U ks b := by
    unfold ownOf
    rw [List.mem_flatMap]
    constructor
    · rintro ⟨b, hb, h⟩
      rw [look_preU F hk hb] at h
      rcases List.mem_append.mp h with h | h
      · exact ⟨b, hb, .inr h⟩
      · exact ⟨b, hb, .inl (List.mem_singleton.mp h)⟩
    · rintro ⟨b, hb, h⟩
      refine ⟨b, hb, ?_⟩
      rw [look_preU F hk hb]
      rcases h with h | h
      · exact List.mem_append_right _ (by rw [h]; exact List.mem_singleton_self _)
      · exact List.mem_append_left _ h
  rw [← own]
  constructor
  · intro h
    exact of_decide_eq_true (List.mem_filter.mp h).2
  · intro h
    refine List.mem_filter.mpr ⟨?_, decide_eq_true h⟩
    have := own_sub (F.bas i k hk) (und_sub F i (Nat.le_of_lt (List.getElem?_eq_some_iff.mp hk).1)) h
    obtain ⟨q, h1, h2⟩ := List.mem_map.mp this
    exact List.mem_map.mpr ⟨q, List.mem_of_mem_take h1, h2⟩
/-- what is beneath stands ahead -/
theorem U_ahead {ks : List Kd} (F : Frm ks) {i : Nat} {k : Kd} (hk : ks[i]? = some k) {y : Str} (h : y ∈ U ks k.nm) : ∃ j ky, j < i ∧ ks[j]? = some ky ∧ ky.nm = y := by
  rw [U_at F hk] at h
  obtain ⟨kb, h1, h2⟩ := List.mem_map.mp (undOf_sub F hk h)
  obtain ⟨j, hj⟩ := List.getElem?_of_mem h1
  have hji : j < i := by
    have := (List.getElem?_eq_some_iff.mp hj).1
    rw [List.length_take] at this
    omega
  rw [List.getElem?_take, if_pos hji] at hj
  exact ⟨j, kb, hji, hj, h2⟩
/-- the last step instead of the first one -/
theorem U_last {ks : List Kd} (F : Frm ks) : ∀ (i : Nat) {k : Kd}, ks[i]? = some k → ∀ y, y ∈ U ks k.nm ↔ y ∈ k.bs ∨ ∃ k' ∈ ks, k'.nm ∈ U ks k.nm ∧ y ∈ k'.bs := by
  intro i
  induction i using Nat.strongRecOn with
  | ind i ih =>
    intro k hk y
    constructor
    · intro h
      obtain ⟨b, hb, e⟩ := (U_iff F hk).mp h
      rcases e with rfl | e
      · exact .inl hb
      · obtain ⟨j, kb, hj, hkb, rfl⟩ := base_at F hk hb
        rcases (ih j hj hkb y).mp e with e | ⟨k', h1, h2, h3⟩
        · exact .inr ⟨kb, List.mem_of_getElem? hkb, (U_iff F hk).mpr ⟨_, hb, .inl rfl⟩, e⟩
        · exact .inr ⟨k', h1, (U_iff F hk).mpr ⟨_, hb, .inr h2⟩, h3⟩
    · rintro (h | ⟨k', h1, h2, h3⟩)
      · exact (U_iff F hk).mpr ⟨y, h, .inl rfl⟩
      · obtain ⟨b, hb, e⟩ := (U_iff F hk).mp h2
        obtain ⟨j, kb, hj, hkb, rfl⟩ := base_at F hk hb
        refine (U_iff F hk).mpr ⟨_, hb, .inr ?_⟩
        rcases e with e | e
        · obtain ⟨j', hj'⟩ := List.getElem?_of_mem h1
          have e2 := (U_iff F hj').mpr ⟨y, h3, .inl rfl⟩
          rw [e] at e2
          exact e2
        · exact (ih j hj hkb y).mpr (.inr ⟨k', h1, e, h3⟩)
/-- the names found on the way back, behind the kinds from the j-th on -/
def backF (ks : List Kd) (k : Kd) (n j : Nat) (x : Str) : Prop := x ∈ k.bs ∨ ∃ i' k', j ≤ i' ∧ i' < n ∧ ks[i']? = some k' ∧ k'.nm ∈ U ks k.nm ∧ x ∈ k'.bs
theorem back_start {ks : List Kd} {k : Kd} {n : Nat} (x : Str) : backF ks k n n x ↔ x ∈ k.bs := by
  constructor
  · rintro (h | ⟨i', k', h1, h2, _⟩)
    · exact h
    · omega
  · exact .inl
theorem back_end {ks : List Kd} (F : Frm ks) {n : Nat} {k : Kd} (hk : ks[n]? = some k) (x : Str) : backF ks k n 0 x ↔ x ∈ U ks k.nm := by
  rw [U_last F n hk]
  constructor
  · rintro (h | ⟨i', k', _, _, h3, h4, h5⟩)
    · exact .inl h
    · exact .inr ⟨k', List.mem_of_getElem? h3, h4, h5⟩
  · rintro (h | ⟨k', h1, h2, h3⟩)
    · exact .inl h
    · obtain ⟨j, ky, hj, hky, e⟩ := U_ahead F hk h2
      obtain ⟨j', hj'⟩ := List.getElem?_of_mem h1
      have : j' = j := by
        have h1 : (ks.map Kd.nm)[j']? = some k'.nm := by rw [List.getElem?_map, hj']; rfl
        have h2 : (ks.map Kd.nm)[j]? = some k'.nm := by rw [List.getElem?_map, hky]; exact congrArg some e
        have hl := (List.getElem?_eq_some_iff.mp h1).1
        exact (List.getElem?_inj hl F.nd).mp (h1.trans h2.symm)
      subst this
      exact .inr ⟨_, k', Nat.zero_le _, hj, hj', h2, h3⟩
theorem back_step {ks : List Kd} (F : Frm ks) {n j : Nat} {k kj : Kd} (hk : ks[n]? = some k) (hj : ks[j]? = some kj) (hjn : j < n) :
    (backF ks k n (j + 1) kj.nm ↔ kj.nm ∈ U ks k.nm) ∧ ∀ x, backF ks k n j x ↔ backF ks k n (j + 1) x ∨ (kj.nm ∈ U ks k.nm ∧ x ∈ kj.bs) := by
  constructor
  · constructor
    · rintro (h | ⟨i', k', _, _, h3, h4, h5⟩)
      · exact (U_last F n hk _).mpr (.inl h)
      · exact (U_last F n hk _).mpr (.inr ⟨k', List.mem_of_getElem? h3, h4, h5⟩)
    · intro h
      rcases (U_last F n hk _).mp h with h | ⟨k', h1, h2, h3⟩
      · exact .inl h
      · obtain ⟨i', ki, hi', hki, e⟩ := U_ahead F hk h2
        obtain ⟨j', hj'⟩ := List.getElem?_of_mem h1
        have ej : j' = i' := by
          have h1 : (ks.map Kd.nm)[j']? = some k'.nm := by rw [List.getElem?_map, hj']; rfl
          have h2 : (ks.map Kd.nm)[i']? = some k'.nm := by rw [List.getElem?_map, hki]; exact congrArg some e
          exact (List.getElem?_inj (List.getElem?_eq_some_iff.mp h1).1 F.nd).mp (h1.trans h2.symm)
        subst ej
        obtain ⟨j2, k2, h21, h22, h23⟩ := base_at F hj' h3
        have e2 : j2 = j := by
          have h1 : (ks.map Kd.nm)[j2]? = some kj.nm := by rw [List.getElem?_map, h22]; exact congrArg some h23
          have h2 : (ks.map Kd.nm)[j]? = some kj.nm := by rw [List.getElem?_map, hj]; rfl
          exact (List.getElem?_inj (List.getElem?_eq_some_iff.mp h1).1 F.nd).mp (h1.trans h2.symm)
        subst e2
        exact .inr ⟨j', k', h21, hi', hj', h2, h3⟩
  · intro x
    constructor
    · rintro (h | ⟨i', k', h1, h2, h3, h4, h5⟩)
      · exact .inl (.inl h)
      · rcases Nat.lt_or_ge j i' with hlt | hge
        · exact .inl (.inr ⟨i', k', hlt, h2, h3, h4, h5⟩)
        · obtain rfl : i' = j := by omega
          rw [hj] at h3
          cases h3
          exact .inr ⟨h4, h5⟩
    · rintro ((h | ⟨i', k', h1, h2, h3, h4, h5⟩) | ⟨h4, h5⟩)
      · exact .inl h
      · exact .inr ⟨i', k', by omega, h2, h3, h4, h5⟩
      · exact .inr ⟨j, kj, Nat.le_refl _, hjn, hj, h4, h5⟩
/-- beneath is told in order -/
theorem U_list {ks : List Kd} (F : Frm ks) {n : Nat} {k : Kd} (hk : ks[n]? = some k) : U ks k.nm = ((ks.take n).map Kd.nm).filter fun x => decide (x ∈ U ks k.nm) := by
  have h1 : U ks k.nm = (ks.map Kd.nm).filter fun x => decide (x ∈ U ks k.nm) := by
    conv => lhs; rw [U_at F hk]
    unfold undOf
    refine List.filter_congr fun x hx => ?_
    rw [U_at F hk]
    unfold undOf
    rw [decide_eq_decide, List.mem_filter]
    simp [hx]
  have gen : ∀ p : Str → Bool, (∀ x ∈ (ks.drop n).map Kd.nm, p x = false) → (ks.map Kd.nm).filter p = ((ks.take n).map Kd.nm).filter p := fun p hp => by
    have e : ks.map Kd.nm = (ks.take n).map Kd.nm ++ (ks.drop n).map Kd.nm := by rw [← List.map_append, List.take_append_drop]
    have e0 : ((ks.drop n).map Kd.nm).filter p = [] := List.filter_eq_nil_iff.mpr (fun x hx => by rw [hp x hx]; decide)
    rw [e, List.filter_append, e0, List.append_nil]
  refine h1.trans (gen _ fun x hx => decide_eq_false fun hin => ?_)
  obtain ⟨j, ky, hj, hky, e⟩ := U_ahead F hk hin
  obtain ⟨kx', hx1, hx2⟩ := List.mem_map.mp hx
  obtain ⟨m, hm⟩ := List.getElem?_of_mem hx1
  rw [List.getElem?_drop] at hm
  have h1 : (ks.map Kd.nm)[j]? = some x := by rw [List.getElem?_map, hky]; exact congrArg some e
  have h2 : (ks.map Kd.nm)[n + m]? = some x := by rw [List.getElem?_map, hm]; exact congrArg some hx2
  have := (List.getElem?_inj (List.getElem?_eq_some_iff.mp h1).1 F.nd).mp (h1.trans h2.symm)
  omega
/-- what is above, on the way up -/
theorem above_step {ks : List Kd} (F : Frm ks) {j : Nat} {x : Str} {kj : Kd} (hj : ks[j]? = some kj) : x ∈ U ks kj.nm ↔ ∃ b ∈ kj.bs, b = x ∨ ∃ i ki, i < j ∧ ks[i]? = some ki ∧ ki.nm = b ∧ x ∈ U ks ki.nm := by
  rw [U_iff F hj]
  constructor
  · rintro ⟨b, hb, rfl | h⟩
    · exact ⟨_, hb, .inl rfl⟩
    · obtain ⟨i, ki, h1, h2, rfl⟩ := base_at F hj hb
      exact ⟨_, hb, .inr ⟨i, ki, h1, h2, rfl, h⟩⟩
  · rintro ⟨b, hb, rfl | ⟨i, ki, h1, h2, rfl, h⟩⟩
    · exact ⟨_, hb, .inl rfl⟩
    · exact ⟨_, hb, .inr h⟩
end Cp

set_option Elab.async false
set_option linter.all false
set_option maxRecDepth 100000
/-! ### bits of what a kind reaches -/
namespace Cp
open PySem PySem.Spec L2 PyProof.Rows Bits
theorem rksA_at : ∀ (ks : List Kd) (pre : List Rk) (i : Nat) (k : Kd), ks[i]? = some k → (rksA ks pre)[i]? = some (newR (pre ++ (rksA ks pre).take i) k.nm k.mrk k.bs)
  | [], _, _, _, h => by simp at h
  | k :: l, pre, 0, k', h => by
    simp only [List.getElem?_cons_zero, Option.some.injEq] at h
    subst h
    simp [rksA]
  | k :: l, pre, i + 1, k', h => by
    rw [List.getElem?_cons_succ] at h
    have ih := rksA_at l (pre ++ [newR pre k.nm k.mrk k.bs]) i k' h
    simp only [rksA, List.getElem?_cons_succ, List.take_succ_cons]
    rw [ih, List.append_assoc]
    rfl
theorem rks_newR {ks : List Kd} {i : Nat} {k : Kd} {r : Rk} (hk : ks[i]? = some k) (hr : (rks ks)[i]? = some r) : r = newR ((rks ks).take i) k.nm k.mrk k.bs := by
  have := rksA_at ks [] i k hk
  unfold rks at hr ⊢
  rw [hr, List.nil_append] at this
  exact Option.some.inj this
theorem fold_bit (f : Str → Nat) (j : Nat) : ∀ (bs : List Str) (a : Nat), (bs.foldl (fun acc x => acc ||| f x) a).testBit j = true ↔ a.testBit j = true ∨ ∃ b ∈ bs, (f b).testBit j = true
  | [], a => by simp
  | x :: r, a => by
    rw [List.foldl_cons, fold_bit f j r, Nat.testBit_or]
    simp [or_assoc]
theorem nm_injU {ks : List Kd} (F : Frm ks) {i j : Nat} {a b : Kd} (ha : ks[i]? = some a) (hb : ks[j]? = some b) (e : a.nm = b.nm) : i = j := by
  have h1 : (ks.map Kd.nm)[i]? = some a.nm := by rw [List.getElem?_map, ha]; rfl
  have h2 : (ks.map Kd.nm)[j]? = some a.nm := by rw [List.getElem?_map, hb, e]; rfl
  exact (List.getElem?_inj (List.getElem?_eq_some_iff.mp h1).1 F.nd).mp (h1.trans h2.symm)
theorem lkB_atU : ∀ {rs : List Rk} {i : Nat} {r : Rk}, (rs.map Rk.nm).Nodup → rs[i]? = some r → lkB rs r.nm = r.bt
  | [], _, _, _, h => by simp at h
  | x :: l, 0, r, _, h => by
    simp only [List.getElem?_cons_zero, Option.some.injEq] at h
    subst h
    unfold lkB
    rw [List.find?_cons_of_pos (by simp)]
    rfl
  | x :: l, i + 1, r, nd, h => by
    rw [List.getElem?_cons_succ] at h
    rw [List.map_cons, List.nodup_cons] at nd
    have hne : ¬ x.nm = r.nm := fun e => nd.1 (e ▸ List.mem_map.mpr ⟨r, List.mem_of_getElem? h, rfl⟩)
    have ih := lkB_atU nd.2 h
    unfold lkB at ih ⊢
    rw [List.find?_cons_of_neg (by simpa using hne)]
    exact ih
theorem rks_atU {ks : List Kd} {i : Nat} {k : Kd} (h : ks[i]? = some k) : ∃ r, (rks ks)[i]? = some r ∧ r.nm = k.nm := by
  have := rksA_at ks [] i k h
  exact ⟨_, this, rfl⟩
theorem take_nd {ks : List Kd} (F : Frm ks) (i : Nat) : (((rks ks).take i).map Rk.nm).Nodup := by
  rw [List.map_take, rks_nm]
  exact F.nd.sublist (List.take_sublist _ _)
/-- the bit of a kind is set where it is the kind itself or beneath -/
theorem bt_iff {ks : List Kd} (F : Frm ks) : ∀ (i : Nat) {k : Kd} {r : Rk}, ks[i]? = some k → (rks ks)[i]? = some r → ∀ {j : Nat} {kj : Kd}, ks[j]? = some kj → (r.bt.testBit j = true ↔ j = i ∨ kj.nm ∈ U ks k.nm) := by
  intro i
  induction i using Nat.strongRecOn with
  | ind i ih =>
    intro k r hk hr j kj hj
    have hi := (List.getElem?_eq_some_iff.mp hk).1
    rw [rks_newR hk hr]
    show (bitsB ((rks ks).take i) k.bs).testBit j = true ↔ _
    have hl : ((rks ks).take i).length = i := by rw [List.length_take, rks_len]; omega
    unfold bitsB
    rw [fold_bit, hl, Nat.testBit_two_pow, U_iff F hk, decide_eq_true_eq]
    have key : ∀ b ∈ k.bs, ((lkB ((rks ks).take i) b).testBit j = true ↔ kj.nm = b ∨ kj.nm ∈ U ks b) := fun b hb => by
      obtain ⟨m, kb, hm, hkb, rfl⟩ := base_at F hk hb
      obtain ⟨rb, hrb, en⟩ := rks_atU hkb
      have h1 : ((rks ks).take i)[m]? = some rb := by rw [List.getElem?_take, if_pos hm]; exact hrb
      have h2 := lkB_atU (take_nd F i) h1
      rw [en] at h2
      rw [h2, ih m hm hkb hrb hj]
      constructor
      · rintro (rfl | h)
        · rw [hkb] at hj
          cases hj
          exact .inl rfl
        · exact .inr h
      · rintro (h | h)
        · exact .inl (nm_injU F hj hkb h)
        · exact .inr h
    constructor
    · rintro (h | ⟨b, hb, h⟩)
      · exact .inl h.symm
      · exact .inr ⟨b, hb, (key b hb).mp h⟩
    · rintro (h | ⟨b, hb, h⟩)
      · exact .inl h.symm
      · exact .inr ⟨b, hb, (key b hb).mpr h⟩
theorem bt_big {ks : List Kd} {i j : Nat} {r : Rk} (hr : (rks ks)[i]? = some r) (h : i < j) : r.bt.testBit j = false :=
  Nat.testBit_lt_two_pow (Nat.lt_of_lt_of_le (rks_bt hr).2 (Nat.pow_le_pow_right (by decide) h))
theorem bt_self {ks : List Kd} (F : Frm ks) {i : Nat} {k : Kd} {r : Rk} (hk : ks[i]? = some k) (hr : (rks ks)[i]? = some r) : r.bt.testBit i = true := (bt_iff F i hk hr hk).mpr (.inl rfl)
/-- of what a kind reaches all is reached -/
theorem bt_trans {ks : List Kd} (F : Frm ks) {i j : Nat} {k kj : Kd} {r rj : Rk} (hk : ks[i]? = some k) (hr : (rks ks)[i]? = some r) (hj : ks[j]? = some kj) (hrj : (rks ks)[j]? = some rj) (h : r.bt.testBit j = true) (m : Nat) (hm : rj.bt.testBit m = true) : r.bt.testBit m = true := by
  by_cases hml : m < ks.length
  · have hkm := List.getElem?_eq_getElem hml
    generalize ks[m] = km at hkm
    rw [bt_iff F i hk hr hj] at h
    rcases h with rfl | h
    · rw [hr] at hrj
      cases hrj
      exact hm
    · rw [bt_iff F i hk hr hkm]
      rw [bt_iff F j hj hrj hkm] at hm
      rcases hm with rfl | hm
      · rw [hj] at hkm
        cases hkm
        exact .inr h
      · refine .inr ?_
        have tr : ∀ (n : Nat) {kn : Kd}, ks[n]? = some kn → kj.nm ∈ U ks kn.nm → km.nm ∈ U ks kn.nm := by
          intro n
          induction n using Nat.strongRecOn with
          | ind n ih =>
            intro kn hkn hjn
            obtain ⟨b, hb, e⟩ := (U_iff F hkn).mp hjn
            obtain ⟨p, kb, hp, hkb, rfl⟩ := base_at F hkn hb
            refine (U_iff F hkn).mpr ⟨_, hb, .inr ?_⟩
            rcases e with e | e
            · have := nm_injU F hj hkb e
              subst this
              rw [hj] at hkb
              cases hkb
              exact hm
            · exact ih p hp hkb e
        exact tr i hk h
  · have hjl := (List.getElem?_eq_some_iff.mp hj).1
    rw [bt_big hrj (by omega)] at hm
    cases hm
/-! ### and not -/
theorem bandN (a b : Nat) : Builtin.bitAnd (a : Int) (Builtin.bitNot (b : Int)) = ((a ^^^ (a &&& b) : Nat) : Int) := by
  have hab : Builtin.bitAnd (a : Int) (b : Int) = ((a &&& b : Nat) : Int) := by
    rw [bitAnd_pp (Int.natCast_nonneg _) (Int.natCast_nonneg _), Int.toNat_natCast, Int.toNat_natCast]
  have h2 : Builtin.bitAnd (a : Int) ((a &&& b : Nat) : Int) = ((a &&& b : Nat) : Int) := by
    rw [bitAnd_pp (Int.natCast_nonneg _) (Int.natCast_nonneg _), Int.toNat_natCast, Int.toNat_natCast]
    congr 1
    exact Nat.eq_of_testBit_eq fun i => by rw [Nat.testBit_and, Nat.testBit_and]; cases a.testBit i <;> simp
  have h1 := bitXor_and (a : Int) ((a &&& b : Nat) : Int)
  rw [h2, bitXor_pp (Int.natCast_nonneg _) (Int.natCast_nonneg _), Int.toNat_natCast, Int.toNat_natCast] at h1
  rw [bitAnd_not, hab, h1]
  omega
theorem bandP (a b : Nat) : Builtin.bitAnd (a : Int) (b : Int) = ((a &&& b : Nat) : Int) := by
  rw [bitAnd_pp (Int.natCast_nonneg _) (Int.natCast_nonneg _), Int.toNat_natCast, Int.toNat_natCast]
theorem borP (a b : Nat) : Builtin.bitOr (a : Int) (b : Int) = ((a ||| b : Nat) : Int) := by
  rw [bitOr_nn (Int.natCast_nonneg _) (Int.natCast_nonneg _), Int.toNat_natCast, Int.toNat_natCast]
theorem bxorP (a b : Nat) : Builtin.bitXor (a : Int) (b : Int) = ((a ^^^ b : Nat) : Int) := by
  rw [bitXor_pp (Int.natCast_nonneg _) (Int.natCast_nonneg _), Int.toNat_natCast, Int.toNat_natCast]
theorem an_bit (a b i : Nat) : (a ^^^ (a &&& b)).testBit i = (a.testBit i && !b.testBit i) := by
  rw [Nat.testBit_xor, Nat.testBit_and]
  cases a.testBit i <;> cases b.testBit i <;> rfl
/-! ### one bit -/
theorem top_bit {n i : Nat} (h1 : 2 ^ i ≤ n) (h2 : n < 2 ^ (i + 1)) : n.testBit i = true := by
  rw [Nat.testBit_eq_decide_div_mod_eq, decide_eq_true_eq, show n / 2 ^ i = 1 from Nat.div_eq_of_lt_le (by omega) (by rw [Nat.pow_succ] at h2; omega)]
theorem one_pow (i : Nat) : 2 ^ i &&& (2 ^ i - 1) = 0 := by rw [Nat.and_two_pow_sub_one_eq_mod, Nat.mod_self]
/-- a number without its last set bit is 0: it is a power of two, or 0 -/
theorem one_iff (n : Nat) : n &&& (n - 1) = 0 ↔ n = 0 ∨ ∃ i, n = 2 ^ i := by
  constructor
  · intro h
    by_cases h0 : n = 0
    · exact .inl h0
    refine .inr ⟨n.log2, ?_⟩
    have h1 : 2 ^ n.log2 ≤ n := Nat.log2_self_le h0
    have h2 : n < 2 ^ (n.log2 + 1) := Nat.lt_log2_self
    rcases Nat.lt_or_ge (2 ^ n.log2) n with hlt | hge
    · exfalso
      have a := top_bit h1 h2
      have b := top_bit (n := n - 1) (i := n.log2) (by omega) (by omega)
      have c : (n &&& (n - 1)).testBit n.log2 = true := by rw [Nat.testBit_and, a, b]; rfl
      rw [h, Nat.zero_testBit] at c
      cases c
    · omega
  · rintro (rfl | ⟨i, rfl⟩)
    · rfl
    · exact one_pow i
/-- a kind reaches itself alone where it is a source -/
theorem src_bt {ks : List Kd} (F : Frm ks) {i : Nat} {k : Kd} {r : Rk} (hk : ks[i]? = some k) (hr : (rks ks)[i]? = some r) : r.bt = 2 ^ i ↔ k.bs = [] := by
  constructor
  · intro h
    cases hb : k.bs with
    | nil => rfl
    | cons b l =>
      exfalso
      obtain ⟨m, kb, hm, hkb, rfl⟩ := base_at F hk (b := b) (by rw [hb]; exact List.mem_cons_self)
      have h1 : r.bt.testBit m = true := (bt_iff F i hk hr hkb).mpr (.inr ((U_iff F hk).mpr ⟨_, by rw [hb]; exact List.mem_cons_self, .inl rfl⟩))
      rw [h, Nat.testBit_two_pow, decide_eq_true_eq] at h1
      omega
  · intro h
    rw [rks_newR hk hr]
    show bitsB ((rks ks).take i) k.bs = _
    have hl : ((rks ks).take i).length = i := by rw [List.length_take, rks_len]; have := (List.getElem?_eq_some_iff.mp hk).1; omega
    rw [h]
    show 2 ^ ((rks ks).take i).length = _
    rw [hl]
theorem one_bt {ks : List Kd} (F : Frm ks) {i : Nat} {k : Kd} {r : Rk} (hk : ks[i]? = some k) (hr : (rks ks)[i]? = some r) : r.bt &&& (r.bt - 1) = 0 ↔ k.bs = [] := by
  rw [one_iff, ← src_bt F hk hr]
  have hb := rks_bt hr
  have hp : 0 < 2 ^ i := Nat.pow_pos (by decide)
  constructor
  · rintro (h | ⟨j, h⟩)
    · omega
    · rw [h] at hb ⊢
      have h1 : i ≤ j := (Nat.pow_le_pow_iff_right (by decide)).mp hb.1
      have h2 : j < i + 1 := (Nat.pow_lt_pow_iff_right (by decide)).mp hb.2
      rw [show j = i by omega]
  · intro h
    exact .inr ⟨i, h⟩
/-! ### the sources' bits -/
theorem roots_bit : ∀ (rs : List Rk) (i j : Nat), (rootsF rs i).testBit j = true ↔ ∃ m r, j = i + m ∧ rs[m]? = some r ∧ r.sr = true
  | [], i, j => by simp [rootsF]
  | r :: l, i, j => by
    show ((if r.sr = true then 2 ^ i else 0) ||| rootsF l (i + 1)).testBit j = true ↔ _
    rw [Nat.testBit_or, Bool.or_eq_true, roots_bit l (i + 1) j]
    constructor
    · rintro (h | ⟨m, x, h1, h2, h3⟩)
      · split at h
        · rename_i hs
          rw [Nat.testBit_two_pow, decide_eq_true_eq] at h
          exact ⟨0, r, by omega, rfl, hs⟩
        · rw [Nat.zero_testBit] at h
          cases h
      · exact ⟨m + 1, x, by omega, by rw [List.getElem?_cons_succ]; exact h2, h3⟩
    · rintro ⟨m, x, h1, h2, h3⟩
      cases m with
      | zero =>
        simp only [List.getElem?_cons_zero, Option.some.injEq] at h2
        subst h2
        refine .inl ?_
        rw [if_pos h3, Nat.testBit_two_pow, decide_eq_true_eq]
        omega
      | succ m =>
        rw [List.getElem?_cons_succ] at h2
        exact .inr ⟨m, x, by omega, h2, h3⟩
theorem roots_iff {ks : List Kd} {j : Nat} {kj : Kd} (hj : ks[j]? = some kj) : (rootsF (rks ks) 0).testBit j = true ↔ kj.bs = [] := by
  rw [roots_bit]
  have he : ∀ r, (rks ks)[j]? = some r → r.sr = kj.bs.isEmpty := fun r hr => by rw [rks_newR hj hr]; rfl
  constructor
  · rintro ⟨m, r, h1, h2, h3⟩
    rw [Nat.zero_add] at h1
    subst h1
    rw [he r h2] at h3
    exact List.isEmpty_iff.mp h3
  · intro h
    obtain ⟨r, hr, _⟩ := rks_atU hj
    exact ⟨j, r, by omega, hr, by rw [he r hr, h]; rfl⟩
theorem roots_big {ks : List Kd} {j : Nat} (h : ks.length ≤ j) : (rootsF (rks ks) 0).testBit j = false := by
  cases hb : (rootsF (rks ks) 0).testBit j with
  | false => rfl
  | true =>
    obtain ⟨m, r, h1, h2, _⟩ := (roots_bit _ _ _).mp hb
    have := (List.getElem?_eq_some_iff.mp h2).1
    rw [rks_len] at this
    omega
end Cp

set_option Elab.async false
set_option linter.all false
set_option maxRecDepth 100000
/-! ### bits of the kinds of which something holds -/
namespace Cp
open PySem PySem.Spec L2 PyProof.Rows
def bitsA (p : Kd → Bool) : List Kd → Nat → Nat
  | [], _ => 0
  | k :: l, i => (if p k = true then 2 ^ i else 0) ||| bitsA p l (i + 1)
/-- the bit of each kind of which p holds -/
def bo (p : Kd → Bool) (ks : List Kd) : Nat := bitsA p ks 0
theorem bitsA_bit (p : Kd → Bool) : ∀ (l : List Kd) (i j : Nat), (bitsA p l i).testBit j = true ↔ ∃ m x, j = i + m ∧ l[m]? = some x ∧ p x = true
  | [], i, j => by simp [bitsA]
  | k :: l, i, j => by
    show ((if p k = true then 2 ^ i else 0) ||| bitsA p l (i + 1)).testBit j = true ↔ _
    rw [Nat.testBit_or, Bool.or_eq_true, bitsA_bit p l (i + 1) j]
    constructor
    · rintro (h | ⟨m, x, h1, h2, h3⟩)
      · split at h
        · rename_i hs
          rw [Nat.testBit_two_pow, decide_eq_true_eq] at h
          exact ⟨0, k, by omega, rfl, hs⟩
        · rw [Nat.zero_testBit] at h
          cases h
      · exact ⟨m + 1, x, by omega, by rw [List.getElem?_cons_succ]; exact h2, h3⟩
    · rintro ⟨m, x, h1, h2, h3⟩
      cases m with
      | zero =>
        simp only [List.getElem?_cons_zero, Option.some.injEq] at h2
        subst h2
        refine .inl ?_
        rw [if_pos h3, Nat.testBit_two_pow, decide_eq_true_eq]
        omega
      | succ m =>
        rw [List.getElem?_cons_succ] at h2
        exact .inr ⟨m, x, by omega, h2, h3⟩
theorem bo_bit {p : Kd → Bool} {ks : List Kd} {j : Nat} : (bo p ks).testBit j = true ↔ ∃ x, ks[j]? = some x ∧ p x = true := by
  unfold bo
  rw [bitsA_bit]
  constructor
  · rintro ⟨m, x, h1, h2, h3⟩
    rw [Nat.zero_add] at h1
    subst h1
    exact ⟨x, h2, h3⟩
  · rintro ⟨x, h2, h3⟩
    exact ⟨j, x, by omega, h2, h3⟩
theorem bo_at {p : Kd → Bool} {ks : List Kd} {j : Nat} {x : Kd} (h : ks[j]? = some x) : (bo p ks).testBit j = p x := by
  rw [Bool.eq_iff_iff, bo_bit]
  constructor
  · rintro ⟨y, h1, h2⟩
    rw [h] at h1
    cases h1
    exact h2
  · intro h2
    exact ⟨x, h, h2⟩
theorem bo_off {p : Kd → Bool} {ks : List Kd} {j : Nat} (h : ks.length ≤ j) : (bo p ks).testBit j = false := by
  cases q : (bo p ks).testBit j with
  | false => rfl
  | true =>
    obtain ⟨x, h1, _⟩ := bo_bit.mp q
    have := (List.getElem?_eq_some_iff.mp h1).1
    omega
/-- a number is that of its bits -/
theorem bo_eq {p : Kd → Bool} {ks : List Kd} {n : Nat} (h1 : ∀ j x, ks[j]? = some x → n.testBit j = p x) (h2 : ∀ j, ks.length ≤ j → n.testBit j = false) : n = bo p ks := by
  refine Nat.eq_of_testBit_eq fun j => ?_
  by_cases hj : j < ks.length
  · have hx := List.getElem?_eq_getElem hj
    rw [h1 j _ hx, bo_at hx]
  · rw [h2 j (by omega), bo_off (by omega)]
theorem bo_congr {p q : Kd → Bool} {ks : List Kd} (h : ∀ x ∈ ks, p x = q x) : bo p ks = bo q ks :=
  bo_eq (fun j x hx => by rw [bo_at hx]; exact h x (List.mem_of_getElem? hx)) fun j hj => bo_off hj
theorem bo_or (p q : Kd → Bool) (ks : List Kd) : bo p ks ||| bo q ks = bo (fun x => p x || q x) ks :=
  bo_eq (fun j x hx => by rw [Nat.testBit_or, bo_at hx, bo_at hx]) fun j hj => by rw [Nat.testBit_or, bo_off hj, bo_off hj]; rfl
theorem bo_and (p q : Kd → Bool) (ks : List Kd) : bo p ks &&& bo q ks = bo (fun x => p x && q x) ks :=
  bo_eq (fun j x hx => by rw [Nat.testBit_and, bo_at hx, bo_at hx]) fun j hj => by rw [Nat.testBit_and, bo_off hj, bo_off hj]; rfl
theorem bo_an (p q : Kd → Bool) (ks : List Kd) : bo p ks ^^^ (bo p ks &&& bo q ks) = bo (fun x => p x && !q x) ks :=
  bo_eq (fun j x hx => by rw [an_bit, bo_at hx, bo_at hx]) fun j hj => by rw [an_bit, bo_off hj, bo_off hj]; rfl
theorem bo_none (ks : List Kd) : bo (fun _ => false) ks = 0 :=
  (bo_eq (fun j x _ => Nat.zero_testBit j) fun j _ => Nat.zero_testBit j).symm
theorem bo_zero {p : Kd → Bool} {ks : List Kd} : bo p ks = 0 ↔ ∀ x ∈ ks, p x = false := by
  constructor
  · intro h x hx
    obtain ⟨j, hj⟩ := List.getElem?_of_mem hx
    rw [← bo_at (p := p) hj, h, Nat.zero_testBit]
  · intro h
    rw [bo_congr h, bo_none]
theorem bo_snoc {p : Kd → Bool} {ks : List Kd} {i : Nat} {k : Kd} (hk : ks[i]? = some k) : bo p (ks.take (i + 1)) = bo p (ks.take i) ||| (if p k = true then 2 ^ i else 0) := by
  have hi := (List.getElem?_eq_some_iff.mp hk).1
  refine (bo_eq (fun j x hx => ?_) fun j hj => ?_).symm
  · have hj : j < i + 1 := by
      have := (List.getElem?_eq_some_iff.mp hx).1
      rw [List.length_take] at this
      omega
    have hx' : ks[j]? = some x := by rw [List.getElem?_take, if_pos hj] at hx; exact hx
    rw [Nat.testBit_or]
    by_cases e : j = i
    · subst e
      rw [hk] at hx'
      cases hx'
      rw [bo_off (by rw [List.length_take]; omega)]
      cases hp : p k <;> simp [Nat.testBit_two_pow]
    · have h1 : (ks.take i)[j]? = some x := by rw [List.getElem?_take, if_pos (by omega)]; exact hx'
      rw [bo_at h1]
      split
      · rw [Nat.testBit_two_pow, decide_eq_false (by omega), Bool.or_false]
      · rw [Nat.zero_testBit, Bool.or_false]
  · rw [List.length_take] at hj
    rw [Nat.testBit_or, bo_off (by rw [List.length_take]; omega), Bool.false_or]
    split
    · rw [Nat.testBit_two_pow, decide_eq_false (by omega)]
    · exact Nat.zero_testBit j
theorem bitsA_lt (p : Kd → Bool) : ∀ (l : List Kd) (i : Nat), bitsA p l i < 2 ^ (i + l.length)
  | [], i => Nat.pow_pos (by decide)
  | k :: l, i => by
    have ih := bitsA_lt p l (i + 1)
    have e : i + (k :: l).length = i + 1 + l.length := by rw [List.length_cons]; omega
    rw [e]
    refine Nat.or_lt_two_pow ?_ ih
    split
    · exact Nat.pow_lt_pow_right (by decide) (by omega)
    · exact Nat.pow_pos (by decide)
theorem bo_lt (p : Kd → Bool) (ks : List Kd) : bo p ks < 2 ^ ks.length := by
  have := bitsA_lt p ks 0
  rwa [Nat.zero_add] at this
/-- the first i of them -/
theorem bo_first {ks : List Kd} {i : Nat} (p : Kd → Bool) (hi : i ≤ ks.length) (h : ∀ j x, ks[j]? = some x → p x = decide (j < i)) : 2 ^ i - 1 = bo p ks :=
  bo_eq (fun j x hx => by rw [Nat.testBit_two_pow_sub_one, h j x hx]) fun j hj => by rw [Nat.testBit_two_pow_sub_one, decide_eq_false (by omega)]
/-- beneath a kind -/
def benP (ks : List Kd) (k : Kd) : Kd → Bool := fun o => decide (o.nm ∈ U ks k.nm)
def oldP (k : Kd) : Kd → Bool := fun o => decide (o.ed < k.ed)
def mrkP (k : Kd) : Kd → Bool := fun o => decide (97 + o.lt ∈ k.mrk.cps.toList)
def watP (k : Kd) : Kd → Bool := fun o => mrkP k o && oldP k o
theorem ben_bo {ks : List Kd} (F : Frm ks) {i : Nat} {k : Kd} {r : Rk} (hk : ks[i]? = some k) (hr : (rks ks)[i]? = some r) : r.bt ^^^ 2 ^ i = bo (benP ks k) ks := by
  refine bo_eq (fun j x hx => ?_) fun j hj => ?_
  · rw [Nat.testBit_xor, Nat.testBit_two_pow]
    have h := bt_iff F i hk hr hx
    have h0 : i = j → ¬ x.nm ∈ U ks k.nm := fun e hm => by
      subst e
      rw [hk] at hx
      cases hx
      obtain ⟨j', ky, hj', hky, e⟩ := U_ahead F hk hm
      have := nm_injU F hky hk e
      omega
    unfold benP
    by_cases e : i = j
    · rw [decide_eq_true e, decide_eq_false (h0 e), h.mpr (.inl e.symm)]
      rfl
    · rw [decide_eq_false e, Bool.xor_false, Bool.eq_iff_iff, decide_eq_true_eq, h]
      exact ⟨fun z => z.resolve_left fun z => e z.symm, .inr⟩
  · have hi := (List.getElem?_eq_some_iff.mp hk).1
    rw [Nat.testBit_xor, Nat.testBit_two_pow, bt_big hr (by omega), decide_eq_false (by omega)]
    rfl
end Cp

set_option Elab.async false
set_option linter.all false
set_option maxRecDepth 100000
set_option maxHeartbeats 2000000
/-! ### sets of texts: made, added to, sorted -/
namespace Cp
open PySem PySem.Spec L2 PyProof.Rows PySem.Froz
section
variable {P : Program} {w : World}
theorem tail_perm (ep : Nat) (es1 : Array (Int × Value)) (t2 : SetTable) (wd : Bool) : (tailTx ep es1 t2 wd).1.toList.Perm es1.toList := by
  unfold tailTx
  split
  · exact relayAll_perm _ _ _
  · exact .refl _
theorem tail_ris (ep : Nat) (es1 : Array (Int × Value)) (t2 : SetTable) (wd : Bool) (r : Ris t2.place.toList) : Ris (tailTx ep es1 t2 wd).2.2.place.toList := by
  unfold tailTx
  split
  · exact relayAll_ris _ _ _
  · exact r
theorem tail_led (ep : Nat) (es1 : Array (Int × Value)) (t2 : SetTable) (wd : Bool) : (tailTx ep es1 t2 wd).2.2.led = t2.led := by
  unfold tailTx
  split
  · exact relayAll_led _ _ _
  · rfl
theorem add_perm (hsh : Int) (v : Value) (D : SD) : (addTx hsh v D).1.toList.Perm ((hsh, v) :: D.1.toList) := by
  obtain ⟨es, ep, t⟩ := D
  have p1 := layNew_perm t es hsh v
  rw [Array.toList_push] at p1
  exact (tail_perm _ _ _ _).trans (p1.trans (List.perm_append_singleton _ _))
theorem add_ris (hsh : Int) (v : Value) (D : SD) (r : Ris D.2.2.place.toList) : Ris (addTx hsh v D).2.2.place.toList := by
  obtain ⟨es, ep, t⟩ := D
  refine tail_ris _ _ _ _ ?_
  split
  · exact layNew_ris t es hsh v r
  · exact layNew_ris t es hsh v r
theorem add_led (hsh : Int) (v : Value) (D : SD) : (addTx hsh v D).2.2.led = D.2.2.led := by
  obtain ⟨es, ep, t⟩ := D
  refine (tail_led _ _ _ _).trans ?_
  split
  · exact layNew_led t es hsh v
  · exact layNew_led t es hsh v
/-- the set of the texts l at a, no two alike -/
def TxS (P : Program) (w : World) (h : Heap) (a : Addr) (l : List Str) : Prop :=
  ∃ D : SD, h.get? a = some (sObj "set" D) ∧ TxOk P w D l ∧ (D.1.toList.map fun e => PyProof.Rows.strOf e.2).Perm l ∧ l.Nodup ∧ Ris D.2.2.place.toList ∧ (w.params.followText "set-order" = true ∨ D.2.2.led = true)
theorem TxS.at {h h' : Heap} {a : Addr} {l : List Str} (R : TxS P w h a l) (k : ∀ o, h.get? a = some o → h'.get? a = some o) : TxS P w h' a l := by
  obtain ⟨D, hD, r⟩ := R
  exact ⟨D, k _ hD, r⟩
theorem txs_new (P : Program) (w : World) (h : Heap) : TxS P w (h.push { cls := .type "set", dict := none, data := .set #[] 0 (.fresh 0 0 (!w.params.followText "set-order")) }) h.objs.size [] := by
  refine ⟨(#[], 0, .fresh 0 0 (!w.params.followText "set-order")), Heap.get?_push_size _ rfl, TxOk.nil rfl, .nil, List.nodup_nil, List.Pairwise.nil, ?_⟩
  show _ ∨ (!w.params.followText "set-order") = true
  cases w.params.followText "set-order"
  · exact .inr rfl
  · exact .inl rfl
end
section
variable {P : Program} {w : World} {A : Around} {E : Value → Shared → Prop} {s : Shared} {a : Addr} {l : List Str} {k : Str} {u : Tok}
/-- a text that is in the set already -/
theorem again_x {T : String} {D : SD} {Q : Bool → Shared → Prop} (at0 : s.heap.get? a = some (sObj T D)) (Ok : TxOk P w D l) (hk : k ∈ l) (room : l.length < scanBound) (h : Q false s) : wpAny (model P w) A (setAddHashed a (.str k u) (hashStr w k)) Q E s := by
  obtain ⟨es, ep, t⟩ := D
  have dat : (sObj T (es, ep, t)).data = .set es ep t := rfl
  have els : ElemsOf (strKind P w) es.toList := Ok.el
  have size : es.size = l.length := Ok.sz
  have fits : t.fits es.size = true := Ok.fit
  have isk : (strKind P w).is k (.str k u) = true := is_str k u
  obtain ⟨j, hj⟩ : ∃ j, List.findIdx? (fun e => (strKind P w).is k e.2) es.toList = some j := by
    cases hr : List.findIdx? (fun e => (strKind P w).is k e.2) es.toList with
    | some j => exact ⟨j, rfl⟩
    | none =>
      obtain ⟨e, he, z⟩ := (Ok.mem k).mp hk
      have := List.findIdx?_eq_none_iff.mp hr e he
      rw [z] at this
      cases this
  unfold setAddHashed setAddHashedIn
  refine wpAny_holding (wpAny_bind (wpAny_setState_of at0 dat fits ?_))
  dsimp only
  rw [byScan_of rfl (by omega) els]
  simp only [↓reduceIte]
  unfold setAddByScan
  refine wpAny_bind (wpAny_bind (wpAny_rule ?_))
  refine wpAny_bind (wpAny_setScan_of (knd := strKind P w) (k := k) isk at0 dat fits els ?_)
  rw [hj]
  dsimp only
  exact wpAny_pure (wpAny_pure h)
def putT (k : Str) (l : List Str) : List Str := if k ∈ l then l else k :: l
theorem txs_add {Q : Value → Shared → Prop} (R : TxS P w s.heap a l) (room : l.length + 1 < scanBound)
    (hQ : ∀ h', (∀ b, b ≠ a → h'.get? b = s.heap.get? b) → TxS P w h' a (putT k l) → Q .none { s with heap := h', toks := s.toks + 1 }) : wpAny (model P w) A (call (.builtin "set.add") [.ref a, .str k u]) Q E s := by
  obtain ⟨D, at0, Ok, pm, nd, r, ld⟩ := R
  have ty : s.TypeIs (.ref a) "set" := ⟨_, at0, rfl⟩
  refine wpAny_call_entry F.slot_set_add ty F.entry_set_add ?_ (F.args_set_add_2 _ _)
  unfold Builtin.«set.add» Builtin.Frozenset.oneOther
  simp only [List.isEmpty_nil, bind_assoc]
  unfold Builtin.Frozenset.addrOf setAdd
  refine wpAny_bind (wpAny_pure ?_)
  try dsimp only
  refine wpAny_bind (wpAny_pure ?_)
  try dsimp only
  refine wpAny_bind (wpAny_holding (wpAny_bind ((strKind P w).pyHash (is_str k u) ?_)))
  by_cases hk : k ∈ l
  · refine again_x (s := { s with toks := s.toks + 1 }) at0 Ok hk (by omega) ?_
    show wpAny _ _ (ret Value.none) _ _ _
    refine wpAny_pure ⟨_, rfl, hQ s.heap (fun _ _ => rfl) ?_⟩
    unfold putT
    rw [if_pos hk]
    exact ⟨D, at0, Ok, pm, nd, r, ld⟩
  · refine add_x (s := { s with toks := s.toks + 1 }) at0 Ok hk room ?_
    show wpAny _ _ (ret Value.none) _ _ _
    refine wpAny_pure ⟨_, rfl, hQ _ (fun b hb => Heap.get?_update_other _ _ (Ne.symm hb)) ?_⟩
    unfold putT
    rw [if_neg hk]
    refine ⟨addTx (hashStr w k) (.str k u) D, get_upd _ at0 rfl, add_ok u Ok, ?_, List.nodup_cons.mpr ⟨hk, nd⟩, add_ris _ _ _ r, ld.imp id fun z => by rw [add_led]; exact z⟩
    exact ((add_perm (hashStr w k) (.str k u) D).map fun e => PyProof.Rows.strOf e.2).trans (.cons _ pm)
theorem txs_strs {l : List Str} {D : SD} (Ok : TxOk P w D l) : ∀ v ∈ D.1.toList.map (·.2), ∃ x t, v = .str x t := fun v hv => by
  obtain ⟨e, he, rfl⟩ := List.mem_map.mp hv
  obtain ⟨⟨k, h1, _⟩, _⟩ := Ok.el e he
  have z : Value.isStrOf k e.2 = true := h1
  cases h2 : e.2 with
  | str x t => exact ⟨x, t, rfl⟩
  | _ => rw [h2] at z; simp [Value.isStrOf] at z
/-- sorted(a set of texts) -/
theorem txs_sorted {Q : Value → Shared → Prop} (R : TxS P w s.heap a l) (hh : A.handled = none) (h64 : l.length < 64)
    (hQ : ∀ s' p (out : Array Value) (c : Nat) (ys : List Str), (∀ b o, s.heap.get? b = some o → s'.heap.get? b = some o) → s'.gens = s.gens → s'.os = s.os → s.heap.objs.size ≤ p →
      s'.heap.get? p = some (seqObj "list" out c) → StrsAre out.toList ys → ys.Perm l → sortedS ys = true → Q (.ref p) s') : wpAny (model P w) A (call (.builtin "sorted") [.ref a]) Q E s := by
  obtain ⟨D, at0, Ok, pm, nd, r, ld⟩ := R
  obtain ⟨es, ep, t⟩ := D
  have small : es.size < scanBound := by
    have : es.size = l.length := Ok.sz
    have hb : (64 : Nat) ≤ scanBound := by decide
    omega
  refine Calls.call_function_entry kind_sorted plain_sorted entry_sorted (args_sorted1 _) ?_
  unfold Builtin.«sorted»
  refine wpAny_bind (m := checkCount "sorted" 1 1 _) (wpAny_pure ?_)
  refine wpAny_bind (collect_set (A := A.in1) hh ⟨_, at0, rfl, rfl⟩ Ok.fit small r ld fun s1 vs k1 hz g1 o1 p1 => ?_)
  have len : vs.length = l.length := by rw [p1.length_eq, List.length_map, Array.length_toList]; exact Ok.sz
  have st : StrsAre vs (vs.map PyProof.Rows.strOf) := strsAre_map vs fun v hv => txs_strs Ok v (p1.mem_iff.mp hv)
  have p2 : (vs.map PyProof.Rows.strOf).Perm l := by
    refine (p1.map PyProof.Rows.strOf).trans ?_
    rw [List.map_map]
    exact pm
  refine wpAny_bind (wpAny_newList ?_ (by rw [len, sizeLine_eq]; omega))
  have atL : (s1.heap.push (seqObj "list" vs.toArray 0)).get? s1.heap.objs.size = some (seqObj "list" vs.toArray 0) := Heap.get?_push_size _ rfl
  refine wpAny_bind (wpAny_holding (wpAny_call_entry slot_list_sort ⟨_, atL, rfl⟩ entry_list_sort (list_sort_treeK strKind_oneLt atL st.keysOf (fun v₁ v₂ rest e => keyKind_strs (ss := vs.map PyProof.Rows.strOf) (by rw [← e]; exact st)) (by rw [len]; exact h64) fun st' a1 a2 => ⟨_, rfl, ?_⟩) (args_list_sort _)))
  obtain ⟨ys, b1, b2, b3⟩ := sorted_out_str st a1 a2
  obtain ⟨c, hc⟩ := sortedHeap_at (vs := vs) (out := (arrOf st').map (·.2)) atL
  refine wpAny_pure ⟨_, rfl, hQ _ s1.heap.objs.size _ c ys (fun b o e => ?_) g1 o1 hz hc b1 (b2.trans p2) b3⟩
  have q := k1 b o e
  have lt := Heap.lt_size q
  show (sortedHeap (s1.heap.push (seqObj "list" vs.toArray 0)) s1.heap.objs.size vs ((arrOf st').map (·.2))).get? b = some o
  rw [sortedHeap_old (Nat.ne_of_lt lt) (by rw [size_push']; exact Nat.lt_succ_of_lt lt)]
  exact Heap.get?_push_of_some _ q
end
/-- .. as a tracked thing -/
def TxO (P : Program) (w : World) (a : Addr) (l : List Str) : HO := .ext fun h => TxS P w h a l
theorem txs_there {P : Program} {w : World} {h : Heap} {a : Addr} {l : List Str} (R : TxS P w h a l) : ∃ u, h.get? a = some u := Exists.elim R fun _ q => ⟨_, q.1⟩
theorem txo_new {P : Program} {w : World} {H : Hp} {h : Heap} {a : Addr} {l : List Str} (R : TxS P w h a l) : ObjOk P w H h a (TxO P w a l) := ⟨R, txs_there R, fun _ _ p k => TxS.at p k⟩
section
variable {X : Cx} {pins : List (Addr × Obj)} {σ : L2.St} {H : Hp} {s : Shared} {a : Addr} {l : List Str}
theorem txo_get (I : Inv X pins σ H s) (ha : H a = some (TxO X.prog X.w a l)) : TxS X.prog X.w s.heap a l := (I.hok a _ ha).1
theorem txo_add {E : Value → Shared → Prop} {k : Str} {u : Tok} {Q : Value → Shared → Prop} (I : Inv X pins σ H s) (ha : H a = some (TxO X.prog X.w a l)) (room : l.length + 1 < scanBound)
    (h : ∀ s', Inv X pins σ (upd H a (TxO X.prog X.w a (putT k l))) s' → Q .none s') : wpAny (model X.prog X.w) X.A (call (.builtin "set.add") [.ref a, .str k u]) Q E s := by
  refine txs_add (txo_get I ha) room fun h' sb new => ?_
  have there : ∃ u, h'.get? a = some u := by
    obtain ⟨D, at0, _⟩ := new
    exact ⟨_, at0⟩
  exact h _ (I.write (e := a) (t' := s.toks + 1) (by rw [ha]; trivial) (.inl rfl) (fun b u hb hu => (sb b hb).trans hu) there (txo_new new))
def rSortT (P : Program) (w : World) : List V → Hp → VK → Prop := fun vs H Q => ∃ (a : Addr) (l : List Str), vs = [V.ref a] ∧ H a = some (TxO P w a l) ∧ l.length < 64 ∧
  ∀ (ys : List Str) (p : Addr), ys.Perm l → sortedS ys = true → H p = none → Q (.ref p) (upd H p (.lst (ys.map V.str)))
theorem cr_sortT (hc : X.calm = true) : CallR X (.builtin "sorted") (rSortT X.prog X.w) := by
  intro pins s σ H vs us Q I r h
  obtain ⟨a, l, rfl, ha, h64, q⟩ := h
  rw [Vals.ref1 r]
  refine txs_sorted (txo_get I ha) (I.ok.hd hc) h64 fun s' p out c ys k1 g1 o1 hp at1 st pm so => ?_
  have few : (ys.map V.str).length ≤ sizeLine := by rw [List.length_map, pm.length_eq]; exact small64 h64
  have fr : H p = none := I.hok.fresh hp
  exact ⟨.ref p, upd H p (.lst (ys.map V.str)), I.call' (ch := []) o1 (Un.laid k1 hp fr) (I.hok.laid k1 hp ⟨few, out.toList, c, vals_of_strs st, at1⟩) (by rw [g1]; exact I.bare) (fun _ z => nomatch z), rfl, q ys p pm so fr⟩
end
end Cp

set_option Elab.async false
set_option linter.all false
set_option maxRecDepth 100000
set_option maxHeartbeats 2000000
/-! ### {a text for x in ..} -/
namespace Cp
open PySem PySem.Spec L2 PyProof.Rows PpSet
section
variable {X : Cx}
/-- what one turn asks -/
def turnT (P : Program) (w : World) (g : TG) (tt : TT) (te : TE) (own : List Nat) (D : Addr) (σ : L2.St) (x : V) (H : Hp) (Nx : Hp → Prop) : Prop :=
  g x (wipe σ own) H fun σ2 H2 => wipe σ2 own = wipe σ own ∧ tt σ2 H2 fun b H3 => if b = true then te σ2 H3 fun y H4 => ∃ (z : Str) (l : List Str), y = .str z ∧ H4 D = some (TxO P w D l) ∧ l.length + 1 < scanBound ∧ Nx (upd H4 D (TxO P w D (putT z l))) else Nx H3
def tSetT (P : Program) (w : World) (wi : TI) (g : TG) (tt : TT) (te : TE) (own : List Nat) : TE := fun σ H Q => wi σ H fun J H1 => ∀ D, H1 D = none → ∃ W : Nat → Nat → Hp → Prop, (∃ m, W 0 m (upd H1 D (TxO P w D []))) ∧ ∀ i m H, W i m H →
  (J.stop i H ∧ Q (.ref D) H) ∨ (J.go i H ∧ ∃ Nx : Hp → Prop, (∀ H', Nx H' → ∃ m', m' < m ∧ W (i + 1) m' H') ∧ ∀ x H', J.yld i H x H' → turnT P w g tt te own D σ x H' Nx)
theorem pe_setT {elt tg iter : Expr} {ifs : List Expr} {scope : Scope} {own : List (PySem.Str × Nat)} {pos : Pos} {wi : TI} {g : TG} {tt : TT} {te : TE} (hc : X.calm = true) (hN : X.N.Nodup) (hi : PI X tg iter wi) (ok : BlkOk X.N X.env.scope scope own)
    (hg : ∀ (s : Shared) (H : Hp) (C : Addr) (cl : List (PySem.Str × Addr)) (fp : List Addr), PG (X.blk s H scope (compEnvC scope cl C X.env) fp) tg g) (ht : ∀ (s : Shared) (H : Hp) (C : Addr) (cl : List (PySem.Str × Addr)) (fp : List Addr), PTs (X.blk s H scope (compEnvC scope cl C X.env) fp) ifs tt)
    (he : ∀ (s : Shared) (H : Hp) (C : Addr) (cl : List (PySem.Str × Addr)) (fp : List Addr), PE (X.blk s H scope (compEnvC scope cl C X.env) fp) elt te) (hs : ∀ x, foldedSetIterable iter X.env x = pure x := by intro _; rfl) :
    PE X (.SetComp elt [⟨tg, iter, ifs, 0⟩] scope pos) (tSetT X.prog X.w wi g tt te (own.map (·.2))) := by
  refine ⟨fun pins s σ H Q I h => ?_⟩
  rw [eval_SetComp]
  have cells : ∀ y ∈ scope.names, y.2 = .free → ∃ c, X.env.cells.lookup y.1 = some c := fun y hy e => (ok.free y hy e).elim (fun k => I.ok.has _ (.inl k)) (fun k => I.ok.has _ (.inr k))
  refine wpAny_comprehension_free (use := none) rfl hs (closure_ok cells) ok.kind (fun y hy e => by rw [ok.uniq y hy, e]) (thn (hi.run pins s σ H _ I h) fun xv s1 hx => thn hx fun itv s2 h2 => ?_)
  obtain ⟨it, fp, tn, J, H2, e, I2, T, st2, f2, q⟩ := h2
  subst e
  refine newSet_ok (newEnv_comp ?_)
  generalize eD : s2.heap.objs.size = D
  have freeD : H2 D = none := I2.hok.fresh (Nat.le_of_eq eD)
  obtain ⟨W, ⟨m0, w0⟩, turn⟩ := q D freeD
  generalize e3 : ({ s2 with heap := s2.heap.push { cls := .type "set", dict := none, data := .set #[] 0 (.fresh 0 0 (!X.w.params.followText "set-order")) } } : Shared) = s3
  have I3 : Inv X pins σ (upd H2 D (TxO X.prog X.w D [])) s3 := by
    rw [← e3]
    refine I2.laid (t' := s2.toks) (fun b o e => Heap.get?_push_of_some _ e) (Nat.le_of_eq eD) ?_
    rw [← eD]
    exact txo_new (txs_new X.prog X.w s2.heap)
  have hp3 : s3.heap = s2.heap.push { cls := .type "set", dict := none, data := .set #[] 0 (.fresh 0 0 (!X.w.params.followText "set-order")) } := by rw [← e3]
  have low : ∀ b ∈ fp, b < s2.heap.objs.size := fun b hb => by
    obtain ⟨o, e, _⟩ := T.obj _ _ st2 b hb
    exact Heap.lt_size e
  have fp3 : ∀ b ∈ fp, FpOk X pins (upd H2 D (TxO X.prog X.w D [])) b ∧ b < s3.heap.objs.size := fun b hb => by
    have lt := low b hb
    refine ⟨⟨?_, (f2 b hb).2⟩, by rw [hp3, Heap.size_push]; exact Nat.lt_succ_of_lt lt⟩
    rw [upd_ne (by rw [← eD]; exact Nat.ne_of_lt lt)]
    exact (f2 b hb).1
  have st3 : tn 0 s3.heap := T.keep _ _ _ st2 fun b _ o e => by rw [hp3]; exact Heap.get?_push_of_some _ e
  have I4 := block_start I3 ok hN fp3
  have gT := hg s3 (upd H2 D (TxO X.prog X.w D [])) s3.heap.objs.size (cellsFrom (s3.heap.objs.size + 1) scope.names (cloFrom X.env.cells scope.names [])) fp
  have tT := ht s3 (upd H2 D (TxO X.prog X.w D [])) s3.heap.objs.size (cellsFrom (s3.heap.objs.size + 1) scope.names (cloFrom X.env.cells scope.names [])) fp
  have eT := he s3 (upd H2 D (TxO X.prog X.w D [])) s3.heap.objs.size (cellsFrom (s3.heap.objs.size + 1) scope.names (cloFrom X.env.cells scope.names [])) fp
  show codeAny _ _ (.compStart (.SetComp elt [⟨tg, iter, ifs, 0⟩] scope pos) 0 (.ref it) (.ref D) (compEnvC scope (cellsFrom (s3.heap.objs.size + 1) scope.names (cloFrom X.env.cells scope.names [])) s3.heap.objs.size X.env)) (compPost (model X.prog X.w) X.A X.xe none (EP X pins σ Q) (.ref D) s3.heap.objs.size) { s3 with heap := pushCells (s3.heap.push { cls := .type "dict", data := .dict #[] }) scope.names }
  have nofp : ∀ b ∈ fp, (upd H2 D (TxO X.prog X.w D [])) b = none := fun b hb => (fp3 b hb).1.1
  generalize ece : compEnvC scope (cellsFrom (s3.heap.objs.size + 1) scope.names (cloFrom X.env.cells scope.names [])) s3.heap.objs.size X.env = ce at I4 gT tT eT ⊢
  have locC : ce.locals = s3.heap.objs.size := by rw [← ece]; rfl
  generalize eH3 : upd H2 D (TxO X.prog X.w D []) = H3 at I3 I4 gT tT eT w0 nofp fp3
  generalize e4 : ({ s3 with heap := pushCells (s3.heap.push { cls := .type "dict", data := .dict #[] }) scope.names } : Shared) = s4 at I4 ⊢
  have st4 : tn 0 s4.heap := T.keep _ _ _ st3 fun b _ o e => by rw [← e4]; exact pushCells_keeps _ _ _ _ (Heap.get?_push_of_some _ e)
  have okfp : ∀ {σ' : L2.St} {H' : Hp} {s' : Shared}, Inv (X.blk s3 H3 scope ce fp) [] σ' H' s' → (∀ b ∈ fp, H' b = none) → ∀ b ∈ fp, FpOk (X.blk s3 H3 scope ce fp) [] H' b := fun {σ' H' s'} I' hn b hb =>
    ⟨hn b hb, (I'.ok.exf b hb).1, I'.ok.exfs b hb, .inl hb, fun x c e => (I'.ok.exf b hb).2 x c e, fun p hp => absurd (show p ∈ ([] : List (Addr × Obj)) ++ [] from hp) (by simp)⟩
  have walk : codeAny (model X.prog X.w) X.A (.compLoop (.SetComp elt [⟨tg, iter, ifs, 0⟩] scope pos) 0 (.ref it) (.ref D) ce) (compPost (model X.prog X.w) X.A X.xe none (EP X pins σ Q) (.ref D) s3.heap.objs.size) s4 := by
    refine compLoopS_any (fun n s' => ∃ i H', Inv (X.blk s3 H3 scope ce fp) [] (wipe σ (own.map (·.2))) H' s' ∧ tn i s'.heap ∧ (∀ b ∈ fp, H' b = none) ∧ W i n H') ?_ m0 ⟨0, H3, I4, st4, nofp, w0⟩
    rintro n s5 ⟨i, H5, I5, st5, n5, w5⟩
    rcases turn i n H5 w5 with ⟨stop, qq⟩ | ⟨go, Nx, hNx, step⟩
    · refine thnF (T.done (X.blk s3 H3 scope ce fp) rfl rfl rfl hc i [] s5 _ H5 (fun _ _ => False) I5 (okfp I5 n5) st5 stop) fun r s6 ⟨hr, I6⟩ => ?_
      subst hr
      have I7 : Inv X pins σ H5 s6 := I3.call' (ch := fp) I6.os I6.base I6.hok I6.bare fun b hb => ⟨(fp3 b hb).1.2.2.2.1, (fp3 b hb).1.2.1, (fp3 b hb).1.2.2.2.2.1, (fp3 b hb).1.2.2.2.2.2⟩
      have freeC : H5 s3.heap.objs.size = none := by
        have z : H5 ce.locals = none := I6.free
        rwa [locC] at z
      obtain ⟨m, hn, _⟩ := I6.loc
      have hn : s6.heap.Ns ce.locals m := hn
      rw [locC] at hn
      refine ⟨m, hn, fun h'' sb => ?_⟩
      obtain ⟨f0, f1, f2', f3, f4, f5⟩ := I3.fpOk (Nat.le_refl _) freeC
      exact ⟨.ref D, H5, I7.turned (t' := s6.toks) (fun b o hb e => (sb.2 b hb).trans e) f0 f1 f3 f4 f5, rfl, qq⟩
    · refine thnF (T.item (X.blk s3 H3 scope ce fp) rfl rfl rfl hc i [] s5 _ H5 (fun _ _ => False) I5 (okfp I5 n5) st5 go) fun r s6 ⟨u, hr, h6⟩ => ?_
      subst hr
      refine thnF h6 fun _ s7 ⟨x, H7, I7, r7, y7, st7, n7⟩ => ?_
      have I7p := I7.pinned (okfp I7 n7) (T.obj _ _ st7)
      refine thnF (gT.run _ s7 _ H7 x u _ I7p r7 (step x H7 y7)) fun _ s8 ⟨σ8, H8, I8, hw8, q8⟩ => ?_
      refine thnF (tT.run _ s8 σ8 H8 _ I8 q8) fun b s9 ⟨H9, I9, q9⟩ => ?_
      have back : ∀ {s' : Shared} {H' : Hp}, Inv (X.blk s3 H3 scope ce fp) ([] ++ pinsAt fp s7.heap) σ8 H' s' → Nx H' → ∃ m, m < n ∧ ∃ i H', Inv (X.blk s3 H3 scope ce fp) [] (wipe σ (own.map (·.2))) H' s' ∧ tn i s'.heap ∧ (∀ b ∈ fp, H' b = none) ∧ W i m H' := fun {s' H'} I' nx => by
        obtain ⟨m', hm, w'⟩ := hNx H' nx
        have pinned : ∀ b ∈ fp, ∀ o, s7.heap.get? b = some o → s'.heap.get? b = some o ∧ H' b = none := fun b hb o e =>
          let z := I'.pin (b, o) (List.mem_append_right _ (List.mem_append_right _ (mem_pinsAt hb e)))
          ⟨z.1, z.2.1⟩
        have len : (wipe σ (own.map (·.2))).length = σ8.length := by rw [← hw8, wipe_length]
        refine ⟨m', hm, i + 1, H', (I'.unpinned (pins := [])).weak len (fun j v e => ?_), T.keep _ _ _ st7 fun b hb o e => (pinned b hb o e).1, fun b hb => ?_, w'⟩
        · rw [← hw8] at e
          exact (wipe_some e).1
        · obtain ⟨o, e, _⟩ := T.obj _ _ st7 b hb
          exact (pinned b hb o e).2
      cases b with
      | false =>
        simp only [Bool.false_eq_true, if_false] at q9 ⊢
        exact back I9 q9
      | true =>
        simp only [if_true] at q9 ⊢
        refine thnF (eT.run _ s9 σ8 H9 _ I9 q9) fun z s10 ⟨yv, H10, I10, r10, zt, l0, ey, hD10, hz10, nx⟩ => ?_
        subst ey
        obtain ⟨tk, rfl⟩ := r10
        exact txo_add (X := X.blk s3 H3 scope ce fp) I10 hD10 hz10 fun s11 I11 => back I11 nx
  exact codeAny_compStart_set walk (T.self X.A 0 _ _ _ st4 walk)
end
/-- over a tuple that stays -/
theorem setT_tup {P : Program} {w : World} {K : PySem.W.Frag} {a : Addr} {xs : List V} {g : TG} {tt : TT} {te : TE} {own : List Nat} {σ : L2.St} {H1 : Hp} {D : Addr} {Qd : Hp → Prop} (Pv : Nat → Hp → Prop) (h0 : Pv 0 (upd H1 D (TxO P w D []))) (hl : ∀ i H, i ≤ xs.length → Pv i H → SqT K H a xs)
    (hs : ∀ i x H, xs[i]? = some x → Pv i H → turnT P w g tt te own D σ x H (Pv (i + 1))) (hd : ∀ H, Pv xs.length H → Qd H) :
    ∃ W : Nat → Nat → Hp → Prop, (∃ m, W 0 m (upd H1 D (TxO P w D []))) ∧ ∀ i m H, W i m H →
      ((Itt K a).stop i H ∧ Qd H) ∨ ((Itt K a).go i H ∧ ∃ Nx : Hp → Prop, (∀ H', Nx H' → ∃ m', m' < m ∧ W (i + 1) m' H') ∧ ∀ x H', (Itt K a).yld i H x H' → turnT P w g tt te own D σ x H' Nx) := by
  refine ⟨fun i m H => i + m = xs.length ∧ Pv i H, ⟨xs.length, Nat.zero_add _, h0⟩, ?_⟩
  rintro i m H ⟨e, p⟩
  have q := hl i H (by omega) p
  cases m with
  | zero =>
    have e' : i = xs.length := e
    subst e'
    exact .inl ⟨⟨xs, q, Nat.le_refl _⟩, hd H p⟩
  | succ m =>
    refine .inr ⟨⟨xs, xs[i]'(by omega), q, List.getElem?_eq_getElem (by omega)⟩, Pv (i + 1), fun H' p' => ⟨m, Nat.lt_succ_self m, by omega, p'⟩, fun x H' y => ?_⟩
    obtain ⟨e1, y⟩ := y
    subst e1
    exact hs i x _ (y xs q) p
end Cp

set_option Elab.async false
set_option linter.all false
set_option maxRecDepth 100000
set_option maxHeartbeats 2000000
/-! ### a dict comprehension over any walk; enumerate(a tuple) as a walk -/
namespace Cp
open PySem PySem.Spec L2 PyProof.Rows
theorem walk_enT {K : PySem.W.Frag} {a : Addr} {xs : List V} : Walk (ItT K a) xs.length (fun H => SqT K H a xs) (YPair (fun i => some (.int (i : Nat))) (fun i => xs[i]?)) := by
  refine ⟨fun i _ hi q => ⟨xs, xs[i], q, List.getElem?_eq_getElem hi⟩, fun _ q => ⟨xs, q, Nat.le_refl _⟩, fun i H v H' _ q y => ?_⟩
  obtain ⟨T, x, h1, h2, h3, h4⟩ := y
  exact ⟨T, _, x, h1, h2, h3, rfl, h4 xs q⟩
/-- name = {..: .. for ..} on one line, the name a local -/
theorem ps_setDc {X : Cx} {i : Nat} {y : Str} {py : Pos} {kx vx tg iter : Expr} {ifs : List Expr} {scope : Scope} {own : List (Str × Nat)} {pos spos : Pos} {wi : TI} {g : TG} {tt : TT} {tk tv : TE} (calm : X.calm = true) (nodup : X.N.Nodup) (hy : X.N[i]? = some y) (loc : X.env.scope.names.lookup y = some .local)
    (sw : swapsWith (.DictComp kx vx [⟨tg, iter, ifs, 0⟩] scope pos) (some (.Name y py)) spos.line X.env = pure true) (hi : PI X tg iter wi) (ok : BlkOk X.N X.env.scope scope own)
    (hg : ∀ (s : Shared) (H : Hp) (C : Addr) (cl : List (Str × Addr)) (fp : List Addr), PG (X.blk s H scope (compEnvC scope cl C X.env) fp) tg g) (ht : ∀ (s : Shared) (H : Hp) (C : Addr) (cl : List (Str × Addr)) (fp : List Addr), PTs (X.blk s H scope (compEnvC scope cl C X.env) fp) ifs tt)
    (hk : ∀ (s : Shared) (H : Hp) (C : Addr) (cl : List (Str × Addr)) (fp : List Addr), PE (X.blk s H scope (compEnvC scope cl C X.env) fp) kx tk)
    (hv : ∀ (s : Shared) (H : Hp) (C : Addr) (cl : List (Str × Addr)) (fp : List Addr), PE (X.blk s H scope (compEnvC scope cl C X.env) fp) vx tv) (hs : ∀ x, foldedSetIterable iter X.env x = pure x := by intro _; rfl) :
    PS X (.Assign [.Name y py] (.DictComp kx vx [⟨tg, iter, ifs, 0⟩] scope pos) spos) (tAsg (tDc wi g tt tk tv (own.map (·.2))) (gName i)) := by
  refine ⟨fun pins s σ H D I h => ?_⟩
  rw [exec_Assign_Name_used _ _ _ _ sw]
  refine wpAny_bind (wpAny_standAt (wpAny_bind ?_))
  show wpAny _ X.A (do let _ ← comprehension (.DictComp kx vx [⟨tg, iter, ifs, 0⟩] scope pos) scope X.env (firstIterPos [⟨tg, iter, ifs, 0⟩] pos) newDict false (eval iter X.env) (some (assign (.Name y py) X.env))) _ _ s
  have h : tDc wi g tt tk tv (own.map (·.2)) σ H (fun x H1 => gName i x σ H1 D.nx) := h
  refine wpAny_bind (thn (dc_core (Qf := fun _ s' => SP X pins D .next s') calm nodup I hi ok hg ht hk hv hs h fun L C s' m H' I' q hn f => ?_) fun _ s' hq => wpAny_pure (wpAny_pure hq))
  show wpAny _ _ (assign (.Name y py) X.env (.ref L)) _ _ _
  refine wpAny_assign_Name (store_ok2 (v := V.ref L) I' nodup hy (.inl loc) rfl (fun s2 I2 ⟨a, sb, ha⟩ => ?_) (.inr loc))
  obtain ⟨f0, f1, f2, f3, f4, f5⟩ := f
  have apart : C ≠ a := ha.elim (fun z => by rw [z]; exact f1) (fun z e => f4 y a z e.symm)
  exact ⟨m, hn.sameBut sb apart, fun h3 sb3 => ⟨_, H', I2.turned (t' := s2.toks) (fun b o hb e => (sb3.2 b hb).trans e) f0 f1 f3 f4 f5, q⟩⟩
theorem sw_trueD {kx vx : Expr} {gs : List Comprehension} {scope : Scope} {pos py : Pos} {y : Str} {l : Nat} {env : Env} (fn : env.scope.kind = .function) (loc : env.scope.names.lookup y = some .local) (line : (py.line == pos.line) = true)
    (other : (scope.names.any fun (n, k) => n == y && (k == .local || k == .cell)) = false) : swapsWith (.DictComp kx vx gs scope pos) (some (.Name y py)) l env = pure true := by
  have k1 : env.kindOf y = some .local := loc
  have k2 : env.blockKind = .function := by unfold Env.blockKind; rw [fn]; rfl
  unfold swapsWith
  simp only [k2, k1, other, Expr.pos, line]
  rfl
/-- what one turn of a dict comprehension asks -/
def turnD (g : TG) (tt : TT) (tk tv : TE) (own : List Nat) (D : Addr) (σ : L2.St) (x : V) (H : Hp) (Nx : Hp → Prop) : Prop :=
  g x (wipe σ own) H fun σ2 H2 => wipe σ2 own = wipe σ own ∧ tt σ2 H2 fun b H3 =>
    if b = true then tk σ2 H3 fun y H4 => tv σ2 H4 fun z H5 => ∃ kvs k, y = kV k ∧ H5 D = some (.dK kvs) ∧ kvs.length < sizeLine ∧ Nx (upd H5 D (.dK (putK kvs k z))) else Nx H3
theorem dc_walk {J : It} {n : Nat} {G : Hp → Prop} {Y : Nat → Hp → V → Hp → Prop} (w : Walk J n G Y) {g : TG} {tt : TT} {tk tv : TE} {own : List Nat} {σ : L2.St} {H1 : Hp} {D : Addr} {Qd : Hp → Prop} (Pv : Nat → Hp → Prop) (h0 : Pv 0 (upd H1 D (.dK []))) (hG : ∀ i H, i ≤ n → Pv i H → G H)
    (hs : ∀ i x H H', i < n → Pv i H → Y i H x H' → turnD g tt tk tv own D σ x H' (Pv (i + 1))) (hd : ∀ H, Pv n H → Qd H) :
    ∃ W : Nat → Nat → Hp → Prop, (∃ m, W 0 m (upd H1 D (.dK []))) ∧ ∀ i m H, W i m H →
      (J.stop i H ∧ Qd H) ∨ (J.go i H ∧ ∃ Nx : Hp → Prop, (∀ H', Nx H' → ∃ m', m' < m ∧ W (i + 1) m' H') ∧ ∀ x H', J.yld i H x H' → g x (wipe σ own) H' fun σ2 H2 => wipe σ2 own = wipe σ own ∧ tt σ2 H2 fun b H3 =>
        if b = true then tk σ2 H3 fun y H4 => tv σ2 H4 fun z H5 => ∃ kvs k, y = kV k ∧ H5 D = some (.dK kvs) ∧ kvs.length < sizeLine ∧ Nx (upd H5 D (.dK (putK kvs k z))) else Nx H3) := by
  refine ⟨fun i m H => i + m = n ∧ Pv i H, ⟨n, Nat.zero_add n, h0⟩, ?_⟩
  rintro i m H ⟨e, p⟩
  have q := hG i H (by omega) p
  cases m with
  | zero =>
    have e' : i = n := e
    subst e'
    exact .inl ⟨w.stops H q, hd H p⟩
  | succ m => exact .inr ⟨w.goes i H (by omega) q, Pv (i + 1), fun H' p' => ⟨m, Nat.lt_succ_self m, by omega, p'⟩, fun x H' y => hs i x H H' (by omega) p (w.yields i H x H' (by omega) q y)⟩
end Cp

set_option Elab.async false
set_option linter.all false
set_option maxRecDepth 100000
namespace Cp
open PySem PySem.Spec L2 PyProof.Rows
abbrev sRch : Stmt := top 20
/-- what a layout reaches; of what is none BadLayout with the place -/
def spRch (CB : Addr) : Sp := fun vs H Q E => ∃ (v : V) (d : PyData), vs = [v] ∧ Dq H v d ∧ bndD d = true ∧
  (placeP d = none → ∀ (ds : List PyData) (p : Addr) (H' : Hp), d = .tuple ds → H p = none → H' p = some (.dK (rchK (aheadB ds [] 1))) → Same H H' → Q (.ref p) H') ∧
  (∀ l, placeP d = some l → ∀ (t x : Addr) (H' : Hp), H' x = some (.xd [(("place" : Str), .ref t)]) → H' t = some (.tup (l.map fun i : Nat => V.int (i : Int))) → Same H H' → E (.ref CB) (some x) H')
theorem placeP_tup : ∀ {d : PyData}, placeP d = none → ∃ ds, d = .tuple ds
  | .none, h => by cases h
  | .bool _, h => by cases h
  | .int _, h => by cases h
  | .str _, h => by cases h
  | .list _, h => by cases h
  | .tuple ds, _ => ⟨ds, rfl⟩
  | .dict _, h => by cases h
section
variable {P : Program} {w : World} {K : PySem.W.Frag} {mg : Str → Option Value} {base : Heap}
theorem scRch : FnScope ["thing"] ["thing"] (defScope sRch) := ⟨rfl, rfl, rfl, by decide +kernel, rfl, by decide +kernel, by decide +kernel⟩
theorem ok_rch {f fN CB : Addr} {fd fdN : FuncData} (F : Fun K "reached_bits" "reached_bits" sRch f fd) (GN : FnOk P w K mg base (L2.CX P w) 7 fN fdN ["thing"] (spLook CB)) (kN : PySem.W.keepIn K (.ref fN) = true) (bN : Binds K fdN ["thing"] []) (mN : mg "look_at" = some (.ref fN)) :
    FnOk P w K mg base (L2.CX P w) 8 f fd ["thing"] (spRch CB) := by
  refine F.okX scRch (fun vs H Q E h => ?_) (fun cdv A outer s H vs Q E hr h => ?_)
  · obtain ⟨v, d, rfl, _⟩ := h; rfl
  · obtain ⟨v, d, rfl, hq, hb, kQ, kE⟩ := h
    refine ⟨_, (pss_one (ps_ret (pe_ix ix_tup (pe_callS GN hr (by rfl) mN kN bN (fun σ => passAt (takes_of rfl rfl rfl rfl) σ) (pa_cons (pv 0) pa_nil)) pe_int (fun _ _ => rfl)))), ?_⟩
    exact ⟨_, rfl, v, d, rfl, hq, hb, fun h ds t p H' e hp h1 h2 s => ⟨t, _, _, _, rfl, rfl, SqT.of h2, rfl, kQ h ds p H' e hp h1 s⟩, kE⟩
end
end Cp

set_option Elab.async false
set_option linter.all false
set_option maxRecDepth 100000
namespace Cp
open PySem PySem.Spec L2 PyProof.Rows
/-- of a layout: what its kinds reach -/
def spRchL : Sp := fun vs H Q _ => ∃ (a : Addr) (as : List Addr) (ks : List Kd), vs = [.ref a] ∧ LayAt H a as ks ∧ ∀ (p : Addr) (H' : Hp), H p = none → H' p = some (.dK (rchK (rks ks))) → Same H H' → Q (.ref p) H'
theorem ok_rchL {P : Program} {w : World} {K : PySem.W.Frag} {mg : Str → Option Value} {base : Heap} {CX : CXT} {f CB : Addr} {fd : FuncData} {k : Nat} (F : FnOk P w K mg base CX k f fd ["thing"] (spRch CB)) : FnOk P w K mg base CX k f fd ["thing"] spRchL :=
  F.imp fun vs H Q E ⟨a, as, ks, e, L, q⟩ => ⟨.ref a, .tuple (ks.map kdData), e, L.dq, bnd_lay L.fm, fun _ ds p H' e2 hp h1 s => by
    cases e2
    rw [ahead_lay L.fm] at h1
    exact q p H' hp h1 s, fun l hl => by
    rw [place_lay L.fm L.l1 L.l2] at hl
    cases hl⟩
end Cp

set_option Elab.async false
set_option linter.all false
set_option maxRecDepth 100000
/-! ### the module's dict of letters -/
namespace Cp
open PySem PySem.Spec L2 PyProof.Rows
def lettersL : List Str := ["a", "b", "c", "d", "e", "f", "g", "h", "i", "j", "k", "l", "m", "n", "o", "p", "q", "r", "s", "t", "u", "v", "w", "x", "y", "z"]
theorem let_1 : lettersL.all isLet = true := by decide +kernel
theorem let_2 : alphaL.all (fun c => decide ((⟨#[c]⟩ : Str) ∈ lettersL)) = true := by decide +kernel
theorem let_mem (z : Str) : decide (z ∈ lettersL) = isLet z := by
  rw [Bool.eq_iff_iff, decide_eq_true_eq]
  constructor
  · exact fun h => List.all_eq_true.mp let_1 z h
  · intro h
    unfold isLet at h
    simp only [Bool.and_eq_true, decide_eq_true_eq] at h
    obtain ⟨c, rfl⟩ := len1 h.1
    have h2 := List.all_eq_true.mp h.2 c (by simp)
    exact of_decide_eq_true (List.all_eq_true.mp let_2 c (of_decide_eq_true h2))
theorem isStr_eq {x z : Str} {t : Tok} : Value.isStr (.str x t) z = decide (x = z) := by
  show (x == z) = _
  rw [Bool.eq_iff_iff]
  simp
theorem keys_find {P : Params} : ∀ {l : List DictEntry} {ks : List Str}, l.map He.keyOf = He.keysIn P ks → ∀ z : Str, ((l.find? (·.key.isStr z)).isSome = decide (z ∈ ks)) ∧ l.any (·.refKey) = false
  | [], [], _, z => by simp
  | [], k :: ks, h, z => by cases h
  | e :: r, [], h, z => by cases h
  | e :: r, k :: ks, h, z => by
    have h1 : He.keyOf e :: r.map He.keyOf = some (k, PyData.keyHash P k) :: He.keysIn P ks := h
    injection h1 with h2 h3
    obtain ⟨i1, i2⟩ := keys_find h3 z
    unfold He.keyOf at h2
    split at h2
    · rename_i x t q
      have h4 := Option.some.inj h2
      obtain ⟨h5, h6⟩ := Prod.mk.inj h4
      subst h5
      have hs : e.key.isStr z = decide (x = z) := by rw [q]; exact isStr_eq
      constructor
      · by_cases hx : x = z
        · rw [List.find?_cons_of_pos (by rw [hs]; exact decide_eq_true hx), decide_eq_true (show z ∈ x :: ks from hx ▸ List.mem_cons_self)]
          rfl
        · rw [List.find?_cons_of_neg (by rw [hs, decide_eq_false hx]; exact Bool.false_ne_true), i1]
          refine decide_eq_decide.mpr ⟨fun h => List.mem_cons_of_mem _ h, fun h => ?_⟩
          rcases List.mem_cons.mp h with h | h
          · exact absurd h.symm hx
          · exact h
      · rw [List.any_cons, i2, Bool.or_false]
        unfold DictEntry.refKey
        rw [q]
    · cases h2
theorem ltD_of {K : PySem.W.Frag} {w : World} {mg : Str → Option Value} {dL : Addr} {es : Array DictEntry} {n : Nat} (g : mg "IS_LETTER" = some (.ref dL)) (hL : K.lookup dL = some ⟨.type "dict", none, .dict es n, #[]⟩) (hk : es.toList.map He.keyOf = He.keysIn w.params lettersL) (ho : (dL == sysModules) = false) : LtD K w mg dL es n := by
  refine ⟨g, ⟨hL, He.keysLit_of hk, ho⟩, fun z => ?_⟩
  obtain ⟨h1, h2⟩ := keys_find hk z
  rw [let_mem] at h1
  unfold PySem.W.nsIn
  rw [hL]
  simp only
  cases hf : es.toList.find? (·.key.isStr z) with
  | some e =>
    rw [hf] at h1
    exact ⟨some e.val, rfl, h1⟩
  | none =>
    rw [hf] at h1
    refine ⟨none, ?_, h1⟩
    simp only [h2]
    rfl
end Cp

set_option Elab.async false
set_option linter.all false
set_option maxRecDepth 100000
set_option maxHeartbeats 1000000
/-! ### shifts, odd numbers -/
namespace Cp
open PySem PySem.Spec L2 PyProof.Rows
def rShr : R2 := fun x y H Q => ∃ n k : Nat, x = .int (n : Int) ∧ y = .int (k : Int) ∧ Q (.int ((n / 2 ^ k : Nat) : Int)) H
def rOdd : R2 := fun x y H Q => ∃ n : Nat, x = .int (n : Int) ∧ y = .int 1 ∧ Q (.int ((n % 2 : Nat) : Int)) H
def rOne : R2 := fun x y H Q => ∃ k : Nat, x = .int 1 ∧ y = .int (k : Int) ∧ k ≤ 1000 ∧ Q (.int ((2 ^ k : Nat) : Int)) H
section
variable {X : Cx}
theorem op_shrU : OpR X (binaryOp .RShift) rShr := by
  intro pins s σ H x y v u Q I rx ry h
  obtain ⟨n, k, ex, ey, q⟩ := h
  refine op_shrN pins s σ H x y v u Q I rx ry ⟨(n : Int), k, ex, ey, ?_⟩
  have e : ((n : Nat) : Int) / 2 ^ k = ((n / 2 ^ k : Nat) : Int) := by rw [Int.natCast_ediv, Int.natCast_pow]; rfl
  rw [e]
  exact q
theorem op_oddU : OpR X (binaryOp .BitAnd) rOdd := op_odd
theorem op_oneU : OpR X (binaryOp .LShift) rOne := by
  intro pins s σ H x y v u Q I rx ry h
  obtain ⟨k, ex, ey, hk, q⟩ := h
  refine op_oneShl pins s σ H x y v u Q I rx ry ⟨k, ex, ey, by omega, ?_⟩
  rw [show (2 : Int) ^ k = ((2 ^ k : Nat) : Int) by rw [Int.natCast_pow]; rfl]
  exact q
end
theorem bit_odd (n k : Nat) : (((n / 2 ^ k % 2 : Nat) : Int) != 0) = n.testBit k := by
  rw [Nat.testBit_eq_decide_div_mod_eq, Bool.eq_iff_iff, bne_iff_ne, decide_eq_true_eq]
  omega
end Cp

set_option Elab.async false
set_option linter.all false
set_option maxRecDepth 100000
namespace Cp
open PySem L2
/-- a call of such a def from a def that lets nothing out, where the promise says that it raises nothing -/
theorem passX {X : Cx} : Passes (L2.CX X.prog X.w) X (fun _ _ _ => False) := passes_call takes0 fun _ _ _ _ h => h
def hasL (k : Kd) (m : Str) : Bool := decide (97 + k.lt ∈ m.cps.toList)
def watchL (ks : List Kd) (k : Kd) : List Str := (ks.filter fun x => decide (x.ed < k.ed) && hasL x k.mrk).map Kd.nm
def mindL (ks : List Kd) (k : Kd) : List Str := (ks.filter fun x => !decide (x.nm = k.nm) && hasL x k.mrk).map Kd.nm
def NotNm (ks : List Kd) (v : V) : Prop := ∀ k ∈ ks, v ≠ .str k.nm
/-- what is asked for as a name -/
def NoS (H : Hp) (v : V) : Prop := (∃ x, v = .str x) ∨ v = .non ∨ (∃ i, v = .int i) ∨ ∃ (a : Addr) (xs : List V), v = .ref a ∧ (H a = some (.tup xs) ∨ H a = some (.lst xs))
theorem NoS.same {H H' : Hp} {v : V} (h : NoS H v) (s : Same H H') : NoS H' v := by
  rcases h with h | h | h | ⟨a, xs, e, h | h⟩
  · exact .inl h
  · exact .inr (.inl h)
  · exact .inr (.inr (.inl h))
  · exact .inr (.inr (.inr ⟨a, xs, e, .inl (s _ _ h)⟩))
  · exact .inr (.inr (.inr ⟨a, xs, e, .inr (s _ _ h)⟩))
/-- a question about one name: its answer, a new tuple of names; or Missing, which holds the very thing -/
def spAsk (CM : Addr) (f : List Kd → Kd → List Str) : Sp := fun vs H Q E => ∃ (a : Addr) (v : V) (as : List Addr) (ks : List Kd), vs = [.ref a, v] ∧ LayAt H a as ks ∧
  ((∃ k, k ∈ ks ∧ v = .str k.nm ∧ ∀ (t : Addr) (H' : Hp), H' t = some (.tup ((f ks k).map V.str)) → Same H H' → Q (.ref t) H') ∨
    (NotNm ks v ∧ NoS H v ∧ ∀ (d : Addr) (H' : Hp), H' d = some (.xd [(("name" : Str), v)]) → Same H H' → E (.ref CM) (some d) H'))
structure TM (K : PySem.W.Frag) (mg : Str → Option Value) (CM : Addr) : Prop where
  gM : mg "Missing" = some (.ref CM)
  xf : XfC K CM
  noF : PySem.W.findIn K (.ref CM) "name" = some none
  te : PySem.W.exmOne K (.ref CM) (.ref CM) = some true
theorem LayAt.same {H H' : Hp} {t : Addr} {as : List Addr} {ks : List Kd} (L : LayAt H t as ks) (s : Same H H') : LayAt H' t as ks := ⟨s _ _ L.tp, L.rw.tk (tk_same s), L.fm, L.l1, L.l2⟩
end Cp

set_option Elab.async false
set_option linter.all false
set_option maxRecDepth 100000
set_option maxHeartbeats 2000000
/-! ### older_bits -/
namespace Cp
open PySem PySem.Spec L2 PyProof.Rows
abbrev nOldB : List Str := ["layout", "told", "edition", "older", "at", "kind"]
def nV (n : Nat) : V := .int ((n : Nat) : Int)
/-- for each kind the bits of those of which p holds with it -/
def rowB (p : Kd → Kd → Bool) (ks : List Kd) : List Nat := ks.map fun k => bo (p k) ks
theorem rowB_take {p : Kd → Kd → Bool} {ks : List Kd} {i : Nat} {k : Kd} (hk : ks[i]? = some k) : (rowB p ks).take (i + 1) = (rowB p ks).take i ++ [bo (p k) ks] := by
  have h : (rowB p ks)[i]? = some (bo (p k) ks) := by unfold rowB; rw [List.getElem?_map, hk]; rfl
  exact take_snoc h
theorem rowB_len (p : Kd → Kd → Bool) (ks : List Kd) : (rowB p ks).length = ks.length := by unfold rowB; rw [List.length_map]
theorem rowB_at {p : Kd → Kd → Bool} {ks : List Kd} {i : Nat} {k : Kd} (hk : ks[i]? = some k) : ((rowB p ks).map nV)[i]? = some (nV (bo (p k) ks)) := by
  unfold rowB
  rw [List.map_map, List.getElem?_map, hk]
  rfl
/-- a list of numbers for the kinds of a layout -/
def spRowB (p : List Kd → Kd → Kd → Bool) : Sp := fun vs H Q _ => ∃ (a : Addr) (as : List Addr) (ks : List Kd), vs = [.ref a] ∧ LayAt H a as ks ∧ ∀ (l : Addr) (H' : Hp), H l = none → H' l = some (.lst ((rowB (p ks) ks).map nV)) → Same H H' → Q (.ref l) H'
structure TBi (mg : Str → Option Value) : Prop where
  ed : ∃ t, mg "EDITION" = some (.int 1 t)
  lt : ∃ t, mg "LETTER" = some (.int 3 t)
  ma : ∃ t, mg "MARK" = some (.int 4 t)
  enum : mg "enumerate" = none
  sorted : mg "sorted" = none
  zip : mg "zip" = none
  len : mg "len" = none
theorem LayAt.row {H : Hp} {a : Addr} {as : List Addr} {ks : List Kd} (L : LayAt H a as ks) {j : Nat} {y : V} (hj : (as.map V.ref)[j]? = some y) : ∃ x k b, y = .ref x ∧ ks[j]? = some k ∧ k ∈ ks ∧ j < ks.length ∧ H x = some (.tup [.str k.nm, .int k.ed, .ref b, .str (ltr k.lt), .str k.mrk]) ∧ H b = some (.tup (k.bs.map V.str)) := by
  obtain ⟨x, hx, rfl⟩ := ref_at hj
  have hjk : j < ks.length := by
    have := (List.getElem?_eq_some_iff.mp hx).1
    rw [L.rw.1] at this
    exact this
  have hk := List.getElem?_eq_getElem hjk
  obtain ⟨b, c1, c2⟩ := L.rw.2 j x _ hx hk
  exact ⟨x, _, b, rfl, hk, List.mem_of_getElem? hk, hjk, c1, c2⟩
section
variable {P : Program} {w : World} {K : PySem.W.Frag} {mg : Str → Option Value} {base : Heap}
end
end Cp

set_option Elab.async false
set_option linter.all false
set_option maxRecDepth 100000
set_option maxHeartbeats 2000000
/-! ### letter_bits -/
namespace Cp
open PySem PySem.Spec L2 PyProof.Rows
abbrev sLetB : Stmt := top 23
abbrev nLetB : List Str := ["layout", "kind", "letters", "told", "at", "letter"]
/-- a dict from texts to numbers -/
def nmD (ys : List Str) (f : Str → Nat) : List (Key × V) := ys.map fun x => (kx x, nV (f x))
theorem nmD_none {f : Str → Nat} : ∀ {ys : List Str} {x : Str}, x ∉ ys → valV (nmD ys f) (kx x) = none
  | [], x, _ => valV_nil
  | y :: r, x, h => by
    have h1 : ¬ y = x := fun e => h (by rw [e]; exact List.mem_cons_self)
    show valV ((kx y, nV (f y)) :: nmD r f) (kx x) = none
    rw [valV_neg (p := (kx y, nV (f y))) (kne h1)]
    exact nmD_none fun z => h (List.mem_cons_of_mem _ z)
theorem nmD_some {f : Str → Nat} : ∀ {ys : List Str} {x : Str}, x ∈ ys → valV (nmD ys f) (kx x) = some (nV (f x))
  | [], x, h => absurd h List.not_mem_nil
  | y :: r, x, h => by
    show valV ((kx y, nV (f y)) :: nmD r f) (kx x) = _
    by_cases e : y = x
    · subst e
      exact valV_pos (p := (kx y, nV (f y))) rfl
    · rw [valV_neg (p := (kx y, nV (f y))) (kne e)]
      exact nmD_some ((List.mem_cons.mp h).resolve_left fun z => e z.symm)
theorem nmD_snoc {f : Str → Nat} {ys : List Str} {x : Str} (h : x ∉ ys) : putK (nmD ys f) (kx x) (nV (f x)) = nmD (ys ++ [x]) f := by
  rw [putK_new _ (nmD_none h)]
  unfold nmD
  rw [List.map_append]
  rfl
theorem nmD_put {f g : Str → Nat} {ys : List Str} {x : Str} (h : x ∈ ys) (hg : ∀ y, y ≠ x → g y = f y) : putK (nmD ys f) (kx x) (nV (g x)) = nmD ys g := by
  unfold putK
  rw [valV_any, nmD_some h, if_pos (show (some (nV (f x))).isSome = true from rfl)]
  unfold nmD
  rw [List.map_map]
  refine List.map_congr_left fun y _ => ?_
  show (if kx y = kx x then (kx y, nV (g x)) else (kx y, nV (f y))) = (kx y, nV (g y))
  by_cases e : y = x
  · subst e
    rw [if_pos rfl]
  · rw [if_neg (kne e), hg y e]
theorem nmD_len (ys : List Str) (f : Str → Nat) : (nmD ys f).length = ys.length := by unfold nmD; rw [List.length_map]
theorem nmD_congr {f g : Str → Nat} {ys : List Str} (h : ∀ x ∈ ys, f x = g x) : nmD ys f = nmD ys g := List.map_congr_left fun x hx => by rw [h x hx]
/-- the letters of kinds, as they come into a set -/
def ltsL (ks : List Kd) : List Str := ks.foldl (fun l k => putT (ltr k.lt) l) []
theorem ltsL_snoc {ks : List Kd} {j : Nat} {k : Kd} (hk : ks[j]? = some k) : ltsL (ks.take (j + 1)) = putT (ltr k.lt) (ltsL (ks.take j)) := by
  unfold ltsL
  rw [take_snoc hk, List.foldl_append]
  rfl
theorem putT_mem {x y : Str} {l : List Str} : y ∈ putT x l ↔ y = x ∨ y ∈ l := by
  unfold putT
  split
  · rename_i h
    exact ⟨.inr, fun z => z.elim (fun e => e ▸ h) id⟩
  · exact List.mem_cons
theorem putT_len (x : Str) (l : List Str) : (putT x l).length ≤ l.length + 1 := by
  unfold putT
  split
  · omega
  · rw [List.length_cons]
    exact Nat.le_refl _
theorem putT_nd {x : Str} {l : List Str} (h : l.Nodup) : (putT x l).Nodup := by
  unfold putT
  split
  · exact h
  · rename_i hx
    exact List.nodup_cons.mpr ⟨hx, h⟩
theorem ltsF (ks : List Kd) : ∀ (l : List Str), l.Nodup → (ks.foldl (fun l k => putT (ltr k.lt) l) l).Nodup ∧ (∀ x, x ∈ ks.foldl (fun l k => putT (ltr k.lt) l) l ↔ x ∈ l ∨ ∃ k ∈ ks, x = ltr k.lt) ∧ (ks.foldl (fun l k => putT (ltr k.lt) l) l).length ≤ l.length + ks.length := by
  induction ks with
  | nil => exact fun l h => ⟨h, fun x => by simp, Nat.le_refl _⟩
  | cons k r ih =>
    intro l h
    obtain ⟨a1, a2, a3⟩ := ih (putT (ltr k.lt) l) (putT_nd h)
    refine ⟨a1, fun x => ?_, ?_⟩
    · rw [List.foldl_cons, a2 x, putT_mem]
      constructor
      · rintro ((e | e) | ⟨z, hz, e⟩)
        · exact .inr ⟨k, List.mem_cons_self, e⟩
        · exact .inl e
        · exact .inr ⟨z, List.mem_cons_of_mem _ hz, e⟩
      · rintro (e | ⟨z, hz, e⟩)
        · exact .inl (.inr e)
        · rcases List.mem_cons.mp hz with rfl | hz
          · exact .inl (.inl e)
          · exact .inr ⟨z, hz, e⟩
    · have := putT_len (ltr k.lt) l
      rw [List.foldl_cons, List.length_cons]
      omega
theorem ltsL_nd (ks : List Kd) : (ltsL ks).Nodup := (ltsF ks [] List.nodup_nil).1
theorem ltsL_mem {ks : List Kd} {x : Str} : x ∈ ltsL ks ↔ ∃ k ∈ ks, x = ltr k.lt := by
  rw [show ltsL ks = ks.foldl (fun l k => putT (ltr k.lt) l) [] from rfl, (ltsF ks [] List.nodup_nil).2.1 x]
  simp
theorem ltsL_len (ks : List Kd) : (ltsL ks).length ≤ ks.length := by
  have := (ltsF ks [] List.nodup_nil).2.2
  rw [List.length_nil, Nat.zero_add] at this
  exact this
/-- the letters of a layout, ascending -/
structure LetS (ys : List Str) (ks : List Kd) : Prop where
  nd : ys.Nodup
  so : sortedS ys = true
  mem : ∀ x, x ∈ ys ↔ ∃ k ∈ ks, x = ltr k.lt
  len : ys.length ≤ ks.length
def lbP (x : Str) : Kd → Bool := fun o => decide (ltr o.lt = x)
def letK (ys : List Str) (ks : List Kd) : List (Key × V) := nmD ys fun x => bo (lbP x) ks
def spLetB : Sp := fun vs H Q _ => ∃ (a : Addr) (as : List Addr) (ks : List Kd), vs = [.ref a] ∧ LayAt H a as ks ∧ ∀ (p : Addr) (ys : List Str) (H' : Hp), H p = none → LetS ys ks → H' p = some (.dK (letK ys ks)) → Same H H' → Q (.ref p) H'
section
variable {P : Program} {w : World} {K : PySem.W.Frag} {mg : Str → Option Value} {base : Heap}
theorem scLetB : FnScope nLetB ["layout"] (defScope sLetB) := ⟨rfl, rfl, rfl, by decide +kernel, rfl, by decide +kernel, by decide +kernel⟩
theorem ok_letB {f : Addr} {fd : FuncData} (F : Fun K "letter_bits" "letter_bits" sLetB f fd) (T : TBi mg) : FnOk P w K mg base CX0 1 f fd ["layout"] spLetB := by
  refine F.ok scLetB (fun vs H Q E h => ?_) (fun cdv A outer s H vs Q E hr h => ?_)
  · obtain ⟨a, as, ks, rfl, _⟩ := h; rfl
  · obtain ⟨a, as, ks, rfl, L, k⟩ := h
    have nd := scLetB.nd
    have hu := hu_of hr
    refine ⟨_, (pss_cons (ps_set (i := 2) nd rfl (.inl rfl) (pe_callB (cr_sortT rfl) (by rfl) T.sorted (by decide +kernel) (pa_cons (pe_setT (own := [("kind", 1)]) (g := gName 1) rfl nd (pi_tup (pv 0)) (blkOk_by (N := nLetB) (sc := defScope sLetB) (by decide +kernel)) (fun _ _ _ _ _ => (pg_name (i := 1) nd rfl (.inl rfl))) (fun _ _ _ _ _ => pts_nil) (fun _ _ _ _ _ => (pe_ix (show IxR _ (rIxT K) from ix_tup) (pv 1) (pe_glob (v := .int 3) (by rfl) T.lt.choose_spec ⟨_, rfl⟩) (fun _ _ => rfl)))) pa_nil)))
      (pss_cons (ps_setDc (i := 3) (own := [("letter", 5)]) (g := gName 5) rfl nd rfl rfl (sw_trueD rfl rfl rfl (by decide +kernel)) (pi_list (pv 2)) (blkOk_by (N := nLetB) (sc := defScope sLetB) (by decide +kernel)) (fun _ _ _ _ _ => (pg_name (i := 5) nd rfl (.inl rfl))) (fun _ _ _ _ _ => pts_nil) (fun _ _ _ _ _ => (pv 5)) (fun _ _ _ _ _ => pe_int))
      (pss_cons (ps_for PassesOwn.never rfl (pi_enT (by rfl) T.enum (pa_cons (pv 0) pa_nil)) (pg_tup (by rfl) (pgs_cons (pg_name (i := 4) nd rfl (.inl rfl)) (pgs_cons (pg_name (i := 1) nd rfl (.inl rfl)) pgs_nil))) (pss_one (ps_daug hu (pv 3) (pe_ix ix_tup (pv 1) (pe_glob (v := .int 3) (by rfl) T.lt.choose_spec ⟨_, rfl⟩) (fun _ _ => rfl)) (pe_op op_oneU pe_int (pv 4)) iop_or (fun _ _ _ => rfl))))
      (pss_one (ps_ret (pv 3)))))), ?_⟩
    have l2 := L.l2
    have big : (64 : Nat) ≤ scanBound := by decide
    -- the set
    refine ⟨_, rfl, a, rfl, ⟨_, SqT.of L.tp⟩, fun D hD => setT_tup (K := K) (a := a) (xs := as.map V.ref) (fun j H' => H' D = some (TxO P w D (ltsL (ks.take j))) ∧ Same H H') ⟨upd_same, same_new hD⟩ (fun j H' _ ⟨_, s'⟩ => SqT.of (s' _ _ L.tp)) ?_ ?_⟩
    · rintro j y H2 hj ⟨h2, s2⟩
      have Lb := L.same s2
      obtain ⟨x, kd, b, rfl, hk, hm, hjl, c1, c2⟩ := Lb.row hj
      have len := ltsL_len (ks.take j)
      rw [List.length_take] at len
      refine ⟨rfl, _, rfl, x, _, _, _, rfl, rfl, SqT.of c1, rfl, _, _, rfl, h2, by omega, ?_, fun c o e => by rw [upd_ne (ne_of_none e hD)]; exact s2 c o e⟩
      rw [ltsL_snoc hk]
      exact upd_same
    · rintro H2 ⟨h2, s2⟩
      rw [List.length_map, L.rw.1, List.take_of_length_le (Nat.le_refl _)] at h2
      have len := ltsL_len ks
      refine ⟨D, _, rfl, h2, by omega, fun ys q pm so hq => ?_⟩
      have LS : LetS ys ks := ⟨pm.nodup_iff.mpr (ltsL_nd ks), so, fun x => by rw [pm.mem_iff, ltsL_mem], by rw [pm.length_eq]; exact len⟩
      have yl := LS.len
      have s3 := s_new (o := HO.lst (ys.map V.str)) hq
      have f3 := upd_same (H := H2) (a := q) (o := .lst (ys.map V.str))
      generalize upd H2 q (.lst (ys.map V.str)) = H3 at s3 f3 ⊢
      have s03 := s2.trans s3
      -- the dict
      refine ⟨_, rfl, q, rfl, ⟨_, SqL.of f3⟩, fun D2 hD2 => dc_walk (walk_list (K := K) (a := q) (xs := ys.map V.str)) (fun j H' => H' D2 = some (.dK (nmD (ys.take j) fun _ => 0)) ∧ Same H3 H') ⟨upd_same, same_new hD2⟩ (fun j H' _ ⟨_, s'⟩ => SqL.of (s' _ _ f3)) ?_ ?_⟩
      · rintro j y H4 H4' hj ⟨h4, s4⟩ ⟨rfl, hy⟩
        obtain ⟨x, hx, rfl⟩ := str_at hy
        have hjy : j < ys.length := by rw [List.length_map] at hj; exact hj
        have nx : x ∉ ys.take j := fun z => by
          obtain ⟨i, hi⟩ := List.getElem?_of_mem z
          have hij : i < j := by
            have := (List.getElem?_eq_some_iff.mp hi).1
            rw [List.length_take] at this
            omega
          rw [List.getElem?_take, if_pos hij] at hi
          have := (List.getElem?_inj (by omega) LS.nd).mp (hi.trans hx.symm)
          omega
        refine ⟨rfl, _, rfl, _, kx x, rfl, h4, by rw [nmD_len, List.length_take]; exact small1000 (by omega), ?_, fun c o e => by rw [upd_ne (ne_of_none e hD2)]; exact s4 c o e⟩
        rw [take_snoc hx, ← nmD_snoc nx]
        exact upd_same
      · rintro H4 ⟨h4, s4⟩
        rw [List.length_map, List.take_of_length_le (Nat.le_refl _)] at h4
        have s04 := s03.trans s4
        have L4 := L.same s04
        -- the loop
        refine ⟨_, rfl, a, _, rfl, SqT.of L4.tp, for_enT (K := K) (a := a) (xs := as.map V.ref) (fun j σ H' => ∃ (v1 v4 : Option V), σ = [some (.ref a), v1, some (.ref q), some (.ref D2), v4, none] ∧ H' D2 = some (.dK (nmD ys fun x => bo (lbP x) (ks.take j))) ∧ Same H3 H')
          ⟨_, _, rfl, by rw [h4]; rfl, s4⟩ (fun j σ H' _ ⟨_, _, _, _, s⟩ => SqT.of (s _ _ (s03 _ _ L.tp))) ?_ ?_⟩
        · rintro j y σ H5 t hj ⟨v1, v4, rfl, h5, s5⟩ ht
          have L5 := L.same (s03.trans s5)
          obtain ⟨x, kd, b, rfl, hk, hm, hjl, c1, c2⟩ := L5.row hj
          have c1' := upd_keep (u := .tup [.int (j : Nat), .ref x]) c1 ht
          have h5' := upd_keep (u := .tup [.int (j : Nat), .ref x]) h5 ht
          have s5' : Same H3 (upd H5 t (.tup [.int (j : Nat), .ref x])) := same_upd s5 ht
          have hin : ltr kd.lt ∈ ys := (LS.mem _).mpr ⟨kd, hm, rfl⟩
          refine ⟨t, _, rfl, SqT.of upd_same, rfl, _, _, rfl, _, _, rfl, rfl, ?_⟩
          refine ⟨_, rfl, _, rfl, x, _, _, _, rfl, rfl, SqT.of c1', rfl, D2, _, rfl, by rw [← nmD_some (f := fun x => bo (lbP x) (ks.take j)) hin]; exact DGet.k (k := kx (ltr kd.lt)) h5', ?_⟩
          refine ⟨_, rfl, j, rfl, rfl, by omega, _, _, rfl, rfl, _, DPut.k (k := kx (ltr kd.lt)) h5' (by rw [nmD_len]; exact small1000 (by omega)), _, _, rfl, ?_, fun c o e => by rw [upd_ne (ne_of_none e hD2)]; exact s5' c o e⟩
          rw [upd_same]
          dsimp only
          rw [borP]
          refine congrArg (fun z => some (HO.dK z)) ?_
          have e1 : bo (lbP (ltr kd.lt)) (ks.take j) ||| 2 ^ j = bo (lbP (ltr kd.lt)) (ks.take (j + 1)) := by
            rw [bo_snoc hk, if_pos (show lbP (ltr kd.lt) kd = true from decide_eq_true rfl)]
          rw [e1]
          refine nmD_put (g := fun x => bo (lbP x) (ks.take (j + 1))) hin fun z hz => ?_
          rw [bo_snoc hk, if_neg (fun e => hz (of_decide_eq_true e).symm), Nat.or_zero]
        · rintro σ H5 ⟨v1, v4, rfl, h5, s5⟩
          rw [List.length_map, L.rw.1, List.take_of_length_le (Nat.le_refl _)] at h5
          refine ⟨_, rfl, k D2 ys H5 ?_ LS h5 (s03.trans s5)⟩
          exact s03.free hD2
end
end Cp

set_option Elab.async false
set_option linter.all false
set_option maxRecDepth 100000
/-! ### enumerate(d.values()) -/
namespace PySem
open Sem (wp)
section
variable {prog : Program} {w : World} {K : Type} [DecidableEq K] {knd : KeyKind prog w K} {A : Around} {E : Value → Shared → Prop} {s : Shared}
theorem cpv_item {it d : Addr} {i ep : Nat} {kvs : List (K × Value)} {k : K} {v : Value} {Q : Value → Shared → Prop} (hit : s.heap.IsValIter it d i kvs.length ep) (hm : s.heap.DictAt knd d kvs ep) (hx : kvs[i]? = some (k, v))
    (hQ : ∀ h', h'.IsValIter it d (i + 1) kvs.length ep → Heap.SameBut it s.heap h' → Q v { s with heap := h' }) : wpAny (model prog w) A (Builtin.SmallTypes.nextOf (.ref it)) Q E s := by
  obtain ⟨o, ho, hc, hd⟩ := id hit
  obtain ⟨od, es, hod, hcd, hdd, hk, hp, hn⟩ := id hm
  have hsz : es.size = kvs.length := by rw [← hp.length]; simp
  have hlt : i < es.size := by rw [hsz]; exact (List.getElem?_eq_some_iff.mp hx).1
  have hval : es[i].val = v := (hp.get? (e := es[i]) (by simp [hlt]) hx).2
  unfold Builtin.SmallTypes.nextOf
  refine wpAny_bind (wpAny_callSpecial?_slot (name := Str.ofString "__next__") hit.typeIs F.slot_dict_valueiterator_next (wpAny_call_entry F.slot_dict_valueiterator_next hit.typeIs F.entry_dict_valueiterator_next ?_ (F.args_dict_valueiterator_next_1 _)))
  refine wpAny_bind (wpAny_pure (wpAny_bind (wpAny_bind ?_)))
  first | refine wpAny_bind (wpAny_typeNameOfWhole_valiter hit.typeIs (wpAny_pure ?_)) | refine wpAny_bind (wpAny_typeNameOf_valiter hit.typeIs (wpAny_pure ?_))
  refine wpAny_bind (wpAny_fieldsOf ho hd ?_)
  simp only [show Builtin.Dict_items.ownsTuple "dict_valueiterator" = false by decide, Bool.false_eq_true, if_false]
  show wpAny _ _ (if (Value.ref d == Value.none) = true then _ else _) _ _ s
  rw [if_neg (show ¬ ((Value.ref d == Value.none) = true) from Bool.false_ne_true)]
  refine wpAny_bind (wpAny_pure (wpAny_bind (wpAny_dictEntries hod hdd ?_)))
  rw [if_neg (by rw [hsz]; simp)]
  refine wpAny_bind (wpAny_pure (wpAny_bind (wpAny_dictEpoch hod hdd ?_)))
  rw [if_neg (by simp)]
  refine wpAny_pure ?_
  simp only [show ¬ ((i : Int) < 0) from by omega, if_false, Int.toNat_natCast, Array.getElem?_eq_getElem hlt]
  refine wpAny_bind ?_
  first | refine wpAny_bind (wpAny_typeNameOfWhole_valiter hit.typeIs (wpAny_pure ?_)) | refine wpAny_bind (wpAny_typeNameOf_valiter hit.typeIs (wpAny_pure ?_))
  refine wpAny_bind (wpAny_isOneOf_valiter hit.typeIs ?_)
  show wpAny _ _ (setField (.ref it) 1 (rawInt ((i : Int) + 1)) >>= _) _ _ s
  refine wpAny_bind (wpAny_setField ho hd (by simp) ?_)
  have hit' : (s.heap.update it (Obj.mapFields (·.setIfInBounds 1 (rawInt ((i : Int) + 1))))).IsValIter it d (i + 1) kvs.length ep :=
    ⟨_, Heap.get?_update_self _ ho (Obj.isFreed_of_fields (Obj.data_mapFields hd _)), (Obj.cls_mapFields ..).trans hc, by rw [Obj.data_mapFields hd]; simp [rawInt]⟩
  refine wpAny_bind (wpAny_holding ?_)
  refine wpAny_bind (wpAny_isOneOf_valiter (s := { s with heap := s.heap.update it (Obj.mapFields (·.setIfInBounds 1 (rawInt ((i : Int) + 1)))) }) hit'.typeIs ?_)
  refine wpAny_bind (wpAny_isOneOf_valiter (s := { s with heap := s.heap.update it (Obj.mapFields (·.setIfInBounds 1 (rawInt ((i : Int) + 1)))) }) hit'.typeIs ?_)
  show wpAny _ _ (pure es[i].val) _ _ _
  exact wpAny_pure (wpAny_pure ⟨_, rfl, wpAny_pure (hval ▸ hQ _ hit' (Heap.SameBut.update ..))⟩)
theorem cpv_end {it d : Addr} {i ep : Nat} {kvs : List (K × Value)} {Q : Value → Shared → Prop} (hh : A.handled = none) (hit : s.heap.IsValIter it d i kvs.length ep) (hm : s.heap.DictAt knd d kvs ep) (hx : kvs[i]? = none)
    (hE : ∀ h' e, Heap.ExtBut it s.heap h' → (∃ o, h'.get? e = some o ∧ o.cls = .type "StopIteration") → E (.ref e) { s with heap := h' }) : wpAny (model prog w) A (Builtin.SmallTypes.nextOf (.ref it)) Q E s := by
  obtain ⟨o, ho, hc, hd⟩ := id hit
  obtain ⟨od, es, hod, hcd, hdd, hk, hp, hn⟩ := id hm
  have hsz : es.size = kvs.length := by rw [← hp.length]; simp
  unfold Builtin.SmallTypes.nextOf
  refine wpAny_bind (wpAny_callSpecial?_slot (name := Str.ofString "__next__") hit.typeIs F.slot_dict_valueiterator_next (wpAny_call_entry F.slot_dict_valueiterator_next hit.typeIs F.entry_dict_valueiterator_next ?_ (F.args_dict_valueiterator_next_1 _)))
  refine wpAny_bind (wpAny_pure (wpAny_bind (wpAny_bind ?_)))
  first | refine wpAny_bind (wpAny_typeNameOfWhole_valiter hit.typeIs (wpAny_pure ?_)) | refine wpAny_bind (wpAny_typeNameOf_valiter hit.typeIs (wpAny_pure ?_))
  refine wpAny_bind (wpAny_fieldsOf ho hd ?_)
  simp only [show Builtin.Dict_items.ownsTuple "dict_valueiterator" = false by decide, Bool.false_eq_true, if_false]
  show wpAny _ _ (if (Value.ref d == Value.none) = true then _ else _) _ _ s
  rw [if_neg (show ¬ ((Value.ref d == Value.none) = true) from Bool.false_ne_true)]
  refine wpAny_bind (wpAny_pure (wpAny_bind (wpAny_dictEntries hod hdd ?_)))
  rw [if_neg (by rw [hsz]; simp)]
  refine wpAny_bind (wpAny_pure (wpAny_bind (wpAny_dictEpoch hod hdd ?_)))
  rw [if_neg (by simp)]
  refine wpAny_pure ?_
  have hge : es.size ≤ i := by rw [hsz]; simpa using hx
  simp only [show ¬ ((i : Int) < 0) from by omega, if_false, Int.toNat_natCast, Array.getElem?_eq_none hge]
  refine wpAny_bind ?_
  first | refine wpAny_bind (wpAny_typeNameOfWhole_valiter hit.typeIs (wpAny_pure ?_)) | refine wpAny_bind (wpAny_typeNameOf_valiter hit.typeIs (wpAny_pure ?_))
  show wpAny _ _ (setField (.ref it) 0 .none >>= _) _ _ s
  refine wpAny_bind (wpAny_setField ho hd (by simp) ?_)
  show wpAny _ _ (newExc (.type "StopIteration") [] >>= _) _ _ _
  refine wpAny_bind ?_
  simp only [newExc, newTuple]
  refine wpAny_bind (wpAny_newObj_type ?_ (by size_fits))
  refine wpAny_bind (m := firstArgMember _ _) (wpAny_of_eq (a := Value.none) (by first | rfl | (simp only [firstArgMember]; rfl)) ?_)
  refine wpAny_newObj_type ?_ (by size_fits)
  simp only [raiseNew]
  refine wpAny_bind (wpAny_handled ?_)
  first | rw [show A.in1.handled = none from hh] | rw [hh]
  refine wpAny_bind (wpAny_pure (wpAny_throw ?_))
  exact hE _ _ (((Heap.SameBut.update ..).extBut.push _).push _) ⟨_, Heap.get?_push_size _ rfl, rfl⟩
theorem cpv_iter {v d : Addr} {od : Obj} {es : Array DictEntry} {ep : Nat} {Q : Value → Shared → Prop} (hv : s.heap.IsValuesView v d) (ho : s.heap.get? d = some od) (hdat : od.data = .dict es ep)
    (hQ : Q (.ref s.heap.objs.size) { s with heap := s.heap.push { cls := .type "dict_valueiterator", data := .fields #[.ref d, .int 0 0, .int es.size 0, .int ep 0] } }) : wpAny (model prog w) A (pyIter (.ref v)) Q E s := by
  obtain ⟨ov, hov, hcv, hdv⟩ := id hv
  refine wpAny_pyIter_slot hv.typeIs F.slot_dict_values_iter (wpAny_call_entry F.slot_dict_values_iter hv.typeIs F.entry_dict_values_iter ?_ (F.args_dict_values_iter_1 _))
  unfold Builtin.«dict_values.__iter__»
  refine wpAny_bind (wpAny_pure (wpAny_bind ?_))
  unfold Builtin.Dict_items.dictOf
  refine wpAny_bind (wpAny_field hov hdv (x := .ref d) rfl (wpAny_pure (wpAny_bind ?_)))
  unfold Builtin.Dict_items.newIterator
  refine wpAny_bind (wpAny_dictEntries ho hdat (wpAny_bind (wpAny_dictEpoch ho hdat ?_)))
  simp only [show Builtin.Dict_items.ownsTuple "dict_valueiterator" = false by decide, Bool.false_eq_true, if_false]
  refine wpAny_newObj_type (wpAny_pure ⟨_, rfl, "dict_valueiterator", _, ⟨_, Heap.get?_push_size _ rfl, rfl⟩, F.slot_dict_valueiterator_next.lookup, ?_⟩)
  simpa [rawInt] using hQ
theorem draws_vals (hh : A.handled = none) (it d : Addr) (hne : d ≠ it) (kvs : List (K × Value)) (ep : Nat) : Draws prog w A it [it, d] kvs.length (fun i v => ∃ k, kvs[i]? = some (k, v)) (fun i h => h.IsValIter it d i kvs.length ep ∧ h.DictAt knd d kvs ep) where
  live := fun _ _ st => let ⟨o, ho, _⟩ := st.1; ⟨o, ho⟩
  frame := fun _ _ _ st hk => by
    obtain ⟨⟨o, ho, r⟩, ⟨od, es, hod, r'⟩⟩ := st
    exact ⟨⟨o, hk it (by simp) o ho, r⟩, ⟨od, es, hk d (by simp) od hod, r'⟩⟩
  item := fun i s Q E hi st hQ => by
    have hx : kvs[i]? = some ((kvs[i]).1, (kvs[i]).2) := List.getElem?_eq_getElem hi
    refine cpv_item st.1 st.2 hx fun h' hit' sb => ?_
    obtain ⟨_, ⟨od, es, hod, r'⟩⟩ := st
    exact hQ _ h' s.toks ⟨_, hx⟩ ⟨hit', ⟨od, es, (sb.2 d hne).trans hod, r'⟩⟩ sb
  done := fun s Q E st hE => cpv_end hh st.1 st.2 (List.getElem?_eq_none (Nat.le_refl _)) hE
end
abbrev cpvO (d : Addr) (n ep : Nat) : Obj := { cls := .type "dict_valueiterator", data := .fields #[.ref d, .int 0 0, .int n 0, .int ep 0] }
theorem begins_vals (v d : Addr) (od : Obj) (es : Array DictEntry) (ep : Nat) (hd : od.data = .dict es ep) : Begins (.ref v) (cpvO d es.size ep) fun h => h.IsValuesView v d ∧ h.get? d = some od where
  iter := fun prog w A E s Q ⟨h1, h2⟩ h => cpv_iter h1 h2 hd h
  keeps := fun h h' ⟨⟨o, ho, r⟩, h2⟩ hk => ⟨⟨o, hk v o ho, r⟩, hk d od h2⟩
  free := rfl
abbrev cpeO (a : Addr) : Obj := { cls := .type "enumerate", data := .fields #[.none, .bool false, .ref a, rawInt 0, .none, .none] }
set_option maxHeartbeats 2000000 in
theorem enum_newB {v : Value} {o : Obj} {H : Heap → Prop} (B : Begins v o H) :
    Meets (Builtin.«enumerate.__new__» ⟨[.type "enumerate", v], []⟩) (fun _ R s => H s.heap ∧ R (.ok (.ret (.ref (s.heap.push o).objs.size))) { s with heap := (s.heap.push o).push (cpeO s.heap.objs.size) }) :=
  .of_wp fun prog w A R s h => by
    obtain ⟨hp, g, d, tk, os⟩ := s
    obtain ⟨h1, h⟩ := h
    have sub := sub_enumerate
    have q1 : ∀ {A' : Around} {E : Value → Shared → Prop} {Q : Value → Shared → Prop}, Q (.ref hp.objs.size) ⟨hp.push o, g, d, tk, os⟩ → wpAny (model prog w) A' (pyIter v) Q E ⟨hp, g, d, tk, os⟩ := fun q => B.iter prog w _ _ ⟨hp, g, d, tk, os⟩ _ h1 q
    wp_walk using q1
    refine wpAny_stack_any fun st => wpAny_pure ?_
    split
    · (rename_i c _ _ _ _ _); cases (c == Value.type "enumerate")
      · (wp_walk using q1); exact ⟨_, rfl, h⟩
      · (wp_walk using q1); exact ⟨_, rfl, h⟩
    · (wp_walk using q1); exact ⟨_, rfl, h⟩
section
variable {prog : Program} {w : World} {A : Around} {E : Value → Shared → Prop} {s : Shared}
theorem enum_B {v : Value} {o : Obj} {H : Heap → Prop} {Q : Value → Shared → Prop} (B : Begins v o H) (h1 : H s.heap)
    (h : ∀ h', IsEnum h' (s.heap.objs.size + 1) s.heap.objs.size 0 .none → h'.get? s.heap.objs.size = some o → (∀ b o, s.heap.get? b = some o → h'.get? b = some o) → Q (.ref (s.heap.objs.size + 1)) { s with heap := h' }) :
    wpAny (model prog w) A (call (.type "enumerate") [v]) Q E s := by
  refine callType_new F.called_enumerate (by decide) (F.typeCall_enumerate_1 _) (F.newCall_enumerate_1 _) (fun obj => F.args_object_init_2 obj _) F.entry_enumerate_new (enum_newB B) ⟨h1, ?_⟩
  have sz : (s.heap.push o).objs.size = s.heap.objs.size + 1 := Heap.size_push ..
  (show _ ∧ _); rw [sz]
  have he : IsEnum ((s.heap.push o).push (cpeO s.heap.objs.size)) (s.heap.objs.size + 1) s.heap.objs.size 0 .none := by
    have q := Heap.get?_push_size (s.heap.push o) (o := cpeO s.heap.objs.size) rfl
    rwa [sz] at q
  exact ⟨⟨_, he, rfl⟩, h _ he (Heap.get?_push_of_some _ (Heap.get?_push_size _ B.free)) fun b o x => Heap.get?_push_of_some _ (Heap.get?_push_of_some _ x)⟩
end
end PySem
namespace Cp
open PySem PySem.Spec L2 PyProof.Rows
/-- the values of the dict at d, each in a new pair with its number -/
def ItV (d : Addr) (o : Obj) (kvs : List (Key × V)) : It :=
  ⟨fun i H => H d = some (.frz o (.dK kvs)) ∧ i < kvs.length, fun i H v H' => ∃ T x, v = .ref T ∧ H T = none ∧ H' = upd H T (.tup [.int (i : Nat), x]) ∧ kvs[i]?.map Prod.snd = some x, fun i H => H d = some (.frz o (.dK kvs)) ∧ i = kvs.length⟩
theorem walk_enV {d : Addr} {o : Obj} {kvs : List (Key × V)} : Walk (ItV d o kvs) kvs.length (fun H => H d = some (.frz o (.dK kvs))) (YPair (fun i => some (.int (i : Nat))) (fun i => kvs[i]?.map Prod.snd)) := by
  refine ⟨fun _ _ hi q => ⟨q, hi⟩, fun _ q => ⟨q, rfl⟩, fun i H v H' _ _ y => ?_⟩
  obtain ⟨T, x, h1, h2, h3, h4⟩ := y
  exact ⟨T, .int (i : Nat), x, h1, h2, h3, rfl, h4⟩
theorem turn_enV {P : Program} {w : World} {K : PySem.W.Frag} {elts : List Expr} {kk : Nat} {tpos : Pos} {d : Addr} {o : Obj} {es : Array DictEntry} {ep : Nat} {kvs : List (Key × V)} (e it : Addr) (hod : o.data = .dict es ep) (hne : e ≠ it) (hna : d ≠ it) (hea : e ≠ d) :
    Turn P w K (.Tuple elts kk tpos) (ItV d o kvs) [e, it] e (fun i h => (∃ old, IsEnum h e it ((i : Nat) : Int) old) ∧ h.IsValIter it d i kvs.length ep) := by
  have two : ∀ {b : Addr}, b ∈ [e, it] → b = e ∨ b = it := fun hb => by simpa using hb
  have at_ : ∀ {h h' : Heap} {i n : Nat}, h.IsValIter it d i n ep → (∀ o, h.get? it = some o → h'.get? it = some o) → h'.IsValIter it d i n ep := fun ⟨o, ho, r⟩ k => ⟨o, k o ho, r⟩
  refine ⟨by simp, fun i h st b hb => ?_, fun i h h' st k => ?_, ?_, ?_, fun A i s Q E st h => wpAny_pyIter_enum st.1.choose_spec h⟩
  · obtain ⟨⟨old, he⟩, ⟨o, ho, hc, hd⟩⟩ := st
    rcases two hb with rfl | rfl
    · exact ⟨_, he, fun v q => nomatch q⟩
    · exact ⟨o, ho, fun v q => by rw [hd] at q; cases q⟩
  · obtain ⟨⟨old, he⟩, hi⟩ := st
    exact ⟨⟨old, k e (by simp) _ he⟩, at_ hi fun o q => k it (by simp) o q⟩
  · intro X hP hw hK hc i pins s σ H E I hf st hg
    subst hP hw hK
    obtain ⟨⟨old, he⟩, hit⟩ := st
    obtain ⟨hd, hi⟩ := hg
    obtain ⟨hs, hgd, hx, es', ep', vs, hdt, hsz, kv, hm⟩ := I.frzK hd
    obtain ⟨rfl, rfl⟩ := dict_ep hod hdt
    obtain ⟨⟨k, x⟩, hkv⟩ : ∃ p, kvs[i]? = some p := ⟨kvs[i], List.getElem?_eq_getElem hi⟩
    obtain ⟨u, hu, ru⟩ := kv_get kv hkv
    have hl : kvs.length = vs.length := Paired.length kv
    rw [hl] at hit
    have hel : e < s.heap.objs.size := Heap.lt_size he
    have hil : it < s.heap.objs.size := by obtain ⟨_, q, _⟩ := hit; exact Heap.lt_size q
    refine wpAny_pyNext_enum_itemD (draws_vals (A := X.A.in1) (I.ok.hd hc) it d hna vs ep') he ⟨hit, hm⟩ (by omega) hne (by simp [hne, hea]) fun y h' tk hy ho st' hT sz hk => ?_
    obtain ⟨k', hy⟩ := hy
    rw [hu] at hy
    obtain ⟨rfl, rfl⟩ := Prod.mk.inj (Option.some.inj hy)
    refine ⟨_, rfl, wpAny_letOwnedTupleGo_enum (s := { s with heap := h', toks := tk + 1 }) ho fun h'' he' sb => ?_⟩
    have hT2 : h''.get? s.heap.objs.size = some { cls := .type "tuple", data := .seq #[.int i tk, u] } := (sb.2 _ (Nat.ne_of_gt hel)).trans hT
    have new : ObjOk X.prog X.w (upd H s.heap.objs.size (.tup [.int (i : Nat), x])) h'' s.heap.objs.size (.tup [.int (i : Nat), x]) := ⟨by show 2 ≤ sizeLine; decide, [.int i tk, u], .cons ⟨_, rfl⟩ (.cons ru .nil), ⟨_, hT2, rfl, _, rfl⟩⟩
    have I1 : Inv X pins σ (upd H s.heap.objs.size (.tup [.int (i : Nat), x])) { s with heap := h'', toks := tk + 1 } :=
      I.turnedNew (ch := [e, it]) (fun b ob hb q => (sb.2 b (fun z => hb (by simp [z]))).trans (hk b ob (fun z => hb (by simp [z])) (fun z => hb (by simp [z])) q)) hf (Nat.le_refl _) new
    refine ⟨.ref s.heap.objs.size, _, I1, rfl, ⟨_, x, rfl, I.hok.fresh (Nat.le_refl _), rfl, by rw [hkv]; rfl⟩, ⟨⟨u, ?_⟩, ?_⟩, fun b hb => ?_⟩
    · rw [show ((i + 1 : Nat) : Int) = (i : Int) + 1 by omega]; exact he'
    · rw [hl]; exact at_ st'.1 fun o q => (sb.2 it (Ne.symm hne)).trans q
    · have hb' : b < s.heap.objs.size := (two hb).elim (fun z => z ▸ hel) fun z => z ▸ hil
      rw [upd_ne (Nat.ne_of_lt hb')]; exact (hf b hb).1
  · intro X hP hw hK hc i pins s σ H E I hf st hg
    subst hP hw hK
    obtain ⟨⟨old, he⟩, hit⟩ := st
    obtain ⟨hd, hi⟩ := hg
    obtain ⟨hs, hgd, hx, es', ep', vs, hdt, hsz, kv, hm⟩ := I.frzK hd
    obtain ⟨rfl, rfl⟩ := dict_ep hod hdt
    obtain ⟨f0, f1, f2, f3, f4, f5⟩ := hf it (by simp)
    have hl : kvs.length = vs.length := Paired.length kv
    rw [hl] at hit
    have e : i = vs.length := by omega
    subst e
    exact wpAny_pyNext_enum_endD (draws_vals (A := X.A.in1) (I.ok.hd hc) it d hna vs ep') he ⟨hit, hm⟩ fun h' eb => ⟨rfl, I.turned (t' := s.toks) (fun b o hb q => eb b o hb q) f0 f1 f3 f4 f5⟩
/-- the dict is locked -/
def iEnV (td : TE) : TI := fun σ H R => td σ H fun x H1 => ∃ d o kvs, x = .ref d ∧ H1 d = some (.frz o (.dK kvs)) ∧ R (ItV d o kvs) H1
theorem pi_enV {X : Cx} {e : Expr} {td : TE} {p pos tpos apos cpos : Pos} {elts : List Expr} {kk : Nat} (hg : Gl X "enumerate") (hm : X.mg "enumerate" = none) (he : PE X e td) (hbase : attributeBase e "values" X.env (eval e X.env) = eval e X.env := by rfl) (hline : (apos.endLine == cpos.line) = true := by rfl)
    (hs : starEach [.Call (.Attribute e "values" apos) [] [] cpos] X.env = [(false, eval (.Call (.Attribute e "values" apos) [] [] cpos) X.env)] := by rfl) :
    PI X (.Tuple elts kk tpos) (.Call (.Name "enumerate" p) [.Call (.Attribute e "values" apos) [] [] cpos] [] pos) (iEnV td) := by
  refine ⟨fun pins s σ H R I h => Call_ (ld_blt I hg hm boot_enumerate (PyProof.Rows.callWith_type1 (args_cons ?_ hs) hs rfl))⟩
  refine wpAny_Call_method (T := "dict") (id := "dict.values") hbase rfl hline F.plainAttrs_dict F.slot_dict_values F.type_dict_values (thn (he.run pins s σ H _ I h) fun u s1 ⟨x, H1, I1, rx, d, o, kvs, ex, hd, q⟩ => ?_)
  subst ex
  obtain rfl : u = Value.ref d := rx
  obtain ⟨hs, hgd, hx, es, ep, vs, hdt, hsz, kv, hm⟩ := I1.frzK hd
  have hl : kvs.length = vs.length := Paired.length kv
  refine ⟨hm.dictOf.typeIs, hm.dictOf.mapOf.noDict, ?_⟩
  have lt : d < s1.heap.objs.size := Heap.lt_size hgd
  refine method_meetsIn F.slot_dict_values F.entry_dict_values rfl (PySem.evalArgs_none ⟨rfl, hm.dictOf.typeIs, F.args_dict_values_1 _, _, meets_dict_values (mixKind X.prog X.w) d hs, ⟨vs, hm.dictOf⟩, ?_⟩)
  refine args_nil ?_
  have I2 : Inv X pins σ H1 { s1 with heap := s1.heap.push { cls := .type "dict_values", data := .fields #[.ref d] } } := I1.kept (t' := s1.toks) fun b ob q => Heap.get?_push_of_some _ q
  refine enum_B (begins_vals s1.heap.objs.size d o es ep hdt) ⟨⟨_, Heap.get?_push_size _ rfl, rfl, rfl⟩, Heap.get?_push_of_some _ hgd⟩ fun h' hE hI hk => wpAny_pyIter_enum hE ?_
  have sz : (s1.heap.push { cls := .type "dict_values", data := .fields #[.ref d] }).objs.size = s1.heap.objs.size + 1 := Heap.size_push ..
  dsimp only at hE hI hk ⊢
  rw [sz] at hE hI ⊢
  have I3 : Inv X pins σ H1 { s1 with heap := h' } := I2.kept (t' := s1.toks) hk
  refine ⟨s1.heap.objs.size + 1 + 1, [s1.heap.objs.size + 1 + 1, s1.heap.objs.size + 1], _, _, H1, rfl, I3, turn_enV (s1.heap.objs.size + 1 + 1) (s1.heap.objs.size + 1) hdt (Nat.succ_ne_self _) (Nat.ne_of_lt (Nat.lt_succ_of_lt lt)) (Nat.ne_of_gt (Nat.lt_succ_of_lt (Nat.lt_succ_of_lt lt))), ⟨⟨.none, hE⟩, ⟨_, hI, rfl, ?_⟩⟩, fun b hb => ?_, q⟩
  · rw [hsz]; rfl
  · have hle : s1.heap.objs.size ≤ b := by
      rcases (show b = s1.heap.objs.size + 1 + 1 ∨ b = s1.heap.objs.size + 1 by simpa using hb) with rfl | rfl
      · exact Nat.le_succ_of_le (Nat.le_succ _)
      · exact Nat.le_succ _
    exact I1.fpOk hle (I1.hok.fresh hle)
end Cp

set_option Elab.async false
set_option linter.all false
set_option maxRecDepth 100000
set_option maxHeartbeats 2000000
/-! ### beneath_bits -/
namespace Cp
open PySem PySem.Spec L2 PyProof.Rows
abbrev nBenB : List Str := ["reached", "at", "bits"]
def spBenB : Sp := fun vs H Q _ => ∃ (p : Addr) (ks : List Kd), vs = [.ref p] ∧ H p = some (.dK (rchK (rks ks))) ∧ Frm ks ∧ ks.length ≤ 24 ∧ ∀ (l : Addr) (H' : Hp), H l = none → H' l = some (.lst ((rowB (benP ks) ks).map nV)) → Same H H' → Q (.ref l) H'
section
variable {P : Program} {w : World} {K : PySem.W.Frag} {mg : Str → Option Value} {base : Heap}
end
end Cp

set_option Elab.async false
set_option linter.all false
set_option maxRecDepth 100000
/-! ### is_one_bit -/
namespace Cp
open PySem PySem.Spec L2 PyProof.Rows
def spOneB : Sp := fun vs H Q _ => ∃ n : Nat, vs = [.int (n : Int)] ∧ 1 ≤ n ∧ Q (.bl (decide (n &&& (n - 1) = 0))) H
section
variable {P : Program} {w : World} {K : PySem.W.Frag} {mg : Str → Option Value} {base : Heap}
end
end Cp

set_option Elab.async false
set_option linter.all false
set_option maxRecDepth 100000
/-! ### Missing; what is no text -/
namespace Cp
open PySem PySem.Spec L2 PyProof.Rows
section
variable {tl : List Value} {B newId initId : String} {bmB : List Value} {P : Program} {w : World} {K : PySem.W.Frag} {mg : Str → Option Value} {base : Heap}
end
/-- a text, or what is known to be none -/
def AnyT (K : PySem.W.Frag) (H : Hp) (v : V) : Prop := (∃ x, v = .str x) ∨ ∃ t, TyX K H v t ∧ PySem.W.kitOne K t (.type "str") = some false
theorem NoS.any {K : PySem.W.Frag} {H : Hp} {v : V} (h : NoS H v) : AnyT K H v := by
  rcases h with ⟨x, rfl⟩ | rfl | ⟨i, rfl⟩ | ⟨a, xs, rfl, ha | ha⟩
  · exact .inl ⟨x, rfl⟩
  · exact .inr ⟨_, .base .non, kit_ty (by decide +kernel)⟩
  · exact .inr ⟨_, .base (.int i), kit_ty (by decide +kernel)⟩
  · exact .inr ⟨_, .base (.tup ha), kit_ty (by decide +kernel)⟩
  · exact .inr ⟨_, .base (.lst ha), kit_ty (by decide +kernel)⟩
theorem Dq.any {K : PySem.W.Frag} {H : Hp} {v : V} {d : PyData} (h : Dq H v d) : AnyT K H v := by
  cases h with
  | str x => exact .inl ⟨x, rfl⟩
  | non => exact .inr ⟨_, .base .non, kStr K .none⟩
  | bl b => exact .inr ⟨_, .base (.bl b), kStr K (.bool b)⟩
  | int i => exact .inr ⟨_, .base (.int i), kStr K (.int i)⟩
  | @lst a xs ds h1 h2 => exact .inr ⟨_, .base (.lst h1), kStr K (.list ds)⟩
  | @tup a xs ds h1 h2 => exact .inr ⟨_, .base (.tup h1), kStr K (.tuple ds)⟩
  | dct h1 => exact .inr ⟨_, .base (.dK h1), kStr K (.dict [])⟩
end Cp

set_option Elab.async false
set_option linter.all false
set_option maxRecDepth 100000
/-! ### a name's number, by the bits -/
namespace Cp
open PySem PySem.Spec L2 PyProof.Rows
abbrev nNeedN : List Str := ["reached", "name"]
theorem lkB_at : ∀ {rs : List Rk} {i : Nat} {r : Rk}, (rs.map Rk.nm).Nodup → rs[i]? = some r → lkB rs r.nm = r.bt
  | [], _, _, _, h => by simp at h
  | x :: l, 0, r, _, h => by
    simp only [List.getElem?_cons_zero, Option.some.injEq] at h
    subst h
    unfold lkB
    rw [List.find?_cons_of_pos (by simp)]
    rfl
  | x :: l, i + 1, r, nd, h => by
    rw [List.getElem?_cons_succ] at h
    rw [List.map_cons, List.nodup_cons] at nd
    have hne : ¬ x.nm = r.nm := fun e => nd.1 (e ▸ List.mem_map.mpr ⟨r, List.mem_of_getElem? h, rfl⟩)
    have ih := lkB_at nd.2 h
    unfold lkB at ih ⊢
    rw [List.find?_cons_of_neg (by simpa using hne)]
    exact ih
theorem rks_at {ks : List Kd} {i : Nat} {k : Kd} (h : ks[i]? = some k) : ∃ r, (rks ks)[i]? = some r ∧ r.nm = k.nm ∧ r.mr = k.mrk := by
  have hi := (List.getElem?_eq_some_iff.mp h).1
  have hl : i < (rks ks).length := by rw [rks_len]; exact hi
  have hr := List.getElem?_eq_getElem hl
  generalize (rks ks)[i] = r at hr
  have e1 := congrArg (fun l : List Str => l[i]?) (rks_nm ks)
  have e2 := congrArg (fun l : List Str => l[i]?) (rks_mr ks)
  simp only [List.getElem?_map, hr, h, Option.map_some, Option.some.injEq] at e1 e2
  exact ⟨r, hr, e1, e2⟩
theorem rks_bl {ks : List Kd} : ∀ (i : Nat) (r : Rk), (rks ks)[i]? = some r → Builtin.Int.intBits ((r.bt : Nat) : Int) = i + 1 := fun i r h => by
  obtain ⟨h1, h2⟩ := rks_bt h
  exact bits_len h1 h2
theorem rks_nd {ks : List Kd} (F : Frm ks) : ((rks ks).map Rk.nm).Nodup := by rw [rks_nm]; exact F.nd
theorem rks_no {ks : List Kd} {v : V} (h : NotNm ks v) : ∀ r ∈ rks ks, v ≠ .str r.nm := fun r hr e => by
  have hm : r.nm ∈ ks.map Kd.nm := by rw [← rks_nm]; exact List.mem_map.mpr ⟨r, hr, rfl⟩
  obtain ⟨k, hk, ek⟩ := List.mem_map.mp hm
  exact h k hk (by rw [e, ek])
/-- the number of a kind; or Missing, which holds the very thing -/
def spNeedB (K : PySem.W.Frag) (CM : Addr) : Sp := fun vs H Q E => ∃ (p : Addr) (v : V) (rs : List Rk), vs = [.ref p, v] ∧ H p = some (.dK (rchK rs)) ∧ (rs.map Rk.nm).Nodup ∧ (∀ i r, rs[i]? = some r → Builtin.Int.intBits ((r.bt : Nat) : Int) = i + 1) ∧
  ((∃ (i : Nat) (r : Rk), rs[i]? = some r ∧ v = .str r.nm ∧ Q (.int ((i : Nat) : Int)) H) ∨
    ((∀ r ∈ rs, v ≠ .str r.nm) ∧ AnyT K H v ∧ ∀ (d : Addr) (H' : Hp), H' d = some (.xd [(("name" : Str), v)]) → Same H H' → E (.ref CM) (some d) H'))
section
variable {P : Program} {w : World} {K : PySem.W.Frag} {mg : Str → Option Value} {base : Heap}
end
end Cp

set_option Elab.async false
set_option linter.all false
set_option maxRecDepth 100000
set_option maxHeartbeats 1000000
/-! ### names by bits -/
namespace Cp
open PySem PySem.Spec L2 PyProof.Rows
abbrev sNof : Stmt := top 21
/-- enumerate(a locked dict) as a walk -/
theorem walk_enD {a : Addr} {od : Obj} {kvs : List (Key × V)} : Walk (ItEk a od kvs) kvs.length (fun H => H a = some (.frz od (.dK kvs))) (fun i H x H' => ∃ T k v, kvs[i]? = some (k, v) ∧ x = .ref T ∧ H T = none ∧ H' = upd H T (.tup [.int (i : Nat), kV k])) :=
  ⟨fun _ _ hi q => ⟨q, hi⟩, fun _ q => ⟨q, Nat.le_refl _⟩, fun i H x H' _ _ y => by
    obtain ⟨T, k, v, h1, h2, h3, h4⟩ := y
    exact ⟨T, k, v, h1, h2, h3, h4⟩⟩
def nofA : List Str → Nat → Nat → List Str
  | [], _, _ => []
  | x :: r, i, n => if n.testBit i = true then x :: nofA r (i + 1) n else nofA r (i + 1) n
theorem nofA_snoc (n : Nat) (x : Str) : ∀ (l : List Str) (i : Nat), nofA (l ++ [x]) i n = nofA l i n ++ if n.testBit (i + l.length) = true then [x] else []
  | [], i => by simp only [List.nil_append, nofA, List.length_nil, Nat.add_zero]
  | y :: r, i => by
    have ih := nofA_snoc n x r (i + 1)
    have e : i + (y :: r).length = i + 1 + r.length := by rw [List.length_cons]; omega
    rw [List.cons_append, e]
    unfold nofA
    split
    · rw [ih, List.cons_append]
    · exact ih
theorem nofA_filter {n : Nat} {p : Str → Bool} : ∀ (l : List Str) (i : Nat), (∀ m x, l[m]? = some x → (n.testBit (i + m) = true ↔ p x = true)) → nofA l i n = l.filter p
  | [], _, _ => rfl
  | x :: r, i, h => by
    have h0 := h 0 x rfl
    rw [Nat.add_zero] at h0
    have ih := nofA_filter r (i + 1) fun m y hy => by
      have := h (m + 1) y (by rw [List.getElem?_cons_succ]; exact hy)
      rwa [show i + (m + 1) = i + 1 + m by omega] at this
    rw [List.filter_cons]
    unfold nofA
    by_cases hp : p x = true
    · rw [if_pos (h0.mpr hp), if_pos hp, ih]
    · rw [if_neg (fun z => hp (h0.mp z)), if_neg hp, ih]
theorem nofA_len (n : Nat) : ∀ (l : List Str) (i : Nat), (nofA l i n).length ≤ l.length
  | [], _ => Nat.le_refl _
  | x :: r, i => by
    have ih := nofA_len n r (i + 1)
    unfold nofA
    split
    · simp only [List.length_cons]; omega
    · simp only [List.length_cons]; omega
def spNof : Sp := fun vs H Q _ => ∃ (p : Addr) (rs : List Rk) (n : Nat), vs = [.ref p, .int (n : Int)] ∧ H p = some (.dK (rchK rs)) ∧ rs.length ≤ 24 ∧ ∀ (t : Addr) (H' : Hp), H t = none → H' t = some (.tup ((nofA (rs.map Rk.nm) 0 n).map V.str)) → Same H H' → Q (.ref t) H'
abbrev nNof : List Str := ["reached", "bits", "at", "name"]
section
variable {P : Program} {w : World} {K : PySem.W.Frag} {mg : Str → Option Value} {base : Heap}
theorem scNof : FnScope nNof ["reached", "bits"] (defScope sNof) := ⟨rfl, rfl, rfl, by decide +kernel, rfl, by decide +kernel, by decide +kernel⟩
theorem ok_nof {f : Addr} {fd : FuncData} (F : Fun K "names_of" "names_of" sNof f fd) (T : TP mg) : FnOk P w K mg base CX0 1 f fd ["reached", "bits"] spNof := by
  refine F.ok scNof (fun vs H Q E h => ?_) (fun cdv A outer s H vs Q E hr h => ?_)
  · obtain ⟨p, rs, n, rfl, _⟩ := h; rfl
  · obtain ⟨p, rs, n, rfl, hp, hl, k⟩ := h
    have nd := scNof.nd
    refine ⟨_, (pss_one (ps_ret (pe_callTy call_tuple_of (by rfl) T.tuple (by decide +kernel) (pa_cons (pe_lock (pe_lc (own := [("at", 2), ("name", 3)]) (g := gTup K 2 (gCons (gName 2) (gCons (gName 3) gNil))) rfl nd (pi_enD (by rfl) T.enum (pa_cons (pv 0) pa_nil)) (blkOk_by (N := nNof) (sc := defScope sNof) (by decide +kernel)) (fun _ _ _ _ _ => (pg_tup (by rfl) (pgs_cons (pg_name (i := 2) nd rfl (.inl rfl)) (pgs_cons (pg_name (i := 3) nd rfl (.inl rfl)) pgs_nil))))
        (fun _ _ _ _ _ => pts_one (show PT _ _ (fun σ H Q => (tOp rOdd (tOp rShr (tVar 1) (tVar 2)) (tC (.int 1))) σ H fun x H' => ∃ k, TruV K x H' k ∧ Q k H') from pt_truth (pe_op op_oddU (pe_op op_shrU (pv 1) (pv 2)) pe_int) (fun _ => rfl)))
        (fun _ _ _ _ _ => pv 3))) pa_nil)))), ?_⟩
    have hkl : (rchK rs).length = rs.length := by unfold rchK; rw [List.length_map]
    refine ⟨p, _, hp, trivial, fun od => ?_⟩
    refine ⟨_, rfl, p, od, _, rfl, upd_same, fun D hD => lc_it walk_enD (g := gTup K 2 (gCons (gName 2) (gCons (gName 3) gNil))) (tt := fun σ H Q => (tOp rOdd (tOp rShr (tVar 1) (tVar 2)) (tC (.int 1))) σ H fun x H' => ∃ k, TruV K x H' k ∧ Q k H') (te := tVar 3) (vs := [2, 3])
      (fun j H' => H' D = some (.lst ((nofA ((rs.map Rk.nm).take j) 0 n).map V.str)) ∧ (∀ b o, H b = some o → b ≠ p → H' b = some o) ∧ H' p = some (.frz od (.dK (rchK rs)))) ?_ (fun j H' _ h => h.2.2) ?_ ?_⟩
    · have npD : p ≠ D := fun z => by rw [← z, upd_same] at hD; cases hD
      have hD3 : H D = none := by rw [upd_ne npD.symm] at hD; exact hD
      exact ⟨upd_same, fun b o e hb => by rw [upd_ne (ne_of_none e hD3), upd_ne hb]; exact e, by rw [upd_ne npD]; exact upd_same⟩
    · rintro j y H4 H4' hjl ⟨h4, s4, h4p⟩ ⟨Tt, kk, v, hkv, rfl, hT, rfl⟩
      obtain ⟨r, hr2⟩ : ∃ r, rs[j]? = some r := ⟨_, List.getElem?_eq_getElem (by omega)⟩
      have ek : kk = kx r.nm := by
        unfold rchK at hkv
        rw [List.getElem?_map, hr2] at hkv
        cases hkv
        rfl
      subst ek
      have hln := nofA_len n ((rs.map Rk.nm).take j) 0
      rw [List.length_take, List.length_map] at hln
      have hrn : (rs.map Rk.nm)[j]? = some r.nm := by rw [List.getElem?_map, hr2]; rfl
      have htl : ((rs.map Rk.nm).take j).length = j := by rw [List.length_take, List.length_map]; omega
      have nDp : D ≠ p := fun z => by rw [z, h4p] at h4; cases h4
      refine ⟨Tt, _, rfl, SqT.of upd_same, rfl, _, _, rfl, _, _, rfl, rfl, rfl, ?_⟩
      refine ⟨_, rfl, _, rfl, n, j, rfl, rfl, _, rfl, rfl, _, rfl, ?_⟩
      rw [bit_odd]
      have e : nofA ((rs.map Rk.nm).take (j + 1)) 0 n = nofA ((rs.map Rk.nm).take j) 0 n ++ if n.testBit j = true then [r.nm] else [] := by rw [take_snoc hrn, nofA_snoc, htl, Nat.zero_add]
      refine ite2 (fun hb => ?_) (fun hb => ?_)
      · rw [if_pos hb] at e
        refine ⟨_, rfl, _, upd_keep h4 hT, by rw [List.length_map]; exact small1000 (by omega), ?_, fun b o e hb => by rw [upd_ne (fun z => by subst z; rw [upd_ne hb] at hD; rw [hD] at e; cases e)]; exact upd_keep (s4 b o e hb) hT, by rw [upd_ne nDp.symm]; exact upd_keep h4p hT⟩
        rw [e, List.map_append]
        exact upd_same
      · rw [if_neg hb, List.append_nil] at e
        exact ⟨by rw [e]; exact upd_keep h4 hT, fun b o e hb => upd_keep (s4 b o e hb) hT, upd_keep h4p hT⟩
    · rintro H4 ⟨h4, s4, h4p⟩
      rw [hkl, List.take_of_length_le (by rw [List.length_map]; exact Nat.le_refl _)] at h4
      have nDp : D ≠ p := fun z => by rw [z, h4p] at h4; cases h4
      refine ⟨h4p, D, _, rfl, .inl ⟨SqL.of (by rw [upd_ne nDp]; exact h4), fun l hl => ?_⟩⟩
      have hlH : ∀ b o, H b = some o → b ≠ l := fun b o e z => by
        subst z
        by_cases hb : b = p
        · rw [hb, upd_same] at hl; cases hl
        · rw [upd_ne hb, s4 _ _ e hb] at hl; cases hl
      refine k l _ ?_ upd_same fun b o e => ?_
      · cases hz : H l with
        | none => rfl
        | some o => exact absurd rfl (hlH _ _ hz)
      rw [upd_ne (hlH b o e)]
      by_cases hb : b = p
      · subst hb
        rw [upd_same, ← e, hp]
      · rw [upd_ne hb]
        exact s4 _ _ e hb
end
end Cp

set_option Elab.async false
set_option linter.all false
set_option maxRecDepth 100000
set_option maxHeartbeats 2000000
/-! ### tuple(a dict) -/
namespace Cp
open PySem PySem.Spec PyProof.Rows
open Sem (wp)
section
variable {prog : Program} {w : World} {A : Around} {E : Value → Shared → Prop} {s : Shared}
theorem code_tuple_new_dk {K : Type} [DecidableEq K] {knd : KeyKind prog w K} {d : Addr} {kvs : List (K × Value)} {ep : Nat} {Q₁ : Value → Shared → Prop} (hh : A.handled = none) (lo : (d == sysModules) = false) (hd : s.heap.DictAt knd d kvs ep) (hn : kvs.length ≤ sizeLine)
    (h : ∀ (h' : Heap) (tk : Nat) (acc : Array Value), (∀ b o, s.heap.get? b = some o → h'.get? b = some o) → ItemsOf (fun i v => ∃ k x, kvs[i]? = some (k, x) ∧ knd.is k v = true) acc kvs.length →
      Q₁ (.ref h'.objs.size) { s with heap := h'.push { cls := .type "tuple", data := .seq acc }, toks := tk }) :
    codeAny (model prog w) A (.call (.builtin "tuple.__new__") ⟨[.type "tuple", .ref d], []⟩) (wants Q₁ E) s := by
  refine codeAny_of_tree ?_
  show wpAny _ A.in1 (do checkBuiltinCall "tuple.__new__" ⟨[.type "tuple", .ref d], []⟩; again (.builtin "tuple.__new__" ⟨[.type "tuple", .ref d], []⟩)) _ _ s
  refine wpAny_bind (wpAny_of_eq (F.newCall_tuple_1 _) (wpAny_pure ⟨plainId_quiet F.plain_tuple_new _, codeAny_builtin F.entry_tuple_new ?_⟩))
  rw [Around.under_plainId F.plain_tuple_new _]
  have hsub := sub_tuple_self
  have hinit := init_tuple_lookup
  have hmh := madeHere_tuple
  have hTI : s.TypeIs (.ref d) "dict" := hd.dictOf.typeIs
  have hh1 : A.in1.handled = none := hh
  wp_walk using wpAny_typeOf hTI, PySem.W.kdu_collect (A := A.in1) (PySem.W.kdl_dict (knd := knd) (kvs := kvs) (ep := ep) lo) hh1 hd hn
  intro h' tk acc hk hacc
  show wpAny _ _ (Builtin.Tuple.tupleExact acc.toList.toArray >>= fun v => ret v) _ _ _
  unfold Builtin.Tuple.tupleExact
  refine wpAny_bind (wpAny_newObj_type ?_ (by show acc.toList.toArray.size ≤ sizeLine; simp only [Array.toArray_toList]; rw [hacc.1]; exact hn))
  refine wpAny_pure ?_
  have e : acc.toList.toArray = acc := by simp
  rw [e]
  exact h h' tk acc hk hacc
theorem call_tuple_dk {K : Type} [DecidableEq K] {knd : KeyKind prog w K} {d : Addr} {kvs : List (K × Value)} {ep : Nat} {Q : Value → Shared → Prop} (hh : A.handled = none) (lo : (d == sysModules) = false) (hd : s.heap.DictAt knd d kvs ep) (hn : kvs.length ≤ sizeLine)
    (hQ : ∀ (h' : Heap) (tk : Nat) (acc : Array Value), (∀ b o, s.heap.get? b = some o → h'.get? b = some o) → ItemsOf (fun i v => ∃ k x, kvs[i]? = some (k, x) ∧ knd.is k v = true) acc kvs.length →
      Q (.ref h'.objs.size) { s with heap := h'.push { cls := .type "tuple", data := .seq acc }, toks := tk }) :
    wpAny (model prog w) A (call (.type "tuple") [.ref d]) Q E s := by
  refine callType_codes (Q₁ := fun obj s₁ => s₁.TypeIs obj "tuple" ∧ Q obj s₁) F.called_tuple (F.typeCall_tuple_1 _) F.entry_object_init
    (code_tuple_new_dk (A := A.in1) hh lo hd hn fun h' tk acc hk hacc => ⟨⟨_, Heap.get?_push_size _ rfl, rfl⟩, hQ h' tk acc hk hacc⟩) fun obj s₁ h₁ => ?_
  exact ⟨h₁.1, F.args_object_init_2 obj _, object_init_meets F.called_tuple.init.lookup F.called_tuple.made (by decide) prog w A.in1 _ s₁ ⟨h₁.1, rfl, h₁.2⟩⟩
end
open L2
/-- tuple(d): its keys -/
theorem call_tupleD {X : Cx} (hcalm : X.calm = true) : CallR X (.type "tuple") (fun xs H Q => ∃ (a : Addr) (kvs : List (Key × V)), xs = [.ref a] ∧ H a = some (.dK kvs) ∧ ∀ p, H p = none → Q (.ref p) (upd H p (.tup (kvs.map fun kv => kV kv.1)))) := by
  intro pins s σ H xs us Q I r q
  obtain ⟨a, kvs, ex, hd, q⟩ := q
  subst ex
  obtain ⟨u, eu, rx⟩ := vals1 r
  subst eu
  cases rx
  obtain ⟨z, lo, vs, rel, dd⟩ := dk_rd I.hok (.inl hd)
  obtain ⟨ep, hat⟩ := dd.dictAt
  have ek : (kvs.map fun kv => kV kv.1) = vs.map fun p => kV p.1 := by
    have e := congrArg (List.map kV) rel.keys
    rw [List.map_map, List.map_map] at e
    exact e
  refine call_tuple_dk (knd := mixKind X.prog X.w) (kvs := vs) (ep := ep) (I.ok.hd hcalm) lo hat (by rw [← rel.length]; exact z) fun h' tk acc hk hacc => ?_
  have hv : Vals (vs.map fun p => kV p.1) acc.toList := keys_at (by rw [Array.length_toList]; exact hacc.1) fun j v e => hacc.2 j v (by rw [← Array.getElem?_toList]; exact e)
  have I1 : Inv X pins σ H { s with heap := h', toks := tk } := I.kept hk
  refine ⟨.ref h'.objs.size, upd H h'.objs.size (.tup (kvs.map fun kv => kV kv.1)), I1.laid (t' := tk) (fun b u e => Heap.get?_push_of_some _ e) (Nat.le_refl _)
    (show ObjOk X.prog X.w _ _ _ (.tup (kvs.map fun kv => kV kv.1)) from ⟨by rw [List.length_map]; exact z, acc.toList, by rw [ek]; exact hv, by rw [Array.toArray_toList]; exact IsTup.new _ _⟩), rfl, q _ (I1.hok.fresh (Nat.le_refl _))⟩
end Cp

set_option Elab.async false
set_option linter.all false
set_option maxRecDepth 100000
set_option maxHeartbeats 1000000
/-! ### is_whole, need_edition; need_layout, newest, names, known -/
namespace Cp
open PySem PySem.Spec L2 PyProof.Rows
structure TEd (mg : Str → Option Value) : Prop where
  nm : ∃ t, mg "NAME" = some (.int 0 t)
  ed : ∃ t, mg "EDITION" = some (.int 1 t)
def lastEd (ks : List Kd) : Int := (ks.getLast?.map Kd.ed).getD 0
theorem last_at {as : List Addr} {ks : List Kd} {H : Hp} {a : Addr} (L : LayAt H a as ks) : ∃ p k, atI (as.map V.ref) (-1) = some (.ref p) ∧ RowAt H p k ∧ k.ed = lastEd ks ∧ k ∈ ks := by
  have l1 := L.l1
  have hl := L.rw.1
  have hp : as[ks.length - 1]? = some as[ks.length - 1] := List.getElem?_eq_getElem (by omega)
  have hk : ks[ks.length - 1]? = some ks[ks.length - 1] := List.getElem?_eq_getElem (by omega)
  refine ⟨_, _, ?_, L.rw.2 _ _ _ hp hk, ?_, List.mem_of_getElem? hk⟩
  · unfold atI ixN
    rw [if_neg (by decide), if_pos (by rw [List.length_map]; omega)]
    show (as.map V.ref)[(-1 + ((as.map V.ref).length : Int)).toNat]? = _
    rw [List.length_map, show (-1 + (as.length : Int)).toNat = ks.length - 1 by omega, List.getElem?_map, hp]
    rfl
  · unfold lastEd
    rw [List.getLast?_eq_getElem?, hk]
    rfl
def whB (d : PyData) (lo hi : Int) : Bool := match d with
  | .int i => decide (lo ≤ i) && decide (i ≤ hi)
  | _ => false
def spWh : Sp := fun vs H Q _ => ∃ (v : V) (d : PyData) (lo hi : Int), vs = [v, .int lo, .int hi] ∧ Dq H v d ∧ Q (.bl (whB d lo hi)) H
def spNe (CD : Addr) : Sp := fun vs H Q E => ∃ (a : Addr) (v : V) (d : PyData) (as : List Addr) (ks : List Kd), vs = [.ref a, v] ∧ LayAt H a as ks ∧ Dq H v d ∧
  (whB d 1 (lastEd ks) = true → Q v H) ∧ (whB d 1 (lastEd ks) = false → ∀ (dd : Addr) (H' : Hp), H' dd = some (.xd [(("word" : Str), .str "edition")]) → Same H H' → E (.ref CD) (some dd) H')
def knoL (ks : List Kd) (e : Int) : List Str := (ks.filter fun k => decide (k.ed ≤ e)).map Kd.nm
def spKno (CD : Addr) : Sp := fun vs H Q E => ∃ (a : Addr) (v : V) (d : PyData) (as : List Addr) (ks : List Kd), vs = [.ref a, v] ∧ LayAt H a as ks ∧ Dq H v d ∧
  (∀ e, d = .int e → whB d 1 (lastEd ks) = true → ∀ (p : Addr) (H' : Hp), H p = none → H' p = some (.tup ((knoL ks e).map V.str)) → Same H H' → Q (.ref p) H') ∧
  (whB d 1 (lastEd ks) = false → ∀ (dd : Addr) (H' : Hp), H' dd = some (.xd [(("word" : Str), .str "edition")]) → Same H H' → E (.ref CD) (some dd) H')
/-- names, newest, need_layout of a layout -/
def spNames : Sp := fun vs H Q _ => ∃ (a : Addr) (as : List Addr) (ks : List Kd), vs = [.ref a] ∧ LayAt H a as ks ∧ ∀ (p : Addr) (H' : Hp), H p = none → H' p = some (.tup ((ks.map Kd.nm).map V.str)) → Same H H' → Q (.ref p) H'
def spSelf : Sp := fun vs H Q _ => ∃ (a : Addr) (as : List Addr) (ks : List Kd), vs = [.ref a] ∧ LayAt H a as ks ∧ ∀ H' : Hp, Same H H' → Q (.ref a) H'
def spNewest : Sp := fun vs H Q _ => ∃ (a : Addr) (as : List Addr) (ks : List Kd), vs = [.ref a] ∧ LayAt H a as ks ∧ ∀ H' : Hp, Same H H' → Q (.int (lastEd ks)) H'
theorem kV_rch (rs : List Rk) : (rchK rs).map (fun kv => kV kv.1) = (rs.map Rk.nm).map V.str := by
  unfold rchK
  rw [List.map_map, List.map_map]
  rfl
section
variable {P : Program} {w : World} {K : PySem.W.Frag} {mg : Str → Option Value} {base : Heap}
end
end Cp

set_option Elab.async false
set_option linter.all false
set_option maxRecDepth 100000
set_option maxHeartbeats 1000000
/-! ### names asked for -/
namespace Cp
open PySem PySem.Spec L2 PyProof.Rows
def NoNm (ks : List Kd) (d : PyData) : Prop := ∀ k ∈ ks, d ≠ .str k.nm
/-- what is known of data as a name -/
theorem ask_cases {H : Hp} {v : V} {d : PyData} {ks : List Kd} (hq : Dq H v d) : (∃ (i : Nat) (kd : Kd), ks[i]? = some kd ∧ d = .str kd.nm ∧ v = .str kd.nm) ∨ (NoNm ks d ∧ ∀ k ∈ ks, v ≠ .str k.nm) := by
  by_cases h : ∃ k ∈ ks, v = .str k.nm
  · obtain ⟨k, hk, e⟩ := h
    obtain ⟨i, hi⟩ := List.getElem?_of_mem hk
    subst e
    cases hq
    exact .inl ⟨i, k, hi, rfl, rfl⟩
  · refine .inr ⟨fun k hk e => ?_, fun k hk e => h ⟨k, hk, e⟩⟩
    subst e
    cases hq
    exact h ⟨k, hk, rfl⟩
theorem rks_none {ks : List Kd} {v : V} (h : ∀ k ∈ ks, v ≠ .str k.nm) : ∀ r ∈ rks ks, v ≠ .str r.nm := rks_no h
end Cp

set_option Elab.async false
set_option linter.all false
set_option maxRecDepth 100000
set_option maxHeartbeats 1000000
/-! ### beneath, above, sources, is_older -/
namespace Cp
open PySem PySem.Spec L2 PyProof.Rows
/-- a question about one name: its answer; or Missing, which holds the very thing -/
def spAskD (CM : Addr) (f : List Kd → Kd → List Str) : Sp := fun vs H Q E => ∃ (a : Addr) (v : V) (d : PyData) (as : List Addr) (ks : List Kd), vs = [.ref a, v] ∧ LayAt H a as ks ∧ Dq H v d ∧
  (∀ (i : Nat) (kd : Kd), ks[i]? = some kd → d = .str kd.nm → ∀ (p : Addr) (H' : Hp), H p = none → H' p = some (.tup ((f ks kd).map V.str)) → Same H H' → Q (.ref p) H') ∧
    (NoNm ks d → ∀ (dd : Addr) (H' : Hp), H' dd = some (.xd [(("name" : Str), v)]) → Same H H' → E (.ref CM) (some dd) H')
def benL (ks : List Kd) (k : Kd) : List Str := U ks k.nm
def abvL (ks : List Kd) (k : Kd) : List Str := (ks.map Kd.nm).filter fun x => decide (k.nm ∈ U ks x)
def isSrc (ks : List Kd) (x : Str) : Bool := ks.any fun k => decide (k.nm = x) && k.bs.isEmpty
def srcL (ks : List Kd) (k : Kd) : List Str := (U ks k.nm).filter (isSrc ks)
theorem isSrc_at {ks : List Kd} (F : Frm ks) {j : Nat} {kj : Kd} (hj : ks[j]? = some kj) : isSrc ks kj.nm = kj.bs.isEmpty := by
  unfold isSrc
  rw [Bool.eq_iff_iff, List.any_eq_true]
  constructor
  · rintro ⟨k, hk, h⟩
    rw [Bool.and_eq_true, decide_eq_true_eq] at h
    obtain ⟨i, hi⟩ := List.getElem?_of_mem hk
    have := nm_injU F hi hj h.1
    subst this
    rw [hi] at hj
    cases hj
    exact h.2
  · intro h
    exact ⟨kj, List.mem_of_getElem? hj, by rw [Bool.and_eq_true, decide_eq_true_eq]; exact ⟨rfl, h⟩⟩
/-- is_older -/
def spOlder (CM : Addr) : Sp := fun vs H Q E => ∃ (a : Addr) (v u : V) (d e : PyData) (as : List Addr) (ks : List Kd), vs = [.ref a, v, u] ∧ LayAt H a as ks ∧ Dq H v d ∧ Dq H u e ∧
  (∀ (k1 k2 : Kd), k1 ∈ ks → k2 ∈ ks → d = .str k1.nm → e = .str k2.nm → ∀ H' : Hp, Same H H' → Q (.bl (decide (k1.ed < k2.ed))) H') ∧
  (NoNm ks d → ∀ (dd : Addr) (H' : Hp), H' dd = some (.xd [(("name" : Str), v)]) → Same H H' → E (.ref CM) (some dd) H') ∧
  ((∃ k1 ∈ ks, d = .str k1.nm) → NoNm ks e → ∀ (dd : Addr) (H' : Hp), H' dd = some (.xd [(("name" : Str), u)]) → Same H H' → E (.ref CM) (some dd) H')
theorem U_full {ks : List Kd} (F : Frm ks) {n : Nat} {k : Kd} (hk : ks[n]? = some k) : U ks k.nm = (ks.map Kd.nm).filter fun x => decide (x ∈ U ks k.nm) := by
  conv => lhs; rw [U_at F hk]
  unfold undOf
  refine List.filter_congr fun x hx => ?_
  rw [U_at F hk]
  unfold undOf
  rw [decide_eq_decide, List.mem_filter]
  simp [hx]
theorem U_self {ks : List Kd} (F : Frm ks) {n : Nat} {k : Kd} (hk : ks[n]? = some k) : k.nm ∉ U ks k.nm := fun h => by
  obtain ⟨j, ky, hj, hky, e⟩ := U_ahead F hk h
  have := nm_injU F hky hk e
  omega
/-- the bits beneath tell the names beneath -/
theorem ben_bits {ks : List Kd} (F : Frm ks) {i : Nat} {k : Kd} {r : Rk} (hi : ks[i]? = some k) (hr : (rks ks)[i]? = some r) : nofA ((rks ks).map Rk.nm) 0 (r.bt ^^^ 2 ^ i) = benL ks k := by
  unfold benL
  rw [U_full F hi, rks_nm]
  refine nofA_filter _ 0 fun m x hm => ?_
  rw [List.getElem?_map] at hm
  obtain ⟨km, hkm, rfl⟩ : ∃ km, ks[m]? = some km ∧ km.nm = x := by
    cases e : ks[m]? with
    | none => rw [e] at hm; cases hm
    | some km => rw [e] at hm; exact ⟨km, rfl, Option.some.inj hm⟩
  rw [Nat.zero_add, Nat.testBit_xor, Nat.testBit_two_pow, decide_eq_true_eq]
  have hb := bt_iff F i hi hr hkm
  by_cases e : i = m
  · subst e
    rw [hi] at hkm
    cases hkm
    rw [hb.mpr (.inl rfl)]
    simp only [decide_true, bne_self_eq_false, Bool.false_eq_true, false_iff]
    exact U_self F hi
  · rw [decide_eq_false e]
    simp only [Bool.bne_false]
    rw [hb]
    exact ⟨fun h => h.elim (fun z => absurd z.symm e) id, .inr⟩
section
variable {P : Program} {w : World} {K : PySem.W.Frag} {mg : Str → Option Value} {base : Heap}
abbrev nAbo : List Str := ["layout", "name", "reached", "number", "other", "bits"]
abbrev nSrc : List Str := ["layout", "name", "reached", "number", "below", "other"]
abbrev nOld : List Str := ["layout", "name", "other", "reached", "first", "second"]
end
end Cp

set_option Elab.async false
set_option linter.all false
set_option maxRecDepth 100000
set_option maxHeartbeats 2000000
/-! ### widened sets -/
namespace Cp
open PySem PySem.Spec L2 PyProof.Rows
/-- locked as it comes -/
def tLockR (te : TE) : TE := fun σ H Q => te σ H fun x H1 => ∃ d u, x = .ref d ∧ H1 d = some u ∧ Mut (some u) ∧ ∀ od, Q x (upd H1 d (.frz od u))
theorem pe_lockR {X : Cx} {e : Expr} {te : TE} (he : PE X e te) : PE X e (tLockR te) := by
  refine ⟨fun pins s σ H Q I h => ?_⟩
  refine thn (he.run pins s σ H _ I h) fun v s1 ⟨x, H1, I1, r, d, u, ex, hd, mu, q⟩ => ?_
  obtain ⟨od, I2⟩ := I1.lock hd mu
  exact ⟨x, _, I2, r, q od⟩
/-- a kind and all beneath it -/
def rcP (ks : List Kd) (k : Kd) : Kd → Bool := fun o => decide (o.nm = k.nm) || benP ks k o
theorem rch_bo {ks : List Kd} (F : Frm ks) {i : Nat} {k : Kd} {r : Rk} (hk : ks[i]? = some k) (hr : (rks ks)[i]? = some r) : r.bt = bo (rcP ks k) ks := by
  refine bo_eq (fun j x hx => ?_) fun j hj => ?_
  · have h := bt_iff F i hk hr hx
    unfold rcP benP
    rw [Bool.eq_iff_iff, h, Bool.or_eq_true, decide_eq_true_eq, decide_eq_true_eq]
    constructor
    · rintro (rfl | z)
      · rw [hk] at hx
        cases hx
        exact .inl rfl
      · exact .inr z
    · rintro (z | z)
      · exact .inl (nm_injU F hx hk z)
      · exact .inr z
  · have hi := (List.getElem?_eq_some_iff.mp hk).1
    exact bt_big hr (by omega)
theorem nofA_bits {n : Nat} {p : Kd → Bool} : ∀ (l : List Kd) (i : Nat), (∀ m x, l[m]? = some x → n.testBit (i + m) = p x) → nofA (l.map Kd.nm) i n = (l.filter p).map Kd.nm
  | [], _, _ => rfl
  | k :: r, i, h => by
    have ih := nofA_bits r (i + 1) fun m x hx => by
      rw [show i + 1 + m = i + (m + 1) by omega]
      exact h (m + 1) x (by rw [List.getElem?_cons_succ]; exact hx)
    have h0 := h 0 k rfl
    rw [Nat.add_zero] at h0
    rw [List.map_cons, List.filter_cons]
    unfold nofA
    rw [h0, ih]
    split
    · rw [List.map_cons]
    · rfl
theorem nofA_bo (p : Kd → Bool) (ks : List Kd) : nofA (ks.map Kd.nm) 0 (bo p ks) = (ks.filter p).map Kd.nm := nofA_bits ks 0 fun m x hx => by
  rw [Nat.zero_add, bo_at hx]
/-- the kinds that are named and all beneath them -/
def chP (ks : List Kd) (ws : List Str) : Kd → Bool := fun o => ws.any fun w => decide (o.nm = w) || decide (o.nm ∈ U ks w)
/-- with all that have a letter of them -/
def letC (ks : List Kd) (p : Kd → Bool) : Kd → Bool := fun o => p o || ks.any fun u => p u && decide (u.lt = o.lt)
/-- with all that is beneath -/
def benC (ks : List Kd) (p : Kd → Bool) : Kd → Bool := fun o => ks.any fun u => p u && rcP ks u o
def stepW (ks : List Kd) (p : Kd → Bool) : Kd → Bool := benC ks (letC ks p)
def widN (ks : List Kd) (ws : List Str) : Nat → Kd → Bool
  | 0 => chP ks ws
  | n + 1 => stepW ks (widN ks ws n)
def widP (ks : List Kd) (ws : List Str) : Kd → Bool := widN ks ws ks.length
def fitP (ks : List Kd) (ws : List Str) : Bool := ks.all fun o => chP ks ws o || !(ks.any fun u => chP ks ws u && decide (u.lt = o.lt))
theorem rcP_self (ks : List Kd) (k : Kd) : rcP ks k k = true := by unfold rcP; rw [decide_eq_true rfl]; rfl
theorem stepW_ge {ks : List Kd} {p : Kd → Bool} {o : Kd} (ho : o ∈ ks) (h : p o = true) : stepW ks p o = true := by
  unfold stepW benC
  rw [List.any_eq_true]
  refine ⟨o, ho, ?_⟩
  rw [rcP_self, Bool.and_true]
  unfold letC
  rw [h]
  rfl
theorem stepW_congr {ks : List Kd} {p q : Kd → Bool} (h : ∀ o ∈ ks, p o = q o) : ∀ o ∈ ks, stepW ks p o = stepW ks q o := by
  have e : ∀ u ∈ ks, letC ks p u = letC ks q u := fun u hu => by
    unfold letC
    rw [h u hu]
    congr 1
    rw [Bool.eq_iff_iff, List.any_eq_true, List.any_eq_true]
    exact exists_congr fun z => and_congr_right fun hz => by rw [h z hz]
  intro o _
  unfold stepW benC
  rw [Bool.eq_iff_iff, List.any_eq_true, List.any_eq_true]
  exact exists_congr fun z => and_congr_right fun hz => by rw [e z hz]
theorem stepW_mono {ks : List Kd} {p q : Kd → Bool} (h : ∀ o ∈ ks, p o = true → q o = true) : ∀ o ∈ ks, stepW ks p o = true → stepW ks q o = true := by
  intro o _ hs
  unfold stepW benC at hs ⊢
  obtain ⟨u, hu, z⟩ := List.any_eq_true.mp hs
  refine List.any_eq_true.mpr ⟨u, hu, ?_⟩
  rw [Bool.and_eq_true] at z ⊢
  refine ⟨?_, z.2⟩
  have z1 := z.1
  unfold letC at z1 ⊢
  rw [Bool.or_eq_true] at z1 ⊢
  rcases z1 with z1 | z1
  · exact .inl (h u hu z1)
  · obtain ⟨y, hy, w⟩ := List.any_eq_true.mp z1
    rw [Bool.and_eq_true] at w
    exact .inr (List.any_eq_true.mpr ⟨y, hy, by rw [h y hy w.1, w.2]; rfl⟩)
theorem filt_lt {α : Type} : ∀ {l : List α} {p q : α → Bool}, (∀ o ∈ l, p o = true → q o = true) → (¬ ∀ o ∈ l, p o = q o) → (l.filter p).length < (l.filter q).length
  | [], p, q, _, h => absurd (fun o ho => absurd ho List.not_mem_nil) h
  | a :: r, p, q, hm, h => by
    have hr : ∀ o ∈ r, p o = true → q o = true := fun o ho => hm o (List.mem_cons_of_mem _ ho)
    have le : ∀ {l : List α}, (∀ o ∈ l, p o = true → q o = true) → (l.filter p).length ≤ (l.filter q).length := by
      intro l
      induction l with
      | nil => intro _; exact Nat.le_refl _
      | cons b s ih =>
        intro hb
        have i := ih fun o ho => hb o (List.mem_cons_of_mem _ ho)
        have h0 := hb b List.mem_cons_self
        rw [List.filter_cons, List.filter_cons]
        cases hp : p b with
        | true => rw [if_pos rfl, if_pos (h0 hp), List.length_cons, List.length_cons]; omega
        | false =>
          rw [if_neg Bool.false_ne_true]
          split
          · rw [List.length_cons]; omega
          · exact i
    rw [List.filter_cons, List.filter_cons]
    have h0 := hm a List.mem_cons_self
    cases hp : p a with
    | true =>
      have hq := h0 hp
      rw [if_pos rfl, if_pos hq, List.length_cons, List.length_cons]
      have := filt_lt hr fun z => h fun o ho => by
        rcases List.mem_cons.mp ho with rfl | ho
        · rw [hp, hq]
        · exact z o ho
      omega
    | false =>
      rw [if_neg Bool.false_ne_true]
      cases hq : q a with
      | true =>
        rw [if_pos rfl, List.length_cons]
        have := le hr
        omega
      | false =>
        rw [if_neg Bool.false_ne_true]
        exact filt_lt hr fun z => h fun o ho => by
          rcases List.mem_cons.mp ho with rfl | ho
          · rw [hp, hq]
          · exact z o ho
theorem widN_ge (ks : List Kd) (ws : List Str) (n : Nat) : ∀ o ∈ ks, widN ks ws n o = true → widN ks ws (n + 1) o = true := fun o ho h => stepW_ge ho h
theorem widN_stay {ks : List Kd} {ws : List Str} {n : Nat} (h : ∀ o ∈ ks, widN ks ws (n + 1) o = widN ks ws n o) : ∀ m, ∀ o ∈ ks, widN ks ws (n + m) o = widN ks ws n o
  | 0, _, _ => rfl
  | m + 1, o, ho => by
    rw [show n + (m + 1) = n + m + 1 by omega]
    show stepW ks (widN ks ws (n + m)) o = _
    rw [stepW_congr (widN_stay h m) o ho]
    exact h o ho
theorem widN_cnt (ks : List Kd) (ws : List Str) : ∀ n, (∃ m, m < n ∧ ∀ o ∈ ks, widN ks ws (m + 1) o = widN ks ws m o) ∨ n ≤ (ks.filter (widN ks ws n)).length
  | 0 => .inr (Nat.zero_le _)
  | n + 1 => by
    rcases widN_cnt ks ws n with ⟨m, h1, h2⟩ | h
    · exact .inl ⟨m, by omega, h2⟩
    · by_cases hs : ∀ o ∈ ks, widN ks ws (n + 1) o = widN ks ws n o
      · exact .inl ⟨n, by omega, hs⟩
      · have := filt_lt (widN_ge ks ws n) fun z => hs fun o ho => (z o ho).symm
        exact .inr (by omega)
/-- it is closed -/
theorem widP_fix (ks : List Kd) (ws : List Str) : ∀ o ∈ ks, stepW ks (widP ks ws) o = widP ks ws o := by
  have key : ∃ m, m ≤ ks.length ∧ ∀ o ∈ ks, widN ks ws (m + 1) o = widN ks ws m o := by
    rcases widN_cnt ks ws (ks.length + 1) with ⟨m, h1, h2⟩ | h
    · exact ⟨m, by omega, h2⟩
    · have := List.length_filter_le (widN ks ws (ks.length + 1)) ks
      omega
  obtain ⟨m, hm, hs⟩ := key
  have a := widN_stay hs (ks.length - m)
  have b := widN_stay hs (ks.length - m + 1)
  rw [show m + (ks.length - m) = ks.length by omega] at a
  rw [show m + (ks.length - m + 1) = ks.length + 1 by omega] at b
  intro o ho
  show widN ks ws (ks.length + 1) o = widN ks ws ks.length o
  rw [a o ho, b o ho]
theorem widN_end {ks : List Kd} {ws : List Str} {n : Nat} (h : ∀ o ∈ ks, widN ks ws (n + 1) o = widN ks ws n o) : ∀ o ∈ ks, widN ks ws n o = widP ks ws o := by
  intro o ho
  rcases Nat.le_total n ks.length with q | q
  · have := widN_stay h (ks.length - n) o ho
    rw [show n + (ks.length - n) = ks.length by omega] at this
    exact this.symm
  · have := widN_stay (n := ks.length) (widP_fix ks ws) (n - ks.length) o ho
    rw [show ks.length + (n - ks.length) = n by omega] at this
    exact this
/-- it is the least one -/
theorem widN_le {ks : List Kd} {ws : List Str} {q : Kd → Bool} (h0 : ∀ o ∈ ks, chP ks ws o = true → q o = true) (hf : ∀ o ∈ ks, stepW ks q o = true → q o = true) : ∀ n, ∀ o ∈ ks, widN ks ws n o = true → q o = true
  | 0, o, ho, h => h0 o ho h
  | n + 1, o, ho, h => hf o ho (stepW_mono (widN_le h0 hf n) o ho h)
theorem widP_le {ks : List Kd} {ws : List Str} {q : Kd → Bool} (h0 : ∀ o ∈ ks, chP ks ws o = true → q o = true) (hf : ∀ o ∈ ks, stepW ks q o = true → q o = true) : ∀ o ∈ ks, widP ks ws o = true → q o = true := widN_le h0 hf _
theorem widP_ch {ks : List Kd} {ws : List Str} : ∀ n, ∀ o ∈ ks, chP ks ws o = true → widN ks ws n o = true
  | 0, _, _, h => h
  | n + 1, o, ho, h => widN_ge ks ws n o ho (widP_ch n o ho h)
theorem widP_let {ks : List Kd} {ws : List Str} {u o : Kd} (hu : u ∈ ks) (ho : o ∈ ks) (h : widP ks ws u = true) (e : u.lt = o.lt) : widP ks ws o = true := by
  rw [← widP_fix ks ws o ho]
  unfold stepW benC
  refine List.any_eq_true.mpr ⟨o, ho, ?_⟩
  rw [rcP_self, Bool.and_true]
  unfold letC
  rw [Bool.or_eq_true]
  exact .inr (List.any_eq_true.mpr ⟨u, hu, by rw [h, decide_eq_true e]; rfl⟩)
theorem widP_ben {ks : List Kd} {ws : List Str} {u o : Kd} (hu : u ∈ ks) (ho : o ∈ ks) (h : widP ks ws u = true) (e : o.nm ∈ U ks u.nm) : widP ks ws o = true := by
  rw [← widP_fix ks ws o ho]
  unfold stepW benC
  refine List.any_eq_true.mpr ⟨u, hu, ?_⟩
  unfold letC rcP benP
  rw [h, decide_eq_true e, Bool.or_true]
  rfl
/-- what is closed under both is closed -/
theorem closed_step {ks : List Kd} {q : Kd → Bool} (F : Frm ks) (hl : ∀ u ∈ ks, ∀ o ∈ ks, q u = true → u.lt = o.lt → q o = true) (hb : ∀ u ∈ ks, ∀ o ∈ ks, q u = true → o.nm ∈ U ks u.nm → q o = true) : ∀ o ∈ ks, stepW ks q o = true → q o = true := by
  intro o ho h
  unfold stepW benC at h
  obtain ⟨u, hu, z⟩ := List.any_eq_true.mp h
  rw [Bool.and_eq_true] at z
  have qu : q u = true := by
    have z1 := z.1
    unfold letC at z1
    rw [Bool.or_eq_true] at z1
    rcases z1 with z1 | z1
    · exact z1
    · obtain ⟨y, hy, w⟩ := List.any_eq_true.mp z1
      rw [Bool.and_eq_true] at w
      exact hl y hy u hu w.1 (of_decide_eq_true w.2)
  have z2 := z.2
  unfold rcP at z2
  rw [Bool.or_eq_true] at z2
  rcases z2 with z2 | z2
  · obtain ⟨i, hi⟩ := List.getElem?_of_mem ho
    obtain ⟨j, hj⟩ := List.getElem?_of_mem hu
    have := nm_injU F hi hj (of_decide_eq_true z2)
    subst this
    rw [hi] at hj
    cases hj
    exact qu
  · exact hb u hu o ho qu (of_decide_eq_true z2)
theorem firsts_self {xs : List Str} (h : xs.Nodup) : firsts xs = xs := by
  have gen : ∀ (l acc : List Str), (acc ++ l).Nodup → l.foldl grow acc = acc ++ l := by
    intro l
    induction l with
    | nil => intro acc _; simp
    | cons x r ih =>
      intro acc hn
      have hx : ¬ x ∈ acc := fun z => by
        rw [List.nodup_append] at hn
        exact hn.2.2 x z x List.mem_cons_self rfl
      have e : grow acc x = acc ++ [x] := by
        unfold grow
        rw [if_neg hx]
      rw [List.foldl_cons, e, ih (acc ++ [x]) (by rw [List.append_assoc]; exact hn), List.append_assoc]
      rfl
  have := gen xs [] (by rw [List.nil_append]; exact h)
  rw [List.nil_append] at this
  exact this
abbrev sNdR : Stmt := top 25
abbrev sFits : Stmt := top 26
abbrev sWiB : Stmt := top 27
abbrev sWid : Stmt := top 28
abbrev nNdR : List Str := ["reached", "thing", "bits", "name"]
abbrev nFits : List Str := ["layout", "bases", "chosen", "bits"]
abbrev nWiB : List Str := ["reached", "bits", "told", "at", "below"]
abbrev nWid : List Str := ["layout", "bases", "reached", "chosen", "by_letter", "before", "bits"]
/-- names of a layout -/
structure NmsOf (ks : List Kd) (ws : List Str) : Prop where
  nd : ws.Nodup
  sub : ∀ x ∈ ws, ∃ k ∈ ks, k.nm = x
  len : ws.length ≤ 6
def spNdR : Sp := fun vs H Q _ => ∃ (p a : Addr) (ks : List Kd) (ws : List Str), vs = [.ref p, .ref a] ∧ H p = some (.dK (rchK (rks ks))) ∧ H a = some (.tup (ws.map V.str)) ∧ Frm ks ∧ ks.length ≤ 24 ∧ NmsOf ks ws ∧ ∀ H', Same H H' → Q (nV (bo (chP ks ws) ks)) H'
def spFits : Sp := fun vs H Q _ => ∃ (t a : Addr) (as : List Addr) (ks : List Kd) (ws : List Str), vs = [.ref t, .ref a] ∧ LayAt H t as ks ∧ H a = some (.tup (ws.map V.str)) ∧ NmsOf ks ws ∧ ∀ H', Same H H' → Q (.bl (fitP ks ws)) H'
def spWiB : Sp := fun vs H Q _ => ∃ (p : Addr) (ks : List Kd) (q : Kd → Bool), vs = [.ref p, nV (bo q ks)] ∧ H p = some (.dK (rchK (rks ks))) ∧ Frm ks ∧ ks.length ≤ 24 ∧ ∀ H', Same H H' → Q (nV (bo (benC ks q) ks)) H'
def spWid : Sp := fun vs H Q _ => ∃ (t a : Addr) (as : List Addr) (ks : List Kd) (ws : List Str), vs = [.ref t, .ref a] ∧ LayAt H t as ks ∧ H a = some (.tup (ws.map V.str)) ∧ NmsOf ks ws ∧ ∀ (r : Addr) (H' : Hp), H r = none → H' r = some (.tup (((ks.filter (widP ks ws)).map Kd.nm).map V.str)) → Same H H' → Q (.ref r) H'
section
variable {P : Program} {w : World} {K : PySem.W.Frag} {mg : Str → Option Value} {base : Heap}
theorem scNdR : FnScope nNdR ["reached", "thing"] (defScope sNdR) := ⟨rfl, rfl, rfl, by decide +kernel, rfl, by decide +kernel, by decide +kernel⟩
theorem ok_ndr {f : Addr} {fd : FuncData} (F : Fun K "_need_reached" "_need_reached" sNdR f fd) (T : TP mg) (gMB : ∃ t, mg "MOST_BASES" = some (.int 6 t)) : FnOk P w K mg base CX0 1 f fd ["reached", "thing"] spNdR := by
  refine F.ok scNdR (fun vs H Q E h => ?_) (fun cdv A outer s H vs Q E hr h => ?_)
  · obtain ⟨p, a, ks, ws, rfl, _⟩ := h; rfl
  · obtain ⟨p, a, ks, ws, rfl, hp, ha, Fm, l2, N, k⟩ := h
    have nd := scNdR.nd
    have hu := hu_of hr
    refine ⟨_, (pss_cons (ps_if (PW.pt (pw_or (pt_not (pt_val (pe_callB call_isi (by rfl) T.isinstance (by decide +kernel) (pa_cons (pv 1) (pa_cons (pe_bltn (v := .ty "tuple") (u := .type "tuple") (by rfl) T.tuple (by decide +kernel) rfl) pa_nil))))) (pw_or1 (pt_cmpR op_gt (pe_callB call_len_seq (by rfl) T.len (PySem.boot_len) (pa_cons (pv 1) pa_nil)) (pe_glob (v := .int 6) (by rfl) gMB.choose_spec ⟨_, rfl⟩) (nomark _))))) (pss_one ps_never) pss_nil)
      (pss_cons (ps_set (i := 2) nd rfl (.inl rfl) pe_int)
      (pss_cons (ps_for PassesOwn.never rfl (pi_tup (pv 1)) (pg_name (i := 3) nd rfl (.inl rfl)) (pss_cons (ps_if (PW.pt (pw_or (pt_not (pt_val (pe_callB call_isi (by rfl) T.isinstance (by decide +kernel) (pa_cons (pv 3) (pa_cons (pe_bltn (v := .ty "str") (u := .type "str") (by rfl) T.str (by decide +kernel) rfl) pa_nil))))) (pw_or1 (pt_cmp (pc_dnotin hu (pv 3) (pv 0)))))) (pss_one ps_never) pss_nil)
      (pss_one (ps_aug (i := 2) nd rfl (.inl rfl) (pe_dget hu (pv 0) (pv 3) (fun _ _ => rfl)) iop_or))))
      (pss_cons (ps_if (pt_cmpR op_lt (lenSetK K rfl (by rfl) T.len (by rfl) T.set (pv 1)) (pe_callB call_len_seq (by rfl) T.len (PySem.boot_len) (pa_cons (pv 1) pa_nil)) (nomark _)) (pss_one ps_never) pss_nil)
      (pss_one (ps_ret (pv 2))))))), ?_⟩
    have lk : ∀ {x : Str}, x ∈ ws → ∃ (i : Nat) (kd : Kd) (r : Rk), ks[i]? = some kd ∧ kd.nm = x ∧ r.bt = bo (rcP ks kd) ks ∧ DGet H p (.str x) (some (.int ((r.bt : Nat) : Int))) := fun {x} hx => by
      obtain ⟨kd, hm, rfl⟩ := N.sub x hx
      obtain ⟨i, hi⟩ := List.getElem?_of_mem hm
      obtain ⟨r, hr, en⟩ := rks_atU hi
      have dg := DGet.k (k := kx kd.nm) hp
      have nd' : ((rks ks).map Rk.nm).Nodup := by rw [rks_nm]; exact Fm.nd
      have hg : valV (rchK (rks ks)) (kx kd.nm) = some (.int ((r.bt : Nat) : Int)) := by
        rw [← en, rch_get (List.mem_map.mpr ⟨r, List.mem_of_getElem? hr, rfl⟩), lkB_at nd' hr]
      rw [hg] at dg
      exact ⟨i, kd, r, hi, rfl, rch_bo Fm hi hr, dg⟩
    have wl := N.len
    refine ⟨_, rfl, _, _, _, _, true, rfl, ClsV.ty "tuple", .base (.tup ha), kit_ty (by decide +kernel), _, rfl, ?_⟩
    refine iteF ?_
    refine ⟨_, rfl, a, _, rfl, .inr (SqT.of ha), _, _, rfl, rfl, _, rfl, ?_⟩
    rw [show decide ((6 : Int) < ((ws.map V.str).length : Int)) = false from decide_eq_false (by rw [List.length_map]; omega)]
    refine iteF ?_
    refine ⟨_, rfl, a, rfl, ⟨_, SqT.of ha⟩, for_tup (K := K) (a := a) (xs := ws.map V.str) (fun j σ H' => ∃ v3 : Option V, σ = [some (.ref p), some (.ref a), some (nV (bo (chP ks (ws.take j)) ks)), v3] ∧ H' = H)
      ⟨none, by rw [List.take_zero, show bo (chP ks []) ks = 0 from bo_none ks]; rfl, rfl⟩ (fun j σ H' _ ⟨_, _, z⟩ => by rw [z]; exact SqT.of ha) ?_ ?_⟩
    · rintro j y σ H' hj ⟨v3, rfl, rfl⟩
      obtain ⟨x, hx, rfl⟩ := str_at hj
      obtain ⟨i, kd, r, hi, rfl, hb, dg⟩ := lk (List.mem_of_getElem? hx)
      refine ⟨_, rfl, _, _, _, _, true, rfl, ClsV.ty "str", .base (.str kd.nm), kit_ty (by decide +kernel), _, rfl, ?_⟩
      refine iteF ?_
      refine ⟨_, rfl, _, rfl, p, _, rfl, dg, _, rfl, ?_⟩
      refine iteF ?_
      refine ⟨_, rfl, _, rfl, _, rfl, p, _, rfl, dg, _, _, rfl, rfl, some (.str kd.nm), ?_, rfl⟩
      have e : Builtin.bitOr ((bo (chP ks (ws.take j)) ks : Nat) : Int) ((r.bt : Nat) : Int) = ((bo (chP ks (ws.take (j + 1))) ks : Nat) : Int) := by
        rw [borP, hb, bo_or]
        refine congrArg (fun n : Nat => (n : Int)) (bo_congr fun o _ => ?_)
        unfold chP rcP benP
        rw [take_snoc hx, List.any_append]
        simp only [List.any_cons, List.any_nil, Bool.or_false]
      dsimp only
      rw [e]
      rfl
    · rintro σ H' ⟨v3, rfl, rfl⟩
      rw [List.length_map, List.take_of_length_le (Nat.le_refl _)]
      refine ⟨_, rfl, a, ws, rfl, SqT.of ha, by omega, _, rfl, a, _, rfl, .inr (SqT.of ha), _, _, rfl, rfl, _, rfl, ?_⟩
      rw [firsts_self N.nd, show decide (((ws.length : Nat) : Int) < ((ws.map V.str).length : Int)) = false from decide_eq_false (by rw [List.length_map]; omega)]
      refine iteF ?_
      exact ⟨_, rfl, k _ (Same.refl _)⟩
theorem scWiB : FnScope nWiB ["reached", "bits"] (defScope sWiB) := ⟨rfl, rfl, rfl, by decide +kernel, rfl, by decide +kernel, by decide +kernel⟩
theorem ok_wib {f : Addr} {fd : FuncData} (F : Fun K "_with_beneath" "_with_beneath" sWiB f fd) (Te : mg "enumerate" = none) : FnOk P w K mg base CX0 1 f fd ["reached", "bits"] spWiB := by
  refine F.ok scWiB (fun vs H Q E h => ?_) (fun cdv A outer s H vs Q E hr h => ?_)
  · obtain ⟨p, ks, q, rfl, _⟩ := h; rfl
  · obtain ⟨p, ks, q, rfl, h0, Fm, l2, k⟩ := h
    have nd := scWiB.nd
    have hu := hu_of hr
    refine ⟨_, (pss_cons (ps_set (i := 2) nd rfl (.inl rfl) pe_int)
      (pss_cons (ps_lock (ps_for PassesOwn.never rfl (pi_enV (by rfl) Te (pv 0)) (pg_tup (by rfl) (pgs_cons (pg_name (i := 3) nd rfl (.inl rfl)) (pgs_cons (pg_name (i := 4) nd rfl (.inl rfl)) pgs_nil))) (pss_one (ps_if (pt_truth (pe_op op_oddU (pe_op op_shrU (pv 1) (pv 3)) pe_int) (fun _ => rfl)) (pss_one (ps_aug (i := 2) nd rfl (.inl rfl) (pv 4) iop_or)) pss_nil))))
      (pss_one (ps_ret (pv 2))))), ?_⟩
    have rl : (rchK (rks ks)).length = ks.length := by unfold rchK; rw [List.length_map, rks_len]
    refine ⟨p, _, h0, trivial, fun od => ?_⟩
    refine ⟨_, rfl, p, od, _, rfl, upd_same, for_it walk_enV (fun j σ H' => ∃ (v3 v4 : Option V), σ = [some (.ref p), some (nV (bo q ks)), some (nV (bo (fun o => (ks.take j).any fun u => q u && rcP ks u o) ks)), v3, v4] ∧ H' p = some (.frz od (.dK (rchK (rks ks)))) ∧ ∀ b o, H b = some o → b ≠ p → H' b = some o)
      ⟨_, _, by rw [List.take_zero, show bo (fun o => ([] : List Kd).any fun u => q u && rcP ks u o) ks = 0 from bo_none ks]; rfl, upd_same, fun b o e hb => by rw [upd_ne hb]; exact e⟩ (fun j σ H' _ ⟨_, _, _, z, _⟩ => z) ?_ ?_⟩
    · rintro j v σ H3 H3' hj ⟨v3, v4, rfl, hp3, s3⟩ ⟨t, y1, y2, rfl, ht, rfl, e1, e2⟩
      rw [rl] at hj
      have hk := List.getElem?_eq_getElem hj
      generalize ks[j] = kd at hk
      obtain ⟨r, hr, rn⟩ := rks_atU hk
      dsimp only at e1 e2
      have e2' : (rchK (rks ks))[j]? = some (kx r.nm, V.int ((r.bt : Nat) : Int)) := by unfold rchK; rw [List.getElem?_map, hr]; rfl
      rw [e2'] at e2
      obtain rfl : y1 = .int (j : Nat) := (Option.some.inj e1).symm
      obtain rfl : y2 = .int ((r.bt : Nat) : Int) := (Option.some.inj e2).symm
      have hp4 := upd_keep (u := .tup [.int (j : Nat), .int ((r.bt : Nat) : Int)]) hp3 ht
      have s4 : ∀ b o, H b = some o → b ≠ p → upd H3 t (.tup [.int (j : Nat), .int ((r.bt : Nat) : Int)]) b = some o := fun b o e hb => upd_keep (s3 b o e hb) ht
      refine ⟨t, _, rfl, SqT.of upd_same, rfl, _, _, rfl, _, _, rfl, rfl, ?_⟩
      refine ⟨_, rfl, _, rfl, bo q ks, j, rfl, rfl, _, rfl, rfl, _, rfl, ?_⟩
      rw [bit_odd, bo_at hk]
      refine ite2 (fun hq => ?_) (fun hq => ?_)
      · refine ⟨_, rfl, _, rfl, _, _, rfl, rfl, some (.int (j : Nat)), some (.int ((r.bt : Nat) : Int)), ?_, hp4, s4⟩
        have e : Builtin.bitOr ((bo (fun o => (ks.take j).any fun u => q u && rcP ks u o) ks : Nat) : Int) ((r.bt : Nat) : Int) = ((bo (fun o => (ks.take (j + 1)).any fun u => q u && rcP ks u o) ks : Nat) : Int) := by
          rw [borP, rch_bo Fm hk hr, bo_or]
          refine congrArg (fun n : Nat => (n : Int)) (bo_congr fun o _ => ?_)
          rw [take_snoc hk, List.any_append]
          simp only [List.any_cons, List.any_nil, Bool.or_false, hq, Bool.true_and]
        dsimp only
        rw [e]
        rfl
      · refine ⟨some (.int (j : Nat)), some (.int ((r.bt : Nat) : Int)), ?_, hp4, s4⟩
        have e : bo (fun o => (ks.take (j + 1)).any fun u => q u && rcP ks u o) ks = bo (fun o => (ks.take j).any fun u => q u && rcP ks u o) ks := bo_congr fun o _ => by
          rw [take_snoc hk, List.any_append]
          simp only [List.any_cons, List.any_nil, Bool.or_false, Bool.eq_false_iff.mpr hq, Bool.false_and]
        rw [e]
        rfl
    · rintro σ H3 ⟨v3, v4, rfl, hp3, s3⟩
      rw [rl, List.take_of_length_le (Nat.le_refl _)]
      refine ⟨hp3, _, rfl, k _ fun b o e => ?_⟩
      by_cases hb : b = p
      · subst hb
        rw [upd_same, ← e, h0]
      · rw [upd_ne hb]
        exact s3 b o e hb
end
end Cp

set_option Elab.async false
set_option linter.all false
set_option maxRecDepth 100000
set_option maxHeartbeats 2000000
/-! ### fits, widened -/
namespace Cp
open PySem PySem.Spec L2 PyProof.Rows
theorem bo_any' {p : Kd → Bool} {ks : List Kd} : (((bo p ks : Nat) : Int) != 0) = ks.any p := by
  rw [Bool.eq_iff_iff, bne_iff_ne, List.any_eq_true]
  constructor
  · intro h
    have h : ¬ bo p ks = 0 := fun z => h (by rw [z]; rfl)
    rw [bo_zero] at h
    simp only [Classical.not_forall] at h
    obtain ⟨x, hx, h⟩ := h
    exact ⟨x, hx, by simpa using h⟩
  · rintro ⟨x, hx, h⟩ z
    have z : bo p ks = 0 := by omega
    rw [bo_zero.mp z x hx] at h
    cases h
theorem fit_iff {ks : List Kd} {ws : List Str} : fitP ks ws = true ↔ ∀ u ∈ ks, ∀ o ∈ ks, chP ks ws u = true → u.lt = o.lt → chP ks ws o = true := by
  unfold fitP
  rw [List.all_eq_true]
  constructor
  · intro h u hu o ho hc e
    have z := h o ho
    rw [Bool.or_eq_true] at z
    rcases z with z | z
    · exact z
    · rw [Bool.not_eq_true', List.any_eq_false] at z
      exact absurd (by rw [hc, decide_eq_true e]; rfl) (z u hu)
  · intro h o ho
    cases hc : chP ks ws o with
    | true => rfl
    | false =>
      rw [Bool.false_or, Bool.not_eq_true', List.any_eq_false]
      intro u hu z
      rw [Bool.and_eq_true] at z
      have := h u hu o ho z.1 (of_decide_eq_true z.2)
      rw [hc] at this
      cases this
def splZ (ks : List Kd) (ws : List Str) (z : Str) : Bool := (ks.any fun o => lbP z o && chP ks ws o) && ks.any fun o => lbP z o && !chP ks ws o
theorem fit_spl {ks : List Kd} {ws ys : List Str} (LS : LetS ys ks) : fitP ks ws = true ↔ ∀ z ∈ ys, splZ ks ws z = false := by
  rw [fit_iff]
  constructor
  · intro h z _
    refine Bool.eq_false_iff.mpr fun q => ?_
    unfold splZ at q
    rw [Bool.and_eq_true, List.any_eq_true, List.any_eq_true] at q
    obtain ⟨⟨u, hu, q1⟩, o, ho, q2⟩ := q
    rw [Bool.and_eq_true] at q1 q2
    have e : u.lt = o.lt := ltr_inj ((of_decide_eq_true q1.1).trans (of_decide_eq_true q2.1).symm)
    rw [h u hu o ho q1.2 e] at q2
    cases q2.2
  · intro h u hu o ho hc e
    have z := h (ltr u.lt) ((LS.mem _).mpr ⟨u, hu, rfl⟩)
    cases hco : chP ks ws o with
    | true => rfl
    | false =>
      exfalso
      have : splZ ks ws (ltr u.lt) = true := by
        unfold splZ
        rw [Bool.and_eq_true, List.any_eq_true, List.any_eq_true]
        refine ⟨⟨u, hu, ?_⟩, o, ho, ?_⟩
        · unfold lbP
          rw [decide_eq_true rfl, hc]
          rfl
        · unfold lbP
          rw [decide_eq_true (by rw [e]), hco]
          rfl
      rw [this] at z
      cases z
/-- with the letters of a list -/
def letN (ks : List Kd) (q : Kd → Bool) (l : List Str) : Kd → Bool := fun o => q o || (decide (ltr o.lt ∈ l) && ks.any fun u => q u && decide (u.lt = o.lt))
theorem letN_all {ks : List Kd} {ys : List Str} (LS : LetS ys ks) (q : Kd → Bool) : bo (letN ks q ys) ks = bo (letC ks q) ks := bo_congr fun o ho => by
  unfold letN letC
  rw [decide_eq_true ((LS.mem _).mpr ⟨o, ho, rfl⟩), Bool.true_and]
theorem letN_nil (ks : List Kd) (q : Kd → Bool) : bo (letN ks q []) ks = bo q ks := bo_congr fun o ho => by
  unfold letN
  rw [decide_eq_false List.not_mem_nil, Bool.false_and, Bool.or_false]
theorem letN_step {ks : List Kd} {q : Kd → Bool} {l : List Str} {z : Str} (hz : z ∉ l) :
    ((ks.any fun o => lbP z o && letN ks q l o) = true → bo (fun o => letN ks q l o || lbP z o) ks = bo (letN ks q (l ++ [z])) ks) ∧ ((ks.any fun o => lbP z o && letN ks q l o) = false → bo (letN ks q l) ks = bo (letN ks q (l ++ [z])) ks) := by
  have nl : ∀ o : Kd, ltr o.lt = z → letN ks q l o = q o := fun o e => by
    unfold letN
    rw [e, decide_eq_false hz, Bool.false_and, Bool.or_false]
  constructor
  · intro h
    obtain ⟨u, hu, h⟩ := List.any_eq_true.mp h
    rw [Bool.and_eq_true] at h
    have eu : ltr u.lt = z := of_decide_eq_true h.1
    have qu : q u = true := by rw [← nl u eu]; exact h.2
    refine bo_congr fun o ho => ?_
    by_cases e : ltr o.lt = z
    · have : (ks.any fun u => q u && decide (u.lt = o.lt)) = true := List.any_eq_true.mpr ⟨u, hu, by rw [qu, decide_eq_true (ltr_inj (eu.trans e.symm))]; rfl⟩
      unfold letN lbP
      rw [decide_eq_true e, this, decide_eq_true (List.mem_append_right _ (List.mem_singleton.mpr e))]
      simp
    · unfold letN lbP
      rw [decide_eq_false e, Bool.or_false]
      have : decide (ltr o.lt ∈ l ++ [z]) = decide (ltr o.lt ∈ l) := decide_eq_decide.mpr ⟨fun m => (List.mem_append.mp m).elim id fun m => absurd (List.mem_singleton.mp m) e, fun m => List.mem_append_left _ m⟩
      rw [this]
  · intro h
    rw [List.any_eq_false] at h
    refine bo_congr fun o ho => ?_
    by_cases e : ltr o.lt = z
    · have no : ∀ u ∈ ks, ltr u.lt = z → q u = false := fun u hu eu => by
        have := h u hu
        rw [nl u eu] at this
        unfold lbP at this
        rw [decide_eq_true eu, Bool.true_and] at this
        exact Bool.eq_false_iff.mpr this
      have : (ks.any fun u => q u && decide (u.lt = o.lt)) = false := List.any_eq_false.mpr fun u hu z' => by
        rw [Bool.and_eq_true] at z'
        have := no u hu (by rw [of_decide_eq_true z'.2]; exact e)
        rw [this] at z'
        cases z'.1
      unfold letN
      rw [this, Bool.and_false, Bool.and_false]
    · unfold letN
      have : decide (ltr o.lt ∈ l ++ [z]) = decide (ltr o.lt ∈ l) := decide_eq_decide.mpr ⟨fun m => (List.mem_append.mp m).elim id fun m => absurd (List.mem_singleton.mp m) e, fun m => List.mem_append_left _ m⟩
      rw [this]
theorem letK_at {ys : List Str} {ks : List Kd} {m : Nat} {k : Key} {v : V} (h : (letK ys ks)[m]? = some (k, v)) : ∃ z, ys[m]? = some z ∧ v = nV (bo (lbP z) ks) := by
  unfold letK nmD at h
  rw [List.getElem?_map] at h
  obtain ⟨z, hz, e⟩ := Option.map_eq_some_iff.mp h
  exact ⟨z, hz, (Prod.mk.inj e).2.symm⟩
section
variable {P : Program} {w : World} {K : PySem.W.Frag} {mg : Str → Option Value} {base : Heap}
theorem scFits : FnScope nFits ["layout", "bases"] (defScope sFits) := ⟨rfl, rfl, rfl, by decide +kernel, rfl, by decide +kernel, by decide +kernel⟩
theorem ok_fits {f fD fR fL : Addr} {fd fdD fdR fdL : FuncData} (F : Fun K "fits" "fits" sFits f fd)
    (GD : FnOk P w K mg base (L2.CX P w) 8 fD fdD ["thing"] spRchL) (kD : PySem.W.keepIn K (.ref fD) = true) (bD : Binds K fdD ["thing"] []) (mD : mg "reached_bits" = some (.ref fD))
    (GR : FnOk P w K mg base CX0 1 fR fdR ["reached", "thing"] spNdR) (FR : Fun K "_need_reached" "_need_reached" sNdR fR fdR) (bR : Binds K fdR ["reached", "thing"] []) (mR : mg "_need_reached" = some (.ref fR))
    (GL : FnOk P w K mg base CX0 1 fL fdL ["layout"] spLetB) (FL : Fun K "letter_bits" "letter_bits" sLetB fL fdL) (bL : Binds K fdL ["layout"] []) (mL : mg "letter_bits" = some (.ref fL)) :
    FnOk P w K mg base (L2.CX P w) 9 f fd ["layout", "bases"] spFits := by
  refine F.okX scFits (fun vs H Q E h => ?_) (fun cdv A outer s H vs Q E hr h => ?_)
  · obtain ⟨t, a, as, ks, ws, rfl, _⟩ := h; rfl
  · obtain ⟨t, a, as, ks, ws, rfl, L, ha, N, k⟩ := h
    have nd := scFits.nd
    have hu := hu_of hr
    have hr1 : Room 1 _ := hr.mono (by decide)
    refine ⟨_, (pss_cons (ps_set (i := 2) nd rfl (.inl rfl) (pe_call GR hr1 (by rfl) mR FR.kp bR .nil pass0 (pa_cons (pe_callS GD hr (by rfl) mD kD bD (fun σ => passAt (takes_of rfl rfl rfl rfl) σ) (pa_cons (pv 0) pa_nil)) (pa_cons (pv 1) pa_nil))))
      (pss_cons (ps_for (passes_of rfl) rfl (pi_values (pe_lockR (pe_call GL hr1 (by rfl) mL FL.kp bL .nil pass0 (pa_cons (pv 0) pa_nil)))) (pg_name (i := 3) nd rfl (.inl rfl)) (pss_one (ps_if (PW.pt (pw_and (pt_truth (pe_op op_and (pv 3) (pv 2)) (fun _ => rfl)) (pw_and1 (pt_truth (pe_op op_and (pv 3) (pe_un un_inv (pv 2))) (fun _ => rfl))))) (pss_one (ps_ret pe_bl)) pss_nil)))
      (pss_one (ps_ret pe_bl)))), ?_⟩
    have l2 := L.l2
    refine ⟨_, rfl, t, as, ks, rfl, L, fun p H1 hp h1 s1 => ?_⟩
    refine ⟨_, rfl, p, a, ks, ws, rfl, h1, s1 _ _ ha, L.fm, l2, N, fun H2 s2 => ?_⟩
    have s02 := s1.trans s2
    refine ⟨_, rfl, t, as, ks, rfl, L.same s02, fun bl ys H3 hbl LS h3 s3 => ?_⟩
    have s03 := s02.trans s3
    refine ⟨bl, _, rfl, h3, trivial, fun od => ?_⟩
    have hb0 : H bl = none := s02.free hbl
    have s04 : Same H (upd H3 bl (.frz od (.dK (letK ys ks)))) := fun b o e => by rw [upd_ne (ne_of_none e hb0)]; exact s03 _ _ e
    have h4 := upd_same (H := H3) (a := bl) (o := .frz od (.dK (letK ys ks)))
    generalize upd H3 bl (.frz od (.dK (letK ys ks))) = H4 at s04 h4 ⊢
    have ll : (letK ys ks).length = ys.length := by unfold letK; rw [nmD_len]
    refine ⟨bl, od, _, rfl, h4, for_it walk_values (fun j σ H' => (∃ v3 : Option V, σ = [some (.ref t), some (.ref a), some (nV (bo (chP ks ws) ks)), v3]) ∧ H' = H4 ∧ ∀ z ∈ ys.take j, splZ ks ws z = false)
      ⟨⟨_, rfl⟩, rfl, fun z hz => by simp at hz⟩ (fun j σ H' _ ⟨_, z, _⟩ => by rw [z]; exact h4) ?_ ?_⟩
    · rintro j v σ H5 H6 hj ⟨⟨v3, rfl⟩, rfl, hz⟩ ⟨rfl, kk, hkv⟩
      obtain ⟨z, hzj, rfl⟩ := letK_at hkv
      have nxt : splZ ks ws z = false → (∃ v3 : Option V, ([some (.ref t), some (.ref a), some (nV (bo (chP ks ws) ks)), some (nV (bo (lbP z) ks))] : List (Option V)) = [some (.ref t), some (.ref a), some (nV (bo (chP ks ws) ks)), v3]) ∧ H6 = H6 ∧ ∀ z ∈ ys.take (j + 1), splZ ks ws z = false := fun e => by
        refine ⟨⟨_, rfl⟩, rfl, fun y hy => ?_⟩
        rw [take_snoc hzj] at hy
        rcases List.mem_append.mp hy with hy | hy
        · exact hz y hy
        · rw [List.mem_singleton.mp hy]
          exact e
      refine ⟨_, rfl, _, rfl, _, _, rfl, rfl, _, rfl, ?_⟩
      dsimp only
      rw [bandP, bo_and, bo_any']
      refine ite2 (fun h1 => ?_) (fun h1 => ?_)
      · refine ⟨_, rfl, _, rfl, _, rfl, _, _, rfl, rfl, _, rfl, ?_⟩
        rw [bandN, bo_an, bo_any']
        refine ite2 (fun h2 => ?_) (fun h2 => ?_)
        · have e : splZ ks ws z = true := by unfold splZ; rw [h1, h2]; rfl
          have ef : fitP ks ws = false := by
            refine Bool.eq_false_iff.mpr fun q => ?_
            rw [(fit_spl LS).mp q z (List.mem_of_getElem? hzj)] at e
            cases e
          have := k _ s04
          rw [ef] at this
          exact this
        · exact nxt (by unfold splZ; rw [h1, Bool.true_and]; exact Bool.eq_false_iff.mpr h2)
      · exact nxt (by unfold splZ; rw [Bool.eq_false_iff.mpr h1, Bool.false_and])
    · rintro σ H5 ⟨⟨v3, rfl⟩, rfl, hz⟩
      rw [ll, List.take_of_length_le (Nat.le_refl _)] at hz
      have := k _ s04
      rw [(fit_spl LS).mpr hz] at this
      exact this
theorem scWid : FnScope nWid ["layout", "bases"] (defScope sWid) := ⟨rfl, rfl, rfl, by decide +kernel, rfl, by decide +kernel, by decide +kernel⟩
theorem ok_wid {f fD fR fL fW fO : Addr} {fd fdD fdR fdL fdW fdO : FuncData} (F : Fun K "widened" "widened" sWid f fd)
    (GD : FnOk P w K mg base (L2.CX P w) 8 fD fdD ["thing"] spRchL) (kD : PySem.W.keepIn K (.ref fD) = true) (bD : Binds K fdD ["thing"] []) (mD : mg "reached_bits" = some (.ref fD))
    (GR : FnOk P w K mg base CX0 1 fR fdR ["reached", "thing"] spNdR) (FR : Fun K "_need_reached" "_need_reached" sNdR fR fdR) (bR : Binds K fdR ["reached", "thing"] []) (mR : mg "_need_reached" = some (.ref fR))
    (GL : FnOk P w K mg base CX0 1 fL fdL ["layout"] spLetB) (FL : Fun K "letter_bits" "letter_bits" sLetB fL fdL) (bL : Binds K fdL ["layout"] []) (mL : mg "letter_bits" = some (.ref fL))
    (GW : FnOk P w K mg base CX0 1 fW fdW ["reached", "bits"] spWiB) (FW : Fun K "_with_beneath" "_with_beneath" sWiB fW fdW) (bW : Binds K fdW ["reached", "bits"] []) (mW : mg "_with_beneath" = some (.ref fW))
    (GO : FnOk P w K mg base CX0 1 fO fdO ["reached", "bits"] spNof) (FO : Fun K "names_of" "names_of" sNof fO fdO) (bO : Binds K fdO ["reached", "bits"] []) (mO : mg "names_of" = some (.ref fO)) :
    FnOk P w K mg base (L2.CX P w) 9 f fd ["layout", "bases"] spWid := by
  refine F.okX scWid (fun vs H Q E h => ?_) (fun cdv A outer s H vs Q E hr h => ?_)
  · obtain ⟨t, a, as, ks, ws, rfl, _⟩ := h; rfl
  · obtain ⟨t, a, as, ks, ws, rfl, L, ha, N, k⟩ := h
    have nd := scWid.nd
    have hu := hu_of hr
    have hr1 : Room 1 _ := hr.mono (by decide)
    refine ⟨_, (pss_cons (ps_set (i := 2) nd rfl (.inl rfl) (pe_callS GD hr (by rfl) mD kD bD (fun σ => passAt (takes_of rfl rfl rfl rfl) σ) (pa_cons (pv 0) pa_nil)))
      (pss_cons (ps_set (i := 3) nd rfl (.inl rfl) (pe_call GR hr1 (by rfl) mR FR.kp bR .nil pass0 (pa_cons (pv 2) (pa_cons (pv 1) pa_nil))))
      (pss_cons (ps_set (i := 4) nd rfl (.inl rfl) (pe_call GL hr1 (by rfl) mL FL.kp bL .nil pass0 (pa_cons (pv 0) pa_nil)))
      (pss_cons (ps_set (i := 5) nd rfl (.inl rfl) (pe_un un_neg pe_int))
      (pss_cons (ps_while (passes_of rfl) (pt_cmpR op_ne (pv 3) (pv 5) (nomark _)) (pss_cons (ps_set (i := 5) nd rfl (.inl rfl) (pv 3))
      (pss_cons (ps_lock (ps_for (passes_of rfl) rfl (pi_values (pv 4)) (pg_name (i := 6) nd rfl (.inl rfl)) (pss_one (ps_if (pt_truth (pe_op op_and (pv 6) (pv 3)) (fun _ => rfl)) (pss_one (ps_aug (i := 3) nd rfl (.inl rfl) (pv 6) iop_or)) pss_nil))))
      (pss_one (ps_set (i := 3) nd rfl (.inl rfl) (pe_call GW hr1 (by rfl) mW FW.kp bW .nil pass0 (pa_cons (pv 2) (pa_cons (pv 3) pa_nil))))))))
      (pss_one (ps_ret (pe_call GO hr1 (by rfl) mO FO.kp bO .nil pass0 (pa_cons (pv 2) (pa_cons (pv 3) pa_nil)))))))))), ?_⟩
    have l2 := L.l2
    refine ⟨_, rfl, t, as, ks, rfl, L, fun p H1 hp h1 s1 => ?_⟩
    refine ⟨_, rfl, _, rfl, p, a, ks, ws, rfl, h1, s1 _ _ ha, L.fm, l2, N, fun H2 s2 => ?_⟩
    have s02 := s1.trans s2
    refine ⟨_, rfl, t, as, ks, rfl, L.same s02, fun bl ys H3 hbl LS h3 s3 => ?_⟩
    have s03 := s02.trans s3
    have h13 := s3 _ _ (s2 _ _ h1)
    have h33 := h3
    refine ⟨_, rfl, ?_⟩
    refine ⟨fun m σ H' => ∃ (n : Nat) (v6 : Option V) (bf : Int), m = ks.length + 2 - n ∧ n ≤ ks.length + 1 ∧ σ = [some (.ref t), some (.ref a), some (.ref p), some (nV (bo (widN ks ws n) ks)), some (.ref bl), some (.int bf), v6] ∧ (n = 0 → bf = -1) ∧ (∀ i, n = i + 1 → bf = ((bo (widN ks ws i) ks : Nat) : Int)) ∧ Same H3 H',
      ⟨_, 0, _, -1, rfl, by omega, rfl, fun _ => rfl, fun i e => by omega, Same.refl H3⟩, ?_⟩
    rintro m σ H4 ⟨n, v6, bf, rfl, hn, rfl, b0, b1, s4⟩
    refine ⟨_, rfl, _, rfl, rfl, ?_⟩
    refine ⟨_, rfl, ite2 (fun hne => ?_) (fun heq => ?_)⟩
    · have hn2 : n ≤ ks.length := by
        refine Nat.le_of_lt_succ (Nat.lt_of_le_of_ne hn fun e => ?_)
        subst e
        have h1 := b1 ks.length rfl
        have h2 : bo (widN ks ws (ks.length + 1)) ks = bo (widN ks ws ks.length) ks := bo_congr (widP_fix ks ws)
        rw [h2, h1] at hne
        unfold nV at hne
        rw [decide_eq_true rfl] at hne
        cases hne
      refine ⟨_, fun σ' H' z => z, ?_⟩
      have hb4 := s4 _ _ h3
      have hp4 := s4 _ _ h13
      have npb : p ≠ bl := fun e => by rw [e, hb4] at hp4; obtain ⟨⟩ := LS; have := Option.some.inj hp4; injection this with this; have z := congrArg List.length this; rw [← e] at hbl; rw [s2 _ _ h1] at hbl; cases hbl
      refine ⟨_, rfl, ?_⟩
      refine ⟨bl, _, hb4, trivial, fun od => ?_⟩
      have ll : (letK ys ks).length = ys.length := by unfold letK; rw [nmD_len]
      refine ⟨_, rfl, bl, od, _, rfl, upd_same, for_it walk_values (fun j σ H' => (∃ v6 : Option V, σ = [some (.ref t), some (.ref a), some (.ref p), some (nV (bo (letN ks (widN ks ws n) (ys.take j)) ks)), some (.ref bl), some (nV (bo (widN ks ws n) ks)), v6]) ∧ H' = upd H4 bl (.frz od (.dK (letK ys ks))))
        ⟨⟨_, by rw [List.take_zero, letN_nil]; rfl⟩, rfl⟩ (fun j σ H' _ ⟨_, z⟩ => by rw [z]; exact upd_same) ?_ ?_⟩
      · rintro j v σ H5 H6 hj ⟨⟨v6, rfl⟩, rfl⟩ ⟨rfl, kk, hkv⟩
        obtain ⟨z, hzj, rfl⟩ := letK_at hkv
        have nz : z ∉ ys.take j := fun q => by
          obtain ⟨i, hi⟩ := List.getElem?_of_mem q
          have hij : i < j := by
            have := (List.getElem?_eq_some_iff.mp hi).1
            rw [List.length_take] at this
            omega
          rw [List.getElem?_take, if_pos hij] at hi
          have := (List.getElem?_inj (List.getElem?_eq_some_iff.mp hi).1 LS.nd).mp (hi.trans hzj.symm)
          omega
        obtain ⟨t1, t2⟩ := letN_step (ks := ks) (q := widN ks ws n) nz
        rw [← take_snoc hzj] at t1 t2
        refine ⟨_, rfl, _, rfl, _, _, rfl, rfl, _, rfl, ?_⟩
        dsimp only
        rw [bandP, bo_and, bo_any']
        refine ite2 (fun h1 => ?_) (fun h1 => ?_)
        · refine ⟨_, rfl, _, rfl, _, _, rfl, rfl, ⟨some (nV (bo (lbP z) ks)), ?_⟩, rfl⟩
          dsimp only
          rw [borP, bo_or, t1 h1]
          rfl
        · refine ⟨⟨some (nV (bo (lbP z) ks)), ?_⟩, rfl⟩
          rw [← t2 (Bool.eq_false_iff.mpr h1)]
          rfl
      · rintro σ H5 ⟨⟨v6, rfl⟩, rfl⟩
        rw [ll, List.take_of_length_le (Nat.le_refl _), letN_all LS]
        have sb : Same H4 (upd (upd H4 bl (.frz od (.dK (letK ys ks)))) bl (.dK (letK ys ks))) := fun b o e => by
          by_cases hb : b = bl
          · subst hb
            rw [upd_same, ← e, hb4]
          · rw [upd_ne hb, upd_ne hb]
            exact e
        refine ⟨upd_same, _, rfl, _, rfl, p, ks, letC ks (widN ks ws n), rfl, sb _ _ hp4, L.fm, l2, fun H7 s7 => ?_⟩
        refine ⟨ks.length + 2 - (n + 1), by omega, n + 1, _, _, rfl, by omega, rfl, fun e => by omega, fun i e => ?_, (s4.trans sb).trans s7⟩
        obtain rfl : n = i := by omega
        rfl
    · have heq : bo (widN ks ws n) ks = bf := by
        refine Classical.byContradiction fun q => heq ?_
        rw [decide_eq_false]
        · rfl
        · intro z
          unfold nV at z
          injection z with z
          exact q z
      have hn0 : n ≠ 0 := fun e => by
        have := b0 e
        omega
      obtain ⟨i, rfl⟩ : ∃ i, n = i + 1 := ⟨n - 1, by omega⟩
      have h2 := b1 i rfl
      have h3' : bo (widN ks ws (i + 1)) ks = bo (widN ks ws i) ks := by omega
      have hs : ∀ o ∈ ks, widN ks ws (i + 1) o = widN ks ws i o := fun o ho => by
        obtain ⟨j, hj⟩ := List.getElem?_of_mem ho
        rw [← bo_at (p := widN ks ws (i + 1)) hj, h3', bo_at hj]
      have hw : bo (widN ks ws (i + 1)) ks = bo (widP ks ws) ks := bo_congr fun o ho => (hs o ho).trans (widN_end hs o ho)
      rw [hw]
      refine ⟨_, rfl, _, rfl, p, rks ks, bo (widP ks ws) ks, rfl, s4 _ _ h13, by rw [rks_len]; exact l2, fun r H5 hr5 h5 s5 => ?_⟩
      rw [rks_nm, nofA_bo] at h5
      exact k r H5 ((s03.trans s4).free hr5) h5 ((s03.trans s4).trans s5)
end
end Cp

set_option Elab.async false
set_option linter.all false
set_option maxRecDepth 100000
/-! ### contents, dicts of parts; the sources beneath; what a part is made of now -/
namespace Cp
open PySem L2 PyProof.Rows
inductive Ct
  | src (n : Int)
  | made (l : List Int)
def CtAt (H : Hp) (v : V) : Ct → Prop
  | .src n => v = .int n
  | .made l => ∃ t, v = .ref t ∧ H t = some (.tup (l.map V.int))
theorem CtAt.same {H H' : Hp} {v : V} {c : Ct} (h : CtAt H v c) (s : Same H H') : CtAt H' v c := by
  cases c with
  | src n => exact h
  | made l =>
    obtain ⟨t, e, z⟩ := h
    exact ⟨t, e, s _ _ z⟩
theorem CtAt.tk {H H' : Hp} {v : V} {c : Ct} (h : CtAt H v c) (s : TK H H') : CtAt H' v c := by
  cases c with
  | src n => exact h
  | made l =>
    obtain ⟨t, e, z⟩ := h
    exact ⟨t, e, s _ _ z⟩
/-- at p: a dict from names to contents -/
def HeldAt (H : Hp) (p : Addr) (n : Nat) (f : Str → Option Ct) : Prop := ∃ kvs : List (Key × V), H p = some (.dK kvs) ∧ kvs.length ≤ n ∧ ∀ x, (f x = none ∧ valV kvs (kx x) = none) ∨ ∃ c v, f x = some c ∧ valV kvs (kx x) = some v ∧ CtAt H v c
theorem HeldAt.same {H H' : Hp} {p : Addr} {n : Nat} {f : Str → Option Ct} (h : HeldAt H p n f) (s : Same H H') : HeldAt H' p n f := by
  obtain ⟨kvs, e, l, a⟩ := h
  refine ⟨kvs, s _ _ e, l, fun x => ?_⟩
  rcases a x with z | ⟨c, v, z1, z2, z3⟩
  · exact .inl z
  · exact .inr ⟨c, v, z1, z2, z3.same s⟩
def heldPut (f : Str → Option Ct) (x : Str) (c : Ct) : Str → Option Ct := fun y => if y = x then some c else f y
theorem kx_inj {x y : Str} : (kx x = kx y) ↔ x = y := ⟨fun h => Sum.inr.inj h, fun h => h ▸ rfl⟩
theorem HeldAt.put {H : Hp} {p : Addr} {kvs : List (Key × V)} {n : Nat} {f : Str → Option Ct} {x : Str} {c : Ct} {v : V} (e : H p = some (.dK kvs)) (l : kvs.length ≤ n) (a : ∀ x, (f x = none ∧ valV kvs (kx x) = none) ∨ ∃ c v, f x = some c ∧ valV kvs (kx x) = some v ∧ CtAt H v c) (hv : CtAt H v c) :
    HeldAt (upd H p (.dK (putK kvs (kx x) v))) p (n + 1) (heldPut f x c) := by
  have tk : TK H (upd H p (.dK (putK kvs (kx x) v))) := tk_dk e
  refine ⟨_, upd_same, Nat.le_trans (length_putK _ _ _) (by omega), fun y => ?_⟩
  by_cases h : y = x
  · subst h
    exact .inr ⟨c, v, if_pos rfl, by rw [valV_put, if_pos rfl], hv.tk tk⟩
  · have h' : ¬ kx y = kx x := fun z => h (kx_inj.mp z)
    rw [show heldPut f x c y = f y from if_neg h, valV_put, if_neg h']
    rcases a y with z | ⟨c', v', z1, z2, z3⟩
    · exact .inl z
    · exact .inr ⟨c', v', z1, z2, z3.tk tk⟩
/-- at p: the names beneath each name -/
def UndP (H : Hp) (p : Addr) (ks : List Kd) : Prop := ∃ kvs : List (Key × V), H p = some (.dK kvs) ∧ ∀ x ys, look? (undAll ks ks []) x = some ys → ∃ q, valV kvs (kx x) = some (.ref q) ∧ H q = some (.lst (ys.map V.str))
theorem UndP.same {H H' : Hp} {p : Addr} {ks : List Kd} (h : UndP H p ks) (s : Same H H') : UndP H' p ks := by
  obtain ⟨kvs, e, a⟩ := h
  exact ⟨kvs, s _ _ e, fun x ys z => by
    obtain ⟨q, q1, q2⟩ := a x ys z
    exact ⟨q, q1, s _ _ q2⟩⟩
theorem UndAt.p {H0 H : Hp} {p : Addr} {ks : List Kd} (h : UndAt H0 H p (undAll ks ks [])) : UndP H p ks := by
  obtain ⟨kvs, e, r⟩ := h
  exact ⟨kvs, e, fun x ys z => und_look r z⟩
theorem look_of {ks : List Kd} {x : Str} {ys : List Str} (h : look? (undAll ks ks []) x = some ys) : look (undAll ks ks []) x = ys := by
  unfold look
  rw [h]
  rfl
theorem look_there {ks : List Kd} {k : Kd} (h : k ∈ ks) : look? (undAll ks ks []) k.nm = some (look (undAll ks ks []) k.nm) := by
  have : k.nm ∈ (undAll ks ks []).map (·.1) := by
    rw [undAll_names]
    exact List.mem_map.mpr ⟨k, h, rfl⟩
  obtain ⟨ys, e⟩ := look?_some this
  rw [look_of e]
  exact e
def isRoot (ks : List Kd) (x : Str) (k : Kd) : Bool := decide (k.nm ∈ look (undAll ks ks []) x) && k.bs.isEmpty
/-- the sources beneath a name, in order -/
def rootsL (ks : List Kd) (x : Str) : List Str := (ks.filter (isRoot ks x)).map Kd.nm
theorem eqvd_nil (l : List Str) : PyData.eqv (.tuple (l.map PyData.str)) (.tuple []) = l.isEmpty := by
  cases l with
  | nil => rfl
  | cons a r => rfl
theorem okS_str {x : Str} (h : okS x = true) : (PyData.str x).canLay0 = true := by
  have := okS_codes h
  show x.cps.all (· < 0x110000) = true
  unfold okS at h
  rw [← Array.all_toList]
  rw [List.all_eq_true] at h ⊢
  intro c hc
  have := h c hc
  unfold okC at this
  simp only [Bool.and_eq_true, decide_eq_true_eq] at this ⊢
  omega
theorem lay_strs : ∀ l : List Str, (∀ x ∈ l, okN x = true) → PyData.canLayAll0 (l.map PyData.str) = true
  | [], _ => rfl
  | a :: r, h => by
    show ((PyData.str a).canLay0 && PyData.canLayAll0 (r.map PyData.str)) = true
    rw [okS_str (okN_S (h a (List.mem_cons_self ..))).1, lay_strs r fun x hx => h x (List.mem_cons_of_mem _ hx)]
    rfl
theorem shp_strs (l : List Str) (h : ∀ x ∈ l, okN x = true) : SeqAt.shaped (.tuple (l.map PyData.str)) = true := by
  show (PyData.canLayAll0 (l.map PyData.str) && decide ((PyData.tuple (l.map PyData.str)).depth ≤ 64)) = true
  rw [lay_strs l h, Bool.true_and]
  simp [PyData.depth, dep_strs]
theorem lay_ints : ∀ l : List Int, PyData.canLayAll0 (l.map PyData.int) = true
  | [] => rfl
  | a :: r => by
    show ((PyData.int a).canLay0 && PyData.canLayAll0 (r.map PyData.int)) = true
    rw [lay_ints r]
    rfl
theorem depI : ∀ l : List Int, PyData.depthAll (l.map PyData.int) = 0
  | [] => rfl
  | a :: r => by
    show max 0 (PyData.depthAll (r.map PyData.int)) = 0
    rw [depI r]
    rfl
theorem shp_ints (l : List Int) : SeqAt.shaped (.tuple (l.map PyData.int)) = true := by
  show (PyData.canLayAll0 (l.map PyData.int) && decide ((PyData.tuple (l.map PyData.int)).depth ≤ 64)) = true
  rw [lay_ints l, Bool.true_and]
  simp [PyData.depth, depI]
end Cp

set_option Elab.async false
set_option linter.all false
set_option maxRecDepth 100000
set_option maxHeartbeats 2000000
/-! ### a mark without a sign; layouts with one other mark; data that can be compared -/
namespace Cp
open PySem PySem.Spec L2 PyProof.Rows
theorem asc_pw : ∀ {l : List Nat}, asc l = true ↔ l.Pairwise (· < ·)
  | [] => ⟨fun _ => .nil, fun _ => rfl⟩
  | [a] => ⟨fun _ => List.pairwise_singleton _ _, fun _ => rfl⟩
  | a :: b :: r => by
    have ih := asc_pw (l := b :: r)
    show (decide (a < b) && asc (b :: r)) = true ↔ _
    rw [Bool.and_eq_true, decide_eq_true_eq, ih]
    constructor
    · rintro ⟨h1, h2⟩
      refine List.pairwise_cons.mpr ⟨fun x hx => ?_, h2⟩
      rcases List.mem_cons.mp hx with rfl | hx
      · exact h1
      · exact Nat.lt_trans h1 ((List.pairwise_cons.mp h2).1 x hx)
    · intro h
      obtain ⟨h1, h2⟩ := List.pairwise_cons.mp h
      exact ⟨h1 b List.mem_cons_self, h2⟩
/-- a text without its i-th sign -/
def wo (x : Str) (i : Nat) : Str := ⟨(x.cps.toList.take i ++ x.cps.toList.drop (i + 1)).toArray⟩
theorem wo_codes (x : Str) (i : Nat) : (wo x i).cps.toList = x.cps.toList.take i ++ x.cps.toList.drop (i + 1) := rfl
theorem wo_sub (x : Str) (i : Nat) : (wo x i).cps.toList.Sublist x.cps.toList := by
  rw [wo_codes]
  conv => rhs; rw [← List.take_append_drop i x.cps.toList]
  refine List.Sublist.append_left ?_ _
  rw [← List.drop_drop]
  exact List.drop_sublist _ _
theorem wo_okM {x : Str} (h : okM x = true) (i : Nat) : okM (wo x i) = true := by
  unfold okM at h ⊢
  rw [Bool.and_eq_true] at h ⊢
  refine ⟨?_, asc_pw.mpr ((asc_pw.mp h.2).sublist (wo_sub x i))⟩
  unfold okS at h ⊢
  rw [List.all_eq_true] at h ⊢
  exact fun c hc => h.1 c ((wo_sub x i).subset hc)
theorem wo_not {x : Str} (h : okM x = true) {i : Nat} {c : Nat} (hc : x.cps.toList[i]? = some c) : c ∉ (wo x i).cps.toList := by
  unfold okM at h
  rw [Bool.and_eq_true] at h
  have pw := asc_pw.mp h.2
  rw [wo_codes, List.mem_append]
  rintro (hm | hm)
  · obtain ⟨j, hj⟩ := List.getElem?_of_mem hm
    have hji : j < i := by
      have := (List.getElem?_eq_some_iff.mp hj).1
      rw [List.length_take] at this
      omega
    rw [List.getElem?_take, if_pos hji] at hj
    obtain ⟨h1, e1⟩ := List.getElem?_eq_some_iff.mp hj
    obtain ⟨h2, e2⟩ := List.getElem?_eq_some_iff.mp hc
    have := List.pairwise_iff_getElem.mp pw j i h1 h2 hji
    omega
  · obtain ⟨j, hj⟩ := List.getElem?_of_mem hm
    rw [List.getElem?_drop] at hj
    obtain ⟨h1, e1⟩ := List.getElem?_eq_some_iff.mp hj
    obtain ⟨h2, e2⟩ := List.getElem?_eq_some_iff.mp hc
    have := List.pairwise_iff_getElem.mp pw i (i + 1 + j) h2 h1 (by omega)
    omega
theorem cut_wo {x : Str} {i : Nat} (h : i < x.length) : cutS x none (some ((i : Nat) : Int)) ++ cutS x (some ((i : Nat) : Int) |>.map (· + 1)) none = wo x i := by
  refine str_ext ?_
  rw [codes_app, wo_codes]
  have hl : x.cps.toList.length = x.length := Array.length_toList
  unfold cutS
  simp only [Option.map_some]
  rw [show ((i : Nat) : Int) + 1 = ((i + 1 : Nat) : Int) by omega, HT.sIx_none, HT.sIx_nat, HT.sIx_nat, HT.sIx_none, List.drop_zero, Nat.sub_zero]
  show (x.cps.toList.take (min i x.length)) ++ ((x.cps.toList.drop (min (i + 1) x.length)).take (x.length - min (i + 1) x.length)) = _
  rw [Nat.min_eq_left (by omega), Nat.min_eq_left (by omega), List.take_of_length_le (l := x.cps.toList.drop (i + 1)) (by rw [List.length_drop, hl]; omega)]
theorem set_mkd {ks : List Kd} (F : Frm ks) {n : Nat} {kd : Kd} (hn : ks[n]? = some kd) {m : Str} (hm : okM m = true) : Mkd ks (ks.set n (setM kd m)) := by
  refine ⟨List.length_set, fun j k k' h1 h2 => ?_⟩
  by_cases e : n = j
  · subst e
    rw [List.getElem?_set_self (List.getElem?_eq_some_iff.mp hn).1] at h2
    rw [hn] at h1
    cases h1
    obtain rfl : setM kd m = k' := Option.some.inj h2
    exact ⟨rfl, hm⟩
  · rw [List.getElem?_set_ne e, h1] at h2
    cases h2
    exact ⟨rfl, (F.ok k (List.mem_of_getElem? h1)).mr⟩
theorem RowsAt.set {H : Hp} {as : List Addr} {ks : List Kd} (R : RowsAt H as ks) {n : Nat} {p : Addr} {k : Kd} (r : RowAt H p k) : RowsAt H (as.set n p) (ks.set n k) := by
  refine ⟨by rw [List.length_set, List.length_set]; exact R.1, fun i q k' h1 h2 => ?_⟩
  by_cases e : n = i
  · subst e
    have hl := (List.getElem?_eq_some_iff.mp h1).1
    rw [List.length_set] at hl
    rw [List.getElem?_set_self hl] at h1
    rw [List.getElem?_set_self (by rw [← R.1]; exact hl)] at h2
    cases h1
    cases h2
    exact r
  · rw [List.getElem?_set_ne e] at h1 h2
    exact R.2 i q k' h1 h2
theorem lay_all {ds : List PyData} (h : ∀ d ∈ ds, d.canLay0 = true) : PyData.canLayAll0 ds = true := by
  induction ds with
  | nil => rfl
  | cons d r ih =>
    show (d.canLay0 && PyData.canLayAll0 r) = true
    rw [h d List.mem_cons_self, ih fun x hx => h x (List.mem_cons_of_mem _ hx)]
    rfl
theorem dep_all {ds : List PyData} {n : Nat} (h : ∀ d ∈ ds, d.depth ≤ n) : PyData.depthAll ds ≤ n := by
  induction ds with
  | nil => exact Nat.zero_le _
  | cons d r ih =>
    have h1 := h d List.mem_cons_self
    have h2 := ih fun x hx => h x (List.mem_cons_of_mem _ hx)
    simp only [PyData.depthAll]
    omega
theorem lst_shaped {ds : List PyData} (h : ∀ d ∈ ds, d.canLay0 = true ∧ d.depth ≤ 60) : SeqAt.shaped (.list ds) = true := by
  have h1 := lay_all fun d hd => (h d hd).1
  have h2 := dep_all fun d hd => (h d hd).2
  show (PyData.canLayAll0 ds && decide ((PyData.list ds).depth ≤ 64)) = true
  rw [h1, Bool.true_and, decide_eq_true_eq]
  simp only [PyData.depth]
  omega
theorem eqv_nilD (ds : List PyData) : PyData.eqv (.list ds) (.list []) = ds.isEmpty := by
  cases ds with
  | nil => simp [PyData.eqv, PyData.eqvAll]
  | cons a r => simp [PyData.eqv, PyData.eqvAll]
theorem strs_dp {K : PySem.W.Frag} {H : Hp} : ∀ l : List Str, DpAll K H (l.map V.str) (l.map PyData.str)
  | [] => .nil
  | a :: r => .cons (.str a) (strs_dp r)
theorem row_dp {K : PySem.W.Frag} {H : Hp} {p : Addr} {k : Kd} (r : RowAt H p k) : Dp K H (.ref p) (kdData k) := by
  obtain ⟨b, h1, h2⟩ := r
  exact .tup (SqT.of h1) (.cons (.str _) (.cons (.int _) (.cons (.tup (SqT.of h2) (strs_dp _)) (.cons (.str _) (.cons (.str _) .nil)))))
theorem dep_strs0 : ∀ l : List Str, PyData.depthAll (l.map PyData.str) ≤ 1
  | [] => Nat.zero_le _
  | a :: r => by
    have := dep_strs0 r
    simp only [List.map_cons, PyData.depthAll, PyData.depth]
    omega
theorem kd_lay {k : Kd} (o : OkK k) : (kdData k).canLay0 = true ∧ (kdData k).depth ≤ 10 := by
  constructor
  · show PyData.canLayAll0 [.str k.nm, .int k.ed, .tuple (k.bs.map PyData.str), .str (ltr k.lt), .str k.mrk] = true
    refine lay_all fun d hd => ?_
    simp only [List.mem_cons, List.not_mem_nil, or_false] at hd
    rcases hd with rfl | rfl | rfl | rfl | rfl
    · exact okS_str (okN_S o.nm).1
    · rfl
    · exact lay_strs _ o.bo
    · exact okS_str (ltr_okS o.lt)
    · exact okS_str (okM_S o.mr)
  · have h := dep_strs0 k.bs
    show (PyData.tuple [.str k.nm, .int k.ed, .tuple (k.bs.map PyData.str), .str (ltr k.lt), .str k.mrk]).depth ≤ 10
    simp only [PyData.depth, PyData.depthAll]
    omega
theorem cutV_take (as : List Addr) {n : Nat} (h : n < as.length) : cutV (as.map V.ref) none (some ((n : Nat) : Int)) = (as.take n).map V.ref := by
  unfold cutV
  rw [HT.sIx_none, HT.sIx_nat, List.drop_zero, Nat.sub_zero, List.length_map, Nat.min_eq_left (by omega), List.map_take]
theorem cutV_drop (as : List Addr) {n : Nat} (h : n < as.length) : cutV (as.map V.ref) (some (((n : Nat) : Int) + 1)) none = (as.drop (n + 1)).map V.ref := by
  unfold cutV
  rw [show ((n : Nat) : Int) + 1 = ((n + 1 : Nat) : Int) by omega, HT.sIx_nat, HT.sIx_none, List.length_map, Nat.min_eq_left (by omega), List.map_drop, List.take_of_length_le (by rw [List.length_drop, List.length_map]; omega)]
end Cp

set_option Elab.async false
set_option linter.all false
set_option maxRecDepth 100000
set_option maxHeartbeats 2000000
/-! ### _law_shared, _law_plan, _law_some -/
namespace Cp
open PySem PySem.Spec L2 PyProof.Rows
abbrev sShd : Stmt := top 39
abbrev sPlan : Stmt := top 40
abbrev sSom : Stmt := top 41
abbrev nShd : List Str := ["draw", "rows", "start", "found", "at", "kind", "turn", "far"]
abbrev nPlan : List Str := ["draw", "most", "rows"]
abbrev nSom : List Str := ["draw", "plan", "most", "left", "found", "turn", "at", "kind"]
theorem frm_like {ks ks' : List Kd} (F : Frm ks) (hl : ks'.length = ks.length) (h : ∀ (j : Nat) (k k' : Kd), ks[j]? = some k → ks'[j]? = some k' → k'.nm = k.nm ∧ k'.ed = k.ed ∧ k'.bs = k.bs ∧ k'.lt < 26 ∧ okM k'.mrk = true) : Frm ks' := by
  have at' : ∀ {j : Nat} {k' : Kd}, ks'[j]? = some k' → ∃ k, ks[j]? = some k ∧ k'.nm = k.nm ∧ k'.ed = k.ed ∧ k'.bs = k.bs ∧ k'.lt < 26 ∧ okM k'.mrk = true := fun {j k'} (e : ks'[j]? = some k') => by
    have hj : j < ks.length := by rw [← hl]; exact (List.getElem?_eq_some_iff.mp e).1
    exact ⟨_, List.getElem?_eq_getElem hj, h j _ k' (List.getElem?_eq_getElem hj) e⟩
  have nms : ks'.map Kd.nm = ks.map Kd.nm := by
    refine List.ext_getElem? fun j => ?_
    rw [List.getElem?_map, List.getElem?_map]
    cases e : ks'[j]? with
    | none => rw [List.getElem?_eq_none (by rw [← hl]; exact List.getElem?_eq_none_iff.mp e)]
    | some k' =>
      obtain ⟨k, h1, h2, _⟩ := at' e
      rw [h1]
      exact congrArg some h2
  refine ⟨fun k' hk => ?_, by rw [nms]; exact F.nd, fun i j a b hij h1 h2 => ?_, fun i k' e b hb => ?_⟩
  · obtain ⟨j, hj⟩ := List.getElem?_of_mem hk
    obtain ⟨k, h0, e1, e2, e3, e4, e5⟩ := at' hj
    have O := F.ok k (List.mem_of_getElem? h0)
    exact ⟨by rw [e1]; exact O.nm, by rw [e2]; exact O.e1, by rw [e2]; exact O.e2, by rw [e3]; exact O.bl, by rw [e3]; exact O.bn, by rw [e3]; exact O.bo, e4, e5⟩
  · obtain ⟨a0, ha, _, ea, _⟩ := at' h1
    obtain ⟨b0, hb, _, eb, _⟩ := at' h2
    rw [ea, eb]
    exact F.mono i j a0 b0 hij ha hb
  · obtain ⟨k, h0, _, _, e3, _⟩ := at' e
    rw [e3] at hb
    have := F.bas i k h0 b hb
    rw [List.map_take, nms, ← List.map_take]
    exact this
theorem ixN_natU {n j : Nat} (hj : j < n) : ixN n (j : Int) = some j := by
  unfold ixN
  rw [if_pos (by omega), if_pos (by omega)]
  simp
theorem cut_perm {α : Type} {ls fs : List α} {n : Nat} {x : α} (h : ls[n]? = some x) : ((fs ++ [x]) ++ (ls.take n ++ ls.drop (n + 1))).Perm (fs ++ ls) := by
  have e : ls = ls.take n ++ x :: ls.drop (n + 1) := by
    obtain ⟨hl, hx⟩ := List.getElem?_eq_some_iff.mp h
    rw [← hx, List.getElem_cons_drop, List.take_append_drop]
  rw [List.append_assoc]
  refine List.Perm.append_left fs ?_
  conv => rhs; rw [e]
  exact (List.perm_middle (a := x) (l₁ := ls.take n) (l₂ := ls.drop (n + 1))).symm
theorem strs_shaped {l : List Str} (h : ∀ x ∈ l, okS x = true) : SeqAt.shaped (.list (l.map PyData.str)) = true := lst_shaped fun d hd => by
  obtain ⟨x, hx, rfl⟩ := List.mem_map.mp hd
  exact ⟨okS_str (h x hx), by simp [PyData.depth]⟩
theorem isE_map {α β : Type} (f : α → β) (l : List α) : (l.map f).isEmpty = l.isEmpty := by cases l <;> rfl
/-- the letters of the first j from a number on, without marks -/
def shK1 (s : Int) (j : Nat) (k : Kd) : Kd := { k with lt := ((s + j) % 26).toNat, mrk := "" }
def shK (s : Int) (ks : List Kd) : List Kd := ks.mapIdx (shK1 s)
theorem shK_at {s : Int} {ks : List Kd} {j : Nat} {k : Kd} (h : ks[j]? = some k) : (shK s ks)[j]? = some (shK1 s j k) := by
  unfold shK
  rw [List.getElem?_mapIdx, h]
  rfl
theorem shK_len {s : Int} {ks : List Kd} : (shK s ks).length = ks.length := by unfold shK; rw [List.length_mapIdx]
theorem okM_nil : okM "" = true := by decide +kernel
theorem shK_frm {s : Int} {ks : List Kd} (F : Frm ks) : Frm (shK s ks) := frm_like F shK_len fun j k k' h1 h2 => by
  rw [shK_at h1] at h2
  cases h2
  exact ⟨rfl, rfl, rfl, (by show ((s + j) % 26).toNat < 26; omega), okM_nil⟩
theorem set_frm {ks : List Kd} (F : Frm ks) {n m : Nat} {a b : Kd} (ha : ks[n]? = some a) (hb : ks[m]? = some b) : Frm (ks.set n { a with lt := b.lt, mrk := "" }) := frm_like F List.length_set fun j k k' h1 h2 => by
  by_cases e : n = j
  · subst e
    have hl := (List.getElem?_eq_some_iff.mp h1).1
    rw [List.getElem?_set_self hl] at h2
    rw [ha] at h1
    cases h1
    cases h2
    exact ⟨rfl, rfl, rfl, (F.ok b (List.mem_of_getElem? hb)).lt, okM_nil⟩
  · rw [List.getElem?_set_ne e, h1] at h2
    cases h2
    exact ⟨rfl, rfl, rfl, (F.ok k (List.mem_of_getElem? h1)).lt, (F.ok k (List.mem_of_getElem? h1)).mr⟩
def spShd : Sp := fun vs H Q _ => ∃ (d g a : Addr) (as : List Addr) (ks : List Kd), vs = [.ref d, .ref a] ∧ Drw H d g ∧ H a = some (.lst (as.map V.ref)) ∧ a ≠ d ∧ a ≠ g ∧ RowsAt H as ks ∧ Frm ks ∧ 1 ≤ ks.length ∧ ks.length ≤ 24 ∧
  ∀ (l : Addr) (as' : List Addr) (ks' : List Kd) (H' : Hp), Frm ks' → ks'.length = ks.length → H l = none → H' l = some (.lst (as'.map V.ref)) → RowsAt H' as' ks' → Ev d g H H' → Q (.ref l) H'
def spPlan : Sp := fun vs H Q _ => ∃ (d g : Addr) (n : Int), vs = [.ref d, .int n] ∧ Drw H d g ∧ 0 < n ∧ n ≤ 24 ∧
  ∀ (t : Addr) (as : List Addr) (ks : List Kd) (H' : Hp), H t = none → LayAt H' t as ks → Ev d g H H' → Q (.ref t) H'
/-- some different names of a layout -/
def spSom : Sp := fun vs H Q _ => ∃ (d g t : Addr) (as : List Addr) (ks : List Kd) (n : Nat), vs = [.ref d, .ref t, .int (n : Int)] ∧ Drw H d g ∧ LayAt H t as ks ∧ n ≤ 6 ∧
  ∀ (r : Addr) (ws : List Str) (H' : Hp), ws.Nodup → (∀ x ∈ ws, ∃ k ∈ ks, k.nm = x) → ws.length ≤ n → H r = none → H' r = some (.tup (ws.map V.str)) → Ev d g H H' → Q (.ref r) H'
section
variable {P : Program} {w : World} {K : PySem.W.Frag} {mg : Str → Option Value} {base : Heap}
theorem scShd : FnScope nShd ["draw", "rows"] (defScope sShd) := ⟨rfl, rfl, rfl, by decide +kernel, rfl, by decide +kernel, by decide +kernel⟩
theorem ok_shd {f fN fS : Addr} {fd fdN fdS : FuncData} (F : Fun K "_law_shared" "_law_shared" sShd f fd) (T : TB mg)
    (GN : FnOk P w K mg base CX0 1 fN fdN ["draw", "below"] spNext) (FN : Fun K "_law_next" "_law_next" sNext fN fdN) (bN : Binds K fdN ["draw", "below"] []) (mN : mg "_law_next" = some (.ref fN))
    (GS : FnOk P w K mg base CX0 1 fS fdS ["at"] spSign) (FS : Fun K "_law_sign" "_law_sign" sSign fS fdS) (bS : Binds K fdS ["at"] []) (mS : mg "_law_sign" = some (.ref fS)) :
    FnOk P w K mg base CX0 2 f fd ["draw", "rows"] spShd := by
  refine F.ok scShd (fun vs H Q E h => ?_) (fun cdv A outer s H vs Q E hr h => ?_)
  · obtain ⟨d, g, a, as, ks, rfl, _⟩ := h; rfl
  · obtain ⟨d, g, a, as, ks, rfl, D, ha, nad, nag, R, Fm, l1, l2, k⟩ := h
    have nd := scShd.nd
    have hu := hu_of hr
    have hr1 : Room 1 _ := hr
    refine ⟨_, (pss_cons (ps_par (i := 2) (j := 3) (by rfl) nd rfl rfl (by decide) rfl rfl (pa_cons (pe_call GN hr1 (by rfl) mN FN.kp bN .nil pass0 (pa_cons (pv 0) (pa_cons pe_int pa_nil))) (pa_cons (pe_lst pa_nil) pa_nil)) (by rfl))
      (pss_cons (ps_for PassesOwn.never rfl (pi_enum (by rfl) T.enum (pa_cons (pv 1) pa_nil)) (pg_tup (by rfl) (pgs_cons (pg_name (i := 4) nd rfl (.inl rfl)) (pgs_cons (pg_name (i := 5) nd rfl (.inl rfl)) pgs_nil))) (pss_one (ps_expr (pe_bm PySem.F.plainAttrs_list PySem.F.slot_list_append PySem.F.type_list_append mt_append (pv 3) (pa_cons (pe_op op_catT (pe_slice sl_tup (pv 5) po_none (po_some pe_int)) (pe_tup (pa_cons (pe_call GS hr1 (by rfl) mS FS.kp bS .nil pass0 (pa_cons (pe_op op_add (pv 2) (pv 4)) pa_nil)) (pa_cons pe_str pa_nil)))) pa_nil)))))
      (pss_cons (ps_for PassesOwn.never rfl (pi_range1 rfl T.range (pa_cons (pe_call GN hr1 (by rfl) mN FN.kp bN .nil pass0 (pa_cons (pv 0) (pa_cons pe_int pa_nil))) pa_nil)) (pg_name (i := 6) nd rfl (.inl rfl)) (pss_cons (ps_par (i := 4) (j := 7) (by rfl) nd rfl rfl (by decide) rfl rfl (pa_cons (pe_call GN hr1 (by rfl) mN FN.kp bN .nil pass0 (pa_cons (pv 0) (pa_cons (pe_callB call_len_seq (by rfl) T.len (PySem.boot_len) (pa_cons (pv 3) pa_nil)) pa_nil))) (pa_cons (pe_call GN hr1 (by rfl) mN FN.kp bN .nil pass0 (pa_cons (pv 0) (pa_cons (pe_callB call_len_seq (by rfl) T.len (PySem.boot_len) (pa_cons (pv 3) pa_nil)) pa_nil))) pa_nil)) (by rfl))
      (pss_one (ps_asg (pe_op op_catT (pe_slice sl_tup (pe_ix ix_list (pv 3) (pv 4) (fun _ _ => rfl)) po_none (po_some pe_int)) (pe_tup (pa_cons (pe_ix ix_tup (pe_ix ix_list (pv 3) (pv 7) (fun _ _ => rfl)) pe_int (fun _ _ => rfl)) (pa_cons pe_str pa_nil)))) (pg_sub (pv 3) (pv 4) set_list)))))
      (pss_one (ps_ret (pv 3)))))), ?_⟩
    refine ⟨_, rfl, d, g, 26, rfl, D, by decide, by decide, fun st H1 st0 st1 e1 => ?_⟩
    have h1 := e1.kp _ _ ha nad nag
    have R1 := R.tk (e1.tk D)
    refine ⟨by show 0 ≤ sizeLine; decide, fun q hq => ?_⟩
    refine ⟨_, _, rfl, ?_⟩
    have hq0 : H q = none := e1.free D hq
    have h2 := upd_keep (u := .lst []) h1 hq
    have q2 := upd_same (H := H1) (a := q) (o := .lst [])
    have R2 := R1.tk (tk_new (o := .lst []) hq)
    have e2 := e1.new (o := .lst []) hq
    have nqd : q ≠ d ∧ q ≠ g := ⟨D.ned hq0, D.neg hq0⟩
    generalize upd H1 q (.lst []) = H2 at h2 q2 R2 e2 ⊢
    have naq : a ≠ q := ne_of_none ha hq0
    refine ⟨_, rfl, a, _, rfl, SqL.of h2, for_it (walk_enum (K := K) (a := a) (xs := as.map V.ref)) (fun j σ H' => ∃ (as2 : List Addr) (v4 v5 : Option V), σ = [some (.ref d), some (.ref a), some (.int st), some (.ref q), v4, v5, none, none] ∧ H' q = some (.lst (as2.map V.ref)) ∧ RowsAt H' as2 ((shK st ks).take j) ∧ ∀ b o, H2 b = some o → b ≠ q → H' b = some o)
      ⟨[], _, _, rfl, q2, ⟨by simp, fun i p k h => by simp at h⟩, fun b o e _ => e⟩ (fun j σ H' _ ⟨_, _, _, _, _, _, z⟩ => SqL.of (z _ _ h2 naq)) ?_ ?_⟩
    · rintro j v σ H5 H6 hj ⟨as2, v4, v5, rfl, h5, R5, s5⟩ ⟨tt, y1, y2, rfl, htt, rfl, e1', e2'⟩
      dsimp only at e1' e2'
      obtain rfl : y1 = .int (j : Nat) := (Option.some.inj e1').symm
      obtain ⟨x, hx, rfl⟩ := ref_at e2'
      have hjk : j < ks.length := by
        have := (List.getElem?_eq_some_iff.mp hx).1
        rw [R.1] at this
        exact this
      have hk := List.getElem?_eq_getElem hjk
      generalize ks[j] = kd at hk
      obtain ⟨b, c1, c2⟩ := R2.2 j x kd hx hk
      have tq2 : ∀ {b' xs}, H2 b' = some (.tup xs) → b' ≠ q := fun e z => by rw [z, q2] at e; cases e
      have c15 := upd_keep (u := .tup [.int (j : Nat), .ref x]) (s5 _ _ c1 (tq2 c1)) htt
      have c25 := s5 _ _ c2 (tq2 c2)
      refine ⟨tt, _, rfl, SqT.of upd_same, rfl, _, _, rfl, _, _, rfl, rfl, ?_⟩
      have hq5 := upd_keep (u := .tup [.int (j : Nat), .ref x]) h5 htt
      refine ⟨_, rfl, .inl ⟨rfl, _, SqL.of hq5⟩, ?_⟩
      refine ⟨_, rfl, _, rfl, x, _, rfl, SqT.of c15, by show ¬ (HT.sIx 5 0 none = 0 ∧ HT.sIx 5 5 (some 3) = 5); decide, fun p1 hp1 => ?_⟩
      rw [show cutV [.str kd.nm, .int kd.ed, .ref b, .str (ltr kd.lt), .str kd.mrk] none (some 3) = [.str kd.nm, .int kd.ed, .ref b] from rfl]
      refine ⟨_, rfl, _, rfl, _, _, rfl, rfl, _, rfl, by show 2 ≤ sizeLine; decide, fun p2 hp2 => ?_⟩
      have h1p := upd_keep (u := .tup [.str (ltr ((st + (j : Int)) % 26).toNat), .str ("" : Str)]) (upd_same (H := upd H5 tt (.tup [.int (j : Nat), .ref x])) (a := p1) (o := .tup [.str kd.nm, .int kd.ed, .ref b])) hp2
      refine ⟨p1, p2, _, _, rfl, rfl, SqT.of h1p, SqT.of upd_same, by simp, by show 5 ≤ sizeLine; decide, (fun e => by cases e), fun _ p3 hp3 => ?_⟩
      rw [show ([V.str kd.nm, V.int kd.ed, V.ref b] ++ [V.str (ltr ((st + (j : Int)) % 26).toNat), V.str ("" : Str)]) = [.str kd.nm, .int kd.ed, .ref b, .str (ltr ((st + (j : Int)) % 26).toNat), .str ("" : Str)] from rfl]
      have s9 : Same H5 (upd (upd (upd (upd H5 tt (.tup [.int (j : Nat), .ref x])) p1 (.tup [.str kd.nm, .int kd.ed, .ref b])) p2 (.tup [.str (ltr ((st + (j : Int)) % 26).toNat), .str ("" : Str)])) p3 (.tup [.str kd.nm, .int kd.ed, .ref b, .str (ltr ((st + (j : Int)) % 26).toNat), .str ("" : Str)])) := same_upd (same_upd (same_upd (same_new htt) hp1) hp2) hp3
      have n9 := upd_same (H := upd (upd (upd H5 tt (.tup [.int (j : Nat), .ref x])) p1 (.tup [.str kd.nm, .int kd.ed, .ref b])) p2 (.tup [.str (ltr ((st + (j : Int)) % 26).toNat), .str ("" : Str)])) (a := p3) (o := .tup [.str kd.nm, .int kd.ed, .ref b, .str (ltr ((st + (j : Int)) % 26).toNat), .str ("" : Str)])
      have c29 := s9 _ _ c25
      have hC9 := s9 _ _ h5
      have R9 := R5.tk (tk_same s9)
      generalize upd (upd (upd (upd H5 tt (.tup [.int (j : Nat), .ref x])) p1 (.tup [.str kd.nm, .int kd.ed, .ref b])) p2 (.tup [.str (ltr ((st + (j : Int)) % 26).toNat), .str ("" : Str)])) p3 (.tup [.str kd.nm, .int kd.ed, .ref b, .str (ltr ((st + (j : Int)) % 26).toNat), .str ("" : Str)]) = H9 at s9 n9 c29 hC9 R9 ⊢
      have al : as2.length ≤ j := by
        have := R9.1
        rw [List.length_take] at this
        omega
      have tq : ∀ {b' xs}, H9 b' = some (.tup xs) → b' ≠ q := fun e z => by rw [z, hC9] at e; cases e
      refine ⟨q, _, _, rfl, rfl, hC9, by rw [List.length_map]; exact small1000 (by omega), as2 ++ [p3], _, _, rfl, by rw [List.map_append]; exact upd_same, ?_, fun b o e hb => by rw [upd_ne hb]; exact s9 _ _ (s5 b o e hb)⟩
      rw [take_snoc (shK_at hk)]
      refine RowsAt.snoc (R9.tk fun b' xs e => by rw [upd_ne (tq e)]; exact e) ⟨b, ?_, ?_⟩
      · rw [upd_ne (tq n9)]
        exact n9
      · rw [upd_ne (tq c29)]
        exact c29
    · rintro σ H5 ⟨as2, v4, v5, rfl, h5, R5, s5⟩
      rw [List.length_map, R.1, List.take_of_length_le (by rw [shK_len]; exact Nat.le_refl _)] at R5
      have e5 : Ev d g H H5 := ⟨fun b o e x1 x2 => s5 _ _ (e2.kp _ _ e x1 x2) (ne_of_none e hq0), by
        obtain ⟨m, t, gs, x1, x2, x3⟩ := e2.dr
        exact ⟨m, t, gs, s5 _ _ x1 nqd.1.symm, s5 _ _ x2 nqd.2.symm, x3⟩⟩
      refine ⟨_, rfl, d, g, 4, rfl, e5.dr, by decide, by decide, fun mm H6 m0 m1 e6 => ?_⟩
      have e06 := e5.trans e6
      have h6 := e6.kp _ _ h5 nqd.1 nqd.2
      refine ⟨_, rfl, by omega, by omega, ?_⟩
      refine for_range (lo := 0) (n := _) (fun i σ H' => ∃ (as2 : List Addr) (ks2 : List Kd) (v4 v5 v6 v7 : Option V), σ = [some (.ref d), some (.ref a), some (.int st), some (.ref q), v4, v5, v6, v7] ∧ H' q = some (.lst (as2.map V.ref)) ∧ RowsAt H' as2 ks2 ∧ Frm ks2 ∧ ks2.length = ks.length ∧ Ev d g H H')
        ⟨as2, shK st ks, _, _, _, _, rfl, h6, R5.tk (e6.tk e5.dr), shK_frm Fm, shK_len, e06⟩ ?_ (fun σ H' hM => ?_)
      · rintro i σ H7 hi ⟨as2, ks2, v4, v5, v6, v7, rfl, h7, R7, F7, len7, e7⟩
        have al : as2.length = ks.length := by rw [R7.1, len7]
        refine ⟨_, rfl, _, rfl, q, _, rfl, .inl (SqL.of h7), d, g, _, rfl, e7.dr, by rw [List.length_map]; omega, by rw [List.length_map]; omega, fun at1 H8 a0 a1 e8 => ?_⟩
        have h8 := e8.kp _ _ h7 nqd.1 nqd.2
        refine ⟨_, rfl, _, rfl, q, _, rfl, .inl (SqL.of h8), d, g, _, rfl, e8.dr, by rw [List.length_map]; omega, by rw [List.length_map]; omega, fun fr H9 f0 f1 e9 => ?_⟩
        have h9 := e9.kp _ _ h8 nqd.1 nqd.2
        have e09 := (e7.trans e8).trans e9
        have R9 := (R7.tk (e8.tk e7.dr)).tk (e9.tk e8.dr)
        refine ⟨_, _, rfl, ?_⟩
        rw [List.length_map] at a1 f1
        obtain ⟨n, rfl⟩ : ∃ n : Nat, at1 = (n : Int) := ⟨at1.toNat, by omega⟩
        obtain ⟨m, rfl⟩ : ∃ m : Nat, fr = (m : Int) := ⟨fr.toNat, by omega⟩
        have hn : n < ks2.length := by rw [← R7.1]; omega
        have hm : m < ks2.length := by rw [← R7.1]; omega
        have kn := List.getElem?_eq_getElem hn
        have km := List.getElem?_eq_getElem hm
        generalize ks2[n] = kdn at kn
        generalize ks2[m] = kdm at km
        have an : as2[n]? = some (as2[n]'(by omega)) := List.getElem?_eq_getElem _
        have am : as2[m]? = some (as2[m]'(by omega)) := List.getElem?_eq_getElem _
        generalize as2[n]'(by omega) = xn at an
        generalize as2[m]'(by omega) = xm at am
        obtain ⟨b, c1, c2⟩ := R9.2 n xn kdn an kn
        obtain ⟨bm, cm1, cm2⟩ := R9.2 m xm kdm am km
        have mn : (as2.map V.ref)[n]? = some (.ref xn) := by rw [List.getElem?_map, an]; rfl
        have mm' : (as2.map V.ref)[m]? = some (.ref xm) := by rw [List.getElem?_map, am]; rfl
        refine ⟨_, rfl, _, rfl, q, _, _, _, rfl, rfl, SqL.of h9, atI_nat mn, _, rfl, xn, _, rfl, SqT.of c1, by show ¬ (HT.sIx 5 0 none = 0 ∧ HT.sIx 5 5 (some 3) = 5); decide, fun p1 hp1 => ?_⟩
        rw [show cutV [.str kdn.nm, .int kdn.ed, .ref b, .str (ltr kdn.lt), .str kdn.mrk] none (some 3) = [.str kdn.nm, .int kdn.ed, .ref b] from rfl]
        have h9p := upd_keep (u := .tup [.str kdn.nm, .int kdn.ed, .ref b]) h9 hp1
        have cm1p := upd_keep (u := .tup [.str kdn.nm, .int kdn.ed, .ref b]) cm1 hp1
        refine ⟨_, rfl, _, rfl, q, _, _, _, rfl, rfl, SqL.of h9p, atI_nat mm', xm, _, _, _, rfl, rfl, SqT.of cm1p, rfl, by show 2 ≤ sizeLine; decide, fun p2 hp2 => ?_⟩
        have h1p := upd_keep (u := .tup [.str (ltr kdm.lt), .str ("" : Str)]) (upd_same (H := H9) (a := p1) (o := .tup [.str kdn.nm, .int kdn.ed, .ref b])) hp2
        refine ⟨p1, p2, _, _, rfl, rfl, SqT.of h1p, SqT.of upd_same, by simp, by show 5 ≤ sizeLine; decide, (fun e => by cases e), fun _ p3 hp3 => ?_⟩
        rw [show ([V.str kdn.nm, V.int kdn.ed, V.ref b] ++ [V.str (ltr kdm.lt), V.str ("" : Str)]) = [.str kdn.nm, .int kdn.ed, .ref b, .str (ltr kdm.lt), .str ("" : Str)] from rfl]
        have s19 : Same H9 (upd (upd (upd H9 p1 (.tup [.str kdn.nm, .int kdn.ed, .ref b])) p2 (.tup [.str (ltr kdm.lt), .str ("" : Str)])) p3 (.tup [.str kdn.nm, .int kdn.ed, .ref b, .str (ltr kdm.lt), .str ("" : Str)])) := same_upd (same_upd (same_new hp1) hp2) hp3
        have n9 := upd_same (H := upd (upd H9 p1 (.tup [.str kdn.nm, .int kdn.ed, .ref b])) p2 (.tup [.str (ltr kdm.lt), .str ("" : Str)])) (a := p3) (o := .tup [.str kdn.nm, .int kdn.ed, .ref b, .str (ltr kdm.lt), .str ("" : Str)])
        have c29 := s19 _ _ c2
        have hC9 := s19 _ _ h9
        have R19 := R9.tk (tk_same s19)
        have e19 := e09.same s19
        generalize upd (upd (upd H9 p1 (.tup [.str kdn.nm, .int kdn.ed, .ref b])) p2 (.tup [.str (ltr kdm.lt), .str ("" : Str)])) p3 (.tup [.str kdn.nm, .int kdn.ed, .ref b, .str (ltr kdm.lt), .str ("" : Str)]) = H10 at s19 n9 c29 hC9 R19 e19 ⊢
        have tq : ∀ {b' xs}, H10 b' = some (.tup xs) → b' ≠ q := fun e z => by rw [z, hC9] at e; cases e
        refine ⟨_, rfl, _, rfl, q, _, _, n, rfl, rfl, hC9, ixN_natU (by rw [List.length_map]; omega), as2.set n p3, ks2.set n { kdn with lt := kdm.lt, mrk := "" }, _, _, _, _, rfl, ?_, ?_, set_frm F7 kn km, by rw [List.length_set]; exact len7, ?_⟩
        · rw [upd_same, List.map_set]
        · refine RowsAt.set (R19.tk fun b' xs e => by rw [upd_ne (tq e)]; exact e) ⟨b, ?_, ?_⟩
          · rw [upd_ne (tq n9)]
            exact n9
          · rw [upd_ne (tq c29)]
            exact c29
        · refine ⟨fun b' o e x1 x2 => by rw [upd_ne (ne_of_none e hq0)]; exact e19.kp _ _ e x1 x2, ?_⟩
          obtain ⟨m', t', gs, x1, x2, x3⟩ := e19.dr
          exact ⟨m', t', gs, by rw [upd_ne nqd.1.symm]; exact x1, by rw [upd_ne nqd.2.symm]; exact x2, x3⟩
      · obtain ⟨as2, ks2, v4, v5, v6, v7, rfl, h7, R7, F7, len7, e7⟩ := hM
        exact ⟨_, rfl, k q as2 ks2 _ F7 len7 hq0 h7 R7 e7⟩
theorem scPlan : FnScope nPlan ["draw", "most"] (defScope sPlan) := ⟨rfl, rfl, rfl, by decide +kernel, rfl, by decide +kernel, by decide +kernel⟩
theorem ok_plan {f fN fF fH fM : Addr} {fd fdN fdF fdH fdM : FuncData} (F : Fun K "_law_plan" "_law_plan" sPlan f fd)
    (GN : FnOk P w K mg base CX0 1 fN fdN ["draw", "below"] spNext) (FN : Fun K "_law_next" "_law_next" sNext fN fdN) (bN : Binds K fdN ["draw", "below"] []) (mN : mg "_law_next" = some (.ref fN))
    (GF : FnOk P w K mg base CX0 3 fF fdF ["draw", "most"] spFrame) (FF : Fun K "_law_frame" "_law_frame" sFrame fF fdF) (bF : Binds K fdF ["draw", "most"] []) (mF : mg "_law_frame" = some (.ref fF))
    (GH : FnOk P w K mg base CX0 2 fH fdH ["draw", "rows"] spShd) (FH : Fun K "_law_shared" "_law_shared" sShd fH fdH) (bH : Binds K fdH ["draw", "rows"] []) (mH : mg "_law_shared" = some (.ref fH))
    (GM : FnOk P w K mg base CX0 4 fM fdM ["draw", "rows", "way"] spMarked) (FM : Fun K "_law_marked" "_law_marked" sMarked fM fdM) (bM : Binds K fdM ["draw", "rows", "way"] []) (mM : mg "_law_marked" = some (.ref fM)) :
    FnOk P w K mg base CX0 5 f fd ["draw", "most"] spPlan := by
  refine F.ok scPlan (fun vs H Q E h => ?_) (fun cdv A outer s H vs Q E hr h => ?_)
  · obtain ⟨d, g, n, rfl, _⟩ := h; rfl
  · obtain ⟨d, g, n, rfl, D, n0, n1, k⟩ := h
    have nd := scPlan.nd
    have hr1 : Room 1 _ := hr.mono (by decide)
    have hr2 : Room 2 _ := hr.mono (by decide)
    have hr3 : Room 3 _ := hr.mono (by decide)
    have hr4 : Room 4 _ := hr
    refine ⟨_, (pss_cons (ps_set (i := 2) nd rfl (.inl rfl) (pe_call GF hr3 (by rfl) mF FF.kp bF .nil pass0 (pa_cons (pv 0) (pa_cons (pv 1) pa_nil))))
      (C8.pss_cut (ps_if (pt_cmpR op_eq (pe_call GN hr1 (by rfl) mN FN.kp bN .nil pass0 (pa_cons (pv 0) (pa_cons pe_int pa_nil))) pe_int (nomark _)) (pss_one (ps_set (i := 2) nd rfl (.inl rfl) (pe_call GH hr2 (by rfl) mH FH.kp bH .nil pass0 (pa_cons (pv 0) (pa_cons (pv 2) pa_nil))))) pss_nil)
      (pss_one (ps_ret (pe_call GM hr4 (by rfl) mM FM.kp bM .nil pass0 (pa_cons (pv 0) (pa_cons (pv 2) (pa_cons (pe_call GN hr1 (by rfl) mN FN.kp bN .nil pass0 (pa_cons (pv 0) (pa_cons pe_int pa_nil))) pa_nil)))))))), ?_⟩
    refine ⟨_, rfl, _, rfl, d, g, n, rfl, D, n0, n1, fun l as ks H1 FK k1 k2 hl h1 R1 e1 => ?_⟩
    refine ⟨fun σ H' => ∃ (l : Addr) (as : List Addr) (ks : List Kd), σ = [some (.ref d), some (.int n), some (.ref l)] ∧ Frm ks ∧ 1 ≤ ks.length ∧ ks.length ≤ 24 ∧ H l = none ∧ H' l = some (.lst (as.map V.ref)) ∧ RowsAt H' as ks ∧ Ev d g H H', ?_, fun σ H' hM => ?_⟩
    · refine ⟨_, rfl, d, g, 2, rfl, e1.dr, by decide, by decide, fun r H2 _ _ e2 => ?_⟩
      have h2 : H2 l = _ := e2.kp _ _ h1 (D.ned hl) (D.neg hl)
      have R2 := R1.tk (e2.tk e1.dr)
      have e02 := e1.trans e2
      refine ⟨rfl, _, rfl, ite2 (fun _ => ?_) (fun _ => ?_)⟩
      · refine ⟨_, rfl, _, rfl, d, g, l, as, ks, rfl, e2.dr, h2, D.ned hl, D.neg hl, R2, FK, k1, k2, fun l2 as2 ks2 H3 F3 len3 hl3 h3 R3 e3 => ?_⟩
        exact ⟨l2, as2, ks2, rfl, F3, by rw [len3]; exact k1, by rw [len3]; exact k2, e02.free D hl3, h3, R3, e02.trans e3⟩
      · exact ⟨l, as, ks, rfl, FK, k1, k2, hl, h2, R2, e02⟩
    · obtain ⟨l, as, ks, rfl, FK, k1, k2, hl, h2, R2, e2⟩ := hM
      refine ⟨_, rfl, _, rfl, _, rfl, d, g, 4, rfl, e2.dr, by decide, by decide, fun wy H3 _ _ e3 => ?_⟩
      have h3 : H3 l = _ := e3.kp _ _ h2 (D.ned hl) (D.neg hl)
      have e03 := e2.trans e3
      refine ⟨d, g, l, wy, as, ks, rfl, e3.dr, h3, D.neg hl, R2.tk (e3.tk e2.dr), FK, k1, k2, fun t as' ks' ms H4 M _ _ ht h4 R4 e4 => ?_⟩
      exact k t as' ks' H4 (e03.free D ht) ⟨h4, R4, frm_mkd FK M, by rw [M.1]; exact k1, by rw [M.1]; exact k2⟩ (e03.trans e4)
theorem scSom : FnScope nSom ["draw", "plan", "most"] (defScope sSom) := ⟨rfl, rfl, rfl, by decide +kernel, rfl, by decide +kernel, by decide +kernel⟩
theorem ok_som {f fN : Addr} {fd fdN : FuncData} (F : Fun K "_law_some" "_law_some" sSom f fd) (T : TB mg)
    (GN : FnOk P w K mg base CX0 1 fN fdN ["draw", "below"] spNext) (FN : Fun K "_law_next" "_law_next" sNext fN fdN) (bN : Binds K fdN ["draw", "below"] []) (mN : mg "_law_next" = some (.ref fN)) :
    FnOk P w K mg base CX0 2 f fd ["draw", "plan", "most"] spSom := by
  refine F.ok scSom (fun vs H Q E h => ?_) (fun cdv A outer s H vs Q E hr h => ?_)
  · obtain ⟨d, g, t, as, ks, n, rfl, _⟩ := h; rfl
  · obtain ⟨d, g, t, as, ks, n, rfl, D, L, n6, k⟩ := h
    have nd := scSom.nd
    have hu := hu_of hr
    have hr1 : Room 1 _ := hr
    refine ⟨_, (pss_cons (ps_par (i := 3) (j := 4) (by rfl) nd rfl rfl (by decide) rfl rfl (pa_cons (pe_lc (own := [("kind", 7)]) (g := gName 7) rfl nd (pi_tup (pv 1)) (blkOk_by (N := nSom) (sc := defScope sSom) (by decide +kernel)) (fun _ _ _ _ _ => (pg_name (i := 7) nd rfl (.inl rfl))) (fun _ _ _ _ _ => pts_nil) (fun _ _ _ _ _ => (pe_ix (show IxR _ (rIxT K) from ix_tup) (pv 7) pe_int (fun _ _ => rfl)))) (pa_cons (pe_lst pa_nil) pa_nil)) (by rfl))
      (pss_cons (ps_for PassesOwn.never rfl (pi_range1 rfl T.range (pa_cons (pe_call GN hr1 (by rfl) mN FN.kp bN .nil pass0 (pa_cons (pv 0) (pa_cons (pe_op op_add (pv 2) pe_int) pa_nil))) pa_nil)) (pg_name (i := 5) nd rfl (.inl rfl)) (pss_one (ps_if (pt_cmpR (op_neD hr.units) (pv 3) (pe_lst pa_nil) (nomark _)) (pss_cons (ps_set (i := 6) nd rfl (.inl rfl) (pe_call GN hr1 (by rfl) mN FN.kp bN .nil pass0 (pa_cons (pv 0) (pa_cons (pe_callB call_len_seq (by rfl) T.len (PySem.boot_len) (pa_cons (pv 3) pa_nil)) pa_nil))))
      (pss_cons (ps_expr (pe_bm PySem.F.plainAttrs_list PySem.F.slot_list_append PySem.F.type_list_append mt_append (pv 4) (pa_cons (pe_ix ix_list (pv 3) (pv 6) (fun _ _ => rfl)) pa_nil)))
      (pss_one (ps_set (i := 3) nd rfl (.inl rfl) (pe_op op_cat (pe_slice sl_list (pv 3) po_none (po_some (pv 6))) (pe_slice sl_list (pv 3) (po_some (pe_op op_add (pv 6) pe_int)) po_none)))))) pss_nil)))
      (pss_one (ps_ret (pe_callTy call_tuple_of (by rfl) T.tuple (by decide +kernel) (pa_cons (pv 4) pa_nil)))))), ?_⟩
    have l2 := L.l2
    refine ⟨_, rfl, t, rfl, ⟨_, SqT.of L.tp⟩, fun C hC => lc_tup (K := K) (a := t) (xs := as.map V.ref) (fun j H' => H' C = some (.lst (((ks.take j).map Kd.nm).map V.str)) ∧ Same H H') ⟨upd_same, same_new hC⟩ (fun j H' _ ⟨_, z⟩ => SqT.of (z _ _ L.tp)) ?_ ?_⟩
    · rintro m y H3 hm3 ⟨h3, s3⟩
      obtain ⟨x2, k2, b2, rfl, hk2, hm2, hml, d1, d2⟩ := (L.same s3).row hm3
      refine ⟨rfl, _, rfl, x2, _, _, _, rfl, rfl, SqT.of d1, rfl, _, h3, by rw [List.length_map, List.length_map, List.length_take]; exact small1000 (by omega), ?_, fun c o e => by rw [upd_ne (ne_of_none e hC)]; exact s3 _ _ e⟩
      rw [take_snoc hk2, List.map_append, List.map_append]
      exact upd_same
    · rintro H3 ⟨h3, s3⟩
      rw [List.length_map, L.rw.1, List.take_of_length_le (Nat.le_refl _)] at h3
      refine ⟨by show 0 ≤ sizeLine; decide, fun q hq => ?_⟩
      refine ⟨_, _, rfl, ?_⟩
      have hq0 : H q = none := s3.free hq
      have D4 := D.same (s3.trans (s_new (o := HO.lst []) hq))
      have L4 := L.same (s3.trans (s_new (o := HO.lst []) hq))
      have h4 := upd_keep (u := .lst []) h3 hq
      have q4 := upd_same (H := H3) (a := q) (o := .lst [])
      have e4 : Ev d g H (upd H3 q (.lst [])) := (Ev.refl D).same (s3.trans (s_new (o := HO.lst []) hq))
      generalize upd H3 q (.lst []) = H4 at D4 L4 h4 q4 e4 ⊢
      have nqd : q ≠ d ∧ q ≠ g := ⟨D.ned hq0, D.neg hq0⟩
      refine ⟨_, rfl, _, rfl, _, _, rfl, rfl, d, g, _, rfl, D4, by omega, by omega, fun mm H5 m0 m1 e5 => ?_⟩
      have nCd : C ≠ d ∧ C ≠ g := ⟨D.ned hC, D.neg hC⟩
      have h5 := e5.kp _ _ h4 nCd.1 nCd.2
      have q5 := e5.kp _ _ q4 nqd.1 nqd.2
      have nCq : C ≠ q := fun e => by rw [e, hq] at h3; cases h3
      have okn : ∀ x ∈ ks.map Kd.nm, okS x = true := fun x hx => by
        obtain ⟨k', hk', rfl⟩ := List.mem_map.mp hx
        exact (okN_S (L.fm.ok k' hk').nm).1
      refine ⟨_, rfl, by omega, by omega, ?_⟩
      refine for_range (lo := 0) (n := _) (fun i σ H' => ∃ (lq : Addr) (ls fs : List Str) (v5 v6 : Option V), σ = [some (.ref d), some (.ref t), some (.int (n : Int)), some (.ref lq), some (.ref q), v5, v6, none] ∧ H' lq = some (.lst (ls.map V.str)) ∧ H' q = some (.lst (fs.map V.str)) ∧ lq ≠ q ∧ lq ≠ d ∧ lq ≠ g ∧ (fs ++ ls).Nodup ∧ (∀ x ∈ fs ++ ls, x ∈ ks.map Kd.nm) ∧ fs.length ≤ i ∧ ls.length ≤ 24 ∧ Ev d g H H')
        ⟨C, ks.map Kd.nm, [], _, _, rfl, h5, q5, nCq, nCd.1, nCd.2, by rw [List.nil_append]; exact L.fm.nd, by rw [List.nil_append]; exact fun x h => h, Nat.le_refl _, by rw [List.length_map]; exact l2, e4.trans e5⟩ ?_ (fun σ H' hM => ?_)
      · rintro i σ H6 hi ⟨lq, ls, fs, v5, v6, rfl, h6, q6, n1, n2, n3, nd6, sub6, fl, ll, e6⟩
        have hi : i < mm.toNat := hi
        refine ⟨_, rfl, by show 0 ≤ sizeLine; decide, fun q' hq' => ?_⟩
        have sq : Same H6 (upd H6 q' (.lst [])) := s_new hq'
        have e7 := e6.same sq
        have h7 := sq _ _ h6
        have q7 := sq _ _ q6
        refine ⟨.list (ls.map PyData.str), .list [], .lst (SqL.of h7) (dp_strs _), .lst (SqL.of upd_same) .nil, strs_shaped fun x hx => okn x (sub6 x (List.mem_append_right _ hx)), rfl, _, rfl, ?_⟩
        rw [eqv_nilD, isE_map]
        generalize upd H6 q' (.lst []) = H7 at sq e7 h7 q7 ⊢
        refine ite2 (fun hne => ?_) (fun _ => ?_)
        · have hne : 0 < ls.length := by
            cases ls with
            | nil => cases hne
            | cons _ _ => rw [List.length_cons]; omega
          refine ⟨_, rfl, _, rfl, lq, _, rfl, .inl (SqL.of h7), d, g, _, rfl, e7.dr, by rw [List.length_map]; omega, by rw [List.length_map]; omega, fun z H8 z0 z1 e8 => ?_⟩
          have h8 := e8.kp _ _ h7 n2 n3
          have q8 := e8.kp _ _ q7 nqd.1 nqd.2
          have e08 := e7.trans e8
          rw [List.length_map] at z1
          obtain ⟨m, rfl⟩ : ∃ m : Nat, z = (m : Int) := ⟨z.toNat, by omega⟩
          have hm : m < ls.length := by omega
          have km := List.getElem?_eq_getElem hm
          generalize ls[m] = x at km
          have mn : (ls.map V.str)[m]? = some (.str x) := by rw [List.getElem?_map, km]; rfl
          refine ⟨_, rfl, .inl ⟨rfl, _, SqL.of q8⟩, ?_⟩
          refine ⟨_, rfl, _, rfl, lq, _, _, _, rfl, rfl, SqL.of h8, atI_nat mn, q, _, _, rfl, rfl, q8, by rw [List.length_map]; exact small1000 (by omega), ?_⟩
          have h9 : upd H8 q (.lst (fs.map V.str ++ [V.str x])) lq = some (.lst (ls.map V.str)) := by rw [upd_ne n1]; exact h8
          have q9 := upd_same (H := H8) (a := q) (o := .lst (fs.map V.str ++ [V.str x]))
          have e9 : Ev d g H (upd H8 q (.lst (fs.map V.str ++ [V.str x]))) := by
            refine ⟨fun b' o e x1 x2 => by rw [upd_ne (ne_of_none e hq0)]; exact e08.kp _ _ e x1 x2, ?_⟩
            obtain ⟨m', t', gs, x1, x2, x3⟩ := e08.dr
            exact ⟨m', t', gs, by rw [upd_ne nqd.1.symm]; exact x1, by rw [upd_ne nqd.2.symm]; exact x2, x3⟩
          generalize upd H8 q (.lst (fs.map V.str ++ [V.str x])) = H9 at h9 q9 e9 ⊢
          refine ⟨_, rfl, _, rfl, _, rfl, lq, _, rfl, SqL.of h9, fun p1 hp1 => ?_⟩
          rw [cut_to]
          have h10 := upd_keep (u := .lst ((ls.map V.str).take m)) h9 hp1
          refine ⟨_, rfl, _, rfl, _, _, rfl, rfl, _, rfl, lq, _, rfl, SqL.of h10, fun p2 hp2 => ?_⟩
          rw [show ((m : Int) + 1) = ((m + 1 : Nat) : Int) by omega, cut_from]
          have p1s := upd_keep (u := .lst ((ls.map V.str).drop (m + 1))) (upd_same (H := H9) (a := p1) (o := .lst ((ls.map V.str).take m))) hp2
          refine ⟨p1, p2, _, _, rfl, rfl, p1s, upd_same, by rw [List.length_take, List.length_drop, List.length_map]; exact Nat.le_of_lt (small1000 (by omega)), fun p3 hp3 => ?_⟩
          have s11 : Same H9 (upd (upd (upd H9 p1 (.lst ((ls.map V.str).take m))) p2 (.lst ((ls.map V.str).drop (m + 1)))) p3 (.lst ((ls.map V.str).take m ++ (ls.map V.str).drop (m + 1)))) := same_upd (same_upd (same_new hp1) hp2) hp3
          have e10 := e9.same ((same_new (o := .lst ((ls.map V.str).take m)) hp1).trans (same_new (o := .lst ((ls.map V.str).drop (m + 1))) hp2))
          have p3d : p3 ≠ d ∧ p3 ≠ g := ⟨e10.dr.ned hp3, e10.dr.neg hp3⟩
          have p3q : p3 ≠ q := fun e => by
            rw [e] at hp3
            rw [upd_keep (upd_keep q9 hp1) hp2] at hp3
            cases hp3
          refine ⟨p3, ls.take m ++ ls.drop (m + 1), fs ++ [x], _, _, rfl, ?_, ?_, p3q, p3d.1, p3d.2, ?_, ?_, ?_, ?_, e9.same s11⟩
          · rw [upd_same, List.map_append, List.map_take, List.map_drop]
          · rw [s11 _ _ q9, List.map_append]
            rfl
          · exact (cut_perm km).nodup_iff.mpr nd6
          · exact fun y hy => sub6 y ((cut_perm km).mem_iff.mp hy)
          · rw [List.length_append, List.length_singleton]
            omega
          · rw [List.length_append, List.length_take, List.length_drop]
            omega
        · exact ⟨lq, ls, fs, _, _, rfl, h7, q7, n1, n2, n3, nd6, sub6, by omega, ll, e7⟩
      · obtain ⟨lq, ls, fs, v5, v6, rfl, h6, q6, n1, n2, n3, nd6, sub6, fl, ll, e6⟩ := hM
        have fl : fs.length ≤ mm.toNat := fl
        refine ⟨_, rfl, q, _, rfl, .inl ⟨SqL.of q6, fun r hr' => ?_⟩⟩
        refine k r fs _ (List.nodup_append.mp nd6).1 (fun x hx => ?_) (by omega) (e6.free D hr') upd_same (e6.new hr')
        obtain ⟨k', hk', rfl⟩ := List.mem_map.mp (sub6 x (List.mem_append_left _ hx))
        exact ⟨k', hk', rfl⟩
end
end Cp

set_option Elab.async false
set_option linter.all false
set_option maxRecDepth 100000
set_option maxHeartbeats 2000000
/-! ### the least safe marks, gaps -/
namespace Cp
open PySem PySem.Spec L2 PyProof.Rows
theorem wordOf_congr {a b : List Str} (h : ∀ x, x ∈ a ↔ x ∈ b) : wordOf a = wordOf b := by
  unfold wordOf wpart
  rw [List.filter_congr fun k _ => decide_eq_decide.mpr (h (ltr k))]
theorem wcode_mem {a : List Str} {c : Nat} : c ∈ wcode a ↔ ∃ k, k < 26 ∧ c = 97 + k ∧ ltr k ∈ a := by
  unfold wcode
  simp only [List.mem_map, List.mem_filter, List.mem_range, decide_eq_true_eq]
  constructor
  · rintro ⟨k, ⟨h1, h2⟩, h3⟩
    exact ⟨k, h1, h3.symm, h2⟩
  · rintro ⟨k, h1, h2, h3⟩
    exact ⟨k, ⟨h1, h3⟩, h2.symm⟩
theorem rise_le {i j : Nat} (h : ltCps (ltr j).cps.toList (ltr i).cps.toList = false) : i ≤ j := by
  have e : ltCps [97 + j] [97 + i] = false := h
  rcases Nat.lt_or_ge j i with q | q
  · exfalso
    have : ltCps [97 + j] [97 + i] = true := by
      unfold ltCps
      simp
      omega
    rw [this] at e
    cases e
  · exact q
def leT (a b : Str) : Prop := ∃ i j, a = ltr i ∧ b = ltr j ∧ i ≤ j
theorem rise_pw : ∀ (r : List Str) (p : Str), (∀ x ∈ p :: r, ∃ i, x = ltr i) → risingS p r = true → (p :: r).Pairwise leT
  | [], p, _, _ => List.pairwise_singleton _ _
  | x :: r, p, hl, h => by
    unfold risingS at h
    rw [Bool.and_eq_true, Bool.not_eq_true'] at h
    have ih := rise_pw r x (fun y hy => hl y (List.mem_cons_of_mem _ hy)) h.2
    obtain ⟨i, rfl⟩ := hl p List.mem_cons_self
    obtain ⟨j, rfl⟩ := hl x (List.mem_cons_of_mem _ List.mem_cons_self)
    have hij := rise_le h.1
    refine List.pairwise_cons.mpr ⟨fun y hy => ?_, ih⟩
    rcases List.mem_cons.mp hy with rfl | hy
    · exact ⟨i, j, rfl, rfl, hij⟩
    · obtain ⟨a, b, ea, eb, hab⟩ := (List.pairwise_cons.mp ih).1 y hy
      have := ltr_inj ea
      exact ⟨i, b, rfl, eb, by omega⟩
theorem let_pw {ys : List Str} {ks : List Kd} (LS : LetS ys ks) : ys.Pairwise leT := by
  have h := LS.so
  have hl : ∀ x ∈ ys, ∃ i, x = ltr i := fun x hx => by
    obtain ⟨k, _, e⟩ := (LS.mem x).mp hx
    exact ⟨k.lt, e⟩
  cases ys with
  | nil => exact List.Pairwise.nil
  | cons x r => exact rise_pw r x hl h
theorem wpart_pw (a : List Str) (n : Nat) : (wpart a n).Pairwise leT := by
  unfold wpart
  rw [List.pairwise_map]
  exact (List.pairwise_lt_range.sublist List.filter_sublist).imp fun h => ⟨_, _, rfl, rfl, Nat.le_of_lt h⟩
theorem wpart_nd (a : List Str) (n : Nat) : (wpart a n).Nodup := by
  unfold wpart
  unfold List.Nodup
  rw [List.pairwise_map]
  exact (List.pairwise_lt_range.sublist List.filter_sublist).imp fun h e => Nat.ne_of_lt h (ltr_inj e)
theorem leT_anti {a b : Str} (h1 : leT a b) (h2 : leT b a) : a = b := by
  obtain ⟨i, j, rfl, rfl, h⟩ := h1
  obtain ⟨i', j', e1, e2, h'⟩ := h2
  have e1 := ltr_inj e1
  have e2 := ltr_inj e2
  rw [show i = j by omega]
/-- letters in order, joined, are a word -/
theorem let_word {ys : List Str} {ks : List Kd} (F : Frm ks) (LS : LetS ys ks) (pr : Str → Bool) : Txt.join "" (ys.filter pr) = wordOf (ys.filter pr) := by
  unfold wordOf
  refine congrArg (Txt.join "") ?_
  refine List.Perm.eq_of_pairwise (le := leT) (fun a b _ _ => leT_anti) ((let_pw LS).sublist List.filter_sublist) (wpart_pw _ _) ?_
  refine (List.perm_ext_iff_of_nodup (LS.nd.sublist List.filter_sublist) (wpart_nd _ _)).mpr fun x => ?_
  constructor
  · intro h
    obtain ⟨k, hk, e⟩ := (LS.mem x).mp (List.mem_filter.mp h).1
    have := (F.ok k hk).lt
    unfold wpart
    exact List.mem_map.mpr ⟨k.lt, List.mem_filter.mpr ⟨List.mem_range.mpr this, decide_eq_true (e ▸ h)⟩, e.symm⟩
  · intro h
    unfold wpart at h
    obtain ⟨i, hi, rfl⟩ := List.mem_map.mp h
    exact of_decide_eq_true (List.mem_filter.mp hi).2
/-- older ones beneath -/
def crP (ks : List Kd) (k : Kd) : Kd → Bool := fun o => benP ks k o && oldP k o
def carL (ks : List Kd) (k : Kd) : List Str := (ks.filter (crP ks k)).map fun o => ltr o.lt
def carW (ks : List Kd) (k : Kd) : Str := wordOf (carL ks k)
theorem carL_mem {ks : List Kd} {k : Kd} {x : Str} : x ∈ carL ks k ↔ ∃ o ∈ ks, o.nm ∈ U ks k.nm ∧ o.ed < k.ed ∧ x = ltr o.lt := by
  unfold carL crP benP oldP
  simp only [List.mem_map, List.mem_filter, Bool.and_eq_true, decide_eq_true_eq]
  constructor
  · rintro ⟨o, ⟨h1, h2, h3⟩, h4⟩
    exact ⟨o, h1, h2, h3, h4.symm⟩
  · rintro ⟨o, h1, h2, h3, h4⟩
    exact ⟨o, ⟨h1, h2, h3⟩, h4.symm⟩
theorem car_bits {ys : List Str} {ks : List Kd} (F : Frm ks) (LS : LetS ys ks) (k : Kd) : Txt.join "" (ys.filter fun x => decide ((bo (lbP x) ks &&& bo (benP ks k) ks) &&& bo (oldP k) ks ≠ 0)) = carW ks k := by
  rw [let_word F LS]
  refine wordOf_congr fun x => ?_
  rw [List.mem_filter, decide_eq_true_eq, bo_and, bo_and, Ne, bo_zero, carL_mem, LS.mem]
  constructor
  · rintro ⟨_, h⟩
    simp only [Classical.not_forall] at h
    obtain ⟨o, ho, h⟩ := h
    rw [Bool.not_eq_false, Bool.and_eq_true, Bool.and_eq_true] at h
    exact ⟨o, ho, of_decide_eq_true h.1.2, of_decide_eq_true h.2, (of_decide_eq_true h.1.1).symm⟩
  · rintro ⟨o, ho, h1, h2, h3⟩
    refine ⟨⟨o, ho, h3⟩, fun h => ?_⟩
    have := h o ho
    unfold lbP benP oldP at this
    rw [decide_eq_true h3.symm, decide_eq_true h1, decide_eq_true h2] at this
    cases this
theorem U_tr {ks : List Kd} (F : Frm ks) : ∀ (n : Nat) {k : Kd}, ks[n]? = some k → ∀ {y z : Str}, z ∈ U ks k.nm → y ∈ U ks z → y ∈ U ks k.nm := by
  intro n
  induction n using Nat.strongRecOn with
  | ind n ih =>
    intro k hk y z hz hy
    obtain ⟨b, hb, h⟩ := (U_iff F hk).mp hz
    refine (U_iff F hk).mpr ⟨b, hb, .inr ?_⟩
    rcases h with rfl | h
    · exact hy
    · obtain ⟨j, kb, hj, hkb, rfl⟩ := base_at F hk hb
      exact ih j hj hkb h hy
/-- the same kinds with other marks: what is beneath -/
theorem U_mkd {ks ks' : List Kd} (F : Frm ks) (h : Mkd ks ks') (F' : Frm ks') : ∀ (n : Nat) {k : Kd}, ks[n]? = some k → ∀ y, y ∈ U ks' k.nm ↔ y ∈ U ks k.nm := by
  intro n
  induction n using Nat.strongRecOn with
  | ind n ih =>
    intro k hk y
    have hn := (List.getElem?_eq_some_iff.mp hk).1
    have hk' : ks'[n]? = some (ks'[n]'(by rw [h.1]; exact hn)) := List.getElem?_eq_getElem _
    generalize ks'[n]'(by rw [h.1]; exact hn) = k' at hk'
    have e := (h.2 n k k' hk hk').1
    have en : k'.nm = k.nm := by rw [e]; rfl
    have eb : k'.bs = k.bs := by rw [e]; rfl
    rw [← en, U_iff F' hk', en, U_iff F hk, eb]
    constructor
    · rintro ⟨b, hb, q⟩
      obtain ⟨j, kb, hj, hkb, rfl⟩ := base_at F hk hb
      exact ⟨_, hb, q.imp id fun z => (ih j hj hkb y).mp z⟩
    · rintro ⟨b, hb, q⟩
      obtain ⟨j, kb, hj, hkb, rfl⟩ := base_at F hk hb
      exact ⟨_, hb, q.imp id fun z => (ih j hj hkb y).mpr z⟩
theorem mkd_mem {ks ks' : List Kd} (h : Mkd ks ks') {o' : Kd} (ho : o' ∈ ks') : ∃ o ∈ ks, o'.nm = o.nm ∧ o'.ed = o.ed ∧ o'.lt = o.lt := by
  obtain ⟨i, hi⟩ := List.getElem?_of_mem ho
  obtain ⟨o, h1, e, _⟩ := mkd_some h hi
  exact ⟨o, List.mem_of_getElem? h1, by rw [e]; rfl, by rw [e]; rfl, by rw [e]; rfl⟩
theorem mkd_symm {ks ks' : List Kd} (F : Frm ks) (h : Mkd ks ks') : Mkd ks' ks :=
  ⟨h.1.symm, fun j k k' h1 h2 => ⟨by rw [(h.2 j k' k h2 h1).1]; rfl, (F.ok k' (List.mem_of_getElem? h2)).mr⟩⟩
theorem carW_mkd {ks ks' : List Kd} (F : Frm ks) (h : Mkd ks ks') {n : Nat} {k k' : Kd} (hk : ks[n]? = some k) (hk' : ks'[n]? = some k') : carW ks' k' = carW ks k := by
  have F' := frm_mkd F h
  have e := (h.2 n k k' hk hk').1
  have en : k'.nm = k.nm := by rw [e]; rfl
  have ee : k'.ed = k.ed := by rw [e]; rfl
  refine wordOf_congr fun x => ?_
  rw [carL_mem, carL_mem]
  constructor
  · rintro ⟨o', ho', h1, h2, h3⟩
    obtain ⟨o, ho, a1, a2, a3⟩ := mkd_mem h ho'
    rw [en] at h1
    exact ⟨o, ho, by rw [← a1]; exact (U_mkd F h F' n hk _).mp h1, by rw [← a2, ← ee]; exact h2, by rw [← a3]; exact h3⟩
  · rintro ⟨o, ho, h1, h2, h3⟩
    obtain ⟨o', ho', a1, a2, a3⟩ := mkd_mem (mkd_symm F h) ho
    rw [en]
    exact ⟨o', ho', by rw [← a1]; exact (U_mkd F h F' n hk _).mpr h1, by rw [← a2, ee]; exact h2, by rw [← a3]; exact h3⟩
theorem sgs_word {L : List Str} {x : Str} (hL : ∀ y ∈ L, ∃ i, i < 26 ∧ y = ltr i) : x ∈ sgs (wordOf L) ↔ x ∈ L := by
  unfold sgs
  rw [wordOf_codes]
  simp only [List.mem_map, wcode_mem]
  constructor
  · rintro ⟨c, ⟨i, hi, rfl, hm⟩, rfl⟩
    exact hm
  · intro h
    obtain ⟨i, hi, rfl⟩ := hL x h
    exact ⟨97 + i, ⟨i, hi, rfl, h⟩, rfl⟩
theorem carL_let {ks : List Kd} (F : Frm ks) (k : Kd) : ∀ y ∈ carL ks k, ∃ i, i < 26 ∧ y = ltr i := fun y hy => by
  obtain ⟨o, ho, _, _, rfl⟩ := carL_mem.mp hy
  exact ⟨o.lt, (F.ok o ho).lt, rfl⟩
theorem mono_U {ks : List Kd} (F : Frm ks) {n : Nat} {k o : Kd} (hk : ks[n]? = some k) (ho : o ∈ ks) (h : o.nm ∈ U ks k.nm) : o.ed ≤ k.ed ∧ ∃ j, j < n ∧ ks[j]? = some o := by
  obtain ⟨j, ky, hj, hky, e⟩ := U_ahead F hk h
  obtain ⟨i, hi⟩ := List.getElem?_of_mem ho
  have := nm_injU F hky hi e
  subst this
  rw [hky] at hi
  cases hi
  exact ⟨F.mono _ _ _ _ hj hky hk, j, hj, hky⟩
/-- the marks of way 1 are these -/
theorem marks_car {ks : List Kd} {ms : List (Str × Str)} (F : Frm ks) (M : MS 1 ks ms) : ∀ (n : Nat) {k : Kd}, ks[n]? = some k → ms[n]? = some (k.nm, carW ks k) := by
  intro n
  induction n using Nat.strongRecOn with
  | ind n ih =>
    intro k hk
    rw [M.ex (by decide) n k hk]
    refine congrArg (fun z => some (k.nm, z)) (wordOf_congr fun x => ?_)
    rw [← U_at F hk, carL_mem]
    have nd : ((ms.take n).map (·.1)).Nodup := by
      rw [List.map_take, M.nm]
      exact F.nd.sublist (List.take_sublist _ _)
    have lk : ∀ {j : Nat} {o : Kd}, j < n → ks[j]? = some o → mlook (ms.take n) o.nm = carW ks o := fun {j o} hj ho => by
      unfold mlook
      rw [mlook_at nd (i := j) (m := carW ks o) (by rw [List.getElem?_take, if_pos hj]; exact ih j hj ho)]
      rfl
    unfold ownM mkLet
    rw [List.mem_flatMap]
    constructor
    · rintro ⟨o, ho, h⟩
      split at h
      · rename_i hu
        obtain ⟨hed, j, hj, hoj⟩ := mono_U F hk ho hu
        rw [lk hj hoj] at h
        rcases List.mem_append.mp h with h | h
        · obtain ⟨p, hp, h1, h2, h3⟩ := carL_mem.mp ((sgs_word (carL_let F o)).mp h)
          exact ⟨p, hp, U_tr F n hk hu h1, by omega, h3⟩
        · split at h
          · rename_i hw
            have hlt := hw.resolve_left (by decide)
            exact ⟨o, ho, hu, hlt, List.mem_singleton.mp h⟩
          · cases h
      · cases h
    · rintro ⟨o, ho, h1, h2, h3⟩
      refine ⟨o, ho, ?_⟩
      rw [if_pos h1, if_pos (.inr h2)]
      exact List.mem_append_right _ (List.mem_singleton.mpr h3)
/-- a kind and another one that it must watch and does not -/
def mustP (ks : List Kd) (u o : Kd) : Bool := benP ks u o || ks.any fun b => benP ks u b && watP b o
def gapQ (ks : List Kd) (u o : Kd) : Bool := mustP ks u o && (oldP u o && !watP u o)
def gapP (ks : List Kd) : List (Str × Str) := ks.flatMap fun u => (ks.filter (gapQ ks u)).map fun o => (u.nm, o.nm)
theorem gapP_nil {ks : List Kd} : gapP ks = [] ↔ ∀ u ∈ ks, ∀ o ∈ ks, gapQ ks u o = false := by
  unfold gapP
  rw [List.flatMap_eq_nil_iff]
  constructor
  · intro h u hu o ho
    have := List.map_eq_nil_iff.mp (h u hu)
    exact Bool.eq_false_iff.mpr fun z => by
      have := List.mem_filter.mpr ⟨ho, z⟩
      simp_all
  · intro h u hu
    refine List.map_eq_nil_iff.mpr (List.filter_eq_nil_iff.mpr fun o ho => ?_)
    rw [h u hu o ho]
    decide
theorem mrk_car {ks : List Kd} (F : Frm ks) {u o : Kd} (h : u.mrk = carW ks u) (ho : o ∈ ks) : mrkP u o = decide (ltr o.lt ∈ carL ks u) := by
  unfold mrkP
  rw [h]
  refine decide_eq_decide.mpr ?_
  unfold carW
  rw [wordOf_codes, wcode_mem]
  constructor
  · rintro ⟨i, hi, e, hm⟩
    rw [show o.lt = i by omega]
    exact hm
  · intro hm
    exact ⟨o.lt, (F.ok o ho).lt, rfl, hm⟩
/-- with the least safe marks there is none -/
theorem car_nogap {ks : List Kd} (F : Frm ks) (h : ∀ k ∈ ks, k.mrk = carW ks k) : gapP ks = [] := by
  refine gapP_nil.mpr fun u hu o ho => ?_
  obtain ⟨n, hn⟩ := List.getElem?_of_mem hu
  unfold gapQ
  cases hm : mustP ks u o with
  | false => rfl
  | true =>
    cases ho1 : oldP u o with
    | false => rfl
    | true =>
      have hold : o.ed < u.ed := of_decide_eq_true ho1
      have hin : ltr o.lt ∈ carL ks u := by
        unfold mustP at hm
        rcases Bool.or_eq_true _ _ |>.mp hm with h1 | h1
        · exact carL_mem.mpr ⟨o, ho, of_decide_eq_true h1, hold, rfl⟩
        · obtain ⟨b, hb, hbo⟩ := List.any_eq_true.mp h1
          obtain ⟨h1, h2⟩ := Bool.and_eq_true _ _ |>.mp hbo
          have h1 : b.nm ∈ U ks u.nm := of_decide_eq_true h1
          unfold watP at h2
          rw [mrk_car F (h b hb) ho] at h2
          obtain ⟨h3, h4⟩ := Bool.and_eq_true _ _ |>.mp h2
          obtain ⟨p, hp, e1, e2, e3⟩ := carL_mem.mp (of_decide_eq_true h3)
          have := (mono_U F hn hb h1).1
          exact carL_mem.mpr ⟨p, hp, U_tr F n hn h1 e1, by omega, e3⟩
      unfold watP
      rw [mrk_car F (h u hu) ho, decide_eq_true hin, ho1]
      rfl
/-- where an older one beneath is not watched there is one -/
theorem gap_of {ks : List Kd} {u o : Kd} (hu : u ∈ ks) (ho : o ∈ ks) (h1 : o.nm ∈ U ks u.nm) (h2 : o.ed < u.ed) (h3 : 97 + o.lt ∉ u.mrk.cps.toList) : gapP ks ≠ [] := fun h => by
  have := gapP_nil.mp h u hu o ho
  unfold gapQ mustP watP oldP benP mrkP at this
  rw [decide_eq_true h1, decide_eq_true h2, decide_eq_false h3] at this
  cases this
/-- where there is none, the marks have all these letters -/
theorem nogap_car {ks : List Kd} (h : gapP ks = []) {u : Kd} (hu : u ∈ ks) {x : Nat} (hx : ltr x ∈ carL ks u) : 97 + x ∈ u.mrk.cps.toList := by
  obtain ⟨o, ho, h1, h2, h3⟩ := carL_mem.mp hx
  rw [ltr_inj h3]
  refine Classical.byContradiction fun q => gap_of hu ho h1 h2 q h
end Cp

set_option Elab.async false
set_option linter.all false
set_option maxRecDepth 100000
set_option maxHeartbeats 2000000
/-! ### _law_seen -/
namespace Cp
open PySem PySem.Spec L2 PyProof.Rows
abbrev nSeen : List Str := ["plan", "found", "name", "ed", "bases", "letter", "mark", "kind"]
/-- what a kind watches -/
def seenL (ks : List Kd) (k : Kd) : List Str := (ks.filter (watP k)).map Kd.nm
theorem seenL_len (ks : List Kd) (k : Kd) : (seenL ks k).length ≤ ks.length := by
  unfold seenL
  rw [List.length_map]
  exact List.length_filter_le _ _
theorem seenL_mem {ks : List Kd} (F : Frm ks) {k : Kd} {i : Nat} {x : Kd} (hx : ks[i]? = some x) : decide (x.nm ∈ seenL ks k) = watP k x := by
  rw [Bool.eq_iff_iff, decide_eq_true_eq]
  unfold seenL
  rw [List.mem_map]
  constructor
  · rintro ⟨y, hy, e⟩
    obtain ⟨h1, h2⟩ := List.mem_filter.mp hy
    obtain ⟨j, hj⟩ := List.getElem?_of_mem h1
    have := nm_injU F hj hx e
    subst this
    rw [hj] at hx
    cases hx
    exact h2
  · intro h
    exact ⟨x, List.mem_filter.mpr ⟨List.mem_of_getElem? hx, h⟩, rfl⟩
/-- a dict from the names of the first n kinds to lists -/
def LsD (H : Hp) (p : Addr) (f : Kd → List Str) (ls : List Kd) : Prop := ∃ kvs : List (Key × V), H p = some (.dK kvs) ∧ kvs.length ≤ ls.length ∧ ∀ k ∈ ls, ∃ q, valV kvs (kx k.nm) = some (.ref q) ∧ H q = some (.lst ((f k).map V.str))
theorem LsD.same {H H' : Hp} {p : Addr} {f : Kd → List Str} {ls : List Kd} (h : LsD H p f ls) (s : Same H H') : LsD H' p f ls := by
  obtain ⟨kvs, h1, h2, h3⟩ := h
  exact ⟨kvs, s _ _ h1, h2, fun k hk => by
    obtain ⟨q, e1, e2⟩ := h3 k hk
    exact ⟨q, e1, s _ _ e2⟩⟩
def spSeen : Sp := fun vs H Q _ => ∃ (a : Addr) (as : List Addr) (ks : List Kd), vs = [.ref a] ∧ LayAt H a as ks ∧ ∀ (p : Addr) (H' : Hp), H p = none → LsD H' p (seenL ks) ks → Same H H' → Q (.ref p) H'
theorem LsD.put {H : Hp} {p q : Addr} {f : Kd → List Str} {ks : List Kd} {j : Nat} {k : Kd} {kvs : List (Key × V)} (F : Frm ks) (hk : ks[j]? = some k) (h1 : kvs.length ≤ j) (h3 : ∀ x ∈ ks.take j, ∃ r, valV kvs (kx x.nm) = some (.ref r) ∧ H r = some (.lst ((f x).map V.str)))
    (hp : H p = some (.dK kvs)) (hq : H q = some (.lst ((f k).map V.str))) : LsD (upd H p (.dK (putK kvs (kx k.nm) (.ref q)))) p f (ks.take (j + 1)) := by
  have hj := (List.getElem?_eq_some_iff.mp hk).1
  refine ⟨_, upd_same, ?_, fun x hx => ?_⟩
  · have := length_putK kvs (kx k.nm) (V.ref q)
    rw [List.length_take]
    omega
  · have np : ∀ r ys, H r = some (.lst ys) → r ≠ p := fun r ys e z => by rw [z, hp] at e; cases e
    rw [take_snoc hk] at hx
    by_cases e : x.nm = k.nm
    · refine ⟨q, by rw [valV_put, if_pos (by rw [e])], ?_⟩
      have ek : x = k := by
        rcases List.mem_append.mp hx with h | h
        · exfalso
          obtain ⟨i, hi⟩ := List.getElem?_of_mem h
          have hij : i < j := by
            have := (List.getElem?_eq_some_iff.mp hi).1
            rw [List.length_take] at this
            omega
          rw [List.getElem?_take, if_pos hij] at hi
          have := nm_injU F hi hk e
          omega
        · exact List.mem_singleton.mp h
      rw [ek, upd_ne (np _ _ hq)]
      exact hq
    · have hx' : x ∈ ks.take j := (List.mem_append.mp hx).resolve_right fun h => e (by rw [List.mem_singleton.mp h])
      obtain ⟨r, e1, e2⟩ := h3 x hx'
      exact ⟨r, by rw [valV_put, if_neg fun z => e (Sum.inr.inj z)]; exact e1, by rw [upd_ne (np _ _ e2)]; exact e2⟩
section
variable {P : Program} {w : World} {K : PySem.W.Frag} {mg : Str → Option Value} {base : Heap}
end
end Cp

set_option Elab.async false
set_option linter.all false
set_option maxRecDepth 100000
set_option maxHeartbeats 2000000
/-! ### _law_dates, _law_gaps -/
namespace Cp
open PySem PySem.Spec L2 PyProof.Rows
abbrev nDates : List Str := ["plan", "kind"]
abbrev nGaps : List Str := ["plan", "under", "seen", "dates", "found", "name", "other", "must", "base"]
/-- the editions by the names -/
def dtK (ks : List Kd) : List (Key × V) := ks.map fun k => (kx k.nm, .int k.ed)
theorem dtK_none {x : Str} : ∀ {ks : List Kd}, x ∉ ks.map Kd.nm → valV (dtK ks) (kx x) = none
  | [], _ => valV_nil
  | k :: r, h => by
    have h1 : ¬ k.nm = x := fun e => h (e ▸ List.mem_cons_self)
    show valV ((kx k.nm, V.int k.ed) :: dtK r) (kx x) = none
    rw [valV_neg (p := (kx k.nm, V.int k.ed)) (kne h1)]
    exact dtK_none fun z => h (List.mem_cons_of_mem _ z)
theorem dtK_at : ∀ {ks : List Kd}, (ks.map Kd.nm).Nodup → ∀ {i : Nat} {k : Kd}, ks[i]? = some k → valV (dtK ks) (kx k.nm) = some (.int k.ed)
  | [], _, i, k, h => by simp at h
  | a :: r, nd, i, k, h => by
    rw [List.map_cons, List.nodup_cons] at nd
    cases i with
    | zero =>
      simp only [List.getElem?_cons_zero, Option.some.injEq] at h
      subst h
      exact valV_pos (p := (kx a.nm, V.int a.ed)) rfl
    | succ i =>
      rw [List.getElem?_cons_succ] at h
      have ne : ¬ a.nm = k.nm := fun e => nd.1 (e ▸ List.mem_map.mpr ⟨k, List.mem_of_getElem? h, rfl⟩)
      show valV ((kx a.nm, V.int a.ed) :: dtK r) (kx k.nm) = _
      rw [valV_neg (p := (kx a.nm, V.int a.ed)) (kne ne)]
      exact dtK_at nd.2 h
theorem dtK_merge {ks : List Kd} (nd : (ks.map Kd.nm).Nodup) : mergeK [] (dtK ks) = dtK ks := by
  have gen : ∀ (b a : List Kd), ((a ++ b).map Kd.nm).Nodup → mergeK (dtK a) (dtK b) = dtK (a ++ b) := by
    intro b
    induction b with
    | nil => intro a _; rw [List.append_nil]; rfl
    | cons k r ih =>
      intro a h
      have e : dtK a ++ [(kx k.nm, V.int k.ed)] = dtK (a ++ [k]) := by unfold dtK; rw [List.map_append]; rfl
      have nk : k.nm ∉ a.map Kd.nm := fun z => by
        rw [List.map_append, List.nodup_append] at h
        exact h.2.2 _ z _ (by rw [List.map_cons]; exact List.mem_cons_self) rfl
      show mergeK (putK (dtK a) (kx k.nm) (.int k.ed)) (dtK r) = _
      rw [putK_new _ (dtK_none nk), e, ih (a ++ [k]) (by rw [List.append_assoc]; exact h), List.append_assoc]
      rfl
  exact gen ks [] nd
def spDates : Sp := fun vs H Q _ => ∃ (a : Addr) (as : List Addr) (ks : List Kd), vs = [.ref a] ∧ LayAt H a as ks ∧ ∀ (p : Addr) (H' : Hp), H p = none → H' p = some (.dK (dtK ks)) → Same H H' → Q (.ref p) H'
/-- pairs of texts -/
def PairsS (H : Hp) (ps : List Addr) (l : List (Str × Str)) : Prop := Paired (fun p (x : Str × Str) => H p = some (.tup [.str x.1, .str x.2])) ps l
theorem PairsS.tk {H H' : Hp} {ps : List Addr} {l : List (Str × Str)} (h : PairsS H ps l) (t : TK H H') : PairsS H' ps l := pd_mono (fun _ _ e => t _ _ e) h
theorem look_U {ks : List Kd} (F : Frm ks) {i : Nat} {k : Kd} (hk : ks[i]? = some k) : look? (undAll ks ks []) k.nm = some (U ks k.nm) := by
  rw [U_at F hk]
  exact look_full F.nd hk
theorem U_len {ks : List Kd} (F : Frm ks) {i : Nat} {k : Kd} (hk : ks[i]? = some k) : (U ks k.nm).length ≤ ks.length := by
  rw [U_at F hk]
  exact undOf_len _ _ _
def spGaps : Sp := fun vs H Q _ => ∃ (a : Addr) (as : List Addr) (ks : List Kd), vs = [.ref a] ∧ LayAt H a as ks ∧ ∀ (l : Addr) (ps : List Addr) (H' : Hp), H l = none → H' l = some (.lst (ps.map V.ref)) → PairsS H' ps (gapP ks) → Same H H' → Q (.ref l) H'
def gapA (ks : List Kd) (j : Nat) : List (Str × Str) := (ks.take j).flatMap fun u => (ks.filter (gapQ ks u)).map fun o => (u.nm, o.nm)
theorem gapA_snoc {ks : List Kd} {j : Nat} {k : Kd} (hk : ks[j]? = some k) : gapA ks (j + 1) = gapA ks j ++ (ks.filter (gapQ ks k)).map fun o => (k.nm, o.nm) := by
  unfold gapA
  rw [take_snoc hk, List.flatMap_append]
  simp
theorem gapA_len (ks : List Kd) : ∀ j, (gapA ks j).length ≤ j * ks.length
  | 0 => by simp [gapA]
  | j + 1 => by
    have ih := gapA_len ks j
    cases h : ks[j]? with
    | none =>
      have hj := List.getElem?_eq_none_iff.mp h
      have e : gapA ks (j + 1) = gapA ks j := by
        unfold gapA
        rw [List.take_of_length_le hj, List.take_of_length_le (by omega)]
      rw [e, Nat.add_mul]
      omega
    | some k =>
      rw [gapA_snoc h, List.length_append, List.length_map, Nat.add_mul]
      have := List.length_filter_le (gapQ ks k) ks
      omega
theorem any_nm {ks : List Kd} (F : Frm ks) {u o : Kd} {i : Nat} (hu : ks[i]? = some u) (ho : o ∈ ks) : (U ks u.nm).any (fun b => (ks.any fun x => decide (x.nm = b) && watP x o)) = ks.any fun b => benP ks u b && watP b o := by
  rw [Bool.eq_iff_iff, List.any_eq_true, List.any_eq_true]
  constructor
  · rintro ⟨b, hb, h⟩
    obtain ⟨x, hx, h⟩ := List.any_eq_true.mp h
    obtain ⟨h1, h2⟩ := Bool.and_eq_true _ _ |>.mp h
    have h1 := of_decide_eq_true h1
    exact ⟨x, hx, by unfold benP; rw [h1, decide_eq_true hb, h2]; rfl⟩
  · rintro ⟨b, hb, h⟩
    obtain ⟨h1, h2⟩ := Bool.and_eq_true _ _ |>.mp h
    exact ⟨b.nm, of_decide_eq_true h1, List.any_eq_true.mpr ⟨b, hb, by rw [decide_eq_true rfl, h2]; rfl⟩⟩
def wm (ks : List Kd) (o : Kd) (b : Str) : Bool := ks.any fun x => decide (x.nm = b) && watP x o
theorem wm_at {ks : List Kd} (F : Frm ks) {i : Nat} {k o : Kd} (hk : ks[i]? = some k) : wm ks o k.nm = watP k o := by
  unfold wm
  rw [Bool.eq_iff_iff, List.any_eq_true]
  constructor
  · rintro ⟨x, hx, h⟩
    obtain ⟨h1, h2⟩ := Bool.and_eq_true _ _ |>.mp h
    obtain ⟨j, hj⟩ := List.getElem?_of_mem hx
    have := nm_injU F hj hk (of_decide_eq_true h1)
    subst this
    rw [hj] at hk
    cases hk
    exact h2
  · intro h
    exact ⟨k, List.mem_of_getElem? hk, by rw [decide_eq_true rfl, h]; rfl⟩
theorem DGet.z {H : Hp} {a : Addr} {od : Obj} {kvs : List (Key × V)} {k : Key} (e : H a = some (.frz od (.dK kvs))) : DGet H a (kV k) (valV kvs k) := .inl ⟨kvs, k, .inr ⟨od, e⟩, rfl, rfl⟩
section
variable {P : Program} {w : World} {K : PySem.W.Frag} {mg : Str → Option Value} {base : Heap}
end
end Cp

set_option Elab.async false
set_option linter.all false
set_option maxRecDepth 100000
set_option maxHeartbeats 2000000
/-! ### _law_seen in order, _law_wastes -/
namespace Cp
open PySem PySem.Spec L2 PyProof.Rows
abbrev nWast : List Str := ["plan", "under", "seen", "found", "name", "other"]
def LsR (H : Hp) (f : Kd → List Str) (kv : Key × V) (k : Kd) : Prop := kv.1 = kx k.nm ∧ ∃ q, kv.2 = .ref q ∧ H q = some (.lst ((f k).map V.str))
theorem LsR.same {H H' : Hp} {f : Kd → List Str} {kv : Key × V} {k : Kd} (h : LsR H f kv k) (s : Same H H') : LsR H' f kv k := by
  obtain ⟨h1, q, h2, h3⟩ := h
  exact ⟨h1, q, h2, s _ _ h3⟩
/-- a dict from the names, in order, to lists -/
def LsK (H : Hp) (p : Addr) (f : Kd → List Str) (ls : List Kd) : Prop := ∃ kvs : List (Key × V), H p = some (.dK kvs) ∧ Paired (LsR H f) kvs ls
theorem LsK.same {H H' : Hp} {p : Addr} {f : Kd → List Str} {ls : List Kd} (h : LsK H p f ls) (s : Same H H') : LsK H' p f ls := by
  obtain ⟨kvs, h1, h2⟩ := h
  exact ⟨kvs, s _ _ h1, pd_mono (fun kv k r => r.same s) h2⟩
theorem lsR_none {H : Hp} {f : Kd → List Str} {x : Str} : ∀ {kvs : List (Key × V)} {ls : List Kd}, Paired (LsR H f) kvs ls → ¬ x ∈ ls.map Kd.nm → valV kvs (kx x) = none
  | _, _, .nil, _ => valV_nil
  | kv :: kvs, k :: ls, .cons r t, h => by
    have h1 : ¬ kv.1 = kx x := fun e => h (by rw [r.1] at e; rw [List.map_cons]; exact (kx_inj.mp e) ▸ List.mem_cons_self)
    rw [valV_neg h1]
    exact lsR_none t fun z => h (List.mem_cons_of_mem _ z)
theorem lsR_val {H : Hp} {f : Kd → List Str} : ∀ {kvs : List (Key × V)} {ls : List Kd}, Paired (LsR H f) kvs ls → (ls.map Kd.nm).Nodup → ∀ k ∈ ls, ∃ q, valV kvs (kx k.nm) = some (.ref q) ∧ H q = some (.lst ((f k).map V.str))
  | _, _, .nil, _, k, h => absurd h List.not_mem_nil
  | kv :: kvs, a :: ls, .cons r t, nd, k, h => by
    rw [List.map_cons, List.nodup_cons] at nd
    obtain ⟨r1, q, r2, r3⟩ := r
    rcases List.mem_cons.mp h with rfl | h
    · exact ⟨q, by rw [valV_pos r1, r2], r3⟩
    · have ne : ¬ kv.1 = kx k.nm := fun e => nd.1 (by rw [r1] at e; exact (kx_inj.mp e) ▸ List.mem_map.mpr ⟨k, h, rfl⟩)
      rw [valV_neg ne]
      exact lsR_val t nd.2 k h
theorem lsR_len {H : Hp} {f : Kd → List Str} {kvs : List (Key × V)} {ls : List Kd} (h : Paired (LsR H f) kvs ls) : kvs.length = ls.length := pd_len h
theorem lsR_key {H : Hp} {f : Kd → List Str} : ∀ {kvs : List (Key × V)} {ls : List Kd}, Paired (LsR H f) kvs ls → ∀ {j : Nat} {k : Key} {v : V}, kvs[j]? = some (k, v) → ∃ kd, ls[j]? = some kd ∧ k = kx kd.nm
  | _, _, .nil, j, k, v, h => by simp at h
  | kv :: kvs, a :: ls, .cons r t, 0, k, v, h => by
    simp only [List.getElem?_cons_zero, Option.some.injEq] at h
    subst h
    exact ⟨a, rfl, r.1⟩
  | kv :: kvs, a :: ls, .cons r t, j + 1, k, v, h => by
    rw [List.getElem?_cons_succ] at h ⊢
    exact lsR_key t h
theorem LsK.lsD {H : Hp} {p : Addr} {f : Kd → List Str} {ls : List Kd} (h : LsK H p f ls) (nd : (ls.map Kd.nm).Nodup) : LsD H p f ls := by
  obtain ⟨kvs, h1, h2⟩ := h
  exact ⟨kvs, h1, Nat.le_of_eq (pd_len h2), lsR_val h2 nd⟩
theorem LsK.put {H : Hp} {p q : Addr} {f : Kd → List Str} {ks : List Kd} {j : Nat} {k : Kd} {kvs : List (Key × V)} (F : Frm ks) (hk : ks[j]? = some k) (h3 : Paired (LsR H f) kvs (ks.take j))
    (hp : H p = some (.dK kvs)) (hq : H q = some (.lst ((f k).map V.str))) : LsK (upd H p (.dK (putK kvs (kx k.nm) (.ref q)))) p f (ks.take (j + 1)) := by
  have nn : ¬ k.nm ∈ (ks.take j).map Kd.nm := fun z => by
    obtain ⟨x, hx, e⟩ := List.mem_map.mp z
    obtain ⟨i, hi⟩ := List.getElem?_of_mem hx
    have hij : i < j := by
      have := (List.getElem?_eq_some_iff.mp hi).1
      rw [List.length_take] at this
      omega
    rw [List.getElem?_take, if_pos hij] at hi
    have := nm_injU F hi hk e
    omega
  refine ⟨_, upd_same, ?_⟩
  rw [putK_new _ (lsR_none h3 nn), take_snoc hk]
  have np : ∀ r ys, H r = some (.lst ys) → upd H p (.dK (kvs ++ [(kx k.nm, .ref q)])) r = some (.lst ys) := fun r ys e => by
    rw [upd_ne (fun z => by rw [z, hp] at e; cases e)]
    exact e
  exact pd_snoc (pd_mono (fun kv z r => ⟨r.1, by
    obtain ⟨_, q', e1, e2⟩ := r
    exact ⟨q', e1, np _ _ e2⟩⟩) h3) ⟨rfl, q, rfl, np _ _ hq⟩
def spSeenK : Sp := fun vs H Q _ => ∃ (a : Addr) (as : List Addr) (ks : List Kd), vs = [.ref a] ∧ LayAt H a as ks ∧ ∀ (p : Addr) (H' : Hp), H p = none → LsK H' p (seenL ks) ks → Same H H' → Q (.ref p) H'
theorem pd_appA {α β : Type} {R : α → β → Prop} : ∀ {l : List α} {m : List β} {l' : List α} {m' : List β}, Paired R l m → Paired R l' m' → Paired R (l ++ l') (m ++ m')
  | _, _, _, _, .nil, h => h
  | _, _, _, _, .cons r t, h => .cons r (pd_appA t h)
/-- watched without need -/
def wasQ (ks : List Kd) (u : Kd) : Kd → Bool := fun o => watP u o && !benP ks u o
def wasA (ks : List Kd) (j : Nat) : List (Str × Str) := (ks.take j).flatMap fun u => (ks.filter (wasQ ks u)).map fun o => (u.nm, o.nm)
def wasP (ks : List Kd) : List (Str × Str) := ks.flatMap fun u => (ks.filter (wasQ ks u)).map fun o => (u.nm, o.nm)
theorem wasA_snoc {ks : List Kd} {j : Nat} {k : Kd} (hk : ks[j]? = some k) : wasA ks (j + 1) = wasA ks j ++ (ks.filter (wasQ ks k)).map fun o => (k.nm, o.nm) := by
  unfold wasA
  rw [take_snoc hk, List.flatMap_append]
  simp
theorem wasA_all (ks : List Kd) : wasA ks ks.length = wasP ks := by
  unfold wasA wasP
  rw [List.take_of_length_le (Nat.le_refl _)]
theorem wasA_len (ks : List Kd) : ∀ j, (wasA ks j).length ≤ j * ks.length
  | 0 => by simp [wasA]
  | j + 1 => by
    have ih := wasA_len ks j
    cases h : ks[j]? with
    | none =>
      have hj := List.getElem?_eq_none_iff.mp h
      have e : wasA ks (j + 1) = wasA ks j := by
        unfold wasA
        rw [List.take_of_length_le hj, List.take_of_length_le (by omega)]
      rw [e, Nat.add_mul]
      omega
    | some k =>
      rw [wasA_snoc h, List.length_append, List.length_map, Nat.add_mul]
      have := List.length_filter_le (wasQ ks k) ks
      omega
/-- of what is watched what is not beneath -/
def overW (ks : List Kd) (kd : Kd) (x : Str) : Bool := !decide (x ∈ U ks kd.nm)
theorem over_was (ks : List Kd) (kd : Kd) : (seenL ks kd).filter (overW ks kd) = (ks.filter (wasQ ks kd)).map Kd.nm := by
  unfold seenL wasQ overW benP
  rw [List.filter_map, List.filter_filter]
  congr 1
  refine List.filter_congr fun x _ => ?_
  simp only [Function.comp]
  rw [Bool.and_comm]
def spWast : Sp := fun vs H Q _ => ∃ (a : Addr) (as : List Addr) (ks : List Kd), vs = [.ref a] ∧ LayAt H a as ks ∧ ∀ (l : Addr) (ps : List Addr) (H' : Hp), H l = none → H' l = some (.lst (ps.map V.ref)) → PairsS H' ps (wasP ks) → Same H H' → Q (.ref l) H'
section
variable {P : Program} {w : World} {K : PySem.W.Frag} {mg : Str → Option Value} {base : Heap}
end
end Cp

set_option Elab.async false
set_option linter.all false
set_option maxRecDepth 100000
set_option maxHeartbeats 2000000
/-! ### a list or a tuple, walked -/
namespace L2
open PySem PySem.Spec PyProof.Rows
section
variable {X : Cx} {tg : Expr}
def iSeq (K : PySem.W.Frag) (tl : TE) : TI := fun σ H R => tl σ H fun x H1 => ∃ a, x = .ref a ∧ (((∃ xs, SqL K H1 a xs) ∧ R (Itl K a) H1) ∨ ((∃ xs, SqT K H1 a xs) ∧ R (Itt K a) H1))
theorem pi_seq {l : Expr} {tl : TE} (hl : PE X l tl) : PI X tg l (iSeq X.K tl) := by
  refine ⟨fun pins s σ H R I h => ?_⟩
  refine thn (hl.run pins s σ H _ I h) fun v s1 ⟨x, H1, I1, r1, q1⟩ => ?_
  obtain ⟨a, e, q⟩ := q1
  subst e
  cases r1
  rcases q with ⟨⟨xs, hq⟩, q⟩ | ⟨⟨xs, hq⟩, q⟩
  · obtain ⟨its, rv, p, hz⟩ := I1.list hq
    refine wpAny_pyIter_list p.isList ?_
    refine ⟨s1.heap.objs.size, [s1.heap.objs.size], _, _, H1, rfl, I1.kept (t' := s1.toks) fun b o e => Heap.get?_push_of_some _ e, turn_list a _, ⟨_, Heap.get?_push_size _ rfl, rfl, rfl⟩, fun b hb => ?_, q⟩
    have e : b = s1.heap.objs.size := by simpa using hb
    subst e
    exact I1.fpOk (Nat.le_refl _) (I1.hok.fresh (Nat.le_refl _))
  · obtain ⟨its, rv, p, hz⟩ := I1.tuple hq
    refine wpAny_pyIter_tuple (show s1.heap.IsTuple a its.toArray from p) ?_
    refine ⟨s1.heap.objs.size, [s1.heap.objs.size], _, _, H1, rfl, I1.kept (t' := s1.toks) fun b o e => Heap.get?_push_of_some _ e, turn_tuple a _, ⟨_, Heap.get?_push_size _ rfl, rfl, rfl⟩, fun b hb => ?_, q⟩
    have e : b = s1.heap.objs.size := by simpa using hb
    subst e
    exact I1.fpOk (Nat.le_refl _) (I1.hok.fresh (Nat.le_refl _))
end
end L2
/-! ### _law_group, _law_forced, _law_wide, _law_is_wide -/
namespace Cp
open PySem PySem.Spec L2 PyProof.Rows
/-- a list or a tuple of texts -/
def SqS (H : Hp) (a : Addr) (ws : List Str) : Prop := H a = some (.lst (ws.map V.str)) ∨ H a = some (.tup (ws.map V.str))
theorem SqS.sq {K : PySem.W.Frag} {H : Hp} {a : Addr} {ws : List Str} (h : SqS H a ws) : SqL K H a (ws.map V.str) ∨ SqT K H a (ws.map V.str) := h.imp SqL.of SqT.of
theorem SqS.at {H H' : Hp} {a : Addr} {ws : List Str} (h : SqS H a ws) (s : ∀ o, H a = some o → H' a = some o) : SqS H' a ws := h.imp (s _) (s _)
theorem SqS.ne {H : Hp} {a q : Addr} {ws : List Str} (h : SqS H a ws) (hq : H q = none) : a ≠ q := fun e => by
  rcases h with h | h <;> rw [e, hq] at h <;> cases h
theorem for_seq {K : PySem.W.Frag} {a : Addr} {ws : List Str} {g : TG} {tb : TS} {D : Ends} {σ : L2.St} {H : Hp} (hs : SqS H a ws) (Pv : Nat → L2.St → Hp → Prop) (h0 : Pv 0 σ H) (hl : ∀ i σ H', i ≤ ws.length → Pv i σ H' → SqS H a ws → SqS H' a ws)
    (hk : ∀ i σ H', i ≤ ws.length → Pv i σ H' → H' a = H a)
    (hb : ∀ i x σ H, ws[i]? = some x → Pv i σ H → g (.str x) σ H fun σ2 H2 => tb { D with nx := Pv (i + 1), ct := Pv (i + 1), bk := D.nx } σ2 H2) (hd : ∀ σ H, Pv ws.length σ H → D.nx σ H) :
    (((∃ xs, SqL K H a xs) ∧ ∃ W : Nat → Nat → L2.St → Hp → Prop, (∃ m, W 0 m σ H) ∧ ∀ i m σ H, W i m σ H →
      ((Itl K a).stop i H ∧ D.nx σ H) ∨ ((Itl K a).go i H ∧ ∃ N : L2.St → Hp → Prop, (∀ σ' H', N σ' H' → ∃ m', m' < m ∧ W (i + 1) m' σ' H') ∧ ∀ x H', (Itl K a).yld i H x H' → g x σ H' fun σ2 H2 => tb { D with nx := N, ct := N, bk := D.nx } σ2 H2)) ∨
    ((∃ xs, SqT K H a xs) ∧ ∃ W : Nat → Nat → L2.St → Hp → Prop, (∃ m, W 0 m σ H) ∧ ∀ i m σ H, W i m σ H →
      ((Itt K a).stop i H ∧ D.nx σ H) ∨ ((Itt K a).go i H ∧ ∃ N : L2.St → Hp → Prop, (∀ σ' H', N σ' H' → ∃ m', m' < m ∧ W (i + 1) m' σ' H') ∧ ∀ x H', (Itt K a).yld i H x H' → g x σ H' fun σ2 H2 => tb { D with nx := N, ct := N, bk := D.nx } σ2 H2))) := by
  rcases hs with h | h
  · refine .inl ⟨⟨_, SqL.of h⟩, for_list (xs := ws.map V.str) Pv h0 (fun i σ H' hi p => SqL.of ((hk i σ H' (by rwa [List.length_map] at hi) p).trans h)) (fun i x σ H hx p => ?_) fun σ H p => hd σ H (by rwa [List.length_map] at p)⟩
    obtain ⟨y, hy, rfl⟩ := str_at hx
    exact hb i y σ H hy p
  · refine .inr ⟨⟨_, SqT.of h⟩, for_tup (xs := ws.map V.str) Pv h0 (fun i σ H' hi p => SqT.of ((hk i σ H' (by rwa [List.length_map] at hi) p).trans h)) (fun i x σ H hx p => ?_) fun σ H p => hd σ H (by rwa [List.length_map] at p)⟩
    obtain ⟨y, hy, rfl⟩ := str_at hx
    exact hb i y σ H hy p
abbrev sGrp : Stmt := top 42
abbrev nGrp : List Str := ["plan", "wanted", "under", "found", "name", "one"]
def spGrp : Sp := fun vs H Q _ => ∃ (t a : Addr) (as : List Addr) (ks : List Kd) (ws : List Str), vs = [.ref t, .ref a] ∧ LayAt H t as ks ∧ SqS H a ws ∧ (∀ x ∈ ws, ∃ k ∈ ks, k.nm = x) ∧ ws.length ≤ 100 ∧ ∀ (l : Addr) (H' : Hp), H l = none → H' l = some (.lst (((ks.filter (chP ks ws)).map Kd.nm).map V.str)) → Same H H' → Q (.ref l) H'
theorem und_keysA {H0 H : Hp} {ks : List Kd} {kvs : List (Key × V)} (h : Paired (UndR H0 H) kvs (undAll ks ks [])) : kvs.map (·.1) = ks.map fun k => kx k.nm := by
  have gen : ∀ {kvs : List (Key × V)} {fs : List (Str × List Str)}, Paired (UndR H0 H) kvs fs → kvs.map (·.1) = (fs.map (·.1)).map kx := by
    intro kvs fs h
    induction h with
    | nil => rfl
    | cons r _ ih =>
      rw [List.map_cons, List.map_cons, List.map_cons, ih, r.1]
  rw [gen h, undAll_names]
  simp [List.map_map]
theorem und_keyA {H0 H : Hp} {ks : List Kd} {kvs : List (Key × V)} (h : Paired (UndR H0 H) kvs (undAll ks ks [])) {j : Nat} {k : Key} {v : V} (e : kvs[j]? = some (k, v)) : ∃ kd, ks[j]? = some kd ∧ k = kx kd.nm := by
  have z := congrArg (fun l : List Key => l[j]?) (und_keysA h)
  simp only [List.getElem?_map, e, Option.map_some] at z
  cases hk : ks[j]? with
  | none => rw [hk] at z; cases z
  | some kd =>
    rw [hk] at z
    exact ⟨kd, rfl, Option.some.inj z⟩
def grO (kd : Kd) (ks : List Kd) (l : List Str) : List Str := if l.any (fun w => decide (kd.nm = w) || decide (kd.nm ∈ U ks w)) = true then [kd.nm] else []
section
variable {P : Program} {w : World} {K : PySem.W.Frag} {mg : Str → Option Value} {base : Heap}
theorem scGrp : FnScope nGrp ["plan", "wanted"] (defScope sGrp) := ⟨rfl, rfl, rfl, by decide +kernel, rfl, by decide +kernel, by decide +kernel⟩
theorem ok_grp {f fU : Addr} {fd fdU : FuncData} (F : Fun K "_law_group" "_law_group" sGrp f fd)
    (GU : FnOk P w K mg base CX0 1 fU fdU ["plan"] spUnderT) (FU : Fun K "_law_under" "_law_under" sUnder fU fdU) (bU : Binds K fdU ["plan"] []) (mU : mg "_law_under" = some (.ref fU)) :
    FnOk P w K mg base CX0 2 f fd ["plan", "wanted"] spGrp := by
  refine F.ok scGrp (fun vs H Q E h => ?_) (fun cdv A outer s H vs Q E hr h => ?_)
  · obtain ⟨t, a, as, ks, ws, rfl, _⟩ := h; rfl
  · obtain ⟨t, a, as, ks, ws, rfl, L, hw, sub, wl, k⟩ := h
    have nd := scGrp.nd
    have hu := hu_of hr
    have hr1 : Room 1 _ := hr
    refine ⟨_, (pss_cons (ps_par (i := 2) (j := 3) (by rfl) nd rfl rfl (by decide) rfl rfl (pa_cons (pe_call GU hr1 (by rfl) mU FU.kp bU .nil pass0 (pa_cons (pv 0) pa_nil)) (pa_cons (pe_lst pa_nil) pa_nil)) (by rfl))
      (pss_cons (ps_lock (ps_for PassesOwn.never rfl (pi_keys (pv 2)) (pg_name (i := 4) nd rfl (.inl rfl)) (pss_one (ps_for PassesOwn.never rfl (pi_seq (pv 1)) (pg_name (i := 5) nd rfl (.inl rfl)) (pss_one (ps_if (PW.pt (pw_and (pt_cmpR op_notIn_seq (pv 4) (pv 3) (by rfl)) (pw_and1 (PW.pt (pw_or (pt_cmpR op_eq (pv 4) (pv 5) (nomark _)) (pw_or1 (pt_cmpR op_in_seq (pv 4) (pe_dget hu (pv 2) (pv 5) (fun _ _ => rfl)) (by rfl)))))))) (pss_one (ps_expr (pe_bm PySem.F.plainAttrs_list PySem.F.slot_list_append PySem.F.type_list_append mt_append (pv 3) (pa_cons (pv 4) pa_nil)))) pss_nil))))))
      (pss_one (ps_ret (pv 3))))), ?_⟩
    have l2 := L.l2
    refine ⟨_, rfl, t, as, ks, rfl, L.tp, L.rw, L.fm, L.l2, fun pu H1 hpu U1 s1 => ?_⟩
    have UP1 := UndAt.p U1
    obtain ⟨ku, hku, pku⟩ := U1
    refine ⟨by show 0 ≤ sizeLine; decide, fun q hq => ?_⟩
    refine ⟨_, _, rfl, ?_⟩
    have s2 := s1.trans (s_new (o := HO.lst []) hq)
    have hq0 : H q = none := s1.free hq
    have hku2 := upd_keep (u := .lst []) hku hq
    have q2 := upd_same (H := H1) (a := q) (o := .lst [])
    obtain ⟨ku', hku', hul⟩ := UP1.same (s_new (o := HO.lst []) hq)
    obtain rfl : ku' = ku := by
      rw [hku2] at hku'
      have := Option.some.inj hku'
      injection this with this
      exact this.symm
    have hrq : ∀ x ys, look? (undAll ks ks []) x = some ys → ∃ r, valV ku' (kx x) = some (.ref r) ∧ H1 r = some (.lst (ys.map V.str)) := fun x ys e => by
      obtain ⟨kk, e1, e2⟩ := UP1
      rw [hku] at e1
      have := Option.some.inj e1
      injection this with this
      subst this
      exact e2 x ys e
    have wne : a ≠ q := hw.ne hq0
    have hw2 := hw.at fun o e => s2 _ _ e
    have H1q : ∀ b o, H1 b = some o → upd H1 q (.lst []) b = some o := fun b o e => upd_keep e hq
    have s12 : Same H (upd H1 q (.lst [])) := s2
    have L2' := L.same s2
    generalize upd H1 q (.lst []) = H2 at s2 hku2 q2 hw2 H1q s12 L2' hku' hul ⊢
    have nuq : pu ≠ q := ne_of_none hku hq
    refine ⟨pu, _, hku2, trivial, fun od => ?_⟩
    have kln : ku'.length = ks.length := by
      have := congrArg List.length (und_keysA pku)
      rw [List.length_map, List.length_map] at this
      exact this
    have nau : a ≠ pu := fun e => by
      rcases hw2 with z | z <;> rw [e, hku2] at z <;> cases z
    refine ⟨_, rfl, pu, od, rfl, .inl ⟨_, upd_same, for_it walk_keys (fun j σ H' => ∃ (v4 v5 : Option V), σ = [some (.ref t), some (.ref a), some (.ref pu), some (.ref q), v4, v5] ∧ H' pu = some (.frz od (.dK ku')) ∧ H' q = some (.lst ((((ks.take j).filter (chP ks ws)).map Kd.nm).map V.str)) ∧ ∀ b o, H2 b = some o → b ≠ pu → b ≠ q → H' b = some o)
      ⟨_, _, rfl, upd_same, by rw [upd_ne nuq.symm]; exact q2, fun b o e hb _ => by rw [upd_ne hb]; exact e⟩ (fun j σ H' _ ⟨_, _, _, z, _⟩ => z) ?_ ?_⟩⟩
    · rintro j y σ Hx H5 hj ⟨v4, v5, rfl, f5, h5, s5⟩ ⟨rfl, kk, vv, hkv, ey⟩
      obtain ⟨kd, hk, rfl⟩ := und_keyA pku hkv
      obtain rfl : y = V.str kd.nm := ey
      have jl : j < 24 := by
        have := (List.getElem?_eq_some_iff.mp hk).1
        omega
      have notin : kd.nm ∉ ((ks.take j).filter (chP ks ws)).map Kd.nm := fun z => by
        obtain ⟨x, hx, e⟩ := List.mem_map.mp z
        obtain ⟨i, hi⟩ := List.getElem?_of_mem (List.mem_filter.mp hx).1
        have hij : i < j := by
          have := (List.getElem?_eq_some_iff.mp hi).1
          rw [List.length_take] at this
          omega
        rw [List.getElem?_take, if_pos hij] at hi
        have := nm_injU L.fm hi hk e
        omega
      have hw5 : SqS H5 a ws := hw2.at fun o e => s5 _ _ e nau wne
      refine ⟨_, rfl, a, rfl, for_seq hw5 (fun m σ H' => ∃ (v5 : Option V), σ = [some (.ref t), some (.ref a), some (.ref pu), some (.ref q), some (.str kd.nm), v5] ∧ H' pu = some (.frz od (.dK ku')) ∧ H' q = some (.lst (((((ks.take j).filter (chP ks ws)).map Kd.nm) ++ grO kd ks (ws.take m)).map V.str)) ∧ ∀ b, b ≠ q → H' b = H5 b)
        ⟨_, rfl, f5, by rw [List.take_zero]; show H5 q = some (HO.lst ((((ks.take j).filter (chP ks ws)).map Kd.nm ++ []).map V.str)); rw [List.append_nil]; exact h5, fun b _ => rfl⟩ (fun m σ H' _ ⟨_, _, _, _, z⟩ q' => q'.at fun o e => by rw [z _ wne]; exact e) (fun m σ H' _ ⟨_, _, _, _, z⟩ => z _ wne) ?_ ?_⟩
      · rintro m x σ H6 hx ⟨v5, rfl, f6, h6, s6⟩
        have gs : ∀ b : Bool, b = ((ws.take m).any (fun w => decide (kd.nm = w) || decide (kd.nm ∈ U ks w)) || (decide (kd.nm = x) || decide (kd.nm ∈ U ks x))) → grO kd ks (ws.take (m + 1)) = if b = true then [kd.nm] else [] := fun b e => by
          unfold grO
          rw [take_snoc hx, List.any_append]
          simp only [List.any_cons, List.any_nil, Bool.or_false]
          rw [← e]
        have ml : m < 100 := by
          have := (List.getElem?_eq_some_iff.mp hx).1
          omega
        have fl := List.length_filter_le (chP ks ws) (ks.take j)
        rw [List.length_take] at fl
        have gl : (grO kd ks (ws.take m)).length ≤ 1 := by
          unfold grO
          split <;> simp
        refine ⟨_, rfl, _, rfl, q, _, rfl, .inl (SqL.of h6), rfl, flat_strs _, _, rfl, ?_⟩
        rw [if_pos rfl, in_strs]
        refine ite2 (fun h1 => ?_) (fun h1 => ?_)
        · have hany : ((ws.take m).any (fun w => decide (kd.nm = w) || decide (kd.nm ∈ U ks w))) = false := by
            cases ha : ((ws.take m).any (fun w => decide (kd.nm = w) || decide (kd.nm ∈ U ks w))) with
            | false => rfl
            | true =>
              exfalso
              rw [Bool.not_eq_true', decide_eq_false_iff_not] at h1
              refine h1 (List.mem_append_right _ ?_)
              unfold grO
              rw [if_pos ha]
              exact List.mem_singleton.mpr rfl
          have g0 : grO kd ks (ws.take m) = [] := by
            unfold grO
            rw [hany, if_neg Bool.false_ne_true]
          rw [hany, Bool.false_or] at gs
          rw [g0, List.append_nil] at h6
          have app : (decide (kd.nm = x) || decide (kd.nm ∈ U ks x)) = true → tDrop (tBM K "list" rAppend (tVar 3) (tCons (tVar 4) tNil)) { nx := fun σ H' => ∃ (v5 : Option V), σ = [some (.ref t), some (.ref a), some (.ref pu), some (.ref q), some (.str kd.nm), v5] ∧ H' pu = some (.frz od (.dK ku')) ∧ H' q = some (.lst (((((ks.take j).filter (chP ks ws)).map Kd.nm) ++ grO kd ks (ws.take (m + 1))).map V.str)) ∧ ∀ b, b ≠ q → H' b = H5 b, rt := Q } [some (.ref t), some (.ref a), some (.ref pu), some (.ref q), some (.str kd.nm), some (.str x)] H6 := fun e => by
            refine ⟨_, rfl, .inl ⟨rfl, _, SqL.of h6⟩, ?_⟩
            refine ⟨_, rfl, q, _, _, rfl, rfl, h6, by rw [List.length_map, List.length_map]; exact small1000 (by omega), _, rfl, ?_, ?_, fun b hb => by rw [upd_ne hb]; exact s6 _ hb⟩
            · rw [upd_ne nuq]
              exact f6
            · rw [upd_same, gs true e.symm, if_pos rfl, List.map_append]
              rfl
          refine ⟨_, rfl, _, rfl, rfl, _, rfl, ite2 (fun h2 => ?_) (fun h2 => ?_)⟩
          · have e2 : kd.nm = x := by
              have := of_decide_eq_true h2
              injection this
            exact app (by rw [decide_eq_true e2]; rfl)
          · have e2 : ¬ kd.nm = x := fun z => h2 (decide_eq_true (by rw [z]))
            obtain ⟨kb, hkb, eb⟩ := sub x (List.mem_of_getElem? hx)
            obtain ⟨ib, hib⟩ := List.getElem?_of_mem hkb
            obtain ⟨r, hr1, hr2⟩ := hrq _ _ (look_U L.fm hib)
            have hr5 : H6 r = some (.lst ((U ks kb.nm).map V.str)) := by
              have n1 : r ≠ q := ne_of_none hr2 hq
              have n2 : r ≠ pu := fun z => by rw [z, hku] at hr2; cases hr2
              rw [s6 _ n1]
              exact s5 _ _ (H1q _ _ hr2) n2 n1
            rw [eb] at hr1 hr5
            have dg : DGet H6 pu (.str x) (some (.ref r)) := by
              have z := DGet.z (k := kx x) f6
              rw [hr1] at z
              exact z
            refine ⟨_, rfl, _, rfl, _, rfl, pu, _, rfl, dg, r, _, rfl, .inl (SqL.of hr5), rfl, flat_strs _, _, rfl, ?_⟩
            rw [if_neg (by decide), in_strs]
            refine ite2 (fun h3 => ?_) (fun h3 => ?_)
            · exact app (by rw [h3, Bool.or_true])
            · refine ⟨_, rfl, f6, ?_, s6⟩
              rw [gs false (by rw [decide_eq_false e2, Bool.eq_false_iff.mpr h3]; rfl), if_neg Bool.false_ne_true, List.append_nil]
              exact h6
        · have hin : ((ws.take m).any (fun w => decide (kd.nm = w) || decide (kd.nm ∈ U ks w))) = true := by
            cases ha : ((ws.take m).any (fun w => decide (kd.nm = w) || decide (kd.nm ∈ U ks w))) with
            | true => rfl
            | false =>
              exfalso
              refine h1 ?_
              rw [Bool.not_eq_true', decide_eq_false_iff_not]
              intro z
              unfold grO at z
              rw [ha, if_neg Bool.false_ne_true, List.append_nil] at z
              exact notin z
          refine ⟨_, rfl, f6, ?_, s6⟩
          rw [gs true (by rw [hin]; rfl), if_pos rfl]
          unfold grO at h6
          rw [hin, if_pos rfl] at h6
          exact h6
      · rintro σ H6 ⟨v5, rfl, f6, h6, s6⟩
        rw [List.take_of_length_le (Nat.le_refl _)] at h6
        refine ⟨_, _, rfl, f6, ?_, fun b o e h1 h2 => by rw [s6 _ h2]; exact s5 _ _ e h1 h2⟩
        have eg : grO kd ks ws = List.map Kd.nm (List.filter (chP ks ws) [kd]) := by
          unfold grO
          rw [List.filter_cons]
          unfold chP
          split <;> rfl
        rw [h6, take_snoc hk, List.filter_append, List.map_append, eg]
        simp only [List.map_append]
    · rintro σ H5 ⟨v4, v5, rfl, f5, h5, s5⟩
      rw [kln, List.take_of_length_le (Nat.le_refl _)] at h5
      have sb : Same H2 (upd H5 pu (.dK ku')) ∨ True := .inr trivial
      refine ⟨f5, _, rfl, k q _ hq0 (by rw [upd_ne nuq.symm]; exact h5) fun b o e => ?_⟩
      by_cases hb : b = pu
      · subst hb
        rw [upd_same, ← s12 _ _ e]
        exact hku2.symm
      · rw [upd_ne hb]
        exact s5 _ _ (s12 _ _ e) hb (ne_of_none e hq0)
end
end Cp

set_option Elab.async false
set_option linter.all false
set_option maxRecDepth 100000
set_option maxHeartbeats 2000000
/-! ### _law_forced, _law_wide, _law_is_wide -/
namespace Cp
open PySem PySem.Spec L2 PyProof.Rows
abbrev sFrc : Stmt := top 43
abbrev sWde : Stmt := top 44
abbrev sIsWd : Stmt := top 45
abbrev nFrc : List Str := ["plan", "found", "under", "signs", "name", "ed", "bases", "letter", "mark", "kind", "one"]
abbrev nWde : List Str := ["plan", "wanted", "found", "more", "kind"]
abbrev nIsWd : List Str := ["plan", "found", "wanted", "signs", "name", "ed", "bases", "letter", "mark", "kind", "one"]
/-- the letters of the kinds that are named -/
def sgL (ks : List Kd) (fs : List Str) : List Str := (ks.filter fun u => decide (u.nm ∈ fs)).map fun u => ltr u.lt
theorem sgL_mem {ks : List Kd} {fs : List Str} {o : Kd} : ltr o.lt ∈ sgL ks fs ↔ ∃ u ∈ ks, u.nm ∈ fs ∧ u.lt = o.lt := by
  unfold sgL
  rw [List.mem_map]
  constructor
  · rintro ⟨u, hu, e⟩
    obtain ⟨h1, h2⟩ := List.mem_filter.mp hu
    exact ⟨u, h1, of_decide_eq_true h2, ltr_inj e⟩
  · rintro ⟨u, hu, h, e⟩
    exact ⟨u, List.mem_filter.mpr ⟨hu, decide_eq_true h⟩, by rw [e]⟩
def aboL (ks : List Kd) (fs : List Str) (k : Kd) : List Str := fs.filter fun w => decide (k.nm ∈ U ks w)
/-- what must be put in -/
def frcP (ks : List Kd) (fs : List Str) (k : Kd) : Bool := !decide (k.nm ∈ fs) && (decide (ltr k.lt ∈ sgL ks fs) || !(aboL ks fs k).isEmpty)
def frcL (ks : List Kd) (fs : List Str) : List Str := match ks.find? (frcP ks fs) with
  | some k => [k.nm]
  | none => []
theorem frcL_at {ks : List Kd} {fs : List Str} {j : Nat} {k : Kd} (hk : ks[j]? = some k) (h : frcP ks fs k = true) (ha : ∀ x ∈ ks.take j, frcP ks fs x = false) : frcL ks fs = [k.nm] := by
  have gen : ∀ p : Kd → Bool, p k = true → (∀ x ∈ ks.take j, p x = false) → ks.find? p = some k := fun p hp hn => by
    obtain ⟨hj, e⟩ := List.getElem?_eq_some_iff.mp hk
    have es : ks = ks.take j ++ k :: ks.drop (j + 1) := by rw [← e, List.getElem_cons_drop, List.take_append_drop]
    rw [es, List.find?_append, List.find?_eq_none.mpr fun x hx => by rw [hn x hx]; decide, List.find?_cons_of_pos hp]
    rfl
  have := gen (frcP ks fs) h ha
  unfold frcL
  rw [this]
theorem frcL_nil {ks : List Kd} {fs : List Str} (ha : ∀ x ∈ ks, frcP ks fs x = false) : frcL ks fs = [] := by
  have : ks.find? (frcP ks fs) = none := List.find?_eq_none.mpr fun x hx => by rw [ha x hx]; decide
  unfold frcL
  rw [this]
theorem frcL_some {ks : List Kd} {fs : List Str} : frcL ks fs = [] ∧ (∀ x ∈ ks, frcP ks fs x = false) ∨ ∃ k ∈ ks, frcP ks fs k = true ∧ frcL ks fs = [k.nm] := by
  unfold frcL
  cases h : ks.find? (frcP ks fs) with
  | none => exact .inl ⟨rfl, fun x hx => Bool.eq_false_iff.mpr fun z => List.find?_eq_none.mp h x hx z⟩
  | some k => exact .inr ⟨k, List.mem_of_find?_eq_some h, List.find?_some h, rfl⟩
theorem frc_wid {ks : List Kd} {ws fs : List Str} (F : Frm ks) (hf : ∀ x ∈ fs, ∃ k ∈ ks, k.nm = x ∧ widP ks ws k = true) {k : Kd} (hk : k ∈ ks) (h : frcP ks fs k = true) : widP ks ws k = true := by
  unfold frcP at h
  rw [Bool.and_eq_true, Bool.or_eq_true] at h
  have byn : ∀ {u : Kd}, u ∈ ks → u.nm ∈ fs → widP ks ws u = true := fun {u} hu hm => by
    obtain ⟨z, hz, e, hw⟩ := hf _ hm
    obtain ⟨i, hi⟩ := List.getElem?_of_mem hz
    obtain ⟨j, hj⟩ := List.getElem?_of_mem hu
    have := nm_injU F hi hj e
    subst this
    rw [hi] at hj
    cases hj
    exact hw
  rcases h.2 with h2 | h2
  · obtain ⟨u, hu, hm, e⟩ := sgL_mem.mp (of_decide_eq_true h2)
    exact widP_let hu hk (byn hu hm) e
  · cases ha : aboL ks fs k with
    | nil => rw [ha] at h2; cases h2
    | cons w r =>
      have hw : w ∈ aboL ks fs k := by rw [ha]; exact List.mem_cons_self
      obtain ⟨w1, w2⟩ := List.mem_filter.mp hw
      obtain ⟨u, hu, rfl, hwd⟩ := hf _ w1
      exact widP_ben hu hk hwd (of_decide_eq_true w2)
/-- where nothing is to be put in, the set is the widened one -/
theorem frc_end {ks : List Kd} {ws fs : List Str} (F : Frm ks) (hf : ∀ x ∈ fs, ∃ k ∈ ks, k.nm = x ∧ widP ks ws k = true) (h0 : ∀ x ∈ ws, x ∈ fs) (hn : ∀ x ∈ ks, frcP ks fs x = false) : ks.filter (fun k => decide (k.nm ∈ fs)) = ks.filter (widP ks ws) := by
  have cl : ∀ u ∈ ks, ∀ o ∈ ks, u.nm ∈ fs → (u.lt = o.lt ∨ o.nm ∈ U ks u.nm) → o.nm ∈ fs := fun u hu o ho hm h => by
    refine Classical.byContradiction fun hno => ?_
    have z := hn o ho
    unfold frcP at z
    rw [decide_eq_false hno] at z
    rcases h with h | h
    · rw [decide_eq_true (sgL_mem.mpr ⟨u, hu, hm, h⟩)] at z
      cases z
    · have : (aboL ks fs o).isEmpty = false := by
        have hw : u.nm ∈ aboL ks fs o := List.mem_filter.mpr ⟨hm, decide_eq_true h⟩
        cases e : aboL ks fs o with
        | nil => rw [e] at hw; exact absurd hw List.not_mem_nil
        | cons _ _ => rfl
      rw [this, Bool.not_false, Bool.or_true] at z
      cases z
  refine List.filter_congr fun k hk => ?_
  rw [Bool.eq_iff_iff, decide_eq_true_eq]
  constructor
  · intro h
    obtain ⟨z, hz, e, hw⟩ := hf _ h
    obtain ⟨i, hi⟩ := List.getElem?_of_mem hz
    obtain ⟨j, hj⟩ := List.getElem?_of_mem hk
    have := nm_injU F hi hj e
    subst this
    rw [hi] at hj
    cases hj
    exact hw
  · intro h
    have := widP_le (q := fun k => decide (k.nm ∈ fs)) (fun o ho hc => ?_) (closed_step F (fun u hu o ho h1 h2 => decide_eq_true (cl u hu o ho (of_decide_eq_true h1) (.inl h2))) fun u hu o ho h1 h2 => decide_eq_true (cl u hu o ho (of_decide_eq_true h1) (.inr h2))) k hk h
    · exact of_decide_eq_true this
    · unfold chP at hc
      obtain ⟨x, hx, hc⟩ := List.any_eq_true.mp hc
      rw [Bool.or_eq_true] at hc
      rcases hc with hc | hc
      · exact decide_eq_true ((of_decide_eq_true hc) ▸ h0 x hx)
      · obtain ⟨z, hz, rfl, hw⟩ := hf _ (h0 x hx)
        exact decide_eq_true (cl z hz o ho (h0 _ hx) (.inr (of_decide_eq_true hc)))
theorem nd_len : ∀ {a b : List Str}, a.Nodup → (∀ x ∈ a, x ∈ b) → a.length ≤ b.length
  | [], _, _, _ => Nat.zero_le _
  | x :: r, b, h, hs => by
    rw [List.nodup_cons] at h
    have hx := hs x List.mem_cons_self
    have ih := nd_len (b := b.erase x) h.2 fun y hy => by
      refine (List.mem_erase_of_ne (fun (e : y = x) => h.1 (e ▸ hy))).mpr (hs y (List.mem_cons_of_mem _ hy))
    rw [List.length_erase_of_mem hx] at ih
    have : 0 < b.length := List.length_pos_of_mem hx
    rw [List.length_cons]
    omega
def spFrc : Sp := fun vs H Q _ => ∃ (t a : Addr) (as : List Addr) (ks : List Kd) (fs : List Str), vs = [.ref t, .ref a] ∧ LayAt H t as ks ∧ H a = some (.lst (fs.map V.str)) ∧ (∀ x ∈ fs, ∃ k ∈ ks, k.nm = x) ∧ fs.length ≤ 100 ∧ ∀ (l : Addr) (H' : Hp), H l = none → H' l = some (.lst ((frcL ks fs).map V.str)) → Same H H' → Q (.ref l) H'
def spWde : Sp := fun vs H Q _ => ∃ (t a : Addr) (as : List Addr) (ks : List Kd) (ws : List Str), vs = [.ref t, .ref a] ∧ LayAt H t as ks ∧ H a = some (.tup (ws.map V.str)) ∧ NmsOf ks ws ∧ ∀ (r : Addr) (H' : Hp), H r = none → H' r = some (.tup (((ks.filter (widP ks ws)).map Kd.nm).map V.str)) → Same H H' → Q (.ref r) H'
def spIsWd : Sp := fun vs H Q _ => ∃ (t f a : Addr) (as : List Addr) (ks : List Kd) (ws : List Str), vs = [.ref t, .ref f, .ref a] ∧ LayAt H t as ks ∧ H f = some (.tup (((ks.filter (widP ks ws)).map Kd.nm).map V.str)) ∧ H a = some (.tup (ws.map V.str)) ∧ NmsOf ks ws ∧ ∀ H', Same H H' → Q (.bl true) H'
section
variable {P : Program} {w : World} {K : PySem.W.Frag} {mg : Str → Option Value} {base : Heap}
theorem scFrc : FnScope nFrc ["plan", "found"] (defScope sFrc) := ⟨rfl, rfl, rfl, by decide +kernel, rfl, by decide +kernel, by decide +kernel⟩
theorem ok_frc {f fU : Addr} {fd fdU : FuncData} (F : Fun K "_law_forced" "_law_forced" sFrc f fd)
    (GU : FnOk P w K mg base CX0 1 fU fdU ["plan"] spUnderT) (FU : Fun K "_law_under" "_law_under" sUnder fU fdU) (bU : Binds K fdU ["plan"] []) (mU : mg "_law_under" = some (.ref fU)) :
    FnOk P w K mg base CX0 2 f fd ["plan", "found"] spFrc := by
  refine F.ok scFrc (fun vs H Q E h => ?_) (fun cdv A outer s H vs Q E hr h => ?_)
  · obtain ⟨t, a, as, ks, fs, rfl, _⟩ := h; rfl
  · obtain ⟨t, a, as, ks, fs, rfl, L, hw, sub, wl, k⟩ := h
    have nd := scFrc.nd
    have hu := hu_of hr
    have hr1 : Room 1 _ := hr
    refine ⟨_, (pss_cons (ps_set (i := 2) nd rfl (.inr rfl) (pe_call GU hr1 (by rfl) mU FU.kp bU .nil pass0 (pa_cons (pv 0) pa_nil)))
      (pss_cons (ps_setLc (i := 3) (own := [("kind", 9)]) (g := gName 9) rfl nd rfl rfl (sw_true rfl rfl rfl (by decide +kernel)) (pi_tup (pv 0)) (blkOk_by (N := nFrc) (sc := defScope sFrc) (by decide +kernel)) (fun _ _ _ _ _ => (pg_name (i := 9) nd rfl (.inl rfl))) (fun _ _ _ _ _ => pts_one (pt_cmpR (show OpR _ _ (rIn K false) from op_in_seq) (pe_ix (show IxR _ (rIxT K) from ix_tup) (pv 9) pe_int (fun _ _ => rfl)) (pv 1) (by rfl))) (fun _ _ _ _ _ => (pe_ix (show IxR _ (rIxT K) from ix_tup) (pv 9) pe_int (fun _ _ => rfl))))
      (pss_cons (ps_for PassesOwn.never rfl (pi_tup (pv 0)) (pg_tup (by rfl) (pgs_cons (pg_name (i := 4) nd rfl (.inr rfl)) (pgs_cons (pg_name (i := 5) nd rfl (.inl rfl)) (pgs_cons (pg_name (i := 6) nd rfl (.inl rfl)) (pgs_cons (pg_name (i := 7) nd rfl (.inl rfl)) (pgs_cons (pg_name (i := 8) nd rfl (.inl rfl)) pgs_nil)))))) (pss_one (ps_if (pt_cmpR op_notIn_seq (pv 4) (pv 1) (by rfl)) (pss_one (ps_if (PW.pt (pw_or (pt_cmpR op_in_seq (pv 7) (pv 3) (by rfl)) (pw_or1 (pt_cmpR (op_neD hr.units) (pe_lc (own := [("one", 10)]) (g := gName 10) rfl nd (pi_list (pv 1)) (blkOk_by (N := nFrc) (sc := defScope sFrc) (by decide +kernel)) (fun _ _ _ _ _ => (pg_name (i := 10) nd rfl (.inl rfl))) (fun _ _ _ _ _ => pts_one (pt_cmpR (show OpR _ _ (rIn K false) from op_in_seq) (pv 4) (pe_dget hu (pv 2) (pv 10) (fun _ _ => rfl)) (by rfl))) (fun _ _ _ _ _ => (pv 10))) (pe_lst pa_nil) (nomark _))))) (pss_one (ps_ret (pe_lst (pa_cons (pv 4) pa_nil)))) pss_nil)) pss_nil)))
      (pss_one (ps_ret (pe_lst pa_nil)))))), ?_⟩
    have l2 := L.l2
    refine ⟨_, rfl, t, as, ks, rfl, L.tp, L.rw, L.fm, L.l2, fun pu H1 hpu U1 s1 => ?_⟩
    obtain ⟨ku, hku, hul⟩ := UndAt.p U1
    have L1 := L.same s1
    have hw1 := s1 _ _ hw
    refine ⟨_, rfl, t, rfl, ⟨_, SqT.of L1.tp⟩, fun C hC => lc_tup (K := K) (a := t) (xs := as.map V.ref) (fun m H' => H' C = some (.lst ((sgL (ks.take m) fs).map V.str)) ∧ Same H1 H') ⟨upd_same, same_new hC⟩ (fun m H' _ ⟨_, z⟩ => SqT.of (z _ _ L1.tp)) ?_ ?_⟩
    · rintro m y H3 hm3 ⟨h3, s3⟩
      obtain ⟨x2, k2, b2, rfl, hk2, hm2, hml, d1, d2⟩ := (L1.same s3).row hm3
      have hl : (sgL (ks.take m) fs).length ≤ m := by
        unfold sgL
        rw [List.length_map]
        refine Nat.le_trans (List.length_filter_le _ _) ?_
        rw [List.length_take]
        omega
      refine ⟨rfl, _, rfl, x2, _, _, _, rfl, rfl, SqT.of d1, rfl, _, rfl, a, _, rfl, .inl (SqL.of (s3 _ _ hw1)), rfl, flat_strs _, _, rfl, ?_⟩
      rw [if_neg (by decide), in_strs]
      refine ite2 (fun hin => ?_) (fun hin => ?_)
      · refine ⟨_, rfl, x2, _, _, _, rfl, rfl, SqT.of d1, rfl, _, h3, by rw [List.length_map]; exact small1000 (by omega), ?_, fun c o e => by rw [upd_ne (ne_of_none e hC)]; exact s3 _ _ e⟩
        unfold sgL
        rw [take_snoc hk2, List.filter_append, filt1 (p := fun u : Kd => decide (u.nm ∈ fs)) hin, List.map_append, List.map_append]
        exact upd_same
      · refine ⟨?_, s3⟩
        unfold sgL
        rw [take_snoc hk2, List.filter_append, filt0 (p := fun u : Kd => decide (u.nm ∈ fs)) hin, List.append_nil]
        exact h3
    · rintro H3 ⟨h3, s3⟩
      rw [List.length_map, L.rw.1, List.take_of_length_le (Nat.le_refl _)] at h3
      have s03 := s1.trans s3
      have L3 := L1.same s3
      have hw3 := s3 _ _ hw1
      have hku3 := s3 _ _ hku
      have hl0 : H C = none := s1.free hC
      refine ⟨_, rfl, t, rfl, ⟨_, SqT.of L3.tp⟩, for_tup (K := K) (a := t) (xs := as.map V.ref) (fun j σ H' => ∃ (v4 v5 v6 v7 v8 : Option V), σ = [some (.ref t), some (.ref a), some (.ref pu), some (.ref C), v4, v5, v6, v7, v8, none, none] ∧ Same H3 H' ∧ ∀ x ∈ ks.take j, frcP ks fs x = false)
        ⟨_, _, _, _, _, rfl, Same.refl H3, fun x hx => by simp at hx⟩ (fun j σ H' _ ⟨_, _, _, _, _, _, z, _⟩ => SqT.of (z _ _ L3.tp)) ?_ ?_⟩
      · rintro j y σ H5 hj ⟨v4, v5, v6, v7, v8, rfl, s5, no⟩
        obtain ⟨x, kd, b, rfl, hk, hm, hjl, c1, c2⟩ := (L3.same s5).row hj
        have nxt : frcP ks fs kd = false → ∀ x ∈ ks.take (j + 1), frcP ks fs x = false := fun e y hy => by
          rw [take_snoc hk] at hy
          rcases List.mem_append.mp hy with hy | hy
          · exact no y hy
          · rw [List.mem_singleton.mp hy]; exact e
        refine ⟨x, _, rfl, SqT.of c1, rfl, _, _, rfl, _, _, rfl, _, _, rfl, _, _, rfl, _, _, rfl, rfl, ?_⟩
        have hw5 := s5 _ _ hw3
        have h5 := s5 _ _ h3
        have ret : ∀ H6, Same H5 H6 → frcP ks fs kd = true → ∀ l, H6 l = none → Q (.ref l) (upd H6 l (.lst [V.str kd.nm])) := fun H6 s6 hf l hl => by
          have s06 := (s03.trans s5).trans s6
          exact k l _ (s06.free hl) (by rw [frcL_at hk hf no]; exact upd_same) (same_upd s06 hl)
        refine ⟨_, rfl, _, rfl, a, _, rfl, .inl (SqL.of hw5), rfl, flat_strs _, _, rfl, ?_⟩
        rw [if_pos rfl, in_strs]
        refine ite2 (fun h1 => ?_) (fun h1 => ?_)
        · refine ⟨_, rfl, _, rfl, C, _, rfl, .inl (SqL.of h5), rfl, flat_strs _, _, rfl, ?_⟩
          rw [if_neg (by decide), in_strs]
          refine ite2 (fun h2 => ?_) (fun h2 => ?_)
          · have hf : frcP ks fs kd = true := by unfold frcP; rw [h1, h2]; rfl
            exact ⟨_, rfl, by show 1 ≤ sizeLine; decide, ret H5 (Same.refl _) hf⟩
          · have hku5 := s5 _ _ hku3
            refine ⟨_, rfl, a, rfl, ⟨_, SqL.of hw5⟩, fun D hD => lc_list (K := K) (a := a) (xs := fs.map V.str) (fun m H' => H' D = some (.lst (((fs.take m).filter fun w => decide (kd.nm ∈ U ks w)).map V.str)) ∧ Same H5 H') ⟨by rw [List.take_zero]; exact upd_same, same_new hD⟩ (fun m H' _ ⟨_, z⟩ => SqL.of (z _ _ hw5)) ?_ ?_⟩
            · rintro m y H7 hm7 ⟨h7, s7⟩
              obtain ⟨w, hwm, rfl⟩ := str_at hm7
              obtain ⟨kb, hkb, eb⟩ := sub w (List.mem_of_getElem? hwm)
              obtain ⟨ib, hib⟩ := List.getElem?_of_mem hkb
              obtain ⟨r, hr1, hr2⟩ := hul _ _ (look_U L.fm hib)
              have hr7 := s7 _ _ (s5 _ _ (s3 _ _ hr2))
              rw [eb] at hr1 hr7
              have dg : DGet H7 pu (.str w) (some (.ref r)) := by rw [← hr1]; exact DGet.k (k := kx w) (s7 _ _ hku5)
              have hl : ((fs.take m).filter fun w => decide (kd.nm ∈ U ks w)).length ≤ m := by
                refine Nat.le_trans (List.length_filter_le _ _) ?_
                rw [List.length_take]
                omega
              have ml : m < 100 := by
                have := (List.getElem?_eq_some_iff.mp hwm).1
                omega
              refine ⟨rfl, _, rfl, _, rfl, _, rfl, pu, _, rfl, dg, r, _, rfl, .inl (SqL.of hr7), rfl, flat_strs _, _, rfl, ?_⟩
              rw [if_neg (by decide), in_strs]
              refine ite2 (fun hin => ?_) (fun hin => ?_)
              · refine ⟨_, rfl, _, h7, by rw [List.length_map]; exact small1000 (by omega), ?_, fun c o e => by rw [upd_ne (ne_of_none e hD)]; exact s7 _ _ e⟩
                rw [take_snoc hwm, List.filter_append, filt1 (p := fun w => decide (kd.nm ∈ U ks w)) hin, List.map_append]
                exact upd_same
              · refine ⟨?_, s7⟩
                rw [take_snoc hwm, List.filter_append, filt0 (p := fun w => decide (kd.nm ∈ U ks w)) hin, List.append_nil]
                exact h7
            · rintro H7 ⟨h7, s7⟩
              rw [List.length_map, List.take_of_length_le (Nat.le_refl _)] at h7
              refine ⟨by show 0 ≤ sizeLine; decide, fun q' hq' => ?_⟩
              have oks : ∀ x ∈ aboL ks fs kd, okS x = true := fun x hx => by
                obtain ⟨kb, hkb, rfl⟩ := sub x (List.mem_filter.mp hx).1
                exact (okN_S (L.fm.ok kb hkb).nm).1
              have s57 := s7.trans (s_new (o := HO.lst []) hq')
              refine ⟨.list ((aboL ks fs kd).map PyData.str), .list [], .lst (SqL.of (upd_keep h7 hq')) (dp_strs _), .lst (SqL.of upd_same) .nil, strs_shaped oks, rfl, _, rfl, ?_⟩
              rw [eqv_nilD, isE_map]
              refine ite2 (fun h3 => ?_) (fun h3 => ?_)
              · have hf : frcP ks fs kd = true := by unfold frcP; rw [h1, h3]; simp
                exact ⟨_, rfl, by show 1 ≤ sizeLine; decide, ret _ s57 hf⟩
              · refine ⟨_, _, _, _, _, rfl, s5.trans s57, nxt ?_⟩
                unfold frcP
                rw [Bool.eq_false_iff.mpr h2, Bool.eq_false_iff.mpr h3, Bool.false_or, Bool.and_false]
        · refine ⟨_, _, _, _, _, rfl, s5, nxt ?_⟩
          unfold frcP
          rw [Bool.eq_false_iff.mpr h1, Bool.false_and]
      · rintro σ H5 ⟨v4, v5, v6, v7, v8, rfl, s5, no⟩
        rw [List.length_map, L.rw.1, List.take_of_length_le (Nat.le_refl _)] at no
        refine ⟨by show 0 ≤ sizeLine; decide, fun l hl => ?_⟩
        have s05 := s03.trans s5
        exact k l _ (s05.free hl) (by rw [frcL_nil no]; exact upd_same) (same_upd s05 hl)
theorem scWde : FnScope nWde ["plan", "wanted"] (defScope sWde) := ⟨rfl, rfl, rfl, by decide +kernel, rfl, by decide +kernel, by decide +kernel⟩
theorem ok_wde {f fF : Addr} {fd fdF : FuncData} (F : Fun K "_law_wide" "_law_wide" sWde f fd) (T : TB mg)
    (GF : FnOk P w K mg base CX0 2 fF fdF ["plan", "found"] spFrc) (FF : Fun K "_law_forced" "_law_forced" sFrc fF fdF) (bF : Binds K fdF ["plan", "found"] []) (mF : mg "_law_forced" = some (.ref fF)) :
    FnOk P w K mg base CX0 3 f fd ["plan", "wanted"] spWde := by
  refine F.ok scWde (fun vs H Q E h => ?_) (fun cdv A outer s H vs Q E hr h => ?_)
  · obtain ⟨t, a, as, ks, ws, rfl, _⟩ := h; rfl
  · obtain ⟨t, a, as, ks, ws, rfl, L, hw, N, k⟩ := h
    have nd := scWde.nd
    have hu := hu_of hr
    have hr2 : Room 2 _ := hr
    refine ⟨_, (pss_cons (ps_asg (pe_tup (pa_cons (pe_callTy call_list_of (by rfl) T.list (by decide +kernel) (pa_cons (pv 1) pa_nil)) (pa_cons (pe_lst (pa_cons pe_str pa_nil)) pa_nil))) (pg_tup (by rfl) (pgs_cons (pg_name (i := 2) nd rfl (.inr rfl)) (pgs_cons (pg_name (i := 3) nd rfl (.inl rfl)) pgs_nil))))
      (pss_cons (ps_while PassesOwn.never (pt_cmpR (op_neD hr.units) (pv 3) (pe_lst pa_nil) (nomark _)) (pss_cons (ps_set (i := 3) nd rfl (.inl rfl) (pe_call GF hr2 (by rfl) mF FF.kp bF .nil pass0 (pa_cons (pv 0) (pa_cons (pv 2) pa_nil))))
      (pss_one (ps_set (i := 2) nd rfl (.inr rfl) (pe_op op_cat (pv 2) (pv 3))))))
      (pss_one (ps_ret (pe_callTy call_tuple_of (by rfl) T.tuple (by decide +kernel) (pa_cons (pe_lc (own := [("kind", 4)]) (g := gName 4) rfl nd (pi_tup (pv 0)) (blkOk_by (N := nWde) (sc := defScope sWde) (by decide +kernel)) (fun _ _ _ _ _ => (pg_name (i := 4) nd rfl (.inl rfl))) (fun _ _ _ _ _ => pts_one (pt_cmpR (show OpR _ _ (rIn K false) from op_in_seq) (pe_ix (show IxR _ (rIxT K) from ix_tup) (pv 4) pe_int (fun _ _ => rfl)) (pv 2) (by rfl))) (fun _ _ _ _ _ => (pe_ix (show IxR _ (rIxT K) from ix_tup) (pv 4) pe_int (fun _ _ => rfl)))) pa_nil)))))), ?_⟩
    have l2 := L.l2
    have wl := N.len
    refine ⟨_, rfl, a, _, rfl, .inr (SqT.of hw), fun q hq => ?_⟩
    refine ⟨by show 1 ≤ sizeLine; decide, fun mq hmq => ?_⟩
    have s1 := same_new (o := .lst (ws.map V.str)) hq
    have s2 := s1.trans (same_new (o := .lst [V.str "x"]) hmq)
    have q2 := upd_keep (u := .lst [V.str "x"]) (upd_same (H := H) (a := q) (o := .lst (ws.map V.str))) hmq
    have m2 := upd_same (H := upd H q (.lst (ws.map V.str))) (a := mq) (o := .lst [V.str "x"])
    generalize upd (upd H q (.lst (ws.map V.str))) mq (.lst [V.str "x"]) = H2 at s2 q2 m2 ⊢
    refine ⟨by show 2 ≤ sizeLine; decide, fun t2 ht2 => ⟨t2, _, rfl, SqT.of upd_same, rfl, _, _, rfl, _, _, rfl, rfl, ?_⟩⟩
    have s3 := same_upd (o := .tup [.ref q, .ref mq]) s2 ht2
    have q3 := upd_keep (u := .tup [.ref q, .ref mq]) q2 ht2
    have m3 := upd_keep (u := .tup [.ref q, .ref mq]) m2 ht2
    generalize upd H2 t2 (.tup [.ref q, .ref mq]) = H3 at s3 q3 m3 ⊢
    refine ⟨fun m σ H' => ∃ (fq mo : Addr) (fs ms : List Str), m = (25 - fs.length) + (if ms = [] then 0 else 1) ∧ σ = [some (.ref t), some (.ref a), some (.ref fq), some (.ref mo), none] ∧ H' fq = some (.lst (fs.map V.str)) ∧ H' mo = some (.lst (ms.map V.str)) ∧ fs.Nodup ∧ (∀ x ∈ fs, ∃ k ∈ ks, k.nm = x ∧ widP ks ws k = true) ∧ (∀ x ∈ ws, x ∈ fs) ∧ fs.length ≤ 24 ∧ (∀ x ∈ ms, okS x = true) ∧ (ms = [] → ∀ x ∈ ks, frcP ks fs x = false) ∧ Same H H',
      ⟨_, q, mq, ws, ["x"], rfl, rfl, q3, m3, N.nd, fun x hx => ?_, fun x h => h, by omega, fun x hx => by rw [List.mem_singleton.mp hx]; decide +kernel, (fun e => by cases e), s3⟩, ?_⟩
    · obtain ⟨kd, hm, e⟩ := N.sub x hx
      refine ⟨kd, hm, e, widP_ch _ kd hm ?_⟩
      unfold chP
      exact List.any_eq_true.mpr ⟨x, hx, by rw [decide_eq_true e]; rfl⟩
    · rintro m σ H4 ⟨fq, mo, fs, ms, rfl, rfl, hf4, hm4, nd4, wid4, ws4, fl, ok4, end4, s4⟩
      refine ⟨_, rfl, by show 0 ≤ sizeLine; decide, fun q' hq' => ?_⟩
      have sq : Same H4 (upd H4 q' (.lst [])) := s_new hq'
      have hf5 := sq _ _ hf4
      have hm5 := sq _ _ hm4
      have s5 := s4.trans sq
      refine ⟨.list (ms.map PyData.str), .list [], .lst (SqL.of hm5) (dp_strs _), .lst (SqL.of upd_same) .nil, strs_shaped ok4, rfl, _, rfl, ?_⟩
      rw [eqv_nilD, isE_map]
      generalize upd H4 q' (.lst []) = H5 at hf5 hm5 s5 ⊢
      refine ite2 (fun hne => ?_) (fun hemp => ?_)
      · refine ⟨_, fun σ' H' z => z, ?_⟩
        have hms : ms ≠ [] := fun e => by rw [e] at hne; cases hne
        refine ⟨_, rfl, _, rfl, t, fq, as, ks, fs, rfl, L.same s5, hf5, fun x hx => ?_, by omega, fun l H6 hl h6 s6 => ?_⟩
        · obtain ⟨kd, a1, a2, _⟩ := wid4 x hx
          exact ⟨kd, a1, a2⟩
        have hf6 := s6 _ _ hf5
        have fl2 : (frcL ks fs).length ≤ 1 := by
          rcases frcL_some (ks := ks) (fs := fs) with ⟨e, _⟩ | ⟨kd, _, _, e⟩ <;> rw [e] <;> simp
        refine ⟨_, rfl, _, rfl, fq, l, _, _, rfl, rfl, hf6, h6, by rw [List.length_map, List.length_map]; exact Nat.le_of_lt (small1000 (by omega)), fun p hp => ?_⟩
        have s7 : Same H (upd H6 p (.lst (fs.map V.str ++ (frcL ks fs).map V.str))) := same_upd (s5.trans s6) hp
        have hfp : upd H6 p (.lst (fs.map V.str ++ (frcL ks fs).map V.str)) p = some (.lst ((fs ++ frcL ks fs).map V.str)) := by rw [upd_same, List.map_append]
        have h6p := upd_keep (u := .lst (fs.map V.str ++ (frcL ks fs).map V.str)) h6 hp
        generalize upd H6 p (.lst (fs.map V.str ++ (frcL ks fs).map V.str)) = H7 at s7 hfp h6p ⊢
        rcases frcL_some (ks := ks) (fs := fs) with ⟨e, en⟩ | ⟨kd, km, kf, e⟩
        · rw [e, List.append_nil] at hfp
          rw [e] at h6p
          exact ⟨_, by rw [if_neg hms, if_pos rfl]; omega, p, l, fs, [], rfl, rfl, hfp, h6p, nd4, wid4, ws4, fl, fun x hx => absurd hx List.not_mem_nil, fun _ => en, s7⟩
        · rw [e] at hfp h6p
          have hni : kd.nm ∉ fs := by
            unfold frcP at kf
            rw [Bool.and_eq_true, Bool.not_eq_true', decide_eq_false_iff_not] at kf
            exact kf.1
          have nd5 : (fs ++ [kd.nm]).Nodup := by
            rw [List.nodup_append]
            exact ⟨nd4, List.nodup_cons.mpr ⟨List.not_mem_nil, List.nodup_nil⟩, fun x hx y hy e => hni (by rw [List.mem_singleton.mp hy] at e; rw [← e]; exact hx)⟩
          have wid5 : ∀ x ∈ fs ++ [kd.nm], ∃ k ∈ ks, k.nm = x ∧ widP ks ws k = true := fun x hx => by
            rcases List.mem_append.mp hx with hx | hx
            · exact wid4 x hx
            · exact ⟨kd, km, (List.mem_singleton.mp hx).symm, frc_wid L.fm wid4 km kf⟩
          have fl5 : (fs ++ [kd.nm]).length ≤ 24 := by
            have hsub : ∀ x ∈ fs ++ [kd.nm], x ∈ ks.map Kd.nm := fun x hx => by
              obtain ⟨k', a1, a2, _⟩ := wid5 x hx
              exact List.mem_map.mpr ⟨k', a1, a2⟩
            have := nd_len nd5 hsub
            rw [List.length_map] at this
            omega
          refine ⟨_, ?_, p, l, fs ++ [kd.nm], [kd.nm], rfl, rfl, hfp, h6p, nd5, wid5, fun x hx => List.mem_append_left _ (ws4 x hx), fl5, fun x hx => by rw [List.mem_singleton.mp hx]; exact (okN_S (L.fm.ok kd km).nm).1, (fun e => by cases e), s7⟩
          rw [if_neg hms, if_neg (by simp)]
          rw [List.length_append, List.length_singleton] at fl5 ⊢
          omega
      · have hemp : ms = [] := by
          cases ms with
          | nil => rfl
          | cons _ _ => exact absurd rfl hemp
        have fin := frc_end L.fm wid4 ws4 (end4 hemp)
        have L5 := L.same s5
        refine ⟨_, rfl, t, rfl, ⟨_, SqT.of L5.tp⟩, fun C hC => lc_tup (K := K) (a := t) (xs := as.map V.ref) (fun j H' => H' C = some (.lst ((((ks.take j).filter fun k => decide (k.nm ∈ fs)).map Kd.nm).map V.str)) ∧ Same H5 H') ⟨upd_same, same_new hC⟩ (fun m H' _ ⟨_, z⟩ => SqT.of (z _ _ L5.tp)) ?_ ?_⟩
        · rintro j y H7 hj ⟨h7, s7⟩
          obtain ⟨x2, k2, b2, rfl, hk2, hm2, hml, d1, d2⟩ := (L5.same s7).row hj
          have hl := List.length_filter_le (fun k : Kd => decide (k.nm ∈ fs)) (ks.take j)
          rw [List.length_take] at hl
          refine ⟨rfl, _, rfl, x2, _, _, _, rfl, rfl, SqT.of d1, rfl, _, rfl, fq, _, rfl, .inl (SqL.of (s7 _ _ hf5)), rfl, flat_strs _, _, rfl, ?_⟩
          rw [if_neg (by decide), in_strs]
          refine ite2 (fun hin => ?_) (fun hin => ?_)
          · refine ⟨_, rfl, x2, _, _, _, rfl, rfl, SqT.of d1, rfl, _, h7, by rw [List.length_map, List.length_map]; exact small1000 (by omega), ?_, fun c o e => by rw [upd_ne (ne_of_none e hC)]; exact s7 _ _ e⟩
            rw [take_snoc hk2, List.filter_append, filt1 (p := fun u : Kd => decide (u.nm ∈ fs)) hin, List.map_append, List.map_append]
            exact upd_same
          · refine ⟨?_, s7⟩
            rw [take_snoc hk2, List.filter_append, filt0 (p := fun u : Kd => decide (u.nm ∈ fs)) hin, List.append_nil]
            exact h7
        · rintro H7 ⟨h7, s7⟩
          rw [List.length_map, L.rw.1, List.take_of_length_le (Nat.le_refl _), fin] at h7
          refine ⟨C, _, rfl, .inl ⟨SqL.of h7, fun r hr' => ?_⟩⟩
          exact k r _ ((s5.trans s7).free hr') upd_same (same_upd (s5.trans s7) hr')
theorem scIsWd : FnScope nIsWd ["plan", "found", "wanted"] (defScope sIsWd) := ⟨rfl, rfl, rfl, by decide +kernel, rfl, by decide +kernel, by decide +kernel⟩
theorem ok_iswd {f : Addr} {fd : FuncData} (F : Fun K "_law_is_wide" "_law_is_wide" sIsWd f fd) :
    FnOk P w K mg base CX0 1 f fd ["plan", "found", "wanted"] spIsWd := by
  refine F.ok scIsWd (fun vs H Q E h => ?_) (fun cdv A outer s H vs Q E hr h => ?_)
  · obtain ⟨t, f, a, as, ks, ws, rfl, _⟩ := h; rfl
  · obtain ⟨t, fq, a, as, ks, ws, rfl, L, hf, hw, N, k⟩ := h
    have nd := scIsWd.nd
    have hu := hu_of hr
    refine ⟨_, (pss_cons (ps_setLc (i := 3) (own := [("kind", 9)]) (g := gName 9) rfl nd rfl rfl (sw_true rfl rfl rfl (by decide +kernel)) (pi_tup (pv 0)) (blkOk_by (N := nIsWd) (sc := defScope sIsWd) (by decide +kernel)) (fun _ _ _ _ _ => (pg_name (i := 9) nd rfl (.inl rfl))) (fun _ _ _ _ _ => pts_one (pt_cmpR (show OpR _ _ (rIn K false) from op_in_seq) (pe_ix (show IxR _ (rIxT K) from ix_tup) (pv 9) pe_int (fun _ _ => rfl)) (pv 1) (by rfl))) (fun _ _ _ _ _ => (pe_ix (show IxR _ (rIxT K) from ix_tup) (pv 9) pe_int (fun _ _ => rfl))))
      (pss_cons (ps_for PassesOwn.never rfl (pi_tup (pv 0)) (pg_tup (by rfl) (pgs_cons (pg_name (i := 4) nd rfl (.inl rfl)) (pgs_cons (pg_name (i := 5) nd rfl (.inl rfl)) (pgs_cons (pg_name (i := 6) nd rfl (.inl rfl)) (pgs_cons (pg_name (i := 7) nd rfl (.inl rfl)) (pgs_cons (pg_name (i := 8) nd rfl (.inl rfl)) pgs_nil)))))) (pss_cons (ps_if (PW.pt (pw_and (pt_cmpR op_in_seq (pv 4) (pv 1) (by rfl)) (pw_and1 (pt_cmpR (op_neD hr.units) (pe_lc (own := [("one", 10)]) (g := gName 10) rfl nd (pi_tup (pv 6)) (blkOk_by (N := nIsWd) (sc := defScope sIsWd) (by decide +kernel)) (fun _ _ _ _ _ => (pg_name (i := 10) nd rfl (.inl rfl))) (fun _ _ _ _ _ => pts_one (pt_cmpR (show OpR _ _ (rIn K true) from op_notIn_seq) (pv 10) (pv 1) (by rfl))) (fun _ _ _ _ _ => (pv 10))) (pe_lst pa_nil) (nomark _))))) (pss_one (ps_ret pe_bl)) pss_nil)
      (pss_one (ps_if (PW.pt (pw_and (pt_cmpR op_notIn_seq (pv 4) (pv 1) (by rfl)) (pw_and1 (pt_cmpR op_in_seq (pv 7) (pv 3) (by rfl))))) (pss_one (ps_ret pe_bl)) pss_nil))))
      (pss_one (ps_ret (pe_cmpR (op_eqD hr.units) (pe_lc (own := [("one", 10)]) (g := gName 10) rfl nd (pi_tup (pv 2)) (blkOk_by (N := nIsWd) (sc := defScope sIsWd) (by decide +kernel)) (fun _ _ _ _ _ => (pg_name (i := 10) nd rfl (.inl rfl))) (fun _ _ _ _ _ => pts_one (pt_cmpR (show OpR _ _ (rIn K true) from op_notIn_seq) (pv 10) (pv 1) (by rfl))) (fun _ _ _ _ _ => (pv 10))) (pe_lst pa_nil) (nomark _)))))), ?_⟩
    have l2 := L.l2
    have hf' : ((ks.filter (widP ks ws)).map Kd.nm).length ≤ 24 := by
      rw [List.length_map]
      exact Nat.le_trans (List.length_filter_le _ _) l2
    have inF : ∀ {x : Kd}, x ∈ ks → (x.nm ∈ (ks.filter (widP ks ws)).map Kd.nm ↔ widP ks ws x = true) := fun {x} hx => by
      rw [List.mem_map]
      constructor
      · rintro ⟨z, hz, e⟩
        obtain ⟨h1, h2⟩ := List.mem_filter.mp hz
        obtain ⟨i, hi⟩ := List.getElem?_of_mem h1
        obtain ⟨j, hj⟩ := List.getElem?_of_mem hx
        have := nm_injU L.fm hi hj e
        subst this
        rw [hi] at hj
        cases hj
        exact h2
      · exact fun h => ⟨x, List.mem_filter.mpr ⟨hx, h⟩, rfl⟩
    generalize hfs : (ks.filter (widP ks ws)).map Kd.nm = fs at hf hf' inF
    refine ⟨_, rfl, t, rfl, ⟨_, SqT.of L.tp⟩, fun C hC => lc_tup (K := K) (a := t) (xs := as.map V.ref) (fun m H' => H' C = some (.lst ((sgL (ks.take m) fs).map V.str)) ∧ Same H H') ⟨upd_same, same_new hC⟩ (fun m H' _ ⟨_, z⟩ => SqT.of (z _ _ L.tp)) ?_ ?_⟩
    · rintro m y H3 hm3 ⟨h3, s3⟩
      obtain ⟨x2, k2, b2, rfl, hk2, hm2, hml, d1, d2⟩ := (L.same s3).row hm3
      have hl : (sgL (ks.take m) fs).length ≤ m := by
        unfold sgL
        rw [List.length_map]
        refine Nat.le_trans (List.length_filter_le _ _) ?_
        rw [List.length_take]
        omega
      refine ⟨rfl, _, rfl, x2, _, _, _, rfl, rfl, SqT.of d1, rfl, _, rfl, fq, _, rfl, .inr (SqT.of (s3 _ _ hf)), rfl, flat_strs _, _, rfl, ?_⟩
      rw [if_neg (by decide), in_strs]
      refine ite2 (fun hin => ?_) (fun hin => ?_)
      · refine ⟨_, rfl, x2, _, _, _, rfl, rfl, SqT.of d1, rfl, _, h3, by rw [List.length_map]; exact small1000 (by omega), ?_, fun c o e => by rw [upd_ne (ne_of_none e hC)]; exact s3 _ _ e⟩
        unfold sgL
        rw [take_snoc hk2, List.filter_append, filt1 (p := fun u : Kd => decide (u.nm ∈ fs)) hin, List.map_append, List.map_append]
        exact upd_same
      · refine ⟨?_, s3⟩
        unfold sgL
        rw [take_snoc hk2, List.filter_append, filt0 (p := fun u : Kd => decide (u.nm ∈ fs)) hin, List.append_nil]
        exact h3
    · rintro H3 ⟨h3, s3⟩
      rw [List.length_map, L.rw.1, List.take_of_length_le (Nat.le_refl _)] at h3
      have L3 := L.same s3
      have hf3 := s3 _ _ hf
      have hw3 := s3 _ _ hw
      -- of a list of texts what is not among the found ones: none
      refine ⟨_, rfl, t, rfl, ⟨_, SqT.of L3.tp⟩, for_tup (K := K) (a := t) (xs := as.map V.ref) (fun j σ H' => ∃ (v4 v5 v6 v7 v8 : Option V), σ = [some (.ref t), some (.ref fq), some (.ref a), some (.ref C), v4, v5, v6, v7, v8, none, none] ∧ Same H3 H')
        ⟨_, _, _, _, _, rfl, Same.refl H3⟩ (fun j σ H' _ ⟨_, _, _, _, _, _, z⟩ => SqT.of (z _ _ L3.tp)) ?_ ?_⟩
      · rintro j y σ H5 hj ⟨v4, v5, v6, v7, v8, rfl, s5⟩
        obtain ⟨x, kd, b, rfl, hk, hm, hjl, c1, c2⟩ := (L3.same s5).row hj
        have hf5 := s5 _ _ hf3
        have h5 := s5 _ _ h3
        refine ⟨x, _, rfl, SqT.of c1, rfl, _, _, rfl, _, _, rfl, _, _, rfl, _, _, rfl, _, _, rfl, rfl, ?_⟩
        refine ⟨_, rfl, _, rfl, fq, _, rfl, .inr (SqT.of hf5), rfl, flat_strs _, _, rfl, ?_⟩
        rw [if_neg (by decide), in_strs]
        -- what follows the first test
        have second : ∀ H6, Same H5 H6 → tIfS (tAnd (tTest (tOp (rIn K true) (tVar 4) (tVar 1))) (tTest (tOp (rIn K false) (tVar 7) (tVar 3)))) (tRet (tC (V.bl false))) tNext
            { nx := fun σ H' => ∃ (v4 v5 v6 v7 v8 : Option V), σ = [some (.ref t), some (.ref fq), some (.ref a), some (.ref C), v4, v5, v6, v7, v8, none, none] ∧ Same H3 H', rt := Q }
            [some (.ref t), some (.ref fq), some (.ref a), some (.ref C), some (.str kd.nm), some (.int kd.ed), some (.ref b), some (.str (ltr kd.lt)), some (.str kd.mrk), none, none] H6 := fun H6 s6 => by
          have hf6 := s6 _ _ hf5
          refine ⟨_, rfl, _, rfl, fq, _, rfl, .inr (SqT.of hf6), rfl, flat_strs _, _, rfl, ?_⟩
          rw [if_pos rfl, in_strs]
          refine ite2 (fun h1 => ?_) (fun h1 => ?_)
          · refine ⟨_, rfl, _, rfl, C, _, rfl, .inl (SqL.of (s6 _ _ h5)), rfl, flat_strs _, _, rfl, ?_⟩
            rw [if_neg (by decide), in_strs]
            have hns : ltr kd.lt ∉ sgL ks fs := fun z => by
              obtain ⟨u, hu, hm', e⟩ := sgL_mem.mp z
              rw [Bool.not_eq_true', decide_eq_false_iff_not, inF hm] at h1
              exact h1 (widP_let hu hm ((inF hu).mp hm') e)
            rw [decide_eq_false hns]
            refine iteF ?_
            exact ⟨_, _, _, _, _, rfl, s5.trans s6⟩
          · exact ⟨_, _, _, _, _, rfl, s5.trans s6⟩
        refine ite2 (fun h1 => ?_) (fun h1 => ?_)
        · have hwd : widP ks ws kd = true := (inF hm).mp (of_decide_eq_true h1)
          refine ⟨_, rfl, b, rfl, ⟨_, SqT.of c2⟩, fun D hD => lc_tup (K := K) (a := b) (xs := kd.bs.map V.str) (fun m H' => H' D = some (.lst []) ∧ Same H5 H') ⟨upd_same, same_new hD⟩ (fun m H' _ ⟨_, z⟩ => SqT.of (z _ _ c2)) ?_ ?_⟩
          · rintro m y H7 hm7 ⟨h7, s7⟩
            obtain ⟨bx, hbx, rfl⟩ := str_at hm7
            obtain ⟨i, kb, hij, hkb, rfl⟩ := base_at L.fm hk (List.mem_of_getElem? hbx)
            refine ⟨rfl, _, rfl, _, rfl, fq, _, rfl, .inr (SqT.of (s7 _ _ hf5)), rfl, flat_strs _, _, rfl, ?_⟩
            rw [if_pos rfl, in_strs]
            have hub : kb.nm ∈ U ks kd.nm := (U_iff L.fm hk).mpr ⟨kb.nm, List.mem_of_getElem? hbx, .inl rfl⟩
            have hbin : kb.nm ∈ fs := (inF (List.mem_of_getElem? hkb)).mpr (widP_ben hm (List.mem_of_getElem? hkb) hwd hub)
            rw [decide_eq_true hbin]
            refine iteF ?_
            exact ⟨h7, s7⟩
          · rintro H7 ⟨h7, s7⟩
            refine ⟨by show 0 ≤ sizeLine; decide, fun q' hq' => ?_⟩
            refine ⟨.list [], .list [], .lst (SqL.of (upd_keep h7 hq')) .nil, .lst (SqL.of upd_same) .nil, rfl, rfl, _, rfl, ?_⟩
            rw [eqv_nilD]
            refine iteF ?_
            exact second _ (s7.trans (s_new (o := HO.lst []) hq'))
        · exact second _ (Same.refl _)
      · rintro σ H5 ⟨v4, v5, v6, v7, v8, rfl, s5⟩
        have hf5 := s5 _ _ hf3
        have hw5 := s5 _ _ hw3
        refine ⟨_, rfl, a, rfl, ⟨_, SqT.of hw5⟩, fun D hD => lc_tup (K := K) (a := a) (xs := ws.map V.str) (fun m H' => H' D = some (.lst []) ∧ Same H5 H') ⟨upd_same, same_new hD⟩ (fun m H' _ ⟨_, z⟩ => SqT.of (z _ _ hw5)) ?_ ?_⟩
        · rintro m y H7 hm7 ⟨h7, s7⟩
          obtain ⟨x, hx, rfl⟩ := str_at hm7
          refine ⟨rfl, _, rfl, _, rfl, fq, _, rfl, .inr (SqT.of (s7 _ _ hf5)), rfl, flat_strs _, _, rfl, ?_⟩
          rw [if_pos rfl, in_strs]
          obtain ⟨kd, hm, rfl⟩ := N.sub x (List.mem_of_getElem? hx)
          have hin : kd.nm ∈ fs := (inF hm).mpr (widP_ch _ kd hm (by unfold chP; exact List.any_eq_true.mpr ⟨_, List.mem_of_getElem? hx, by rw [decide_eq_true rfl]; rfl⟩))
          rw [decide_eq_true hin]
          refine iteF ?_
          exact ⟨h7, s7⟩
        · rintro H7 ⟨h7, s7⟩
          refine ⟨by show 0 ≤ sizeLine; decide, fun q' hq' => ?_⟩
          refine ⟨.list [], .list [], .lst (SqL.of (upd_keep h7 hq')) .nil, .lst (SqL.of upd_same) .nil, rfl, rfl, ?_⟩
          exact k _ (((s3.trans s5).trans s7).trans (s_new (o := HO.lst []) hq'))
end
end Cp

set_option Elab.async false
set_option linter.all false
set_option maxRecDepth 100000
namespace Cp
open PySem PySem.Spec L2 PyProof.Rows
/-- need_layout: itself, or BadLayout -/
def spNeed (CB : Addr) : Sp := fun vs H Q E => ∃ (v : V) (d : PyData), vs = [v] ∧ Dq H v d ∧ bndD d = true ∧
  (placeP d = none → ∀ H' : Hp, Same H H' → Q v H') ∧
  (∀ l, placeP d = some l → ∀ (t x : Addr) (H' : Hp), H' x = some (.xd [(("place" : Str), .ref t)]) → H' t = some (.tup (l.map fun i : Nat => V.int (i : Int))) → Same H H' → E (.ref CB) (some x) H')
def spIsL : Sp := fun vs H Q _ => ∃ (v : V) (d : PyData), vs = [v] ∧ Dq H v d ∧ bndD d = true ∧ ∀ H' : Hp, Same H H' → Q (.bl (placeP d).isNone) H'
section
variable {P : Program} {w : World} {K : PySem.W.Frag} {mg : Str → Option Value} {base : Heap}
end
end Cp

set_option Elab.async false
set_option linter.all false
set_option maxRecDepth 100000
namespace Cp
open PySem PySem.Spec L2 PyProof.Rows
def prn (x : Str) : Bool := x.cps.toList.all fun c => decide (32 ≤ c) && decide (c < 127)
mutual
/-- all texts in it are of printed signs -/
def ascD : PyData → Bool
  | .str x => prn x
  | .list l => ascDs l
  | .tuple l => ascDs l
  | _ => true
def ascDs : List PyData → Bool
  | [] => true
  | d :: r => ascD d && ascDs r
end
theorem ascDs_all : ∀ {l : List PyData}, ascDs l = true → ∀ d ∈ l, ascD d = true
  | [], _, d, h => by simp at h
  | e :: r, h, d, hd => by
    simp only [ascDs, Bool.and_eq_true] at h
    rcases List.mem_cons.mp hd with rfl | hd
    · exact h.1
    · exact ascDs_all h.2 d hd
def goodD (d : PyData) : Bool := bndD d && ascD d
theorem alpha_mem : ∀ c, c ∈ alphaL ↔ okC c = true := by
  have h1 : ∀ j : Fin 26, alphaL[j.val]? = some (97 + j.val) := alpha_at
  have h2 : alphaL.length = 26 := alpha_len
  intro c
  unfold okC
  rw [Bool.and_eq_true, decide_eq_true_eq, decide_eq_true_eq]
  constructor
  · intro h
    obtain ⟨i, hi, e⟩ := List.mem_iff_getElem.mp h
    have := h1 ⟨i, by omega⟩
    rw [List.getElem?_eq_getElem hi, e] at this
    have := Option.some.inj this
    omega
  · rintro ⟨a, b⟩
    have := h1 ⟨c - 97, by omega⟩
    simp only at this
    rw [show 97 + (c - 97) = c by omega] at this
    exact List.mem_of_getElem? this
def sing (c : Nat) : Str := ⟨#[c]⟩
theorem sing_lay {c : Nat} (h : 32 ≤ c) (h2 : c < 127) : (PyData.str (sing c)).canLay0 = true := by
  have key : ∀ c : Fin 127, (PyData.str (sing c.val)).canLay0 = true := by decide +kernel
  exact key ⟨c, h2⟩
theorem sings_lay : ∀ l : List Nat, (∀ c ∈ l, 32 ≤ c ∧ c < 127) → PyData.canLayAll0 (l.map fun c => PyData.str (sing c)) = true
  | [], _ => rfl
  | c :: r, h => by
    have := h c List.mem_cons_self
    show ((PyData.str (sing c)).canLay0 && PyData.canLayAll0 (r.map fun c => PyData.str (sing c))) = true
    rw [sing_lay this.1 this.2, sings_lay r fun c hc => h c (List.mem_cons_of_mem _ hc)]
    rfl
theorem sings_shp (l : List Nat) (h : ∀ c ∈ l, 32 ≤ c ∧ c < 127) : SeqAt.shaped (.list (l.map fun c => PyData.str (sing c))) = true := by
  have hd : ∀ l : List Nat, PyData.depthAll (l.map fun c => PyData.str (sing c)) = 0 := fun l => by
    induction l with
    | nil => simp [PyData.depthAll]
    | cons c r ih => simp [PyData.depthAll, PyData.depth, ih]
  show (PyData.canLayAll0 (l.map fun c => PyData.str (sing c)) && decide ((PyData.list (l.map fun c => PyData.str (sing c))).depth ≤ 64)) = true
  rw [sings_lay l h, Bool.true_and]
  simp [PyData.depth, hd]
theorem dp_sings {K : PySem.W.Frag} {H : Hp} : ∀ l : List Nat, DpAll K H (l.map fun c => V.str (sing c)) (l.map fun c => PyData.str (sing c))
  | [] => .nil
  | c :: r => .cons (.str (sing c)) (dp_sings r)
theorem eqv_nilL (ds : List PyData) : PyData.eqv (.list ds) (.list []) = ds.isEmpty := by
  cases ds with
  | nil => rfl
  | cons a r => rfl
theorem eqv_nilT (ds : List PyData) : PyData.eqv (.tuple ds) (.tuple []) = ds.isEmpty := by
  cases ds with
  | nil => rfl
  | cons a r => rfl
theorem nil_shpL : SeqAt.shaped (.list []) = true := by decide +kernel
/-- a text of so many letters -/
def wordB (d : PyData) (lo hi : Int) : Bool := match d with
  | .str x => decide (lo ≤ (x.length : Int)) && (decide ((x.length : Int) ≤ hi) && okS x)
  | _ => false
def spIsW : Sp := fun vs H Q _ => ∃ (v : V) (d : PyData) (lo hi : Int), vs = [v, .int lo, .int hi] ∧ Dq H v d ∧ bndD d = true ∧ ascD d = true ∧ ∀ H' : Hp, Same H H' → Q (.bl (wordB d lo hi)) H'
abbrev nIsW : List Str := ["thing", "least", "most", "sign"]
structure TL1 (mg : Str → Option Value) : Prop where
  isinstance : mg "isinstance" = none
  str : mg "str" = none
  len : mg "len" = none
  tuple : mg "tuple" = none
  int : mg "int" = none
  bool : mg "bool" = none
  range : mg "range" = none
  enum : mg "enumerate" = none
  list : mg "list" = none
  repr : mg "repr" = none
  min : mg "min" = none
section
variable {P : Program} {w : World} {K : PySem.W.Frag} {mg : Str → Option Value} {base : Heap}
end
end Cp

set_option Elab.async false
set_option linter.all false
set_option maxRecDepth 100000
namespace Cp
open PySem PySem.Spec L2 PyProof.Rows
def edB : PyData → Bool
  | .int e => decide (1 ≤ e) && decide (e ≤ 99)
  | _ => false
def fresh2 : List Str → List Str → Bool
  | _, [] => true
  | tk, x :: r => !decide (x ∈ tk) && fresh2 (tk ++ [x]) r
def wordsB : List Str → List PyData → Bool
  | _, [] => true
  | tk, d :: r => (wordB d 1 8 && !decide (strOf d ∈ tk)) && wordsB (tk ++ [strOf d]) r
def basB : PyData → Bool
  | .tuple ds => decide (ds.length ≤ 6) && wordsB [] ds
  | _ => false
def ascM : PyData → Bool
  | .str m => asc m.cps.toList
  | _ => false
def kindB : PyData → Bool
  | .tuple [dn, de, db, dl, dm] => wordB dn 1 8 && (edB de && (basB db && (wordB dl 1 1 && (wordB dm 0 26 && ascM dm))))
  | _ => false
theorem wordB_str {d : PyData} {lo hi : Int} (h : wordB d lo hi = true) : ∃ x, d = .str x := by
  cases d with
  | str x => exact ⟨x, rfl⟩
  | _ => exact absurd h (by simp [wordB])
def spIsK : Sp := fun vs H Q _ => ∃ (v : V) (d : PyData), vs = [v] ∧ Dq H v d ∧ bndD d = true ∧ ascD d = true ∧ ∀ H' : Hp, Same H H' → Q (.bl (kindB d)) H'
abbrev nIsK : List Str := ["thing", "ed", "bases", "letter", "mark", "k"]
theorem asc_steps : ∀ (l : List Nat), asc l = true ↔ ∀ (i a b : Nat), l[i]? = some a → l[i + 1]? = some b → a < b
  | [] => by simp [asc]
  | [a] => by
    simp only [asc, true_iff]
    intro i x y h1 h2
    simp at h2
  | a :: b :: r => by
    have ih := asc_steps (b :: r)
    simp only [asc, Bool.and_eq_true, decide_eq_true_eq]
    constructor
    · rintro ⟨h1, h2⟩ i x y hx hy
      cases i with
      | zero =>
        simp at hx hy
        omega
      | succ i => exact ih.mp h2 i x y (by simpa using hx) (by simpa using hy)
    · intro h
      exact ⟨h 0 a b rfl rfl, ih.mpr fun i x y hx hy => h (i + 1) x y (by simpa using hx) (by simpa using hy)⟩
theorem dq_take_strs {H : Hp} : ∀ {vs : List V} {ds : List PyData} (j : Nat), DqAll H vs ds → (∀ i d, i < j → ds[i]? = some d → isStr d = true) → vs.take j = ((ds.take j).map strOf).map V.str
  | _, _, 0, _, _ => by simp
  | _, _, j + 1, .nil, _ => by simp
  | _, _, j + 1, .cons (d := d) a t, h => by
    have h0 := h 0 d (by omega) rfl
    cases a with
    | str x =>
      show V.str x :: List.take j _ = V.str x :: ((List.take j _).map strOf).map V.str
      rw [dq_take_strs j t fun i d hi hd => h (i + 1) d (by omega) (by rw [List.getElem?_cons_succ]; exact hd)]
    | _ => exact absurd h0 (by simp [isStr])
theorem atI_nat' {xs : List Nat} {z : Int} {i : Nat} {c : Nat} (e : z = (i : Int)) (h : xs[i]? = some c) : atI xs z = some c := by rw [e]; exact atI_nat h
theorem sign_lt (a b : Nat) : decide ((⟨#[a]⟩ : Str).cps.toList < (⟨#[b]⟩ : Str).cps.toList) = decide (a < b) := by
  show decide ([a] < [b]) = decide (a < b)
  refine decide_eq_decide.mpr ?_
  simp [List.cons_lt_cons_iff]
section
variable {P : Program} {w : World} {K : PySem.W.Frag} {mg : Str → Option Value} {base : Heap}
end
end Cp

set_option Elab.async false
set_option linter.all false
set_option maxRecDepth 100000
namespace Cp
open PySem PySem.Spec L2 PyProof.Rows
def nameD : PyData → Str
  | .tuple (d :: _) => strOf d
  | _ => Str.empty
def edD : PyData → Int
  | .tuple (_ :: .int e :: _) => e
  | _ => 0
def basD : PyData → List PyData
  | .tuple (_ :: _ :: .tuple bs :: _) => bs
  | _ => []
def lawOk (tk : List Str) (le : Int) (d : PyData) : Bool := (kindB d && (!decide (nameD d ∈ tk) && decide (le ≤ edD d))) && (basD d).all (fun b => decide (strOf b ∈ tk))
def dueL : List PyData → List Str → Int → Nat → Option Nat
  | [], _, _, _ => none
  | d :: r, tk, le, i => if lawOk tk le d = true then dueL r (tk ++ [nameD d]) (edD d) (i + 1) else some i
def placeL : PyData → Option (List Nat)
  | .tuple ds => if 1 ≤ ds.length ∧ ds.length ≤ 24 then (dueL ds [] 1 0).map (fun i => [i]) else some []
  | _ => some []
theorem wordsB_iff : ∀ (bs : List PyData) (tk : List Str), wordsB tk bs = true ↔ (∀ b ∈ bs, wordB b 1 8 = true) ∧ (bs.map strOf).Nodup ∧ ∀ x ∈ bs.map strOf, x ∉ tk
  | [], tk => by simp [wordsB]
  | b :: r, tk => by
    have ih := wordsB_iff r (tk ++ [strOf b])
    simp only [wordsB, Bool.and_eq_true, Bool.not_eq_true', decide_eq_false_iff_not, ih, List.map_cons, List.nodup_cons, List.mem_cons, forall_eq_or_imp, List.mem_append, List.not_mem_nil, or_false, not_or]
    constructor
    · rintro ⟨⟨h1, h2⟩, h3, h4, h5⟩
      exact ⟨⟨h1, h3⟩, ⟨fun hm => (h5 _ hm).2 rfl, h4⟩, h2, fun x hx => (h5 x hx).1⟩
    · rintro ⟨⟨h1, h3⟩, ⟨h6, h4⟩, h2, h5⟩
      exact ⟨⟨h1, h2⟩, h3, h4, fun x hx => ⟨h5 x hx, fun e => h6 (e ▸ hx)⟩⟩
theorem wordB_one {l : Str} : wordB (.str l) 1 1 = true ↔ l.length = 1 ∧ l.cps.toList.all (fun c => decide (c ∈ alphaL)) = true := by
  have e : (l.cps.toList.all fun c => decide (c ∈ alphaL)) = okS l := by
    unfold okS
    congr 1
    funext c
    rw [Bool.eq_iff_iff, decide_eq_true_eq]
    exact alpha_mem c
  rw [e]
  show (decide ((1 : Int) ≤ (l.length : Int)) && (decide ((l.length : Int) ≤ 1) && okS l)) = true ↔ _
  simp only [Bool.and_eq_true, decide_eq_true_eq]
  constructor
  · rintro ⟨h1, h2, h3⟩
    exact ⟨by omega, h3⟩
  · rintro ⟨h1, h3⟩
    exact ⟨by omega, by omega, h3⟩
theorem wordB_eight {n : Str} : wordB (.str n) 1 8 = true ↔ 1 ≤ n.length ∧ n.length ≤ 8 ∧ okS n = true := by
  show (decide ((1 : Int) ≤ (n.length : Int)) && (decide ((n.length : Int) ≤ 8) && okS n)) = true ↔ _
  simp only [Bool.and_eq_true, decide_eq_true_eq]
  constructor
  · rintro ⟨h1, h2, h3⟩
    exact ⟨by omega, by omega, h3⟩
  · rintro ⟨h1, h2, h3⟩
    exact ⟨by omega, by omega, h3⟩
theorem wordB_mark {m : Str} : (wordB (.str m) 0 26 && ascM (.str m)) = true ↔ m.length ≤ 26 ∧ okM m = true := by
  show ((decide ((0 : Int) ≤ (m.length : Int)) && (decide ((m.length : Int) ≤ 26) && okS m)) && asc m.cps.toList) = true ↔ _
  unfold okM
  simp only [Bool.and_eq_true, decide_eq_true_eq]
  constructor
  · rintro ⟨⟨h1, h2, h3⟩, h4⟩
    exact ⟨by omega, h3, h4⟩
  · rintro ⟨h1, h3, h4⟩
    exact ⟨⟨by omega, by omega, h3⟩, h4⟩
/-- the law's look and the program's agree on one kind -/
theorem lawOk_iff {tk : List Str} {le : Int} (hle : 1 ≤ le) (htk : ∀ x ∈ tk, wordB (.str x) 1 8 = true) (d : PyData) : lawOk tk le d = true ↔ ∃ n e m, stepA tk le d = some (n, e, m) ∧ okS n = true ∧ okM m = true ∧ nameD d = n ∧ edD d = e := by
  constructor
  · intro h
    unfold lawOk at h
    simp only [Bool.and_eq_true, Bool.not_eq_true', decide_eq_false_iff_not, decide_eq_true_eq] at h
    obtain ⟨⟨h1, h2, h3⟩, h4⟩ := h
    unfold kindB at h1
    split at h1
    · rename_i dn de db dl dm
      simp only [Bool.and_eq_true] at h1
      obtain ⟨a1, a2, a3, a4, a5, a6⟩ := h1
      obtain ⟨n, rfl⟩ := wordB_str a1
      obtain ⟨l, rfl⟩ := wordB_str a4
      obtain ⟨m, rfl⟩ := wordB_str a5
      cases de with
      | int e =>
        unfold edB at a2
        unfold basB at a3
        split at a3
        · rename_i bs
          simp only [Bool.and_eq_true, decide_eq_true_eq] at a2 a3
          have h2 : n ∉ tk := h2
          have h3 : le ≤ e := h3
          have h4 : bs.all (fun b => decide (strOf b ∈ tk)) = true := h4
          obtain ⟨b1, b2, b3⟩ := (wordsB_iff bs []).mp a3.2
          obtain ⟨c1, c2, c3⟩ := wordB_eight.mp a1
          obtain ⟨d1, d2⟩ := wordB_one.mp a4
          obtain ⟨f1, f2⟩ := wordB_mark.mp (by rw [Bool.and_eq_true]; exact ⟨a5, a6⟩)
          have hb : basesB tk (.tuple bs) = true := by
            show (decide (bs.length ≤ 6) && (bs.all (strIn tk) && decide ((bs.map strOf).Nodup))) = true
            rw [decide_eq_true a3.1, decide_eq_true b2, Bool.true_and, Bool.and_true, List.all_eq_true]
            intro b hb
            obtain ⟨x, rfl⟩ := wordB_str (b1 b hb)
            rw [List.all_eq_true] at h4
            exact h4 _ hb
          have ok : okHead tk le n e l m (.tuple bs) = true := by
            unfold okHead
            rw [decide_eq_true c1, decide_eq_true c2, decide_eq_false h2, decide_eq_true h3, decide_eq_true a2.2, decide_eq_true d1, d2, decide_eq_true f1, hb]
            rfl
          exact ⟨n, e, m, if_pos ok, c3, f2, rfl, rfl⟩
        · cases a3
      | _ => cases a2
    · cases h1
  · rintro ⟨n, e, m, hs, hn, hm, e1, e2⟩
    unfold stepA at hs
    split at hs
    · rename_i dn de db dl dm
      split at hs
      · rename_i n2 e2' l2 m2
        split at hs
        · rename_i hok
          simp only [Option.some.injEq, Prod.mk.injEq] at hs
          obtain ⟨rfl, rfl, rfl⟩ := hs
          unfold okHead at hok
          simp only [Bool.and_eq_true, decide_eq_true_eq, Bool.not_eq_true', decide_eq_false_iff_not] at hok
          obtain ⟨c1, c2, c3, c4, c5, c6, c7, c8, c9⟩ := hok
          unfold basesB at c9
          split at c9
          · rename_i bs
            simp only [Bool.and_eq_true, decide_eq_true_eq] at c9
            obtain ⟨g1, g2, g3⟩ := c9
            rw [List.all_eq_true] at g2
            have gs : ∀ b ∈ bs, ∃ x, b = .str x ∧ x ∈ tk := fun b hb => by
              have := g2 b hb
              cases b with
              | str x => exact ⟨x, rfl, of_decide_eq_true this⟩
              | _ => exact absurd this (by simp [strIn])
            have wb : wordsB [] bs = true := (wordsB_iff bs []).mpr ⟨fun b hb => by
              obtain ⟨x, rfl, hx⟩ := gs b hb
              exact htk x hx, g3, fun x _ => List.not_mem_nil⟩
            have kb : kindB (.tuple [.str n2, .int e2', .tuple bs, .str l2, .str m2]) = true := by
              have q1 : basB (.tuple bs) = true := by
                show (decide (bs.length ≤ 6) && wordsB [] bs) = true
                rw [decide_eq_true g1, wb]
                rfl
              have q2 : edB (.int e2') = true := by
                show (decide (1 ≤ e2') && decide (e2' ≤ 99)) = true
                rw [decide_eq_true (by omega), decide_eq_true c5]
                rfl
              show (wordB (.str n2) 1 8 && (edB (.int e2') && (basB (.tuple bs) && (wordB (.str l2) 1 1 && (wordB (.str m2) 0 26 && ascM (.str m2)))))) = true
              rw [wordB_eight.mpr ⟨c1, c2, hn⟩, q2, q1, wordB_one.mpr ⟨c6, c7⟩, wordB_mark.mpr ⟨c8, hm⟩]
              rfl
            have hall : bs.all (fun b => decide (strOf b ∈ tk)) = true := by
              rw [List.all_eq_true]
              intro b hb
              obtain ⟨x, rfl, hx⟩ := gs b hb
              exact decide_eq_true hx
            show ((kindB _ && (!decide (n2 ∈ tk) && decide (le ≤ e2'))) && bs.all (fun b => decide (strOf b ∈ tk))) = true
            rw [kb, hall, decide_eq_false c3, decide_eq_true c4]
            rfl
          · cases c9
        · cases hs
      · cases hs
    · cases hs
theorem stepA_ed {tk : List Str} {le : Int} {d : PyData} {n : Str} {e : Int} {m : Str} (h : stepA tk le d = some (n, e, m)) : le ≤ e ∧ 1 ≤ n.length ∧ n.length ≤ 8 ∧ nameD d = n ∧ edD d = e := by
  unfold stepA at h
  split at h
  · split at h
    · split at h
      · rename_i hok
        simp only [Option.some.injEq, Prod.mk.injEq] at h
        obtain ⟨rfl, rfl, rfl⟩ := h
        unfold okHead at hok
        simp only [Bool.and_eq_true, decide_eq_true_eq] at hok
        exact ⟨hok.2.2.2.1, hok.1, hok.2.1, rfl, rfl⟩
      · cases h
    · cases h
  · cases h
theorem due_same : ∀ (ds : List PyData) (tk : List Str) (le : Int) (i : Nat), 1 ≤ le → (∀ x ∈ tk, wordB (.str x) 1 8 = true) →
    dueL ds tk le i = (match badAt (aheadA ds tk le) i with
      | some j => some j
      | none => if (aheadA ds tk le).length < ds.length then some (i + (aheadA ds tk le).length) else none)
  | [], _, _, _, _, _ => rfl
  | d :: r, tk, le, i, hle, htk => by
    unfold dueL aheadA
    cases hs : stepA tk le d with
    | none =>
      have : ¬ lawOk tk le d = true := fun h => by
        obtain ⟨n, e, m, h1, _⟩ := (lawOk_iff hle htk d).mp h
        rw [hs] at h1
        cases h1
      rw [if_neg this]
      simp [badAt]
    | some q =>
      obtain ⟨n, e, m⟩ := q
      obtain ⟨he, hn1, hn2, en, ee⟩ := stepA_ed hs
      by_cases hok : (okS n && okM m) = true
      · have hok2 := hok
        rw [Bool.and_eq_true] at hok2
        have hl : lawOk tk le d = true := (lawOk_iff hle htk d).mpr ⟨n, e, m, hs, hok2.1, hok2.2, en, ee⟩
        rw [if_pos hl, en, ee]
        have ih := due_same r (tk ++ [n]) e (i + 1) (by omega) (fun x hx => by
          rcases List.mem_append.mp hx with hx | hx
          · exact htk x hx
          · rw [List.mem_singleton.mp hx]
            exact wordB_eight.mpr ⟨hn1, hn2, hok2.1⟩)
        rw [ih]
        show _ = (match badAt ((n, m) :: aheadA r (tk ++ [n]) e) i with
          | some j => some j
          | none => if ((n, m) :: aheadA r (tk ++ [n]) e).length < (d :: r).length then some (i + ((n, m) :: aheadA r (tk ++ [n]) e).length) else none)
        have eb : badAt ((n, m) :: aheadA r (tk ++ [n]) e) i = badAt (aheadA r (tk ++ [n]) e) (i + 1) := by
          conv => lhs; unfold badAt
          rw [if_pos hok]
        rw [eb]
        cases badAt (aheadA r (tk ++ [n]) e) (i + 1) with
        | some j => rfl
        | none =>
          simp only [List.length_cons]
          by_cases hlt : (aheadA r (tk ++ [n]) e).length < r.length
          · rw [if_pos hlt, if_pos (by omega)]
            congr 1
            omega
          · rw [if_neg hlt, if_neg (by omega)]
      · have hl : ¬ lawOk tk le d = true := fun h => by
          obtain ⟨n', e', m', h1, h2, h3, _⟩ := (lawOk_iff hle htk d).mp h
          rw [hs] at h1
          cases h1
          exact hok (by rw [Bool.and_eq_true]; exact ⟨h2, h3⟩)
        rw [if_neg hl]
        show _ = (match badAt ((n, m) :: aheadA r (tk ++ [n]) e) i with
          | some j => some j
          | none => if ((n, m) :: aheadA r (tk ++ [n]) e).length < (d :: r).length then some (i + ((n, m) :: aheadA r (tk ++ [n]) e).length) else none)
        have eb : badAt ((n, m) :: aheadA r (tk ++ [n]) e) i = some i := by
          unfold badAt
          rw [if_neg hok]
        rw [eb]
/-- the law's own place and the program's are the same -/
theorem place_same (d : PyData) : placeL d = placeP d := by
  cases d with
  | tuple ds =>
    show (if 1 ≤ ds.length ∧ ds.length ≤ 24 then (dueL ds [] 1 0).map (fun i => [i]) else some []) = (if 1 ≤ ds.length ∧ ds.length ≤ 24 then (match badAt (aheadA ds [] 1) 0 with | some i => some [i] | none => if (aheadA ds [] 1).length < ds.length then some [(aheadA ds [] 1).length] else none) else some [])
    by_cases h : 1 ≤ ds.length ∧ ds.length ≤ 24
    · rw [if_pos h, if_pos h, due_same ds [] 1 0 (by decide) (fun x hx => absurd hx List.not_mem_nil)]
      cases badAt (aheadA ds [] 1) 0 with
      | some j => rfl
      | none =>
        simp only
        split
        · simp
        · rfl
    · rw [if_neg h, if_neg h]
  | _ => rfl
end Cp

set_option Elab.async false
set_option linter.all false
set_option maxRecDepth 100000
namespace Cp
open PySem PySem.Spec L2 PyProof.Rows
def spDue : Sp := fun vs H Q _ => ∃ (v : V) (d : PyData), vs = [v] ∧ Dq H v d ∧ bndD d = true ∧ ascD d = true ∧
  (placeL d = none → ∀ H' : Hp, Same H H' → Q .non H') ∧ (∀ l, placeL d = some l → ∀ (p : Addr) (H' : Hp), H p = none → H' p = some (.tup (l.map fun i => V.int ((i : Nat) : Int))) → Same H H' → Q (.ref p) H')
abbrev nDue : List Str := ["thing", "titles", "ed", "number", "kind", "base"]
theorem kindB_form {d : PyData} (h : kindB d = true) : ∃ (n : Str) (e : Int) (ns : List Str) (l m : Str), d = .tuple [.str n, .int e, .tuple (ns.map PyData.str), .str l, .str m] ∧ ns.length ≤ 6 ∧ (∀ x ∈ ns, wordB (.str x) 1 8 = true) ∧ 1 ≤ e := by
  unfold kindB at h
  split at h
  · rename_i dn de db dl dm
    simp only [Bool.and_eq_true] at h
    obtain ⟨a1, a2, a3, a4, a5, a6⟩ := h
    obtain ⟨n, rfl⟩ := wordB_str a1
    obtain ⟨l, rfl⟩ := wordB_str a4
    obtain ⟨m, rfl⟩ := wordB_str a5
    cases de with
    | int e =>
      unfold basB at a3
      split at a3
      · rename_i bs
        simp only [edB, Bool.and_eq_true, decide_eq_true_eq] at a2 a3
        have b1 := ((wordsB_iff bs []).mp a3.2).1
        have : bs = (bs.map strOf).map PyData.str := by
          rw [List.map_map]
          conv => lhs; rw [← List.map_id bs]
          refine List.map_congr_left fun b hb => ?_
          obtain ⟨x, rfl⟩ := wordB_str (b1 b hb)
          rfl
        refine ⟨n, e, bs.map strOf, l, m, by rw [← this], by rw [List.length_map]; exact a3.1, fun x hx => ?_, a2.1⟩
        obtain ⟨b, hb, rfl⟩ := List.mem_map.mp hx
        have hb1 := b1 b hb
        obtain ⟨x, rfl⟩ := wordB_str hb1
        exact hb1
      · cases a3
    | _ => cases a2
  · cases h
theorem dq_strs_all {H : Hp} : ∀ {vs : List V} {ns : List Str}, DqAll H vs (ns.map PyData.str) → vs = ns.map V.str
  | _, [], h => by cases h; rfl
  | _, n :: r, h => by
    cases h with
    | cons a b => cases a; rw [dq_strs_all b]; rfl
theorem dq_kind {H : Hp} {x : V} {n : Str} {e : Int} {ns : List Str} {l m : Str} (h : Dq H x (.tuple [.str n, .int e, .tuple (ns.map PyData.str), .str l, .str m])) : ∃ ka b : Addr, x = .ref ka ∧ H ka = some (.tup [.str n, .int e, .ref b, .str l, .str m]) ∧ H b = some (.tup (ns.map V.str)) := by
  cases h with
  | @tup ka ys _ hk h1 =>
    cases h1 with
    | cons q1 h2 =>
    cases h2 with
    | cons q2 h3 =>
    cases h3 with
    | cons q3 h4 =>
    cases h4 with
    | cons q4 h5 =>
    cases h5 with
    | cons q5 h6 =>
    cases h6
    cases q1; cases q2; cases q4; cases q5
    cases q3 with
    | @tup b zs _ hb hz =>
    rw [dq_strs_all hz] at hb
    exact ⟨ka, b, rfl, hk, hb⟩
theorem dp_words {K : PySem.W.Frag} {H : Hp} : ∀ l : List Str, DpAll K H (l.map V.str) (l.map PyData.str)
  | [] => .nil
  | c :: r => .cons (.str _) (dp_words r)
theorem word_lay {x : Str} (h : wordB (.str x) 1 8 = true) : (PyData.str x).canLay0 = true := by
  have h := (wordB_eight.mp h).2.2
  show x.cps.all (· < 0x110000) = true
  unfold okS at h
  rw [← Array.all_toList]
  rw [List.all_eq_true] at h ⊢
  intro c hc
  have := h c hc
  unfold okC at this
  simp only [Bool.and_eq_true, decide_eq_true_eq] at this ⊢
  omega
theorem words_lay : ∀ l : List Str, (∀ x ∈ l, wordB (.str x) 1 8 = true) → PyData.canLayAll0 (l.map PyData.str) = true
  | [], _ => rfl
  | a :: r, h => by
    show ((PyData.str a).canLay0 && PyData.canLayAll0 (r.map PyData.str)) = true
    rw [word_lay (h a (List.mem_cons_self ..)), words_lay r fun x hx => h x (List.mem_cons_of_mem _ hx)]
    rfl
theorem words_shp (l : List Str) (h : ∀ x ∈ l, wordB (.str x) 1 8 = true) : SeqAt.shaped (.list (l.map PyData.str)) = true := by
  have hd : ∀ l : List Str, PyData.depthAll (l.map PyData.str) = 0 := fun l => by
    induction l with
    | nil => simp [PyData.depthAll]
    | cons c r ih => simp [PyData.depthAll, PyData.depth, ih]
  show (PyData.canLayAll0 (l.map PyData.str) && decide ((PyData.list (l.map PyData.str)).depth ≤ 64)) = true
  rw [words_lay l h, Bool.true_and]
  simp [PyData.depth, hd]
section
variable {P : Program} {w : World} {K : PySem.W.Frag} {mg : Str → Option Value} {base : Heap}
end
end Cp

set_option Elab.async false
set_option linter.all false
set_option maxRecDepth 100000
set_option maxHeartbeats 4000000
/-! ### t[::-1], of a tuple and of a text -/
namespace Cp
open PySem PySem.Spec L2 PyProof.Rows HT
open Sem (wp)
section
variable {prog : Program} {w : World} {A : Around} {E : Value → Shared → Prop} {s : Shared}
theorem adjust_rev (n : Nat) : Builtin.Slice.sliceAdjust none none (-1) (n : Int) = ((n : Int) - 1, -1) := rfl
theorem places_rev (n : Nat) : Builtin.Slice.slicePlaces ((n : Int) - 1) (-1) (-1) = n := by
  unfold Builtin.Slice.slicePlaces
  have h1 : ¬ ((-1 : Int) > 0) := by decide
  rw [if_neg h1]
  by_cases h : (n : Int) - 1 > -1
  · rw [if_pos h]
    have : ((n : Int) - 1 - -1 - 1) / (- -1) = (n : Int) - 1 := by
      rw [show (- -1 : Int) = 1 by decide, Int.ediv_one]
      omega
    rw [this]
    omega
  · rw [if_neg h]
    omega
theorem sliceApplied_rev {sl : Addr} {vl vu vs : Value} {n : Nat} {Q : Int × Int × Nat → Shared → Prop} (hs : s.heap.IsSliceOf sl vl vu vs) (pl : IsPart vl none) (pu : IsPart vu none) (ps : IsPart vs (some (-1)))
    (h : Q ((n : Int) - 1, -1, n) s) : wpAny (model prog w) A (Builtin.Slice.sliceApplied (.ref sl) (pure (n : Int))) Q E s := by
  obtain ⟨os, hos, hcs, hds⟩ := id hs
  unfold Builtin.Slice.sliceApplied Builtin.Slice.sliceFields
  refine wpAny_bind (wpAny_bind (wpAny_field hos hds (x := vl) rfl (wpAny_bind (wpAny_field hos hds (x := vu) rfl (wpAny_bind (wpAny_field hos hds (x := vs) rfl (wpAny_pure ?_)))))))
  refine wpAny_bind (slicePart_ ps ?_)
  show wpAny _ _ (if ((-1 : Int) == 0) = true then _ else _) _ _ s
  rw [if_neg (by decide)]
  refine wpAny_bind (slicePart_ pl (wpAny_bind (slicePart_ pu (wpAny_bind (wpAny_pure ?_)))))
  show wpAny _ _ (match Builtin.Slice.sliceAdjust none none (-1) (n : Int) with | (lo, hi) => pure (lo, (-1 : Int), Builtin.Slice.slicePlaces lo hi (-1))) _ _ s
  rw [adjust_rev n]
  show wpAny _ _ (pure ((n : Int) - 1, (-1 : Int), Builtin.Slice.slicePlaces ((n : Int) - 1) (-1) (-1))) _ _ s
  rw [places_rev]
  exact wpAny_pure h
theorem fmap_congr {α β : Type} {f g : α → Option β} : ∀ l : List α, (∀ x ∈ l, f x = g x) → l.filterMap f = l.filterMap g
  | [], _ => rfl
  | a :: r, h => by
    rw [List.filterMap_cons, List.filterMap_cons, h a List.mem_cons_self, fmap_congr r fun x hx => h x (List.mem_cons_of_mem _ hx)]
theorem pick_rev (xs : Array Value) : ((List.range xs.size).filterMap fun (m : Nat) => xs[((xs.size : Int) - 1 + (m : Int) * (-1)).toNat]?).toArray = xs.toList.reverse.toArray := by
  have e : ((List.range xs.size).filterMap fun (m : Nat) => xs[((xs.size : Int) - 1 + (m : Int) * (-1)).toNat]?) = (List.range xs.size).filterMap ((fun k => xs[k]?) ∘ fun k => xs.size - 1 - k) := by
    refine fmap_congr _ fun m hm => ?_
    have := List.mem_range.mp hm
    show xs[((xs.size : Int) - 1 + (m : Int) * (-1)).toNat]? = xs[xs.size - 1 - m]?
    rw [show ((xs.size : Int) - 1 + (m : Int) * (-1)).toNat = xs.size - 1 - m by omega]
  rw [e, ← List.filterMap_map, PySem.W.krv_range, List.filterMap_reverse, PySem.W.krv_all]
theorem getItem_tuple_rev {t sl : Addr} {items : Array Value} {vl vu vs : Value} {Q : Value → Shared → Prop} (ht : IsTup s.heap t items) (hs : s.heap.IsSliceOf sl vl vu vs) (pl : IsPart vl none) (pu : IsPart vu none) (ps : IsPart vs (some (-1)))
    (h : Q (.ref s.heap.objs.size) { s with heap := s.heap.push { cls := .type "tuple", data := .seq items.toList.reverse.toArray } })
    (hsz : items.size ≤ sizeLine) : wpAny (model prog w) A (getItem (.ref t) (.ref sl)) Q E s := by
  have htake : sizeOk (.seq items.toList.reverse.toArray) := by
    show items.toList.reverse.toArray.size ≤ sizeLine
    rw [List.size_toArray, List.length_reverse, Array.length_toList]
    exact hsz
  obtain ⟨os, hos, hcs, hds⟩ := id hs
  have hTs : s.TypeIs (.ref sl) "slice" := ⟨os, hos, hcs⟩
  unfold getItem
  try with_reducible refine wpAny_holding ?_
  first | refine wpAny_bind (wpAny_pure ?_) | skip
  refine wpAny_bind (wpAny_sequenceKey ht.typeIs (by decide) ?_)
  refine wpAny_bind (wpAny_callSpecial?_slot (name := Str.ofString "__getitem__") ht.typeIs PyProof.Rows.slot_tuple_getitem
    (wpAny_call_entry PyProof.Rows.slot_tuple_getitem ht.typeIs entry_tuple_getitem ?_ (args_tuple_getitem _ _)))
  show wpAny _ _ (Builtin.Tuple.tupleItemsOf (.ref t) >>= _) _ _ s
  refine wpAny_bind (tupleItemsOf_ ht ?_)
  refine wpAny_bind (wpAny_typeOf hTs ?_)
  rw [if_pos (by decide)]
  refine wpAny_bind (sliceApplied_rev hs pl pu ps ?_)
  have hno : ¬ ((((items.size : Int) - 1 == 0 && (-1 : Int) == 1 && items.size == items.size)) = true) := by simp
  show wpAny _ _ (if (((items.size : Int) - 1 == 0 && (-1 : Int) == 1 && items.size == items.size)) = true then _ else _) _ _ s
  rw [if_neg hno, pick_rev]
  first
    | exact wpAny_bind (m := Builtin.Tuple.tupleExact _) (wpAny_newObj_type (wpAny_pure ⟨_, rfl, wpAny_pure h⟩) htake)
    | exact wpAny_bind (m := Builtin.Tuple.tupleExact _) (wpAny_newObj_type (wpAny_bind (wpAny_pure (wpAny_pure ⟨_, rfl, wpAny_pure h⟩))) htake)
    | exact wpAny_bind (wpAny_bind (m := Builtin.Tuple.tupleExact _) (wpAny_newObj_type (wpAny_pure (wpAny_pure ⟨_, rfl, wpAny_pure h⟩)) htake))
    | exact wpAny_bind (wpAny_bind (m := Builtin.Tuple.tupleExact _) (wpAny_newObj_type (wpAny_pure ⟨_, rfl, wpAny_pure h⟩) htake))
/-- a text turned round -/
def revS (x : Str) : Str := ⟨x.cps.toList.reverse.toArray⟩
theorem sidx_rev (n : Nat) : Builtin.Str.strSliceIndices none none (-1) n = (List.range n).reverse := by
  show sliceRange ((n : Int) - 1) (-1) (-1) = _
  rw [PySem.W.krv_sliceRange, PySem.W.krv_range]
theorem all_rev (x : Str) : ((List.range x.length).reverse.filterMap (x.cps[·]?)).toArray = x.cps.toList.reverse.toArray := by
  rw [List.filterMap_reverse]
  have : (List.range x.length).filterMap (x.cps[·]?) = x.cps.toList := PySem.W.krv_all x.cps
  rw [this]
theorem getItem_str_rev {x : Str} {t : Tok} {sl : Addr} {vl vu vs : Value} {Q : Value → Shared → Prop} (hs : s.heap.IsSliceOf sl vl vu vs) (pl : IsPart vl none) (pu : IsPart vu none) (ps : IsPart vs (some (-1)))
    (hz : x.length ≤ sizeLine) (h : Q (.str (revS x) s.toks) { s with toks := s.toks + 1 }) : wpAny (model prog w) A (getItem (.str x t) (.ref sl)) Q E s := by
  obtain ⟨os, hos, hcs, hds⟩ := hs
  obtain ⟨l, rfl, e1⟩ := IsPart.raw pl
  obtain ⟨u, rfl, e2⟩ := IsPart.raw pu
  obtain ⟨st, rfl, e3⟩ := IsPart.raw ps
  have e3' : (st.map (·.1)).getD 1 = -1 := by rw [e3]; rfl
  refine wpAny_getItem_str_slice (l := l) (u := u) (st := st) ⟨os, hos, hcs, hds⟩ (by rw [e3']; rfl) ?_
  unfold sliceMade slicePicked
  rw [e1, e2, e3', sidx_rev, if_neg (by simp), all_rev]
  refine ⟨?_, h⟩
  show (x.cps.toList.reverse.toArray).size ≤ sizeLine
  rw [List.size_toArray, List.length_reverse, Array.length_toList]
  exact hz
end
section
variable {X : Cx}
def tRevT (K : PySem.W.Frag) (te : TE) : TE := fun σ H Q => te σ H fun v H1 => ∃ (a : Addr) (xs : List V), v = .ref a ∧ SqT K H1 a xs ∧ ∀ p, H1 p = none → Q (.ref p) (upd H1 p (.tup xs.reverse))
theorem pe_revT {e : Expr} {te : TE} {k : Nat} {p1 p2 p3 pos : Pos} (he : PE X e te) : PE X (.Subscript e (.Slice none none (some (.UnaryOp .USub (.Constant (.int 1) k p1) p2)) p3) pos) (tRevT X.K te) := by
  refine ⟨fun pins s σ H Q I h => ?_⟩
  refine Subscript_ (thn (he.run pins s σ H _ I h) fun v s1 ⟨x, H1, I1, r1, q1⟩ => ?_)
  obtain ⟨a, xs, ex, hx, q⟩ := q1
  subst ex
  cases r1
  have hst : PO X (some (.UnaryOp .USub (.Constant (.int 1) k p1) p2)) (tPart (tUn (rU fun i => .int (-i)) (tC (.int 1)))) := po_some (pe_un un_neg pe_int)
  refine wpAny_Slice (thn (po_none.run pins s1 σ H1 (fun o H2 => o = none ∧ H2 = H1) I1 ⟨rfl, rfl⟩) fun vl s2 ⟨l, H2, I2, pl, el, e2⟩ => ?_)
  subst el e2
  refine thn (po_none.run pins s2 σ H2 (fun o H3 => o = none ∧ H3 = H2) I2 ⟨rfl, rfl⟩) fun vu s3 ⟨u, H3, I3, pu, eu, e3⟩ => ?_
  subst eu e3
  refine thn (hst.run pins s3 σ H3 (fun o H4 => o = some (-1) ∧ H4 = H3) I3 ⟨1, rfl, -1, rfl, rfl, rfl⟩) fun vs s4 ⟨o, H4, I4, ps, eo, e4⟩ => ?_
  subst eo e4
  have I5 : Inv X pins σ H4 { s4 with heap := s4.heap.push { cls := .type "slice", data := .fields #[vl, vu, vs] } } := I4.kept (t' := s4.toks) fun b ob q => Heap.get?_push_of_some _ q
  obtain ⟨its, r, ht, hz⟩ := I5.tuple hx
  have hlen := r.length
  show wpAny (model X.prog X.w) X.A (subscriptTail e (.Slice none none (some (.UnaryOp .USub (.Constant (.int 1) k p1) p2)) p3) (.ref a) (.ref s4.heap.objs.size)) (EP X pins σ Q) X.xe { s4 with heap := s4.heap.push { cls := .type "slice", data := .fields #[vl, vu, vs] } }
  refine tail_any (ops := [.ref a, .ref s4.heap.objs.size]) ht.typeIs (PyProof.Rows.slot_tuple_getitem.lookup) ?_ (by with_unfolding_all rfl)
  refine getItem_tuple_rev ht (Heap.IsSliceOf.new _ vl vu vs) pl pu ps ?_ (by rw [List.size_toArray]; omega)
  refine ⟨.ref _, _, I5.laid (t' := s4.toks) (o := .tup xs.reverse) (fun b ob q => Heap.get?_push_of_some _ q) (Nat.le_refl _) ?_, rfl, q _ (I5.hok.fresh (Nat.le_refl _))⟩
  exact ⟨by rw [List.length_reverse]; exact hz, _, r.reverse, IsTup.new _ _⟩
def tRevS (te : TE) : TE := fun σ H Q => te σ H fun v H1 => ∃ z : Str, v = .str z ∧ z.length ≤ sizeLine ∧ Q (.str (revS z)) H1
theorem pe_revS {e : Expr} {te : TE} {k : Nat} {p1 p2 p3 pos : Pos} (he : PE X e te) : PE X (.Subscript e (.Slice none none (some (.UnaryOp .USub (.Constant (.int 1) k p1) p2)) p3) pos) (tRevS te) := by
  refine ⟨fun pins s σ H Q I h => ?_⟩
  refine Subscript_ (thn (he.run pins s σ H _ I h) fun v s1 ⟨x, H1, I1, r1, q1⟩ => ?_)
  obtain ⟨z, ex, hz, q⟩ := q1
  subst ex
  obtain ⟨t, rfl⟩ := r1
  have hst : PO X (some (.UnaryOp .USub (.Constant (.int 1) k p1) p2)) (tPart (tUn (rU fun i => .int (-i)) (tC (.int 1)))) := po_some (pe_un un_neg pe_int)
  refine wpAny_Slice (thn (po_none.run pins s1 σ H1 (fun o H2 => o = none ∧ H2 = H1) I1 ⟨rfl, rfl⟩) fun vl s2 ⟨l, H2, I2, pl, el, e2⟩ => ?_)
  subst el e2
  refine thn (po_none.run pins s2 σ H2 (fun o H3 => o = none ∧ H3 = H2) I2 ⟨rfl, rfl⟩) fun vu s3 ⟨u, H3, I3, pu, eu, e3⟩ => ?_
  subst eu e3
  refine thn (hst.run pins s3 σ H3 (fun o H4 => o = some (-1) ∧ H4 = H3) I3 ⟨1, rfl, -1, rfl, rfl, rfl⟩) fun vs s4 ⟨o, H4, I4, ps, eo, e4⟩ => ?_
  subst eo e4
  have I5 : Inv X pins σ H4 { s4 with heap := s4.heap.push { cls := .type "slice", data := .fields #[vl, vu, vs] } } := I4.kept (t' := s4.toks) fun b ob q => Heap.get?_push_of_some _ q
  show wpAny (model X.prog X.w) X.A (subscriptTail e (.Slice none none (some (.UnaryOp .USub (.Constant (.int 1) k p1) p2)) p3) (.str z t) (.ref s4.heap.objs.size)) (EP X pins σ Q) X.xe { s4 with heap := s4.heap.push { cls := .type "slice", data := .fields #[vl, vu, vs] } }
  refine tail_any (ops := [.str z t, .ref s4.heap.objs.size]) (typeIs_str _ _ _) (F.slot_str_getitem.lookup) ?_ (by with_unfolding_all rfl)
  refine getItem_str_rev (Heap.IsSliceOf.new _ vl vu vs) pl pu ps hz ?_
  exact ⟨.str (revS z), _, I5.tok _, ⟨_, rfl⟩, q⟩
end
end Cp

set_option Elab.async false
set_option linter.all false
set_option maxRecDepth 100000
/-! ### data that is put in: how long its repr is, how deep it is -/
namespace Cp
open PySem PySem.Spec L2 PyProof.Rows
mutual
def okQ : PyData → Bool
  | .none => true
  | .bool _ => true
  | .int i => decide (i = -1) || (decide (0 ≤ i) && decide (i < 10 ^ 30))
  | .str x => decide (x.length ≤ 1000) && prn x
  | .list xs => okQs xs
  | .tuple xs => okQs xs
  | .dict kvs => kvs.isEmpty
def okQs : List PyData → Bool
  | [] => true
  | x :: r => okQ x && okQs r
end
mutual
def szQ : PyData → Nat
  | .none => 4
  | .bool _ => 5
  | .int _ => 30
  | .str x => 10 * x.length + 2
  | .list xs => szQs xs + 3
  | .tuple xs => szQs xs + 3
  | .dict _ => 2
def szQs : List PyData → Nat
  | [] => 0
  | x :: r => szQ x + 2 + szQs r
end
theorem okQs_iff : ∀ {ds : List PyData}, okQs ds = true ↔ ∀ x ∈ ds, okQ x = true
  | [] => by simp [okQs]
  | x :: r => by simp [okQs, okQs_iff (ds := r)]
theorem dep_iff {k : Nat} : ∀ {ds : List PyData}, PyData.depthAll ds ≤ k ↔ ∀ x ∈ ds, x.depth ≤ k
  | [] => by simp [PyData.depthAll]
  | x :: r => by
    simp only [PyData.depthAll, List.mem_cons, forall_eq_or_imp]
    rw [← dep_iff (ds := r)]
    omega
theorem szQs_app : ∀ (a b : List PyData), szQs (a ++ b) = szQs a + szQs b
  | [], b => by simp [szQs]
  | x :: r, b => by
    show szQ x + 2 + szQs (r ++ b) = szQ x + 2 + szQs r + szQs b
    rw [szQs_app r b]
    omega
theorem szQs_cut (ds : List PyData) (n : Nat) : szQs (ds.take n) + szQs (ds.drop n) = szQs ds := by
  rw [← szQs_app, List.take_append_drop]
theorem szQs_len : ∀ ds : List PyData, 2 * ds.length ≤ szQs ds
  | [] => by simp [szQs]
  | x :: r => by
    have := szQs_len r
    show 2 * (r.length + 1) ≤ szQ x + 2 + szQs r
    omega
theorem szQs_rev : ∀ ds : List PyData, szQs ds.reverse = szQs ds
  | [] => rfl
  | x :: r => by
    rw [List.reverse_cons, szQs_app, szQs_rev r]
    show szQs r + (szQ x + 2 + 0) = szQ x + 2 + szQs r
    omega
mutual
theorem okQ_bnd : ∀ d : PyData, okQ d = true → bndD d = true
  | .none, _ => rfl
  | .bool _, _ => rfl
  | .int _, _ => rfl
  | .str x, h => by
    unfold okQ at h
    rw [Bool.and_eq_true] at h
    exact h.1
  | .list xs, h => okQs_bnd xs h
  | .tuple xs, h => okQs_bnd xs h
  | .dict _, _ => rfl
theorem okQs_bnd : ∀ ds : List PyData, okQs ds = true → bndDs ds = true
  | [], _ => rfl
  | x :: r, h => by
    unfold okQs at h
    rw [Bool.and_eq_true] at h
    show (bndD x && bndDs r) = true
    rw [okQ_bnd x h.1, okQs_bnd r h.2]
    rfl
end
mutual
theorem okQ_asc : ∀ d : PyData, okQ d = true → ascD d = true
  | .none, _ => rfl
  | .bool _, _ => rfl
  | .int _, _ => rfl
  | .str x, h => by
    unfold okQ at h
    rw [Bool.and_eq_true] at h
    exact h.2
  | .list xs, h => okQs_asc xs h
  | .tuple xs, h => okQs_asc xs h
  | .dict _, _ => rfl
theorem okQs_asc : ∀ ds : List PyData, okQs ds = true → ascDs ds = true
  | [], _ => rfl
  | x :: r, h => by
    unfold okQs at h
    rw [Bool.and_eq_true] at h
    show (ascD x && ascDs r) = true
    rw [okQ_asc x h.1, okQs_asc r h.2]
    rfl
end
theorem log_small30 {i : Int} (h : i = -1 ∨ (0 ≤ i ∧ i < 10 ^ 30)) : i.natAbs.log2 < 1920 := by
  rcases h with rfl | ⟨h0, h⟩
  · decide
  by_cases z : i.natAbs = 0
  · rw [z]
    decide
  · have e34 : (2 : Nat) ^ 100 = 1267650600228229401496703205376 := by decide
    have hb : i.natAbs < 2 ^ 100 := by
      rw [e34]
      omega
    have q : i.natAbs.log2 < 100 := (Nat.log2_lt z).mpr hb
    omega
theorem okQ_int {i : Int} (h : okQ (.int i) = true) : i = -1 ∨ (0 ≤ i ∧ i < 10 ^ 30) := by
  unfold okQ at h
  simpa using h
mutual
theorem okQ_show : ∀ d : PyData, okQ d = true → d.showable = true
  | .none, _ => by simp [PyData.showable]
  | .bool _, _ => by simp [PyData.showable]
  | .int i, h => by simp [PyData.showable, log_small30 (okQ_int h)]
  | .str _, _ => by simp [PyData.showable]
  | .list xs, h => by simp [PyData.showable, okQs_show xs h]
  | .tuple xs, h => by simp [PyData.showable, okQs_show xs h]
  | .dict kvs, h => by
    have : kvs = [] := by simpa [okQ] using h
    subst this
    simp [PyData.showable, PyData.showableKv]
theorem okQs_show : ∀ ds : List PyData, okQs ds = true → PyData.showableAll ds = true
  | [], _ => by simp [PyData.showableAll]
  | x :: r, h => by
    unfold okQs at h
    rw [Bool.and_eq_true] at h
    simp [PyData.showableAll, okQ_show x h.1, okQs_show r h.2]
end
theorem shown_sumQ : ∀ ds : List PyData, (∀ d ∈ ds, d.shown.length ≤ szQ d) → ((PyData.shownAll ds).map (·.length)).sum + 2 * (PyData.shownAll ds).length ≤ szQs ds
  | [], _ => by simp [PyData.shownAll, szQs]
  | x :: r, h => by
    have h1 := h x List.mem_cons_self
    have h2 := shown_sumQ r fun d hd => h d (List.mem_cons_of_mem _ hd)
    unfold PyData.shownAll szQs
    simp only [List.map_cons, List.sum_cons, List.length_cons]
    omega
mutual
theorem okQ_len : ∀ d : PyData, okQ d = true → d.shown.length ≤ szQ d
  | .none, _ => by unfold PyData.shown szQ; decide +kernel
  | .bool true, _ => by unfold PyData.shown szQ; decide +kernel
  | .bool false, _ => by unfold PyData.shown szQ; decide +kernel
  | .int i, h => by
    rcases okQ_int h with rfl | ⟨h0, h1⟩
    · decide +kernel
    · unfold PyData.shown szQ
      exact PyProof.Rows.toString_length_le h0 (by decide) h1
  | .str x, h => by
    unfold okQ at h
    rw [Bool.and_eq_true] at h
    unfold PyData.shown szQ
    refine PySem.StrLaws.reprText_len x fun c hc => ?_
    have h2 : prn x = true := h.2
    unfold prn at h2
    rw [List.all_eq_true] at h2
    have := h2 c hc
    simp only [Bool.and_eq_true, decide_eq_true_eq] at this
    omega
  | .list xs, h => by
    unfold PyData.shown szQ
    have h1 := listText_len_le (PyData.shownAll xs)
    have h2 := shown_sumQ xs (okQs_len xs h)
    omega
  | .tuple xs, h => by
    unfold PyData.shown szQ
    have h1 := tupleText_len_le (PyData.shownAll xs)
    have h2 := shown_sumQ xs (okQs_len xs h)
    omega
  | .dict kvs, h => by
    have : kvs = [] := by simpa [okQ] using h
    subst this
    decide +kernel
theorem okQs_len : ∀ ds : List PyData, okQs ds = true → ∀ d ∈ ds, d.shown.length ≤ szQ d
  | [], _, d, hd => by simp at hd
  | x :: r, h, d, hd => by
    unfold okQs at h
    rw [Bool.and_eq_true] at h
    rcases List.mem_cons.mp hd with e | hd
    · rw [e]
      exact okQ_len x h.1
    · exact okQs_len r h.2 d hd
end
/-- data of no more than such a size, not deep -/
structure Nice (n k : Nat) (x : PyData) : Prop where
  ok : okQ x = true
  dp : x.depth ≤ k
  sz : szQ x ≤ n
theorem Nice.repr {n k : Nat} {x : PyData} (h : Nice n k x) (hn : n ≤ sizeLine) (hk : k ≤ 60) : reprB x = true := by
  unfold reprB
  rw [okQ_show x h.ok, decide_eq_true (Nat.le_trans h.dp hk), decide_eq_true (Nat.le_trans (okQ_len x h.ok) (Nat.le_trans h.sz hn))]
  rfl
theorem Nice.mono {n k n' k' : Nat} {x : PyData} (h : Nice n k x) (hn : n ≤ n') (hk : k ≤ k') : Nice n' k' x := ⟨h.ok, Nat.le_trans h.dp hk, Nat.le_trans h.sz hn⟩
/-- the heap without the draws -/
def cutH (H : Hp) (d g : Addr) : Hp := fun b => if b = d ∨ b = g then none else H b
theorem cut_sub {H : Hp} {d g : Addr} : Same (cutH H d g) H := fun b o e => by
  unfold cutH at e
  split at e
  · cases e
  · exact e
theorem cut_of {H : Hp} {d g b : Addr} {o : HO} (e : H b = some o) (h1 : b ≠ d) (h2 : b ≠ g) : cutH H d g b = some o := by
  unfold cutH
  rw [if_neg (by rintro (h | h); exact h1 h; exact h2 h)]
  exact e
theorem cut_inv {H : Hp} {d g b : Addr} {o : HO} (e : cutH H d g b = some o) : H b = some o ∧ b ≠ d ∧ b ≠ g := by
  unfold cutH at e
  split at e
  · cases e
  · rename_i h
    exact ⟨e, fun q => h (.inl q), fun q => h (.inr q)⟩
theorem cut_ev {H H' : Hp} {d g : Addr} (e : Ev d g H H') : Same (cutH H d g) (cutH H' d g) := fun b o q => by
  obtain ⟨h1, h2, h3⟩ := cut_inv q
  exact cut_of (e.kp b o h1 h2 h3) h2 h3
theorem cut_same {H H' : Hp} {d g : Addr} (e : Same H H') : Same (cutH H d g) (cutH H' d g) := fun b o q => by
  obtain ⟨h1, h2, h3⟩ := cut_inv q
  exact cut_of (e b o h1) h2 h3
theorem dq_cut {H : Hp} {d g : Addr} {v : V} {x : PyData} (h : Dq (cutH H d g) v x) : Dq H v x := h.same cut_sub
theorem dqs_str {H : Hp} : ∀ bs : List Str, DqAll H (bs.map V.str) (bs.map PyData.str)
  | [] => .nil
  | b :: r => .cons (.str b) (dqs_str r)
/-- a kind as data -/
theorem dq_row {H : Hp} {p : Addr} {k : Kd} (r : RowAt H p k) : Dq H (.ref p) (kdD k) := by
  obtain ⟨b, h1, h2⟩ := r
  exact .tup h1 (.cons (.str _) (.cons (.int _) (.cons (.tup h2 (dqs_str k.bs)) (.cons (.str _) (.cons (.str _) .nil)))))
theorem row_cut {H : Hp} {d g p : Addr} {k : Kd} (D : Drw H d g) (r : RowAt H p k) : RowAt (cutH H d g) p k := by
  obtain ⟨b, h1, h2⟩ := r
  obtain ⟨m, t, gs, e1, e2, _⟩ := D
  have ne : ∀ {c : Addr} {xs : List V}, H c = some (.tup xs) → c ≠ d ∧ c ≠ g := fun {c xs} h => And.intro (fun q => by rw [q, e1] at h; cases h) (fun q => by rw [q, e2] at h; cases h)
  exact ⟨b, cut_of h1 (ne h1).1 (ne h1).2, cut_of h2 (ne h2).1 (ne h2).2⟩
theorem tup_cut {H : Hp} {d g c : Addr} {xs : List V} (D : Drw H d g) (h : H c = some (.tup xs)) : cutH H d g c = some (.tup xs) := by
  obtain ⟨m, t, gs, e1, e2, _⟩ := D
  exact cut_of h (fun q => by rw [q, e1] at h; cases h) fun q => by rw [q, e2] at h; cases h
theorem new_cut {H H' : Hp} {d g p : Addr} {o : HO} (D : Drw H d g) (hp : H p = none) (h : H' p = some o) : cutH H' d g p = some o := cut_of h (D.ned hp) (D.neg hp)
theorem dq_rows {H : Hp} : ∀ {as : List Addr} {ks : List Kd}, RowsAt H as ks → DqAll H (as.map V.ref) (ks.map kdD)
  | [], [], _ => .nil
  | a :: as, k :: ks, r => .cons (dq_row (r.2 0 a k rfl rfl)) (dq_rows ⟨Nat.succ.inj r.1, fun i p k' h1 h2 => r.2 (i + 1) p k' (by simpa using h1) (by simpa using h2)⟩)
  | [], _ :: _, r => nomatch r.1
  | _ :: _, [], r => nomatch r.1
theorem dq_lay {H : Hp} {t : Addr} {as : List Addr} {ks : List Kd} (L : LayAt H t as ks) : Dq H (.ref t) (layD ks) := .tup L.tp (dq_rows L.rw)
theorem lay_cut {H : Hp} {d g t : Addr} {as : List Addr} {ks : List Kd} (D : Drw H d g) (L : LayAt H t as ks) : LayAt (cutH H d g) t as ks :=
  ⟨tup_cut D L.tp, ⟨L.rw.1, fun i p k h1 h2 => row_cut D (L.rw.2 i p k h1 h2)⟩, L.fm, L.l1, L.l2⟩
theorem okS_prn {x : Str} (h : okS x = true) : prn x = true := by
  unfold okS at h
  unfold prn
  rw [List.all_eq_true] at h ⊢
  intro c hc
  have := h c hc
  unfold okC at this
  simp only [Bool.and_eq_true, decide_eq_true_eq] at this ⊢
  omega
theorem nice_str {x : Str} {m : Nat} (h : okS x = true) (hl : x.length ≤ m) (hm : m ≤ 1000) : Nice (10 * m + 2) 0 (.str x) := by
  refine ⟨?_, by simp [PyData.depth], by show 10 * x.length + 2 ≤ _; omega⟩
  show (decide (x.length ≤ 1000) && prn x) = true
  rw [decide_eq_true (by omega), okS_prn h]
  rfl
theorem nice_tup {n k m : Nat} {ds : List PyData} (h : ∀ x ∈ ds, okQ x = true ∧ x.depth ≤ k) (hs : szQs ds ≤ m) : Nice (m + 3) (k + 1) (.tuple ds) :=
  ⟨okQs_iff.mpr fun x hx => (h x hx).1, by simp only [PyData.depth]; exact Nat.succ_le_succ (dep_iff.mpr fun x hx => (h x hx).2), by show szQs ds + 3 ≤ m + 3; omega⟩
theorem nice_lst {n k m : Nat} {ds : List PyData} (h : ∀ x ∈ ds, okQ x = true ∧ x.depth ≤ k) (hs : szQs ds ≤ m) : Nice (m + 3) (k + 1) (.list ds) :=
  ⟨okQs_iff.mpr fun x hx => (h x hx).1, by simp only [PyData.depth]; exact Nat.succ_le_succ (dep_iff.mpr fun x hx => (h x hx).2), by show szQs ds + 3 ≤ m + 3; omega⟩
theorem szQs_all {m : Nat} : ∀ {ds : List PyData}, (∀ x ∈ ds, szQ x ≤ m) → szQs ds ≤ (m + 2) * ds.length
  | [], _ => by simp [szQs]
  | x :: r, h => by
    have h1 := h x List.mem_cons_self
    have h2 := szQs_all (ds := r) fun y hy => h y (List.mem_cons_of_mem _ hy)
    show szQ x + 2 + szQs r ≤ (m + 2) * (r.length + 1)
    rw [Nat.mul_succ]
    omega
theorem nice_bs {bs : List Str} (h : ∀ b ∈ bs, okN b = true) : (∀ x ∈ bs.map PyData.str, okQ x = true ∧ x.depth ≤ 0) ∧ szQs (bs.map PyData.str) ≤ 84 * bs.length := by
  have hx : ∀ x ∈ bs.map PyData.str, Nice 82 0 x := fun x hx => by
    obtain ⟨b, hb, rfl⟩ := List.mem_map.mp hx
    obtain ⟨a1, a2, a3⟩ := okN_S (h b hb)
    exact (nice_str a1 a3 (by decide)).mono (by decide) (by decide)
  refine ⟨fun x q => ⟨(hx x q).ok, (hx x q).dp⟩, ?_⟩
  have := szQs_all (m := 82) fun x q => (hx x q).sz
  rwa [List.length_map] at this
/-- the parts of a kind -/
structure NiceK (k : Kd) : Prop where
  nm : Nice 82 0 (.str k.nm)
  ed : 1 ≤ k.ed ∧ k.ed ≤ 99
  bs : (∀ x ∈ k.bs.map PyData.str, okQ x = true ∧ x.depth ≤ 0) ∧ szQs (k.bs.map PyData.str) ≤ 504
  lt : Nice 12 0 (.str (ltr k.lt))
  mr : Nice 262 0 (.str k.mrk)
  ml : k.mrk.length ≤ 26
  ms : okS k.mrk = true
theorem nice_k {k : Kd} (o : OkK k) : NiceK k := by
  obtain ⟨a1, a2, a3⟩ := okN_S o.nm
  have hb := nice_bs o.bo
  have hl := o.bl
  have hml := okM_len o.mr
  exact ⟨(nice_str a1 a3 (by decide)).mono (by decide) (by decide), ⟨o.e1, o.e2⟩, ⟨hb.1, by have := hb.2; omega⟩, (nice_str (ltr_okS o.lt) (m := 1) (by rw [ltr_len]; exact Nat.le_refl _) (by decide)).mono (by decide) (by decide), (nice_str (okM_S o.mr) hml (by decide)).mono (by decide) (by decide), hml, okM_S o.mr⟩
theorem nice_int {i : Int} (h : i = -1 ∨ (0 ≤ i ∧ i < 10 ^ 30)) : Nice 30 0 (.int i) := by
  refine ⟨?_, by simp [PyData.depth], Nat.le_refl _⟩
  show (decide (i = -1) || (decide (0 ≤ i) && decide (i < 10 ^ 30))) = true
  rcases h with rfl | ⟨h1, h2⟩
  · rfl
  · rw [decide_eq_true h1, decide_eq_true h2]
    simp
theorem nice_kd {k : Kd} (o : OkK k) : Nice 1000 2 (kdD k) := by
  have q := nice_k o
  have hi := nice_int (i := k.ed) (.inr ⟨by have := q.ed; omega, by have := q.ed; omega⟩)
  have ht := nice_tup (n := 0) (k := 0) (m := 504) q.bs.1 q.bs.2
  refine (nice_tup (n := 0) (k := 1) (m := 997) (ds := [.str k.nm, .int k.ed, .tuple (k.bs.map PyData.str), .str (ltr k.lt), .str k.mrk]) (fun x hx => ?_) ?_).mono (by decide) (by decide)
  · simp only [List.mem_cons, List.not_mem_nil, or_false] at hx
    rcases hx with rfl | rfl | rfl | rfl | rfl
    · exact ⟨q.nm.ok, Nat.le_trans q.nm.dp (by decide)⟩
    · exact ⟨hi.ok, Nat.le_trans hi.dp (by decide)⟩
    · exact ⟨ht.ok, ht.dp⟩
    · exact ⟨q.lt.ok, Nat.le_trans q.lt.dp (by decide)⟩
    · exact ⟨q.mr.ok, Nat.le_trans q.mr.dp (by decide)⟩
  · have s1 := q.nm.sz
    have s2 := hi.sz
    have s3 := ht.sz
    have s4 := q.lt.sz
    have s5 := q.mr.sz
    show szQ (.str k.nm) + 2 + (szQ (.int k.ed) + 2 + (szQ (.tuple (k.bs.map PyData.str)) + 2 + (szQ (.str (ltr k.lt)) + 2 + (szQ (.str k.mrk) + 2 + 0)))) ≤ 997
    omega
theorem nice_kds {ks : List Kd} (h : ∀ k ∈ ks, OkK k) : (∀ x ∈ ks.map kdD, okQ x = true ∧ x.depth ≤ 2) ∧ szQs (ks.map kdD) ≤ 1002 * ks.length := by
  have hx : ∀ x ∈ ks.map kdD, Nice 1000 2 x := fun x hx => by
    obtain ⟨b, hb, rfl⟩ := List.mem_map.mp hx
    exact nice_kd (h b hb)
  refine ⟨fun x q => ⟨(hx x q).ok, (hx x q).dp⟩, ?_⟩
  have := szQs_all (m := 1000) fun x q => (hx x q).sz
  rwa [List.length_map] at this
end Cp

set_option Elab.async false
set_option linter.all false
set_option maxRecDepth 100000
set_option maxHeartbeats 4000000
/-! ### _law_right of k30 -/
namespace Cp
open PySem PySem.Spec L2 PyProof.Rows
abbrev sRgt30 : Stmt := top 46
abbrev nRgt30 : List Str := ["plan", "wanted", "more", "kept", "due", "told", "found", "wider", "one"]
theorem chP_same {ks : List Kd} {ws vs : List Str} (h : ∀ x, x ∈ ws ↔ x ∈ vs) : chP ks ws = chP ks vs := by
  funext o
  unfold chP
  rw [Bool.eq_iff_iff, List.any_eq_true, List.any_eq_true]
  exact exists_congr fun x => and_congr (h x) Iff.rfl
theorem widN_same {ks : List Kd} {ws vs : List Str} (h : chP ks ws = chP ks vs) : ∀ n, widN ks ws n = widN ks vs n
  | 0 => h
  | n + 1 => by show stepW ks (widN ks ws n) = stepW ks (widN ks vs n); rw [widN_same h n]
theorem widP_same {ks : List Kd} {ws vs : List Str} (h : ∀ x, x ∈ ws ↔ x ∈ vs) : widP ks ws = widP ks vs := widN_same (chP_same h) _
theorem widP_clo (ks : List Kd) (ws : List Str) : ∀ o ∈ ks, stepW ks (widP ks ws) o = true → widP ks ws o = true := fun o ho h => by rw [← widP_fix ks ws o ho]; exact h
theorem widP_mono {ks : List Kd} {ws vs : List Str} (h : ∀ x ∈ ws, x ∈ vs) : ∀ o ∈ ks, widP ks ws o = true → widP ks vs o = true :=
  widP_le (fun o ho hc => widP_ch _ o ho (by
    unfold chP at hc ⊢
    obtain ⟨x, hx, hc⟩ := List.any_eq_true.mp hc
    exact List.any_eq_true.mpr ⟨x, h x hx, hc⟩)) (widP_clo ks vs)
theorem nm_mem {ks : List Kd} (F : Frm ks) {p : Kd → Bool} {o : Kd} (ho : o ∈ ks) : o.nm ∈ (ks.filter p).map Kd.nm ↔ p o = true := by
  rw [List.mem_map]
  constructor
  · rintro ⟨z, hz, e⟩
    obtain ⟨h1, h2⟩ := List.mem_filter.mp hz
    obtain ⟨i, hi⟩ := List.getElem?_of_mem h1
    obtain ⟨j, hj⟩ := List.getElem?_of_mem ho
    have := nm_injU F hi hj e
    subst this
    rw [hi] at hj
    cases hj
    exact h2
  · exact fun h => ⟨o, List.mem_filter.mpr ⟨ho, h⟩, rfl⟩
/-- the widened set is widened to itself -/
theorem widP_idem {ks : List Kd} {ws : List Str} (F : Frm ks) : ∀ o ∈ ks, widP ks ((ks.filter (widP ks ws)).map Kd.nm) o = widP ks ws o := by
  intro o ho
  rw [Bool.eq_iff_iff]
  constructor
  · refine widP_le (fun o ho hc => ?_) (widP_clo ks ws) o ho
    unfold chP at hc
    obtain ⟨x, hx, hc⟩ := List.any_eq_true.mp hc
    obtain ⟨u, hu, rfl⟩ := List.mem_map.mp hx
    obtain ⟨hu, hw⟩ := List.mem_filter.mp hu
    rw [Bool.or_eq_true] at hc
    rcases hc with hc | hc
    · have := (nm_mem F (p := widP ks ws) ho).mp (by rw [of_decide_eq_true hc]; exact (nm_mem F hu).mpr hw)
      exact this
    · exact widP_ben hu ho hw (of_decide_eq_true hc)
  · exact fun h => widP_ch _ o ho (by unfold chP; exact List.any_eq_true.mpr ⟨o.nm, (nm_mem F ho).mpr h, by rw [decide_eq_true rfl]; rfl⟩)
/-- names fit where the widened set has no more -/
theorem fit_len {ks : List Kd} {ws : List Str} (F : Frm ks) (sub : ∀ x ∈ ws, ∃ k ∈ ks, k.nm = x) : fitP ks ws = decide ((ks.filter (widP ks ws)).length = (ks.filter (chP ks ws)).length) := by
  have le : ∀ o ∈ ks, chP ks ws o = true → widP ks ws o = true := fun o ho h => widP_ch _ o ho h
  rw [Bool.eq_iff_iff, decide_eq_true_eq, fit_iff]
  constructor
  · intro h
    have : ∀ o ∈ ks, widP ks ws o = true → chP ks ws o = true := widP_le (fun o _ h => h) (closed_step F (fun u hu o ho h1 h2 => h u hu o ho h1 h2) fun u hu o ho h1 h2 => by
      unfold chP at h1 ⊢
      obtain ⟨x, hx, h1⟩ := List.any_eq_true.mp h1
      refine List.any_eq_true.mpr ⟨x, hx, ?_⟩
      rw [Bool.or_eq_true] at h1 ⊢
      refine .inr (decide_eq_true ?_)
      rcases h1 with h1 | h1
      · rw [← of_decide_eq_true h1]
        exact h2
      · obtain ⟨kx', hkx, rfl⟩ := sub x hx
        obtain ⟨n, hn⟩ := List.getElem?_of_mem hkx
        exact U_tr F n hn (of_decide_eq_true h1) h2)
    congr 1
    exact List.filter_congr fun o ho => Bool.eq_iff_iff.mpr ⟨this o ho, le o ho⟩
  · intro h u hu o ho hc e
    have eq : ∀ o ∈ ks, chP ks ws o = widP ks ws o := Classical.byContradiction fun z => by
      have := filt_lt le z
      omega
    rw [eq o ho]
    exact widP_let hu ho (le u hu hc) e
theorem rb_allU (b : Bool) : reprB (.bool b) = true := by cases b <;> decide +kernel
/-- names as data -/
def nmsT (l : List Str) : PyData := .tuple (l.map PyData.str)
theorem nice_nms {l : List Str} (h : ∀ x ∈ l, okN x = true) (hl : l.length ≤ 24) : Nice 3000 1 (nmsT l) := by
  have n := nice_bs h
  exact (nice_tup (n := 0) (m := 2016) n.1 (by have := n.2; omega)).mono (by decide) (by decide)
theorem nms_dp {K : PySem.W.Frag} {H : Hp} {a : Addr} {l : List Str} (h : H a = some (.tup (l.map V.str))) : Dp K H (.ref a) (nmsT l) := .tup (SqT.of h) (dp_strs l)
theorem nms_dq {H : Hp} {a : Addr} {l : List Str} (h : H a = some (.tup (l.map V.str))) : Dq H (.ref a) (nmsT l) := .tup h (dqs_str l)
theorem eqvAll_strs : ∀ l : List Str, PyData.eqvAll (l.map PyData.str) (l.map PyData.str) = true
  | [] => rfl
  | x :: r => by
    rw [List.map_cons]
    unfold PyData.eqvAll
    rw [eqvAll_strs r, Bool.and_true]
    unfold PyData.eqv
    simp
theorem nms_eqv (l : List Str) : PyData.eqv (nmsT l) (nmsT l) = true := by
  unfold nmsT PyData.eqv
  exact eqvAll_strs l
theorem nms_shaped {l : List Str} (h : ∀ x ∈ l, okS x = true) : SeqAt.shaped (nmsT l) = true := by
  have h1 := lay_all (ds := l.map PyData.str) fun d hd => by
    obtain ⟨x, hx, rfl⟩ := List.mem_map.mp hd
    exact okS_str (h x hx)
  have h2 := dep_all (ds := l.map PyData.str) fun d hd => by
    obtain ⟨x, hx, rfl⟩ := List.mem_map.mp hd
    show (PyData.str x).depth ≤ 60
    simp [PyData.depth]
  show (PyData.canLayAll0 _ && decide ((PyData.tuple _).depth ≤ 64)) = true
  rw [h1, Bool.true_and, decide_eq_true_eq]
  simp only [PyData.depth]
  omega
theorem widF_ok {ks : List Kd} (F : Frm ks) (p : Kd → Bool) : ∀ x ∈ (ks.filter p).map Kd.nm, okN x = true := fun x hx => by
  obtain ⟨u, hu, rfl⟩ := List.mem_map.mp hx
  exact (F.ok u (List.mem_filter.mp hu).1).nm
def spRgt30 : Sp := fun vs H Q _ => ∃ (t a m : Addr) (as : List Addr) (ks : List Kd) (ws ms : List Str), vs = [.ref t, .ref a, .ref m] ∧ LayAt H t as ks ∧ H a = some (.tup (ws.map V.str)) ∧ NmsOf ks ws ∧ H m = some (.tup (ms.map V.str)) ∧ NmsOf ks ms ∧ (∀ x ∈ ms, x ∉ ws) ∧ ∀ H', Same H H' → Q (.bl true) H'
section
variable {P : Program} {w : World} {K : PySem.W.Frag} {mg : Str → Option Value} {base : Heap}
theorem scRgt30 : FnScope nRgt30 ["plan", "wanted", "more"] (defScope sRgt30) := ⟨rfl, rfl, rfl, by decide +kernel, rfl, by decide +kernel, by decide +kernel⟩
theorem ok_rgt30 {f fW fI fG fX fY : Addr} {fd fdW fdI fdG fdX fdY : FuncData} (F : Fun K "_law_right" "_law_right" sRgt30 f fd) (T : TB mg) (TI : mg "isinstance" = none) (hmod : ∃ o, base.get? sysModules = some o)
    (GW : FnOk P w K mg base CX0 3 fW fdW ["plan", "wanted"] spWde) (FW : Fun K "_law_wide" "_law_wide" sWde fW fdW) (bW : Binds K fdW ["plan", "wanted"] []) (mW : mg "_law_wide" = some (.ref fW))
    (GI : FnOk P w K mg base CX0 1 fI fdI ["plan", "found", "wanted"] spIsWd) (FI : Fun K "_law_is_wide" "_law_is_wide" sIsWd fI fdI) (bI : Binds K fdI ["plan", "found", "wanted"] []) (mI : mg "_law_is_wide" = some (.ref fI))
    (GG : FnOk P w K mg base CX0 2 fG fdG ["plan", "wanted"] spGrp) (FG : Fun K "_law_group" "_law_group" sGrp fG fdG) (bG : Binds K fdG ["plan", "wanted"] []) (mG : mg "_law_group" = some (.ref fG))
    (GX : FnOk P w K mg base (L2.CX P w) 9 fX fdX ["layout", "bases"] spWid) (kX : PySem.W.keepIn K (.ref fX) = true) (bX : Binds K fdX ["layout", "bases"] []) (mX : mg "widened" = some (.ref fX))
    (GY : FnOk P w K mg base (L2.CX P w) 9 fY fdY ["layout", "bases"] spFits) (kY : PySem.W.keepIn K (.ref fY) = true) (bY : Binds K fdY ["layout", "bases"] []) (mY : mg "fits" = some (.ref fY)) :
    GOk P w K mg base CX0 10 f fd ["plan", "wanted", "more"] spRgt30 := by
  refine gfun_ok F scRgt30 (fun vs H Q E h => ?_) (fun cdv A outer s H vs Q E hg hr h => ?_)
  · obtain ⟨t, a, m, as, ks, ws, ms, rfl, _⟩ := h; rfl
  · obtain ⟨t, a, m, as, ks, ws, ms, rfl, L, hw, N, hm, Nm, dj, k⟩ := h
    have hu := hu_of hr
    have hr1 : Room 1 _ := hr.mono (by decide)
    have hr2 : Room 2 _ := hr.mono (by decide)
    have hr3 : Room 3 _ := hr.mono (by decide)
    have hrx : Room 9 _ := hr
    have hgd : (A.deeper (envOfC "_law_right" (defScope sRgt30) s.heap.objs.size f cdv)).guards = some [] := hg
    have nd := scRgt30.nd
    suffices main : ∃ tt, PSs (cxOf CX0 P w K mg base nRgt30 "_law_right" (defScope sRgt30) f cdv A outer s H E).nox (defBody sRgt30) tt ∧ tt { nx := fun _ H' => Q .non H', rt := Q } (start nRgt30 [.ref t, .ref a, .ref m]) H by
      obtain ⟨t, x, y⟩ := main
      exact ⟨t, x.nox, y⟩
    refine ⟨_, (pss_cons (ps_par (i := 3) (j := 4) (by rfl) nd rfl rfl (by decide) rfl rfl (pa_cons (pe_callB (call_reprQ hmod hgd hr.units) (by rfl) T.repr (by decide +kernel) (pa_cons (pe_lst (pa_cons (pv 0) (pa_cons (pv 1) pa_nil))) pa_nil)) (pa_cons (pe_call GW hr3 (by rfl) mW FW.kp bW .nil pass0 (pa_cons (pv 0) (pa_cons (pv 1) pa_nil))) pa_nil)) (by rfl))
      (pss_cons (ps_set (i := 5) nd rfl (.inl rfl) (pe_lst (pa_cons (pe_call GX hrx (by rfl) mX kX bX .nil passX (pa_cons (pv 0) (pa_cons (pv 1) pa_nil))) (pa_cons (pe_call GX hrx (by rfl) mX kX bX .nil passX (pa_cons (pv 0) (pa_cons (pe_revT (pv 1)) pa_nil))) (pa_cons (pe_call GX hrx (by rfl) mX kX bX .nil passX (pa_cons (pv 0) (pa_cons (pv 1) pa_nil))) pa_nil)))))
      (pss_cons (ps_if (PW.pt (pw_or (pt_cmpR op_ne (pe_callB (call_reprQ hmod hgd hr.units) (by rfl) T.repr (by decide +kernel) (pa_cons (pv 5) pa_nil)) (pe_callB (call_reprQ hmod hgd hr.units) (by rfl) T.repr (by decide +kernel) (pa_cons (pe_op op_rep (pe_lst (pa_cons (pv 4) pa_nil)) pe_int) pa_nil)) (nomark _)) (pw_or1 (pt_cmpR op_ne (pe_callB (call_reprQ hmod hgd hr.units) (by rfl) T.repr (by decide +kernel) (pa_cons (pe_lst (pa_cons (pv 0) (pa_cons (pv 1) pa_nil))) pa_nil)) (pv 3) (nomark _))))) (pss_one (ps_ret pe_bl)) pss_nil)
      (pss_cons (ps_set (i := 6) nd rfl (.inl rfl) (pe_ix ix_list (pv 5) pe_int (fun _ _ => rfl)))
      (pss_cons (ps_if (PW.pt (pw_or (pt_not (pt_val (pe_callB call_isi (by rfl) TI (by decide +kernel) (pa_cons (pv 6) (pa_cons (pe_bltn (v := .ty "tuple") (u := .type "tuple") (by rfl) T.tuple (by decide +kernel) rfl) pa_nil))))) (pw_or1 (pt_not (pt_val (pe_call GI hr1 (by rfl) mI FI.kp bI .nil pass0 (pa_cons (pv 0) (pa_cons (pv 6) (pa_cons (pv 1) pa_nil))))))))) (pss_one (ps_ret pe_bl)) pss_nil)
      (C8.pss_cut (ps_if (PW.pt (pw_and (pt_cmpR op_lt (pe_callB call_len_seq (by rfl) T.len (PySem.boot_len) (pa_cons (pv 6) pa_nil)) pe_int (nomark _)) (pw_and1 (pt_cmpR (op_neD hr.units) (pe_call GX hrx (by rfl) mX kX bX .nil passX (pa_cons (pv 0) (pa_cons (pv 6) pa_nil))) (pv 6) (nomark _))))) (pss_one (ps_ret pe_bl)) pss_nil)
      (pss_cons (ps_if (pt_cmpR op_ne (pe_callB (call_reprQ hmod hgd hr.units) (by rfl) T.repr (by decide +kernel) (pa_cons (pe_call GY hrx (by rfl) mY kY bY .nil passX (pa_cons (pv 0) (pa_cons (pv 1) pa_nil))) pa_nil)) (pe_callB (call_reprQ hmod hgd hr.units) (by rfl) T.repr (by decide +kernel) (pa_cons (pe_cmpR op_eq (pe_callB call_len_seq (by rfl) T.len (PySem.boot_len) (pa_cons (pv 6) pa_nil)) (pe_callB call_len_seq (by rfl) T.len (PySem.boot_len) (pa_cons (pe_call GG hr2 (by rfl) mG FG.kp bG .nil pass0 (pa_cons (pv 0) (pa_cons (pv 1) pa_nil))) pa_nil)) (nomark _)) pa_nil)) (nomark _)) (pss_one (ps_ret pe_bl)) pss_nil)
      (pss_cons (ps_set (i := 7) nd rfl (.inr rfl) (pe_call GX hrx (by rfl) mX kX bX .nil passX (pa_cons (pv 0) (pa_cons (pe_slice sl_tupA (pe_op op_catA (pv 1) (pv 2)) po_none (po_some pe_int)) pa_nil))))
      (pss_one (ps_ret (pe_cmpR (op_eqD hr.units) (pe_lc (own := [("one", 8)]) (g := gName 8) rfl nd (pi_tup (pv 6)) (blkOk_by (N := nRgt30) (sc := defScope sRgt30) (by decide +kernel)) (fun _ _ _ _ _ => (pg_name (i := 8) nd rfl (.inl rfl))) (fun _ _ _ _ _ => pts_one (pt_cmpR (show OpR _ _ (rIn K true) from op_notIn_seq) (pv 8) (pv 7) (by rfl))) (fun _ _ _ _ _ => (pv 8))) (pe_lst pa_nil) (nomark _)))))))))))), ?_⟩
    have l2 := L.l2
    have rl := nice_kds L.fm.ok
    have okw : ∀ x ∈ ws, okN x = true := fun x hx => by
      obtain ⟨kd, hm, rfl⟩ := N.sub x hx
      exact (L.fm.ok kd hm).nm
    have wl := N.len
    have ml := Nm.len
    have nl : Nice 25000 3 (layD ks) := (nice_tup (n := 0) (m := 24990) rl.1 (by have := rl.2; omega)).mono (by decide) (by decide)
    have nw : Nice 3000 1 (nmsT ws) := nice_nms okw (by omega)
    have nlw : Nice 30000 10 (.list [layD ks, nmsT ws]) := by
      refine (nice_lst (n := 0) (k := 3) (m := 29000) (fun x hx => ?_) ?_).mono (by decide) (by decide)
      · simp only [List.mem_cons, List.not_mem_nil, or_false] at hx
        rcases hx with rfl | rfl
        · exact ⟨nl.ok, nl.dp⟩
        · exact ⟨nw.ok, Nat.le_trans nw.dp (by decide)⟩
      · have e1 := nl.sz
        have e2 := nw.sz
        simp only [szQs]
        omega
    have r1 := nlw.repr (by decide) (by decide)
    have dq1 : ∀ {H' : Hp}, Same H H' → ∀ {p : Addr}, H' p = some (.lst [.ref t, .ref a]) → Dq H' (.ref p) (.list [layD ks, nmsT ws]) := fun {H'} s {p} e => .lst e (.cons (dq_lay (L.same s)) (.cons (nms_dq (s _ _ hw)) .nil))
    refine ⟨_, rfl, _, rfl, by show 2 ≤ sizeLine; decide, fun p hp => ?_⟩
    have s1 : Same H _ := s_new (o := HO.lst [.ref t, .ref a]) hp
    refine ⟨.ref p, _, rfl, dq1 s1 upd_same, r1, ?_⟩
    generalize upd H p (.lst [.ref t, .ref a]) = H1 at s1 ⊢
    refine ⟨_, rfl, _, rfl, t, a, as, ks, ws, rfl, L.same s1, s1 _ _ hw, N, fun du H2 hdu h2 s2 => ?_⟩
    have s02 := s1.trans s2
    refine ⟨_, _, rfl, ?_⟩
    -- the three
    have wlen : ((ks.filter (widP ks ws)).map Kd.nm).length ≤ 24 := by
      rw [List.length_map]
      exact Nat.le_trans (List.length_filter_le _ _) l2
    have okf := widF_ok L.fm (widP ks ws)
    have nodf : ((ks.filter (widP ks ws)).map Kd.nm).Nodup := L.fm.nd.sublist ((List.filter_sublist).map Kd.nm)
    have subf : ∀ x ∈ (ks.filter (widP ks ws)).map Kd.nm, ∃ k ∈ ks, k.nm = x := fun x hx => by
      obtain ⟨u, hu, rfl⟩ := List.mem_map.mp hx
      exact ⟨u, (List.mem_filter.mp hu).1, rfl⟩
    refine ⟨_, rfl, _, rfl, t, a, as, ks, ws, rfl, L.same s02, s02 _ _ hw, N, fun w1 H3 hw1 h3 s3 => ?_⟩
    have s03 := s02.trans s3
    refine ⟨_, rfl, _, rfl, a, _, rfl, SqT.of (s03 _ _ hw), fun q hq => ?_⟩
    have sq := s03.trans (s_new (o := HO.tup (ws.map V.str).reverse) hq)
    have hqq := upd_same (H := H3) (a := q) (o := .tup (ws.map V.str).reverse)
    have h3q := upd_keep (u := .tup (ws.map V.str).reverse) h3 hq
    have h2q := upd_keep (u := .tup (ws.map V.str).reverse) (s3 _ _ h2) hq
    rw [← List.map_reverse] at hqq h3q h2q sq ⊢
    have Nr : NmsOf ks ws.reverse := ⟨(List.reverse_perm ws).nodup_iff.mpr N.nd, fun x hx => N.sub x (List.mem_reverse.mp hx), by rw [List.length_reverse]; exact N.len⟩
    generalize upd H3 q (.tup (ws.reverse.map V.str)) = H4 at sq hqq h3q h2q ⊢
    refine ⟨t, q, as, ks, ws.reverse, rfl, L.same sq, hqq, Nr, fun w2 H5 hw2 h5 s5 => ?_⟩
    rw [widP_same (vs := ws) fun x => List.mem_reverse] at h5
    have s05 := sq.trans s5
    refine ⟨_, rfl, _, rfl, t, a, as, ks, ws, rfl, L.same s05, s05 _ _ hw, N, fun w3 H6 hw3 h6 s6 => ?_⟩
    have s06 := s05.trans s6
    have h16 := s6 _ _ (s5 _ _ h3q)
    have h26 := s6 _ _ h5
    have hd6 := s6 _ _ (s5 _ _ h2q)
    generalize hfs : (ks.filter (widP ks ws)).map Kd.nm = fs at h6 h16 h26 hd6 wlen okf nodf subf
    refine ⟨by show 3 ≤ sizeLine; decide, fun tq htq => ?_⟩
    have s07 : Same H (upd H6 tq (.lst [V.ref w1, V.ref w2, V.ref w3])) := same_upd s06 htq
    have ht7 := upd_same (H := H6) (a := tq) (o := .lst [V.ref w1, V.ref w2, V.ref w3])
    have h17 := upd_keep (u := .lst [V.ref w1, V.ref w2, V.ref w3]) h16 htq
    have h27 := upd_keep (u := .lst [V.ref w1, V.ref w2, V.ref w3]) h26 htq
    have h37 := upd_keep (u := .lst [V.ref w1, V.ref w2, V.ref w3]) h6 htq
    have hd7 := upd_keep (u := .lst [V.ref w1, V.ref w2, V.ref w3]) hd6 htq
    generalize upd H6 tq (.lst [V.ref w1, V.ref w2, V.ref w3]) = H7 at s07 ht7 h17 h27 h37 hd7 ⊢
    have nf : Nice 3000 1 (nmsT fs) := nice_nms okf wlen
    have n3 : Nice 10000 10 (.list [nmsT fs, nmsT fs, nmsT fs]) := by
      refine (nice_lst (n := 0) (k := 1) (m := 9500) (fun x hx => ?_) ?_).mono (by decide) (by decide)
      · simp only [List.mem_cons, List.not_mem_nil, or_false] at hx
        rcases hx with rfl | rfl | rfl <;> exact ⟨nf.ok, nf.dp⟩
      · have e1 := nf.sz
        simp only [szQs]
        omega
    have r3 := n3.repr (by decide) (by decide)
    refine ⟨_, rfl, .ref tq, .list [nmsT fs, nmsT fs, nmsT fs], rfl, .lst ht7 (.cons (nms_dq h17) (.cons (nms_dq h27) (.cons (nms_dq h37) .nil))), r3, ?_⟩
    refine ⟨_, rfl, by show 1 ≤ sizeLine; decide, fun dl hdl => ?_⟩
    have s8 : Same H7 _ := s_new (o := HO.lst [V.ref du]) hdl
    refine ⟨dl, 3, _, rfl, rfl, upd_same, by decide, by decide, by show 1 * 3 ≤ sizeLine; decide, fun d3 hd3 => ?_⟩
    have s9 := s8.trans (s_new (o := HO.lst (List.replicate (3 : Int).toNat [V.ref du]).flatten) hd3)
    have hd9 := s9 _ _ hd7
    refine ⟨.ref d3, .list [nmsT fs, nmsT fs, nmsT fs], rfl, .lst upd_same (.cons (nms_dq hd9) (.cons (nms_dq hd9) (.cons (nms_dq hd9) .nil))), r3, rfl, _, rfl, ?_⟩
    rw [decide_eq_true rfl]
    refine iteF ?_
    have s09 := s07.trans s9
    have ht9 := s9 _ _ ht7
    have h19 := s9 _ _ h17
    generalize upd (upd H7 dl (.lst [V.ref du])) d3 (.lst (List.replicate (3 : Int).toNat [V.ref du]).flatten) = H9 at s09 ht9 h19 ⊢
    refine ⟨_, rfl, _, rfl, by show 2 ≤ sizeLine; decide, fun p2 hp2 => ?_⟩
    have s10 : Same H9 _ := s_new (o := HO.lst [.ref t, .ref a]) hp2
    refine ⟨.ref p2, _, rfl, dq1 (s09.trans s10) upd_same, r1, _, rfl, rfl, _, rfl, ?_⟩
    rw [decide_eq_true rfl]
    refine iteF ?_
    have s010 := s09.trans s10
    have ht10 := s10 _ _ ht9
    have h110 := s10 _ _ h19
    generalize upd H9 p2 (.lst [.ref t, .ref a]) = H10 at s010 ht10 h110 ⊢
    -- found
    refine ⟨_, rfl, tq, _, _, _, rfl, rfl, SqL.of ht10, rfl, ?_⟩
    refine ⟨_, rfl, _, _, _, _, true, rfl, ClsV.ty "tuple", .base (.tup h110), kit_ty (by decide +kernel), _, rfl, ?_⟩
    refine iteF ?_
    refine ⟨_, rfl, _, rfl, _, rfl, t, w1, a, as, ks, ws, rfl, L.same s010, by rw [hfs]; exact h110, s010 _ _ hw, N, fun H11 s11 => ?_⟩
    refine ⟨_, rfl, ?_⟩
    refine iteF ?_
    have s011 := s010.trans s11
    have h111 := s11 _ _ h110
    have okfS : ∀ x ∈ fs, okS x = true := fun x hx => (okN_S (okf x hx)).1
    have efs : ks.filter (widP ks fs) = ks.filter (widP ks ws) := List.filter_congr fun o ho => by rw [← hfs]; exact widP_idem L.fm o ho
    refine ⟨fun σ H' => σ = [some (.ref t), some (.ref a), some (.ref m), some (.str (PyData.list [layD ks, nmsT ws]).shown), some (.ref du), some (.ref tq), some (.ref w1), none, none] ∧ Same H11 H', ?_, fun σ H' hM => ?_⟩
    · refine ⟨_, rfl, w1, _, rfl, .inr (SqT.of h111), _, _, rfl, rfl, _, rfl, ite2 (fun h7 => ?_) (fun h7 => ?_)⟩
      · have h7 : fs.length < 7 := by
          have := of_decide_eq_true h7
          rw [List.length_map] at this
          omega
        refine ⟨_, rfl, _, rfl, t, w1, as, ks, fs, rfl, L.same s011, h111, ⟨nodf, subf, by omega⟩, fun w4 H12 hw4 h12 s12 => ?_⟩
        rw [efs, hfs] at h12
        refine ⟨_, rfl, nmsT fs, nmsT fs, nms_dp h12, nms_dp (s12 _ _ h111), nms_shaped okfS, nms_shaped okfS, _, rfl, ?_⟩
        rw [nms_eqv]
        refine iteF ?_
        exact ⟨rfl, s12⟩
      · exact ⟨rfl, Same.refl _⟩
    · obtain ⟨rfl, s12⟩ := hM
      have s012 := s011.trans s12
      have h112 := s12 _ _ h111
      refine ⟨_, rfl, _, rfl, t, a, as, ks, ws, rfl, L.same s012, s012 _ _ hw, N, fun H13 s13 => ?_⟩
      refine ⟨.bl _, .bool _, rfl, .bl _, rb_allU _, ?_⟩
      have s013 := s012.trans s13
      have h113 := s13 _ _ h112
      refine ⟨_, rfl, w1, _, rfl, .inr (SqT.of h113), ?_⟩
      refine ⟨_, rfl, _, rfl, t, a, as, ks, ws, rfl, L.same s013, .inr (s013 _ _ hw), N.sub, by omega, fun gl H14 hgl h14 s14 => ?_⟩
      refine ⟨gl, _, rfl, .inl (SqL.of h14), rfl, ?_⟩
      refine ⟨.bl _, .bool _, rfl, .bl _, rb_allU _, rfl, _, rfl, ?_⟩
      have eb : decide (V.int ((fs.map V.str).length : Int) = V.int ((((ks.filter (chP ks ws)).map Kd.nm).map V.str).length : Int)) = fitP ks ws := by
        rw [fit_len L.fm N.sub, ← hfs]
        refine decide_eq_decide.mpr ?_
        simp only [List.length_map]
        constructor
        · intro z
          injection z with z
          omega
        · intro z
          rw [z]
      rw [eb, decide_eq_true rfl]
      refine iteF ?_
      have s014 := s013.trans s14
      have h114 := s14 _ _ h113
      -- the wider one
      have Nv : NmsOf ks ((ws ++ ms).take 6) := by
        have nd' : (ws ++ ms).Nodup := List.nodup_append.mpr ⟨N.nd, Nm.nd, fun x hx y hy e => dj y hy (e ▸ hx)⟩
        refine ⟨nd'.sublist (List.take_sublist _ _), fun x hx => ?_, by rw [List.length_take]; omega⟩
        rcases List.mem_append.mp (List.mem_of_mem_take hx) with hx | hx
        · exact N.sub x hx
        · exact Nm.sub x hx
      have wsub : ∀ x ∈ ws, x ∈ (ws ++ ms).take 6 := fun x hx => by
        rw [List.take_append]
        exact List.mem_append_left _ (by rw [List.take_of_length_le wl]; exact hx)
      have hw14 := s014 _ _ hw
      have hm14 := s014 _ _ hm
      -- the call and what follows it
      have fin : ∀ (v : Addr) (H' : Hp), Same H14 H' → H' v = some (.tup (((ws ++ ms).take 6).map V.str)) → spWid [.ref t, .ref v] H' (fun x H2 => gName 7 x [some (.ref t), some (.ref a), some (.ref m), some (.str (PyData.list [layD ks, nmsT ws]).shown), some (.ref du), some (.ref tq), some (.ref w1), none, none] H2 fun σ H3 =>
          tRet (tOp (rEqD K) (tLc (iTup K (tVar 6)) (gName 8) (fun σ H Q => (tTest (tOp (rIn K true) (tVar 8) (tVar 7))) σ H Q) (tVar 8) [8]) (tLst tNil)) { nx := fun _ H' => Q .non H', rt := Q } σ H3) (fun _ _ _ => False) := fun v H' sv hv => by
        have s0v := s014.trans sv
        refine ⟨t, v, as, ks, _, rfl, L.same s0v, hv, Nv, fun w5 H15 hw5 h15 s15 => ?_⟩
        have h115 := s15 _ _ (sv _ _ h114)
        refine ⟨_, rfl, w1, rfl, ⟨_, SqT.of h115⟩, fun D hD => lc_tup (K := K) (a := w1) (xs := fs.map V.str) (fun m H' => H' D = some (.lst []) ∧ Same H15 H') ⟨upd_same, same_new hD⟩ (fun m H' _ ⟨_, z⟩ => SqT.of (z _ _ h115)) ?_ ?_⟩
        · rintro i y H16 hi ⟨h16', s16⟩
          obtain ⟨x, hx, rfl⟩ := str_at hi
          refine ⟨rfl, _, rfl, _, rfl, w5, _, rfl, .inr (SqT.of (s16 _ _ h15)), rfl, flat_strs _, _, rfl, ?_⟩
          rw [if_pos rfl, in_strs]
          have hxin : x ∈ (ks.filter (widP ks ((ws ++ ms).take 6))).map Kd.nm := by
            have hx' := List.mem_of_getElem? hx
            rw [← hfs] at hx'
            obtain ⟨u, hu, rfl⟩ := List.mem_map.mp hx'
            obtain ⟨hu1, hu2⟩ := List.mem_filter.mp hu
            exact List.mem_map.mpr ⟨u, List.mem_filter.mpr ⟨hu1, widP_mono wsub u hu1 hu2⟩, rfl⟩
          rw [decide_eq_true hxin]
          refine iteF ?_
          exact ⟨h16', s16⟩
        · rintro H16 ⟨h16', s16⟩
          refine ⟨by show 0 ≤ sizeLine; decide, fun q' hq' => ?_⟩
          refine ⟨.list [], .list [], .lst (SqL.of (upd_keep h16' hq')) .nil, .lst (SqL.of upd_same) .nil, rfl, rfl, ?_⟩
          exact k _ (((s0v.trans s15).trans s16).trans (s_new (o := HO.lst []) hq'))
      have whl : ∀ {n : Nat}, HT.sIx n 0 none = 0 ∧ HT.sIx n n (some 6) = n → n ≤ 6 := fun {n} h => by
        have h2 : HT.sIx n n (some ((6 : Nat) : Int)) = n := h.2
        rw [HT.sIx_nat] at h2
        omega
      refine ⟨_, rfl, _, rfl, _, rfl, a, m, _, _, rfl, rfl, SqT.of hw14, SqT.of hm14, by rw [List.length_map, List.length_map]; exact Nat.le_of_lt (small1000 (by omega)), fun e => ?_, fun _ e => ?_, fun _ _ p0 hp0 => ?_⟩
      · have ew : ws = [] := List.map_eq_nil_iff.mp e
        refine ⟨_, rfl, m, _, rfl, SqT.of hm14, fun hwh => ?_, fun hnw p hp => ?_⟩
        · exact fin m H14 (Same.refl _) (by rw [ew, List.nil_append, List.take_of_length_le ml]; exact hm14)
        · rw [show (some (6 : Int)) = some ((6 : Nat) : Int) from rfl, cut_to]
          exact fin p _ (s_new hp) (by rw [upd_same, ew, List.nil_append, List.map_take])
      · have em : ms = [] := List.map_eq_nil_iff.mp e
        refine ⟨_, rfl, a, _, rfl, SqT.of hw14, fun hwh => ?_, fun hnw p hp => ?_⟩
        · exact fin a H14 (Same.refl _) (by rw [em, List.append_nil, List.take_of_length_le wl]; exact hw14)
        · rw [show (some (6 : Int)) = some ((6 : Nat) : Int) from rfl, cut_to]
          exact fin p _ (s_new hp) (by rw [upd_same, em, List.append_nil, List.map_take])
      · refine ⟨_, rfl, p0, _, rfl, SqT.of upd_same, fun hwh => ?_, fun hnw p hp => ?_⟩
        · have hl := whl hwh
          rw [List.length_append, List.length_map, List.length_map] at hl
          exact fin p0 _ (s_new hp0) (by rw [upd_same, List.take_of_length_le (by rw [List.length_append]; exact hl), List.map_append])
        · rw [show (some (6 : Int)) = some ((6 : Nat) : Int) from rfl, cut_to]
          exact fin p _ ((s_new hp0).trans (s_new hp)) (by rw [upd_same, ← List.map_append, List.map_take])
end
end Cp

set_option Elab.async false
set_option linter.all false
set_option maxRecDepth 100000
set_option maxHeartbeats 4000000
/-! ### by hand, and the law of k30 -/
namespace Cp
open PySem PySem.Spec L2 PyProof.Rows
section
variable {X : Cx} {k : Nat} {f : Addr} {fd : FuncData} {ps : List Str} {sp : Sp} {CX : CXT} {E : XK} {dvs : List V} {ds : List Value}
/-- f() of a def that knows the guards -/
theorem g_call0 {x : Str} {p pos : Pos} (F : GOk X.prog X.w X.K X.mg X.base CX k f fd ps sp) (hgd : X.A.guards = some []) (hr : Room k X.A) (hg : Gl X x) (hm : X.mg x = some (.ref f)) (hk : PySem.W.keepIn X.K (.ref f) = true)
    (hb : Binds X.K fd ps ds) (hd : Vals dvs ds) (hx : Passes CX X E) (hdb : (x == ("__debug__" : Str)) = false := by decide) : PE X (.Call (.Name x p) [] [] pos) (tCall sp dvs E tNil) := by
  refine ⟨fun pins s σ H Q I h => ?_⟩
  refine wpAny_Call_Name_kw (ld_glob I hg hm ?_ hdb)
  refine PySem.W.callWith_K0 I.kIn hk ?_
  have hlen : ds.length = ps.length := by
    rw [← hd.length]
    exact F.len _ _ _ _ h
  have R := F.run X.A X.stack s H ⟨[], []⟩ ds dvs Q E hgd hr I.env0 (hb s [] I.kIn hlen) hd h
  refine wpAny_call (codeAny_mono R ?_)
  intro r s' hq
  match r, hq with
  | .error e, hq => exact hx pins σ H s e s' I hq
  | .ok (.ret u), hq => exact I.after hq
  | .ok .next, hq => exact hq.elim
  | .ok .brk, hq => exact hq.elim
  | .ok .cont, hq => exact hq.elim
end
abbrev sHand30 : Stmt := top 47
abbrev sLaw30 : Stmt := top 48
abbrev nHand30 : List Str := ["plan", "told", "due"]
abbrev nLaw30 : List Str := ["script", "draw", "turn", "plan", "wanted", "more", "one"]
theorem row_te0 {σ : L2.St} {H : Hp} {Q : VK} {k : Kd} (e : k.bs = []) (h : ∀ r H', Same H H' → RowAt H' r k → Q (.ref r) H') :
    tTup (tCons (tC (.str k.nm)) (tCons (tC (.int k.ed)) (tCons (tTup tNil) (tCons (tC (.str (ltr k.lt))) (tCons (tC (.str k.mrk)) tNil))))) σ H Q := by
  refine ⟨by show 0 ≤ sizeLine; decide, fun b hb => ⟨by show 5 ≤ sizeLine; decide, fun r hr => ?_⟩⟩
  exact h r _ ((s_new hb).trans (s_new hr)) ⟨b, upd_same, by rw [e]; exact upd_keep upd_same hr⟩
theorem row_te1 {σ : L2.St} {H : Hp} {Q : VK} {k : Kd} {x : Str} (e : k.bs = [x]) (h : ∀ r H', Same H H' → RowAt H' r k → Q (.ref r) H') :
    tTup (tCons (tC (.str k.nm)) (tCons (tC (.int k.ed)) (tCons (tTup (tCons (tC (.str x)) tNil)) (tCons (tC (.str (ltr k.lt))) (tCons (tC (.str k.mrk)) tNil))))) σ H Q := by
  refine ⟨by show 1 ≤ sizeLine; decide, fun b hb => ⟨by show 5 ≤ sizeLine; decide, fun r hr => ?_⟩⟩
  exact h r _ ((s_new hb).trans (s_new hr)) ⟨b, upd_same, by rw [e]; exact upd_keep upd_same hr⟩
theorem open_tup {a : TE} {b : TA} {σ : L2.St} {H : Hp} {Q : VK} (h : a σ H fun x H1 => b σ H1 fun xs H2 => (x :: xs).length ≤ sizeLine ∧ ∀ p, H2 p = none → Q (.ref p) (upd H2 p (.tup (x :: xs)))) : tTup (tCons a b) σ H Q := h
theorem open_cons {a : TE} {b : TA} {σ : L2.St} {H : Hp} {Q : List V → Hp → Prop} (h : a σ H fun x H1 => b σ H1 fun xs H2 => Q (x :: xs) H2) : tCons a b σ H Q := h
theorem open_asg {t : TE} {g : TG} {r : TS} {D : Ends} {σ : L2.St} {H : Hp} (h : t σ H fun x H1 => g x σ H1 fun σ2 H2 => r D σ2 H2) : tSeq (tAsg t g) r D σ H := h
theorem RowAt.same {H H' : Hp} {r : Addr} {k : Kd} (R : RowAt H r k) (s : Same H H') : RowAt H' r k := R.tk (tk_same s)
def hkA : Kd := ⟨"a", 1, [], 23, ""⟩
def hkB : Kd := ⟨"b", 1, ["a"], 24, ""⟩
def hkC : Kd := ⟨"c", 1, [], 24, ""⟩
def hkD : Kd := ⟨"d", 2, ["c"], 25, ""⟩
def hkE : Kd := ⟨"e", 3, [], 23, ""⟩
def hks : List Kd := [hkA, hkB, hkC, hkD, hkE]
theorem hfrm : Frm hks := by
  refine frm_snoc (ks := [hkA, hkB, hkC, hkD]) (frm_snoc (ks := [hkA, hkB, hkC]) (frm_snoc (ks := [hkA, hkB]) (frm_snoc (ks := [hkA]) (frm_snoc (ks := []) frm_nil ?_ ?_ ?_ ?_) ?_ ?_ ?_ ?_) ?_ ?_ ?_ ?_) ?_ ?_ ?_ ?_) ?_ ?_ ?_ ?_
  all_goals first
    | exact ⟨by decide +kernel, by decide, by decide, by decide, by decide +kernel, by decide +kernel, by decide, by decide +kernel⟩
    | decide +kernel
abbrev wC : List Str := ["c"]
abbrev wE : List Str := ["e"]
abbrev wED : List Str := ["e", "d"]
abbrev oC : List Str := ["a", "b", "c", "e"]
abbrev oE : List Str := ["a", "e"]
abbrev oED : List Str := ["a", "b", "c", "d", "e"]
theorem hn0 : NmsOf hks [] := ⟨by decide +kernel, by decide +kernel, by decide⟩
theorem hnC : NmsOf hks wC := ⟨by decide +kernel, by decide +kernel, by decide⟩
theorem hnE : NmsOf hks wE := ⟨by decide +kernel, by decide +kernel, by decide⟩
theorem hnED : NmsOf hks wED := ⟨by decide +kernel, by decide +kernel, by decide⟩
theorem hwd0 : (hks.filter (widP hks [])).map Kd.nm = [] := by decide +kernel
theorem hwd1 : (hks.filter (widP hks wC)).map Kd.nm = oC := by decide +kernel
theorem hwd2 : (hks.filter (widP hks wE)).map Kd.nm = oE := by decide +kernel
theorem hwd3 : (hks.filter (widP hks wED)).map Kd.nm = oED := by decide +kernel
theorem l23 : (Str.ofString "x") = ltr 23 := by decide +kernel
theorem l24 : (Str.ofString "y") = ltr 24 := by decide +kernel
theorem l25 : (Str.ofString "z") = ltr 25 := by decide +kernel
def hdue : PyData := .list [nmsT [], nmsT oC, nmsT oE, nmsT oED]
def nmsD (p : Addr) (l : List Str) (H : Hp) : Prop := H p = some (.tup (l.map V.str))
def spHand30 : Sp := fun vs H Q _ => vs = [] ∧ ∀ H', Same H H' → Q (.bl true) H'
section
variable {P : Program} {w : World} {K : PySem.W.Frag} {mg : Str → Option Value} {base : Heap}
theorem scHand30 : FnScope nHand30 [] (defScope sHand30) := ⟨rfl, rfl, rfl, by decide +kernel, rfl, by decide +kernel, by decide +kernel⟩
theorem ok_hand30 {f fX : Addr} {fd fdX : FuncData} (F : Fun K "_law_by_hand" "_law_by_hand" sHand30 f fd) (T : TB mg) (hmod : ∃ o, base.get? sysModules = some o)
    (GX : FnOk P w K mg base (L2.CX P w) 9 fX fdX ["layout", "bases"] spWid) (kX : PySem.W.keepIn K (.ref fX) = true) (bX : Binds K fdX ["layout", "bases"] []) (mX : mg "widened" = some (.ref fX)) :
    GOk P w K mg base CX0 10 f fd [] spHand30 := by
  refine gfun_ok F scHand30 (fun vs H Q E h => ?_) (fun cdv A outer s H vs Q E hg hr h => ?_)
  · obtain ⟨rfl, _⟩ := h; rfl
  · obtain ⟨rfl, k⟩ := h
    have hu := hu_of hr
    have hrx : Room 9 _ := hr
    have hgd : (A.deeper (envOfC "_law_by_hand" (defScope sHand30) s.heap.objs.size f cdv)).guards = some [] := hg
    have nd := scHand30.nd
    suffices main : ∃ tt, PSs (cxOf CX0 P w K mg base nHand30 "_law_by_hand" (defScope sHand30) f cdv A outer s H E).nox (defBody sHand30) tt ∧ tt { nx := fun _ H' => Q .non H', rt := Q } (start nHand30 []) H by
      obtain ⟨t, x, y⟩ := main
      exact ⟨t, x.nox, y⟩
    refine ⟨_, (pss_cons (ps_set (i := 0) nd rfl (.inl rfl) (pe_tup (pa_cons (pe_tup (pa_cons pe_str (pa_cons pe_int (pa_cons (pe_tup pa_nil) (pa_cons pe_str (pa_cons pe_str pa_nil)))))) (pa_cons (pe_tup (pa_cons pe_str (pa_cons pe_int (pa_cons (pe_tup (pa_cons pe_str pa_nil)) (pa_cons pe_str (pa_cons pe_str pa_nil)))))) (pa_cons (pe_tup (pa_cons pe_str (pa_cons pe_int (pa_cons (pe_tup pa_nil) (pa_cons pe_str (pa_cons pe_str pa_nil)))))) pa_nil)))))
      (pss_cons (ps_set (i := 0) nd rfl (.inl rfl) (pe_op op_catT (pv 0) (pe_tup (pa_cons (pe_tup (pa_cons pe_str (pa_cons pe_int (pa_cons (pe_tup (pa_cons pe_str pa_nil)) (pa_cons pe_str (pa_cons pe_str pa_nil)))))) (pa_cons (pe_tup (pa_cons pe_str (pa_cons pe_int (pa_cons (pe_tup pa_nil) (pa_cons pe_str (pa_cons pe_str pa_nil)))))) pa_nil)))))
      (pss_cons (ps_set (i := 1) nd rfl (.inl rfl) (pe_lst (pa_cons (pe_call GX hrx (by rfl) mX kX bX .nil passX (pa_cons (pv 0) (pa_cons (pe_tup pa_nil) pa_nil))) (pa_cons (pe_call GX hrx (by rfl) mX kX bX .nil passX (pa_cons (pv 0) (pa_cons (pe_tup (pa_cons pe_str pa_nil)) pa_nil))) (pa_cons (pe_call GX hrx (by rfl) mX kX bX .nil passX (pa_cons (pv 0) (pa_cons (pe_tup (pa_cons pe_str pa_nil)) pa_nil))) pa_nil)))))
      (pss_cons (ps_expr (pe_bm PySem.F.plainAttrs_list PySem.F.slot_list_append PySem.F.type_list_append mt_append (pv 1) (pa_cons (pe_call GX hrx (by rfl) mX kX bX .nil passX (pa_cons (pv 0) (pa_cons (pe_tup (pa_cons pe_str (pa_cons pe_str pa_nil))) pa_nil))) pa_nil)))
      (pss_cons (ps_set (i := 2) nd rfl (.inl rfl) (pe_lst (pa_cons (pe_tup pa_nil) (pa_cons (pe_tup (pa_cons pe_str (pa_cons pe_str (pa_cons pe_str (pa_cons pe_str pa_nil))))) (pa_cons (pe_tup (pa_cons pe_str (pa_cons pe_str pa_nil))) (pa_cons (pe_tup (pa_cons pe_str (pa_cons pe_str (pa_cons pe_str (pa_cons pe_str (pa_cons pe_str pa_nil)))))) pa_nil))))))
      (pss_one (ps_ret (pe_cmpR op_eq (pe_callB (call_reprQ hmod hgd hr.units) (by rfl) T.repr (by decide +kernel) (pa_cons (pv 1) pa_nil)) (pe_callB (call_reprQ hmod hgd hr.units) (by rfl) T.repr (by decide +kernel) (pa_cons (pv 2) pa_nil)) (nomark _))))))))), ?_⟩
    rw [l23, l24, l25]
    refine open_asg (open_tup (row_te0 (k := hkA) rfl fun r1 H1 s1 R1 => ?_))
    refine open_cons (row_te1 (k := hkB) rfl fun r2 H2 s2 R2 => ?_)
    refine open_cons (row_te0 (k := hkC) rfl fun r3 H3 s3 R3 => ?_)
    refine ⟨by show 3 ≤ sizeLine; decide, fun t0 ht0 => ?_⟩
    have c0 : upd H3 t0 (.tup [V.ref r1, V.ref r2, V.ref r3]) t0 = some (.tup [V.ref r1, V.ref r2, V.ref r3]) := upd_same
    have s4 : Same H3 (upd H3 t0 (.tup [V.ref r1, V.ref r2, V.ref r3])) := s_new ht0
    generalize upd H3 t0 (.tup [V.ref r1, V.ref r2, V.ref r3]) = H4 at c0 s4 ⊢
    refine open_asg ⟨_, rfl, open_tup (row_te1 (k := hkD) rfl fun r4 H5 s5 R4 => ?_)⟩
    refine open_cons (row_te0 (k := hkE) rfl fun r5 H6 s6 R5 => ?_)
    refine ⟨by show 2 ≤ sizeLine; decide, fun t1 ht1 => ?_⟩
    have c1 : upd H6 t1 (.tup [V.ref r4, V.ref r5]) t1 = some (.tup [V.ref r4, V.ref r5]) := upd_same
    have s7 : Same H6 (upd H6 t1 (.tup [V.ref r4, V.ref r5])) := s_new ht1
    generalize upd H6 t1 (.tup [V.ref r4, V.ref r5]) = H7 at c1 s7 ⊢
    refine ⟨t0, t1, _, _, rfl, rfl, SqT.of (s7 _ _ (s6 _ _ (s5 _ _ c0))), SqT.of c1, by simp, by show 5 ≤ sizeLine; decide, (fun e => by cases e), fun _ t ht => ?_⟩
    have c2 : upd H7 t (.tup ([V.ref r1, V.ref r2, V.ref r3] ++ [V.ref r4, V.ref r5])) t = some (.tup ([r1, r2, r3, r4, r5].map V.ref)) := upd_same
    have s8 : Same H7 (upd H7 t (.tup ([V.ref r1, V.ref r2, V.ref r3] ++ [V.ref r4, V.ref r5]))) := s_new ht
    generalize upd H7 t (.tup ([V.ref r1, V.ref r2, V.ref r3] ++ [V.ref r4, V.ref r5])) = H8 at c2 s8 ⊢
    have s58 := (s5.trans s6).trans (s7.trans s8)
    have L : LayAt H8 t [r1, r2, r3, r4, r5] hks := by
      refine ⟨c2, ?_, hfrm, by decide, by decide⟩
      refine RowsAt.snoc (as := [r1, r2, r3, r4]) (ks := [hkA, hkB, hkC, hkD]) (RowsAt.snoc (as := [r1, r2, r3]) (ks := [hkA, hkB, hkC]) (RowsAt.snoc (as := [r1, r2]) (ks := [hkA, hkB]) (RowsAt.snoc (as := [r1]) (ks := [hkA]) (RowsAt.snoc RowsAt.nil ?_) ?_) ?_) ?_) ?_
      · exact R1.same (s2.trans (s3.trans (s4.trans s58)))
      · exact R2.same (s3.trans (s4.trans s58))
      · exact R3.same (s4.trans s58)
      · exact R4.same (s6.trans (s7.trans s8))
      · exact R5.same (s7.trans s8)
    have s08 : Same H H8 := s1.trans (s2.trans (s3.trans (s4.trans s58)))
    clear R1 R2 R3 R4 R5 s1 s2 s3 s4 s5 s6 s7 s8 s58 c0 c1 c2
    refine ⟨_, rfl, by show 0 ≤ sizeLine; decide, fun a1 ha1 => ⟨t, a1, _, hks, _, rfl, L.same (s_new ha1), upd_same (o := .tup (([] : List Str).map V.str)), hn0, fun w1 H9 hw1 h1 s9 => ?_⟩⟩
    rw [hwd0] at h1
    have s89 := (s_new ha1).trans s9
    refine ⟨_, rfl, by show 1 ≤ sizeLine; decide, fun a2 ha2 => ⟨t, a2, _, hks, _, rfl, L.same (s89.trans (s_new ha2)), upd_same (o := .tup (wC.map V.str)), hnC, fun w2 H10 hw2 h2 s10 => ?_⟩⟩
    rw [hwd1] at h2
    have s810 := s89.trans ((s_new ha2).trans s10)
    have h1 := s10 _ _ (upd_keep h1 ha2)
    refine ⟨_, rfl, by show 1 ≤ sizeLine; decide, fun a3 ha3 => ⟨t, a3, _, hks, _, rfl, L.same (s810.trans (s_new ha3)), upd_same (o := .tup (wE.map V.str)), hnE, fun w3 H11 hw3 h3 s11 => ?_⟩⟩
    rw [hwd2] at h3
    have s811 := s810.trans ((s_new ha3).trans s11)
    have h1 := s11 _ _ (upd_keep h1 ha3)
    have h2 := s11 _ _ (upd_keep h2 ha3)
    refine ⟨by show 3 ≤ sizeLine; decide, fun q hq => ?_⟩
    have q0 : upd H11 q (.lst [V.ref w1, V.ref w2, V.ref w3]) q = some (.lst [V.ref w1, V.ref w2, V.ref w3]) := upd_same
    have sq : Same H11 (upd H11 q (.lst [V.ref w1, V.ref w2, V.ref w3])) := s_new hq
    generalize upd H11 q (.lst [V.ref w1, V.ref w2, V.ref w3]) = H12 at q0 sq ⊢
    have s812 := s811.trans sq
    refine ⟨_, rfl, .inl ⟨rfl, _, SqL.of q0⟩, _, rfl, by show 2 ≤ sizeLine; decide, fun a4 ha4 => ⟨t, a4, _, hks, _, rfl, L.same (s812.trans (s_new ha4)), upd_same (o := .tup (wED.map V.str)), hnED, fun w4 H13 hw4 h4 s13 => ?_⟩⟩
    rw [hwd3] at h4
    have s1213 := (s_new ha4).trans s13
    have q1 := s1213 _ _ q0
    have h1 := s1213 _ _ (sq _ _ h1)
    have h2 := s1213 _ _ (sq _ _ h2)
    have h3 := s1213 _ _ (sq _ _ h3)
    refine ⟨q, _, _, rfl, rfl, q1, by show 3 < sizeLine; decide, ?_⟩
    have q2 : upd H13 q (.lst ([V.ref w1, V.ref w2, V.ref w3] ++ [V.ref w4])) q = some (.lst [V.ref w1, V.ref w2, V.ref w3, V.ref w4]) := upd_same
    have tk : ∀ {b xs}, H13 b = some (.tup xs) → upd H13 q (.lst ([V.ref w1, V.ref w2, V.ref w3] ++ [V.ref w4])) b = some (.tup xs) := fun e => tk_lst q1 _ _ e
    have h1 := tk h1
    have h2 := tk h2
    have h3 := tk h3
    have h4 := tk h4
    have hqn : H8 q = none := by
      cases e : H8 q with
      | none => rfl
      | some o =>
        have := s811 _ _ e
        rw [hq] at this
        cases this
    have s14 : Same H8 (upd H13 q (.lst ([V.ref w1, V.ref w2, V.ref w3] ++ [V.ref w4]))) := fun b o e => by
      rw [upd_ne (ne_of_none e hqn)]
      exact s1213 _ _ (s812 _ _ e)
    generalize upd H13 q (.lst ([V.ref w1, V.ref w2, V.ref w3] ++ [V.ref w4])) = H14 at q2 h1 h2 h3 h4 s14 ⊢
    refine ⟨by show 0 ≤ sizeLine; decide, fun d1 e1 => ?_⟩
    refine ⟨by show 4 ≤ sizeLine; decide, fun d2 e2 => ?_⟩
    refine ⟨by show 2 ≤ sizeLine; decide, fun d3 e3 => ?_⟩
    refine ⟨by show 5 ≤ sizeLine; decide, fun d4 e4 => ?_⟩
    refine ⟨by show 4 ≤ sizeLine; decide, fun d5 e5 => ?_⟩
    have t1 := s_new (o := HO.tup []) e1
    have t2 := s_new (o := HO.tup (oC.map V.str)) e2
    have t3 := s_new (o := HO.tup (oE.map V.str)) e3
    have t4 := s_new (o := HO.tup (oED.map V.str)) e4
    have t5 := s_new (o := HO.lst [V.ref d1, V.ref d2, V.ref d3, V.ref d4]) e5
    have t45 := t4.trans t5
    have t35 := t3.trans t45
    have t25 := t2.trans t35
    have t15 := t1.trans t25
    have g1 : nmsD d1 [] _ := t25 _ _ (upd_same (H := H14) (a := d1) (o := .tup []))
    have g2 : nmsD d2 oC _ := t35 _ _ (upd_same (a := d2) (o := .tup (oC.map V.str)))
    have g3 : nmsD d3 oE _ := t45 _ _ (upd_same (a := d3) (o := .tup (oE.map V.str)))
    have g4 : nmsD d4 oED _ := t5 _ _ (upd_same (a := d4) (o := .tup (oED.map V.str)))
    have r0 : reprB hdue = true := by decide +kernel
    refine ⟨_, rfl, .ref q, hdue, rfl, .lst (t15 _ _ q2) (.cons (nms_dq (t15 _ _ h1)) (.cons (nms_dq (t15 _ _ h2)) (.cons (nms_dq (t15 _ _ h3)) (.cons (nms_dq (t15 _ _ h4)) .nil)))), r0, ?_⟩
    refine ⟨_, rfl, .ref d5, hdue, rfl, .lst upd_same (.cons (nms_dq g1) (.cons (nms_dq g2) (.cons (nms_dq g3) (.cons (nms_dq g4) .nil)))), r0, ?_⟩
    refine ⟨rfl, ?_⟩
    rw [decide_eq_true rfl]
    exact k _ (s08.trans (s14.trans t15))
theorem lay_evU {H H' : Hp} {d g t : Addr} {as : List Addr} {ks : List Kd} (L : LayAt H t as ks) (D : Drw H d g) (s : Ev d g H H') : LayAt H' t as ks := ⟨s.tk D _ _ L.tp, L.rw.tk (s.tk D), L.fm, L.l1, L.l2⟩
def spLaw (K : PySem.W.Frag) : Sp := fun vs H Q _ => ∃ (a : Addr) (ns : List Int), vs = [.ref a] ∧ SqL K H a (ns.map V.int) ∧ ns.length ≤ 63 ∧ ∀ H', Q (.bl true) H'
theorem scLaw30 : FnScope nLaw30 ["script"] (defScope sLaw30) := ⟨rfl, rfl, rfl, by decide +kernel, rfl, by decide +kernel, by decide +kernel⟩
theorem ok_law30 {f fB fP fO fR fH : Addr} {fd fdB fdP fdO fdR fdH : FuncData} (F : Fun K "law" "law" sLaw30 f fd) (T : TB mg)
    (GB : FnOk P w K mg base CX0 1 fB fdB ["script"] (spBegun K)) (FB : Fun K "_law_begun" "_law_begun" sBegun fB fdB) (bB : Binds K fdB ["script"] []) (mB : mg "_law_begun" = some (.ref fB))
    (GP : FnOk P w K mg base CX0 5 fP fdP ["draw", "most"] spPlan) (FP : Fun K "_law_plan" "_law_plan" sPlan fP fdP) (bP : Binds K fdP ["draw", "most"] []) (mP : mg "_law_plan" = some (.ref fP))
    (GO : FnOk P w K mg base CX0 2 fO fdO ["draw", "plan", "most"] spSom) (FO : Fun K "_law_some" "_law_some" sSom fO fdO) (bO : Binds K fdO ["draw", "plan", "most"] []) (mO : mg "_law_some" = some (.ref fO))
    (GR : GOk P w K mg base CX0 10 fR fdR ["plan", "wanted", "more"] spRgt30) (FR : Fun K "_law_right" "_law_right" sRgt30 fR fdR) (bR : Binds K fdR ["plan", "wanted", "more"] []) (mR : mg "_law_right" = some (.ref fR))
    (GH : GOk P w K mg base CX0 10 fH fdH [] spHand30) (FH : Fun K "_law_by_hand" "_law_by_hand" sHand30 fH fdH) (bH : Binds K fdH [] []) (mH : mg "_law_by_hand" = some (.ref fH)) :
    GOk P w K mg base CX0 11 f fd ["script"] (spLaw K) := by
  refine gfun_ok F scLaw30 (fun vs H Q E h => ?_) (fun cdv A outer s H vs Q E hg hr h => ?_)
  · obtain ⟨a, ns, rfl, _⟩ := h; rfl
  · obtain ⟨a, ns, rfl, hS, hlen, k⟩ := h
    have hu := hu_of hr
    have hr1 : Room 1 _ := hr.mono (by decide)
    have hr2 : Room 2 _ := hr.mono (by decide)
    have hr5 : Room 5 _ := hr.mono (by decide)
    have hrr : Room 10 _ := hr
    have hgd : (A.deeper (envOfC "law" (defScope sLaw30) s.heap.objs.size f cdv)).guards = some [] := hg
    have nd := scLaw30.nd
    suffices main : ∃ t, PSs (cxOf CX0 P w K mg base nLaw30 "law" (defScope sLaw30) f cdv A outer s H E).nox (defBody sLaw30) t ∧ t { nx := fun _ H' => Q .non H', rt := Q } (start nLaw30 [.ref a]) H by
      obtain ⟨t, x, y⟩ := main
      exact ⟨t, x.nox, y⟩
    refine ⟨_, (pss_cons (ps_set (i := 1) nd rfl (.inl rfl) (pe_call GB hr1 (by rfl) mB FB.kp bB .nil pass0 (pa_cons (pv 0) pa_nil)))
      (pss_cons (ps_for PassesOwn.never rfl (pi_range1 rfl T.range (pa_cons (pe_op op_add pe_int (pe_op op_fdiv (pe_callB (call_min2 rfl) (by rfl) T.min (by decide +kernel) (pa_cons pe_int (pa_cons (pe_callB call_len_seq (by rfl) T.len (PySem.boot_len) (pa_cons (pv 0) pa_nil)) pa_nil))) pe_int)) pa_nil)) (pg_name (i := 2) nd rfl (.inl rfl)) (pss_cons (ps_set (i := 3) nd rfl (.inl rfl) (pe_call GP hr5 (by rfl) mP FP.kp bP .nil pass0 (pa_cons (pv 1) (pa_cons pe_int pa_nil))))
      (pss_cons (ps_set (i := 4) nd rfl (.inr rfl) (pe_call GO hr2 (by rfl) mO FO.kp bO .nil pass0 (pa_cons (pv 1) (pa_cons (pv 3) (pa_cons pe_int pa_nil)))))
      (pss_cons (ps_set (i := 5) nd rfl (.inl rfl) (pe_callTy call_tuple_of (by rfl) T.tuple (by decide +kernel) (pa_cons (pe_lc (own := [("one", 6)]) (g := gName 6) rfl nd (pi_tup (pe_call GO hr2 (by rfl) mO FO.kp bO .nil pass0 (pa_cons (pv 1) (pa_cons (pv 3) (pa_cons pe_int pa_nil))))) (blkOk_by (N := nLaw30) (sc := defScope sLaw30) (by decide +kernel)) (fun _ _ _ _ _ => (pg_name (i := 6) nd rfl (.inl rfl))) (fun _ _ _ _ _ => pts_one (pt_cmpR (show OpR _ _ (rIn K true) from op_notIn_seq) (pv 6) (pv 4) (by rfl))) (fun _ _ _ _ _ => (pv 6))) pa_nil)))
      (pss_one (ps_if (PW.pt (pw_or (pt_not (pt_val (g_call GR hgd hrr (by rfl) mR FR.kp bR .nil pass0 (pa_cons (pv 3) (pa_cons (pv 4) (pa_cons (pv 5) pa_nil)))))) (pw_or1 (pt_not (pt_val (g_call GR hgd hrr (by rfl) mR FR.kp bR .nil pass0 (pa_cons (pv 3) (pa_cons (pe_slice sl_tupA (pv 4) po_none (po_some pe_int)) (pa_cons (pv 5) pa_nil))))))))) (pss_one (ps_ret pe_bl)) pss_nil))))))
      (pss_one (ps_ret (g_call0 GH hgd hrr (by rfl) mH FH.kp bH .nil pass0))))), ?_⟩
    refine ⟨_, rfl, a, ns, rfl, hS, hlen, fun d g H1 hd hg1 D s1 => ?_⟩
    refine ⟨_, rfl, a, _, rfl, .inl (s1.seq hS), ?_⟩
    refine ⟨_, _, rfl, _, _, rfl, rfl, (by show (0 : Int) < 8 ∧ (8 : Int) < 1073741824; decide), _, _, rfl, rfl, _, rfl, ?_, ?_, ?_⟩
    · show -(2 ^ 62) ≤ 2 + (if ((ns.map V.int).length : Int) < 60 then ((ns.map V.int).length : Int) else 60) / 8
      split <;> omega
    · show 2 + (if ((ns.map V.int).length : Int) < 60 then ((ns.map V.int).length : Int) else 60) / 8 < 2 ^ 62
      split <;> omega
    refine for_range (lo := 0) (n := _) (fun i σ H' => ∃ (v2 v3 v4 v5 : Option V), σ = [some (.ref a), some (.ref d), v2, v3, v4, v5, none] ∧ Drw H' d g)
      ⟨none, none, none, none, rfl, D⟩ ?_ (fun σ H' hD => ?_)
    · rintro i σ H2 hi ⟨v2, v3, v4, v5, rfl, D2⟩
      refine ⟨_, rfl, d, g, 24, rfl, D2, by decide, by decide, fun t as ks H3 ht L3 e3 => ?_⟩
      refine ⟨_, rfl, _, rfl, d, g, t, as, ks, 6, rfl, e3.dr, L3, by decide, fun w0 ws H4 ndw subw lenw hw0 hw4 e4 => ?_⟩
      have L4 := lay_evU L3 e3.dr e4
      refine ⟨_, rfl, _, rfl, d, g, t, as, ks, 6, rfl, e4.dr, L4, by decide, fun u0 us H5 ndu subu lenu hu0 hu5 e5 => ?_⟩
      have L5 := lay_evU L4 e4.dr e5
      have hw5 : H5 w0 = some (.tup (ws.map V.str)) := e5.tk e4.dr _ _ hw4
      have D5 := e5.dr
      refine ⟨u0, rfl, ⟨_, SqT.of hu5⟩, fun C hC => lc_tup (K := K) (a := u0) (xs := us.map V.str) (fun j H' => H' C = some (.lst (((us.take j).filter fun x => !decide (x ∈ ws)).map V.str)) ∧ Same H5 H') ⟨upd_same, same_new hC⟩ (fun m H' _ ⟨_, z⟩ => SqT.of (z _ _ hu5)) ?_ ?_⟩
      · rintro j y H6 hj ⟨h6, s6⟩
        obtain ⟨x, hx, rfl⟩ := str_at hj
        refine ⟨rfl, _, rfl, _, rfl, w0, _, rfl, .inr (SqT.of (s6 _ _ hw5)), rfl, flat_strs _, _, rfl, ?_⟩
        rw [if_pos rfl, in_strs]
        by_cases hin : x ∈ ws
        · rw [decide_eq_true hin]
          refine iteF ⟨?_, s6⟩
          rw [take_snoc hx, List.filter_append, filt0 (by simpa using hin), List.append_nil]
          exact h6
        · rw [decide_eq_false hin]
          refine iteT ⟨_, rfl, _, h6, ?_, ?_, fun c o e => by rw [upd_ne (ne_of_none e hC)]; exact s6 _ _ e⟩
          · have h1 := List.length_filter_le (fun x => !decide (x ∈ ws)) (us.take j)
            have h2 : (us.take j).length ≤ us.length := by rw [List.length_take]; omega
            rw [List.length_map]
            exact small1000 (by omega)
          · rw [take_snoc hx, List.filter_append, List.map_append, filt1 (by simpa using hin)]
            exact upd_same
      · rintro H6 ⟨h6, s6⟩
        rw [List.length_map, List.take_of_length_le (Nat.le_refl _)] at h6
        generalize hms : (us.filter fun x => !decide (x ∈ ws)) = ms at h6
        refine ⟨C, _, rfl, .inl ⟨SqL.of h6, fun m hm => ?_⟩⟩
        have s7 : Same H5 (upd H6 m (.tup (ms.map V.str))) := s6.trans (s_new hm)
        have hm7 := upd_same (H := H6) (a := m) (o := .tup (ms.map V.str))
        have N : NmsOf ks ws := ⟨ndw, subw, lenw⟩
        have Nm : NmsOf ks ms := by
          refine ⟨by rw [← hms]; exact ndu.sublist List.filter_sublist, fun x hx => ?_, ?_⟩
          · rw [← hms] at hx
            exact subu x (List.mem_filter.mp hx).1
          · rw [← hms]
            exact Nat.le_trans (List.length_filter_le _ _) lenu
        have dj : ∀ x ∈ ms, x ∉ ws := fun x hx => by
          rw [← hms] at hx
          simpa using (List.mem_filter.mp hx).2
        have L7 := L5.same s7
        have D7 := D5.same s7
        have hw7 := s7 _ _ hw5
        generalize upd H6 m (.tup (ms.map V.str)) = H7 at hm7 L7 D7 hw7 ⊢
        refine ⟨_, rfl, _, rfl, _, rfl, t, w0, m, as, ks, ws, ms, rfl, L7, hw7, N, hm7, Nm, dj, fun H8 s8 => ?_⟩
        refine ⟨_, rfl, ?_⟩
        refine iteF ?_
        have L8 := L7.same s8
        have D8 := D7.same s8
        have hw8 := s8 _ _ hw7
        have hm8 := s8 _ _ hm7
        have N1 : NmsOf ks (ws.take 1) := ⟨ndw.sublist (List.take_sublist _ _), fun x hx => subw x (List.mem_of_mem_take hx), by rw [List.length_take]; omega⟩
        have dj1 : ∀ x ∈ ms, x ∉ ws.take 1 := fun x hx h => dj x hx (List.mem_of_mem_take h)
        refine ⟨_, rfl, _, rfl, _, rfl, w0, _, rfl, SqT.of hw8, fun hwh => ?_, fun hnw p hp => ?_⟩
        · have hl : ws.length ≤ 1 := by
            have h2 : HT.sIx (ws.map V.str).length (ws.map V.str).length (some ((1 : Nat) : Int)) = (ws.map V.str).length := hwh.2
            rw [HT.sIx_nat, List.length_map] at h2
            omega
          refine ⟨_, rfl, t, w0, m, as, ks, ws.take 1, ms, rfl, L8, by rw [List.take_of_length_le hl]; exact hw8, N1, hm8, Nm, dj1, fun H9 s9 => ?_⟩
          refine ⟨_, rfl, iteF ?_⟩
          exact ⟨_, _, _, _, rfl, D8.same s9⟩
        · rw [show (some (1 : Int)) = some ((1 : Nat) : Int) from rfl, cut_to]
          have sp := s_new (o := .tup ((ws.map V.str).take 1)) hp
          refine ⟨_, rfl, t, p, m, as, ks, ws.take 1, ms, rfl, L8.same sp, by rw [upd_same, List.map_take], N1, sp _ _ hm8, Nm, dj1, fun H9 s9 => ?_⟩
          refine ⟨_, rfl, iteF ?_⟩
          exact ⟨_, _, _, _, rfl, (D8.same sp).same s9⟩
    · obtain ⟨v2, v3, v4, v5, rfl, D9⟩ := hD
      exact ⟨rfl, fun H' _ => k H'⟩
end
end Cp

set_option Elab.async false
set_option linter.all false
set_option maxRecDepth 100000
set_option maxHeartbeats 2000000
/-! ### letter_bits where a row holds no EDITION -/
namespace Cp
open PySem PySem.Spec L2 PyProof.Rows
structure TBl (mg : Str → Option Value) : Prop where
  lt : ∃ t, mg "LETTER" = some (.int 3 t)
  enum : mg "enumerate" = none
  sorted : mg "sorted" = none
section
variable {P : Program} {w : World} {K : PySem.W.Frag} {mg : Str → Option Value} {base : Heap}
theorem ok_letB2 {f : Addr} {fd : FuncData} (F : Fun K "letter_bits" "letter_bits" sLetB f fd) (T : TBl mg) : FnOk P w K mg base CX0 1 f fd ["layout"] spLetB := by
  refine F.ok scLetB (fun vs H Q E h => ?_) (fun cdv A outer s H vs Q E hr h => ?_)
  · obtain ⟨a, as, ks, rfl, _⟩ := h; rfl
  · obtain ⟨a, as, ks, rfl, L, k⟩ := h
    have nd := scLetB.nd
    have hu := hu_of hr
    refine ⟨_, (pss_cons (ps_set (i := 2) nd rfl (.inl rfl) (pe_callB (cr_sortT rfl) (by rfl) T.sorted (by decide +kernel) (pa_cons (pe_setT (own := [("kind", 1)]) (g := gName 1) rfl nd (pi_tup (pv 0)) (blkOk_by (N := nLetB) (sc := defScope sLetB) (by decide +kernel)) (fun _ _ _ _ _ => (pg_name (i := 1) nd rfl (.inl rfl))) (fun _ _ _ _ _ => pts_nil) (fun _ _ _ _ _ => (pe_ix (show IxR _ (rIxT K) from ix_tup) (pv 1) (pe_glob (v := .int 3) (by rfl) T.lt.choose_spec ⟨_, rfl⟩) (fun _ _ => rfl)))) pa_nil)))
      (pss_cons (ps_setDc (i := 3) (own := [("letter", 5)]) (g := gName 5) rfl nd rfl rfl (sw_trueD rfl rfl rfl (by decide +kernel)) (pi_list (pv 2)) (blkOk_by (N := nLetB) (sc := defScope sLetB) (by decide +kernel)) (fun _ _ _ _ _ => (pg_name (i := 5) nd rfl (.inl rfl))) (fun _ _ _ _ _ => pts_nil) (fun _ _ _ _ _ => (pv 5)) (fun _ _ _ _ _ => pe_int))
      (pss_cons (ps_for PassesOwn.never rfl (pi_enT (by rfl) T.enum (pa_cons (pv 0) pa_nil)) (pg_tup (by rfl) (pgs_cons (pg_name (i := 4) nd rfl (.inl rfl)) (pgs_cons (pg_name (i := 1) nd rfl (.inl rfl)) pgs_nil))) (pss_one (ps_daug hu (pv 3) (pe_ix ix_tup (pv 1) (pe_glob (v := .int 3) (by rfl) T.lt.choose_spec ⟨_, rfl⟩) (fun _ _ => rfl)) (pe_op op_oneU pe_int (pv 4)) iop_or (fun _ _ _ => rfl))))
      (pss_one (ps_ret (pv 3)))))), ?_⟩
    have l2 := L.l2
    have big : (64 : Nat) ≤ scanBound := by decide
    -- the set
    refine ⟨_, rfl, a, rfl, ⟨_, SqT.of L.tp⟩, fun D hD => setT_tup (K := K) (a := a) (xs := as.map V.ref) (fun j H' => H' D = some (TxO P w D (ltsL (ks.take j))) ∧ Same H H') ⟨upd_same, same_new hD⟩ (fun j H' _ ⟨_, s'⟩ => SqT.of (s' _ _ L.tp)) ?_ ?_⟩
    · rintro j y H2 hj ⟨h2, s2⟩
      have Lb := L.same s2
      obtain ⟨x, kd, b, rfl, hk, hm, hjl, c1, c2⟩ := Lb.row hj
      have len := ltsL_len (ks.take j)
      rw [List.length_take] at len
      refine ⟨rfl, _, rfl, x, _, _, _, rfl, rfl, SqT.of c1, rfl, _, _, rfl, h2, by omega, ?_, fun c o e => by rw [upd_ne (ne_of_none e hD)]; exact s2 c o e⟩
      rw [ltsL_snoc hk]
      exact upd_same
    · rintro H2 ⟨h2, s2⟩
      rw [List.length_map, L.rw.1, List.take_of_length_le (Nat.le_refl _)] at h2
      have len := ltsL_len ks
      refine ⟨D, _, rfl, h2, by omega, fun ys q pm so hq => ?_⟩
      have LS : LetS ys ks := ⟨pm.nodup_iff.mpr (ltsL_nd ks), so, fun x => by rw [pm.mem_iff, ltsL_mem], by rw [pm.length_eq]; exact len⟩
      have yl := LS.len
      have s3 := s_new (o := HO.lst (ys.map V.str)) hq
      have f3 := upd_same (H := H2) (a := q) (o := .lst (ys.map V.str))
      generalize upd H2 q (.lst (ys.map V.str)) = H3 at s3 f3 ⊢
      have s03 := s2.trans s3
      -- the dict
      refine ⟨_, rfl, q, rfl, ⟨_, SqL.of f3⟩, fun D2 hD2 => dc_walk (walk_list (K := K) (a := q) (xs := ys.map V.str)) (fun j H' => H' D2 = some (.dK (nmD (ys.take j) fun _ => 0)) ∧ Same H3 H') ⟨upd_same, same_new hD2⟩ (fun j H' _ ⟨_, s'⟩ => SqL.of (s' _ _ f3)) ?_ ?_⟩
      · rintro j y H4 H4' hj ⟨h4, s4⟩ ⟨rfl, hy⟩
        obtain ⟨x, hx, rfl⟩ := str_at hy
        have hjy : j < ys.length := by rw [List.length_map] at hj; exact hj
        have nx : x ∉ ys.take j := fun z => by
          obtain ⟨i, hi⟩ := List.getElem?_of_mem z
          have hij : i < j := by
            have := (List.getElem?_eq_some_iff.mp hi).1
            rw [List.length_take] at this
            omega
          rw [List.getElem?_take, if_pos hij] at hi
          have := (List.getElem?_inj (by omega) LS.nd).mp (hi.trans hx.symm)
          omega
        refine ⟨rfl, _, rfl, _, kx x, rfl, h4, by rw [nmD_len, List.length_take]; exact small1000 (by omega), ?_, fun c o e => by rw [upd_ne (ne_of_none e hD2)]; exact s4 c o e⟩
        rw [take_snoc hx, ← nmD_snoc nx]
        exact upd_same
      · rintro H4 ⟨h4, s4⟩
        rw [List.length_map, List.take_of_length_le (Nat.le_refl _)] at h4
        have s04 := s03.trans s4
        have L4 := L.same s04
        -- the loop
        refine ⟨_, rfl, a, _, rfl, SqT.of L4.tp, for_enT (K := K) (a := a) (xs := as.map V.ref) (fun j σ H' => ∃ (v1 v4 : Option V), σ = [some (.ref a), v1, some (.ref q), some (.ref D2), v4, none] ∧ H' D2 = some (.dK (nmD ys fun x => bo (lbP x) (ks.take j))) ∧ Same H3 H')
          ⟨_, _, rfl, by rw [h4]; rfl, s4⟩ (fun j σ H' _ ⟨_, _, _, _, s⟩ => SqT.of (s _ _ (s03 _ _ L.tp))) ?_ ?_⟩
        · rintro j y σ H5 t hj ⟨v1, v4, rfl, h5, s5⟩ ht
          have L5 := L.same (s03.trans s5)
          obtain ⟨x, kd, b, rfl, hk, hm, hjl, c1, c2⟩ := L5.row hj
          have c1' := upd_keep (u := .tup [.int (j : Nat), .ref x]) c1 ht
          have h5' := upd_keep (u := .tup [.int (j : Nat), .ref x]) h5 ht
          have s5' : Same H3 (upd H5 t (.tup [.int (j : Nat), .ref x])) := same_upd s5 ht
          have hin : ltr kd.lt ∈ ys := (LS.mem _).mpr ⟨kd, hm, rfl⟩
          refine ⟨t, _, rfl, SqT.of upd_same, rfl, _, _, rfl, _, _, rfl, rfl, ?_⟩
          refine ⟨_, rfl, _, rfl, x, _, _, _, rfl, rfl, SqT.of c1', rfl, D2, _, rfl, by rw [← nmD_some (f := fun x => bo (lbP x) (ks.take j)) hin]; exact DGet.k (k := kx (ltr kd.lt)) h5', ?_⟩
          refine ⟨_, rfl, j, rfl, rfl, by omega, _, _, rfl, rfl, _, DPut.k (k := kx (ltr kd.lt)) h5' (by rw [nmD_len]; exact small1000 (by omega)), _, _, rfl, ?_, fun c o e => by rw [upd_ne (ne_of_none e hD2)]; exact s5' c o e⟩
          rw [upd_same]
          dsimp only
          rw [borP]
          refine congrArg (fun z => some (HO.dK z)) ?_
          have e1 : bo (lbP (ltr kd.lt)) (ks.take j) ||| 2 ^ j = bo (lbP (ltr kd.lt)) (ks.take (j + 1)) := by
            rw [bo_snoc hk, if_pos (show lbP (ltr kd.lt) kd = true from decide_eq_true rfl)]
          rw [e1]
          refine nmD_put (g := fun x => bo (lbP x) (ks.take (j + 1))) hin fun z hz => ?_
          rw [bo_snoc hk, if_neg (fun e => hz (of_decide_eq_true e).symm), Nat.or_zero]
        · rintro σ H5 ⟨v1, v4, rfl, h5, s5⟩
          rw [List.length_map, L.rw.1, List.take_of_length_le (Nat.le_refl _)] at h5
          refine ⟨_, rfl, k D2 ys H5 ?_ LS h5 (s03.trans s5)⟩
          exact s03.free hD2
end
end Cp

set_option Elab.async false
set_option linter.all false
set_option maxRecDepth 100000
namespace Cp
open PySem PySem.Spec L2 PyProof.Rows
/-- the law's own call, its promise being asked of the caller alone (whose guards are known) -/
theorem blaw_call {P : Program} {w : World} {K : PySem.W.Frag} {mg mb : Str → Option Value} {CX : CXT} {k : Nat} {fa a : Addr} {fd : FuncData} {x : Str} {sp : Sp} {s₁ : Shared} {vs : List Value} {ns : List Int}
    (inK : K.In s₁.heap) (hns : s₁.heap.Ns mainGlobals mg) (hbn : s₁.heap.Ns builtinsNs mb) (hbb : ∀ y : Str, y ≠ "__name__" → mb y = bootBuiltins y) (nolim : s₁.heap.NoLimit) (hgens : s₁.gens = #[])
    (hat : s₁.heap.get? a = some { cls := .type "list", data := .seq vs.toArray }) (hints : IntsAre vs ns) (hsize : ns.length ≤ sizeLine) (hroom : Room k callerA)
    (F : ∀ base : Heap, K.In base → base.Ns mainGlobals mg → (∃ o, base.get? sysModules = some o) → GOk P w K mg base CX k fa fd [x] sp) (seer : s₁.heap.NoSeer) (hbind : ∀ (s : Shared) (u : Value), BindsTo s fd ⟨[u], []⟩ [(x, u)])
    (hsp : ∀ H : Hp, Only H → SqL K H a (ns.map V.int) → sp [.ref a] H (fun v _ => v = .bl true) fun _ _ _ => False)
    (hCX : ∀ H e s', CX [] H s₁ (fun _ _ _ => False) e s' → False) :
    codeAny (model P w) callerA (.call (.ref fa) ⟨[.ref a], []⟩) (fun r s' => r = .ok (.ret (.bool true)) ∧ OldK s₁.heap s'.heap ∧ s'.os = s₁.os ∧ AllBare s'.gens) s₁ := by
  have rel : Vals (ns.map V.int) vs := vals_ints hints
  have hlen := hints.length
  suffices main : ∀ H : Hp, Only H → SqL K H a (ns.map V.int) → HOk P w H s₁.heap → (∀ b, H b ≠ none → b = a ∧ K.lookup a = none) →
      codeAny (model P w) callerA (.call (.ref fa) ⟨[.ref a], []⟩) (fun r s' => r = .ok (.ret (.bool true)) ∧ OldK s₁.heap s'.heap ∧ s'.os = s₁.os ∧ AllBare s'.gens) s₁ by
    rcases hk : K.lookup a with _ | o
    · refine main (fun b => if b = a then some (HO.frz { cls := .type "list", data := .seq vs.toArray } (.lst (ns.map V.int))) else none) (fun b => ?_) (Or.inl (Or.inr ⟨{ cls := .type "list", data := .seq vs.toArray }, if_pos rfl⟩)) (fun b u z => ?_) (fun b z => ?_)
      · by_cases e : b = a
        · exact Or.inr ⟨_, _, if_pos e⟩
        · exact Or.inl (if_neg e)
      · by_cases e : b = a
        · have q := z.symm.trans (if_pos e)
          cases q
          rw [e]
          exact ⟨hat, (by rw [List.length_map]; exact hsize), vs, _, rel, hat⟩
        · have q := z.symm.trans (if_neg e)
          cases q
      · by_cases e : b = a
        · exact ⟨e, hk⟩
        · exact (z (if_neg e)).elim
    · have q := inK a o hk
      rw [hat] at q
      cases q
      exact main (fun _ => none) (fun _ => Or.inl rfl) (Or.inr ⟨_, vs.toArray, _, hk, rfl, rfl, rfl, (by rw [List.size_toArray, hlen]; exact hsize), (by simpa using rel)⟩) (fun b u z => by cases (show (none : Option HO) = some u from z)) (fun b z => (z rfl).elim)
  intro H only hS hok honly
  have keepB : ∀ {b : Addr} {o : Obj}, s₁.heap.get? b = some o → H b = none → (hidT s₁.heap H).get? b = some o := hidT_get
  have dictFree : ∀ {b : Addr} {o : Obj} {es : Array DictEntry} {ep : Nat}, s₁.heap.get? b = some o → o.data = .dict es ep → H b = none := by
    intro b o es ep e hd
    rcases q : H b with _ | u
    · rfl
    · have hb := (honly b (by rw [q]; exact fun z => nomatch z)).1
      rw [hb, hat] at e
      cases e
      exact nomatch hd
  have nsB : ∀ {b : Addr} {m : Str → Option Value}, s₁.heap.Ns b m → (hidT s₁.heap H).Ns b m := by
    intro b m h
    obtain ⟨o, es, ep, e, hd, r⟩ := h
    exact ⟨o, es, ep, keepB e (dictFree e hd), hd, r⟩
  have inB : K.In (hidT s₁.heap H) := by
    intro b o e
    refine keepB (inK b o e) ?_
    rcases q : H b with _ | u
    · rfl
    · obtain ⟨hb, hn⟩ := honly b (by rw [q]; exact fun z => nomatch z)
      rw [hb, hn] at e
      cases e
  have md : Mod K mg (hidT s₁.heap H) := by
    obtain ⟨mc, h1, h2⟩ := nolim
    exact ⟨inB, nsB hns, ⟨mb, nsB hbn, hbb⟩, ⟨mc, nsB h1, h2⟩⟩
  have noFr : ∀ b : Addr, ¬ b ∈ frs [] := fun b z => by cases z
  have env : Env0 P w K mg (hidT s₁.heap H) callerA [] s₁ H := ⟨rfl, md, fun _ _ e => of_hidT e, Nat.le_of_eq (hidT_size _ _), trivial, fun b hb => (noFr b hb).elim, hok, .of_eq hgens⟩
  have mods : ∃ o, (hidT s₁.heap H).get? sysModules = some o := by
    obtain ⟨mm, ⟨o, es, ep, e, hd, _⟩, _⟩ := seer.mods
    exact ⟨o, keepB e (dictFree e hd)⟩
  have R := (F _ inB (nsB hns) mods).run callerA [] s₁ H ⟨[.ref a], []⟩ [.ref a] [.ref a] _ _ rfl hroom env (hbind s₁ (.ref a)) (.cons rfl .nil) (hsp H only hS)
  refine codeAny_mono R ?_
  intro r s' h
  match r, h with
  | .error e, h => exact (hCX H e s' h).elim
  | .ok .next, h => exact h.elim
  | .ok .brk, h => exact h.elim
  | .ok .cont, h => exact h.elim
  | .ok (.ret u), h =>
    obtain ⟨v, H', hos, hbare, hun, hok', hrel, hq⟩ := h
    have hv : v = .bl true := hq
    rw [hv] at hrel
    have hu : u = Value.bool true := hrel
    subst hu
    refine ⟨rfl, OldK.of_keep ?_, hos, hbare⟩
    intro b o e
    rcases only b with z | ⟨ob, xs, z⟩
    · exact hun.keep b o e z (noFr b) (fun q => by cases q)
    · have g1 := (hok b _ z).1
      have g2 := (hok' b _ (hun.frzs b ob _ z)).1
      rw [e] at g1
      cases g1
      exact g2
theorem bwalk_of {l : PySem.W.OpenLaw} {n k : Nat} {q : Program} {loose : List Str} {XP : (Str → Option Value) → Heap → Prop} {YP : World → Heap → Prop} {d : DefRec} {K : Params → PySem.W.Frag} {CX : World → CXT} {sp : World → Sp} {x : Str}
    (hi : importsNone q = true) (hn : l.most = some n) (hn2 : n ≤ sizeLine) (hdf : d.params.defaults = []) (hr : Room k callerA) (hY : ∀ (w : World) (h : Heap), YP w h → (K w.params).In h)
    (F : ∀ (w : World) (mg : Str → Option Value) (fa : Addr) (h : Heap), (K w.params).In h → h.Ns mainGlobals mg → mg d.name = some (.ref fa) → ∃ fd : FuncData, (∀ (s : Shared) (u : Value), BindsTo s fd ⟨[u], []⟩ [(x, u)]) ∧
      ∀ base : Heap, (K w.params).In base → base.Ns mainGlobals mg → (∃ o, base.get? sysModules = some o) → GOk l.prog w (K w.params) mg base (CX w) k fa fd [x] (sp w))
    (hsp : ∀ (w : World) (H : Hp) (a : Addr) (ns : List Int), ns.length ≤ n → Only H → SqL (K w.params) H a (ns.map V.int) → sp w [.ref a] H (fun v _ => v = .bl true) fun _ _ _ => False)
    (hCX : ∀ (w : World) (H : Hp) (s : Shared) (e : Value) (s' : Shared), CX w [] H s (fun _ _ _ => False) e s' → False) :
    PySem.W.WalkO q loose XP YP l.row.toRowW d [] (fun f vs => PySem.call f vs) := by
  refine Att.attach_call hn hdf ?_
  intro w s₀ s₁ mg mb fa o pm cd doc a vs ns G Y ho hd hcd hmg hobj hints hlen hg
  obtain ⟨fd, hb, hF⟩ := F w mg fa s₁.heap (hY w _ Y) G.T.g hmg
  exact blaw_call (hY w _ Y) G.T.g G.T.b G.T.builtins G.T.nolimit hg hobj hints (Nat.le_trans hlen hn2) hr hF (G.T.seer hi) hb (fun H hO hS => hsp w H a ns hlen hO hS) (fun H e s' => hCX w H s₁ e s')
end Cp

set_option Elab.async false
set_option linter.all false
set_option maxRecDepth 100000
namespace Cp
open PySem PySem.Spec L2 PyProof.Rows
/-- a law's end, its promise being over the written part -/
theorem bwalk_K {l : PySem.W.OpenLaw} {n k : Nat} {q : Program} {loose : List Str} {XP : (Str → Option Value) → Heap → Prop} {YP : World → Heap → Prop} {d : DefRec} {K : Params → PySem.W.Frag} {CX : CXT} {sp : PySem.W.Frag → Sp} {x : Str}
    (hi : importsNone q = true) (hn : l.most = some n) (hn2 : n ≤ sizeLine) (hdf : d.params.defaults = []) (hr : Room k callerA) (hY : ∀ (w : World) (h : Heap), YP w h → (K w.params).In h)
    (F : ∀ (w : World) (mg : Str → Option Value) (fa : Addr) (h : Heap), (K w.params).In h → h.Ns mainGlobals mg → mg d.name = some (.ref fa) → ∃ fd : FuncData, (∀ (s : Shared) (u : Value), BindsTo s fd ⟨[u], []⟩ [(x, u)]) ∧
      ∀ base : Heap, (K w.params).In base → base.Ns mainGlobals mg → (∃ o, base.get? sysModules = some o) → GOk l.prog w (K w.params) mg base CX k fa fd [x] (sp (K w.params)))
    (hsp : ∀ (K : PySem.W.Frag) (H : Hp) (a : Addr) (ns : List Int), ns.length ≤ n → SqL K H a (ns.map V.int) → sp K [.ref a] H (fun v _ => v = .bl true) fun _ _ _ => False)
    (hCX : ∀ (H : Hp) (s : Shared) (e : Value) (s' : Shared), CX [] H s (fun _ _ _ => False) e s' → False) :
    PySem.W.WalkO q loose XP YP l.row.toRowW d [] (fun f vs => PySem.call f vs) :=
  bwalk_of (sp := fun w => sp (K w.params)) (CX := fun _ => CX) hi hn hn2 hdf hr hY F (fun w H a ns h _ hS => hsp _ H a ns h hS) (fun _ H s e s' z => hCX H s e s' z)
end Cp

set_option Elab.async false
set_option linter.all false
set_option maxRecDepth 100000
set_option maxHeartbeats 4000000
namespace Cp
open PySem PySem.Spec L2 PyProof.Rows
def exB (K : PySem.W.Frag) (D : Addr) : Bool := decide (PySem.W.findIn K (.ref D) "__getattribute__" = some (some (.builtin "BaseException.__getattribute__"))) && (decide (PySem.W.findIn K (.ref D) "__getattr__" = some none) && (decide (PySem.W.subIn K (.ref D) (.type "BaseException") = some true) &&
  (PySem.W.hasDictIn K D && (decide (PySem.W.findIn K (.ref D) "__class__" = some (some (.builtin "object.__class__"))) && (decide (PySem.W.specialIn K (.builtin "object.__class__") "__get__" = some (some (.builtin "getset_descriptor.__get__"))) &&
  (decide (PySem.W.takesIn K (.builtin "object.__class__") = some true) && decide (PySem.W.mroIn K D (.type "object") = some true)))))))
theorem exB_ok {K : PySem.W.Frag} {D : Addr} (h : exB K D = true) : ExcC K D := by
  unfold exB at h
  simp only [Bool.and_eq_true, decide_eq_true_eq] at h
  obtain ⟨h1, h2, h3, h4, h5, h6, h7, h8⟩ := h
  exact ⟨h1, h2, h3, h4, h5, h6, h7, h8⟩
def factsB (K : PySem.W.Frag) (CB : Addr) : Bool := oegB tlVE "ValueError.__new__" K CB && (decide (PySem.W.findIn K (.ref CB) "place" = some none))
theorem all_mk {P : Program} {w : World} {K : PySem.W.Frag} {h : Heap} {mg : Str → Option Value} {fa : Addr} (X : K.In h) (G : h.Ns mainGlobals mg) (hfa : mg "law" = some (.ref fa))
    {CB fJ dL f0 f1 f2 f3 f4 f5 f6 f7 f8 f9 f10 f11 f12 f13 f14 f15 f16 f17 f18 f19 f20 f21 f22 f23 f24 f25 f26 f27 f28 f29 : Addr} {es : Array DictEntry} {nL : Nat} {vO : Int} {oc0 kV0 dc0 pm0 cd0 ct0 oc1 kV1 dc1 pm1 cd1 ct1 oc2 kV2 dc2 pm2 cd2 ct2 oc3 kV3 dc3 pm3 cd3 ct3 oc4 kV4 dc4 pm4 cd4 ct4 oc5 kV5 dc5 pm5 cd5 ct5 oc6 kV6 dc6 pm6 cd6 ct6 oc7 kV7 dc7 pm7 cd7 ct7 oc8 kV8 dc8 pm8 cd8 ct8 oc9 kV9 dc9 pm9 cd9 ct9 oc10 kV10 dc10 pm10 cd10 ct10 oc11 kV11 dc11 pm11 cd11 ct11 oc12 kV12 dc12 pm12 cd12 ct12 oc13 kV13 dc13 pm13 cd13 ct13 oc14 kV14 dc14 pm14 cd14 ct14 oc15 kV15 dc15 pm15 cd15 ct15 oc16 kV16 dc16 pm16 cd16 ct16 oc17 kV17 dc17 pm17 cd17 ct17 oc18 kV18 dc18 pm18 cd18 ct18 oc19 kV19 dc19 pm19 cd19 ct19 oc20 kV20 dc20 pm20 cd20 ct20 oc21 kV21 dc21 pm21 cd21 ct21 oc22 kV22 dc22 pm22 cd22 ct22 oc23 kV23 dc23 pm23 cd23 ct23 oc24 kV24 dc24 pm24 cd24 ct24 oc25 kV25 dc25 pm25 cd25 ct25 oc26 kV26 dc26 pm26 cd26 ct26 oc27 kV27 dc27 pm27 cd27 ct27 oc28 kV28 dc28 pm28 cd28 ct28 oc29 kV29 dc29 pm29 cd29 ct29 ocJ kVJ dcJ pmJ cdJ ctJ : Value} {od0 an0 od1 an1 od2 an2 od3 an3 od4 an4 od5 an5 od6 an6 od7 an7 od8 an8 od9 an9 od10 an10 od11 an11 od12 an12 od13 an13 od14 an14 od15 an15 od16 an16 od17 an17 od18 an18 od19 an19 od20 an20 od21 an21 od22 an22 od23 an23 od24 an24 od25 an25 od26 an26 od27 an27 od28 an28 od29 an29 odJ anJ : Option Addr} {sl0 sl1 sl2 sl3 sl4 sl5 sl6 sl7 sl8 sl9 sl10 sl11 sl12 sl13 sl14 sl15 sl16 sl17 sl18 sl19 sl20 sl21 sl22 sl23 sl24 sl25 sl26 sl27 sl28 sl29 slJ : Array (Option Value)} {tk0 tk1 tk2 tk3 tk4 tk5 tk6 tk7 ts0 ts1 : Tok}
    (aCB : PySem.W.nsIn K mainGlobals "BadLayout" = some (some (.ref CB)))
    (a0 : PySem.W.nsIn K mainGlobals "law" = some (some (.ref f0)))
    (l0 : K.lookup f0 = some ⟨oc0, od0, .func (PySem.W.fnOf "law" "law" (defArgs sLaw30) (defBody sLaw30) (defScope sLaw30) .none kV0 dc0 pm0 an0 cd0 ct0), sl0⟩)
    (c0 : PySem.W.codeIn K cd0 "law" = true)
    (k0 : PySem.W.keepIn K (.ref f0) = true)
    (a1 : PySem.W.nsIn K mainGlobals "_law_begun" = some (some (.ref f1)))
    (l1 : K.lookup f1 = some ⟨oc1, od1, .func (PySem.W.fnOf "_law_begun" "_law_begun" (defArgs sBegun) (defBody sBegun) (defScope sBegun) .none kV1 dc1 pm1 an1 cd1 ct1), sl1⟩)
    (c1 : PySem.W.codeIn K cd1 "_law_begun" = true)
    (k1 : PySem.W.keepIn K (.ref f1) = true)
    (a2 : PySem.W.nsIn K mainGlobals "_law_next" = some (some (.ref f2)))
    (l2 : K.lookup f2 = some ⟨oc2, od2, .func (PySem.W.fnOf "_law_next" "_law_next" (defArgs sNext) (defBody sNext) (defScope sNext) .none kV2 dc2 pm2 an2 cd2 ct2), sl2⟩)
    (c2 : PySem.W.codeIn K cd2 "_law_next" = true)
    (k2 : PySem.W.keepIn K (.ref f2) = true)
    (a3 : PySem.W.nsIn K mainGlobals "_law_titles" = some (some (.ref f3)))
    (l3 : K.lookup f3 = some ⟨oc3, od3, .func (PySem.W.fnOf "_law_titles" "_law_titles" (defArgs sTitles) (defBody sTitles) (defScope sTitles) .none kV3 dc3 pm3 an3 cd3 ct3), sl3⟩)
    (c3 : PySem.W.codeIn K cd3 "_law_titles" = true)
    (k3 : PySem.W.keepIn K (.ref f3) = true)
    (a4 : PySem.W.nsIn K mainGlobals "_law_sign" = some (some (.ref f4)))
    (l4 : K.lookup f4 = some ⟨oc4, od4, .func (PySem.W.fnOf "_law_sign" "_law_sign" (defArgs sSign) (defBody sSign) (defScope sSign) .none kV4 dc4 pm4 an4 cd4 ct4), sl4⟩)
    (c4 : PySem.W.codeIn K cd4 "_law_sign" = true)
    (k4 : PySem.W.keepIn K (.ref f4) = true)
    (a5 : PySem.W.nsIn K mainGlobals "_law_frame" = some (some (.ref f5)))
    (l5 : K.lookup f5 = some ⟨oc5, od5, .func (PySem.W.fnOf "_law_frame" "_law_frame" (defArgs sFrame) (defBody sFrame) (defScope sFrame) .none kV5 dc5 pm5 an5 cd5 ct5), sl5⟩)
    (c5 : PySem.W.codeIn K cd5 "_law_frame" = true)
    (k5 : PySem.W.keepIn K (.ref f5) = true)
    (a6 : PySem.W.nsIn K mainGlobals "_law_under" = some (some (.ref f6)))
    (l6 : K.lookup f6 = some ⟨oc6, od6, .func (PySem.W.fnOf "_law_under" "_law_under" (defArgs sUnder) (defBody sUnder) (defScope sUnder) .none kV6 dc6 pm6 an6 cd6 ct6), sl6⟩)
    (c6 : PySem.W.codeIn K cd6 "_law_under" = true)
    (k6 : PySem.W.keepIn K (.ref f6) = true)
    (a7 : PySem.W.nsIn K mainGlobals "_law_word" = some (some (.ref f7)))
    (l7 : K.lookup f7 = some ⟨oc7, od7, .func (PySem.W.fnOf "_law_word" "_law_word" (defArgs sWord) (defBody sWord) (defScope sWord) .none kV7 dc7 pm7 an7 cd7 ct7), sl7⟩)
    (c7 : PySem.W.codeIn K cd7 "_law_word" = true)
    (k7 : PySem.W.keepIn K (.ref f7) = true)
    (a8 : PySem.W.nsIn K mainGlobals "_law_marks" = some (some (.ref f8)))
    (l8 : K.lookup f8 = some ⟨oc8, od8, .func (PySem.W.fnOf "_law_marks" "_law_marks" (defArgs sMarks) (defBody sMarks) (defScope sMarks) .none kV8 dc8 pm8 an8 cd8 ct8), sl8⟩)
    (c8 : PySem.W.codeIn K cd8 "_law_marks" = true)
    (k8 : PySem.W.keepIn K (.ref f8) = true)
    (a9 : PySem.W.nsIn K mainGlobals "_law_marked" = some (some (.ref f9)))
    (l9 : K.lookup f9 = some ⟨oc9, od9, .func (PySem.W.fnOf "_law_marked" "_law_marked" (defArgs sMarked) (defBody sMarked) (defScope sMarked) .none kV9 dc9 pm9 an9 cd9 ct9), sl9⟩)
    (c9 : PySem.W.codeIn K cd9 "_law_marked" = true)
    (k9 : PySem.W.keepIn K (.ref f9) = true)
    (a10 : PySem.W.nsIn K mainGlobals "_law_shared" = some (some (.ref f10)))
    (l10 : K.lookup f10 = some ⟨oc10, od10, .func (PySem.W.fnOf "_law_shared" "_law_shared" (defArgs sShd) (defBody sShd) (defScope sShd) .none kV10 dc10 pm10 an10 cd10 ct10), sl10⟩)
    (c10 : PySem.W.codeIn K cd10 "_law_shared" = true)
    (k10 : PySem.W.keepIn K (.ref f10) = true)
    (a11 : PySem.W.nsIn K mainGlobals "_law_plan" = some (some (.ref f11)))
    (l11 : K.lookup f11 = some ⟨oc11, od11, .func (PySem.W.fnOf "_law_plan" "_law_plan" (defArgs sPlan) (defBody sPlan) (defScope sPlan) .none kV11 dc11 pm11 an11 cd11 ct11), sl11⟩)
    (c11 : PySem.W.codeIn K cd11 "_law_plan" = true)
    (k11 : PySem.W.keepIn K (.ref f11) = true)
    (a12 : PySem.W.nsIn K mainGlobals "_law_some" = some (some (.ref f12)))
    (l12 : K.lookup f12 = some ⟨oc12, od12, .func (PySem.W.fnOf "_law_some" "_law_some" (defArgs sSom) (defBody sSom) (defScope sSom) .none kV12 dc12 pm12 an12 cd12 ct12), sl12⟩)
    (c12 : PySem.W.codeIn K cd12 "_law_some" = true)
    (k12 : PySem.W.keepIn K (.ref f12) = true)
    (a13 : PySem.W.nsIn K mainGlobals "_law_group" = some (some (.ref f13)))
    (l13 : K.lookup f13 = some ⟨oc13, od13, .func (PySem.W.fnOf "_law_group" "_law_group" (defArgs sGrp) (defBody sGrp) (defScope sGrp) .none kV13 dc13 pm13 an13 cd13 ct13), sl13⟩)
    (c13 : PySem.W.codeIn K cd13 "_law_group" = true)
    (k13 : PySem.W.keepIn K (.ref f13) = true)
    (a14 : PySem.W.nsIn K mainGlobals "_law_forced" = some (some (.ref f14)))
    (l14 : K.lookup f14 = some ⟨oc14, od14, .func (PySem.W.fnOf "_law_forced" "_law_forced" (defArgs sFrc) (defBody sFrc) (defScope sFrc) .none kV14 dc14 pm14 an14 cd14 ct14), sl14⟩)
    (c14 : PySem.W.codeIn K cd14 "_law_forced" = true)
    (k14 : PySem.W.keepIn K (.ref f14) = true)
    (a15 : PySem.W.nsIn K mainGlobals "_law_wide" = some (some (.ref f15)))
    (l15 : K.lookup f15 = some ⟨oc15, od15, .func (PySem.W.fnOf "_law_wide" "_law_wide" (defArgs sWde) (defBody sWde) (defScope sWde) .none kV15 dc15 pm15 an15 cd15 ct15), sl15⟩)
    (c15 : PySem.W.codeIn K cd15 "_law_wide" = true)
    (k15 : PySem.W.keepIn K (.ref f15) = true)
    (a16 : PySem.W.nsIn K mainGlobals "_law_is_wide" = some (some (.ref f16)))
    (l16 : K.lookup f16 = some ⟨oc16, od16, .func (PySem.W.fnOf "_law_is_wide" "_law_is_wide" (defArgs sIsWd) (defBody sIsWd) (defScope sIsWd) .none kV16 dc16 pm16 an16 cd16 ct16), sl16⟩)
    (c16 : PySem.W.codeIn K cd16 "_law_is_wide" = true)
    (k16 : PySem.W.keepIn K (.ref f16) = true)
    (a17 : PySem.W.nsIn K mainGlobals "_law_right" = some (some (.ref f17)))
    (l17 : K.lookup f17 = some ⟨oc17, od17, .func (PySem.W.fnOf "_law_right" "_law_right" (defArgs sRgt30) (defBody sRgt30) (defScope sRgt30) .none kV17 dc17 pm17 an17 cd17 ct17), sl17⟩)
    (c17 : PySem.W.codeIn K cd17 "_law_right" = true)
    (k17 : PySem.W.keepIn K (.ref f17) = true)
    (a18 : PySem.W.nsIn K mainGlobals "_law_by_hand" = some (some (.ref f18)))
    (l18 : K.lookup f18 = some ⟨oc18, od18, .func (PySem.W.fnOf "_law_by_hand" "_law_by_hand" (defArgs sHand30) (defBody sHand30) (defScope sHand30) .none kV18 dc18 pm18 an18 cd18 ct18), sl18⟩)
    (c18 : PySem.W.codeIn K cd18 "_law_by_hand" = true)
    (k18 : PySem.W.keepIn K (.ref f18) = true)
    (a19 : PySem.W.nsIn K mainGlobals "has_letters_alone" = some (some (.ref f19)))
    (l19 : K.lookup f19 = some ⟨oc19, od19, .func (PySem.W.fnOf "has_letters_alone" "has_letters_alone" (defArgs sHla) (defBody sHla) (defScope sHla) .none kV19 dc19 pm19 an19 cd19 ct19), sl19⟩)
    (c19 : PySem.W.codeIn K cd19 "has_letters_alone" = true)
    (k19 : PySem.W.keepIn K (.ref f19) = true)
    (a20 : PySem.W.nsIn K mainGlobals "are_marks" = some (some (.ref f20)))
    (l20 : K.lookup f20 = some ⟨oc20, od20, .func (PySem.W.fnOf "are_marks" "are_marks" (defArgs sMks) (defBody sMks) (defScope sMks) .none kV20 dc20 pm20 an20 cd20 ct20), sl20⟩)
    (c20 : PySem.W.codeIn K cd20 "are_marks" = true)
    (k20 : PySem.W.keepIn K (.ref f20) = true)
    (a21 : PySem.W.nsIn K mainGlobals "_take_kinds" = some (some (.ref f21)))
    (l21 : K.lookup f21 = some ⟨oc21, od21, .func (PySem.W.fnOf "_take_kinds" "_take_kinds" (defArgs sTake) (defBody sTake) (defScope sTake) .none kV21 dc21 pm21 an21 cd21 ct21), sl21⟩)
    (c21 : PySem.W.codeIn K cd21 "_take_kinds" = true)
    (k21 : PySem.W.keepIn K (.ref f21) = true)
    (a22 : PySem.W.nsIn K mainGlobals "look_at" = some (some (.ref f22)))
    (l22 : K.lookup f22 = some ⟨oc22, od22, .func (PySem.W.fnOf "look_at" "look_at" (defArgs sLook) (defBody sLook) (defScope sLook) .none kV22 dc22 pm22 an22 cd22 ct22), sl22⟩)
    (c22 : PySem.W.codeIn K cd22 "look_at" = true)
    (k22 : PySem.W.keepIn K (.ref f22) = true)
    (a23 : PySem.W.nsIn K mainGlobals "reached_bits" = some (some (.ref f23)))
    (l23 : K.lookup f23 = some ⟨oc23, od23, .func (PySem.W.fnOf "reached_bits" "reached_bits" (defArgs sRch) (defBody sRch) (defScope sRch) .none kV23 dc23 pm23 an23 cd23 ct23), sl23⟩)
    (c23 : PySem.W.codeIn K cd23 "reached_bits" = true)
    (k23 : PySem.W.keepIn K (.ref f23) = true)
    (a24 : PySem.W.nsIn K mainGlobals "names_of" = some (some (.ref f24)))
    (l24 : K.lookup f24 = some ⟨oc24, od24, .func (PySem.W.fnOf "names_of" "names_of" (defArgs sNof) (defBody sNof) (defScope sNof) .none kV24 dc24 pm24 an24 cd24 ct24), sl24⟩)
    (c24 : PySem.W.codeIn K cd24 "names_of" = true)
    (k24 : PySem.W.keepIn K (.ref f24) = true)
    (a25 : PySem.W.nsIn K mainGlobals "letter_bits" = some (some (.ref f25)))
    (l25 : K.lookup f25 = some ⟨oc25, od25, .func (PySem.W.fnOf "letter_bits" "letter_bits" (defArgs sLetB) (defBody sLetB) (defScope sLetB) .none kV25 dc25 pm25 an25 cd25 ct25), sl25⟩)
    (c25 : PySem.W.codeIn K cd25 "letter_bits" = true)
    (k25 : PySem.W.keepIn K (.ref f25) = true)
    (a26 : PySem.W.nsIn K mainGlobals "_need_reached" = some (some (.ref f26)))
    (l26 : K.lookup f26 = some ⟨oc26, od26, .func (PySem.W.fnOf "_need_reached" "_need_reached" (defArgs sNdR) (defBody sNdR) (defScope sNdR) .none kV26 dc26 pm26 an26 cd26 ct26), sl26⟩)
    (c26 : PySem.W.codeIn K cd26 "_need_reached" = true)
    (k26 : PySem.W.keepIn K (.ref f26) = true)
    (a27 : PySem.W.nsIn K mainGlobals "fits" = some (some (.ref f27)))
    (l27 : K.lookup f27 = some ⟨oc27, od27, .func (PySem.W.fnOf "fits" "fits" (defArgs sFits) (defBody sFits) (defScope sFits) .none kV27 dc27 pm27 an27 cd27 ct27), sl27⟩)
    (c27 : PySem.W.codeIn K cd27 "fits" = true)
    (k27 : PySem.W.keepIn K (.ref f27) = true)
    (a28 : PySem.W.nsIn K mainGlobals "_with_beneath" = some (some (.ref f28)))
    (l28 : K.lookup f28 = some ⟨oc28, od28, .func (PySem.W.fnOf "_with_beneath" "_with_beneath" (defArgs sWiB) (defBody sWiB) (defScope sWiB) .none kV28 dc28 pm28 an28 cd28 ct28), sl28⟩)
    (c28 : PySem.W.codeIn K cd28 "_with_beneath" = true)
    (k28 : PySem.W.keepIn K (.ref f28) = true)
    (a29 : PySem.W.nsIn K mainGlobals "widened" = some (some (.ref f29)))
    (l29 : K.lookup f29 = some ⟨oc29, od29, .func (PySem.W.fnOf "widened" "widened" (defArgs sWid) (defBody sWid) (defScope sWid) .none kV29 dc29 pm29 an29 cd29 ct29), sl29⟩)
    (c29 : PySem.W.codeIn K cd29 "widened" = true)
    (k29 : PySem.W.keepIn K (.ref f29) = true)
    (iJ : PySem.W.findIn K (.ref CB) "__init__" = some (some (.ref fJ)))
    (tJ : PySem.W.typeIn K (.ref fJ) = some (.type "function"))
    (lJ : K.lookup fJ = some ⟨ocJ, odJ, .func (PySem.W.fnOf "__init__" "BadLayout.__init__" (defArgs sIBad) (defBody sIBad) (defScope sIBad) .none kVJ dcJ pmJ anJ cdJ ctJ), slJ⟩)
    (cJ : PySem.W.codeIn K cdJ "BadLayout.__init__" = true)
    (kJ : PySem.W.keepIn K (.ref fJ) = true)
    (z_int : PySem.W.nsIn K mainGlobals "int" = some none)
    (z_max : PySem.W.nsIn K mainGlobals "max" = some none)
    (z_min : PySem.W.nsIn K mainGlobals "min" = some none)
    (z_len : PySem.W.nsIn K mainGlobals "len" = some none)
    (z_range : PySem.W.nsIn K mainGlobals "range" = some none)
    (z_enumerate : PySem.W.nsIn K mainGlobals "enumerate" = some none)
    (z_tuple : PySem.W.nsIn K mainGlobals "tuple" = some none)
    (z_list : PySem.W.nsIn K mainGlobals "list" = some none)
    (z_repr : PySem.W.nsIn K mainGlobals "repr" = some none)
    (z_isinstance : PySem.W.nsIn K mainGlobals "isinstance" = some none)
    (z_str : PySem.W.nsIn K mainGlobals "str" = some none)
    (z_set : PySem.W.nsIn K mainGlobals "set" = some none)
    (z_KeyError : PySem.W.nsIn K mainGlobals "KeyError" = some none)
    (z_sorted : PySem.W.nsIn K mainGlobals "sorted" = some none)
    (n0 : PySem.W.nsIn K mainGlobals "MOST_KINDS" = some (some (.int 24 tk0)))
    (n1 : PySem.W.nsIn K mainGlobals "MOST_BASES" = some (some (.int 6 tk1)))
    (n2 : PySem.W.nsIn K mainGlobals "MOST_EDITION" = some (some (.int 99 tk2)))
    (n3 : PySem.W.nsIn K mainGlobals "LONGEST_NAME" = some (some (.int 8 tk3)))
    (n4 : PySem.W.nsIn K mainGlobals "MARK" = some (some (.int 4 tk4)))
    (n5 : PySem.W.nsIn K mainGlobals "_MOST_SIGNS" = some (some (.int 324 tk5)))
    (n6 : PySem.W.nsIn K mainGlobals "LETTER" = some (some (.int 3 tk6)))
    (n7 : PySem.W.nsIn K mainGlobals "_TOPS" = some (some (.int vO tk7)))
    (s0 : PySem.W.nsIn K mainGlobals "_BELOW_LETTERS" = some (some (.str "`" ts0)))
    (s1 : PySem.W.nsIn K mainGlobals "_ABOVE_LETTERS" = some (some (.str "{" ts1)))
    (hv : vO = ((128 * ones 324 : Nat) : Int))
    (aL : PySem.W.nsIn K mainGlobals "IS_LETTER" = some (some (.ref dL)))
    (hL : K.lookup dL = some ⟨.type "dict", none, .dict es nL, #[]⟩)
    (hLk : es.toList.map He.keyOf = He.keysIn w.params lettersL)
    (hLo : (dL == sysModules) = false)
    (fb : factsB K CB = true) :
    ∃ fd : FuncData, (∀ (s : Shared) (u : Value), BindsTo s fd ⟨[u], []⟩ [("script", u)]) ∧ ∀ base : Heap, K.In base → base.Ns mainGlobals mg → (∃ o, base.get? sysModules = some o) → GOk P w K mg base CX0 11 fa fd ["script"] (spLaw K) := by
  have e := hfa.symm.trans (PySem.W.mg_of X G a0)
  cases e
  subst hv
  unfold factsB at fb
  simp only [Bool.and_eq_true, decide_eq_true_eq] at fb
  obtain ⟨p0, p1⟩ := fb
  have F0 := fun_mk (st := sLaw30) l0 c0 k0
  have F1 := fun_mk (st := sBegun) l1 c1 k1
  have F2 := fun_mk (st := sNext) l2 c2 k2
  have F3 := fun_mk (st := sTitles) l3 c3 k3
  have F4 := fun_mk (st := sSign) l4 c4 k4
  have F5 := fun_mk (st := sFrame) l5 c5 k5
  have F6 := fun_mk (st := sUnder) l6 c6 k6
  have F7 := fun_mk (st := sWord) l7 c7 k7
  have F8 := fun_mk (st := sMarks) l8 c8 k8
  have F9 := fun_mk (st := sMarked) l9 c9 k9
  have F10 := fun_mk (st := sShd) l10 c10 k10
  have F11 := fun_mk (st := sPlan) l11 c11 k11
  have F12 := fun_mk (st := sSom) l12 c12 k12
  have F13 := fun_mk (st := sGrp) l13 c13 k13
  have F14 := fun_mk (st := sFrc) l14 c14 k14
  have F15 := fun_mk (st := sWde) l15 c15 k15
  have F16 := fun_mk (st := sIsWd) l16 c16 k16
  have F17 := fun_mk (st := sRgt30) l17 c17 k17
  have F18 := fun_mk (st := sHand30) l18 c18 k18
  have F19 := fun_mk (st := sHla) l19 c19 k19
  have F20 := fun_mk (st := sMks) l20 c20 k20
  have F21 := fun_mk (st := sTake) l21 c21 k21
  have F22 := fun_mk (st := sLook) l22 c22 k22
  have F23 := fun_mk (st := sRch) l23 c23 k23
  have F24 := fun_mk (st := sNof) l24 c24 k24
  have F25 := fun_mk (st := sLetB) l25 c25 k25
  have F26 := fun_mk (st := sNdR) l26 c26 k26
  have F27 := fun_mk (st := sFits) l27 c27 k27
  have F28 := fun_mk (st := sWiB) l28 c28 k28
  have F29 := fun_mk (st := sWid) l29 c29 k29
  have b1 := F1.binds (ps := ["script"]) fun _ _ _ _ _ _ us hl => match us, hl with | [_], _ => rfl
  have b2 := F2.binds (ps := ["draw", "below"]) fun _ _ _ _ _ _ us hl => match us, hl with | [_, _], _ => rfl
  have b3 := F3.binds (ps := ["draw"]) fun _ _ _ _ _ _ us hl => match us, hl with | [_], _ => rfl
  have b4 := F4.binds (ps := ["at"]) fun _ _ _ _ _ _ us hl => match us, hl with | [_], _ => rfl
  have b5 := F5.binds (ps := ["draw", "most"]) fun _ _ _ _ _ _ us hl => match us, hl with | [_, _], _ => rfl
  have b6 := F6.binds (ps := ["plan"]) fun _ _ _ _ _ _ us hl => match us, hl with | [_], _ => rfl
  have b7 := F7.binds (ps := ["signs"]) fun _ _ _ _ _ _ us hl => match us, hl with | [_], _ => rfl
  have b8 := F8.binds (ps := ["draw", "rows", "way"]) fun _ _ _ _ _ _ us hl => match us, hl with | [_, _, _], _ => rfl
  have b9 := F9.binds (ps := ["draw", "rows", "way"]) fun _ _ _ _ _ _ us hl => match us, hl with | [_, _, _], _ => rfl
  have b10 := F10.binds (ps := ["draw", "rows"]) fun _ _ _ _ _ _ us hl => match us, hl with | [_, _], _ => rfl
  have b11 := F11.binds (ps := ["draw", "most"]) fun _ _ _ _ _ _ us hl => match us, hl with | [_, _], _ => rfl
  have b12 := F12.binds (ps := ["draw", "plan", "most"]) fun _ _ _ _ _ _ us hl => match us, hl with | [_, _, _], _ => rfl
  have b13 := F13.binds (ps := ["plan", "wanted"]) fun _ _ _ _ _ _ us hl => match us, hl with | [_, _], _ => rfl
  have b14 := F14.binds (ps := ["plan", "found"]) fun _ _ _ _ _ _ us hl => match us, hl with | [_, _], _ => rfl
  have b15 := F15.binds (ps := ["plan", "wanted"]) fun _ _ _ _ _ _ us hl => match us, hl with | [_, _], _ => rfl
  have b16 := F16.binds (ps := ["plan", "found", "wanted"]) fun _ _ _ _ _ _ us hl => match us, hl with | [_, _, _], _ => rfl
  have b17 := F17.binds (ps := ["plan", "wanted", "more"]) fun _ _ _ _ _ _ us hl => match us, hl with | [_, _, _], _ => rfl
  have b18 := F18.binds (ps := []) fun _ _ _ _ _ _ us hl => match us, hl with | [], _ => rfl
  have b19 := F19.binds (ps := ["text"]) fun _ _ _ _ _ _ us hl => match us, hl with | [_], _ => rfl
  have b20 := F20.binds (ps := ["texts"]) fun _ _ _ _ _ _ us hl => match us, hl with | [_], _ => rfl
  have b21 := F21.binds (ps := ["kinds", "reached", "marks"]) fun _ _ _ _ _ _ us hl => match us, hl with | [_, _, _], _ => rfl
  have b22 := F22.binds (ps := ["thing"]) fun _ _ _ _ _ _ us hl => match us, hl with | [_], _ => rfl
  have b23 := F23.binds (ps := ["thing"]) fun _ _ _ _ _ _ us hl => match us, hl with | [_], _ => rfl
  have b24 := F24.binds (ps := ["reached", "bits"]) fun _ _ _ _ _ _ us hl => match us, hl with | [_, _], _ => rfl
  have b25 := F25.binds (ps := ["layout"]) fun _ _ _ _ _ _ us hl => match us, hl with | [_], _ => rfl
  have b26 := F26.binds (ps := ["reached", "thing"]) fun _ _ _ _ _ _ us hl => match us, hl with | [_, _], _ => rfl
  have b27 := F27.binds (ps := ["layout", "bases"]) fun _ _ _ _ _ _ us hl => match us, hl with | [_, _], _ => rfl
  have b28 := F28.binds (ps := ["reached", "bits"]) fun _ _ _ _ _ _ us hl => match us, hl with | [_, _], _ => rfl
  have b29 := F29.binds (ps := ["layout", "bases"]) fun _ _ _ _ _ _ us hl => match us, hl with | [_, _], _ => rfl
  have m1 := PySem.W.mg_of X G a1
  have m2 := PySem.W.mg_of X G a2
  have m3 := PySem.W.mg_of X G a3
  have m4 := PySem.W.mg_of X G a4
  have m5 := PySem.W.mg_of X G a5
  have m6 := PySem.W.mg_of X G a6
  have m7 := PySem.W.mg_of X G a7
  have m8 := PySem.W.mg_of X G a8
  have m9 := PySem.W.mg_of X G a9
  have m10 := PySem.W.mg_of X G a10
  have m11 := PySem.W.mg_of X G a11
  have m12 := PySem.W.mg_of X G a12
  have m13 := PySem.W.mg_of X G a13
  have m14 := PySem.W.mg_of X G a14
  have m15 := PySem.W.mg_of X G a15
  have m16 := PySem.W.mg_of X G a16
  have m17 := PySem.W.mg_of X G a17
  have m18 := PySem.W.mg_of X G a18
  have m19 := PySem.W.mg_of X G a19
  have m20 := PySem.W.mg_of X G a20
  have m21 := PySem.W.mg_of X G a21
  have m22 := PySem.W.mg_of X G a22
  have m23 := PySem.W.mg_of X G a23
  have m24 := PySem.W.mg_of X G a24
  have m25 := PySem.W.mg_of X G a25
  have m26 := PySem.W.mg_of X G a26
  have m27 := PySem.W.mg_of X G a27
  have m28 := PySem.W.mg_of X G a28
  have m29 := PySem.W.mg_of X G a29
  have FJ := fun_mk (st := sIBad) lJ cJ kJ
  have bJ := FJ.binds (ps := ["self", "place"]) fun _ _ _ _ _ _ us hl => match us, hl with | [_, _], _ => rfl
  refine ⟨PySem.W.fnOf "law" "law" (defArgs sLaw30) (defBody sLaw30) (defScope sLaw30) .none kV0 dc0 pm0 an0 cd0 ct0, fun s u => .of_eq rfl, fun base _ _ hmod => ?_⟩
  have T : TB mg := ⟨PySem.W.mg_none_of X G z_int, PySem.W.mg_none_of X G z_max, PySem.W.mg_none_of X G z_min, PySem.W.mg_none_of X G z_len, PySem.W.mg_none_of X G z_range, PySem.W.mg_none_of X G z_enumerate, PySem.W.mg_none_of X G z_tuple, PySem.W.mg_none_of X G z_list, PySem.W.mg_none_of X G z_repr⟩
  have TPm : TP mg := ⟨PySem.W.mg_none_of X G z_isinstance, PySem.W.mg_none_of X G z_tuple, PySem.W.mg_none_of X G z_len, PySem.W.mg_none_of X G z_str, PySem.W.mg_none_of X G z_int, PySem.W.mg_none_of X G z_set, PySem.W.mg_none_of X G z_enumerate, PySem.W.mg_none_of X G z_list⟩
  have U1 : TQ mg := ⟨⟨_, PySem.W.mg_of X G s0⟩, ⟨_, PySem.W.mg_of X G s1⟩, ⟨_, PySem.W.mg_of X G n7⟩, ⟨_, PySem.W.mg_of X G n5⟩⟩
  have U2 : TN mg := ⟨⟨_, PySem.W.mg_of X G n3⟩, ⟨_, PySem.W.mg_of X G n2⟩, ⟨_, PySem.W.mg_of X G n1⟩, PySem.W.mg_none_of X G z_KeyError⟩
  have UL : LtD K w mg dL es nL := ltD_of (PySem.W.mg_of X G aL) hL hLk hLo
  have U3 : TK5 mg := ⟨⟨_, PySem.W.mg_of X G n0⟩, ⟨_, PySem.W.mg_of X G n4⟩⟩
  have OB : OexG tlVE "ValueError" "ValueError.__new__" "ValueError.__init__" tlVE K CB := OexG.of tl_VE p0
  have MB : ExB K mg CB fJ _ := ⟨OB, p1, iJ, tJ, PySem.W.mg_of X G aCB, FJ, bJ⟩
  have GH := ok_hla (mg := mg) (P := P) (w := w) (base := base) F19
  have GMk : FnOk P w K mg base CX0 6 _ _ ["texts"] (spMks 5) := ok_mks' F20 TPm U1 b20 m20 6
  have GTa := ok_take (P := P) (w := w) (base := base) F21 TPm U2 UL
  have GLk := ok_look (P := P) (w := w) (base := base) F22 TPm U3 MB GTa F21 b21 m21 GH F19 b19 m19 GMk F20 b20 m20
  have GRb := ok_rchL (ok_rch F23 GLk k22 b22 m22)
  have GB := ok_begun (P := P) (w := w) (base := base) F1 T
  have GN := ok_next (P := P) (w := w) (base := base) F2 T
  have GFr := ok_frame (P := P) (w := w) (base := base) F5 T F2 b2 m2 F3 b3 m3 F4 b4 m4
  have GD := ok_marked (P := P) (w := w) (base := base) F9 T F2 b2 m2 F8 b8 m8 F6 b6 m6 F7 b7 m7 F4 b4 m4
  have TBm : TBl mg := ⟨⟨_, PySem.W.mg_of X G n6⟩, PySem.W.mg_none_of X G z_enumerate, PySem.W.mg_none_of X G z_sorted⟩
  have GLb := ok_letB2 (P := P) (w := w) (base := base) F25 TBm
  have GNr := ok_ndr (P := P) (w := w) (base := base) F26 TPm (⟨_, PySem.W.mg_of X G n1⟩)
  have GWb := ok_wib (P := P) (w := w) (base := base) F28 (PySem.W.mg_none_of X G z_enumerate)
  have GNo := ok_nof (P := P) (w := w) (base := base) F24 TPm
  have GFi := ok_fits F27 GRb k23 b23 m23 GNr F26 b26 m26 GLb F25 b25 m25
  have GWi := ok_wid F29 GRb k23 b23 m23 GNr F26 b26 m26 GLb F25 b25 m25 GWb F28 b28 m28 GNo F24 b24 m24
  have GUn := ok_underT (P := P) (w := w) (base := base) F6 T
  have GSi := ok_sign (P := P) (w := w) (base := base) F4 T
  have GSh := ok_shd F10 T GN F2 b2 m2 GSi F4 b4 m4
  have GPl := ok_plan F11 GN F2 b2 m2 GFr F5 b5 m5 GSh F10 b10 m10 GD F9 b9 m9
  have GSo := ok_som F12 T GN F2 b2 m2
  have GGr := ok_grp F13 GUn F6 b6 m6
  have GFo := ok_frc F14 GUn F6 b6 m6
  have GWe := ok_wde F15 T GFo F14 b14 m14
  have GIw := ok_iswd (mg := mg) (P := P) (w := w) (base := base) F16
  have GRi := ok_rgt30 F17 T (PySem.W.mg_none_of X G z_isinstance) hmod GWe F15 b15 m15 GIw F16 b16 m16 GGr F13 b13 m13 GWi k29 b29 m29 GFi k27 b27 m27
  have GBh := ok_hand30 F18 T hmod GWi k29 b29 m29
  exact ok_law30 F0 T GB F1 b1 m1 GPl F11 b11 m11 GSo F12 b12 m12 GRi F17 b17 m17 GBh F18 b18 m18
end Cp

set_option Elab.async false
set_option linter.all false
open PySem PySem.W PyProof.Rows
set_option maxRecDepth 100000 in
set_option maxHeartbeats 0 in
theorem PySem.Challenge.cw_carriedparts_k30_widened_holds : PySem.Challenge.rw_carriedparts_k30_widened.Holds := by
  w_on; o_law; k_head; (case hw => w_witness2)
  k_fill
  refine Cp.bwalk_K (l := PySem.Challenge.rw_carriedparts_k30_widened) (n := 63) (k := 11) (x := "script") (CX := L2.CX0) (sp := Cp.spLaw) (by decide +kernel) rfl (by decide) rfl ⟨rfl, by decide, by decide⟩ (fun w h Y => PySem.W.kIn_of Y) ?F ?S (fun _ _ _ _ z => z)
  case S =>
    intro K H a ns hl hS
    exact ⟨a, ns, rfl, hS, hl, fun _ => rfl⟩
  case F =>
    intro w mg fa h KX G hmg
    refine' Cp.all_mk KX G hmg ?aCB ?a0 ?l0 ?c0 ?k0 ?a1 ?l1 ?c1 ?k1 ?a2 ?l2 ?c2 ?k2 ?a3 ?l3 ?c3 ?k3 ?a4 ?l4 ?c4 ?k4 ?a5 ?l5 ?c5 ?k5 ?a6 ?l6 ?c6 ?k6 ?a7 ?l7 ?c7 ?k7 ?a8 ?l8 ?c8 ?k8 ?a9 ?l9 ?c9 ?k9 ?a10 ?l10 ?c10 ?k10 ?a11 ?l11 ?c11 ?k11 ?a12 ?l12 ?c12 ?k12 ?a13 ?l13 ?c13 ?k13 ?a14 ?l14 ?c14 ?k14 ?a15 ?l15 ?c15 ?k15 ?a16 ?l16 ?c16 ?k16 ?a17 ?l17 ?c17 ?k17 ?a18 ?l18 ?c18 ?k18 ?a19 ?l19 ?c19 ?k19 ?a20 ?l20 ?c20 ?k20 ?a21 ?l21 ?c21 ?k21 ?a22 ?l22 ?c22 ?k22 ?a23 ?l23 ?c23 ?k23 ?a24 ?l24 ?c24 ?k24 ?a25 ?l25 ?c25 ?k25 ?a26 ?l26 ?c26 ?k26 ?a27 ?l27 ?c27 ?k27 ?a28 ?l28 ?c28 ?k28 ?a29 ?l29 ?c29 ?k29 ?iJ ?tJ ?lJ ?cJ ?kJ ?z_int ?z_max ?z_min ?z_len ?z_range ?z_enumerate ?z_tuple ?z_list ?z_repr ?z_isinstance ?z_str ?z_set ?z_KeyError ?z_sorted ?n0 ?n1 ?n2 ?n3 ?n4 ?n5 ?n6 ?n7 ?s0 ?s1 ?hv ?aL ?hL ?hLk ?hLo ?fb
    (case aCB => k_is)
    (case a0 => k_is)
    (case l0 => k_is)
    (case c0 => k_is)
    (case k0 => k_is)
    (case a1 => k_is)
    (case l1 => k_is)
    (case c1 => k_is)
    (case k1 => k_is)
    (case a2 => k_is)
    (case l2 => k_is)
    (case c2 => k_is)
    (case k2 => k_is)
    (case a3 => k_is)
    (case l3 => k_is)
    (case c3 => k_is)
    (case k3 => k_is)
    (case a4 => k_is)
    (case l4 => k_is)
    (case c4 => k_is)
    (case k4 => k_is)
    (case a5 => k_is)
    (case l5 => k_is)
    (case c5 => k_is)
    (case k5 => k_is)
    (case a6 => k_is)
    (case l6 => k_is)
    (case c6 => k_is)
    (case k6 => k_is)
    (case a7 => k_is)
    (case l7 => k_is)
    (case c7 => k_is)
    (case k7 => k_is)
    (case a8 => k_is)
    (case l8 => k_is)
    (case c8 => k_is)
    (case k8 => k_is)
    (case a9 => k_is)
    (case l9 => k_is)
    (case c9 => k_is)
    (case k9 => k_is)
    (case a10 => k_is)
    (case l10 => k_is)
    (case c10 => k_is)
    (case k10 => k_is)
    (case a11 => k_is)
    (case l11 => k_is)
    (case c11 => k_is)
    (case k11 => k_is)
    (case a12 => k_is)
    (case l12 => k_is)
    (case c12 => k_is)
    (case k12 => k_is)
    (case a13 => k_is)
    (case l13 => k_is)
    (case c13 => k_is)
    (case k13 => k_is)
    (case a14 => k_is)
    (case l14 => k_is)
    (case c14 => k_is)
    (case k14 => k_is)
    (case a15 => k_is)
    (case l15 => k_is)
    (case c15 => k_is)
    (case k15 => k_is)
    (case a16 => k_is)
    (case l16 => k_is)
    (case c16 => k_is)
    (case k16 => k_is)
    (case a17 => k_is)
    (case l17 => k_is)
    (case c17 => k_is)
    (case k17 => k_is)
    (case a18 => k_is)
    (case l18 => k_is)
    (case c18 => k_is)
    (case k18 => k_is)
    (case a19 => k_is)
    (case l19 => k_is)
    (case c19 => k_is)
    (case k19 => k_is)
    (case a20 => k_is)
    (case l20 => k_is)
    (case c20 => k_is)
    (case k20 => k_is)
    (case a21 => k_is)
    (case l21 => k_is)
    (case c21 => k_is)
    (case k21 => k_is)
    (case a22 => k_is)
    (case l22 => k_is)
    (case c22 => k_is)
    (case k22 => k_is)
    (case a23 => k_is)
    (case l23 => k_is)
    (case c23 => k_is)
    (case k23 => k_is)
    (case a24 => k_is)
    (case l24 => k_is)
    (case c24 => k_is)
    (case k24 => k_is)
    (case a25 => k_is)
    (case l25 => k_is)
    (case c25 => k_is)
    (case k25 => k_is)
    (case a26 => k_is)
    (case l26 => k_is)
    (case c26 => k_is)
    (case k26 => k_is)
    (case a27 => k_is)
    (case l27 => k_is)
    (case c27 => k_is)
    (case k27 => k_is)
    (case a28 => k_is)
    (case l28 => k_is)
    (case c28 => k_is)
    (case k28 => k_is)
    (case a29 => k_is)
    (case l29 => k_is)
    (case c29 => k_is)
    (case k29 => k_is)
    (case iJ => k_is)
    (case tJ => k_is)
    (case lJ => k_is)
    (case cJ => k_is)
    (case kJ => k_is)
    (case z_int => k_is)
    (case z_max => k_is)
    (case z_min => k_is)
    (case z_len => k_is)
    (case z_range => k_is)
    (case z_enumerate => k_is)
    (case z_tuple => k_is)
    (case z_list => k_is)
    (case z_repr => k_is)
    (case z_isinstance => k_is)
    (case z_str => k_is)
    (case z_set => k_is)
    (case z_KeyError => k_is)
    (case z_sorted => k_is)
    (case n0 => k_is)
    (case n1 => k_is)
    (case n2 => k_is)
    (case n3 => k_is)
    (case n4 => k_is)
    (case n5 => k_is)
    (case n6 => k_is)
    (case n7 => k_is)
    (case s0 => k_is)
    (case s1 => k_is)
    (case aL => k_is)
    (case hL => k_is)
    (case hv => decide +kernel)
    (case hLk => rfl)
    (case hLo => rfl)
    (case fb => kernel_rfl)
