import PyProof.Rows.All
import Wide.All
import OpenK.AllK
import Wide.FinOn
import HandS.ForMost
import HandS.Exc
import HandS.ExcOwn
import HandS.ExcValue
import HandS.ExcInit
import HandS.ExcIs
import HandS.IsInst
import HandS.StrMore
import HandS.Wide
import HandS.Flow
import HandS.Deep
import HandS.Walk
import KE.KExcIs
import PySem.Challenge.RW_caughtnames_k01_kinds_of_words
set_option Elab.async false
set_option linter.all false
set_option maxRecDepth 100000
/-! An exception that is made is held as a value (by the library's rule of its making), and asked by isinstance. -/
namespace CaV
open PySem PySem.Spec L2
/-- at a: an exception object of the class cls, its own dict at d -/
def exq (cls : Value) (d : Option Addr) (a : Addr) : HO := .ext fun h => ∃ (oe : Obj) (vs : Array Value), h.get? a = some oe ∧ oe.cls = cls ∧ oe.dict = d ∧ oe.data = .fields vs
theorem exq_new {P : Program} {w : World} {H : Hp} {h : Heap} {a : Addr} {cls : Value} {d : Option Addr} {oe : Obj} {vs : Array Value} (e : h.get? a = some oe) (z : Zc cls d oe) (hd : oe.data = .fields vs) : ObjOk P w H h a (exq cls d a) :=
  ⟨⟨oe, vs, e, z.1, z.2, hd⟩, ⟨oe, e⟩, fun _ _ ⟨o2, v2, q1, q2⟩ kept => ⟨o2, v2, kept o2 q1, q2⟩⟩
section
variable {X : Cx}
/-- what makes an exception for a raise makes it as a value, too -/
theorem pe_of_mk {e : Expr} {t : St → Hp → XK → Prop} (mk : PMk X e t) : PE X e (fun σ H Q => t σ H fun cls d H1 => ∀ a, H1 a = none → Q (.ref a) (upd H1 a (exq cls d a))) := by
  constructor
  intro pins s σ H Q inv want
  refine thn (mk pins s σ H _ inv want) fun u s2 made => ?_
  obtain ⟨a, oe, vs, sI, H1, cls, d, rfl, J, old, fr, at_, zc, dat, _, na, os, bare, _, told⟩ := made
  refine ⟨.ref a, upd H1 a (exq cls d a), ?_, rfl, told a na⟩
  exact J.call' (ch := []) os (Un.laidN old fr na) (J.hok.laidN old na (exq_new at_ zc dat)) bare fun b hb => absurd hb List.not_mem_nil
/-- an exception of the class C stands at a, with its dict -/
def ExAt (H : Hp) (C a : Addr) : Prop := ∃ (d : Addr) (fs : List (Str × V)), H a = some (exq (.ref C) (some d) a) ∧ H d = some (.xd fs)
/-- a value's type, exceptions too -/
def TyE (K : PySem.W.Frag) (H : Hp) (x : V) (t : Value) : Prop := TyX K H x t ∨ ∃ C a, x = .ref a ∧ t = .ref C ∧ ExcC K C ∧ ExAt H C a
def rIsV (K : PySem.W.Frag) : List V → Hp → VK → Prop := fun xs H Q => ∃ (x c : V) (t u : Value) (b : Bool), xs = [x, c] ∧ ClsV c u ∧ TyE K H x t ∧ PySem.W.kitOne K t u = some b ∧ Q (.bl b) H
theorem call_isV : CallR X (.builtin "isinstance") (rIsV X.K) := by
  intro pins s σ H vs ws Q inv rel told
  obtain ⟨x, c, t, u, b, rfl, cv, ty, ans, q⟩ := told
  rcases ty with ty | ⟨C, a, rfl, rfl, TC, d, fs, ha, hd⟩
  · exact call_isi pins s σ H [x, c] ws Q inv rel ⟨x, c, t, u, b, rfl, cv, ty, ans, q⟩
  · obtain ⟨w1, w2, rfl, rx, rc⟩ := vals2 rel
    obtain rfl := cv.eq rc
    cases rx
    have tr : ∃ (oe : Obj) (vs : Array Value), s.heap.get? a = some oe ∧ oe.cls = .ref C ∧ oe.dict = some d ∧ oe.data = .fields vs := (show ObjOk X.prog X.w H s.heap a (exq (.ref C) (some d) a) from inv.hok a _ ha).1
    obtain ⟨⟨oc, od, dat, sl⟩, vs, ho, rfl, rfl, rfl⟩ := tr
    obtain ⟨mA, ⟨oD, _, _, hoD, _⟩, _⟩ := (show ObjOk X.prog X.w H s.heap d (.xd fs) from inv.hok d _ hd)
    have cls : (PySem.W.clsIn X.K C).isSome = true := by
      obtain ⟨cd, hc, _⟩ := PySem.W.any_some TC.hd
      rw [hc]
      rfl
    exact PySem.W.kia_one (PySem.W.kitx_exc (od := some oD) cls TC.hg TC.hk TC.hs TC.ha TC.hn TC.ht TC.hm) inv.kIn ⟨ho, rfl, rfl, hoD⟩ ans (fun z => nomatch z) fun tk => ⟨.bl b, H, inv.kept (t' := tk) fun _ _ z => z, rfl, q⟩
end
/-- isinstance of such an exception by a built-in class -/
theorem kit_not {K : PySem.W.Frag} {C : Addr} {T : String} {b : Bool} (hm : PySem.W.kitMeta T = true) (h : PySem.W.subIn K (.ref C) (.type T) = some b) : PySem.W.kitOne K (.ref C) (.type T) = some b := by
  have e1 : ((Value.ref C : Value) == Value.type T) = false := rfl
  have e2 : PySem.W.kitCls K (.ref C) (.type T) = PySem.W.subIn K (.ref C) (.type T) := by
    show (if PySem.W.kitMeta T = true then PySem.W.subIn K (.ref C) (.type T) else none) = PySem.W.subIn K (.ref C) (.type T)
    exact if_pos hm
  unfold PySem.W.kitOne
  rw [e1, e2]
  exact h
theorem kit_not_str {K : PySem.W.Frag} {C : Addr} (h : PySem.W.subIn K (.ref C) (.type "str") = some false) : PySem.W.kitOne K (.ref C) (.type "str") = some false := kit_not (by decide +kernel) h
end CaV
set_option Elab.async false
set_option linter.all false
set_option maxRecDepth 100000
/-! A purse of draws: a list of three numbers that a def changes; nothing else changes, new things may come. -/
namespace CaV
open PySem PySem.Spec PyProof.Rows L2
/-- the purse at b: what is left of a great number, a rest, a count of at most n -/
def Bx (H : Hp) (b : Addr) (n : Nat) : Prop := ∃ m r c : Int, H b = some (.lst [.int m, .int r, .int c]) ∧ 0 ≤ m ∧ 0 ≤ r ∧ r < 2147483629 ∧ 0 ≤ c ∧ c ≤ n
/-- all that stood in H stands in H', but what is at b -/
def Kp (b : Addr) (H H' : Hp) : Prop := ∀ a o, H a = some o → a ≠ b → H' a = some o
theorem Kp.refl (b : Addr) (H : Hp) : Kp b H H := fun _ _ h _ => h
theorem Kp.trans {b : Addr} {H H1 H2 : Hp} (x : Kp b H H1) (y : Kp b H1 H2) : Kp b H H2 := fun a o h n => y a o (x a o h n) n
theorem Kp.new {b p : Addr} {H : Hp} {o : HO} (h : H p = none) : Kp b H (upd H p o) := fun a u e _ => by
  rw [upd_ne (ne_of_none e h)]
  exact e
theorem Kp.at {b : Addr} {H : Hp} {o : HO} : Kp b H (upd H b o) := fun a u e n => by
  rw [upd_ne n]
  exact e
theorem Kp.of_same {b : Addr} {H H' : Hp} (s : Same H H') : Kp b H H' := fun a o e _ => s a o e
theorem Bx.mono {H : Hp} {b : Addr} {n k : Nat} (h : Bx H b n) (e : n ≤ k) : Bx H b k := by
  obtain ⟨m, r, c, h1, h2, h3, h4, h5, h6⟩ := h
  exact ⟨m, r, c, h1, h2, h3, h4, h5, by omega⟩
theorem Bx.new {H : Hp} {b p : Addr} {n : Nat} {o : HO} (h : Bx H b n) (hp : H p = none) : Bx (upd H p o) b n := by
  obtain ⟨m, r, c, h1, h⟩ := h
  exact ⟨m, r, c, by rw [upd_ne (ne_of_none h1 hp)]; exact h1, h⟩
theorem Bx.there {H : Hp} {b : Addr} {n : Nat} (h : Bx H b n) : ∃ o, H b = some o := by
  obtain ⟨m, r, c, h1, _⟩ := h
  exact ⟨_, h1⟩
theorem Bx.ne {H : Hp} {b p : Addr} {n : Nat} (h : Bx H b n) (hp : H p = none) : p ≠ b := fun z => by
  obtain ⟨o, e⟩ := h.there
  rw [z, e] at hp
  cases hp
/-- what was free later was free before -/
theorem Kp.free {b p : Addr} {H H' : Hp} {n : Nat} (k : Kp b H H') (x : Bx H' b n) (h : H' p = none) : H p = none := by
  cases e : H p with
  | none => rfl
  | some o =>
    rw [k p o e (x.ne h)] at h
    cases h
theorem Kp.seqL {b a : Addr} {K : PySem.W.Frag} {H H' : Hp} {xs : List V} (k : Kp b H H') (n : a ≠ b) (h : SqL K H a xs) : SqL K H' a xs := by
  rcases h with (h | ⟨o, h⟩) | h
  · exact .inl (.inl (k _ _ h n))
  · exact .inl (.inr ⟨o, k _ _ h n⟩)
  · exact .inr h
/-- a change that leaves all of H but the purse, which is new since H0: H0 stands as it was -/
theorem Kp.same {b : Addr} {H0 H H' : Hp} (s : Same H0 H) (k : Kp b H H') (n : H0 b = none) : Same H0 H' := fun a o e => k a o (s a o e) (ne_of_none e n)
theorem emod_bd {x k : Int} (h : 0 < k) : 0 ≤ x % k ∧ x % k < k := ⟨Int.emod_nonneg x (by omega), Int.emod_lt_of_pos x h⟩
theorem pow_bd {x : Int} (h0 : 0 ≤ x) (h : x < 1000000000000000) : 0 ≤ (5 : Int) ∧ (5 : Int) ≤ 1000000 ∧ x.natAbs < 2 ^ 64 := ⟨by decide, by decide, by omega⟩
theorem pow_bd3 {x : Int} (h0 : 0 ≤ x) (h : x < 1000000000000000) : 0 ≤ (3 : Int) ∧ (3 : Int) ≤ 1000000 ∧ x.natAbs < 2 ^ 64 := ⟨by decide, by decide, by omega⟩
/-- the promise of a draw -/
def spTake : Sp := fun vs H Q _ => ∃ (b : Addr) (many : Int) (n : Nat), vs = [.ref b, .int many] ∧ Bx H b n ∧ n < 1000000 ∧ 0 < many ∧ many < 1073741824 ∧
  ∀ (d : Int) (H' : Hp), 0 ≤ d → d < many → Bx H' b (n + 1) → Kp b H H' → Q (.int d) H'
/-- the promise of a new purse -/
def spBox : Sp := fun vs H Q _ => ∃ (x : Int), vs = [.int x] ∧ ∀ (b : Addr) (H' : Hp), H b = none → Same H H' → Bx H' b 0 → Q (.ref b) H'
/-- the promise of a cell -/
def spCell (K : PySem.W.Frag) : Sp := fun vs H Q _ => ∃ (a : Addr) (ns : List Int) (j : Int), vs = [.ref a, .int j] ∧ SqL K H a (ns.map V.int) ∧ 0 ≤ j ∧ ∀ x : Int, Q (.int x) H
end CaV
set_option Elab.async false
set_option linter.all false
set_option maxRecDepth 100000
namespace K01
open PySem PySem.Spec PyProof.Rows L2 CaV
def topS (i : Nat) : Stmt := PySem.Challenge.pw_caughtnames_k01_kinds_of_words.main.body.getD i (.Pass ⟨0, 0, 0, 0⟩)
abbrev s_l_cell : Stmt := topS 11
abbrev N_l_cell : List Str := ["_law_script", "_law_k"]
theorem sc_l_cell : FnScope N_l_cell ["_law_script", "_law_k"] (defScope s_l_cell) := ⟨rfl, rfl, rfl, by decide +kernel, rfl, by decide +kernel, by decide +kernel⟩
abbrev s_l_box : Stmt := topS 12
abbrev N_l_box : List Str := ["_law_cell_here"]
theorem sc_l_box : FnScope N_l_box ["_law_cell_here"] (defScope s_l_box) := ⟨rfl, rfl, rfl, by decide +kernel, rfl, by decide +kernel, by decide +kernel⟩
abbrev s_l_take : Stmt := topS 13
abbrev N_l_take : List Str := ["_law_box_here", "_law_many", "_law_digit", "_law_number_here"]
theorem sc_l_take : FnScope N_l_take ["_law_box_here", "_law_many"] (defScope s_l_take) := ⟨rfl, rfl, rfl, by decide +kernel, rfl, by decide +kernel, by decide +kernel⟩
/-- what the top holds by name -/
structure TB (mg : Str → Option Value) : Prop where
  n_len : mg "len" = none
  n_max : mg "max" = none
section
variable {P : Program} {w : World} {K : PySem.W.Frag} {mg : Str → Option Value} {base : Heap}
theorem ok_cell {f : Addr} {fd : FuncData} {k : Nat} (F : Fun K "_law_cell" "_law_cell" s_l_cell f fd) (T : TB mg) : FnOk P w K mg base CX0 (k + 1) f fd ["_law_script", "_law_k"] (spCell K) := by
  refine F.ok sc_l_cell (fun vs H Q E h => ?_) (fun cdv A outer s H vs Q E hr h => ?_)
  · obtain ⟨a, ns, j, rfl, _⟩ := h
    rfl
  · obtain ⟨a, ns, j, rfl, hS, hj, q⟩ := h
    refine ⟨_, (pss_cons (ps_if (pt_cmpR op_lt (pv 1) (pe_callB call_len_seq (by rfl) T.n_len PySem.boot_len (pa_cons (pv 0) pa_nil)) (nomark _))
      (pss_one (ps_ret (pe_ix ix_list (pv 0) (pv 1) (fun _ _ => rfl))))
      pss_nil)
    (pss_one (ps_ret (pe_op op_add (pe_op op_mul pe_int (pv 1)) pe_int)))), ?_⟩
    refine ⟨_, rfl, _, rfl, a, _, rfl, .inl hS, _, _, rfl, rfl, _, rfl, ite2 (fun e => ?_) (fun e => ?_)⟩
    · have hl : j.toNat < ns.length := by
        have z := of_decide_eq_true e
        rw [List.length_map] at z
        omega
      exact ⟨_, rfl, _, rfl, a, _, _, .int ns[j.toNat], rfl, rfl, hS, (by have e := atI_nat (xs := ns.map V.int) (j := j.toNat) (v := .int ns[j.toNat]) (by rw [List.getElem?_map, List.getElem?_eq_getElem hl]; rfl); rwa [Int.toNat_of_nonneg hj] at e), q _⟩
    · exact ⟨_, rfl, _, _, rfl, rfl, .inl ⟨by decide, by decide⟩, _, _, rfl, rfl, q _⟩
theorem ok_box {f : Addr} {fd : FuncData} {k : Nat} (F : Fun K "_law_box" "_law_box" s_l_box f fd) (T : TB mg) : FnOk P w K mg base CX0 (k + 1) f fd ["_law_cell_here"] spBox := by
  refine F.ok sc_l_box (fun vs H Q E h => ?_) (fun cdv A outer s H vs Q E hr h => ?_)
  · obtain ⟨x, rfl, _⟩ := h
    rfl
  · obtain ⟨x, rfl, q⟩ := h
    refine ⟨_, (pss_one (ps_ret (pe_lst (pa_cons (pe_callB (call_max2 rfl) (by rfl) T.n_max (by decide +kernel) (pa_cons pe_int (pa_cons (pe_op op_sub (pv 0) (pe_op op_pow pe_int pe_int)) pa_nil))) (pa_cons (pe_op op_mod (pv 0) pe_int) (pa_cons pe_int pa_nil)))))), ?_⟩
    refine ⟨_, rfl, _, _, rfl, rfl, ⟨by decide, by decide, by decide⟩, _, _, rfl, rfl, _, _, rfl, _, rfl, _, _, rfl, rfl, (by decide : (0 : Int) < 2147483629), (by show 3 ≤ sizeLine; decide), fun l hl => ?_⟩
    refine q l _ hl (fun c o e => by rw [upd_ne (ne_of_none e hl)]; exact e) ⟨_, _, _, upd_same, ?_, (emod_bd (by decide)).1, (emod_bd (by decide)).2, by decide, by decide⟩
    split <;> omega
theorem ok_take {f : Addr} {fd : FuncData} {k : Nat} (F : Fun K "_law_take" "_law_take" s_l_take f fd) : FnOk P w K mg base CX0 (k + 1) f fd ["_law_box_here", "_law_many"] spTake := by
  refine F.ok sc_l_take (fun vs H Q E h => ?_) (fun cdv A outer s H vs Q E hr h => ?_)
  · obtain ⟨b, many, n, rfl, _⟩ := h
    rfl
  · obtain ⟨b, many, n, rfl, ⟨m, r, c, hb, hm, hr0, hr1, hc0, hc1⟩, hn, hm0, hm1, q⟩ := h
    refine ⟨_, (pss_cons (ps_if (pt_cmpR op_gt (pe_ix ix_list (pv 0) pe_int (fun _ _ => rfl)) pe_int (nomark _))
      (pss_cons (ps_set (i := 2) sc_l_take.nd rfl (.inl rfl) (pe_op op_mod (pe_ix ix_list (pv 0) pe_int (fun _ _ => rfl)) (pv 1)))
      (pss_cons (ps_asg (pe_op op_fdiv (pe_ix ix_list (pv 0) pe_int (fun _ _ => rfl)) (pv 1)) (pg_sub (pv 0) pe_int set_list))
      (pss_one (ps_ret (pv 2)))))
      pss_nil)
    (pss_cons (ps_asg (pe_op op_add (pe_ix ix_list (pv 0) pe_int (fun _ _ => rfl)) pe_int) (pg_sub (pv 0) pe_int set_list))
    (pss_cons (ps_set (i := 3) sc_l_take.nd rfl (.inl rfl) (pe_op op_mod (pe_op op_pow (pe_op op_add (pe_op op_add (pe_ix ix_list (pv 0) pe_int (fun _ _ => rfl)) (pe_op op_mul pe_int (pe_ix ix_list (pv 0) pe_int (fun _ _ => rfl)))) pe_int) pe_int) pe_int))
    (pss_cons (ps_set (i := 3) sc_l_take.nd rfl (.inl rfl) (pe_op op_mod (pe_op op_pow (pe_op op_add (pv 3) (pe_op op_mul pe_int (pe_ix ix_list (pv 0) pe_int (fun _ _ => rfl)))) pe_int) pe_int))
    (pss_one (ps_ret (pe_op op_mod (pe_op op_fdiv (pv 3) pe_int) (pv 1)))))))), ?_⟩
    refine ⟨_, rfl, b, _, _, .int m, rfl, rfl, SqL.of hb, rfl, _, _, rfl, rfl, _, rfl, ite2 (fun e => ?_) (fun e => ?_)⟩
    · refine ⟨_, rfl, b, _, _, .int m, rfl, rfl, SqL.of hb, rfl, _, rfl, _, _, rfl, rfl, hm0, ?_⟩
      refine ⟨_, rfl, b, _, _, .int m, rfl, rfl, SqL.of hb, rfl, _, rfl, _, _, rfl, rfl, ⟨hm0, hm1⟩, _, rfl, b, _, _, 0, rfl, rfl, hb, rfl, ?_⟩
      refine ⟨_, rfl, q _ _ (emod_bd hm0).1 (emod_bd hm0).2 ⟨_, _, _, upd_same, Int.ediv_nonneg hm (by omega), hr0, hr1, hc0, by omega⟩ Kp.at⟩
    · refine ⟨_, rfl, b, _, _, .int c, rfl, rfl, SqL.of hb, rfl, _, _, rfl, rfl, _, rfl, b, _, _, 2, rfl, rfl, hb, rfl, ?_⟩
      have hb2 : (upd H b (.lst [.int m, .int r, .int (c + 1)])) b = some (.lst [.int m, .int r, .int (c + 1)]) := upd_same
      refine ⟨_, rfl, b, _, _, .int r, rfl, rfl, SqL.of hb2, rfl, _, rfl, b, _, _, .int (c + 1), rfl, rfl, SqL.of hb2, rfl, _, _, rfl, rfl, .inl ⟨by decide, by decide⟩, _, _, rfl, rfl, _, _, rfl, rfl, _, _, rfl, rfl, pow_bd (by omega) (by omega), _, _, rfl, rfl, (by decide : (0 : Int) < 2147483647), ?_⟩
      have h1 := emod_bd (x := (r + 7919 * (c + 1) + 43) ^ (5 : Int).toNat) (k := 2147483647) (by decide)
      generalize (r + 7919 * (c + 1) + 43) ^ (5 : Int).toNat % 2147483647 = x1 at h1
      refine ⟨_, rfl, _, rfl, b, _, _, .int (c + 1), rfl, rfl, SqL.of hb2, rfl, _, _, rfl, rfl, .inl ⟨by decide, by decide⟩, _, _, rfl, rfl, _, _, rfl, rfl, pow_bd3 (by omega) (by omega), _, _, rfl, rfl, (by decide : (0 : Int) < 2147483587), ?_⟩
      refine ⟨_, rfl, _, _, rfl, rfl, ⟨by decide, by decide⟩, _, rfl, _, _, rfl, rfl, hm0, q _ _ (emod_bd hm0).1 (emod_bd hm0).2 ⟨m, r, c + 1, hb2, hm, hr0, hr1, by omega, by omega⟩ Kp.at⟩
end
end K01
set_option Elab.async false
set_option linter.all false
set_option maxRecDepth 100000
namespace K01
open PySem PySem.Spec PyProof.Rows L2 CaV
theorem atI_in {α : Type} {xs : List α} {i : Int} (h0 : 0 ≤ i) (h1 : i < xs.length) : ∃ v, v ∈ xs ∧ atI xs i = some v := by
  have hj : i.toNat < xs.length := by omega
  refine ⟨xs[i.toNat], List.getElem_mem hj, ?_⟩
  have e := atI_nat (xs := xs) (j := i.toNat) (v := xs[i.toNat]) (List.getElem?_eq_getElem hj)
  rwa [Int.toNat_of_nonneg h0] at e
theorem cut_len (z : Str) (lo hi : Option Int) : (cutS z lo hi).length ≤ z.length := by
  unfold cutS
  show ((z.cps.toList.drop _).take _).toArray.size ≤ z.cps.size
  rw [List.size_toArray, List.length_take, List.length_drop, Array.length_toList]
  omega
theorem app_len (a b : Str) : (a ++ b).length = a.length + b.length := Str.length_append a b
abbrev s_l_number : Stmt := topS 14
abbrev N_l_number : List Str := ["_law_box_here", "_law_far", "_law_some"]
theorem sc_l_number : FnScope N_l_number ["_law_box_here"] (defScope s_l_number) := ⟨rfl, rfl, rfl, by decide +kernel, rfl, by decide +kernel, by decide +kernel⟩
abbrev s_l_string : Stmt := topS 15
abbrev N_l_string : List Str := ["_law_box_here", "_law_letters", "_law_some", "_law_text", "_law_at", "_law_sign", "_law_k"]
theorem sc_l_string : FnScope N_l_string ["_law_box_here"] (defScope s_l_string) := ⟨rfl, rfl, rfl, by decide +kernel, rfl, by decide +kernel, by decide +kernel⟩
def spNumber : Sp := fun vs H Q _ => ∃ (b : Addr) (n : Nat), vs = [.ref b] ∧ Bx H b n ∧ n < 900000 ∧
  ∀ (x : Int) (H' : Hp), x.natAbs < 10000000000000000000000000000000 → Bx H' b (n + 8) → Kp b H H' → Q (.int x) H'
section
variable {P : Program} {w : World} {K : PySem.W.Frag} {mg : Str → Option Value} {base : Heap}
theorem ok_number {f f_l_take : Addr} {fd fd_l_take : FuncData} {k : Nat} (F : Fun K "_law_number" "_law_number" s_l_number f fd) (F_l_take : Fun K "_law_take" "_law_take" s_l_take f_l_take fd_l_take) (b_l_take : Binds K fd_l_take ["_law_box_here", "_law_many"] []) (gl_l_take : mg "_law_take" = some (.ref f_l_take)) :
    FnOk P w K mg base CX0 (k + 2) f fd ["_law_box_here"] spNumber := by
  have G_l_take : FnOk P w K mg base CX0 1 f_l_take fd_l_take ["_law_box_here", "_law_many"] spTake := ok_take F_l_take
  refine F.ok sc_l_number (fun vs H Q E h => ?_) (fun cdv A outer s H vs Q E hr h => ?_)
  · obtain ⟨b, n, rfl, _⟩ := h
    rfl
  · obtain ⟨b, n, rfl, bx, hn, q⟩ := h
    refine ⟨_, (pss_cons (ps_set (i := 1) sc_l_number.nd rfl (.inl rfl) (pe_op op_add (pe_op op_add (pe_op op_mul (pe_call G_l_take (hr.mono (by omega)) (by rfl) gl_l_take F_l_take.kp b_l_take .nil pass0 (pa_cons (pv 0) (pa_cons (pe_op op_pow pe_int pe_int) pa_nil))) (pe_op op_pow pe_int pe_int)) (pe_op op_mul (pe_call G_l_take (hr.mono (by omega)) (by rfl) gl_l_take F_l_take.kp b_l_take .nil pass0 (pa_cons (pv 0) (pa_cons (pe_op op_pow pe_int pe_int) pa_nil))) (pe_op op_pow pe_int pe_int))) (pe_call G_l_take (hr.mono (by omega)) (by rfl) gl_l_take F_l_take.kp b_l_take .nil pass0 (pa_cons (pv 0) (pa_cons (pe_op op_pow pe_int pe_int) pa_nil)))))
    (pss_cons (ps_set (i := 2) sc_l_number.nd rfl (.inl rfl) (pe_lst (pa_cons (pe_call G_l_take (hr.mono (by omega)) (by rfl) gl_l_take F_l_take.kp b_l_take .nil pass0 (pa_cons (pv 0) (pa_cons pe_int pa_nil))) (pa_cons (pe_call G_l_take (hr.mono (by omega)) (by rfl) gl_l_take F_l_take.kp b_l_take .nil pass0 (pa_cons (pv 0) (pa_cons (pe_op op_pow pe_int pe_int) pa_nil))) (pa_cons (pv 1) (pa_cons (pe_op op_sub (pe_op op_sub (pe_op op_pow pe_int pe_int) pe_int) (pe_call G_l_take (hr.mono (by omega)) (by rfl) gl_l_take F_l_take.kp b_l_take .nil pass0 (pa_cons (pv 0) (pa_cons pe_int pa_nil)))) pa_nil))))))
    (pss_one (ps_ret (pe_op op_mul (pe_ix ix_list (pv 2) (pe_call G_l_take (hr.mono (by omega)) (by rfl) gl_l_take F_l_take.kp b_l_take .nil pass0 (pa_cons (pv 0) (pa_cons pe_int pa_nil))) (fun _ _ => rfl)) (pe_ix ix_list (pe_lst (pa_cons pe_int (pa_cons (pe_un un_neg pe_int) pa_nil))) (pe_call G_l_take (hr.mono (by omega)) (by rfl) gl_l_take F_l_take.kp b_l_take .nil pass0 (pa_cons (pv 0) (pa_cons pe_int pa_nil))) (fun _ _ => rfl))))))), ?_⟩
    refine ⟨_, rfl, _, _, rfl, rfl, ⟨by decide, by decide, by decide⟩, b, _, n, rfl, bx, by omega, by decide, by decide, fun d1 H1 l1 u1 x1 k1 => ?_⟩
    have u1 : d1 < 100000000 := u1
    refine ⟨_, _, rfl, rfl, ⟨by decide, by decide, by decide⟩, _, _, rfl, rfl, .inl ⟨by omega, by omega⟩, _, rfl, _, _, rfl, rfl, ⟨by decide, by decide, by decide⟩, b, _, n + 1, rfl, x1, by omega, by decide, by decide, fun d2 H2 l2 u2 x2 k2 => ?_⟩
    have u2 : d2 < 100000000 := u2
    refine ⟨_, _, rfl, rfl, ⟨by decide, by decide, by decide⟩, _, _, rfl, rfl, .inl ⟨by omega, by omega⟩, _, _, rfl, rfl, _, rfl, _, _, rfl, rfl, ⟨by decide, by decide, by decide⟩, b, _, n + 2, rfl, x2, by omega, by decide, by decide, fun d3 H3 l3 u3 x3 k3 => ?_⟩
    have u3 : d3 < 100000000 := u3
    refine ⟨_, _, rfl, rfl, ?_⟩
    have hfar : (d1 * 10 ^ (22 : Int).toNat + d2 * 10 ^ (11 : Int).toNat + d3).natAbs < 10000000000000000000000000000000 := by
      have e1 : (10 : Int) ^ (22 : Int).toNat = 10000000000000000000000 := by decide +kernel
      have e2 : (10 : Int) ^ (11 : Int).toNat = 100000000000 := by decide +kernel
      rw [e1, e2]
      omega
    -- the list
    refine ⟨_, rfl, b, _, n + 3, rfl, x3, by omega, by decide, by decide, fun d4 H4 l4 u4 x4 k4 => ?_⟩
    refine ⟨_, rfl, _, _, rfl, rfl, ⟨by decide, by decide, by decide⟩, b, _, n + 4, rfl, x4, by omega, by decide, by decide, fun d5 H5 l5 u5 x5 k5 => ?_⟩
    have u5 : d5 < 100000000 := u5
    refine ⟨_, rfl, _, _, rfl, rfl, ⟨by decide, by decide, by decide⟩, _, _, rfl, rfl, _, rfl, b, _, n + 5, rfl, x5, by omega, by decide, by decide, fun d6 H6 l6 u6 x6 k6 => ?_⟩
    refine ⟨_, _, rfl, rfl, (by show 4 ≤ sizeLine; decide), fun p np => ?_⟩
    have e30 : (10 : Int) ^ (30 : Int).toNat = 1000000000000000000000000000000 := by decide +kernel
    have h9 : (10 ^ (30 : Int).toNat - 9 - d6 : Int).natAbs < 10000000000000000000000000000000 := by
      rw [e30]
      omega
    refine ⟨_, rfl, _, rfl, b, _, n + 6, rfl, x6.new np, by omega, by decide, by decide, fun d7 H7 l7 u7 x8 k7 => ?_⟩
    obtain ⟨v, hv, e7⟩ := atI_in (xs := [V.int d4, .int d5, .int (d1 * 10 ^ (22 : Int).toNat + d2 * 10 ^ (11 : Int).toNat + d3), .int (10 ^ (30 : Int).toNat - 9 - d6)]) (i := d7) l7 (by simpa using u7)
    obtain ⟨x, rfl, hx⟩ : ∃ x : Int, v = .int x ∧ x.natAbs < 10000000000000000000000000000000 := by
      simp only [List.mem_cons, List.not_mem_nil, or_false] at hv
      rcases hv with rfl | rfl | rfl | rfl
      · exact ⟨_, rfl, by omega⟩
      · exact ⟨_, rfl, by omega⟩
      · exact ⟨_, rfl, hfar⟩
      · exact ⟨_, rfl, h9⟩
    have hp7 : H7 p = some (.lst [.int d4, .int d5, .int (d1 * 10 ^ (22 : Int).toNat + d2 * 10 ^ (11 : Int).toNat + d3), .int (10 ^ (30 : Int).toNat - 9 - d6)]) := k7 p _ upd_same (x6.ne np)
    refine ⟨p, _, _, _, rfl, rfl, SqL.of hp7, e7, _, rfl, (by show 2 ≤ sizeLine; decide), fun p2 np2 => ?_⟩
    refine ⟨_, rfl, b, _, n + 7, rfl, x8.new np2, by omega, by decide, by decide, fun d8 H8 l8 u8 x10 k8 => ?_⟩
    obtain ⟨v2, hv2, e8⟩ := atI_in (xs := [V.int 1, .int (-1)]) (i := d8) l8 (by simpa using u8)
    obtain ⟨y, rfl, hy⟩ : ∃ y : Int, v2 = .int y ∧ (y = 1 ∨ y = -1) := by
      simp only [List.mem_cons, List.not_mem_nil, or_false] at hv2
      rcases hv2 with rfl | rfl
      · exact ⟨_, rfl, .inl rfl⟩
      · exact ⟨_, rfl, .inr rfl⟩
    have hp8 : H8 p2 = some (.lst [.int 1, .int (-1)]) := k8 p2 _ upd_same (x8.ne np2)
    refine ⟨p2, _, _, _, rfl, rfl, SqL.of hp8, e8, _, _, rfl, rfl, .inr (by rcases hy with rfl | rfl <;> exact ⟨by decide, by decide⟩), q _ _ (by rcases hy with rfl | rfl <;> omega) x10 ?_⟩
    exact ((((((((k1.trans k2).trans k3).trans k4).trans k5).trans k6).trans (Kp.new np)).trans k7).trans (Kp.new np2)).trans k8
end
end K01
set_option Elab.async false
set_option linter.all false
set_option maxRecDepth 100000
namespace K01
open PySem PySem.Spec PyProof.Rows L2 CaV
def someS : List Str := ["let", "in", "each", "of", "want", "le", "lets", "i", "inn", "eac", "eachs", "o", "off", "wan"]
def someS2 : List Str := ["wants", "tel"]
theorem some_asc : ∀ z ∈ someS ++ someS2, (z.cps.toList.all fun c => decide (c < 128)) = true := by decide +kernel
theorem some_len : ∀ z ∈ someS ++ someS2, z.length ≤ 8 := by decide +kernel
theorem atI_strs {zs : List Str} {i : Int} (h0 : 0 ≤ i) (h1 : i < zs.length) : ∃ z, z ∈ zs ∧ atI (zs.map V.str) i = some (.str z) := by
  obtain ⟨v, hv, e⟩ := atI_in (xs := zs.map V.str) h0 (by rw [List.length_map]; exact h1)
  obtain ⟨z, hz, rfl⟩ := List.mem_map.mp hv
  exact ⟨z, hz, e⟩
theorem sum_ones : ∀ {ys : List Str}, (∀ y ∈ ys, y.length = 1) → (ys.map (·.length)).sum = ys.length
  | [], _ => rfl
  | y :: r, h => by
    rw [List.map_cons, List.sum_cons, sum_ones (fun z hz => h z (List.mem_cons_of_mem _ hz)), h y List.mem_cons_self, List.length_cons]
    omega
theorem yes_at {σ : L2.St} {H : Hp} {F G : Hp → Prop} (h : F H) : tYes σ H (fun b H3 => if b = true then F H3 else G H3) := by
  show (if true = true then F H else G H)
  rw [if_pos rfl]
  exact h
/-- all its signs are plain ones -/
def Asc (x : Str) : Prop := ∀ c ∈ x.cps.toList, c < 128
theorem asc_app {a b : Str} (ha : Asc a) (hb : Asc b) : Asc (a ++ b) := fun c hc => by
  have e : (a ++ b).cps.toList = a.cps.toList ++ b.cps.toList := by
    rw [Str.cps_append, Array.toList_append]
  rw [e] at hc
  rcases List.mem_append.mp hc with h | h
  · exact ha c h
  · exact hb c h
theorem asc_cut {z : Str} (lo hi : Option Int) (h : Asc z) : Asc (cutS z lo hi) := fun c hc => by
  unfold cutS at hc
  exact h c (List.mem_of_mem_drop (List.mem_of_mem_take hc))
theorem asc_one {c : Nat} (h : c < 128) : Asc ⟨#[c]⟩ := fun d hd => by
  rw [show d = c from List.mem_singleton.mp hd]
  exact h
theorem empty_list : ("" : Str).cps.toList = [] := by decide +kernel
theorem asc_empty : Asc "" := by
  intro c hc
  rw [empty_list] at hc
  cases hc
theorem asc_joinS : ∀ {ys : List Str}, (∀ y ∈ ys, Asc y) → Asc (Str.join "" ys)
  | [], _ => fun c hc => absurd hc (by show ¬ c ∈ ([] : List Nat); simp)
  | [x], h => h x List.mem_cons_self
  | x :: y :: r, h => by
    show Asc (x ++ "" ++ Str.join "" (y :: r))
    exact asc_app (asc_app (h x List.mem_cons_self) asc_empty) (asc_joinS fun z hz => h z (List.mem_cons_of_mem _ hz))
theorem asc_join {ys : List Str} (h : ∀ y ∈ ys, Asc y) : Asc (Txt.join "" ys) := by
  show Asc (Builtin.Str.glued "" ys)
  rw [StrLaws.glued_eq_join]
  exact asc_joinS h
theorem asc_of {x : Str} (h : (x.cps.toList.all fun c => decide (c < 128)) = true) : Asc x := fun c hc => of_decide_eq_true (List.all_eq_true.mp h c hc)
def preS : List Str := ["", "", "?", "$", "??", "$?"]
theorem pre_asc : ∀ z ∈ preS, (z.cps.toList.all fun c => decide (c < 128)) = true := by decide +kernel
theorem letters_asc : ∀ c ∈ ("abcdefghijklmnopqrstuvwxyz" : Str).cps.toList, c < 128 := by decide +kernel
theorem signs_asc : ∀ c ∈ ("ABZ019 _-.?$!\n,@{" : Str).cps.toList, c < 128 := by decide +kernel
theorem pre_len : ∀ z ∈ preS, z.length ≤ 2 := by decide +kernel
theorem join_len0 {ys : List Str} (h : ∀ y ∈ ys, y.length = 1) : (Txt.join "" ys).length ≤ ys.length := by
  have e := StrLaws.join_length_le "" ys
  show (Builtin.Str.glued "" ys).length ≤ ys.length
  rw [StrLaws.glued_eq_join]
  rw [sum_ones h] at e
  have e2 : ("" : Str).length = 0 := by decide +kernel
  rw [e2, Nat.mul_zero] at e
  exact e
theorem letters_len : ("abcdefghijklmnopqrstuvwxyz" : Str).cps.toList.length = 26 := by decide +kernel
theorem signs_len : ("ABZ019 _-.?$!\n,@{" : Str).cps.toList.length = 17 := by decide +kernel
def spString : Sp := fun vs H Q _ => ∃ (b : Addr) (n : Nat), vs = [.ref b] ∧ Bx H b n ∧ n < 900000 ∧
  ∀ (x : Str) (H' : Hp), x.length ≤ 100 → Asc x → Bx H' b (n + 20) → Kp b H H' → Q (.str x) H'
theorem sz100 {n : Nat} (h : n ≤ 1000) : n ≤ sizeLine := Nat.le_trans h (by decide)
section
variable {P : Program} {w : World} {K : PySem.W.Frag} {mg : Str → Option Value} {base : Heap}
theorem ok_string {f f_l_take : Addr} {fd fd_l_take : FuncData} {k : Nat} (F : Fun K "_law_string" "_law_string" s_l_string f fd) (F_l_take : Fun K "_law_take" "_law_take" s_l_take f_l_take fd_l_take) (b_l_take : Binds K fd_l_take ["_law_box_here", "_law_many"] []) (gl_l_take : mg "_law_take" = some (.ref f_l_take))
    (n_range : mg "range" = none) (n_len : mg "len" = none) : FnOk P w K mg base CX0 (k + 2) f fd ["_law_box_here"] spString := by
  have G_l_take : FnOk P w K mg base CX0 1 f_l_take fd_l_take ["_law_box_here", "_law_many"] spTake := ok_take F_l_take
  refine F.ok sc_l_string (fun vs H Q E h => ?_) (fun cdv A outer s H vs Q E hr h => ?_)
  · obtain ⟨b, n, rfl, _⟩ := h
    rfl
  · obtain ⟨b, n, rfl, bx, hn, q⟩ := h
    refine ⟨_, (pss_cons (ps_set (i := 1) sc_l_string.nd rfl (.inr rfl) pe_str)
    (pss_cons (ps_set (i := 2) sc_l_string.nd rfl (.inl rfl) (pe_lst (pa_cons pe_str (pa_cons pe_str (pa_cons pe_str (pa_cons pe_str (pa_cons pe_str (pa_cons pe_str (pa_cons pe_str (pa_cons pe_str (pa_cons pe_str (pa_cons pe_str (pa_cons pe_str (pa_cons pe_str (pa_cons pe_str (pa_cons pe_str pa_nil))))))))))))))))
    (pss_cons (ps_set (i := 2) sc_l_string.nd rfl (.inl rfl) (pe_op op_cat (pv 2) (pe_lst (pa_cons pe_str (pa_cons pe_str pa_nil)))))
    (pss_cons (ps_set (i := 3) sc_l_string.nd rfl (.inl rfl) (pe_join pe_str (pe_lc (own := [("_law_k", 6)]) (g := gName 6) (tt := tYes) (by rfl) sc_l_string.nd (pi_range1 (by rfl) n_range (pa_cons (pe_call G_l_take (hr.mono (by omega)) (by rfl) gl_l_take F_l_take.kp b_l_take .nil pass0 (pa_cons (pv 0) (pa_cons pe_int pa_nil))) pa_nil)) (blkOk_by (own := [("_law_k", 6)]) (N := N_l_string) (sc := defScope s_l_string) (by decide +kernel)) (fun _ _ _ _ _ => pg_name (i := 6) sc_l_string.nd rfl (Or.inl rfl)) (fun _ _ _ _ _ => pts_nil) (fun _ _ _ _ _ => (pe_ix ix_str (pv 1) (pe_call G_l_take (hr.mono (by omega)) (by rfl) gl_l_take F_l_take.kp b_l_take .nil pass0 (pa_cons (pv 0) (pa_cons pe_int pa_nil))) (fun _ _ => rfl))))))
    (pss_cons (ps_set (i := 3) sc_l_string.nd rfl (.inl rfl) (pe_ix ix_list (pe_lst (pa_cons (pv 3) (pa_cons (pv 3) (pa_cons (pe_ix ix_list (pv 2) (pe_call G_l_take (hr.mono (by omega)) (by rfl) gl_l_take F_l_take.kp b_l_take .nil pass0 (pa_cons (pv 0) (pa_cons pe_int pa_nil))) (fun _ _ => rfl)) pa_nil)))) (pe_call G_l_take (hr.mono (by omega)) (by rfl) gl_l_take F_l_take.kp b_l_take .nil pass0 (pa_cons (pv 0) (pa_cons pe_int pa_nil))) (fun _ _ => rfl)))
    (pss_cons (ps_if (pt_cmpR op_eq (pe_call G_l_take (hr.mono (by omega)) (by rfl) gl_l_take F_l_take.kp b_l_take .nil pass0 (pa_cons (pv 0) (pa_cons pe_int pa_nil))) pe_int (nomark _))
      (pss_cons (ps_set (i := 4) sc_l_string.nd rfl (.inl rfl) (pe_call G_l_take (hr.mono (by omega)) (by rfl) gl_l_take F_l_take.kp b_l_take .nil pass0 (pa_cons (pv 0) (pa_cons (pe_op op_add (pe_callB call_len_str (by rfl) n_len PySem.boot_len (pa_cons (pv 3) pa_nil)) pe_int) pa_nil))))
      (pss_cons (ps_set (i := 5) sc_l_string.nd rfl (.inl rfl) (pe_ix ix_str pe_str (pe_call G_l_take (hr.mono (by omega)) (by rfl) gl_l_take F_l_take.kp b_l_take .nil pass0 (pa_cons (pv 0) (pa_cons pe_int pa_nil))) (fun _ _ => rfl)))
      (pss_one (ps_set (i := 3) sc_l_string.nd rfl (.inl rfl) (pe_ix ix_list (pe_lst (pa_cons (pe_op op_add_str (pe_op op_add_str (pe_slice sl_str (pv 3) po_none (po_some (pv 4))) (pv 5)) (pe_slice sl_str (pv 3) (po_some (pe_op op_add (pv 4) pe_int)) po_none)) (pa_cons (pe_op op_add_str (pe_op op_add_str (pe_slice sl_str (pv 3) po_none (po_some (pv 4))) (pv 5)) (pe_slice sl_str (pv 3) (po_some (pv 4)) po_none)) pa_nil))) (pe_call G_l_take (hr.mono (by omega)) (by rfl) gl_l_take F_l_take.kp b_l_take .nil pass0 (pa_cons (pv 0) (pa_cons pe_int pa_nil))) (fun _ _ => rfl))))))
      pss_nil)
    (pss_one (ps_ret (pe_op op_add_str (pe_ix ix_list (pe_lst (pa_cons pe_str (pa_cons pe_str (pa_cons pe_str (pa_cons pe_str (pa_cons pe_str (pa_cons pe_str pa_nil))))))) (pe_call G_l_take (hr.mono (by omega)) (by rfl) gl_l_take F_l_take.kp b_l_take .nil pass0 (pa_cons (pv 0) (pa_cons pe_int pa_nil))) (fun _ _ => rfl)) (pv 3)))))))))), ?_⟩
    refine ⟨(by show 14 ≤ sizeLine; decide), fun p np => ?_⟩
    refine ⟨_, rfl, (by show 2 ≤ sizeLine; decide), fun p2 np2 => ?_⟩
    refine ⟨p, p2, someS.map V.str, someS2.map V.str, rfl, rfl, (by rw [upd_ne (ne_of_none upd_same np2)]; exact upd_same), upd_same, (by show 16 ≤ sizeLine; decide), fun p3 np3 => ?_⟩
    have x3 := ((bx.new (o := .lst (someS.map V.str)) np).new (o := .lst (someS2.map V.str)) np2).new (o := .lst (someS.map V.str ++ someS2.map V.str)) np3
    have k3 : Kp b H _ := ((Kp.new (b := b) (o := .lst (someS.map V.str)) np).trans (Kp.new (o := .lst (someS2.map V.str)) np2)).trans (Kp.new (o := .lst (someS.map V.str ++ someS2.map V.str)) np3)
    have hp3 : (upd (upd (upd H p (.lst (someS.map V.str))) p2 (.lst (someS2.map V.str))) p3 (.lst (someS.map V.str ++ someS2.map V.str))) p3 = some (.lst ((someS ++ someS2).map V.str)) := by
      rw [upd_same, List.map_append]
    generalize hH3 : (upd (upd (upd H p (.lst (someS.map V.str))) p2 (.lst (someS2.map V.str))) p3 (.lst (someS.map V.str ++ someS2.map V.str))) = H3 at x3 k3 hp3
    have n3 : p3 ≠ b := fun z => by
      obtain ⟨m, r, c, h1, _⟩ := x3
      rw [← z, hp3] at h1
      cases h1
    show tSeq _ _ _ _ (upd (upd (upd H p (.lst (someS.map V.str))) p2 (.lst (someS2.map V.str))) p3 (.lst (someS.map V.str ++ someS2.map V.str)))
    rw [hH3]
    -- text = ''.join(..)
    refine ⟨⟨_, rfl⟩, _, rfl, b, _, n, rfl, x3, by omega, by decide, by decide, fun d1 H4 l1 u1 x4 k4 => ⟨d1, rfl, by omega, by omega, fun D hD => ?_⟩⟩
    have nD := x4.ne hD
    refine lc_range (lo := 0) (n := d1.toNat) (fun i H5 => ∃ ys : List Str, H5 D = some (.lst (ys.map V.str)) ∧ ys.length = i ∧ (∀ y ∈ ys, y.length = 1 ∧ Asc y) ∧ Bx H5 b (n + 1 + i) ∧ Kp b H4 H5) ⟨[], upd_same, rfl, (fun y hy => nomatch hy), x4.new hD, Kp.new hD⟩ ?_ ?_
    · rintro i H5 hi ⟨ys, hys, hl, h1, x5, k5⟩
      refine ⟨rfl, ?_⟩
      refine yes_at ?_
      refine ⟨_, rfl, _, rfl, b, _, _, rfl, x5, by omega, by decide, by decide, fun d2 H6 l2 u2 x6 k6 => ?_⟩
      obtain ⟨c, hc, ec⟩ := atI_in (xs := ("abcdefghijklmnopqrstuvwxyz" : Str).cps.toList) (i := d2) l2 (by rw [letters_len]; exact u2)
      refine ⟨_, _, c, rfl, rfl, by decide +kernel, ec, ys.map V.str, k6 D _ hys nD, by rw [List.length_map]; exact Nat.lt_of_le_of_lt (show ys.length ≤ 9 by omega) (by decide), ys ++ [⟨#[c]⟩], by rw [upd_same, List.map_append]; rfl, by rw [List.length_append, hl]; rfl, fun y hy => ?_, ?_, fun a o e na => ?_⟩
      · rcases List.mem_append.mp hy with hy | hy
        · exact h1 y hy
        · rw [List.mem_singleton.mp hy]
          exact ⟨rfl, asc_one (letters_asc c hc)⟩
      · obtain ⟨m, r, c', e1, e2⟩ := x6
        exact ⟨m, r, c', by rw [upd_ne nD.symm]; exact e1, e2⟩
      · rw [upd_ne (ne_of_none e hD)]
        exact k6 a o (k5 a o e na) na
    · rintro H5 ⟨ys, hys, hl, h1, x5, k5⟩
      have ha := asc_join fun y hy => (h1 y hy).2
      have h1 := fun y hy => (h1 y hy).1
      have hj := join_len0 h1
      have hd1 : d1.toNat ≤ 8 := by omega
      refine ⟨_, D, ys, rfl, rfl, .inl (SqL.of hys), by rw [sum_ones h1, hl, show ("" : Str).length = 0 by decide +kernel]; omega, ?_⟩
      generalize Txt.join "" ys = text at hj ha
      have ht : text.length ≤ 8 := by omega
      have x5 := x5.mono (k := n + 9) (by omega)
      have k5' := k5
      have k5 := (k3.trans k4).trans k5
      have k35 := k4.trans k5'
      have hp5 : H5 p3 = some (.lst ((someS ++ someS2).map V.str)) := k35 p3 _ hp3 n3
      refine ⟨_, rfl, _, rfl, _, rfl, _, rfl, b, _, n + 9, rfl, x5, by omega, by decide, by decide, fun d3 H6 l3 u3 x6 k6 => ?_⟩
      obtain ⟨z, hz, ez⟩ := atI_strs (zs := someS ++ someS2) (i := d3) l3 u3
      have hz8 := some_len z hz
      have hza := asc_of (some_asc z hz)
      refine ⟨p3, _, _, .str z, rfl, rfl, SqL.of (k6 p3 _ hp5 n3), ez, (by show 3 ≤ sizeLine; decide), fun p4 np4 => ?_⟩
      refine ⟨_, rfl, b, _, n + 10, rfl, x6.new np4, by omega, by decide, by decide, fun d4 H7 l4 u4 x7 k7 => ?_⟩
      obtain ⟨t2, ht2, e2⟩ := atI_strs (zs := [text, text, z]) (i := d4) l4 u4
      obtain ⟨ht2, ha2⟩ : t2.length ≤ 8 ∧ Asc t2 := by
        simp only [List.mem_cons, List.not_mem_nil, or_false] at ht2
        rcases ht2 with rfl | rfl | rfl <;> exact ⟨by assumption, by assumption⟩
      have hp7 : H7 p4 = some (.lst ([text, text, z].map V.str)) := k7 p4 _ upd_same (x6.ne np4)
      refine ⟨p4, _, _, .str t2, rfl, rfl, SqL.of hp7, e2, ?_⟩
      have k07 : Kp b H H7 := ((k5.trans k6).trans (Kp.new np4)).trans k7
      refine ⟨_, rfl, b, _, n + 11, rfl, x7, by omega, by decide, by decide, fun d5 H8 l5 u5 x8 k8 => ?_⟩
      have k08 := k07.trans k8
      refine ⟨rfl, _, rfl, ite2 (fun e => ?_) (fun e => ?_)⟩
      · refine ⟨_, rfl, _, rfl, _, rfl, sz100 (by omega), _, _, rfl, rfl, b, _, n + 12, rfl, x8, by omega, by omega, by omega, fun d6 H9 l6 u6 x9 k9 => ?_⟩
        refine ⟨_, rfl, b, _, n + 13, rfl, x9, by omega, by decide, by decide, fun d7 H10 l7 u7 x10 k10 => ?_⟩
        obtain ⟨c, hc, ec⟩ := atI_in (xs := ("ABZ019 _-.?$!\n,@{" : Str).cps.toList) (i := d7) l7 (by rw [signs_len]; exact u7)
        refine ⟨_, _, c, rfl, rfl, by decide +kernel, ec, ?_⟩
        have c1 := cut_len t2 none (some d6)
        have c2 := cut_len t2 (some (d6 + 1)) none
        have c3 := cut_len t2 (some d6) none
        have s1 : (⟨#[c]⟩ : Str).length = 1 := rfl
        have a1 := app_len (cutS t2 none (some d6)) ⟨#[c]⟩
        have a2 := app_len (cutS t2 none (some d6) ++ ⟨#[c]⟩) (cutS t2 (some (d6 + 1)) none)
        have a3 := app_len (cutS t2 none (some d6) ++ ⟨#[c]⟩) (cutS t2 (some d6) none)
        refine ⟨_, rfl, _, rfl, _, rfl, _, rfl, sz100 (by omega), _, rfl, _, _, rfl, rfl, sz100 (by omega), _, rfl, _, rfl, _, _, rfl, rfl, _, rfl, _, rfl, sz100 (by omega), _, _, rfl, rfl, sz100 (by omega), ?_⟩
        refine ⟨_, rfl, _, rfl, _, rfl, _, rfl, sz100 (by omega), _, rfl, _, _, rfl, rfl, sz100 (by omega), _, rfl, _, rfl, _, rfl, _, rfl, sz100 (by omega), _, _, rfl, rfl, sz100 (by omega), ?_⟩
        refine ⟨(by show 2 ≤ sizeLine; decide), fun p5 np5 => ?_⟩
        refine ⟨_, rfl, b, _, n + 14, rfl, x10.new np5, by omega, by decide, by decide, fun d8 H11 l8 u8 x11 k11 => ?_⟩
        obtain ⟨t3, ht3, e3⟩ := atI_strs (zs := [(cutS t2 none (some d6) ++ ⟨#[c]⟩) ++ cutS t2 (some (d6 + 1)) none, (cutS t2 none (some d6) ++ ⟨#[c]⟩) ++ cutS t2 (some d6) none]) (i := d8) l8 u8
        obtain ⟨ht3, ha3⟩ : t3.length ≤ 17 ∧ Asc t3 := by
          simp only [List.mem_cons, List.not_mem_nil, or_false] at ht3
          have hc1 := asc_one (signs_asc c hc)
          rcases ht3 with rfl | rfl
          · exact ⟨by omega, asc_app (asc_app (asc_cut _ _ ha2) hc1) (asc_cut _ _ ha2)⟩
          · exact ⟨by omega, asc_app (asc_app (asc_cut _ _ ha2) hc1) (asc_cut _ _ ha2)⟩
        have hp11 : H11 p5 = some (.lst ([(cutS t2 none (some d6) ++ ⟨#[c]⟩) ++ cutS t2 (some (d6 + 1)) none, (cutS t2 none (some d6) ++ ⟨#[c]⟩) ++ cutS t2 (some d6) none].map V.str)) := k11 p5 _ upd_same (x10.ne np5)
        refine ⟨p5, _, _, .str t3, rfl, rfl, SqL.of hp11, e3, ?_⟩
        refine ⟨(by show 6 ≤ sizeLine; decide), fun p6 np6 => ?_⟩
        refine ⟨_, rfl, b, _, n + 15, rfl, x11.new np6, by omega, by decide, by decide, fun d9 H12 l9 u9 x12 k12 => ?_⟩
        obtain ⟨t4, ht4, e4⟩ := atI_strs (zs := preS) (i := d9) l9 u9
        have ha4 := asc_of (pre_asc t4 ht4)
        have ht4 := pre_len t4 ht4
        have hp12 : H12 p6 = some (.lst (preS.map V.str)) := k12 p6 _ upd_same (x11.ne np6)
        have a4 := app_len t4 t3
        refine ⟨p6, _, _, .str t4, rfl, rfl, SqL.of hp12, e4, _, rfl, _, _, rfl, rfl, sz100 (by omega), q _ _ (by omega) (asc_app ha4 ha3) (x12.mono (by omega)) ?_⟩
        exact (((((k08.trans k9).trans k10).trans (Kp.new np5)).trans k11).trans (Kp.new np6)).trans k12
      · refine ⟨(by show 6 ≤ sizeLine; decide), fun p6 np6 => ?_⟩
        refine ⟨_, rfl, b, _, n + 12, rfl, x8.new np6, by omega, by decide, by decide, fun d9 H12 l9 u9 x12 k12 => ?_⟩
        obtain ⟨t4, ht4, e4⟩ := atI_strs (zs := preS) (i := d9) l9 u9
        have ha4 := asc_of (pre_asc t4 ht4)
        have ht4 := pre_len t4 ht4
        have hp12 : H12 p6 = some (.lst (preS.map V.str)) := k12 p6 _ upd_same (x8.ne np6)
        have a4 := app_len t4 t2
        refine ⟨p6, _, _, .str t4, rfl, rfl, SqL.of hp12, e4, _, rfl, _, _, rfl, rfl, sz100 (by omega), q _ _ (by omega) (asc_app ha4 ha2) (x12.mono (by omega)) ?_⟩
        exact (k08.trans (Kp.new np6)).trans k12
end
end K01
set_option Elab.async false
set_option linter.all false
set_option maxRecDepth 100000
namespace K01
open PySem PySem.Spec PyProof.Rows L2 CaV
abbrev s_is_integer : Stmt := topS 3
abbrev N_is_integer : List Str := ["value", "low", "high"]
theorem sc_is_integer : FnScope N_is_integer ["value", "low", "high"] (defScope s_is_integer) := ⟨rfl, rfl, rfl, by decide +kernel, rfl, by decide +kernel, by decide +kernel⟩
abbrev s_is_any_integer : Stmt := topS 4
abbrev N_is_any_integer : List Str := ["value"]
theorem sc_is_any_integer : FnScope N_is_any_integer ["value"] (defScope s_is_any_integer) := ⟨rfl, rfl, rfl, by decide +kernel, rfl, by decide +kernel, by decide +kernel⟩
abbrev s_is_name : Stmt := topS 5
abbrev N_is_name : List Str := ["value"]
theorem sc_is_name : FnScope N_is_name ["value"] (defScope s_is_name) := ⟨rfl, rfl, rfl, by decide +kernel, rfl, by decide +kernel, by decide +kernel⟩
abbrev s_is_parameter : Stmt := topS 6
abbrev N_is_parameter : List Str := ["value"]
theorem sc_is_parameter : FnScope N_is_parameter ["value"] (defScope s_is_parameter) := ⟨rfl, rfl, rfl, by decide +kernel, rfl, by decide +kernel, by decide +kernel⟩
abbrev s_l_is_name : Stmt := topS 16
abbrev N_l_is_name : List Str := ["_law_text", "_law_sign"]
theorem sc_l_is_name : FnScope N_l_is_name ["_law_text"] (defScope s_l_is_name) := ⟨rfl, rfl, rfl, by decide +kernel, rfl, by decide +kernel, by decide +kernel⟩
abbrev s_l_is : Stmt := topS 17
abbrev N_l_is : List Str := ["_law_found", "_law_due"]
theorem sc_l_is : FnScope N_l_is ["_law_found", "_law_due"] (defScope s_l_is) := ⟨rfl, rfl, rfl, by decide +kernel, rfl, by decide +kernel, by decide +kernel⟩
/-! ### what a name is -/
def kws : List Str := ["let", "in", "each", "of", "want"]
def low (c : Nat) : Bool := decide (97 ≤ c) && decide (c ≤ 122)
/-- small letters alone, one to six, no word of its own -/
def nameS (x : Str) : Bool := x.cps.toList.all low && (decide (0 < x.length) && decide (x.length < 7)) && !inV (.str x) (kws.map V.str)
theorem ascii_tab : ((List.range 128).all fun c => decide ((Unicode.isAlpha c = true → ((Unicode.isUpper c || Unicode.isTitle c) = false → low c = true)) ∧ (low c = true → Unicode.isAlpha c = true ∧ Unicode.isLower c = true ∧ (Unicode.isUpper c || Unicode.isTitle c) = false))) = true := by decide +kernel
theorem ascii_at {c : Nat} (h : c < 128) : (Unicode.isAlpha c = true → ((Unicode.isUpper c || Unicode.isTitle c) = false → low c = true)) ∧ (low c = true → Unicode.isAlpha c = true ∧ Unicode.isLower c = true ∧ (Unicode.isUpper c || Unicode.isTitle c) = false) :=
  of_decide_eq_true (List.all_eq_true.mp ascii_tab c (List.mem_range.mpr h))
theorem arr_all {p : Nat → Bool} {x : Str} : x.cps.all p = x.cps.toList.all p := by
  rw [← Array.all_toList]
theorem arr_any {p : Nat → Bool} {x : Str} : x.cps.any p = x.cps.toList.any p := by
  rw [← Array.any_toList]
theorem low_128 {c : Nat} (h : low c = true) : c < 128 := by
  unfold low at h
  simp only [Bool.and_eq_true, decide_eq_true_eq] at h
  omega
/-- what the package asks of the signs is what the law asks -/
theorem signs_same (x : Str) (h0 : 0 < x.length) : (Txt.isascii x && (Txt.isalpha x && Txt.islower x)) = x.cps.toList.all low := by
  have hl : x.cps.toList.length = x.length := by simp [Str.length]
  rw [Bool.eq_iff_iff]
  unfold Txt.isascii Txt.isalpha Txt.islower
  rw [arr_all, arr_all, arr_any, arr_any]
  simp only [Bool.and_eq_true, List.all_eq_true, List.any_eq_true, decide_eq_true_eq, Bool.not_eq_true', List.any_eq_false]
  constructor
  · rintro ⟨h1, ⟨_, h2⟩, _, h4⟩ c hc
    have z := h4 c hc
    exact (ascii_at (h1 c hc)).1 (h2 c hc) (by simpa using z)
  · intro h
    refine ⟨fun c hc => low_128 (h c hc), ⟨by simpa using h0, fun c hc => ((ascii_at (low_128 (h c hc))).2 (h c hc)).1⟩, ?_, fun c hc => ?_⟩
    · cases e : x.cps.toList with
      | nil =>
        rw [e] at hl
        simp at hl
        omega
      | cons c r =>
        have hc : c ∈ x.cps.toList := by
          rw [e]
          exact List.mem_cons_self
        exact ⟨c, List.mem_cons_self, ((ascii_at (low_128 (h c hc))).2 (h c hc)).2.1⟩
    · have z := ((ascii_at (low_128 (h c hc))).2 (h c hc)).2.2
      rw [z]
      decide
theorem shaped_strs {ys : List Str} (h : ∀ y ∈ ys, Asc y) : SeqAt.shaped (.list (ys.map PyData.str)) = true := by
  have h1 : ∀ {ys : List Str}, (∀ y ∈ ys, Asc y) → PyData.canLayAll0 (ys.map PyData.str) = true := by
    intro ys
    induction ys with
    | nil =>
      intro _
      simp [PyData.canLayAll0]
    | cons y r ih =>
      intro h
      rw [List.map_cons]
      unfold PyData.canLayAll0
      rw [ih fun z hz => h z (List.mem_cons_of_mem _ hz), Bool.and_true]
      unfold PyData.canLay0 PyData.strOk
      rw [arr_all, List.all_eq_true]
      intro c hc
      have := h y List.mem_cons_self c hc
      exact decide_eq_true (by omega)
  have h2 : ∀ ys : List Str, PyData.depthAll (ys.map PyData.str) = 0 := by
    intro ys
    induction ys with
    | nil => simp [PyData.depthAll]
    | cons y r ih =>
      rw [List.map_cons]
      unfold PyData.depthAll
      rw [ih]
      simp [PyData.depth]
  unfold SeqAt.shaped
  rw [Bool.and_eq_true]
  refine ⟨?_, decide_eq_true ?_⟩
  · unfold PyData.canLay0
    exact h1 h
  · unfold PyData.depth
    rw [h2]
    decide
theorem dp_strs {K : PySem.W.Frag} {H : Hp} : ∀ ys : List Str, DpAll K H (ys.map V.str) (ys.map PyData.str)
  | [] => .nil
  | y :: r => .cons (.str y) (dp_strs r)
theorem eqv_nil (ys : List Str) : PyData.eqv (.list (ys.map PyData.str)) (.list []) = ys.isEmpty := by
  cases ys with
  | nil => simp [PyData.eqv, PyData.eqvAll]
  | cons y r => simp [PyData.eqv, PyData.eqvAll]
/-! ### the promises -/
def spIsInt (K : PySem.W.Frag) : Sp := fun vs H Q _ => ∃ (x : V) (lo hi : Int), vs = [x, .int lo, .int hi] ∧
  ((∃ i, x = .int i ∧ Q (.bl (decide (lo ≤ i) && decide (i ≤ hi))) H) ∨
   ((∃ b, x = .bl b) ∧ Q (.bl false) H) ∨
   (∃ t, TyE K H x t ∧ PySem.W.kitOne K t (.type "int") = some false ∧ Q (.bl false) H))
def spIsAny (K : PySem.W.Frag) : Sp := fun vs H Q _ => ∃ (x : V), vs = [x] ∧
  ((∃ i, x = .int i ∧ Q (.bl true) H) ∨ ((∃ b, x = .bl b) ∧ Q (.bl false) H) ∨ (∃ t, TyE K H x t ∧ PySem.W.kitOne K t (.type "int") = some false ∧ Q (.bl false) H))
def spIsName (K : PySem.W.Frag) : Sp := fun vs H Q _ => ∃ (x : V), vs = [x] ∧
  ((∃ s, x = .str s ∧ s.length ≤ 1000 ∧ Q (.bl (nameS s)) H) ∨ (∃ t, TyE K H x t ∧ PySem.W.kitOne K t (.type "str") = some false ∧ Q (.bl false) H))
def parS (x : Str) : Bool := inV (.str (cutS x none (some 1))) [.str "?", .str "$"] && nameS (cutS x (some 1) none)
def spIsPar (K : PySem.W.Frag) : Sp := fun vs H Q _ => ∃ (x : V), vs = [x] ∧
  ((∃ s, x = .str s ∧ s.length ≤ 1000 ∧ ∀ H', Same H H' → Q (.bl (parS s)) H') ∨ (∃ t, TyE K H x t ∧ PySem.W.kitOne K t (.type "str") = some false ∧ Q (.bl false) H))
def spLIsName : Sp := fun vs H Q _ => ∃ (s : Str), vs = [.str s] ∧ s.length ≤ 1000 ∧ Asc s ∧ ∀ H', Same H H' → Q (.bl (nameS s)) H'
def spLIs : Sp := fun vs H Q _ => ∃ (a b : Bool), vs = [.bl a, .bl b] ∧ Q (.bl (a == b)) H
/-- what the top holds by name -/
structure TC (K : PySem.W.Frag) (mg : Str → Option Value) : Prop where
  n_isinstance : mg "isinstance" = none
  n_int : mg "int" = none
  n_bool : mg "bool" = none
  n_str : mg "str" = none
  n_len : mg "len" = none
  kw : ∃ a, mg "KEYWORDS" = some (.ref a) ∧ ∀ H, SqT K H a (kws.map V.str)
  ln : ∃ t, mg "LONGEST_NAME" = some (.int 6 t)
section
variable {P : Program} {w : World} {K : PySem.W.Frag} {mg : Str → Option Value} {base : Heap}
theorem ok_is_any_integer {f : Addr} {fd : FuncData} {k : Nat} (F : Fun K "is_any_integer" "is_any_integer" s_is_any_integer f fd) (T : TC K mg) : FnOk P w K mg base CX0 (k + 1) f fd ["value"] (spIsAny K) := by
  refine F.ok sc_is_any_integer (fun vs H Q E h => ?_) (fun cdv A outer s H vs Q E hr h => ?_)
  · obtain ⟨x, rfl, _⟩ := h
    rfl
  · obtain ⟨x, rfl, q⟩ := h
    refine ⟨_, (pss_one (ps_ret (pe_and (pe_callB CaV.call_isV (by rfl) T.n_isinstance (by decide +kernel) (pa_cons (pv 0) (pa_cons (pe_bltn (v := .ty "int") (by rfl) T.n_int (by decide +kernel) rfl) pa_nil))) (pe_one (pe_not (pe_callB CaV.call_isV (by rfl) T.n_isinstance (by decide +kernel) (pa_cons (pv 0) (pa_cons (pe_bltn (v := .ty "bool") (by rfl) T.n_bool (by decide +kernel) rfl) pa_nil)))))))), ?_⟩
    rcases q with ⟨i, rfl, q⟩ | ⟨⟨b, rfl⟩, q⟩ | ⟨t, ty, hk, q⟩
    · refine ⟨_, rfl, _, _, _, _, true, rfl, .ty "int", .inl (.base (.int i)), kit_ty (by decide +kernel), true, rfl, iteT ?_⟩
      exact ⟨_, rfl, _, _, _, _, false, rfl, .ty "bool", .inl (.base (.int i)), kit_ty (by decide +kernel), false, rfl, q⟩
    · refine ⟨_, rfl, _, _, _, _, true, rfl, .ty "int", .inl (.base (.bl b)), kit_ty (by decide +kernel), true, rfl, iteT ?_⟩
      exact ⟨_, rfl, _, _, _, _, true, rfl, .ty "bool", .inl (.base (.bl b)), kit_ty (by decide +kernel), true, rfl, q⟩
    · exact ⟨_, rfl, _, _, _, _, false, rfl, .ty "int", ty, hk, false, rfl, iteF q⟩
theorem ok_is_integer {f f_any : Addr} {fd fd_any : FuncData} {k : Nat} (F : Fun K "is_integer" "is_integer" s_is_integer f fd) (T : TC K mg) (F_any : Fun K "is_any_integer" "is_any_integer" s_is_any_integer f_any fd_any) (b_any : Binds K fd_any ["value"] []) (g_any : mg "is_any_integer" = some (.ref f_any)) : FnOk P w K mg base CX0 (k + 2) f fd ["value", "low", "high"] (spIsInt K) := by
  have G_any : FnOk P w K mg base CX0 1 f_any fd_any ["value"] (spIsAny K) := ok_is_any_integer F_any T
  refine F.ok sc_is_integer (fun vs H Q E h => ?_) (fun cdv A outer s H vs Q E hr h => ?_)
  · obtain ⟨x, lo, hi, rfl, _⟩ := h
    rfl
  · obtain ⟨x, lo, hi, rfl, q⟩ := h
    refine ⟨_, (pss_one (ps_ret (pe_and (pe_call G_any (hr.mono (by omega)) (by rfl) g_any F_any.kp b_any .nil pass0 (pa_cons (pv 0) pa_nil)) (pe_one (pe_chain op_le op_le (pv 1) (pv 0) (pv 2)))))), ?_⟩
    rcases q with ⟨i, rfl, q⟩ | ⟨⟨b, rfl⟩, q⟩ | ⟨t, ty, hk, q⟩
    · refine ⟨_, rfl, _, rfl, .inl ⟨i, rfl, _, rfl, iteT ?_⟩⟩
      refine ⟨_, rfl, _, rfl, _, _, rfl, rfl, _, rfl, ?_⟩
      cases e : decide (lo ≤ i) with
      | false =>
        refine iteF ?_
        rw [e] at q
        exact q
      | true =>
        refine iteT ?_
        rw [e] at q
        exact ⟨_, rfl, _, _, rfl, rfl, q⟩
    · exact ⟨_, rfl, _, rfl, .inr (.inl ⟨⟨b, rfl⟩, _, rfl, iteF q⟩)⟩
    · exact ⟨_, rfl, _, rfl, .inr (.inr ⟨t, ty, hk, _, rfl, iteF q⟩)⟩
theorem ok_is_name {f : Addr} {fd : FuncData} {k : Nat} (F : Fun K "is_name" "is_name" s_is_name f fd) (T : TC K mg) : FnOk P w K mg base CX0 (k + 1) f fd ["value"] (spIsName K) := by
  refine F.ok sc_is_name (fun vs H Q E h => ?_) (fun cdv A outer s H vs Q E hr h => ?_)
  · obtain ⟨x, rfl, _⟩ := h
    rfl
  · obtain ⟨x, rfl, q⟩ := h
    obtain ⟨aK, gl_KEYWORDS, hKW⟩ := T.kw
    obtain ⟨tl, gl_LONGEST_NAME⟩ := T.ln
    refine ⟨_, (pss_cons (ps_if (PW.pt (pw_or (pt_not (pt_val (pe_callB CaV.call_isV (by rfl) T.n_isinstance (by decide +kernel) (pa_cons (pv 0) (pa_cons (pe_bltn (v := .ty "str") (by rfl) T.n_str (by decide +kernel) rfl) pa_nil))))) (pw_or (pt_cmpR op_gt (pe_callB call_len_str (by rfl) T.n_len PySem.boot_len (pa_cons (pv 0) pa_nil)) (pe_glob (v := .int 6) rfl gl_LONGEST_NAME ⟨_, rfl⟩) (nomark _)) (pw_or1 (pt_cmpR op_in_seq (pv 0) (pe_glob (v := .ref aK) rfl gl_KEYWORDS rfl) (by with_unfolding_all rfl))))))
      (pss_one (ps_ret pe_bl))
      pss_nil)
    (pss_one (ps_ret (pe_and (pe_bm0 PySem.F.plainAttrs_str PySem.F.slot_str_isascii PySem.F.type_str_isascii mt_isascii (pv 0)) (pe_and (pe_bm0 PySem.F.plainAttrs_str PySem.F.slot_str_isalpha PySem.F.type_str_isalpha mt_isalpha (pv 0)) (pe_one (pe_bm0 PySem.F.plainAttrs_str PySem.F.slot_str_islower PySem.F.type_str_islower mt_islower (pv 0)))))))), ?_⟩
    rcases q with ⟨z, rfl, hz, q⟩ | ⟨t, ty, hk, q⟩
    · refine ⟨_, rfl, _, _, _, _, true, rfl, .ty "str", .inl (.base (.str z)), kit_ty (by decide +kernel), _, rfl, iteF ?_⟩
      refine ⟨_, rfl, _, rfl, sz100 hz, _, _, rfl, rfl, _, rfl, ?_⟩
      by_cases h6 : (6 : Int) < (z.length : Int)
      · rw [decide_eq_true h6]
        refine iteT (iteT ?_)
        have e : nameS z = false := by
          unfold nameS
          rw [show decide (z.length < 7) = false from decide_eq_false (by omega)]
          simp
        rw [e] at q
        exact q
      · rw [decide_eq_false h6]
        refine iteF ?_
        refine ⟨_, rfl, aK, _, rfl, .inr (hKW _), rfl, by decide +kernel, _, rfl, ?_⟩
        cases ek : inV (.str z) (kws.map V.str) with
        | true =>
          refine iteT ?_
          have e : nameS z = false := by
            unfold nameS
            rw [ek]
            simp
          rw [e] at q
          exact q
        | false =>
          refine iteF ?_
          refine ⟨_, rfl, rfl, _, rfl, rfl, trivial, _, rfl, ?_⟩
          by_cases h0 : 0 < z.length
          · have e : nameS z = (Txt.isascii z && (Txt.isalpha z && Txt.islower z)) := by
              rw [signs_same z h0]
              unfold nameS
              rw [ek, decide_eq_true h0, decide_eq_true (show z.length < 7 by omega)]
              simp
            rw [e] at q
            cases ea : Txt.isascii z with
            | false =>
              rw [ea] at q
              exact iteF q
            | true =>
              rw [ea] at q
              refine iteT ?_
              refine ⟨_, rfl, rfl, _, rfl, rfl, trivial, _, rfl, ?_⟩
              cases eb : Txt.isalpha z with
              | false =>
                rw [eb] at q
                exact iteF q
              | true =>
                rw [eb] at q
                refine iteT ?_
                exact ⟨_, rfl, rfl, _, rfl, rfl, trivial, q⟩
          · have e : nameS z = false := by
              unfold nameS
              rw [decide_eq_false h0]
              simp
            rw [e] at q
            have eb : Txt.isalpha z = false := by
              unfold Txt.isalpha
              rw [show decide (z.length > 0) = false from decide_eq_false h0]
              rfl
            cases ea : Txt.isascii z with
            | false => exact iteF q
            | true =>
              refine iteT ?_
              refine ⟨_, rfl, rfl, _, rfl, rfl, trivial, _, rfl, ?_⟩
              rw [eb]
              exact iteF q
    · exact ⟨_, rfl, _, _, _, _, false, rfl, .ty "str", ty, hk, _, rfl, iteT (iteT q)⟩
theorem ok_l_is {f : Addr} {fd : FuncData} {k : Nat} (F : Fun K "_law_is" "_law_is" s_l_is f fd) (T : TC K mg) : FnOk P w K mg base CX0 (k + 1) f fd ["_law_found", "_law_due"] spLIs := by
  refine F.ok sc_l_is (fun vs H Q E h => ?_) (fun cdv A outer s H vs Q E hr h => ?_)
  · obtain ⟨a, b, rfl, _⟩ := h
    rfl
  · obtain ⟨a, b, rfl, q⟩ := h
    refine ⟨_, (pss_one (ps_ret (pe_and (pe_callB CaV.call_isV (by rfl) T.n_isinstance (by decide +kernel) (pa_cons (pv 0) (pa_cons (pe_bltn (v := .ty "bool") (by rfl) T.n_bool (by decide +kernel) rfl) pa_nil))) (pe_one (pe_cmpR op_eq (pv 0) (pv 1) (nomark _)))))), ?_⟩
    refine ⟨_, rfl, _, _, _, _, true, rfl, .ty "bool", .inl (.base (.bl a)), kit_ty (by decide +kernel), true, rfl, iteT ?_⟩
    refine ⟨_, rfl, _, rfl, rfl, ?_⟩
    rw [dec_bl]
    exact q
end
end K01
set_option Elab.async false
set_option linter.all false
set_option maxRecDepth 100000
namespace K01
open PySem PySem.Spec PyProof.Rows L2 CaV
theorem same_new {H : Hp} {p : Addr} {o : HO} (h : H p = none) : Same H (upd H p o) := fun b x e => by
  rw [upd_ne (ne_of_none e h)]
  exact e
theorem lt_one (a c : Nat) : decide (([a] : List Nat) < [c]) = decide (a < c) := by
  rw [Bool.eq_iff_iff]
  simp [List.cons_lt_cons_iff]
/-- the signs among the first i that are no small letters -/
def badS (x : Str) (i : Nat) : List Str := ((x.cps.toList.take i).filter fun c => !low c).map fun c => (⟨#[c]⟩ : Str)
theorem bad_succ {x : Str} {i c : Nat} (h : x.cps.toList[i]? = some c) : badS x (i + 1) = badS x i ++ (if low c then [] else [⟨#[c]⟩]) := by
  unfold badS
  rw [List.take_add_one, h, List.filter_append, List.map_append]
  cases e : low c with
  | true => simp [e]
  | false => simp [e]
theorem bad_all (x : Str) : (badS x x.cps.size).isEmpty = x.cps.toList.all low := by
  unfold badS
  rw [List.take_of_length_le (by simp)]
  generalize x.cps.toList = l
  rw [Bool.eq_iff_iff]
  simp [List.isEmpty_iff, List.filter_eq_nil_iff]
theorem bad_len (x : Str) (i : Nat) : (badS x i).length ≤ i := by
  unfold badS
  rw [List.length_map]
  exact Nat.le_trans (List.length_filter_le _ _) (by rw [List.length_take]; omega)
theorem bad_asc {x : Str} (h : Asc x) (i : Nat) : ∀ y ∈ badS x i, Asc y := by
  intro y hy
  unfold badS at hy
  obtain ⟨c, hc, rfl⟩ := List.mem_map.mp hy
  exact asc_one (h c (List.mem_of_mem_take (List.mem_filter.mp hc).1))
section
variable {P : Program} {w : World} {K : PySem.W.Frag} {mg : Str → Option Value} {base : Heap}
theorem ok_is_parameter {f f_is_name : Addr} {fd fd_is_name : FuncData} {k : Nat} (F : Fun K "is_parameter" "is_parameter" s_is_parameter f fd) (T : TC K mg) (F_is_name : Fun K "is_name" "is_name" s_is_name f_is_name fd_is_name) (b_is_name : Binds K fd_is_name ["value"] []) (gl_is_name : mg "is_name" = some (.ref f_is_name)) :
    FnOk P w K mg base CX0 (k + 2) f fd ["value"] (spIsPar K) := by
  have G_is_name : FnOk P w K mg base CX0 1 f_is_name fd_is_name ["value"] (spIsName K) := ok_is_name F_is_name T
  refine F.ok sc_is_parameter (fun vs H Q E h => ?_) (fun cdv A outer s H vs Q E hr h => ?_)
  · obtain ⟨x, rfl, _⟩ := h
    rfl
  · obtain ⟨x, rfl, q⟩ := h
    refine ⟨_, (pss_one (ps_ret (pe_and (pe_callB CaV.call_isV (by rfl) T.n_isinstance (by decide +kernel) (pa_cons (pv 0) (pa_cons (pe_bltn (v := .ty "str") (by rfl) T.n_str (by decide +kernel) rfl) pa_nil))) (pe_and (pe_cmpR op_in_seq (pe_slice sl_str (pv 0) po_none (po_some pe_int)) (pe_tup (pa_cons pe_str (pa_cons pe_str pa_nil))) (by with_unfolding_all rfl)) (pe_one (pe_call G_is_name (hr.mono (by omega)) (by rfl) gl_is_name F_is_name.kp b_is_name .nil pass0 (pa_cons (pe_slice sl_str (pv 0) (po_some pe_int) po_none) pa_nil))))))), ?_⟩
    rcases q with ⟨z, rfl, hz, q⟩ | ⟨t, ty, hk, q⟩
    · refine ⟨_, rfl, _, _, _, _, true, rfl, .ty "str", .inl (.base (.str z)), kit_ty (by decide +kernel), true, rfl, iteT ?_⟩
      refine ⟨_, rfl, _, rfl, _, rfl, sz100 hz, (by show 2 ≤ sizeLine; decide), fun p np => ?_⟩
      refine ⟨p, _, rfl, .inr (SqT.of upd_same), rfl, rfl, _, rfl, ?_⟩
      have q := q _ (same_new (o := .tup [.str "?", .str "$"]) np)
      unfold parS at q
      show if inV (.str (cutS z none (some 1))) [.str "?", .str "$"] = true then _ else _
      cases e : inV (.str (cutS z none (some 1))) [.str "?", .str "$"] with
      | false =>
        rw [e] at q
        exact iteF q
      | true =>
        rw [e] at q
        refine iteT ?_
        have hc := cut_len z (some 1) none
        exact ⟨_, rfl, _, rfl, _, rfl, sz100 hz, _, rfl, .inl ⟨_, rfl, by omega, q⟩⟩
    · exact ⟨_, rfl, _, _, _, _, false, rfl, .ty "str", ty, hk, false, rfl, iteF q⟩
theorem ok_l_is_name {f : Addr} {fd : FuncData} {k : Nat} (F : Fun K "_law_is_name" "_law_is_name" s_l_is_name f fd) (T : TC K mg) : FnOk P w K mg base CX0 (k + 1) f fd ["_law_text"] spLIsName := by
  refine F.ok sc_l_is_name (fun vs H Q E h => ?_) (fun cdv A outer s H vs Q E hr h => ?_)
  · obtain ⟨x, rfl, _⟩ := h
    rfl
  · obtain ⟨z, rfl, hz, hasc, q⟩ := h
    refine ⟨_, (pss_cons (ps_if (PW.pt (pw_or (pt_cmpR (op_neD hr.units) (pe_lc (own := [("_law_sign", 1)]) (g := gName 1) (by rfl) sc_l_is_name.nd (pi_str (pv 0)) (blkOk_by (own := [("_law_sign", 1)]) (N := N_l_is_name) (sc := defScope s_l_is_name) (by decide +kernel)) (fun _ _ _ _ _ => pg_name (i := 1) sc_l_is_name.nd rfl (Or.inl rfl)) (fun _ _ _ _ _ => (pts_one (pt_not (pt_chain op_le_str op_le_str pe_str (pv 1) pe_str)))) (fun _ _ _ _ _ => (pv 1))) (pe_lst pa_nil) (nomark _)) (pw_or1 (pt_not (pt_chain op_lt op_lt pe_int (pe_callB call_len_str (by rfl) T.n_len PySem.boot_len (pa_cons (pv 0) pa_nil)) pe_int)))))
      (pss_one (ps_ret pe_bl))
      pss_nil)
    (pss_one (ps_ret (pe_cmpR op_notIn_seq (pv 0) (pe_tup (pa_cons pe_str (pa_cons pe_str (pa_cons pe_str (pa_cons pe_str (pa_cons pe_str pa_nil)))))) (by with_unfolding_all rfl))))), ?_⟩
    refine ⟨_, rfl, _, rfl, fun D hD => ?_⟩
    refine lc_it walk_str (fun i H5 => H5 D = some (.lst ((badS z i).map V.str)) ∧ Same H H5) ⟨upd_same, same_new hD⟩ (fun _ _ _ _ => trivial) ?_ ?_
    · rintro i x H5 H6 hi ⟨hD5, s5⟩ ⟨rfl, c, hc, rfl⟩
      have hcl : z.cps.toList[i]? = some c := by
        rw [Array.getElem?_toList]
        exact hc
      have e1 : decide (([c] : List Nat) < ("a" : Str).cps.toList) = decide (c < 97) := lt_one c 97
      have e2 : decide (("z" : Str).cps.toList < ([c] : List Nat)) = decide (122 < c) := lt_one 122 c
      have bs := bad_succ hcl
      refine ⟨rfl, _, rfl, _, _, rfl, rfl, _, rfl, ?_⟩
      show if (!decide (([c] : List Nat) < ("a" : Str).cps.toList)) = true then _ else _
      rw [e1]
      have keep : low c = false → ∃ acc, H6 D = some (.lst acc) ∧ acc.length < sizeLine ∧ ((upd H6 D (.lst (acc ++ [.str ⟨#[c]⟩]))) D = some (.lst ((badS z (i + 1)).map V.str)) ∧ Same H (upd H6 D (.lst (acc ++ [.str ⟨#[c]⟩])))) := fun e => by
        refine ⟨_, hD5, ?_, ?_, fun b o h => ?_⟩
        · rw [List.length_map]
          have := bad_len z i
          have hzl : z.cps.size = z.length := rfl
          exact Nat.lt_of_le_of_lt (show (badS z i).length ≤ 1000 by omega) (by decide)
        · rw [upd_same, bs, e, List.map_append]
          rfl
        · rw [upd_ne (ne_of_none h hD)]
          exact s5 b o h
      by_cases h1 : c < 97
      · rw [decide_eq_true h1]
        refine iteF ⟨_, rfl, iteT ⟨_, rfl, ?_⟩⟩
        refine keep ?_
        unfold low
        rw [decide_eq_false (by omega)]
        rfl
      · rw [decide_eq_false h1]
        refine iteT ⟨_, _, rfl, rfl, _, rfl, ?_⟩
        show if (!(!decide (("z" : Str).cps.toList < ([c] : List Nat)))) = true then _ else _
        rw [e2]
        by_cases h2 : 122 < c
        · rw [decide_eq_true h2]
          refine iteT ⟨_, rfl, ?_⟩
          refine keep ?_
          unfold low
          rw [show decide (c ≤ 122) = false from decide_eq_false (by omega), Bool.and_false]
        · rw [decide_eq_false h2]
          refine iteF ⟨?_, s5⟩
          have e : low c = true := by
            unfold low
            rw [decide_eq_true (by omega), decide_eq_true (by omega)]
            rfl
          rw [bs, e, if_pos rfl, List.append_nil]
          exact hD5
    · rintro H5 ⟨hD5, s5⟩
      refine ⟨Nat.zero_le _, fun p np => ?_⟩
      have hDp : (upd H5 p (.lst [])) D = some (.lst ((badS z z.cps.size).map V.str)) := by
        rw [upd_ne (ne_of_none hD5 np)]
        exact hD5
      refine ⟨_, _, .lst (SqL.of hDp) (dp_strs _), .lst (SqL.of upd_same) .nil, shaped_strs (bad_asc hasc _), by decide +kernel, _, rfl, ?_⟩
      rw [eqv_nil, bad_all]
      have s6 : Same H (upd H5 p (.lst [])) := s5.trans (same_new np)
      cases ea : z.cps.toList.all low with
      | false =>
        refine iteT (iteT ?_)
        have e : nameS z = false := by
          unfold nameS
          rw [ea]
          rfl
        have q := q _ s6
        rw [e] at q
        exact q
      | true =>
        refine iteF ?_
        refine ⟨_, rfl, _, rfl, sz100 hz, _, _, rfl, rfl, _, rfl, ?_⟩
        by_cases h0 : 0 < z.length
        · rw [decide_eq_true (show (0 : Int) < (z.length : Int) by omega)]
          refine iteT ⟨_, _, rfl, rfl, _, rfl, ?_⟩
          by_cases h7 : z.length < 7
          · rw [decide_eq_true (show (z.length : Int) < 7 by omega)]
            refine iteF ?_
            refine ⟨_, rfl, (by show 5 ≤ sizeLine; decide), fun p2 np2 => ?_⟩
            refine ⟨p2, _, rfl, .inr (SqT.of upd_same), rfl, rfl, ?_⟩
            have e : nameS z = !inV (.str z) (kws.map V.str) := by
              unfold nameS
              rw [ea, decide_eq_true h0, decide_eq_true h7]
              rfl
            have q := q _ (s6.trans (same_new (o := .tup (kws.map V.str)) np2))
            rw [e] at q
            exact q
          · rw [decide_eq_false (show ¬ (z.length : Int) < 7 by omega)]
            refine iteT ?_
            have e : nameS z = false := by
              unfold nameS
              rw [ea, decide_eq_true h0, decide_eq_false h7]
              rfl
            have q := q _ s6
            rw [e] at q
            exact q
        · rw [decide_eq_false (show ¬ (0 : Int) < (z.length : Int) by omega)]
          refine iteF ⟨_, rfl, iteT ?_⟩
          have e : nameS z = false := by
            unfold nameS
            rw [ea, decide_eq_false h0]
            rfl
          have q := q _ s6
          rw [e] at q
          exact q
end
end K01
set_option Elab.async false
set_option linter.all false
set_option maxRecDepth 100000
set_option pp.maxSteps 1500
namespace K01
open PySem PySem.Spec PyProof.Rows L2 CaV
abbrev s_init : Stmt := inClass (topS 9) 0
abbrev N_init : List Str := ["self", "value"]
theorem sc_init : FnScope N_init ["self", "value"] (defScope s_init) := ⟨rfl, rfl, rfl, by decide +kernel, rfl, by decide +kernel, by decide +kernel⟩
abbrev s_law : Stmt := topS 18
abbrev N_law : List Str := ["_law_script", "_law_k", "_law_box_here", "_law_low", "_law_high", "_law_number_here", "_law_odd", "_law_turn", "_law_text"]
theorem sc_law : FnScope N_law ["_law_script"] (defScope s_law) := ⟨rfl, rfl, rfl, by decide +kernel, rfl, by decide +kernel, by decide +kernel⟩
/-- the class of an exception: all that is asked of it -/
structure TX (K : PySem.W.Frag) (mg : Str → Option Value) (C fI : Addr) : Prop where
  ox : OexC K C
  ex : ExcC K C
  no : PySem.W.findIn K (.ref C) "value" = some none
  iC : PySem.W.findIn K (.ref C) "__init__" = some (some (.ref fI))
  tI : PySem.W.typeIn K (.ref fI) = some (.type "function")
  gC : mg "InvalidName" = some (.ref C)
  ks : PySem.W.kitOne K (.ref C) (.type "str") = some false
def spInit (C : Addr) : Sp := fun vs H Q _ => ∃ (a : Addr) (v : V), vs = [.ref a, v] ∧ H a = some (exo a C none) ∧ ∀ dx, H dx = none → dx ≠ a → Q .non (upd (upd H dx (exd dx [("value", v)])) a (exo a C (some dx)))
def spLaw (K : PySem.W.Frag) : Sp := fun vs H Q _ => ∃ (a : Addr) (ns : List Int), vs = [.ref a] ∧ SqL K H a (ns.map V.int) ∧ ns.length ≤ 63 ∧ ∀ H', Q (.bl true) H'
/-- no int, or a bool -/
def OddI (K : PySem.W.Frag) (H : Hp) (x : V) : Prop := (∃ b, x = .bl b) ∨ ∃ t, TyE K H x t ∧ PySem.W.kitOne K t (.type "int") = some false
/-- no text -/
def OddN (K : PySem.W.Frag) (H : Hp) (x : V) : Prop := ∃ t, TyE K H x t ∧ PySem.W.kitOne K t (.type "str") = some false
theorem oddI_or {K : PySem.W.Frag} {H : Hp} {x : V} {A : Prop} (o : OddI K H x) (q : A) : ((∃ b, x = .bl b) ∧ A) ∨ (∃ t, TyE K H x t ∧ PySem.W.kitOne K t (.type "int") = some false ∧ A) := by
  rcases o with h | ⟨t, h1, h2⟩
  · exact .inl ⟨h, q⟩
  · exact .inr ⟨t, h1, h2, q⟩
theorem same_put {H : Hp} {p : Addr} {o o' : HO} (h : H p = none) : Same H (upd (upd H p o) p o') := fun b x e => by
  rw [upd_ne (ne_of_none e h), upd_ne (ne_of_none e h)]
  exact e
theorem _root_.CaV.Bx.same {H H' : Hp} {b : Addr} {n : Nat} (h : Bx H b n) (s : Same H H') : Bx H' b n := by
  obtain ⟨m, r, c, h1, h⟩ := h
  exact ⟨m, r, c, s _ _ h1, h⟩
theorem _root_.CaV.ExAt.same {H H' : Hp} {C a : Addr} (h : ExAt H C a) (s : Same H H') : ExAt H' C a := by
  obtain ⟨d, fs, h1, h2⟩ := h
  exact ⟨d, fs, s _ _ h1, s _ _ h2⟩
theorem same_exc {H : Hp} {C e0 dx ea : Addr} {ex ey ez ew eq : HO} (m0 : H e0 = none) (nd : H dx = none) (ma : upd (del (upd (upd (upd H e0 ex) dx ey) e0 ez) e0) dx ew ea = none) : Same H (upd (upd (del (upd (upd (upd H e0 ex) dx ey) e0 ez) e0) dx ew) ea eq) := fun b o e => by
  have n0 : b ≠ e0 := ne_of_none e m0
  have n1 : b ≠ dx := ne_of_none e nd
  have n2 : b ≠ ea := fun z => by
    rw [← z, upd_ne n1, del_ne n0, upd_ne n0, upd_ne n1, upd_ne n0, e] at ma
    cases ma
  rw [upd_ne n2, upd_ne n1, del_ne n0, upd_ne n0, upd_ne n1, upd_ne n0]
  exact e
theorem ifn {b : Bool} {A B : Prop} (e : b = true) (h : B) : if (!b) = true then A else B := by
  rw [e]
  exact iteF h
theorem mem_get {xs : List V} {i : Nat} {y : V} (h : xs[i]? = some y) : y ∈ xs := List.mem_of_getElem? h
theorem par_empty {t : Str} (h : inV (.str (cutS t none (some 1))) [.str "?", .str "$"] = true) : ¬ V.str t = V.str "" := fun e => by
  have e := V.str.inj e
  subst e
  have z : inV (.str (cutS "" none (some 1))) [.str "?", .str "$"] = false := by decide +kernel
  rw [z] at h
  cases h
section
variable {P : Program} {w : World} {K : PySem.W.Frag} {mg : Str → Option Value} {base : Heap}
theorem ok_init {f C fI : Addr} {fd : FuncData} {k : Nat} (F : Fun K "__init__" "InvalidName.__init__" s_init f fd) (X : TX K mg C fI) : FnOk P w K mg base CX0 (k + 1) f fd ["self", "value"] (spInit C) := by
  refine F.ok sc_init (fun vs H Q E h => ?_) (fun cdv A outer s H vs Q E hr h => ?_)
  · obtain ⟨a, v, rfl, _⟩ := h
    rfl
  · obtain ⟨a, v, rfl, ha, q⟩ := h
    exact ⟨_, pss_one (ps_ost (pv 0) (pv 1)), _, rfl, _, rfl, a, C, rfl, X.ox, X.no, .inl ⟨ha, q⟩⟩
theorem ok_law {f C fI f_any f_is_integer f_is_name f_is_parameter f_l_cell f_l_box f_l_take f_l_number f_l_string f_l_is_name f_l_is : Addr} {fd fdI fd_any fd_is_integer fd_is_name fd_is_parameter fd_l_cell fd_l_box fd_l_take fd_l_number fd_l_string fd_l_is_name fd_l_is : FuncData}
    (F : Fun K "law" "law" s_law f fd) (T : TC K mg) (n_max : mg "max" = none) (n_min : mg "min" = none) (n_range : mg "range" = none) (X : TX K mg C fI) (FI : Fun K "__init__" "InvalidName.__init__" s_init fI fdI) (bI : Binds K fdI ["self", "value"] [])
    (F_any : Fun K "is_any_integer" "is_any_integer" s_is_any_integer f_any fd_any) (b_any : Binds K fd_any ["value"] []) (g_any : mg "is_any_integer" = some (.ref f_any))
    (F_is_integer : Fun K "is_integer" "is_integer" s_is_integer f_is_integer fd_is_integer) (b_is_integer : Binds K fd_is_integer ["value", "low", "high"] []) (gl_is_integer : mg "is_integer" = some (.ref f_is_integer))
    (F_is_name : Fun K "is_name" "is_name" s_is_name f_is_name fd_is_name) (b_is_name : Binds K fd_is_name ["value"] []) (gl_is_name : mg "is_name" = some (.ref f_is_name))
    (F_is_parameter : Fun K "is_parameter" "is_parameter" s_is_parameter f_is_parameter fd_is_parameter) (b_is_parameter : Binds K fd_is_parameter ["value"] []) (gl_is_parameter : mg "is_parameter" = some (.ref f_is_parameter))
    (F_l_cell : Fun K "_law_cell" "_law_cell" s_l_cell f_l_cell fd_l_cell) (b_l_cell : Binds K fd_l_cell ["_law_script", "_law_k"] []) (gl_l_cell : mg "_law_cell" = some (.ref f_l_cell))
    (F_l_box : Fun K "_law_box" "_law_box" s_l_box f_l_box fd_l_box) (b_l_box : Binds K fd_l_box ["_law_cell_here"] []) (gl_l_box : mg "_law_box" = some (.ref f_l_box))
    (F_l_take : Fun K "_law_take" "_law_take" s_l_take f_l_take fd_l_take) (b_l_take : Binds K fd_l_take ["_law_box_here", "_law_many"] []) (gl_l_take : mg "_law_take" = some (.ref f_l_take))
    (F_l_number : Fun K "_law_number" "_law_number" s_l_number f_l_number fd_l_number) (b_l_number : Binds K fd_l_number ["_law_box_here"] []) (gl_l_number : mg "_law_number" = some (.ref f_l_number))
    (F_l_string : Fun K "_law_string" "_law_string" s_l_string f_l_string fd_l_string) (b_l_string : Binds K fd_l_string ["_law_box_here"] []) (gl_l_string : mg "_law_string" = some (.ref f_l_string))
    (F_l_is_name : Fun K "_law_is_name" "_law_is_name" s_l_is_name f_l_is_name fd_l_is_name) (b_l_is_name : Binds K fd_l_is_name ["_law_text"] []) (gl_l_is_name : mg "_law_is_name" = some (.ref f_l_is_name))
    (F_l_is : Fun K "_law_is" "_law_is" s_l_is f_l_is fd_l_is) (b_l_is : Binds K fd_l_is ["_law_found", "_law_due"] []) (gl_l_is : mg "_law_is" = some (.ref f_l_is)) :
    FnOk P w K mg base CX0 4 f fd ["_law_script"] (spLaw K) := by
  have TBx : TB mg := ⟨T.n_len, n_max⟩
  have GI : FnOk P w K mg base CX0 1 fI fdI ["self", "value"] (spInit C) := ok_init FI X
  have G_is_integer : FnOk P w K mg base CX0 2 f_is_integer fd_is_integer ["value", "low", "high"] (spIsInt K) := ok_is_integer F_is_integer T F_any b_any g_any
  have G_is_name : FnOk P w K mg base CX0 1 f_is_name fd_is_name ["value"] (spIsName K) := ok_is_name F_is_name T
  have G_is_parameter : FnOk P w K mg base CX0 2 f_is_parameter fd_is_parameter ["value"] (spIsPar K) := ok_is_parameter F_is_parameter T F_is_name b_is_name gl_is_name
  have G_l_cell : FnOk P w K mg base CX0 1 f_l_cell fd_l_cell ["_law_script", "_law_k"] (spCell K) := ok_cell F_l_cell TBx
  have G_l_box : FnOk P w K mg base CX0 1 f_l_box fd_l_box ["_law_cell_here"] spBox := ok_box F_l_box TBx
  have G_l_take : FnOk P w K mg base CX0 1 f_l_take fd_l_take ["_law_box_here", "_law_many"] spTake := ok_take F_l_take
  have G_l_number : FnOk P w K mg base CX0 2 f_l_number fd_l_number ["_law_box_here"] spNumber := ok_number F_l_number F_l_take b_l_take gl_l_take
  have G_l_string : FnOk P w K mg base CX0 2 f_l_string fd_l_string ["_law_box_here"] spString := ok_string F_l_string F_l_take b_l_take gl_l_take n_range T.n_len
  have G_l_is_name : FnOk P w K mg base CX0 1 f_l_is_name fd_l_is_name ["_law_text"] spLIsName := ok_l_is_name F_l_is_name T
  have G_l_is : FnOk P w K mg base CX0 1 f_l_is fd_l_is ["_law_found", "_law_due"] spLIs := ok_l_is F_l_is T
  refine F.ok sc_law (fun vs H Q E h => ?_) (fun cdv A outer s H vs Q E hr h => ?_)
  · obtain ⟨a, ns, rfl, _⟩ := h
    rfl
  · obtain ⟨a, ns, rfl, hS, hlen, q⟩ := h
    refine ⟨_, (pss_cons (ps_for PassesOwn.never rfl (pi_range1 (by rfl) n_range (pa_cons (pe_callB (call_max2 rfl) (by rfl) n_max (by decide +kernel) (pa_cons pe_int (pa_cons (pe_callB (call_min2 rfl) (by rfl) n_min (by decide +kernel) (pa_cons pe_int (pa_cons (pe_callB call_len_seq (by rfl) T.n_len PySem.boot_len (pa_cons (pv 0) pa_nil)) pa_nil))) pa_nil))) pa_nil)) (pg_name (i := 1) sc_law.nd rfl (.inl rfl))
      (pss_cons (ps_set (i := 2) sc_law.nd rfl (.inl rfl) (pe_call G_l_box (hr.mono (by omega)) (by rfl) gl_l_box F_l_box.kp b_l_box .nil pass0 (pa_cons (pe_call G_l_cell (hr.mono (by omega)) (by rfl) gl_l_cell F_l_cell.kp b_l_cell .nil pass0 (pa_cons (pv 0) (pa_cons (pv 1) pa_nil))) pa_nil)))
      (pss_cons (ps_set (i := 3) sc_law.nd rfl (.inl rfl) (pe_call G_l_number (hr.mono (by omega)) (by rfl) gl_l_number F_l_number.kp b_l_number .nil pass0 (pa_cons (pv 2) pa_nil)))
      (pss_cons (ps_set (i := 4) sc_law.nd rfl (.inl rfl) (pe_ix ix_list (pe_lst (pa_cons (pe_op op_add (pe_op op_sub (pv 3) pe_int) (pe_call G_l_take (hr.mono (by omega)) (by rfl) gl_l_take F_l_take.kp b_l_take .nil pass0 (pa_cons (pv 2) (pa_cons pe_int pa_nil)))) (pa_cons (pe_call G_l_number (hr.mono (by omega)) (by rfl) gl_l_number F_l_number.kp b_l_number .nil pass0 (pa_cons (pv 2) pa_nil)) pa_nil))) (pe_call G_l_take (hr.mono (by omega)) (by rfl) gl_l_take F_l_take.kp b_l_take .nil pass0 (pa_cons (pv 2) (pa_cons pe_int pa_nil))) (fun _ _ => rfl)))
      (pss_cons (ps_for PassesOwn.never rfl (pi_list (pe_lst (pa_cons (pe_op op_sub (pv 3) pe_int) (pa_cons (pv 3) (pa_cons (pe_op op_add (pv 3) pe_int) (pa_cons (pe_op op_sub (pv 4) pe_int) (pa_cons (pv 4) (pa_cons (pe_op op_add (pv 4) pe_int) (pa_cons pe_int (pa_cons (pe_call G_l_number (hr.mono (by omega)) (by rfl) gl_l_number F_l_number.kp b_l_number .nil pass0 (pa_cons (pv 2) pa_nil)) pa_nil)))))))))) (pg_name (i := 5) sc_law.nd rfl (.inl rfl))
        (pss_one (ps_if (pt_not (pt_val (pe_call G_l_is (hr.mono (by omega)) (by rfl) gl_l_is F_l_is.kp b_l_is .nil pass0 (pa_cons (pe_call G_is_integer (hr.mono (by omega)) (by rfl) gl_is_integer F_is_integer.kp b_is_integer .nil pass0 (pa_cons (pv 5) (pa_cons (pv 3) (pa_cons (pv 4) pa_nil)))) (pa_cons (pe_chain op_le op_le (pv 3) (pv 5) (pv 4)) pa_nil)))))
          (pss_one (ps_ret pe_bl))
          pss_nil)))
      (pss_cons (ps_for PassesOwn.never rfl (pi_list (pe_lst (pa_cons pe_non (pa_cons pe_bl (pa_cons pe_bl (pa_cons pe_str (pa_cons pe_str (pa_cons (pe_callTy call_str_int (by rfl) T.n_str (by decide +kernel) (pa_cons (pv 3) pa_nil)) (pa_cons (pe_lst (pa_cons (pv 3) pa_nil)) (pa_cons (pe_tup (pa_cons (pv 3) pa_nil)) (pa_cons pe_dnewK (pa_cons (pe_disp (pps_cons (pv 3) (pv 3) pps_nil) (by rfl) (by rfl) (fun z => by cases z) (by decide)) pa_nil)))))))))))) (pg_name (i := 6) sc_law.nd rfl (.inl rfl))
        (pss_one (ps_if (PW.pt (pw_or (pt_not (pt_val (pe_call G_l_is (hr.mono (by omega)) (by rfl) gl_l_is F_l_is.kp b_l_is .nil pass0 (pa_cons (pe_call G_is_integer (hr.mono (by omega)) (by rfl) gl_is_integer F_is_integer.kp b_is_integer .nil pass0 (pa_cons (pv 6) (pa_cons (pv 3) (pa_cons (pv 4) pa_nil)))) (pa_cons pe_bl pa_nil))))) (pw_or1 (pt_not (pt_val (pe_call G_l_is (hr.mono (by omega)) (by rfl) gl_l_is F_l_is.kp b_l_is .nil pass0 (pa_cons (pe_call G_is_integer (hr.mono (by omega)) (by rfl) gl_is_integer F_is_integer.kp b_is_integer .nil pass0 (pa_cons (pv 6) (pa_cons pe_int (pa_cons pe_int pa_nil)))) (pa_cons pe_bl pa_nil))))))))
          (pss_one (ps_ret pe_bl))
          pss_nil)))
      (pss_cons (ps_for PassesOwn.never rfl (pi_range1 (by rfl) n_range (pa_cons pe_int pa_nil)) (pg_name (i := 7) sc_law.nd rfl (.inl rfl))
        (pss_cons (ps_set (i := 8) sc_law.nd rfl (.inl rfl) (pe_call G_l_string (hr.mono (by omega)) (by rfl) gl_l_string F_l_string.kp b_l_string .nil pass0 (pa_cons (pv 2) pa_nil)))
        (pss_cons (ps_if (pt_not (pt_val (pe_call G_l_is (hr.mono (by omega)) (by rfl) gl_l_is F_l_is.kp b_l_is .nil pass0 (pa_cons (pe_call G_is_name (hr.mono (by omega)) (by rfl) gl_is_name F_is_name.kp b_is_name .nil pass0 (pa_cons (pv 8) pa_nil)) (pa_cons (pe_call G_l_is_name (hr.mono (by omega)) (by rfl) gl_l_is_name F_l_is_name.kp b_l_is_name .nil pass0 (pa_cons (pv 8) pa_nil)) pa_nil)))))
          (pss_one (ps_ret pe_bl))
          pss_nil)
        (pss_one (ps_if (pt_not (pt_val (pe_call G_l_is (hr.mono (by omega)) (by rfl) gl_l_is F_l_is.kp b_l_is .nil pass0 (pa_cons (pe_call G_is_parameter (hr.mono (by omega)) (by rfl) gl_is_parameter F_is_parameter.kp b_is_parameter .nil pass0 (pa_cons (pv 8) pa_nil)) (pa_cons (pe_and (pe_cmpR op_in_seq (pe_slice sl_str (pv 8) po_none (po_some pe_int)) (pe_tup (pa_cons pe_str (pa_cons pe_str pa_nil))) (by with_unfolding_all rfl)) (pe_and (pe_cmpR op_ne (pv 8) pe_str (nomark _)) (pe_one (pe_call G_l_is_name (hr.mono (by omega)) (by rfl) gl_l_is_name F_l_is_name.kp b_l_is_name .nil pass0 (pa_cons (pe_slice sl_str (pv 8) (po_some pe_int) po_none) pa_nil))))) pa_nil)))))
          (pss_one (ps_ret pe_bl))
          pss_nil)))))
      (pss_one (ps_for PassesOwn.never rfl (pi_list (pe_lst (pa_cons pe_non (pa_cons pe_bl (pa_cons pe_int (pa_cons (pv 3) (pa_cons (pe_lst (pa_cons pe_str pa_nil)) (pa_cons (pe_tup (pa_cons pe_str pa_nil)) (pa_cons (pe_lst (pa_cons pe_str pa_nil)) (pa_cons (pe_disp (pps_cons pe_str pe_str pps_nil) (by rfl) (by rfl) (fun z => by cases z) (by decide)) (pa_cons pe_dnewK (pa_cons (pe_tup (pa_cons pe_str (pa_cons pe_str pa_nil))) (pa_cons (pe_of_mk (pmk_oex X.ox X.iC X.tI GI (hr.mono (by omega)) bI .nil pass0 (by rfl) X.gC (pa_cons pe_str pa_nil))) pa_nil))))))))))))) (pg_name (i := 6) sc_law.nd rfl (.inl rfl))
        (pss_one (ps_if (PW.pt (pw_or (pt_not (pt_val (pe_call G_l_is (hr.mono (by omega)) (by rfl) gl_l_is F_l_is.kp b_l_is .nil pass0 (pa_cons (pe_call G_is_name (hr.mono (by omega)) (by rfl) gl_is_name F_is_name.kp b_is_name .nil pass0 (pa_cons (pv 6) pa_nil)) (pa_cons pe_bl pa_nil))))) (pw_or1 (pt_not (pt_val (pe_call G_l_is (hr.mono (by omega)) (by rfl) gl_l_is F_l_is.kp b_l_is .nil pass0 (pa_cons (pe_call G_is_parameter (hr.mono (by omega)) (by rfl) gl_is_parameter F_is_parameter.kp b_is_parameter .nil pass0 (pa_cons (pv 6) pa_nil)) (pa_cons pe_bl pa_nil))))))))
          (pss_one (ps_ret pe_bl))
          pss_nil)))))))))))
    (pss_one (ps_ret pe_bl))), ?_⟩
    refine ⟨_, rfl, a, _, rfl, .inl hS, _, _, rfl, _, _, rfl, ?_⟩
    generalize hj : (if (if ((List.map V.int ns).length : Int) < 30 then ((List.map V.int ns).length : Int) else 30) > 1 then (if ((List.map V.int ns).length : Int) < 30 then ((List.map V.int ns).length : Int) else 30) else 1) = j
    have hj1 : 1 ≤ j ∧ j ≤ 30 := by
      rw [← hj]
      split <;> (try split) <;> omega
    refine ⟨j, rfl, by omega, by omega, ?_⟩
    refine for_range (lo := 0) (n := j.toNat) (fun i σ H1 => ∃ v1 v2 v3 v4 v5 v6 v7 v8, σ = [some (.ref a), v1, v2, v3, v4, v5, v6, v7, v8] ∧ Same H H1) ⟨none, none, none, none, none, none, none, none, rfl, Same.refl H⟩ ?_ ?_
    · rintro i σ H0 hi ⟨v1, v2, v3, v4, v5, v6, v7, v8, rfl, s0⟩
      -- the purse
      refine ⟨_, rfl, _, rfl, a, ns, 0 + (i : Int), rfl, s0.seq hS, by omega, fun x => ?_⟩
      refine ⟨x, rfl, fun b H1 nb s1 bx => ?_⟩
      have S1 : Same H H1 := s0.trans s1
      have nbH : H b = none := s0.free nb
      -- low
      refine ⟨_, rfl, b, 0, rfl, bx, by decide, fun low H2 hlow bx2 k2 => ?_⟩
      -- high
      refine ⟨_, rfl, _, _, rfl, rfl, _, rfl, b, _, 8, rfl, bx2, by decide, by decide, by decide, fun d H3 d0 d6 bx3 k3 => ?_⟩
      refine ⟨_, _, rfl, rfl, _, rfl, b, 9, rfl, bx3, by decide, fun oth H4 hoth bx4 k4 => ?_⟩
      refine ⟨(by show 2 ≤ sizeLine; decide), fun p np => ?_⟩
      refine ⟨_, rfl, b, _, 17, rfl, bx4.new np, by decide, by decide, by decide, fun e H5 e0 e2 bx5 k5 => ?_⟩
      obtain ⟨vh, hvh, eh⟩ := atI_in (xs := [V.int (low - 2 + d), .int oth]) (i := e) e0 (by simpa using e2)
      obtain ⟨high, rfl⟩ : ∃ high : Int, vh = .int high := by
        simp only [List.mem_cons, List.not_mem_nil, or_false] at hvh
        rcases hvh with rfl | rfl
        · exact ⟨_, rfl⟩
        · exact ⟨_, rfl⟩
      have hp5 : H5 p = some (.lst [V.int (low - 2 + d), .int oth]) := k5 p _ upd_same (bx4.ne np)
      refine ⟨p, _, _, .int high, rfl, rfl, SqL.of hp5, eh, ?_⟩
      have S5 : Same H H5 := (((((k2.trans k3).trans k4).trans (Kp.new np)).trans k5).same S1 nbH)
      -- the numbers
      refine ⟨_, rfl, _, _, rfl, rfl, _, rfl, _, rfl, _, _, rfl, rfl, _, rfl, _, _, rfl, rfl, _, rfl, _, rfl, _, _, rfl, rfl, _, rfl, b, 18, rfl, bx5, by decide, fun x8 H6 hx8 bx6 k6 => ?_⟩
      have S6 : Same H H6 := k6.same S5 nbH
      refine ⟨(by show 8 ≤ sizeLine; decide), fun l nl => ?_⟩
      refine ⟨l, rfl, ⟨_, SqL.of upd_same⟩, for_list (K := K) (a := l) (xs := ([low - 1, low, low + 1, high - 1, high, high + 1, 0, x8] : List Int).map V.int) (fun _ σ H' => ∃ v5, σ = [some (.ref a), some (.int (0 + (i : Int))), some (.ref b), some (.int low), some (.int high), v5, v6, v7, v8] ∧ H' = upd H6 l (.lst (([low - 1, low, low + 1, high - 1, high, high + 1, 0, x8] : List Int).map V.int))) ⟨v5, rfl, rfl⟩ (fun _ σ H' _ ⟨_, _, e⟩ => by rw [e]; exact SqL.of upd_same) ?_ ?_⟩
      · rintro i2 y σ H' hy ⟨v5, rfl, rfl⟩
        obtain ⟨z, _, rfl⟩ := List.mem_map.mp (mem_get hy)
        refine ⟨_, rfl, _, rfl, _, rfl, _, _, _, rfl, .inl ⟨z, rfl, ?_⟩⟩
        refine ⟨_, rfl, _, rfl, _, _, rfl, rfl, _, rfl, ?_⟩
        cases e1 : decide (low ≤ z) with
        | false =>
          refine iteF ⟨_, _, rfl, _, rfl, ?_⟩
          exact ifn rfl ⟨_, rfl, rfl⟩
        | true =>
          refine iteT ⟨_, rfl, _, _, rfl, rfl, _, _, rfl, _, rfl, ?_⟩
          exact ifn (by simp) ⟨_, rfl, rfl⟩
      · rintro σ H' ⟨v5, rfl, rfl⟩
        have S7 : Same H (upd H6 l (.lst (([low - 1, low, low + 1, high - 1, high, high + 1, 0, x8] : List Int).map V.int))) := S6.trans (same_new nl)
        have bx7 : Bx (upd H6 l (.lst (([low - 1, low, low + 1, high - 1, high, high + 1, 0, x8] : List Int).map V.int))) b 26 := bx6.new nl
        generalize upd H6 l (.lst (([low - 1, low, low + 1, high - 1, high, high + 1, 0, x8] : List Int).map V.int)) = H7 at S7 bx7
        -- odd things
        have hlog : low.natAbs.log2 < 1920 := by
          have h : low.natAbs < 2 ^ 104 := by omega
          exact Nat.lt_of_lt_of_le (PySem.Flt.log2_lt_of (by decide) h) (by decide)
        refine ⟨_, rfl, low, rfl, hlog, ?_⟩
        refine ⟨_, rfl, (by show 1 ≤ sizeLine; decide), fun q1 n1 => ?_⟩
        have a1 : (upd H7 q1 (.lst [V.int low])) q1 = some (.lst [V.int low]) := upd_same
        have S8 := S7.trans (same_new (o := .lst [V.int low]) n1)
        have bx8 := bx7.new (o := .lst [V.int low]) n1
        generalize upd H7 q1 (.lst [V.int low]) = A1 at a1 S8 bx8 ⊢
        refine ⟨_, rfl, (by show 1 ≤ sizeLine; decide), fun q2 n2 => ?_⟩
        have a2 : (upd A1 q2 (.tup [V.int low])) q2 = some (.tup [V.int low]) := upd_same
        have c2 := same_new (o := .tup [V.int low]) n2
        have a1 := c2 _ _ a1
        have S8 := S8.trans c2
        have bx8 := bx8.new (o := .tup [V.int low]) n2
        generalize upd A1 q2 (.tup [V.int low]) = A2 at a1 a2 S8 bx8 ⊢
        clear c2
        refine fun q3 n3 => ?_
        have a3 : (upd A2 q3 (.dK [])) q3 = some (.dK []) := upd_same
        have c3 := same_new (o := .dK []) n3
        have a1 := c3 _ _ a1
        have a2 := c3 _ _ a2
        have S8 := S8.trans c3
        have bx8 := bx8.new (o := .dK []) n3
        generalize upd A2 q3 (.dK []) = A3 at a1 a2 a3 S8 bx8 ⊢
        clear c3
        refine fun q4 n4 => ⟨_, rfl, _, rfl, upd_same, [(Sum.inl low, .int low)], rfl, (by show 1 ≤ 15; decide), ?_⟩
        have a4 : (upd (upd A3 q4 (.dK [])) q4 (.dK (mergeK [] [(Sum.inl low, .int low)]))) q4 = some (.dK (mergeK [] [(Sum.inl low, .int low)])) := upd_same
        have c4 := same_put (o := .dK []) (o' := .dK (mergeK [] [(Sum.inl low, .int low)])) n4
        have a1 := c4 _ _ a1
        have a2 := c4 _ _ a2
        have a3 := c4 _ _ a3
        have S8 := S8.trans c4
        have bx8 := bx8.same c4
        generalize upd (upd A3 q4 (.dK [])) q4 (.dK (mergeK [] [(Sum.inl low, .int low)])) = A4 at a1 a2 a3 a4 S8 bx8 ⊢
        clear c4
        refine ⟨(by show 10 ≤ sizeLine; decide), fun l2 nl2 => ?_⟩
        have e5 : (upd A4 l2 (.lst [V.non, .bl true, .bl false, .str "", .str "0", .str (Str.ofString (toString low)), .ref q1, .ref q2, .ref q3, .ref q4])) l2 = some (.lst [V.non, .bl true, .bl false, .str "", .str "0", .str (Str.ofString (toString low)), .ref q1, .ref q2, .ref q3, .ref q4]) := upd_same
        have c5 := same_new (o := .lst [V.non, .bl true, .bl false, .str "", .str "0", .str (Str.ofString (toString low)), .ref q1, .ref q2, .ref q3, .ref q4]) nl2
        have a1 := c5 _ _ a1
        have a2 := c5 _ _ a2
        have a3 := c5 _ _ a3
        have a4 := c5 _ _ a4
        have S8 := S8.trans c5
        have bx8 := bx8.same c5
        generalize upd A4 l2 (.lst [V.non, .bl true, .bl false, .str "", .str "0", .str (Str.ofString (toString low)), .ref q1, .ref q2, .ref q3, .ref q4]) = A5 at a1 a2 a3 a4 e5 S8 bx8 ⊢
        clear c5
        refine ⟨l2, rfl, ⟨_, SqL.of e5⟩, for_list (K := K) (a := l2) (xs := [V.non, .bl true, .bl false, .str "", .str "0", .str (Str.ofString (toString low)), .ref q1, .ref q2, .ref q3, .ref q4]) (fun _ σ H' => ∃ v6, σ = [some (.ref a), some (.int (0 + (i : Int))), some (.ref b), some (.int low), some (.int high), v5, v6, v7, v8] ∧ H' = A5) ⟨v6, rfl, rfl⟩ (fun _ σ H' _ ⟨_, _, e⟩ => by rw [e]; exact SqL.of e5) ?_ ?_⟩
        · rintro i2 y σ H' hy ⟨v6', rfl, rfl⟩
          have odd : OddI K H' y := by
            have hm := mem_get hy
            simp only [List.mem_cons, List.not_mem_nil, or_false] at hm
            rcases hm with rfl | rfl | rfl | rfl | rfl | rfl | rfl | rfl | rfl | rfl
            · exact .inr ⟨_, .inl (.base .non), kit_ty (by decide +kernel)⟩
            · exact .inl ⟨_, rfl⟩
            · exact .inl ⟨_, rfl⟩
            · exact .inr ⟨_, .inl (.base (.str _)), kit_ty (by decide +kernel)⟩
            · exact .inr ⟨_, .inl (.base (.str _)), kit_ty (by decide +kernel)⟩
            · exact .inr ⟨_, .inl (.base (.str _)), kit_ty (by decide +kernel)⟩
            · exact .inr ⟨_, .inl (.base (.lst a1)), kit_ty (by decide +kernel)⟩
            · exact .inr ⟨_, .inl (.base (.tup a2)), kit_ty (by decide +kernel)⟩
            · exact .inr ⟨_, .inl (.base (.dK a3)), kit_ty (by decide +kernel)⟩
            · exact .inr ⟨_, .inl (.base (.dK a4)), kit_ty (by decide +kernel)⟩
          refine ⟨_, rfl, _, rfl, _, rfl, _, _, _, rfl, (.inr (oddI_or odd ?_))⟩
          refine ⟨_, _, rfl, _, rfl, ifn rfl ⟨_, rfl, _, _, _, rfl, (.inr (oddI_or odd ?_))⟩⟩
          exact ⟨_, _, rfl, _, rfl, ifn rfl ⟨_, rfl, rfl⟩⟩
        · rintro σ H' ⟨v6', rfl, rfl⟩
          -- texts
          refine ⟨4, rfl, by decide, by decide, for_range (lo := 0) (n := 4) (fun i3 σ H9 => ∃ v7 v8, σ = [some (.ref a), some (.int (0 + (i : Int))), some (.ref b), some (.int low), some (.int high), v5, v6', v7, v8] ∧ Same H H9 ∧ Bx H9 b (26 + 20 * i3)) ⟨v7, v8, rfl, S8, bx8⟩ ?_ ?_⟩
          · rintro i3 σ H9 hi3 ⟨w7, w8, rfl, S9, bx9⟩
            refine ⟨_, rfl, b, _, rfl, bx9, by omega, fun t H10 ht ha bx10 k10 => ?_⟩
            have S10 : Same H H10 := k10.same S9 nbH
            refine ⟨_, rfl, _, rfl, .inl ⟨t, rfl, by omega, ?_⟩⟩
            refine ⟨_, rfl, t, rfl, by omega, ha, fun H11 s11 => ?_⟩
            refine ⟨_, _, rfl, _, rfl, ifn (by simp) ?_⟩
            refine ⟨_, rfl, _, rfl, .inl ⟨t, rfl, by omega, fun H12 s12 => ?_⟩⟩
            refine ⟨_, rfl, _, rfl, _, rfl, sz100 (by omega), (by show 2 ≤ sizeLine; decide), fun p2 np2 => ?_⟩
            refine ⟨p2, _, rfl, .inr (SqT.of upd_same), rfl, rfl, _, rfl, ?_⟩
            have c12 := (s11.trans s12).trans (same_new (o := .tup [.str "?", .str "$"]) np2)
            show if inV (.str (cutS t none (some 1))) [.str "?", .str "$"] = true then _ else _
            cases e : inV (.str (cutS t none (some 1))) [.str "?", .str "$"] with
            | false =>
              refine iteF ?_
              refine ⟨_, _, rfl, _, rfl, ifn (by unfold parS; rw [e]; rfl) ?_⟩
              exact ⟨_, _, rfl, S10.trans c12, (bx10.same c12).mono (by omega)⟩
            | true =>
              refine iteT ?_
              refine ⟨_, rfl, rfl, _, rfl, ?_⟩
              rw [decide_eq_false (par_empty e)]
              refine iteT ?_
              have hc := cut_len t (some 1) none
              refine ⟨_, rfl, _, rfl, _, rfl, sz100 (by omega), _, rfl, by omega, asc_cut _ _ ha, fun H13 s13 => ?_⟩
              refine ⟨_, _, rfl, _, rfl, ifn (by unfold parS; rw [e]; simp) ?_⟩
              exact ⟨_, _, rfl, S10.trans (c12.trans s13), (bx10.same (c12.trans s13)).mono (by omega)⟩
          · rintro σ H9 ⟨w7, w8, rfl, S9, bx9⟩
            clear a1 a2 a3 a4 e5 S8 bx8
            refine ⟨_, rfl, (by show 1 ≤ sizeLine; decide), fun q1 n1 => ?_⟩
            have a1 : (upd H9 q1 (.lst [V.str "a"])) q1 = some (.lst [V.str "a"]) := upd_same
            have S9 := S9.trans (same_new (o := .lst [V.str "a"]) n1)
            generalize upd H9 q1 (.lst [V.str "a"]) = A1 at a1 S9 ⊢
            refine ⟨(by show 1 ≤ sizeLine; decide), fun q2 n2 => ?_⟩
            have a2 : (upd A1 q2 (.tup [V.str "a"])) q2 = some (.tup [V.str "a"]) := upd_same
            have c2 := same_new (o := .tup [V.str "a"]) n2
            have a1 := c2 _ _ a1
            have S9 := S9.trans c2
            generalize upd A1 q2 (.tup [V.str "a"]) = A2 at a1 a2 S9 ⊢
            clear c2
            refine ⟨(by show 1 ≤ sizeLine; decide), fun q3 n3 => ?_⟩
            have a3 : (upd A2 q3 (.lst [V.str "?a"])) q3 = some (.lst [V.str "?a"]) := upd_same
            have c3 := same_new (o := .lst [V.str "?a"]) n3
            have a1 := c3 _ _ a1
            have a2 := c3 _ _ a2
            have S9 := S9.trans c3
            generalize upd A2 q3 (.lst [V.str "?a"]) = A3 at a1 a2 a3 S9 ⊢
            clear c3
            refine fun q4 n4 => ⟨upd_same, [(Sum.inr "a", .str "a")], rfl, (by show 1 ≤ 15; decide), ?_⟩
            have a4 : (upd (upd A3 q4 (.dK [])) q4 (.dK (mergeK [] [(Sum.inr "a", .str "a")]))) q4 = some (.dK (mergeK [] [(Sum.inr "a", .str "a")])) := upd_same
            have c4 := same_put (o := .dK []) (o' := .dK (mergeK [] [(Sum.inr "a", .str "a")])) n4
            have a1 := c4 _ _ a1
            have a2 := c4 _ _ a2
            have a3 := c4 _ _ a3
            have S9 := S9.trans c4
            generalize upd (upd A3 q4 (.dK [])) q4 (.dK (mergeK [] [(Sum.inr "a", .str "a")])) = A4 at a1 a2 a3 a4 S9 ⊢
            clear c4
            refine fun q5 n5 => ?_
            have a5 : (upd A4 q5 (.dK [])) q5 = some (.dK []) := upd_same
            have c5 := same_new (o := .dK []) n5
            have a1 := c5 _ _ a1
            have a2 := c5 _ _ a2
            have a3 := c5 _ _ a3
            have a4 := c5 _ _ a4
            have S9 := S9.trans c5
            generalize upd A4 q5 (.dK []) = A5 at a1 a2 a3 a4 a5 S9 ⊢
            clear c5
            refine ⟨(by show 2 ≤ sizeLine; decide), fun q6 n6 => ?_⟩
            have a6 : (upd A5 q6 (.tup [V.str "name", .str "a"])) q6 = some (.tup [V.str "name", .str "a"]) := upd_same
            have c6 := same_new (o := .tup [V.str "name", .str "a"]) n6
            have a1 := c6 _ _ a1
            have a2 := c6 _ _ a2
            have a3 := c6 _ _ a3
            have a4 := c6 _ _ a4
            have a5 := c6 _ _ a5
            have S9 := S9.trans c6
            generalize upd A5 q6 (.tup [V.str "name", .str "a"]) = A6 at a1 a2 a3 a4 a5 a6 S9 ⊢
            clear c6
            refine ⟨by decide, fun e0 m0 => ⟨e0, _, rfl, upd_same, fun dx ndx nex => ⟨rfl, dx, [("value", .str "a")], upd_same, (by rw [upd_ne nex]; exact upd_same), (by rw [upd_ne nex] at ndx; exact ndx), fun ea mea => ?_⟩⟩⟩
            have ndx6 : A6 dx = none := by
              rw [upd_ne nex] at ndx
              exact ndx
            have c7 := same_exc (C := C) (ex := exo e0 C none) (ey := exd dx [("value", .str "a")]) (ez := exo e0 C (some dx)) (ew := .xd [("value", .str "a")]) (eq := exq (.ref C) (some dx) ea) m0 ndx6 mea
            have a7 : ExAt (upd (upd (del (upd (upd (upd A6 e0 (exo e0 C none)) dx (exd dx [("value", .str "a")])) e0 (exo e0 C (some dx))) e0) dx (.xd [("value", .str "a")])) ea (exq (.ref C) (some dx) ea)) C ea := ⟨dx, _, upd_same, by rw [upd_ne (fun z => by rw [z, upd_same] at mea; cases mea)]; exact upd_same⟩
            have a1 := c7 _ _ a1
            have a2 := c7 _ _ a2
            have a3 := c7 _ _ a3
            have a4 := c7 _ _ a4
            have a5 := c7 _ _ a5
            have a6 := c7 _ _ a6
            have S9 := S9.trans c7
            generalize (upd (upd (del (upd (upd (upd A6 e0 (exo e0 C none)) dx (exd dx [("value", .str "a")])) e0 (exo e0 C (some dx))) e0) dx (.xd [("value", .str "a")])) ea (exq (.ref C) (some dx) ea)) = A7 at a1 a2 a3 a4 a5 a6 a7 S9 ⊢
            clear c7
            refine ⟨(by show 11 ≤ sizeLine; decide), fun l4 nl4 => ?_⟩
            have e8 : (upd A7 l4 (.lst [V.non, .bl true, .int 0, .int low, .ref q1, .ref q2, .ref q3, .ref q4, .ref q5, .ref q6, .ref ea])) l4 = some (.lst [V.non, .bl true, .int 0, .int low, .ref q1, .ref q2, .ref q3, .ref q4, .ref q5, .ref q6, .ref ea]) := upd_same
            have c8 := same_new (o := .lst [V.non, .bl true, .int 0, .int low, .ref q1, .ref q2, .ref q3, .ref q4, .ref q5, .ref q6, .ref ea]) nl4
            have a1 := c8 _ _ a1
            have a2 := c8 _ _ a2
            have a3 := c8 _ _ a3
            have a4 := c8 _ _ a4
            have a5 := c8 _ _ a5
            have a6 := c8 _ _ a6
            have a7 := a7.same c8
            have S9 := S9.trans c8
            generalize upd A7 l4 (.lst [V.non, .bl true, .int 0, .int low, .ref q1, .ref q2, .ref q3, .ref q4, .ref q5, .ref q6, .ref ea]) = A8 at a1 a2 a3 a4 a5 a6 a7 e8 S9 ⊢
            clear c8
            refine ⟨l4, rfl, ⟨_, SqL.of e8⟩, for_list (K := K) (a := l4) (xs := [V.non, .bl true, .int 0, .int low, .ref q1, .ref q2, .ref q3, .ref q4, .ref q5, .ref q6, .ref ea]) (fun _ σ H' => ∃ v6, σ = [some (.ref a), some (.int (0 + (i : Int))), some (.ref b), some (.int low), some (.int high), v5, v6, w7, w8] ∧ H' = A8) ⟨v6', rfl, rfl⟩ (fun _ σ H' _ ⟨_, _, e⟩ => by rw [e]; exact SqL.of e8) ?_ ?_⟩
            · rintro i2 y σ H' hy ⟨v6'', rfl, rfl⟩
              have odd : OddN K H' y := by
                have hm := mem_get hy
                simp only [List.mem_cons, List.not_mem_nil, or_false] at hm
                rcases hm with rfl | rfl | rfl | rfl | rfl | rfl | rfl | rfl | rfl | rfl | rfl
                · exact ⟨_, .inl (.base .non), kit_ty (by decide +kernel)⟩
                · exact ⟨_, .inl (.base (.bl _)), kit_ty (by decide +kernel)⟩
                · exact ⟨_, .inl (.base (.int _)), kit_ty (by decide +kernel)⟩
                · exact ⟨_, .inl (.base (.int _)), kit_ty (by decide +kernel)⟩
                · exact ⟨_, .inl (.base (.lst a1)), kit_ty (by decide +kernel)⟩
                · exact ⟨_, .inl (.base (.tup a2)), kit_ty (by decide +kernel)⟩
                · exact ⟨_, .inl (.base (.lst a3)), kit_ty (by decide +kernel)⟩
                · exact ⟨_, .inl (.base (.dK a4)), kit_ty (by decide +kernel)⟩
                · exact ⟨_, .inl (.base (.dK a5)), kit_ty (by decide +kernel)⟩
                · exact ⟨_, .inl (.base (.tup a6)), kit_ty (by decide +kernel)⟩
                · exact ⟨_, .inr ⟨C, _, rfl, rfl, X.ex, a7⟩, X.ks⟩
              obtain ⟨ty, hty, hk⟩ := odd
              refine ⟨_, rfl, _, rfl, .inr ⟨ty, hty, hk, ?_⟩⟩
              refine ⟨_, _, rfl, _, rfl, ifn rfl ⟨_, rfl, _, rfl, .inr ⟨ty, hty, hk, ?_⟩⟩⟩
              exact ⟨_, _, rfl, _, rfl, ifn rfl ⟨_, rfl, rfl⟩⟩
            · rintro σ H' ⟨v6'', rfl, rfl⟩
              exact ⟨_, _, _, _, _, _, _, _, rfl, S9⟩
    · rintro σ H1 ⟨v1, v2, v3, v4, v5, v6, v7, v8, rfl, s0⟩
      exact q H1
end
end K01
set_option Elab.async false
set_option linter.all false
set_option maxRecDepth 100000
namespace K01
open PySem PySem.Spec PyProof.Rows L2 CaV
theorem all_mk {l : PySem.W.OpenLaw} {w : World} {K : PySem.W.Frag} {h : Heap} {mg : Str → Option Value} {fa f0 f1 f2 f3 f4 f5 f6 f7 f8 f9 f10 f11 : Addr} (X : K.In h) (G : h.Ns mainGlobals mg) (hfa : mg "law" = some (.ref fa))
    {od0 an0 od1 an1 od2 an2 od3 an3 od4 an4 od5 an5 od6 an6 od7 an7 od8 an8 od9 an9 od10 an10 od11 an11 : Option Addr} {sl0 sl1 sl2 sl3 sl4 sl5 sl6 sl7 sl8 sl9 sl10 sl11 : Array (Option Value)} {oc0 kV0 dc0 pm0 cd0 ct0 oc1 kV1 dc1 pm1 cd1 ct1 oc2 kV2 dc2 pm2 cd2 ct2 oc3 kV3 dc3 pm3 cd3 ct3 oc4 kV4 dc4 pm4 cd4 ct4 oc5 kV5 dc5 pm5 cd5 ct5 oc6 kV6 dc6 pm6 cd6 ct6 oc7 kV7 dc7 pm7 cd7 ct7 oc8 kV8 dc8 pm8 cd8 ct8 oc9 kV9 dc9 pm9 cd9 ct9 oc10 kV10 dc10 pm10 cd10 ct10 oc11 kV11 dc11 pm11 cd11 ct11 : Value} {aK C CE fI : Addr} {nK : Nat} {odK odI anI : Option Addr} {slK slI : Array (Option Value)} {t1 t2 t3 t4 t5 tL : Tok} {nm q : Str} {N : Addr} {bs : List Value} {sn : List Str} {sub : List Value} {ab : Bool} {col : Option Bool} {dd : Option Addr} {m0 m1 m2 m3 m5 : Option Value} {ocI kVI dcI pmI cdI ctI : Value}
    (a0 : PySem.W.nsIn K mainGlobals "is_integer" = some (some (.ref f0)))
    (l0 : K.lookup f0 = some ⟨oc0, od0, .func (PySem.W.fnOf "is_integer" "is_integer" (defArgs s_is_integer) (defBody s_is_integer) (defScope s_is_integer) .none kV0 dc0 pm0 an0 cd0 ct0), sl0⟩)
    (c0 : PySem.W.codeIn K cd0 "is_integer" = true)
    (k0 : PySem.W.keepIn K (.ref f0) = true)
    (a1 : PySem.W.nsIn K mainGlobals "is_any_integer" = some (some (.ref f1)))
    (l1 : K.lookup f1 = some ⟨oc1, od1, .func (PySem.W.fnOf "is_any_integer" "is_any_integer" (defArgs s_is_any_integer) (defBody s_is_any_integer) (defScope s_is_any_integer) .none kV1 dc1 pm1 an1 cd1 ct1), sl1⟩)
    (c1 : PySem.W.codeIn K cd1 "is_any_integer" = true)
    (k1 : PySem.W.keepIn K (.ref f1) = true)
    (a2 : PySem.W.nsIn K mainGlobals "is_name" = some (some (.ref f2)))
    (l2 : K.lookup f2 = some ⟨oc2, od2, .func (PySem.W.fnOf "is_name" "is_name" (defArgs s_is_name) (defBody s_is_name) (defScope s_is_name) .none kV2 dc2 pm2 an2 cd2 ct2), sl2⟩)
    (c2 : PySem.W.codeIn K cd2 "is_name" = true)
    (k2 : PySem.W.keepIn K (.ref f2) = true)
    (a3 : PySem.W.nsIn K mainGlobals "is_parameter" = some (some (.ref f3)))
    (l3 : K.lookup f3 = some ⟨oc3, od3, .func (PySem.W.fnOf "is_parameter" "is_parameter" (defArgs s_is_parameter) (defBody s_is_parameter) (defScope s_is_parameter) .none kV3 dc3 pm3 an3 cd3 ct3), sl3⟩)
    (c3 : PySem.W.codeIn K cd3 "is_parameter" = true)
    (k3 : PySem.W.keepIn K (.ref f3) = true)
    (a4 : PySem.W.nsIn K mainGlobals "_law_cell" = some (some (.ref f4)))
    (l4 : K.lookup f4 = some ⟨oc4, od4, .func (PySem.W.fnOf "_law_cell" "_law_cell" (defArgs s_l_cell) (defBody s_l_cell) (defScope s_l_cell) .none kV4 dc4 pm4 an4 cd4 ct4), sl4⟩)
    (c4 : PySem.W.codeIn K cd4 "_law_cell" = true)
    (k4 : PySem.W.keepIn K (.ref f4) = true)
    (a5 : PySem.W.nsIn K mainGlobals "_law_box" = some (some (.ref f5)))
    (l5 : K.lookup f5 = some ⟨oc5, od5, .func (PySem.W.fnOf "_law_box" "_law_box" (defArgs s_l_box) (defBody s_l_box) (defScope s_l_box) .none kV5 dc5 pm5 an5 cd5 ct5), sl5⟩)
    (c5 : PySem.W.codeIn K cd5 "_law_box" = true)
    (k5 : PySem.W.keepIn K (.ref f5) = true)
    (a6 : PySem.W.nsIn K mainGlobals "_law_take" = some (some (.ref f6)))
    (l6 : K.lookup f6 = some ⟨oc6, od6, .func (PySem.W.fnOf "_law_take" "_law_take" (defArgs s_l_take) (defBody s_l_take) (defScope s_l_take) .none kV6 dc6 pm6 an6 cd6 ct6), sl6⟩)
    (c6 : PySem.W.codeIn K cd6 "_law_take" = true)
    (k6 : PySem.W.keepIn K (.ref f6) = true)
    (a7 : PySem.W.nsIn K mainGlobals "_law_number" = some (some (.ref f7)))
    (l7 : K.lookup f7 = some ⟨oc7, od7, .func (PySem.W.fnOf "_law_number" "_law_number" (defArgs s_l_number) (defBody s_l_number) (defScope s_l_number) .none kV7 dc7 pm7 an7 cd7 ct7), sl7⟩)
    (c7 : PySem.W.codeIn K cd7 "_law_number" = true)
    (k7 : PySem.W.keepIn K (.ref f7) = true)
    (a8 : PySem.W.nsIn K mainGlobals "_law_string" = some (some (.ref f8)))
    (l8 : K.lookup f8 = some ⟨oc8, od8, .func (PySem.W.fnOf "_law_string" "_law_string" (defArgs s_l_string) (defBody s_l_string) (defScope s_l_string) .none kV8 dc8 pm8 an8 cd8 ct8), sl8⟩)
    (c8 : PySem.W.codeIn K cd8 "_law_string" = true)
    (k8 : PySem.W.keepIn K (.ref f8) = true)
    (a9 : PySem.W.nsIn K mainGlobals "_law_is_name" = some (some (.ref f9)))
    (l9 : K.lookup f9 = some ⟨oc9, od9, .func (PySem.W.fnOf "_law_is_name" "_law_is_name" (defArgs s_l_is_name) (defBody s_l_is_name) (defScope s_l_is_name) .none kV9 dc9 pm9 an9 cd9 ct9), sl9⟩)
    (c9 : PySem.W.codeIn K cd9 "_law_is_name" = true)
    (k9 : PySem.W.keepIn K (.ref f9) = true)
    (a10 : PySem.W.nsIn K mainGlobals "_law_is" = some (some (.ref f10)))
    (l10 : K.lookup f10 = some ⟨oc10, od10, .func (PySem.W.fnOf "_law_is" "_law_is" (defArgs s_l_is) (defBody s_l_is) (defScope s_l_is) .none kV10 dc10 pm10 an10 cd10 ct10), sl10⟩)
    (c10 : PySem.W.codeIn K cd10 "_law_is" = true)
    (k10 : PySem.W.keepIn K (.ref f10) = true)
    (a11 : PySem.W.nsIn K mainGlobals "law" = some (some (.ref f11)))
    (l11 : K.lookup f11 = some ⟨oc11, od11, .func (PySem.W.fnOf "law" "law" (defArgs s_law) (defBody s_law) (defScope s_law) .none kV11 dc11 pm11 an11 cd11 ct11), sl11⟩)
    (c11 : PySem.W.codeIn K cd11 "law" = true)
    (k11 : PySem.W.keepIn K (.ref f11) = true)
    (z0 : PySem.W.nsIn K mainGlobals "len" = some none)
    (z1 : PySem.W.nsIn K mainGlobals "max" = some none)
    (z2 : PySem.W.nsIn K mainGlobals "min" = some none)
    (z3 : PySem.W.nsIn K mainGlobals "range" = some none)
    (z4 : PySem.W.nsIn K mainGlobals "isinstance" = some none)
    (z5 : PySem.W.nsIn K mainGlobals "int" = some none)
    (z6 : PySem.W.nsIn K mainGlobals "bool" = some none)
    (z7 : PySem.W.nsIn K mainGlobals "str" = some none)
    (kw : PySem.W.nsIn K mainGlobals "KEYWORDS" = some (some (.ref aK)))
    (lkw : K.lookup aK = some ⟨.type "tuple", odK, .seq #[.str "let" t1, .str "in" t2, .str "each" t3, .str "of" t4, .str "want" t5] nK, slK⟩)
    (ln : PySem.W.nsIn K mainGlobals "LONGEST_NAME" = some (some (.int 6 tL)))
    (aC : PySem.W.nsIn K mainGlobals "InvalidName" = some (some (.ref C)))
    (xL : K.lookup C = some (excClassObj nm q C N bs [.ref CE, .type "ValueError", .type "Exception", .type "BaseException", .type "object"] true sn sub ab col dd m0 m1 m2 m3 m5 "ValueError.__new__"))
    (sa : PySem.W.findIn K (.ref C) "__setattr__" = some (some (.builtin "object.__setattr__")))
    (ga : PySem.W.findIn K (.ref C) "__getattribute__" = some (some (.builtin "BaseException.__getattribute__")))
    (gg : PySem.W.findIn K (.ref C) "__getattr__" = some none)
    (nv : PySem.W.findIn K (.ref C) "value" = some none)
    (iC : PySem.W.findIn K (.ref C) "__init__" = some (some (.ref fI)))
    (tI : PySem.W.typeIn K (.ref fI) = some (.type "function"))
    (lI : K.lookup fI = some ⟨ocI, odI, .func (PySem.W.fnOf "__init__" "InvalidName.__init__" (defArgs s_init) (defBody s_init) (defScope s_init) .none kVI dcI pmI anI cdI ctI), slI⟩)
    (cI : PySem.W.codeIn K cdI "InvalidName.__init__" = true)
    (kI : PySem.W.keepIn K (.ref fI) = true)
    (kC : PySem.W.keepIn K (.ref C) = true)
    (eC : PySem.W.subIn K (.ref C) (.type "BaseException") = some true)
    (tC : PySem.W.typeIn K (.ref C) = some (.type "type"))
    (hC : PySem.W.hasDictIn K C = true)
    (hcl : PySem.W.findIn K (.ref C) "__class__" = some (some (.builtin "object.__class__")))
    (hsp : PySem.W.specialIn K (.builtin "object.__class__") "__get__" = some (some (.builtin "getset_descriptor.__get__")))
    (htk : PySem.W.takesIn K (.builtin "object.__class__") = some true)
    (hmo : PySem.W.mroIn K C (.type "object") = some true)
    (ks : PySem.W.subIn K (.ref C) (.type "str") = some false) :
    ∃ fd : FuncData, (∀ (s : Shared) (v : Value), BindsTo s fd ⟨[v], []⟩ [("_law_script", v)]) ∧ ∀ base : Heap, K.In base → base.Ns mainGlobals mg → FnOk l.prog w K mg base CX0 4 fa fd ["_law_script"] (spLaw K) := by
  have e := hfa.symm.trans (PySem.W.mg_of X G a11)
  cases e
  have F_is_integer := fun_mk (st := s_is_integer) l0 c0 k0
  have b_is_integer := F_is_integer.binds (ps := ["value", "low", "high"]) fun _ _ _ _ _ _ us hl => match us, hl with | [_, _, _], _ => rfl
  have g_is_integer := PySem.W.mg_of X G a0
  have F_is_any_integer := fun_mk (st := s_is_any_integer) l1 c1 k1
  have b_is_any_integer := F_is_any_integer.binds (ps := ["value"]) fun _ _ _ _ _ _ us hl => match us, hl with | [_], _ => rfl
  have g_is_any_integer := PySem.W.mg_of X G a1
  have F_is_name := fun_mk (st := s_is_name) l2 c2 k2
  have b_is_name := F_is_name.binds (ps := ["value"]) fun _ _ _ _ _ _ us hl => match us, hl with | [_], _ => rfl
  have g_is_name := PySem.W.mg_of X G a2
  have F_is_parameter := fun_mk (st := s_is_parameter) l3 c3 k3
  have b_is_parameter := F_is_parameter.binds (ps := ["value"]) fun _ _ _ _ _ _ us hl => match us, hl with | [_], _ => rfl
  have g_is_parameter := PySem.W.mg_of X G a3
  have F_l_cell := fun_mk (st := s_l_cell) l4 c4 k4
  have b_l_cell := F_l_cell.binds (ps := ["_law_script", "_law_k"]) fun _ _ _ _ _ _ us hl => match us, hl with | [_, _], _ => rfl
  have g_l_cell := PySem.W.mg_of X G a4
  have F_l_box := fun_mk (st := s_l_box) l5 c5 k5
  have b_l_box := F_l_box.binds (ps := ["_law_cell_here"]) fun _ _ _ _ _ _ us hl => match us, hl with | [_], _ => rfl
  have g_l_box := PySem.W.mg_of X G a5
  have F_l_take := fun_mk (st := s_l_take) l6 c6 k6
  have b_l_take := F_l_take.binds (ps := ["_law_box_here", "_law_many"]) fun _ _ _ _ _ _ us hl => match us, hl with | [_, _], _ => rfl
  have g_l_take := PySem.W.mg_of X G a6
  have F_l_number := fun_mk (st := s_l_number) l7 c7 k7
  have b_l_number := F_l_number.binds (ps := ["_law_box_here"]) fun _ _ _ _ _ _ us hl => match us, hl with | [_], _ => rfl
  have g_l_number := PySem.W.mg_of X G a7
  have F_l_string := fun_mk (st := s_l_string) l8 c8 k8
  have b_l_string := F_l_string.binds (ps := ["_law_box_here"]) fun _ _ _ _ _ _ us hl => match us, hl with | [_], _ => rfl
  have g_l_string := PySem.W.mg_of X G a8
  have F_l_is_name := fun_mk (st := s_l_is_name) l9 c9 k9
  have b_l_is_name := F_l_is_name.binds (ps := ["_law_text"]) fun _ _ _ _ _ _ us hl => match us, hl with | [_], _ => rfl
  have g_l_is_name := PySem.W.mg_of X G a9
  have F_l_is := fun_mk (st := s_l_is) l10 c10 k10
  have b_l_is := F_l_is.binds (ps := ["_law_found", "_law_due"]) fun _ _ _ _ _ _ us hl => match us, hl with | [_, _], _ => rfl
  have g_l_is := PySem.W.mg_of X G a10
  have F_law := fun_mk (st := s_law) l11 c11 k11
  have n_len := PySem.W.mg_none_of X G z0
  have n_max := PySem.W.mg_none_of X G z1
  have n_min := PySem.W.mg_none_of X G z2
  have n_range := PySem.W.mg_none_of X G z3
  have n_isinstance := PySem.W.mg_none_of X G z4
  have n_int := PySem.W.mg_none_of X G z5
  have n_bool := PySem.W.mg_none_of X G z6
  have n_str := PySem.W.mg_none_of X G z7
  have T : TC K mg := ⟨n_isinstance, n_int, n_bool, n_str, n_len, ⟨aK, PySem.W.mg_of X G kw, fun H => .inr ⟨_, _, _, lkw, rfl, rfl, (by show 5 ≤ sizeLine; decide), .cons ⟨_, rfl⟩ (.cons ⟨_, rfl⟩ (.cons ⟨_, rfl⟩ (.cons ⟨_, rfl⟩ (.cons ⟨_, rfl⟩ .nil))))⟩⟩, ⟨_, PySem.W.mg_of X G ln⟩⟩
  have TXc : TX K mg C fI := ⟨⟨⟨nm, q, N, bs, _, sn, sub, ab, col, dd, m0, m1, m2, m3, m5, xL, (show PySem.HandSPX.refsVE [.type "ValueError", .type "Exception", .type "BaseException", .type "object"] = true by decide +kernel)⟩, sa, eC, tC, kC⟩, ⟨ga, gg, eC, hC, hcl, hsp, htk, hmo⟩, nv, iC, tI, PySem.W.mg_of X G aC, CaV.kit_not_str ks⟩
  have FI := fun_mk (st := s_init) lI cI kI
  have bI := FI.binds (ps := ["self", "value"]) fun _ _ _ _ _ _ us hl => match us, hl with | [_, _], _ => rfl
  exact ⟨PySem.W.fnOf "law" "law" (defArgs s_law) (defBody s_law) (defScope s_law) .none kV11 dc11 pm11 an11 cd11 ct11, fun s v => .of_eq rfl, fun base _ _ => ok_law F_law T n_max n_min n_range TXc FI bI F_is_any_integer b_is_any_integer g_is_any_integer F_is_integer b_is_integer g_is_integer F_is_name b_is_name g_is_name F_is_parameter b_is_parameter g_is_parameter F_l_cell b_l_cell g_l_cell F_l_box b_l_box g_l_box F_l_take b_l_take g_l_take F_l_number b_l_number g_l_number F_l_string b_l_string g_l_string F_l_is_name b_l_is_name g_l_is_name F_l_is b_l_is g_l_is⟩
end K01
open PySem PySem.W PyProof.Rows
set_option maxRecDepth 100000 in
set_option maxHeartbeats 0 in
theorem PySem.Challenge.cw_caughtnames_k01_kinds_of_words_holds : PySem.Challenge.rw_caughtnames_k01_kinds_of_words.Holds := by
  w_on; o_law; k_head; (case hw => w_witness2)
  k_fill
  refine L2.walk_of (l := PySem.Challenge.rw_caughtnames_k01_kinds_of_words) (n := 63) (k := 4) (x := "_law_script") (CX := fun _ => L2.CX0) (sp := fun w => K01.spLaw _) rfl (by decide) rfl ⟨rfl, by decide, by decide⟩ (fun w h Y => PySem.W.kIn_of Y) ?F (fun _ _ a ns hl _ hS => ⟨a, ns, rfl, hS, hl, fun _ => rfl⟩) (fun _ _ _ _ _ h => h)
  case F =>
    intro w mg fa h KX G hmg
    refine' K01.all_mk KX G hmg ?a0 ?l0 ?c0 ?k0 ?a1 ?l1 ?c1 ?k1 ?a2 ?l2 ?c2 ?k2 ?a3 ?l3 ?c3 ?k3 ?a4 ?l4 ?c4 ?k4 ?a5 ?l5 ?c5 ?k5 ?a6 ?l6 ?c6 ?k6 ?a7 ?l7 ?c7 ?k7 ?a8 ?l8 ?c8 ?k8 ?a9 ?l9 ?c9 ?k9 ?a10 ?l10 ?c10 ?k10 ?a11 ?l11 ?c11 ?k11 ?z0 ?z1 ?z2 ?z3 ?z4 ?z5 ?z6 ?z7 ?kw ?lkw ?ln ?aC ?xL ?sa ?ga ?gg ?nv ?iC ?tI ?lI ?cI ?kI ?kC ?eC ?tC ?hC ?hcl ?hsp ?htk ?hmo ?ks
    (case a0 => k_is)
    (case l0 => k_is)
    (case c0 => k_is)
    (case k0 => k_is)
    (case a1 => k_is)
    (case l1 => k_is)
    (case c1 => k_is)
    (case k1 => k_is)
    (case a2 => k_is)
    (case l2 => k_is)
    (case c2 => k_is)
    (case k2 => k_is)
    (case a3 => k_is)
    (case l3 => k_is)
    (case c3 => k_is)
    (case k3 => k_is)
    (case a4 => k_is)
    (case l4 => k_is)
    (case c4 => k_is)
    (case k4 => k_is)
    (case a5 => k_is)
    (case l5 => k_is)
    (case c5 => k_is)
    (case k5 => k_is)
    (case a6 => k_is)
    (case l6 => k_is)
    (case c6 => k_is)
    (case k6 => k_is)
    (case a7 => k_is)
    (case l7 => k_is)
    (case c7 => k_is)
    (case k7 => k_is)
    (case a8 => k_is)
    (case l8 => k_is)
    (case c8 => k_is)
    (case k8 => k_is)
    (case a9 => k_is)
    (case l9 => k_is)
    (case c9 => k_is)
    (case k9 => k_is)
    (case a10 => k_is)
    (case l10 => k_is)
    (case c10 => k_is)
    (case k10 => k_is)
    (case a11 => k_is)
    (case l11 => k_is)
    (case c11 => k_is)
    (case k11 => k_is)
    (case z0 => k_is)
    (case z1 => k_is)
    (case z2 => k_is)
    (case z3 => k_is)
    (case z4 => k_is)
    (case z5 => k_is)
    (case z6 => k_is)
    (case z7 => k_is)
    (case kw => k_is)
    (case lkw => k_is)
    (case ln => k_is)
    (case aC => k_is)
    (case xL => k_is)
    (case sa => k_is)
    (case ga => k_is)
    (case gg => k_is)
    (case nv => k_is)
    (case iC => k_is)
    (case tI => k_is)
    (case lI => k_is)
    (case cI => k_is)
    (case kI => k_is)
    (case kC => k_is)
    (case eC => k_is)
    (case tC => k_is)
    (case hC => k_is)
    (case hcl => k_is)
    (case hsp => k_is)
    (case htk => k_is)
    (case hmo => k_is)
    (case ks => k_is)
