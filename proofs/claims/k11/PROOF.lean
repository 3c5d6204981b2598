import PyProof.Rows.All
import Wide.All
import OpenK.AllK
import Wide.FinOn
import HandS.ForMost
import HandS.Exc
import HandS.ExcOwn
import HandS.ExcValue
import HandS.ExcInit
import HandS.ExcIs
import HandS.IsInst
import HandS.StrMore
import HandS.Wide
import HandS.Flow
import HandS.Deep
import HandS.Walk
import KE.KExcIs
import PyProof.ReprRoads
import PyProof.RowDictHeap
import HandS.Replace
import HandS.MakeKwOnly
import PyProof.ReprLen
import PyProof.Rows.ReprShort
import PyProof.FactsAll.dict_1
import PyProof.FactsAll.subtypes_4
import HandS.TupAny
import HandS.TupMul
import HandS.Style
import HandS.List
import HandS.Text
import PyProof.StrOps2
import HandS.SetIn
import PySem.Challenge.RW_caughtnames_k11_terms_programs_bodies
set_option Elab.async false
set_option linter.all false
set_option maxRecDepth 100000
/-! An exception that is made is held as a value (by the library's rule of its making), and asked by isinstance. -/
namespace CaV
open PySem PySem.Spec L2
/-- at a: an exception object of the class cls, its own dict at d -/
def exq (cls : Value) (d : Option Addr) (a : Addr) : HO := .ext fun h => ∃ (oe : Obj) (vs : Array Value), h.get? a = some oe ∧ oe.cls = cls ∧ oe.dict = d ∧ oe.data = .fields vs
theorem exq_new {P : Program} {w : World} {H : Hp} {h : Heap} {a : Addr} {cls : Value} {d : Option Addr} {oe : Obj} {vs : Array Value} (e : h.get? a = some oe) (z : Zc cls d oe) (hd : oe.data = .fields vs) : ObjOk P w H h a (exq cls d a) :=
  ⟨⟨oe, vs, e, z.1, z.2, hd⟩, ⟨oe, e⟩, fun _ _ ⟨o2, v2, q1, q2⟩ kept => ⟨o2, v2, kept o2 q1, q2⟩⟩
section
variable {X : Cx}
/-- what makes an exception for a raise makes it as a value, too -/
theorem pe_of_mk {e : Expr} {t : St → Hp → XK → Prop} (mk : PMk X e t) : PE X e (fun σ H Q => t σ H fun cls d H1 => ∀ a, H1 a = none → Q (.ref a) (upd H1 a (exq cls d a))) := by
  constructor
  intro pins s σ H Q inv want
  refine thn (mk pins s σ H _ inv want) fun u s2 made => ?_
  obtain ⟨a, oe, vs, sI, H1, cls, d, rfl, J, old, fr, at_, zc, dat, _, na, os, bare, _, told⟩ := made
  refine ⟨.ref a, upd H1 a (exq cls d a), ?_, rfl, told a na⟩
  exact J.call' (ch := []) os (Un.laidN old fr na) (J.hok.laidN old na (exq_new at_ zc dat)) bare fun b hb => absurd hb List.not_mem_nil
/-- an exception of the class C stands at a, with its dict -/
def ExAt (H : Hp) (C a : Addr) : Prop := ∃ (d : Addr) (fs : List (Str × V)), H a = some (exq (.ref C) (some d) a) ∧ H d = some (.xd fs)
/-- a value's type, exceptions too -/
def TyE (K : PySem.W.Frag) (H : Hp) (x : V) (t : Value) : Prop := TyX K H x t ∨ ∃ C a, x = .ref a ∧ t = .ref C ∧ ExcC K C ∧ ExAt H C a
def rIsV (K : PySem.W.Frag) : List V → Hp → VK → Prop := fun xs H Q => ∃ (x c : V) (t u : Value) (b : Bool), xs = [x, c] ∧ ClsV c u ∧ TyE K H x t ∧ PySem.W.kitOne K t u = some b ∧ Q (.bl b) H
theorem call_isV : CallR X (.builtin "isinstance") (rIsV X.K) := by
  intro pins s σ H vs ws Q inv rel told
  obtain ⟨x, c, t, u, b, rfl, cv, ty, ans, q⟩ := told
  rcases ty with ty | ⟨C, a, rfl, rfl, TC, d, fs, ha, hd⟩
  · exact call_isi pins s σ H [x, c] ws Q inv rel ⟨x, c, t, u, b, rfl, cv, ty, ans, q⟩
  · obtain ⟨w1, w2, rfl, rx, rc⟩ := vals2 rel
    obtain rfl := cv.eq rc
    cases rx
    have tr : ∃ (oe : Obj) (vs : Array Value), s.heap.get? a = some oe ∧ oe.cls = .ref C ∧ oe.dict = some d ∧ oe.data = .fields vs := (show ObjOk X.prog X.w H s.heap a (exq (.ref C) (some d) a) from inv.hok a _ ha).1
    obtain ⟨⟨oc, od, dat, sl⟩, vs, ho, rfl, rfl, rfl⟩ := tr
    obtain ⟨mA, ⟨oD, _, _, hoD, _⟩, _⟩ := (show ObjOk X.prog X.w H s.heap d (.xd fs) from inv.hok d _ hd)
    have cls : (PySem.W.clsIn X.K C).isSome = true := by
      obtain ⟨cd, hc, _⟩ := PySem.W.any_some TC.hd
      rw [hc]
      rfl
    exact PySem.W.kia_one (PySem.W.kitx_exc (od := some oD) cls TC.hg TC.hk TC.hs TC.ha TC.hn TC.ht TC.hm) inv.kIn ⟨ho, rfl, rfl, hoD⟩ ans (fun z => nomatch z) fun tk => ⟨.bl b, H, inv.kept (t' := tk) fun _ _ z => z, rfl, q⟩
end
/-- isinstance of such an exception by a built-in class -/
theorem kit_not {K : PySem.W.Frag} {C : Addr} {T : String} {b : Bool} (hm : PySem.W.kitMeta T = true) (h : PySem.W.subIn K (.ref C) (.type T) = some b) : PySem.W.kitOne K (.ref C) (.type T) = some b := by
  have e1 : ((Value.ref C : Value) == Value.type T) = false := rfl
  have e2 : PySem.W.kitCls K (.ref C) (.type T) = PySem.W.subIn K (.ref C) (.type T) := by
    show (if PySem.W.kitMeta T = true then PySem.W.subIn K (.ref C) (.type T) else none) = PySem.W.subIn K (.ref C) (.type T)
    exact if_pos hm
  unfold PySem.W.kitOne
  rw [e1, e2]
  exact h
theorem kit_not_str {K : PySem.W.Frag} {C : Addr} (h : PySem.W.subIn K (.ref C) (.type "str") = some false) : PySem.W.kitOne K (.ref C) (.type "str") = some false := kit_not (by decide +kernel) h
end CaV
set_option Elab.async false
set_option linter.all false
set_option maxRecDepth 100000
/-! A purse of draws: a list of three numbers that a def changes; nothing else changes, new things may come. -/
namespace CaV
open PySem PySem.Spec PyProof.Rows L2
/-- the purse at b: what is left of a great number, a rest, a count of at most n -/
def Bx (H : Hp) (b : Addr) (n : Nat) : Prop := ∃ m r c : Int, H b = some (.lst [.int m, .int r, .int c]) ∧ 0 ≤ m ∧ 0 ≤ r ∧ r < 2147483629 ∧ 0 ≤ c ∧ c ≤ n
/-- all that stood in H stands in H', but what is at b -/
def Kp (b : Addr) (H H' : Hp) : Prop := ∀ a o, H a = some o → a ≠ b → H' a = some o
theorem Kp.refl (b : Addr) (H : Hp) : Kp b H H := fun _ _ h _ => h
theorem Kp.trans {b : Addr} {H H1 H2 : Hp} (x : Kp b H H1) (y : Kp b H1 H2) : Kp b H H2 := fun a o h n => y a o (x a o h n) n
theorem Kp.new {b p : Addr} {H : Hp} {o : HO} (h : H p = none) : Kp b H (upd H p o) := fun a u e _ => by
  rw [upd_ne (ne_of_none e h)]
  exact e
theorem Kp.at {b : Addr} {H : Hp} {o : HO} : Kp b H (upd H b o) := fun a u e n => by
  rw [upd_ne n]
  exact e
theorem Kp.of_same {b : Addr} {H H' : Hp} (s : Same H H') : Kp b H H' := fun a o e _ => s a o e
theorem Bx.mono {H : Hp} {b : Addr} {n k : Nat} (h : Bx H b n) (e : n ≤ k) : Bx H b k := by
  obtain ⟨m, r, c, h1, h2, h3, h4, h5, h6⟩ := h
  exact ⟨m, r, c, h1, h2, h3, h4, h5, by omega⟩
theorem Bx.new {H : Hp} {b p : Addr} {n : Nat} {o : HO} (h : Bx H b n) (hp : H p = none) : Bx (upd H p o) b n := by
  obtain ⟨m, r, c, h1, h⟩ := h
  exact ⟨m, r, c, by rw [upd_ne (ne_of_none h1 hp)]; exact h1, h⟩
theorem Bx.there {H : Hp} {b : Addr} {n : Nat} (h : Bx H b n) : ∃ o, H b = some o := by
  obtain ⟨m, r, c, h1, _⟩ := h
  exact ⟨_, h1⟩
theorem Bx.ne {H : Hp} {b p : Addr} {n : Nat} (h : Bx H b n) (hp : H p = none) : p ≠ b := fun z => by
  obtain ⟨o, e⟩ := h.there
  rw [z, e] at hp
  cases hp
/-- what was free later was free before -/
theorem Kp.free {b p : Addr} {H H' : Hp} {n : Nat} (k : Kp b H H') (x : Bx H' b n) (h : H' p = none) : H p = none := by
  cases e : H p with
  | none => rfl
  | some o =>
    rw [k p o e (x.ne h)] at h
    cases h
theorem Kp.seqL {b a : Addr} {K : PySem.W.Frag} {H H' : Hp} {xs : List V} (k : Kp b H H') (n : a ≠ b) (h : SqL K H a xs) : SqL K H' a xs := by
  rcases h with (h | ⟨o, h⟩) | h
  · exact .inl (.inl (k _ _ h n))
  · exact .inl (.inr ⟨o, k _ _ h n⟩)
  · exact .inr h
/-- a change that leaves all of H but the purse, which is new since H0: H0 stands as it was -/
theorem Kp.same {b : Addr} {H0 H H' : Hp} (s : Same H0 H) (k : Kp b H H') (n : H0 b = none) : Same H0 H' := fun a o e => k a o (s a o e) (ne_of_none e n)
theorem emod_bd {x k : Int} (h : 0 < k) : 0 ≤ x % k ∧ x % k < k := ⟨Int.emod_nonneg x (by omega), Int.emod_lt_of_pos x h⟩
theorem pow_bd {x : Int} (h0 : 0 ≤ x) (h : x < 1000000000000000) : 0 ≤ (5 : Int) ∧ (5 : Int) ≤ 1000000 ∧ x.natAbs < 2 ^ 64 := ⟨by decide, by decide, by omega⟩
theorem pow_bd3 {x : Int} (h0 : 0 ≤ x) (h : x < 1000000000000000) : 0 ≤ (3 : Int) ∧ (3 : Int) ≤ 1000000 ∧ x.natAbs < 2 ^ 64 := ⟨by decide, by decide, by omega⟩
/-- the promise of a draw -/
def spTake : Sp := fun vs H Q _ => ∃ (b : Addr) (many : Int) (n : Nat), vs = [.ref b, .int many] ∧ Bx H b n ∧ n < 1000000 ∧ 0 < many ∧ many < 1073741824 ∧
  ∀ (d : Int) (H' : Hp), 0 ≤ d → d < many → Bx H' b (n + 1) → Kp b H H' → Q (.int d) H'
/-- the promise of a new purse -/
def spBox : Sp := fun vs H Q _ => ∃ (x : Int), vs = [.int x] ∧ ∀ (b : Addr) (H' : Hp), H b = none → Same H H' → Bx H' b 0 → Q (.ref b) H'
/-- the promise of a cell -/
def spCell (K : PySem.W.Frag) : Sp := fun vs H Q _ => ∃ (a : Addr) (ns : List Int) (j : Int), vs = [.ref a, .int j] ∧ SqL K H a (ns.map V.int) ∧ 0 ≤ j ∧ ∀ x : Int, Q (.int x) H
end CaV
set_option Elab.async false
set_option linter.all false
set_option maxRecDepth 100000
/-! Promises of defs that are called where no repr is under way (so that repr of a list is the list's own text). -/
namespace CaG
open PySem PySem.Spec PyProof.Rows L2
/-- the promise of a def, wherever no repr is under way -/
structure FnG (P : Program) (w : World) (K : PySem.W.Frag) (mg : Str → Option Value) (base : Heap) (k : Nat) (f : Addr) (fd : FuncData) (ps : List Str) (sp : Sp) : Prop where
  len : ∀ vs H Q E, sp vs H Q E → vs.length = ps.length
  run : ∀ (A : Around) (outer : List Env) (s : Shared) (H : Hp) (args : Args) (us : List Value) (vs : List V) (Q : VK) (E : XK), A.guards = some [] → Room k A → Env0 P w K mg base A outer s H →
    BindsTo s fd args (ps.zip us) → Vals vs us → sp vs H Q E → codeAny (model P w) A (.call (.ref f) args) (CR CX0 outer P w H s Q E) s
section
variable {P : Program} {w : World} {K : PySem.W.Frag} {mg : Str → Option Value} {base : Heap}
/-- a def by its body, which may use that no repr is under way -/
theorem FnG.of {x qual : Str} {st : Stmt} {f : Addr} {fd : FuncData} {N ps : List Str} {k : Nat} {sp : Sp} (F : Fun K x qual st f fd) (S : FnScope N ps (defScope st)) (len : ∀ vs H Q E, sp vs H Q E → vs.length = ps.length)
    (body : ∀ (cdv : Value) (A : Around) (outer : List Env) (s : Shared) (H : Hp) (vs : List V) (Q : VK) (E : XK), (A.deeper (envOfC qual (defScope st) s.heap.objs.size f cdv)).guards = some [] → Room k (A.deeper (envOfC qual (defScope st) s.heap.objs.size f cdv)) → sp vs H Q E →
      ∃ t, PSs (cxOf CX0 P w K mg base N qual (defScope st) f cdv A outer s H E).nox (defBody st) t ∧ t { nx := fun _ H' => Q .non H', rt := Q } (start N vs) H) : FnG P w K mg base (k + 1) f fd ps sp := by
  obtain ⟨oc, od, kV, doc, pm, an, cdv, ct, osl, rfl, found, code⟩ := F.ex
  constructor
  · exact len
  · intro A outer s H args us vs Q E quiet room entry binds vals want
    obtain ⟨t, ok, done⟩ := body cdv A outer s H vs Q E quiet (room.deeper _) want
    have inK : K.In s.heap := entry.mod.kin.keeps fun b o e => (entry.bs b o e).1
    have params : ∀ y ∈ ps.zip us, (defScope st).names.lookup y.1 = some .local ∨ ((defScope st).names.lookup y.1 = some .cell ∧ ((cellsFrom (s.heap.objs.size + 1) (defScope st).names []).lookup y.1).isSome = true) := by
      rintro ⟨y, v⟩ hy
      cases S.par y (List.of_mem_zip hy).1 with
      | inl z => exact .inl z
      | inr z => exact .inr ⟨z, PySem.W.cellsFrom_some _ _ _ (.inl z)⟩
    apply codeAny_call_function room.depth (inK _ _ found) rfl S.co S.gen rfl (PySem.W.codeRec_of inK code)
    apply binds
    apply wpAny_newFunctionEnv_cells S.kind params
    rintro env rfl s1 frame
    refine ⟨(entry.mod.nolimit.keeps fun b o e => (entry.bs b o e).1).keeps frame.toInCall.keep, codeAny_func ?_⟩
    have begin_ := inv_start (CX := CX0) (E := E) S room.hd entry (len _ _ _ _ want) vals frame
    apply wpAny_mono (ok.nox.run [] s1 (start N vs) H _ begin_ done)
    · intro fl s2 out
      cases fl with
      | ret u =>
        obtain ⟨v, σ2, H2, J, rv, q⟩ := out
        exact ⟨v, H2, J.os, J.bare, J.base, J.hok, rv, q⟩
      | next =>
        obtain ⟨σ2, H2, J, q⟩ := out
        exact ⟨V.non, H2, J.os, J.bare, J.base, J.hok, rfl, q⟩
      | brk =>
        obtain ⟨_, _, _, q⟩ := out
        exact q.elim
      | cont =>
        obtain ⟨_, _, _, q⟩ := out
        exact q.elim
    · intro e s2 out
      exact out
theorem FnG.ofOk {k : Nat} {f : Addr} {fd : FuncData} {ps : List Str} {sp : Sp} (F : FnOk P w K mg base CX0 k f fd ps sp) : FnG P w K mg base k f fd ps sp :=
  ⟨F.len, fun A outer s H args us vs Q E _ r e b v q => F.run A outer s H args us vs Q E r e b v q⟩
end
section
variable {X : Cx} {k : Nat} {f : Addr} {fd : FuncData} {ps : List Str} {sp : Sp} {x : Str} {e : Expr} {es : List Expr} {t : TA} {p pos : Pos}
/-- such a def called from such a body -/
theorem pe_callG (F : FnG X.prog X.w X.K X.mg X.base k f fd ps sp) (quiet : X.A.guards = some []) (hr : Room k X.A) (hg : Gl X x) (hm : X.mg x = some (.ref f)) (hk : PySem.W.keepIn X.K (.ref f) = true) (hb : Binds X.K fd ps [])
    (ha : PA X (e :: es) t) (hdb : (x == ("__debug__" : Str)) = false := by decide) (hs : starEach (e :: es) X.env = (false, eval e X.env) :: starEach es X.env := by rfl) (hp : (backTo pos (starEach es X.env)).any (·.1) = false := by rfl) :
    PE X (.Call (.Name x p) (e :: es) [] pos) (tCall sp [] E0 t) := by
  constructor
  intro pins s σ H Q inv want
  apply wpAny_Call_Name_kw (ld_glob inv hg hm _ hdb)
  apply PySem.W.callWith_K (h₀ := X.base) inv.ok.mod.kin hk _ hs hp
  refine thn (ha.run pos pins s σ H _ inv want) fun us s1 got => ?_
  obtain ⟨vs, H1, inv1, rel, due⟩ := got
  rw [List.append_nil] at due
  refine ⟨inv1.kIn, wpAny_call (codeAny_mono (F.run X.A X.stack s1 H1 ⟨us, []⟩ us vs Q E0 quiet hr inv1.env0 ?_ rel due) fun r s2 out => ?_)⟩
  · have l : (us ++ []).length = ps.length := by
      rw [List.append_nil, ← rel.length]
      exact F.len _ _ _ _ due
    have b := hb s1 us inv1.kIn l
    rwa [List.append_nil] at b
  · match r, out with
    | .ok (.ret u), o => exact inv1.after o
/-- repr of data: None, truths, numbers, texts, lists and tuples of such -/
def rRepr (K : PySem.W.Frag) : List V → Hp → VK → Prop := fun xs H Q => ∃ (x : V) (d : PyData), xs = [x] ∧ Dp K H x d ∧ d.showable = true ∧ d.hasDict = false ∧ d.depth ≤ 60 ∧ d.shown.length ≤ sizeLine ∧ Q (.str d.shown) H
theorem call_reprD {X : Cx} (quiet : X.A.guards = some []) (hu : X.A.units + 64 < cLine) : CallR X (.builtin "repr") (rRepr X.K) := by
  intro pins s σ H xs us Q inv rel told
  obtain ⟨x, d, rfl, dp, hs, hd, depth, size, q⟩ := told
  obtain ⟨u, rfl, rx⟩ := vals1 rel
  have far : ∀ a : Addr, u = .ref a → wpAny (model X.prog X.w) X.A (call (.builtin "repr") [u]) (EP X pins σ Q) X.xe s := by
    rintro a rfl
    obtain ⟨as, rd⟩ := Dp.reads inv d x (.ref a) dp rx
    exact repr_of_reads' rd hs (fun z => by rw [hd] at z; cases z) quiet (by omega) (fun _ _ z => z) (fun h' u tk kept => ⟨.str d.shown, H, inv.kept (t' := tk) kept, ⟨_, rfl⟩, q⟩) size
  cases dp with
  | non =>
    cases rx
    exact PySem.P.repr_of_none ⟨.str PyData.none.shown, H, inv.tok _, ⟨_, rfl⟩, q⟩
  | bl b =>
    cases rx
    exact PySem.P.repr_of_bool ⟨.str (PyData.bool b).shown, H, inv.tok _, ⟨_, by cases b <;> rfl⟩, q⟩
  | int i =>
    obtain ⟨t, rfl⟩ := rx
    exact PySem.P.repr_of_int (of_decide_eq_true hs) ⟨.str (PyData.int i).shown, H, inv.tok _, ⟨_, rfl⟩, q⟩
  | str z =>
    obtain ⟨t, rfl⟩ := rx
    exact PySem.P.repr_of_str ⟨.str (PyData.str z).shown, H, inv.tok _, ⟨_, rfl⟩, q⟩ size
  | lst h1 h2 => exact far _ rx
  | tup h1 h2 => exact far _ rx
end
end CaG
set_option Elab.async false
set_option linter.all false
set_option maxRecDepth 100000
namespace CaG
open PySem PySem.Spec PyProof.Rows L2
section
variable {P : Program} {w : World} {K : PySem.W.Frag} {mg mb : Str → Option Value} {k : Nat} {fa a : Addr} {fd : FuncData} {x : Str} {sp : Sp} {s : Shared} {vs : List Value} {ns : List Int}
/-- the law's call from its promise, the script tracked as it may be (H) -/
theorem law_at {H : Hp} (hH : ∀ b, H b = none ∨ (b = a ∧ K.lookup a = none ∧ H b = some (.frz { cls := .type "list", data := .seq vs.toArray } (.lst (ns.map V.int))))) (inK : K.In s.heap) (names : s.heap.Ns mainGlobals mg) (builtins : s.heap.Ns builtinsNs mb) (boot : ∀ x : Str, x ≠ "__name__" → mb x = bootBuiltins x)
    (free : s.heap.NoLimit) (gens : s.gens = #[]) (script : s.heap.get? a = some { cls := .type "list", data := .seq vs.toArray }) (isInts : IntsAre vs ns) (short : ns.length ≤ sizeLine) (room : Room k callerA) (is : SqL K H a (ns.map V.int))
    (F : ∀ base : Heap, K.In base → base.Ns mainGlobals mg → FnG P w K mg base k fa fd [x] sp) (binds : ∀ (s : Shared) (u : Value), BindsTo s fd ⟨[u], []⟩ [(x, u)])
    (told : sp [.ref a] H (fun v _ => v = .bl true) fun _ _ _ => False) :
    codeAny (model P w) callerA (.call (.ref fa) ⟨[.ref a], []⟩) (fun r s' => r = .ok (.ret (.bool true)) ∧ OldK s.heap s'.heap ∧ s'.os = s.os ∧ AllBare s'.gens) s := by
  have rel := vals_ints isInts
  -- an object that is no list of the script's is not tracked
  have out : ∀ {b : Addr} {o : Obj}, s.heap.get? b = some o → (b = a → False) ∨ K.lookup b = some o → H b = none := fun {b o} e why => by
    cases hH b with
    | inl z => exact z
    | inr z =>
      obtain ⟨z1, z2, _⟩ := z
      cases why with
      | inl n => exact (n z1).elim
      | inr l =>
        rw [z1, z2] at l
        cases l
  have notA : ∀ {b : Addr} {o : Obj} {es : Array DictEntry} {ep : Nat}, s.heap.get? b = some o → o.data = .dict es ep → b = a → False := fun {b o es ep} e d z => by
    rw [z, script] at e
    cases e
    cases d
  have nsH : ∀ {b : Addr} {m : Str → Option Value}, s.heap.Ns b m → (hidT s.heap H).Ns b m := fun {b m} h => by
    obtain ⟨o, es, ep, e, d, r⟩ := h
    exact ⟨o, es, ep, hidT_get e (out e (.inl (notA e d))), d, r⟩
  have inB : K.In (hidT s.heap H) := fun b o l => hidT_get (inK b o l) (out (inK b o l) (.inr l))
  have hok : HOk P w H s.heap := fun b u e => by
    cases hH b with
    | inl z =>
      rw [z] at e
      cases e
    | inr z =>
      obtain ⟨rfl, _, z3⟩ := z
      rw [z3] at e
      cases e
      exact ⟨script, by rw [List.length_map]; exact short, vs, _, rel, script⟩
  have entry : Env0 P w K mg (hidT s.heap H) callerA [] s H :=
    { frames := rfl, mod := ⟨inB, nsH names, ⟨mb, nsH builtins, boot⟩, by obtain ⟨mc, h1, h2⟩ := free; exact ⟨mc, nsH h1, h2⟩⟩, bs := fun b o e => of_hidT e, bsz := by rw [hidT_size]; exact Nat.le_refl _,
      funs := trivial, frf := fun b hb => (List.not_mem_nil hb).elim, hok := hok, bare := .of_eq gens }
  have ran := (F _ inB (nsH names)).run callerA [] s H ⟨[.ref a], []⟩ [.ref a] [.ref a] _ _ rfl room entry (binds s (.ref a)) (.cons rfl .nil) told
  apply codeAny_mono ran
  intro r s2 got
  match r, got with
  | .ok (.ret u), got =>
    obtain ⟨v, H2, os, bare, un, hok2, rv, rfl⟩ := got
    cases rv
    refine ⟨rfl, OldK.of_keep (fun b o e => ?_), os, bare⟩
    cases hH b with
    | inl z => exact un.keep b o e z (fun m => (List.not_mem_nil m).elim) List.not_mem_nil
    | inr z =>
      obtain ⟨rfl, _, z3⟩ := z
      rw [script] at e
      cases e
      exact (hok2 _ _ (un.frzs _ _ _ z3)).1
theorem law_callG (inK : K.In s.heap) (names : s.heap.Ns mainGlobals mg) (builtins : s.heap.Ns builtinsNs mb) (boot : ∀ x : Str, x ≠ "__name__" → mb x = bootBuiltins x)
    (free : s.heap.NoLimit) (gens : s.gens = #[]) (script : s.heap.get? a = some { cls := .type "list", data := .seq vs.toArray }) (isInts : IntsAre vs ns) (short : ns.length ≤ sizeLine) (room : Room k callerA)
    (F : ∀ base : Heap, K.In base → base.Ns mainGlobals mg → FnG P w K mg base k fa fd [x] sp) (binds : ∀ (s : Shared) (u : Value), BindsTo s fd ⟨[u], []⟩ [(x, u)])
    (told : ∀ H : Hp, SqL K H a (ns.map V.int) → sp [.ref a] H (fun v _ => v = .bl true) fun _ _ _ => False) :
    codeAny (model P w) callerA (.call (.ref fa) ⟨[.ref a], []⟩) (fun r s' => r = .ok (.ret (.bool true)) ∧ OldK s.heap s'.heap ∧ s'.os = s.os ∧ AllBare s'.gens) s := by
  cases l : K.lookup a with
  | some o =>
    have o_is := (inK a o l).symm.trans script
    cases o_is
    have is : SqL K (fun _ => none) a (ns.map V.int) := .inr ⟨_, vs.toArray, _, l, rfl, rfl, rfl, by rw [List.size_toArray, isInts.length]; exact short, by simpa using vals_ints isInts⟩
    exact law_at (H := fun _ => none) (fun _ => .inl rfl) inK names builtins boot free gens script isInts short room is F binds (told _ is)
  | none =>
    have at_ : (fun b => if b = a then some (HO.frz { cls := .type "list", data := .seq vs.toArray } (.lst (ns.map V.int))) else none : Hp) a = some (.frz { cls := .type "list", data := .seq vs.toArray } (.lst (ns.map V.int))) := if_pos rfl
    have is : SqL K (fun b => if b = a then some (HO.frz { cls := .type "list", data := .seq vs.toArray } (.lst (ns.map V.int))) else none) a (ns.map V.int) := .inl (.inr ⟨_, at_⟩)
    refine law_at (H := fun b => if b = a then some (HO.frz { cls := .type "list", data := .seq vs.toArray } (.lst (ns.map V.int))) else none) (fun b => ?_) inK names builtins boot free gens script isInts short room is F binds (told _ is)
    by_cases e : b = a
    · exact .inr ⟨e, l, if_pos e⟩
    · exact .inl (if_neg e)
end
/-- the goal that the head leaves, from such a promise -/
theorem walk_G {l : PySem.W.OpenLaw} {n k : Nat} {whole : Program} {loose : List Str} {before : (Str → Option Value) → Heap → Prop} {behind : World → Heap → Prop} {law : DefRec} {written : Params → PySem.W.Frag} {sp : PySem.W.Frag → Sp} {x : Str}
    (most : l.most = some n) (small : n ≤ sizeLine) (plain : law.params.defaults = []) (room : Room k callerA) (kin : ∀ (u : World) (h : Heap), behind u h → (written u.params).In h)
    (F : ∀ (u : World) (names : Str → Option Value) (at_ : Addr) (h : Heap), (written u.params).In h → h.Ns mainGlobals names → names law.name = some (.ref at_) →
      ∃ fd : FuncData, (∀ (s : Shared) (v : Value), BindsTo s fd ⟨[v], []⟩ [(x, v)]) ∧ ∀ base : Heap, (written u.params).In base → base.Ns mainGlobals names → FnG l.prog u (written u.params) names base k at_ fd [x] (sp (written u.params)))
    (told : ∀ (K : PySem.W.Frag) (H : Hp) (a : Addr) (ns : List Int), ns.length ≤ n → SqL K H a (ns.map V.int) → sp K [.ref a] H (fun v _ => v = .bl true) fun _ _ _ => False) :
    PySem.W.WalkO whole loose before behind l.row.toRowW law [] (fun f vs => PySem.call f vs) := by
  apply Att.attach_call most plain
  intro w s0 s mg mb fa o pm cd doc a vs ns G Y ho hd hcd hmg script isInts len gens
  obtain ⟨fd, binds, ok⟩ := F w mg fa _ (kin w _ Y) G.T.g hmg
  exact law_callG (kin w _ Y) G.T.g G.T.b G.T.builtins G.T.nolimit gens script isInts (Nat.le_trans len small) room ok binds fun H is => told _ H a ns len is
end CaG
set_option Elab.async false
set_option linter.all false
set_option maxRecDepth 100000
/-! repr of data, and of dicts of ints and lists of ints, where no repr is under way. -/
namespace CaG
open PySem PySem.Spec PyProof.Rows L2
def encK : Key → PyData
  | .inl i => .int i
  | .inr x => .str x
/-- what a dict may hold here: an int, or a list of ints (no list at the place of sys.modules) -/
def Sv (H : Hp) (v : V) (d : PyData) : Prop := (∃ i, v = .int i ∧ d = .int i) ∨ ∃ (l : Addr) (is : List Int), v = .ref l ∧ l ≠ sysModules ∧ H l = some (.lst (is.map V.int)) ∧ d = .list (is.map PyData.int)
inductive SvAll (H : Hp) : List (Key × V) → List (PyData × PyData) → Prop
  | nil : SvAll H [] []
  | cons {k : Key} {v : V} {d : PyData} {r : List (Key × V)} {ds : List (PyData × PyData)} : Sv H v d → SvAll H r ds → SvAll H ((k, v) :: r) ((encK k, d) :: ds)
section
variable {X : Cx} {pins : List (Addr × Obj)} {σ : L2.St} {H : Hp} {s : Shared}
theorem reads_ints {h : Heap} : ∀ {is : List Int} {us : List Value}, Vals (is.map V.int) us → ReadsAll h us (is.map PyData.int) []
  | [], _, r => by
    cases r
    exact .nil
  | i :: is, _, r => by
    cases r with
    | cons r1 r2 =>
      obtain ⟨t, rfl⟩ := r1
      exact ReadsAll.cons (.int i t) (reads_ints r2)
theorem Sv.reads (I : Inv X pins σ H s) {v : V} {d : PyData} {u : Value} (h : Sv H v d) (r : RelV v u) : ∃ as, Reads s.heap u d as ∧ sysModules ∉ as := by
  rcases h with ⟨i, rfl, rfl⟩ | ⟨l, is, rfl, ne, hl, rfl⟩
  · obtain ⟨t, rfl⟩ := r
    exact ⟨[], .int i t, List.not_mem_nil⟩
  · cases r
    obtain ⟨its, rv, ⟨o, n, ho, hc, _, hd⟩, _⟩ := I.list (SqL.of (K := X.K) hl)
    exact ⟨[l], Reads.list ho hc hd (reads_ints rv), fun m => ne (List.mem_singleton.mp m).symm⟩
theorem SvAll.reads (I : Inv X pins σ H s) : ∀ {kvs : List (Key × V)} {ds : List (PyData × PyData)} {vs : List (Key × Value)}, SvAll H kvs ds → KV kvs vs → ∃ bs, PyProof.V.PairsRead s.heap encK vs ds bs ∧ sysModules ∉ bs
  | _, _, _, .nil, r => by
    cases r
    exact ⟨[], .nil, List.not_mem_nil⟩
  | _, _, _, .cons h1 h2, r => by
    cases r with
    | cons r1 r2 =>
      rename_i q qs
      obtain ⟨k, u⟩ := q
      obtain ⟨e, r1⟩ := r1
      cases e
      obtain ⟨as, a1, a2⟩ := h1.reads I r1
      obtain ⟨bs, b1, b2⟩ := SvAll.reads I h2 r2
      exact ⟨as ++ bs, .cons a1 b1, fun m => (List.mem_append.mp m).elim a2 b2⟩
end
/-- repr of such a dict -/
def rReprM : List V → Hp → VK → Prop := fun xs H Q => ∃ (p : Addr) (kvs : List (Key × V)) (ds : List (PyData × PyData)), xs = [.ref p] ∧ H p = some (.dK kvs) ∧ SvAll H kvs ds ∧ (PyData.dict ds).showable = true ∧ (PyData.dict ds).depth ≤ 60 ∧ (PyData.dict ds).shown.length ≤ sizeLine ∧ Q (.str (PyData.dict ds).shown) H
theorem call_reprM {X : Cx} (quiet : X.A.guards = some []) (hu : X.A.units + 64 < cLine) : CallR X (.builtin "repr") rReprM := by
  intro pins s σ H xs us Q inv rel told
  obtain ⟨p, kvs, ds, rfl, hp, sv, hs, depth, size, q⟩ := told
  obtain ⟨u, rfl, rx⟩ := vals1 rel
  cases rx
  obtain ⟨_, nsm, vs, kv, dof⟩ := dk_of inv.hok hp
  obtain ⟨bs, rd, nb⟩ := sv.reads inv kv
  have whole := PyProof.V.reads_dictOf (knd := mixKind X.prog X.w) (enc := encK) (fun k key hk => by
    rcases keyIs_shape hk with ⟨i, t, rfl, rfl⟩ | ⟨x, t, rfl, rfl⟩
    · exact .int i t
    · exact .str x t) dof rd
  refine repr_of_reads' whole hs (fun _ m => ?_) quiet (by omega) (fun _ _ z => z) (fun h' u tk kept => ⟨.str _, H, inv.kept (t' := tk) kept, ⟨_, rfl⟩, q⟩) size
  rcases List.mem_cons.mp m with z | z
  · rw [← z] at nsm
    exact absurd nsm (by decide)
  · exact nb z
/-- a new list, not at the place of sys.modules -/
def tLstN (t : TA) : TE := fun σ H Q => t σ H fun xs H1 => xs.length ≤ sizeLine ∧ ∀ p, H1 p = none → p ≠ sysModules → Q (.ref p) (upd H1 p (.lst xs))
theorem pe_lstN {X : Cx} {es : List Expr} {t : TA} {pos : Pos} (h : PA X es t) : PE X (.List es pos) (tLstN t) := by
  constructor
  intro pins s σ H Q inv want
  apply wpAny_List_spliced
  refine thn (h.run pos pins s σ H _ inv want) fun us s1 got => ?_
  obtain ⟨xs, H1, J, r, z, q⟩ := got
  have new := J.hok.fresh (Nat.le_refl s1.heap.objs.size)
  refine ⟨by rw [← r.length]; exact z, .ref _, upd H1 s1.heap.objs.size (.lst xs), J.laid (t' := s1.toks) (fun _ _ e => Heap.get?_push_of_some _ e) (Nat.le_refl _) ⟨z, us, 0, r, Heap.get?_push_size _ rfl⟩, rfl, q _ new (Nat.ne_of_gt J.big)⟩
end CaG
set_option Elab.async false
set_option linter.all false
set_option maxRecDepth 100000
/-! Small facts that more than one law wants. -/
namespace CaL
open PySem PySem.Spec PyProof.Rows L2 CaV
theorem atI_in {α : Type} {xs : List α} {i : Int} (h0 : 0 ≤ i) (h1 : i < xs.length) : ∃ v, v ∈ xs ∧ atI xs i = some v := by
  have hj : i.toNat < xs.length := by omega
  refine ⟨xs[i.toNat], List.getElem_mem hj, ?_⟩
  have e := atI_nat (xs := xs) (j := i.toNat) (v := xs[i.toNat]) (List.getElem?_eq_getElem hj)
  rwa [Int.toNat_of_nonneg h0] at e
theorem cut_len (z : Str) (lo hi : Option Int) : (cutS z lo hi).length ≤ z.length := by
  unfold cutS
  show ((z.cps.toList.drop _).take _).toArray.size ≤ z.cps.size
  rw [List.size_toArray, List.length_take, List.length_drop, Array.length_toList]
  omega
theorem app_len (a b : Str) : (a ++ b).length = a.length + b.length := Str.length_append a b
theorem sz100 {n : Nat} (h : n ≤ 1000) : n ≤ sizeLine := Nat.le_trans h (by decide)
theorem atI_strs {zs : List Str} {i : Int} (h0 : 0 ≤ i) (h1 : i < zs.length) : ∃ z, z ∈ zs ∧ atI (zs.map V.str) i = some (.str z) := by
  obtain ⟨v, hv, e⟩ := atI_in (xs := zs.map V.str) h0 (by rw [List.length_map]; exact h1)
  obtain ⟨z, hz, rfl⟩ := List.mem_map.mp hv
  exact ⟨z, hz, e⟩
theorem sum_ones : ∀ {ys : List Str}, (∀ y ∈ ys, y.length = 1) → (ys.map (·.length)).sum = ys.length
  | [], _ => rfl
  | y :: r, h => by
    rw [List.map_cons, List.sum_cons, sum_ones (fun z hz => h z (List.mem_cons_of_mem _ hz)), h y List.mem_cons_self, List.length_cons]
    omega
theorem yes_at {σ : L2.St} {H : Hp} {F G : Hp → Prop} (h : F H) : tYes σ H (fun b H3 => if b = true then F H3 else G H3) := by
  show (if true = true then F H else G H)
  rw [if_pos rfl]
  exact h
/-- all its signs are plain ones -/
def Asc (x : Str) : Prop := ∀ c ∈ x.cps.toList, c < 128
theorem asc_app {a b : Str} (ha : Asc a) (hb : Asc b) : Asc (a ++ b) := fun c hc => by
  have e : (a ++ b).cps.toList = a.cps.toList ++ b.cps.toList := by
    rw [Str.cps_append, Array.toList_append]
  rw [e] at hc
  rcases List.mem_append.mp hc with h | h
  · exact ha c h
  · exact hb c h
theorem asc_cut {z : Str} (lo hi : Option Int) (h : Asc z) : Asc (cutS z lo hi) := fun c hc => by
  unfold cutS at hc
  exact h c (List.mem_of_mem_drop (List.mem_of_mem_take hc))
theorem asc_one {c : Nat} (h : c < 128) : Asc ⟨#[c]⟩ := fun d hd => by
  rw [show d = c from List.mem_singleton.mp hd]
  exact h
theorem empty_list : ("" : Str).cps.toList = [] := by decide +kernel
theorem asc_empty : Asc "" := by
  intro c hc
  rw [empty_list] at hc
  cases hc
theorem asc_joinS : ∀ {ys : List Str}, (∀ y ∈ ys, Asc y) → Asc (Str.join "" ys)
  | [], _ => fun c hc => absurd hc (by show ¬ c ∈ ([] : List Nat); simp)
  | [x], h => h x List.mem_cons_self
  | x :: y :: r, h => by
    show Asc (x ++ "" ++ Str.join "" (y :: r))
    exact asc_app (asc_app (h x List.mem_cons_self) asc_empty) (asc_joinS fun z hz => h z (List.mem_cons_of_mem _ hz))
theorem asc_join {ys : List Str} (h : ∀ y ∈ ys, Asc y) : Asc (Txt.join "" ys) := by
  show Asc (Builtin.Str.glued "" ys)
  rw [StrLaws.glued_eq_join]
  exact asc_joinS h
theorem asc_of {x : Str} (h : (x.cps.toList.all fun c => decide (c < 128)) = true) : Asc x := fun c hc => of_decide_eq_true (List.all_eq_true.mp h c hc)
theorem join_len0 {ys : List Str} (h : ∀ y ∈ ys, y.length = 1) : (Txt.join "" ys).length ≤ ys.length := by
  have e := StrLaws.join_length_le "" ys
  show (Builtin.Str.glued "" ys).length ≤ ys.length
  rw [StrLaws.glued_eq_join]
  rw [sum_ones h] at e
  have e2 : ("" : Str).length = 0 := by decide +kernel
  rw [e2, Nat.mul_zero] at e
  exact e
theorem arr_all {p : Nat → Bool} {x : Str} : x.cps.all p = x.cps.toList.all p := by
  rw [← Array.all_toList]
theorem arr_any {p : Nat → Bool} {x : Str} : x.cps.any p = x.cps.toList.any p := by
  rw [← Array.any_toList]
theorem shaped_strs {ys : List Str} (h : ∀ y ∈ ys, Asc y) : SeqAt.shaped (.list (ys.map PyData.str)) = true := by
  have h1 : ∀ {ys : List Str}, (∀ y ∈ ys, Asc y) → PyData.canLayAll0 (ys.map PyData.str) = true := by
    intro ys
    induction ys with
    | nil =>
      intro _
      simp [PyData.canLayAll0]
    | cons y r ih =>
      intro h
      rw [List.map_cons]
      unfold PyData.canLayAll0
      rw [ih fun z hz => h z (List.mem_cons_of_mem _ hz), Bool.and_true]
      unfold PyData.canLay0 PyData.strOk
      rw [arr_all, List.all_eq_true]
      intro c hc
      have := h y List.mem_cons_self c hc
      exact decide_eq_true (by omega)
  have h2 : ∀ ys : List Str, PyData.depthAll (ys.map PyData.str) = 0 := by
    intro ys
    induction ys with
    | nil => simp [PyData.depthAll]
    | cons y r ih =>
      rw [List.map_cons]
      unfold PyData.depthAll
      rw [ih]
      simp [PyData.depth]
  unfold SeqAt.shaped
  rw [Bool.and_eq_true]
  refine ⟨?_, decide_eq_true ?_⟩
  · unfold PyData.canLay0
    exact h1 h
  · unfold PyData.depth
    rw [h2]
    decide
theorem dp_strs {K : PySem.W.Frag} {H : Hp} : ∀ ys : List Str, DpAll K H (ys.map V.str) (ys.map PyData.str)
  | [] => .nil
  | y :: r => .cons (.str y) (dp_strs r)
theorem eqv_nil (ys : List Str) : PyData.eqv (.list (ys.map PyData.str)) (.list []) = ys.isEmpty := by
  cases ys with
  | nil => simp [PyData.eqv, PyData.eqvAll]
  | cons y r => simp [PyData.eqv, PyData.eqvAll]
/-! ### the promises -/
theorem same_new {H : Hp} {p : Addr} {o : HO} (h : H p = none) : Same H (upd H p o) := fun b x e => by
  rw [upd_ne (ne_of_none e h)]
  exact e
theorem lt_one (a c : Nat) : decide (([a] : List Nat) < [c]) = decide (a < c) := by
  rw [Bool.eq_iff_iff]
  simp [List.cons_lt_cons_iff]
/-- the class of an exception: all that is asked of it -/
structure TX (K : PySem.W.Frag) (mg : Str → Option Value) (C fI : Addr) : Prop where
  ox : OexC K C
  ex : ExcC K C
  no : PySem.W.findIn K (.ref C) "value" = some none
  iC : PySem.W.findIn K (.ref C) "__init__" = some (some (.ref fI))
  tI : PySem.W.typeIn K (.ref fI) = some (.type "function")
  gC : mg "InvalidName" = some (.ref C)
  ks : PySem.W.kitOne K (.ref C) (.type "str") = some false
def spInit (C : Addr) : Sp := fun vs H Q _ => ∃ (a : Addr) (v : V), vs = [.ref a, v] ∧ H a = some (exo a C none) ∧ ∀ dx, H dx = none → dx ≠ a → Q .non (upd (upd H dx (exd dx [("value", v)])) a (exo a C (some dx)))
def spLaw (K : PySem.W.Frag) : Sp := fun vs H Q _ => ∃ (a : Addr) (ns : List Int), vs = [.ref a] ∧ SqL K H a (ns.map V.int) ∧ ns.length ≤ 63 ∧ ∀ H', Q (.bl true) H'
theorem same_put {H : Hp} {p : Addr} {o o' : HO} (h : H p = none) : Same H (upd (upd H p o) p o') := fun b x e => by
  rw [upd_ne (ne_of_none e h), upd_ne (ne_of_none e h)]
  exact e
theorem _root_.CaV.Bx.same {H H' : Hp} {b : Addr} {n : Nat} (h : Bx H b n) (s : Same H H') : Bx H' b n := by
  obtain ⟨m, r, c, h1, h⟩ := h
  exact ⟨m, r, c, s _ _ h1, h⟩
theorem _root_.CaV.ExAt.same {H H' : Hp} {C a : Addr} (h : ExAt H C a) (s : Same H H') : ExAt H' C a := by
  obtain ⟨d, fs, h1, h2⟩ := h
  exact ⟨d, fs, s _ _ h1, s _ _ h2⟩
theorem same_exc {H : Hp} {C e0 dx ea : Addr} {ex ey ez ew eq : HO} (m0 : H e0 = none) (nd : H dx = none) (ma : upd (del (upd (upd (upd H e0 ex) dx ey) e0 ez) e0) dx ew ea = none) : Same H (upd (upd (del (upd (upd (upd H e0 ex) dx ey) e0 ez) e0) dx ew) ea eq) := fun b o e => by
  have n0 : b ≠ e0 := ne_of_none e m0
  have n1 : b ≠ dx := ne_of_none e nd
  have n2 : b ≠ ea := fun z => by
    rw [← z, upd_ne n1, del_ne n0, upd_ne n0, upd_ne n1, upd_ne n0, e] at ma
    cases ma
  rw [upd_ne n2, upd_ne n1, del_ne n0, upd_ne n0, upd_ne n1, upd_ne n0]
  exact e
theorem ifn {b : Bool} {A B : Prop} (e : b = true) (h : B) : if (!b) = true then A else B := by
  rw [e]
  exact iteF h
theorem mem_get {xs : List V} {i : Nat} {y : V} (h : xs[i]? = some y) : y ∈ xs := List.mem_of_getElem? h
end CaL
set_option Elab.async false
set_option linter.all false
set_option maxRecDepth 100000
/-! Data of any depth that may hold an empty dict: None, truths, small numbers, short plain texts, lists, tuples, {}: its measures. -/
namespace CaD
open PySem PySem.Spec PyProof.Rows
mutual
/-- small numbers, short plain texts, dicts without entries -/
def fine : PyData → Bool
  | .none => true
  | .bool _ => true
  | .int i => decide (0 ≤ i ∧ i ≤ 1000)
  | .str x => decide (x.length ≤ 10) && x.cps.toList.all fun c => decide (c < 128)
  | .list xs => fineAll xs
  | .tuple xs => fineAll xs
  | .dict kvs => kvs.isEmpty
def fineAll : List PyData → Bool
  | [] => true
  | x :: xs => fine x && fineAll xs
end
mutual
/-- how many things, itself included -/
def wt : PyData → Nat
  | .list xs => wtAll xs + 1
  | .tuple xs => wtAll xs + 1
  | .none => 1
  | .bool _ => 1
  | .int _ => 1
  | .str _ => 1
  | .dict _ => 1
def wtAll : List PyData → Nat
  | [] => 0
  | x :: xs => wt x + wtAll xs
end
theorem wt_pos (d : PyData) : 1 ≤ wt d := by
  cases d <;> simp [wt]
theorem wtAll_append : ∀ (xs ys : List PyData), wtAll (xs ++ ys) = wtAll xs + wtAll ys
  | [], ys => by simp [wtAll]
  | x :: xs, ys => by
    rw [List.cons_append]
    simp only [wtAll]
    rw [wtAll_append xs ys]
    omega
theorem wtAll_reverse : ∀ (xs : List PyData), wtAll xs.reverse = wtAll xs
  | [] => rfl
  | x :: xs => by
    rw [List.reverse_cons, wtAll_append, wtAll_reverse xs]
    simp only [wtAll]
    omega
theorem wt_mem : ∀ {xs : List PyData} {x : PyData}, x ∈ xs → wt x ≤ wtAll xs
  | y :: ys, x, h => by
    simp only [wtAll]
    rcases List.mem_cons.mp h with rfl | h
    · omega
    · have := wt_mem h
      omega
theorem wtAll_len : ∀ (xs : List PyData), xs.length ≤ wtAll xs
  | [] => Nat.le_refl _
  | x :: xs => by
    have := wtAll_len xs
    have := wt_pos x
    simp only [wtAll, List.length_cons]
    omega
theorem fineAll_iff : ∀ {xs : List PyData}, fineAll xs = true ↔ ∀ x ∈ xs, fine x = true
  | [] => ⟨fun _ x h => (nomatch h), fun _ => rfl⟩
  | y :: ys => by
    simp only [fineAll, Bool.and_eq_true, List.mem_cons]
    rw [fineAll_iff (xs := ys)]
    exact ⟨fun h x m => m.elim (fun e => e ▸ h.1) (h.2 x), fun h => ⟨h y (.inl rfl), fun x m => h x (.inr m)⟩⟩
theorem depthAll_le {n : Nat} : ∀ {xs : List PyData}, PyData.depthAll xs ≤ n ↔ ∀ x ∈ xs, x.depth ≤ n
  | [] => ⟨fun _ x h => (nomatch h), fun _ => by simp [PyData.depthAll]⟩
  | y :: ys => by
    simp only [PyData.depthAll, List.mem_cons]
    rw [Nat.max_le, depthAll_le (xs := ys)]
    exact ⟨fun h x m => m.elim (fun e => e ▸ h.1) (h.2 x), fun h => ⟨h y (.inl rfl), fun x m => h x (.inr m)⟩⟩
mutual
theorem fine_show : ∀ d : PyData, fine d = true → d.showable = true
  | .none, _ => by simp [PyData.showable]
  | .bool _, _ => by simp [PyData.showable]
  | .int i, h => by
    have h := of_decide_eq_true h
    simp only [PyData.showable]
    refine decide_eq_true ?_
    have : i.natAbs < 2 ^ 10 := by omega
    by_cases z : i.natAbs = 0
    · rw [z]
      decide
    · exact Nat.lt_of_lt_of_le ((Nat.log2_lt z).mpr this) (by decide)
  | .str _, _ => by simp [PyData.showable]
  | .list xs, h => by
    simp only [PyData.showable]
    exact fine_showAll xs h
  | .tuple xs, h => by
    simp only [PyData.showable]
    exact fine_showAll xs h
  | .dict kvs, h => by
    cases kvs with
    | nil => simp [PyData.showable, PyData.showableKv]
    | cons a r => cases h
theorem fine_showAll : ∀ xs : List PyData, fineAll xs = true → PyData.showableAll xs = true
  | [], _ => by simp [PyData.showableAll]
  | x :: xs, h => by
    simp only [fineAll, Bool.and_eq_true] at h
    simp only [PyData.showableAll, Bool.and_eq_true]
    exact ⟨fine_show x h.1, fine_showAll xs h.2⟩
end
mutual
theorem fine_short : ∀ d : PyData, fine d = true → d.leavesShort 13 = true
  | .none, _ => by simp [PyData.leavesShort]
  | .bool _, _ => by simp [PyData.leavesShort]
  | .int i, h => by
    have h := of_decide_eq_true h
    simp only [PyData.leavesShort]
    exact decide_eq_true (PyData.shown_int_le2 (by omega) (by omega))
  | .str x, h => by
    simp only [fine, Bool.and_eq_true] at h
    simp only [PyData.leavesShort]
    rw [List.all_eq_true]
    intro c hc
    have := of_decide_eq_true (List.all_eq_true.mp h.2 c hc)
    exact decide_eq_true (Nat.lt_trans this (by decide))
  | .list xs, h => by
    simp only [PyData.leavesShort]
    exact fine_shortAll xs h
  | .tuple xs, h => by
    simp only [PyData.leavesShort]
    exact fine_shortAll xs h
  | .dict kvs, h => by
    cases kvs with
    | nil => simp [PyData.leavesShort, PyData.leavesShortKv]
    | cons a r => cases h
theorem fine_shortAll : ∀ xs : List PyData, fineAll xs = true → PyData.leavesShortAll 13 xs = true
  | [], _ => by simp [PyData.leavesShortAll]
  | x :: xs, h => by
    simp only [fineAll, Bool.and_eq_true] at h
    simp only [PyData.leavesShortAll, Bool.and_eq_true]
    exact ⟨fine_short x h.1, fine_shortAll xs h.2⟩
end
mutual
theorem fine_weight : ∀ d : PyData, fine d = true → d.weight + 1 ≤ 13 * wt d
  | .none, _ => by simp [PyData.weight, wt]
  | .bool _, _ => by simp [PyData.weight, wt]
  | .int i, h => by
    have h := of_decide_eq_true h
    simp only [PyData.weight, wt]
    split
    · omega
    · rename_i ne
      have z : i.natAbs ≠ 0 := fun e => ne (by
        have : i = 0 := by omega
        rw [this]
        rfl)
      have : i.natAbs.log2 < 10 := (Nat.log2_lt z).mpr (by omega)
      omega
  | .str x, h => by
    simp only [fine, Bool.and_eq_true] at h
    have := of_decide_eq_true h.1
    simp only [PyData.weight, wt]
    have : x.cps.size ≤ 10 := this
    omega
  | .list xs, h => by
    simp only [PyData.weight, wt]
    have := fine_weightAll xs h
    omega
  | .tuple xs, h => by
    simp only [PyData.weight, wt]
    have := fine_weightAll xs h
    omega
  | .dict kvs, h => by
    cases kvs with
    | nil => simp [PyData.weight, PyData.weightKv, wt]
    | cons a r => cases h
theorem fine_weightAll : ∀ xs : List PyData, fineAll xs = true → PyData.weightAll xs ≤ 13 * wtAll xs
  | [], _ => by simp [PyData.weightAll, wtAll]
  | x :: xs, h => by
    simp only [fineAll, Bool.and_eq_true] at h
    simp only [PyData.weightAll, wtAll]
    have := fine_weight x h.1
    have := fine_weightAll xs h.2
    have := wt_pos x
    omega
end
end CaD
set_option Elab.async false
set_option linter.all false
set_option maxRecDepth 100000
/-! Such data in the heap: repr, isinstance. -/
namespace CaD
open PySem PySem.Spec PyProof.Rows L2 CaV CaL
mutual
/-- v is the data d; the purse at b is no part of it -/
inductive Dq (b : Addr) (H : Hp) : V → PyData → Prop
  | non : Dq b H .non .none
  | bl (x : Bool) : Dq b H (.bl x) (.bool x)
  | int (i : Int) : Dq b H (.int i) (.int i)
  | str (x : Str) : Dq b H (.str x) (.str x)
  | lst {a : Addr} {xs : List V} {ds : List PyData} : H a = some (.lst xs) → a ≠ b → DqAll b H xs ds → Dq b H (.ref a) (.list ds)
  | tup {a : Addr} {xs : List V} {ds : List PyData} : H a = some (.tup xs) → DqAll b H xs ds → Dq b H (.ref a) (.tuple ds)
  | emp {a : Addr} : H a = some (.dK []) → Dq b H (.ref a) (.dict [])
inductive DqAll (b : Addr) (H : Hp) : List V → List PyData → Prop
  | nil : DqAll b H [] []
  | cons {v : V} {vs : List V} {d : PyData} {ds : List PyData} : Dq b H v d → DqAll b H vs ds → DqAll b H (v :: vs) (d :: ds)
end
section
variable {b : Addr} {H H' : Hp}
mutual
theorem Dq.kp {n : Nat} (x : Bx H b n) (k : Kp b H H') : ∀ (d : PyData) (v : V), Dq b H v d → Dq b H' v d
  | .none, _, h => by
    cases h
    exact .non
  | .bool y, _, h => by
    cases h
    exact .bl y
  | .int i, _, h => by
    cases h
    exact .int i
  | .str z, _, h => by
    cases h
    exact .str z
  | .list ds, _, h => by
    cases h with
    | lst h1 h2 h4 => exact .lst (k _ _ h1 h2) h2 (DqAll.kp x k ds _ h4)
  | .tuple ds, _, h => by
    cases h with
    | tup h1 h2 =>
      obtain ⟨m, r, c, e, _⟩ := x
      exact .tup (k _ _ h1 (ne_of h1 e (fun z => nomatch z))) (DqAll.kp ⟨m, r, c, e, by assumption⟩ k ds _ h2)
  | .dict _, _, h => by
    cases h with
    | emp h1 =>
      obtain ⟨m, r, c, e, _⟩ := x
      exact .emp (k _ _ h1 (ne_of h1 e (fun z => nomatch z)))
theorem DqAll.kp {n : Nat} (x : Bx H b n) (k : Kp b H H') : ∀ (ds : List PyData) (vs : List V), DqAll b H vs ds → DqAll b H' vs ds
  | [], _, h => by
    cases h
    exact .nil
  | d :: ds, _, h => by
    cases h with
    | cons h1 h2 => exact .cons (Dq.kp x k d _ h1) (DqAll.kp x k ds _ h2)
end
mutual
theorem Dq.same (s : Same H H') : ∀ (d : PyData) (v : V), Dq b H v d → Dq b H' v d
  | .none, _, h => by
    cases h
    exact .non
  | .bool y, _, h => by
    cases h
    exact .bl y
  | .int i, _, h => by
    cases h
    exact .int i
  | .str z, _, h => by
    cases h
    exact .str z
  | .list ds, _, h => by
    cases h with
    | lst h1 h2 h4 => exact .lst (s _ _ h1) h2 (DqAll.same s ds _ h4)
  | .tuple ds, _, h => by
    cases h with
    | tup h1 h2 => exact .tup (s _ _ h1) (DqAll.same s ds _ h2)
  | .dict _, _, h => by
    cases h with
    | emp h1 => exact .emp (s _ _ h1)
theorem DqAll.same (s : Same H H') : ∀ (ds : List PyData) (vs : List V), DqAll b H vs ds → DqAll b H' vs ds
  | [], _, h => by
    cases h
    exact .nil
  | d :: ds, _, h => by
    cases h with
    | cons h1 h2 => exact .cons (Dq.same s d _ h1) (DqAll.same s ds _ h2)
end
theorem DqAll.len : ∀ {vs : List V} {ds : List PyData}, DqAll b H vs ds → vs.length = ds.length
  | _, _, .nil => rfl
  | _, _, .cons _ t => by
    rw [List.length_cons, List.length_cons, t.len]
theorem DqAll.append : ∀ {vs ws : List V} {ds es : List PyData}, DqAll b H vs ds → DqAll b H ws es → DqAll b H (vs ++ ws) (ds ++ es)
  | _, _, _, _, .nil, h => h
  | _, _, _, _, .cons x t, h => .cons x (t.append h)
theorem DqAll.get : ∀ {vs : List V} {ds : List PyData} {i : Nat} {d : PyData}, DqAll b H vs ds → ds[i]? = some d → ∃ v, vs[i]? = some v ∧ Dq b H v d
  | _, _, _, _, .nil, e => by simp at e
  | _, _, 0, _, .cons x _, e => by
    simp at e
    subst e
    exact ⟨_, rfl, x⟩
  | _, _, i + 1, _, .cons _ t, e => by
    obtain ⟨v, h1, h2⟩ := DqAll.get (i := i) t (by simpa using e)
    exact ⟨v, by simpa using h1, h2⟩
theorem DqAll.take : ∀ {vs : List V} {ds : List PyData} (n : Nat), DqAll b H vs ds → DqAll b H (vs.take n) (ds.take n)
  | _, _, 0, _ => .nil
  | _, _, _ + 1, .nil => .nil
  | _, _, n + 1, .cons x t => .cons x (t.take n)
theorem DqAll.drop : ∀ {vs : List V} {ds : List PyData} (n : Nat), DqAll b H vs ds → DqAll b H (vs.drop n) (ds.drop n)
  | _, _, 0, h => h
  | _, _, _ + 1, .nil => .nil
  | _, _, n + 1, .cons _ t => t.drop n
theorem DqAll.reverse : ∀ {vs : List V} {ds : List PyData}, DqAll b H vs ds → DqAll b H vs.reverse ds.reverse
  | _, _, .nil => .nil
  | _, _, .cons x t => by
    rw [List.reverse_cons, List.reverse_cons]
    exact t.reverse.append (.cons x .nil)
theorem DqAll.cut {vs : List V} {ds : List PyData} (lo hi : Option Int) (h : DqAll b H vs ds) : DqAll b H (cutV vs lo hi) ((ds.drop (HT.sIx ds.length 0 lo)).take (HT.sIx ds.length ds.length hi - HT.sIx ds.length 0 lo)) := by
  have e := h.len
  show DqAll b H ((vs.drop (HT.sIx vs.length 0 lo)).take (HT.sIx vs.length vs.length hi - HT.sIx vs.length 0 lo)) _
  rw [e]
  exact (h.drop _).take _
end
/-! ### repr -/
section
variable {X : Cx} {pins : List (Addr × Obj)} {σ : L2.St} {H : Hp} {s : Shared} {b : Addr}
theorem emp_reads (I : Inv X pins σ H s) {a : Addr} (h1 : H a = some (.dK [])) : ∃ as, Reads s.heap (.ref a) (.dict []) as ∧ sysModules ∉ as := by
  obtain ⟨_, nsm, vs, kv, dof⟩ := dk_of I.hok h1
  cases kv
  have whole := PyProof.V.reads_dictOf (knd := mixKind X.prog X.w) (enc := CaG.encK) (fun k key hk => by
    rcases keyIs_shape hk with ⟨i, t, rfl, rfl⟩ | ⟨x, t, rfl, rfl⟩
    · exact .int i t
    · exact .str x t) dof .nil
  refine ⟨_, whole, fun m => ?_⟩
  rcases List.mem_cons.mp m with z | z
  · rw [← z] at nsm
    exact absurd nsm (by decide)
  · cases z
mutual
theorem Dq.reads (I : Inv X pins σ H s) : ∀ (d : PyData) (v : V) (u : Value), Dq b H v d → RelV v u → ∃ as, Reads s.heap u d as
  | .none, _, _, h, r => by
    cases h
    cases r
    exact ⟨[], Reads.none⟩
  | .bool y, _, _, h, r => by
    cases h
    cases r
    exact ⟨[], Reads.bool y⟩
  | .int i, _, _, h, r => by
    cases h
    obtain ⟨t, rfl⟩ := r
    exact ⟨[], Reads.int i t⟩
  | .str x, _, _, h, r => by
    cases h
    obtain ⟨t, rfl⟩ := r
    exact ⟨[], Reads.str x t⟩
  | .list ds, _, _, h, r => by
    cases h with
    | lst h1 h2 h4 =>
      cases r
      obtain ⟨its, rv, ⟨o, n, ho, hc, _, hd⟩, _⟩ := I.list (SqL.of (K := X.K) h1)
      obtain ⟨as, q1⟩ := Dq.readsAll I ds _ its h4 rv
      exact ⟨_, Reads.list ho hc hd q1⟩
  | .tuple ds, _, _, h, r => by
    cases h with
    | tup h1 h2 =>
      cases r
      obtain ⟨its, rv, ⟨o, ho, hc, n, hd⟩, _⟩ := I.tuple (SqT.of (K := X.K) h1)
      obtain ⟨as, q1⟩ := Dq.readsAll I ds _ its h2 rv
      exact ⟨_, Reads.tuple ho hc hd q1⟩
  | .dict _, _, _, h, r => by
    cases h with
    | emp h1 =>
      cases r
      obtain ⟨as, q, _⟩ := emp_reads I h1
      exact ⟨as, q⟩
theorem Dq.readsAll (I : Inv X pins σ H s) : ∀ (ds : List PyData) (vs : List V) (us : List Value), DqAll b H vs ds → Vals vs us → ∃ as, ReadsAll s.heap us ds as
  | [], _, _, h, r => by
    cases h
    cases r
    exact ⟨[], ReadsAll.nil⟩
  | d :: ds, _, _, h, r => by
    cases h with
    | cons h1 h2 =>
      cases r with
      | cons r1 r2 =>
        obtain ⟨as, q1⟩ := Dq.reads I d _ _ h1 r1
        obtain ⟨bs, q2⟩ := Dq.readsAll I ds _ _ h2 r2
        exact ⟨_, ReadsAll.cons q1 q2⟩
end
theorem low_list {n : Nat} {xs : List PyData} (h : (PyData.shown (.list xs)).length ≤ n) : ∀ t ∈ PyData.shownAll xs, t.length ≤ n := fun t ht => Nat.le_trans (listText_mem_le ht) (by simpa only [PyData.shown] using h)
theorem low_tup {n : Nat} {xs : List PyData} (h : (PyData.shown (.tuple xs)).length ≤ n) : ∀ t ∈ PyData.shownAll xs, t.length ≤ n := fun t ht => Nat.le_trans (tupleText_mem_le ht) (by simpa only [PyData.shown] using h)
mutual
/-- how the library's repr shows it, within whatever is being shown -/
theorem Dq.repK (I : Inv X pins σ H s) : ∀ (d : PyData) (v : V) (u : Value), Dq b H v d → RelV v u → d.showable = true → d.shown.length ≤ sizeLine → ∃ bs, ReadAtMost s.heap d.depth bs ∧ ReprK X.prog X.w bs s.heap d.depth u d.shown
  | .none, _, _, h, r, hs, hz => by
    obtain ⟨as, q⟩ := Dq.reads I _ _ _ h r
    exact ReprK.of_reads q hs (fun z => by simp [PyData.hasDict] at z) hz
  | .bool y, _, _, h, r, hs, hz => by
    obtain ⟨as, q⟩ := Dq.reads I _ _ _ h r
    exact ReprK.of_reads q hs (fun z => by simp [PyData.hasDict] at z) hz
  | .int i, _, _, h, r, hs, hz => by
    obtain ⟨as, q⟩ := Dq.reads I _ _ _ h r
    exact ReprK.of_reads q hs (fun z => by simp [PyData.hasDict] at z) hz
  | .str x, _, _, h, r, hs, hz => by
    obtain ⟨as, q⟩ := Dq.reads I _ _ _ h r
    exact ReprK.of_reads q hs (fun z => by simp [PyData.hasDict] at z) hz
  | .list ds, _, _, h, r, hs, hz => by
    obtain ⟨as, rd⟩ := Dq.reads I _ _ _ h r
    cases h with
    | lst h1 h2 h4 =>
      cases r
      obtain ⟨its, rv, ⟨o, n, ho, hc, _, hd⟩, _⟩ := I.list (SqL.of (K := X.K) h1)
      obtain ⟨bs, hb, hk⟩ := Dq.repAll I ds _ its h4 rv (by simpa [PyData.showable] using hs) (low_list hz)
      have far := not_mem_of_deeper rd (by simp only [PyData.depth]; omega) hb
      refine ⟨_, ReadAtMost.cons rd (by simp only [PyData.depth]; omega) hb, ?_⟩
      simp only [PyData.depth, PyData.shown]
      cases its with
      | nil =>
        cases rv
        cases h4
        simp only [PyData.shownAll, listText_nil]
        exact ReprK.listEmpty ho hc hd
      | cons x l => exact ReprK.list ho hc hd far (by simpa using hk.length_eq) (fun i y e => hk.item i y (by simpa using e))
  | .tuple ds, _, _, h, r, hs, hz => by
    obtain ⟨as, rd⟩ := Dq.reads I _ _ _ h r
    cases h with
    | tup h1 h2 =>
      cases r
      obtain ⟨its, rv, ⟨o, ho, hc, n, hd⟩, _⟩ := I.tuple (SqT.of (K := X.K) h1)
      obtain ⟨bs, hb, hk⟩ := Dq.repAll I ds _ its h2 rv (by simpa [PyData.showable] using hs) (low_tup hz)
      have far := not_mem_of_deeper rd (by simp only [PyData.depth]; omega) hb
      refine ⟨_, ReadAtMost.cons rd (by simp only [PyData.depth]; omega) hb, ?_⟩
      simp only [PyData.depth, PyData.shown]
      exact ReprK.tuple ho hc hd far hk
  | .dict _, _, _, h, r, hs, hz => by
    cases h with
    | emp h1 =>
      cases r
      obtain ⟨as, q, n⟩ := emp_reads I h1
      exact ReprK.of_reads q hs (fun _ => n) hz
theorem Dq.repAll (I : Inv X pins σ H s) : ∀ (ds : List PyData) (vs : List V) (us : List Value), DqAll b H vs ds → Vals vs us → PyData.showableAll ds = true → (∀ t ∈ PyData.shownAll ds, t.length ≤ sizeLine) → ∃ bs, ReadAtMost s.heap (PyData.depthAll ds) bs ∧ ReprAllK X.prog X.w bs s.heap (PyData.depthAll ds) us (PyData.shownAll ds)
  | [], _, _, h, r, _, _ => by
    cases h
    cases r
    refine ⟨[], (fun _ z => (nomatch z)), ?_⟩
    simp only [PyData.shownAll]
    exact .nil
  | d :: ds, _, _, h, r, hs, hz => by
    have hs : d.showable = true ∧ PyData.showableAll ds = true := by simpa [PyData.showableAll] using hs
    have hz : ∀ t, t = d.shown ∨ t ∈ PyData.shownAll ds → t.length ≤ sizeLine := fun t ht => hz t (by
      simp only [PyData.shownAll]
      exact List.mem_cons.mpr ht)
    cases h with
    | cons h1 h2 =>
      cases r with
      | cons r1 r2 =>
        obtain ⟨b1, m1, k1⟩ := Dq.repK I d _ _ h1 r1 hs.1 (hz _ (.inl rfl))
        obtain ⟨b2, m2, k2⟩ := Dq.repAll I ds _ _ h2 r2 hs.2 (fun t ht => hz t (.inr ht))
        simp only [PyData.depthAll, PyData.shownAll]
        refine ⟨b1 ++ b2, fun c m => ?_, .cons ((k1.more fun c m => List.mem_append_left _ m).level_le (Nat.le_max_left _ _)) (k2.more_le (fun c m => List.mem_append_right _ m) (Nat.le_max_right _ _))⟩
        rcases List.mem_append.mp m with m | m
        · obtain ⟨e, es, re, le⟩ := m1 c m
          exact ⟨e, es, re, Nat.le_trans le (Nat.le_max_left _ _)⟩
        · obtain ⟨e, es, re, le⟩ := m2 c m
          exact ⟨e, es, re, Nat.le_trans le (Nat.le_max_right _ _)⟩
end
/-- repr of such data -/
def rReprQ (b : Addr) : List V → Hp → VK → Prop := fun xs H Q => ∃ (x : V) (d : PyData), xs = [x] ∧ Dq b H x d ∧ fine d = true ∧ wt d ≤ 60000 ∧ d.depth ≤ 60 ∧ Q (.str d.shown) H
theorem fine_fits {d : PyData} (f : fine d = true) (h : wt d ≤ 60000) : d.shown.length ≤ sizeLine := by
  have := fine_weight d f
  exact PyData.shown_fits (by decide) (by decide) (fine_short d f) (by
    have e : (2 : Nat) ^ 20 = 1048576 := by decide
    omega)
theorem call_reprQ (quiet : X.A.guards = some []) (hu : X.A.units + 64 < cLine) : CallR X (.builtin "repr") (rReprQ b) := by
  intro pins s σ H xs us Q inv rel told
  obtain ⟨x, d, rfl, dq, hf, hw, depth, q⟩ := told
  have size := fine_fits hf hw
  have hs := fine_show d hf
  obtain ⟨u, rfl, rx⟩ := vals1 rel
  have fin : ∀ (h' : Heap) (u : Tok) (tk : Nat), (∀ c o, s.heap.get? c = some o → h'.get? c = some o) → EP X pins σ Q (.str d.shown u) { s with heap := h', toks := tk } := fun h' u tk kept => ⟨.str d.shown, H, inv.kept (t' := tk) kept, ⟨_, rfl⟩, q⟩
  cases d with
  | none =>
    cases dq
    cases rx
    exact PySem.P.repr_of_none ⟨.str PyData.none.shown, H, inv.tok _, ⟨_, rfl⟩, q⟩
  | bool y =>
    cases dq
    cases rx
    exact PySem.P.repr_of_bool ⟨.str (PyData.bool y).shown, H, inv.tok _, ⟨_, by cases y <;> rfl⟩, q⟩
  | int i =>
    cases dq
    obtain ⟨t, rfl⟩ := rx
    exact PySem.P.repr_of_int (of_decide_eq_true hs) ⟨.str (PyData.int i).shown, H, inv.tok _, ⟨_, rfl⟩, q⟩
  | str z =>
    cases dq
    obtain ⟨t, rfl⟩ := rx
    exact PySem.P.repr_of_str ⟨.str (PyData.str z).shown, H, inv.tok _, ⟨_, rfl⟩, q⟩ size
  | list ds =>
    obtain ⟨as, rd⟩ := Dq.reads inv _ _ _ dq rx
    cases dq with
    | lst h1 h2 h4 =>
      cases rx
      obtain ⟨its, rv, ⟨o, n, ho, hc, _, hd⟩, _⟩ := inv.list (SqL.of (K := X.K) h1)
      obtain ⟨bs, hb, hk⟩ := Dq.repAll inv ds _ its h4 rv (by simpa [PyData.showable] using hs) (low_list size)
      have far := not_mem_of_deeper rd (by simp only [PyData.depth]; omega) hb
      simp only [PyData.depth] at depth
      simp only [PyData.shown] at fin size
      refine call_repr_slot (by omega) ⟨o, ho, hc⟩ PySem.F.slot_list_repr.toG ?_
      cases its with
      | nil =>
        cases rv
        cases h4
        simp only [PyData.shownAll, listText_nil] at fin
        exact call_list_repr_empty ⟨o, ho, hc⟩ ho hd ⟨_, _, rfl, fin s.heap _ _ fun _ _ e => e⟩
      | cons x l =>
        exact call_list_reprK ho hc hd far (by simpa using hk.length_eq) (fun i y e => hk.item i y (by simpa using e)) quiet (fun c _ => Clear.nil c) (by show X.A.units + 1 + _ < cLine; omega) (fun _ _ e => e) (fun h' u tk kept => ⟨_, _, rfl, fin h' u tk kept⟩) size
  | tuple ds =>
    obtain ⟨as, rd⟩ := Dq.reads inv _ _ _ dq rx
    cases dq with
    | tup h1 h2 =>
      cases rx
      obtain ⟨its, rv, ⟨o, ho, hc, n, hd⟩, _⟩ := inv.tuple (SqT.of (K := X.K) h1)
      obtain ⟨bs, hb, hk⟩ := Dq.repAll inv ds _ its h2 rv (by simpa [PyData.showable] using hs) (low_tup size)
      have far := not_mem_of_deeper rd (by simp only [PyData.depth]; omega) hb
      simp only [PyData.depth] at depth
      simp only [PyData.shown] at fin size
      exact call_repr_slot (by omega) ⟨o, ho, hc⟩ PySem.F.slot_tuple_repr (call_tuple_reprK ho hc hd far hk quiet (fun c _ => Clear.nil c) (by show X.A.units + 1 + _ < cLine; omega) (fun _ _ e => e) (fun h' u tk kept => ⟨_, _, rfl, fin h' u tk kept⟩) size)
  | dict kvs =>
    cases dq with
    | emp h1 =>
      cases rx
      obtain ⟨as, rd, nb⟩ := emp_reads inv h1
      exact repr_of_reads' rd hs (fun _ => nb) quiet (by omega) (fun _ _ z => z) (fun h' u tk kept => fin h' u tk kept) size
end
/-! ### isinstance -/
def tyOf : PyData → String
  | .none => "NoneType"
  | .bool _ => "bool"
  | .int _ => "int"
  | .str _ => "str"
  | .list _ => "list"
  | .tuple _ => "tuple"
  | .dict _ => "dict"
def isTup : PyData → Bool
  | .tuple _ => true
  | _ => false
def isStr : PyData → Bool
  | .str _ => true
  | _ => false
section
variable {b : Addr} {K : PySem.W.Frag} {H : Hp} {x : V} {d : PyData} {Q : VK}
theorem Dq.ty (h : Dq b H x d) : TyX K H x (.type (tyOf d)) := by
  cases h with
  | non => exact .base .non
  | bl y => exact .base (.bl y)
  | int i => exact .base (.int i)
  | str z => exact .base (.str z)
  | lst h1 _ _ => exact .base (.lst h1)
  | tup h1 _ => exact .base (.tup h1)
  | emp h1 => exact .base (.dK h1)
theorem kit_tup (d : PyData) : kitB (tyOf d) "tuple" = some (isTup d) := by
  have e1 : kitB "NoneType" "tuple" = some false ∧ kitB "bool" "tuple" = some false ∧ kitB "int" "tuple" = some false ∧ kitB "str" "tuple" = some false ∧ kitB "list" "tuple" = some false ∧ kitB "tuple" "tuple" = some true ∧ kitB "dict" "tuple" = some false := by decide +kernel
  obtain ⟨h1, h2, h3, h4, h5, h6, h7⟩ := e1
  cases d <;> assumption
theorem kit_str (d : PyData) : kitB (tyOf d) "str" = some (isStr d) := by
  have e1 : kitB "NoneType" "str" = some false ∧ kitB "bool" "str" = some false ∧ kitB "int" "str" = some false ∧ kitB "str" "str" = some true ∧ kitB "list" "str" = some false ∧ kitB "tuple" "str" = some false ∧ kitB "dict" "str" = some false := by decide +kernel
  obtain ⟨h1, h2, h3, h4, h5, h6, h7⟩ := e1
  cases d <;> assumption
theorem Dq.isi_tup (h : Dq b H x d) (q : Q (.bl (isTup d)) H) : rIsV K [x, .ty "tuple"] H Q := by
  refine ⟨x, _, _, _, isTup d, rfl, .ty _, .inl h.ty, kit_ty (kit_tup d), q⟩
theorem Dq.isi_str (h : Dq b H x d) (q : Q (.bl (isStr d)) H) : rIsV K [x, .ty "str"] H Q := by
  refine ⟨x, _, _, _, isStr d, rfl, .ty _, .inl h.ty, kit_ty (kit_str d), q⟩
end
end CaD
set_option Elab.async false
set_option linter.all false
set_option maxRecDepth 100000
namespace CaN
open PySem PySem.Spec PyProof.Rows L2
theorem arr_all {p : Nat → Bool} {x : Str} : x.cps.all p = x.cps.toList.all p := by
  rw [← Array.all_toList]
theorem arr_any {p : Nat → Bool} {x : Str} : x.cps.any p = x.cps.toList.any p := by
  rw [← Array.any_toList]
/-! ### what a name is -/
def kws : List Str := ["let", "in", "each", "of", "want"]
def low (c : Nat) : Bool := decide (97 ≤ c) && decide (c ≤ 122)
/-- small letters alone, one to six, no word of its own -/
def nameS (x : Str) : Bool := x.cps.toList.all low && (decide (0 < x.length) && decide (x.length < 7)) && !inV (.str x) (kws.map V.str)
theorem ascii_tab : ((List.range 128).all fun c => decide ((Unicode.isAlpha c = true → ((Unicode.isUpper c || Unicode.isTitle c) = false → low c = true)) ∧ (low c = true → Unicode.isAlpha c = true ∧ Unicode.isLower c = true ∧ (Unicode.isUpper c || Unicode.isTitle c) = false))) = true := by decide +kernel
theorem ascii_at {c : Nat} (h : c < 128) : (Unicode.isAlpha c = true → ((Unicode.isUpper c || Unicode.isTitle c) = false → low c = true)) ∧ (low c = true → Unicode.isAlpha c = true ∧ Unicode.isLower c = true ∧ (Unicode.isUpper c || Unicode.isTitle c) = false) :=
  of_decide_eq_true (List.all_eq_true.mp ascii_tab c (List.mem_range.mpr h))
theorem low_128 {c : Nat} (h : low c = true) : c < 128 := by
  unfold low at h
  simp only [Bool.and_eq_true, decide_eq_true_eq] at h
  omega
/-- what the package asks of the signs is what the law asks -/
theorem signs_same (x : Str) (h0 : 0 < x.length) : (Txt.isascii x && (Txt.isalpha x && Txt.islower x)) = x.cps.toList.all low := by
  have hl : x.cps.toList.length = x.length := by simp [Str.length]
  rw [Bool.eq_iff_iff]
  unfold Txt.isascii Txt.isalpha Txt.islower
  rw [arr_all, arr_all, arr_any, arr_any]
  simp only [Bool.and_eq_true, List.all_eq_true, List.any_eq_true, decide_eq_true_eq, Bool.not_eq_true', List.any_eq_false]
  constructor
  · rintro ⟨h1, ⟨_, h2⟩, _, h4⟩ c hc
    have z := h4 c hc
    exact (ascii_at (h1 c hc)).1 (h2 c hc) (by simpa using z)
  · intro h
    refine ⟨fun c hc => low_128 (h c hc), ⟨by simpa using h0, fun c hc => ((ascii_at (low_128 (h c hc))).2 (h c hc)).1⟩, ?_, fun c hc => ?_⟩
    · cases e : x.cps.toList with
      | nil =>
        rw [e] at hl
        simp at hl
        omega
      | cons c r =>
        have hc : c ∈ x.cps.toList := by
          rw [e]
          exact List.mem_cons_self
        exact ⟨c, List.mem_cons_self, ((ascii_at (low_128 (h c hc))).2 (h c hc)).2.1⟩
    · have z := ((ascii_at (low_128 (h c hc))).2 (h c hc)).2.2
      rw [z]
      decide
/-- the signs among the first i that are no small letters -/
def badS (x : Str) (i : Nat) : List Str := ((x.cps.toList.take i).filter fun c => !low c).map fun c => (⟨#[c]⟩ : Str)
theorem bad_succ {x : Str} {i c : Nat} (h : x.cps.toList[i]? = some c) : badS x (i + 1) = badS x i ++ (if low c then [] else [⟨#[c]⟩]) := by
  unfold badS
  rw [List.take_add_one, h, List.filter_append, List.map_append]
  cases e : low c with
  | true => simp [e]
  | false => simp [e]
theorem bad_all (x : Str) : (badS x x.cps.size).isEmpty = x.cps.toList.all low := by
  unfold badS
  rw [List.take_of_length_le (by simp)]
  generalize x.cps.toList = l
  rw [Bool.eq_iff_iff]
  simp [List.isEmpty_iff, List.filter_eq_nil_iff]
theorem bad_len (x : Str) (i : Nat) : (badS x i).length ≤ i := by
  unfold badS
  rw [List.length_map]
  exact Nat.le_trans (List.length_filter_le _ _) (by rw [List.length_take]; omega)

def parS (x : Str) : Bool := inV (.str (cutS x none (some 1))) [.str "?", .str "$"] && nameS (cutS x (some 1) none)
/-- it begins with the sign of a name parameter -/
def doll (x : Str) : Bool := Txt.startswith x "$"
theorem take1_len (l : List Nat) : (l.drop 0).take (min (1 : Int).toNat l.length - 0) = l.take 1 := by
  cases l with
  | nil => rfl
  | cons a r =>
    have : min (1 : Int).toNat (a :: r).length = 1 := by
      simp
    rw [this]
    rfl
theorem cut1 (x : Str) : cutS x none (some 1) = ⟨(x.cps.toList.take 1).toArray⟩ := by
  have e : x.length = x.cps.toList.length := by
    rw [Array.length_toList]
    rfl
  show (⟨((x.cps.toList.drop 0).take (min (1 : Int).toNat x.length - 0)).toArray⟩ : Str) = _
  rw [e, take1_len]
theorem str_ext {a b : List Nat} : ((⟨a.toArray⟩ : Str) = ⟨b.toArray⟩) ↔ a = b := by
  constructor
  · intro h
    have := congrArg (fun s : Str => s.cps.toList) h
    simpa using this
  · rintro rfl
    rfl
theorem dollar : ("$" : Str) = ⟨[36].toArray⟩ := by decide +kernel
theorem doll_head (x : Str) : doll x = decide (x.cps.toList.take 1 = [36]) := by
  have e : x.length = x.cps.toList.length := by
    rw [Array.length_toList]
    rfl
  have hl : ("$" : Str).length = 1 := by decide +kernel
  unfold doll Txt.startswith Builtin.Str.subAt
  rw [hl, e]
  have hx : x.cps.extract 0 (0 + 1) = (x.cps.toList.take 1).toArray := by
    rw [← Array.toList_inj]
    simp
  rw [hx, dollar]
  cases x.cps.toList with
  | nil => decide
  | cons a r =>
    rw [Bool.eq_iff_iff]
    simp
theorem doll_cut (x : Str) : doll x = decide (cutS x none (some 1) = "$") := by
  rw [doll_head, cut1, dollar]
  rw [Bool.eq_iff_iff, decide_eq_true_eq, decide_eq_true_eq, str_ext]
theorem name_no_doll {x : Str} (h : nameS x = true) : doll x = false := by
  rw [doll_head]
  refine decide_eq_false fun z => ?_
  unfold nameS at h
  simp only [Bool.and_eq_true] at h
  have h := h.1.1
  cases e : x.cps.toList with
  | nil =>
    rw [e] at z
    cases z
  | cons a r =>
    rw [e] at z h
    have z : a = 36 := by simpa using z
    subst z
    simp [low] at h
/-! ### the parts of a body, by the program's clauses and by the law's -/
def sOf : PyData → Str
  | .str x => x
  | _ => ""
def nameD : PyData → Bool
  | .str x => nameS x
  | _ => false
def parD : PyData → Bool
  | .str x => parS x
  | _ => false
/-- the parameters are any ones, or those of a list -/
def allowS (ps : Option (List Str)) (x : Str) : Bool :=
  match ps with
  | none => true
  | some l => inV (.str x) (l.map V.str)
def withinD (ps : Option (List Str)) (d : PyData) : Bool := nameD d || (parD d && (doll (sOf d) && allowS ps (sOf d)))
def rowD (most : Nat) (d1 : PyData) (r : List PyData) : Bool := decide (r.length = 1) && (nameD d1 && (match r with | .tuple zs :: _ => decide (zs.length ≤ most) | _ => false))
def bodyD (ps : Option (List Str)) (k : Str) (d1 : PyData) (r : List PyData) : Bool :=
  if k = "name" then decide (r.length = 0) && withinD ps d1
  else if k = "hole" then decide (r.length = 0) && (nameD d1 && allowS ps ("?" ++ sOf d1))
  else if k = "op" then rowD 3 d1 r
  else if k = "call" then rowD 5 d1 r
  else if k = "want" then decide (r.length = 2) && nameD d1
  else decide (r.length = 2) && withinD ps d1
/-- by the program -/
def isPart (kinds : List Str) (ps : Option (List Str)) : PyData → Bool
  | .tuple (.str k :: d1 :: r) => kinds.contains k && bodyD ps k d1 r
  | _ => false
def rowOf : List PyData → List PyData
  | .tuple zs :: _ => zs
  | _ => []
/-- the parts right within -/
def inner : PyData → List PyData
  | .tuple (.str k :: _ :: r) => if k = "op" ∨ k = "call" then rowOf r else if k = "let" ∨ k = "each" ∨ k = "want" then r else []
  | _ => []
def bindD (ps : Option (List Str)) (k : Str) (d : PyData) : Bool :=
  match ps, d with
  | some l, .str x => if k ≠ "want" ∧ doll x = true then inV (.str x) (l.map V.str) else nameS x
  | _, d => nameD d
/-- by the law -/
def lawPart (ps : Option (List Str)) (cc : Bool) : PyData → Bool
  | .tuple (.str k :: d1 :: r) =>
    if k = "hole" then decide (r.length = 0) && (ps.isSome && (nameD d1 && allowS ps ("?" ++ sOf d1)))
    else if k = "name" then decide (r.length = 0) && bindD ps k d1
    else if k = "op" then rowD 3 d1 r
    else if k = "call" ∧ cc = true then rowD 5 d1 r
    else if ((k ≠ "let" ∧ k ≠ "each") ∧ (k ≠ "want" ∨ ps = none)) ∨ r.length ≠ 2 then false
    else bindD ps k d1
  | _ => false
def termK : List Str := ["name", "op", "let", "each"]
def progK : List Str := ["name", "op", "let", "each", "call"]
def bodyK : List Str := ["name", "op", "let", "each", "call", "hole", "want"]
theorem inV_str (x : Str) (l : List Str) : inV (.str x) (l.map V.str) = l.contains x := by
  unfold inV
  induction l with
  | nil => rfl
  | cons a r ih =>
    rw [List.map_cons, List.any_cons, List.contains_cons, ih]
    show ((a == x) || r.contains x) = ((x == a) || r.contains x)
    rw [BEq.comm]
theorem z_name_hole : (("name" : Str) = "hole") = False := eq_false (by decide +kernel)
theorem z_name_op : (("name" : Str) = "op") = False := eq_false (by decide +kernel)
theorem z_name_call : (("name" : Str) = "call") = False := eq_false (by decide +kernel)
theorem z_name_want : (("name" : Str) = "want") = False := eq_false (by decide +kernel)
theorem z_name_let : (("name" : Str) = "let") = False := eq_false (by decide +kernel)
theorem z_name_each : (("name" : Str) = "each") = False := eq_false (by decide +kernel)
theorem z_hole_name : (("hole" : Str) = "name") = False := eq_false (by decide +kernel)
theorem z_hole_op : (("hole" : Str) = "op") = False := eq_false (by decide +kernel)
theorem z_hole_call : (("hole" : Str) = "call") = False := eq_false (by decide +kernel)
theorem z_hole_want : (("hole" : Str) = "want") = False := eq_false (by decide +kernel)
theorem z_hole_let : (("hole" : Str) = "let") = False := eq_false (by decide +kernel)
theorem z_hole_each : (("hole" : Str) = "each") = False := eq_false (by decide +kernel)
theorem z_op_name : (("op" : Str) = "name") = False := eq_false (by decide +kernel)
theorem z_op_hole : (("op" : Str) = "hole") = False := eq_false (by decide +kernel)
theorem z_op_call : (("op" : Str) = "call") = False := eq_false (by decide +kernel)
theorem z_op_want : (("op" : Str) = "want") = False := eq_false (by decide +kernel)
theorem z_op_let : (("op" : Str) = "let") = False := eq_false (by decide +kernel)
theorem z_op_each : (("op" : Str) = "each") = False := eq_false (by decide +kernel)
theorem z_call_name : (("call" : Str) = "name") = False := eq_false (by decide +kernel)
theorem z_call_hole : (("call" : Str) = "hole") = False := eq_false (by decide +kernel)
theorem z_call_op : (("call" : Str) = "op") = False := eq_false (by decide +kernel)
theorem z_call_want : (("call" : Str) = "want") = False := eq_false (by decide +kernel)
theorem z_call_let : (("call" : Str) = "let") = False := eq_false (by decide +kernel)
theorem z_call_each : (("call" : Str) = "each") = False := eq_false (by decide +kernel)
theorem z_want_name : (("want" : Str) = "name") = False := eq_false (by decide +kernel)
theorem z_want_hole : (("want" : Str) = "hole") = False := eq_false (by decide +kernel)
theorem z_want_op : (("want" : Str) = "op") = False := eq_false (by decide +kernel)
theorem z_want_call : (("want" : Str) = "call") = False := eq_false (by decide +kernel)
theorem z_want_let : (("want" : Str) = "let") = False := eq_false (by decide +kernel)
theorem z_want_each : (("want" : Str) = "each") = False := eq_false (by decide +kernel)
theorem z_let_name : (("let" : Str) = "name") = False := eq_false (by decide +kernel)
theorem z_let_hole : (("let" : Str) = "hole") = False := eq_false (by decide +kernel)
theorem z_let_op : (("let" : Str) = "op") = False := eq_false (by decide +kernel)
theorem z_let_call : (("let" : Str) = "call") = False := eq_false (by decide +kernel)
theorem z_let_want : (("let" : Str) = "want") = False := eq_false (by decide +kernel)
theorem z_let_each : (("let" : Str) = "each") = False := eq_false (by decide +kernel)
theorem z_each_name : (("each" : Str) = "name") = False := eq_false (by decide +kernel)
theorem z_each_hole : (("each" : Str) = "hole") = False := eq_false (by decide +kernel)
theorem z_each_op : (("each" : Str) = "op") = False := eq_false (by decide +kernel)
theorem z_each_call : (("each" : Str) = "call") = False := eq_false (by decide +kernel)
theorem z_each_want : (("each" : Str) = "want") = False := eq_false (by decide +kernel)
theorem z_each_let : (("each" : Str) = "let") = False := eq_false (by decide +kernel)
theorem within_none (d : PyData) : withinD (some []) d = nameD d := by
  have : allowS (some []) (sOf d) = false := rfl
  unfold withinD
  rw [this, Bool.and_false, Bool.and_false, Bool.or_false]
theorem within_some {l : List Str} (hl : ∀ p ∈ l, parS p = true) (k : Str) (hk : k ≠ "want") (d : PyData) : withinD (some l) d = bindD (some l) k d := by
  cases d with
  | str x =>
    show (nameS x || (parS x && (doll x && inV (.str x) (l.map V.str)))) = if k ≠ "want" ∧ doll x = true then inV (.str x) (l.map V.str) else nameS x
    cases e : doll x with
    | false => simp
    | true =>
      rw [if_pos ⟨hk, rfl⟩]
      have hn : nameS x = false := by
        cases z : nameS x with
        | false => rfl
        | true =>
          rw [name_no_doll z] at e
          cases e
      rw [hn]
      cases z : inV (.str x) (l.map V.str) with
      | false => simp
      | true =>
        rw [inV_str] at z
        have := hl x (List.contains_iff_mem.mp z)
        rw [this]
        rfl
  | _ => rfl
theorem part_term (d : PyData) : isPart termK (some []) d = lawPart none false d := by
  unfold isPart lawPart
  split
  · rename_i k d1 r
    unfold bodyD
    rw [within_none]
    by_cases h1 : k = "name"
    · subst h1
      simp [termK, bindD, z_name_hole, z_name_op, z_name_call, z_name_want, z_name_let, z_name_each, z_hole_name, z_hole_op, z_hole_call, z_hole_want, z_hole_let, z_hole_each, z_op_name, z_op_hole, z_op_call, z_op_want, z_op_let, z_op_each, z_call_name, z_call_hole, z_call_op, z_call_want, z_call_let, z_call_each, z_want_name, z_want_hole, z_want_op, z_want_call, z_want_let, z_want_each, z_let_name, z_let_hole, z_let_op, z_let_call, z_let_want, z_let_each, z_each_name, z_each_hole, z_each_op, z_each_call, z_each_want, z_each_let]
    · by_cases h2 : k = "hole"
      · subst h2
        simp [termK, z_name_hole, z_name_op, z_name_call, z_name_want, z_name_let, z_name_each, z_hole_name, z_hole_op, z_hole_call, z_hole_want, z_hole_let, z_hole_each, z_op_name, z_op_hole, z_op_call, z_op_want, z_op_let, z_op_each, z_call_name, z_call_hole, z_call_op, z_call_want, z_call_let, z_call_each, z_want_name, z_want_hole, z_want_op, z_want_call, z_want_let, z_want_each, z_let_name, z_let_hole, z_let_op, z_let_call, z_let_want, z_let_each, z_each_name, z_each_hole, z_each_op, z_each_call, z_each_want, z_each_let]
      · by_cases h3 : k = "op"
        · subst h3
          simp [termK, z_name_hole, z_name_op, z_name_call, z_name_want, z_name_let, z_name_each, z_hole_name, z_hole_op, z_hole_call, z_hole_want, z_hole_let, z_hole_each, z_op_name, z_op_hole, z_op_call, z_op_want, z_op_let, z_op_each, z_call_name, z_call_hole, z_call_op, z_call_want, z_call_let, z_call_each, z_want_name, z_want_hole, z_want_op, z_want_call, z_want_let, z_want_each, z_let_name, z_let_hole, z_let_op, z_let_call, z_let_want, z_let_each, z_each_name, z_each_hole, z_each_op, z_each_call, z_each_want, z_each_let]
        · by_cases h4 : k = "let"
          · subst h4
            simp [termK, bindD, z_name_hole, z_name_op, z_name_call, z_name_want, z_name_let, z_name_each, z_hole_name, z_hole_op, z_hole_call, z_hole_want, z_hole_let, z_hole_each, z_op_name, z_op_hole, z_op_call, z_op_want, z_op_let, z_op_each, z_call_name, z_call_hole, z_call_op, z_call_want, z_call_let, z_call_each, z_want_name, z_want_hole, z_want_op, z_want_call, z_want_let, z_want_each, z_let_name, z_let_hole, z_let_op, z_let_call, z_let_want, z_let_each, z_each_name, z_each_hole, z_each_op, z_each_call, z_each_want, z_each_let]
          · by_cases h5 : k = "each"
            · subst h5
              simp [termK, bindD, z_name_hole, z_name_op, z_name_call, z_name_want, z_name_let, z_name_each, z_hole_name, z_hole_op, z_hole_call, z_hole_want, z_hole_let, z_hole_each, z_op_name, z_op_hole, z_op_call, z_op_want, z_op_let, z_op_each, z_call_name, z_call_hole, z_call_op, z_call_want, z_call_let, z_call_each, z_want_name, z_want_hole, z_want_op, z_want_call, z_want_let, z_want_each, z_let_name, z_let_hole, z_let_op, z_let_call, z_let_want, z_let_each, z_each_name, z_each_hole, z_each_op, z_each_call, z_each_want, z_each_let]
            · simp [termK, h1, h2, h3, h4, h5]
  · rfl
theorem part_prog (d : PyData) : isPart progK (some []) d = lawPart none true d := by
  unfold isPart lawPart
  split
  · rename_i k d1 r
    unfold bodyD
    rw [within_none]
    by_cases h1 : k = "name"
    · subst h1
      simp [progK, bindD, z_name_hole, z_name_op, z_name_call, z_name_want, z_name_let, z_name_each, z_hole_name, z_hole_op, z_hole_call, z_hole_want, z_hole_let, z_hole_each, z_op_name, z_op_hole, z_op_call, z_op_want, z_op_let, z_op_each, z_call_name, z_call_hole, z_call_op, z_call_want, z_call_let, z_call_each, z_want_name, z_want_hole, z_want_op, z_want_call, z_want_let, z_want_each, z_let_name, z_let_hole, z_let_op, z_let_call, z_let_want, z_let_each, z_each_name, z_each_hole, z_each_op, z_each_call, z_each_want, z_each_let]
    · by_cases h2 : k = "hole"
      · subst h2
        simp [progK, z_name_hole, z_name_op, z_name_call, z_name_want, z_name_let, z_name_each, z_hole_name, z_hole_op, z_hole_call, z_hole_want, z_hole_let, z_hole_each, z_op_name, z_op_hole, z_op_call, z_op_want, z_op_let, z_op_each, z_call_name, z_call_hole, z_call_op, z_call_want, z_call_let, z_call_each, z_want_name, z_want_hole, z_want_op, z_want_call, z_want_let, z_want_each, z_let_name, z_let_hole, z_let_op, z_let_call, z_let_want, z_let_each, z_each_name, z_each_hole, z_each_op, z_each_call, z_each_want, z_each_let]
      · by_cases h3 : k = "op"
        · subst h3
          simp [progK, z_name_hole, z_name_op, z_name_call, z_name_want, z_name_let, z_name_each, z_hole_name, z_hole_op, z_hole_call, z_hole_want, z_hole_let, z_hole_each, z_op_name, z_op_hole, z_op_call, z_op_want, z_op_let, z_op_each, z_call_name, z_call_hole, z_call_op, z_call_want, z_call_let, z_call_each, z_want_name, z_want_hole, z_want_op, z_want_call, z_want_let, z_want_each, z_let_name, z_let_hole, z_let_op, z_let_call, z_let_want, z_let_each, z_each_name, z_each_hole, z_each_op, z_each_call, z_each_want, z_each_let]
        · by_cases h4 : k = "let"
          · subst h4
            simp [progK, bindD, z_name_hole, z_name_op, z_name_call, z_name_want, z_name_let, z_name_each, z_hole_name, z_hole_op, z_hole_call, z_hole_want, z_hole_let, z_hole_each, z_op_name, z_op_hole, z_op_call, z_op_want, z_op_let, z_op_each, z_call_name, z_call_hole, z_call_op, z_call_want, z_call_let, z_call_each, z_want_name, z_want_hole, z_want_op, z_want_call, z_want_let, z_want_each, z_let_name, z_let_hole, z_let_op, z_let_call, z_let_want, z_let_each, z_each_name, z_each_hole, z_each_op, z_each_call, z_each_want, z_each_let]
          · by_cases h5 : k = "each"
            · subst h5
              simp [progK, bindD, z_name_hole, z_name_op, z_name_call, z_name_want, z_name_let, z_name_each, z_hole_name, z_hole_op, z_hole_call, z_hole_want, z_hole_let, z_hole_each, z_op_name, z_op_hole, z_op_call, z_op_want, z_op_let, z_op_each, z_call_name, z_call_hole, z_call_op, z_call_want, z_call_let, z_call_each, z_want_name, z_want_hole, z_want_op, z_want_call, z_want_let, z_want_each, z_let_name, z_let_hole, z_let_op, z_let_call, z_let_want, z_let_each, z_each_name, z_each_hole, z_each_op, z_each_call, z_each_want, z_each_let]
            · by_cases h6 : k = "call"
              · subst h6
                simp [progK, z_name_hole, z_name_op, z_name_call, z_name_want, z_name_let, z_name_each, z_hole_name, z_hole_op, z_hole_call, z_hole_want, z_hole_let, z_hole_each, z_op_name, z_op_hole, z_op_call, z_op_want, z_op_let, z_op_each, z_call_name, z_call_hole, z_call_op, z_call_want, z_call_let, z_call_each, z_want_name, z_want_hole, z_want_op, z_want_call, z_want_let, z_want_each, z_let_name, z_let_hole, z_let_op, z_let_call, z_let_want, z_let_each, z_each_name, z_each_hole, z_each_op, z_each_call, z_each_want, z_each_let]
              · simp [progK, h1, h2, h3, h4, h5, h6]
  · rfl
theorem part_body {l : List Str} (hl : ∀ p ∈ l, parS p = true) (d : PyData) : isPart bodyK (some l) d = lawPart (some l) true d := by
  unfold isPart lawPart
  split
  · rename_i k d1 r
    unfold bodyD
    by_cases h1 : k = "name"
    · subst h1
      rw [within_some hl "name" (by decide +kernel)]
      simp [bodyK, z_name_hole, z_name_op, z_name_call, z_name_want, z_name_let, z_name_each, z_hole_name, z_hole_op, z_hole_call, z_hole_want, z_hole_let, z_hole_each, z_op_name, z_op_hole, z_op_call, z_op_want, z_op_let, z_op_each, z_call_name, z_call_hole, z_call_op, z_call_want, z_call_let, z_call_each, z_want_name, z_want_hole, z_want_op, z_want_call, z_want_let, z_want_each, z_let_name, z_let_hole, z_let_op, z_let_call, z_let_want, z_let_each, z_each_name, z_each_hole, z_each_op, z_each_call, z_each_want, z_each_let]
    · by_cases h2 : k = "hole"
      · subst h2
        simp [bodyK, z_name_hole, z_name_op, z_name_call, z_name_want, z_name_let, z_name_each, z_hole_name, z_hole_op, z_hole_call, z_hole_want, z_hole_let, z_hole_each, z_op_name, z_op_hole, z_op_call, z_op_want, z_op_let, z_op_each, z_call_name, z_call_hole, z_call_op, z_call_want, z_call_let, z_call_each, z_want_name, z_want_hole, z_want_op, z_want_call, z_want_let, z_want_each, z_let_name, z_let_hole, z_let_op, z_let_call, z_let_want, z_let_each, z_each_name, z_each_hole, z_each_op, z_each_call, z_each_want, z_each_let]
      · by_cases h3 : k = "op"
        · subst h3
          simp [bodyK, z_name_hole, z_name_op, z_name_call, z_name_want, z_name_let, z_name_each, z_hole_name, z_hole_op, z_hole_call, z_hole_want, z_hole_let, z_hole_each, z_op_name, z_op_hole, z_op_call, z_op_want, z_op_let, z_op_each, z_call_name, z_call_hole, z_call_op, z_call_want, z_call_let, z_call_each, z_want_name, z_want_hole, z_want_op, z_want_call, z_want_let, z_want_each, z_let_name, z_let_hole, z_let_op, z_let_call, z_let_want, z_let_each, z_each_name, z_each_hole, z_each_op, z_each_call, z_each_want, z_each_let]
        · by_cases h4 : k = "let"
          · subst h4
            rw [within_some hl "let" (by decide +kernel)]
            simp [bodyK, z_name_hole, z_name_op, z_name_call, z_name_want, z_name_let, z_name_each, z_hole_name, z_hole_op, z_hole_call, z_hole_want, z_hole_let, z_hole_each, z_op_name, z_op_hole, z_op_call, z_op_want, z_op_let, z_op_each, z_call_name, z_call_hole, z_call_op, z_call_want, z_call_let, z_call_each, z_want_name, z_want_hole, z_want_op, z_want_call, z_want_let, z_want_each, z_let_name, z_let_hole, z_let_op, z_let_call, z_let_want, z_let_each, z_each_name, z_each_hole, z_each_op, z_each_call, z_each_want, z_each_let]
          · by_cases h5 : k = "each"
            · subst h5
              rw [within_some hl "each" (by decide +kernel)]
              simp [bodyK, z_name_hole, z_name_op, z_name_call, z_name_want, z_name_let, z_name_each, z_hole_name, z_hole_op, z_hole_call, z_hole_want, z_hole_let, z_hole_each, z_op_name, z_op_hole, z_op_call, z_op_want, z_op_let, z_op_each, z_call_name, z_call_hole, z_call_op, z_call_want, z_call_let, z_call_each, z_want_name, z_want_hole, z_want_op, z_want_call, z_want_let, z_want_each, z_let_name, z_let_hole, z_let_op, z_let_call, z_let_want, z_let_each, z_each_name, z_each_hole, z_each_op, z_each_call, z_each_want, z_each_let]
            · by_cases h6 : k = "call"
              · subst h6
                simp [bodyK, z_name_hole, z_name_op, z_name_call, z_name_want, z_name_let, z_name_each, z_hole_name, z_hole_op, z_hole_call, z_hole_want, z_hole_let, z_hole_each, z_op_name, z_op_hole, z_op_call, z_op_want, z_op_let, z_op_each, z_call_name, z_call_hole, z_call_op, z_call_want, z_call_let, z_call_each, z_want_name, z_want_hole, z_want_op, z_want_call, z_want_let, z_want_each, z_let_name, z_let_hole, z_let_op, z_let_call, z_let_want, z_let_each, z_each_name, z_each_hole, z_each_op, z_each_call, z_each_want, z_each_let]
              · by_cases h7 : k = "want"
                · subst h7
                  have e : bindD (some l) "want" d1 = nameD d1 := by
                    cases d1 <;> simp [bindD, nameD, z_name_hole, z_name_op, z_name_call, z_name_want, z_name_let, z_name_each, z_hole_name, z_hole_op, z_hole_call, z_hole_want, z_hole_let, z_hole_each, z_op_name, z_op_hole, z_op_call, z_op_want, z_op_let, z_op_each, z_call_name, z_call_hole, z_call_op, z_call_want, z_call_let, z_call_each, z_want_name, z_want_hole, z_want_op, z_want_call, z_want_let, z_want_each, z_let_name, z_let_hole, z_let_op, z_let_call, z_let_want, z_let_each, z_each_name, z_each_hole, z_each_op, z_each_call, z_each_want, z_each_let]
                  rw [e]
                  simp [bodyK, z_name_hole, z_name_op, z_name_call, z_name_want, z_name_let, z_name_each, z_hole_name, z_hole_op, z_hole_call, z_hole_want, z_hole_let, z_hole_each, z_op_name, z_op_hole, z_op_call, z_op_want, z_op_let, z_op_each, z_call_name, z_call_hole, z_call_op, z_call_want, z_call_let, z_call_each, z_want_name, z_want_hole, z_want_op, z_want_call, z_want_let, z_want_each, z_let_name, z_let_hole, z_let_op, z_let_call, z_let_want, z_let_each, z_each_name, z_each_hole, z_each_op, z_each_call, z_each_want, z_each_let]
                · simp [bodyK, h1, h2, h3, h4, h5, h6, h7]
  · rfl
end CaN
set_option Elab.async false
set_option linter.all false
set_option maxRecDepth 100000
/-! The walk through the parts by a stack, and by the parts within one another. -/
namespace CaN
open PySem PySem.Spec PyProof.Rows L2 CaD
/-- what the walk finds, the top of the stack first, if so many parts may still be found -/
def run (P : PyData → Bool) : Nat → List (PyData × Nat) → Option (List (PyData × Nat))
  | _, [] => some []
  | 0, _ :: _ => none
  | n + 1, (d, l) :: S => if l > 60 then none else if P d = true then (run P n ((inner d).map (fun c => (c, l + 1)) ++ S)).map fun ys => (d, l) :: ys else none
def good (P : PyData → Bool) : Nat → PyData → Bool
  | 0, _ => false
  | n + 1, d => P d && (inner d).all (good P n)
def goodF (P : PyData → Bool) (d : PyData) : Bool := good P (d.depth + 1) d
theorem depth_mem {xs : List PyData} {x : PyData} (h : x ∈ xs) : x.depth ≤ PyData.depthAll xs := depthAll_le.mp (Nat.le_refl _) x h
theorem inner_sub (d : PyData) : (inner d).length ≤ wt d ∧ wtAll (inner d) < wt d ∧ ∀ c ∈ inner d, c.depth < d.depth := by
  have key : wtAll (inner d) < wt d ∧ ∀ c ∈ inner d, c.depth < d.depth := by
    unfold inner
    split
    · rename_i k d1 r
      have e : PyData.depth (.tuple (.str k :: d1 :: r)) = PyData.depthAll (.str k :: d1 :: r) + 1 := by simp only [PyData.depth]
      have ew : wt (.tuple (.str k :: d1 :: r)) = 1 + (wt d1 + wtAll r) + 1 := by simp only [wt, wtAll]
      have em : ∀ c ∈ r, c.depth ≤ PyData.depthAll (.str k :: d1 :: r) := fun c h => depth_mem (List.mem_cons_of_mem _ (List.mem_cons_of_mem _ h))
      rw [e, ew]
      split
      · unfold rowOf
        split
        · rename_i zs r2
          have z := em (.tuple zs) List.mem_cons_self
          have z2 : PyData.depth (.tuple zs) = PyData.depthAll zs + 1 := by simp only [PyData.depth]
          refine ⟨?_, fun c h => ?_⟩
          · simp only [wtAll, wt]
            omega
          · have := depth_mem h
            omega
        · refine ⟨?_, fun c h => (nomatch h)⟩
          simp only [wtAll]
          omega
      · split
        · refine ⟨by omega, fun c h => ?_⟩
          have := em c h
          omega
        · refine ⟨?_, fun c h => (nomatch h)⟩
          simp only [wtAll]
          omega
    · refine ⟨?_, fun c h => (nomatch h)⟩
      have := wt_pos d
      simp only [wtAll]
      omega
  refine ⟨?_, key⟩
  have := wtAll_len (inner d)
  omega
theorem all_congr {α : Type} {f g : α → Bool} : ∀ {xs : List α}, (∀ x ∈ xs, f x = g x) → xs.all f = xs.all g
  | [], _ => rfl
  | x :: xs, h => by
    rw [List.all_cons, List.all_cons, h x List.mem_cons_self, all_congr fun y m => h y (List.mem_cons_of_mem _ m)]
theorem good_of (P : PyData → Bool) : ∀ (n : Nat) (d : PyData), d.depth < n → good P n d = goodF P d := by
  intro n
  induction n with
  | zero =>
    intro d h
    omega
  | succ n ih =>
    intro d h
    unfold goodF
    show (P d && (inner d).all (good P n)) = (P d && (inner d).all (good P d.depth))
    congr 1
    refine all_congr fun c hc => ?_
    have := (inner_sub d).2.2 c hc
    rw [ih c (by omega)]
    -- the same at the depth itself
    have far : ∀ (m : Nat) (c : PyData), c.depth < m → m ≤ n → good P m c = goodF P c := by
      intro m c h1 h2
      have up : ∀ (j m : Nat) (c : PyData), c.depth < m → good P (m + j) c = good P m c := by
        intro j
        induction j with
        | zero =>
          intro m c _
          rfl
        | succ j ihj =>
          intro m c hm
          rw [← ihj m c hm]
          have step : ∀ (m : Nat) (c : PyData), c.depth < m → good P (m + 1) c = good P m c := by
            intro m
            induction m with
            | zero =>
              intro c h
              omega
            | succ m ihm =>
              intro c h
              show (P c && (inner c).all (good P (m + 1))) = (P c && (inner c).all (good P m))
              congr 1
              refine all_congr fun e he => ?_
              have := (inner_sub c).2.2 e he
              exact ihm e (by omega)
          exact step (m + j) c (by omega)
      have e : m = (c.depth + 1) + (m - (c.depth + 1)) := by omega
      rw [e, up _ _ _ (by omega)]
      rfl
    rw [far d.depth c this (by omega)]
theorem goodF_eq (P : PyData → Bool) (d : PyData) : goodF P d = (P d && (inner d).all (goodF P)) := by
  show (P d && (inner d).all (good P d.depth)) = _
  congr 1
  exact all_congr fun c hc => good_of P _ c ((inner_sub d).2.2 c hc)
def wsum (S : List (PyData × Nat)) : Nat := wtAll (S.map (·.1))
theorem run_good (P : PyData → Bool) : ∀ (n : Nat) (S : List (PyData × Nat)), wsum S ≤ n → (∀ x ∈ S, x.2 + x.1.depth ≤ 60) → (run P n S).isSome = S.all fun x => goodF P x.1 := by
  intro n
  induction n with
  | zero =>
    intro S h _
    cases S with
    | nil => rfl
    | cons x S =>
      have := wt_pos x.1
      simp only [wsum, List.map_cons, wtAll] at h
      omega
  | succ n ih =>
    intro S h hd
    cases S with
    | nil => rfl
    | cons x S =>
      obtain ⟨d, l⟩ := x
      have h0 := hd (d, l) List.mem_cons_self
      have h0 : l + d.depth ≤ 60 := h0
      have sub := inner_sub d
      simp only [wsum, List.map_cons, wtAll] at h
      rw [List.all_cons]
      show (if l > 60 then none else if P d = true then (run P n ((inner d).map (fun c => (c, l + 1)) ++ S)).map fun ys => (d, l) :: ys else none).isSome = _
      rw [if_neg (by omega)]
      show _ = (goodF P d && S.all fun x => goodF P x.1)
      rw [goodF_eq]
      cases e : P d with
      | false =>
        rw [if_neg (by decide)]
        rfl
      | true =>
        rw [if_pos rfl, Option.isSome_map, ih]
        · rw [List.all_append, List.all_map]
          rfl
        · show wtAll (((inner d).map (fun c => (c, l + 1)) ++ S).map (·.1)) ≤ n
          rw [List.map_append, wtAll_append, List.map_map]
          have : (inner d).map ((fun x : PyData × Nat => x.1) ∘ fun c => (c, l + 1)) = inner d := by
            rw [show ((fun x : PyData × Nat => x.1) ∘ fun c => (c, l + 1)) = id from rfl, List.map_id]
          rw [this]
          omega
        · intro y hy
          rcases List.mem_append.mp hy with hy | hy
          · obtain ⟨c, hc, rfl⟩ := List.mem_map.mp hy
            have := sub.2.2 c hc
            show l + 1 + c.depth ≤ 60
            omega
          · exact hd y (List.mem_cons_of_mem _ hy)
theorem run_one (P : PyData → Bool) (d : PyData) (hw : wt d ≤ 400) (hd : d.depth ≤ 59) : (run P 400 [(d, 1)]).isSome = goodF P d := by
  rw [run_good P 400 [(d, 1)] (by simp only [wsum, List.map_cons, List.map_nil, wtAll]; omega) (fun x hx => by
    rw [List.mem_singleton.mp hx]
    show 1 + d.depth ≤ 60
    omega)]
  simp
end CaN
set_option Elab.async false
set_option linter.all false
set_option maxRecDepth 100000
set_option maxHeartbeats 2000000
/-! Rules that such data want: a text beside {}, not in a tuple of texts, t[::-1], xs[::2], text * 0 or 1. -/
namespace PySem.SeqAt
open PySem PySem.Spec PyProof.Rows
theorem dict_no_str (l : Addr) (es : Array DictEntry) (n : Nat) (dd : Option Addr) (sl : Array (Option Value)) (y : Str) (u : Tok) :
    Meets (Builtin.«dict.__eq__» ⟨[.ref l, .str y u], []⟩) (fun _ R st => st.heap.get? l = some { cls := .type "dict", dict := dd, data := .dict es n, slots := sl } ∧ R (.ok (.ret .notImplemented)) st) := by
  refine .of_wp fun prog w A R st z => ?_
  obtain ⟨hp, g, d, tk, os⟩ := st
  obtain ⟨at_, z⟩ := z
  have f1 := PySem.F.sub_str_dict
  wp_walk using wpAny_loadPart' at_
  exact ⟨_, rfl, z⟩
theorem str_no_dict (y : Str) (u : Tok) (l : Addr) (es : Array DictEntry) (n : Nat) (dd : Option Addr) (sl : Array (Option Value)) :
    Meets (Builtin.«str.__eq__» ⟨[.str y u, .ref l], []⟩) (fun _ R st => st.heap.get? l = some { cls := .type "dict", dict := dd, data := .dict es n, slots := sl } ∧ R (.ok (.ret .notImplemented)) st) := by
  refine .of_wp fun prog w A R st z => ?_
  obtain ⟨hp, g, d, tk, os⟩ := st
  obtain ⟨at_, z⟩ := z
  wp_walk using wpAny_loadPart' at_, wpAny_load at_
  exact ⟨_, rfl, z⟩
end PySem.SeqAt
namespace PySem.SeqAt
open PySem PySem.Spec PyProof.Rows
variable {A : Around} {s : Shared}
theorem str_dict_at {l : Addr} {o : Obj} {es : Array DictEntry} {n : Nat} (y : Str) (u : Tok) (ho : s.heap.get? l = some o) (hc : o.cls = .type "dict") (hd : o.data = .dict es n) (room : A.units < cLine) : EqAt A s (.str y u) (.ref l) false := fun prog w E Q z => by
  obtain ⟨cls, dd, data, sl⟩ := o
  simp only at hc hd
  subst hc hd
  unfold eqBool
  refine wpAny_holding (wpAny_ite_split (fun same => absurd (eq_of_beq same) nofun) fun _ => wpAny_bind ?_)
  refine rc_eq_decline_or (k := false) (typeIs_str s y u) ⟨_, ho, rfl⟩ (by decide) PySem.F.sub_dict_str PySem.F.slot_str_eq PySem.F.slot_dict_eq_refl (fun _ q => ?_) (fun _ q => ?_) (fun _ q => wpAny_of_eq (rfl : isSame (.str y u) (.ref l) = pure false) q) (.inr room) (wpAny_truthy_bool z)
  · exact call_meets PySem.F.slot_str_eq (typeIs_str s y u) PySem.F.entry_str_eq (PySem.F.args_str_eq_2 _ _) (str_no_dict y u l es n dd sl) ⟨ho, q⟩
  · exact call_meets PySem.F.slot_dict_eq_refl ⟨_, ho, rfl⟩ PySem.F.entry_dict_eq (PySem.F.args_dict_eq_2 _ _) (dict_no_str l es n dd sl y u) ⟨ho, q⟩
end PySem.SeqAt
namespace CaD
open PySem PySem.Spec PyProof.Rows L2 CaV CaL CaN
section
variable {X : Cx}
/-- which of the texts the thing is -/
def eqK (d : PyData) (u : Value) : Bool :=
  match u, d with
  | .str z _, .str t => z == t
  | _, _ => false
def inK (d : PyData) (ss : List Str) : Bool :=
  match d with
  | .str t => ss.contains t
  | _ => false
theorem any_eqK (d : PyData) : ∀ {ss : List Str} {us : List Value}, Vals (ss.map V.str) us → us.any (eqK d) = inK d ss
  | [], _, r => by
    cases r
    cases d <;> rfl
  | z :: ss, _, r => by
    cases r with
    | cons r1 r2 =>
      obtain ⟨t, rfl⟩ := r1
      rw [List.any_cons, any_eqK d r2]
      cases d with
      | str x =>
        show ((z == x) || ss.contains x) = (z :: ss).contains x
        rw [List.contains_cons, BEq.comm]
      | _ => rfl
theorem strs_mem {c : Value} : ∀ {ss : List Str} {us : List Value}, Vals (ss.map V.str) us → c ∈ us → ∃ z t, c = Value.str z t
  | [], _, r, h => by
    cases r
    cases h
  | e :: es, _, r, h => by
    cases r with
    | cons r1 r2 =>
      rcases List.mem_cons.mp h with rfl | h
      · obtain ⟨t, rfl⟩ := r1
        exact ⟨e, t, rfl⟩
      · exact strs_mem r2 h
/-- x not in a tuple of texts, x any such data -/
def rNotInK (b : Addr) (K : PySem.W.Frag) : R2 := fun x y H Q => ∃ d p ss, y = .ref p ∧ SqT K H p (ss.map V.str) ∧ Dq b H x d ∧ Q (.bl (!inK d ss)) H
theorem op_notInK {b : Addr} (hu : X.A.units + 1 < cLine) : OpR X (compareOp .NotIn) (rNotInK b X.K) := by
  intro pins s σ H x y v u Q I rx ry told
  obtain ⟨d, p, ss, rfl, sq, dq, q⟩ := told
  cases ry
  obtain ⟨its, r, pl, hz⟩ := I.tuple sq
  refine SeqAt.notIn_tupleAt (eqK d) pl (fun c hc => ?_) ⟨.bl _, H, I, rfl, ?_⟩
  · have hr : X.A.in1.units < cLine := hu
    obtain ⟨z, t, rfl⟩ := strs_mem r (by simpa using hc)
    cases dq with
    | non =>
      cases rx
      exact SeqAt.EqAt.str_none z t
    | bl y =>
      cases rx
      exact SeqAt.EqAt.str_bool z t y
    | int i =>
      obtain ⟨w, rfl⟩ := rx
      exact SeqAt.EqAt.str_int z t i w
    | str y =>
      obtain ⟨w, rfl⟩ := rx
      exact SeqAt.EqAt.str_str z t y w
    | lst h1 _ _ =>
      cases rx
      obtain ⟨is, _, h, _⟩ := I.list (SqL.of (K := X.K) h1)
      exact SeqAt.EqAt.str_list z t h.isList hr
    | tup h1 _ =>
      cases rx
      obtain ⟨is, _, h, _⟩ := I.tuple (SqT.of (K := X.K) h1)
      exact SeqAt.EqAt.str_tuple z t h hr
    | emp h1 =>
      cases rx
      obtain ⟨_, _, vs, kv, o, es, ep, ho, hc, hd, _⟩ := dk_of I.hok h1
      exact SeqAt.str_dict_at z t ho hc.1 hd hr
  · rw [show its.toArray.any (eqK d) = its.any (eqK d) by simp, any_eqK d r]
    exact q
/-- text * n, n 0 or 1 -/
def rMul01 : R2 := fun x y H Q => ∃ z k, x = .str z ∧ y = .int k ∧ ((k = 0 ∧ Q (.str "") H) ∨ (k = 1 ∧ Q (.str z) H))
theorem op_mul01 : OpR X (binaryOp .Mult) rMul01 := by
  intro pins s σ H x y v u Q I rx ry told
  obtain ⟨z, k, rfl, rfl, q⟩ := told
  obtain ⟨t, rfl⟩ := rx
  obtain ⟨t2, rfl⟩ := ry
  rcases q with ⟨rfl, q⟩ | ⟨rfl, q⟩
  · exact PySem.P.mul_str_none (by decide) (by decide) ⟨.str "", H, I.tok _, ⟨_, rfl⟩, q⟩
  · refine PySem.P.mul_str (by decide) (fun _ z => by simp at z) (fun _ z => by simp at z) ?_
    rw [if_neg (by decide), if_pos (by simp)]
    exact ⟨.str z, H, I, ⟨_, rfl⟩, q⟩
theorem tup_back (xs : Array Value) : ((List.range xs.size).filterMap fun (k : Nat) => xs[(((xs.size : Nat) : Int) - 1 + (k : Int) * -1).toNat]?).toArray = xs.toList.reverse.toArray := by
  have e : (fun (k : Nat) => xs[(((xs.size : Nat) : Int) - 1 + (k : Int) * -1).toNat]?) = fun k => xs[xs.size - 1 - k]? := by
    funext k
    have : (((xs.size : Nat) : Int) - 1 + (k : Int) * -1).toNat = xs.size - 1 - k := by omega
    rw [this]
  rw [e]
  have h := PySem.W.krv_range xs.size
  have g := PySem.W.krv_all xs
  rw [← g, ← List.filterMap_reverse, ← h, List.filterMap_map]
  rfl
theorem places_back (n : Nat) : Builtin.Slice.slicePlaces ((n : Int) - 1) (-1) (-1) = n := by
  unfold Builtin.Slice.slicePlaces
  rw [if_neg (by decide)]
  split
  · have : ((n : Int) - 1 - -1 - 1) / (- -1) = (n : Int) - 1 := by
      rw [show (- -1 : Int) = 1 by decide, Int.ediv_one]
      omega
    rw [this]
    omega
  · omega
def tRevT (K : PySem.W.Frag) (te : TE) : TE := fun σ H Q => te σ H fun x H1 => ∃ a xs, x = .ref a ∧ SqT K H1 a xs ∧ ∀ p, H1 p = none → Q (.ref p) (upd H1 p (.tup xs.reverse))
end
section
variable {prog : Program} {w : World} {A : Around} {E : Value → Shared → Prop} {s : Shared}
theorem getItem_tup_back {t sl : Addr} {items : Array Value} {vl vu vs : Value} {Q : Value → Shared → Prop} (ht : IsTup s.heap t items) (hs : s.heap.IsSliceOf sl vl vu vs) (pl : IsPart vl none) (pu : IsPart vu none) (ps : IsPart vs (some (-1)))
    (q : Q (.ref s.heap.objs.size) { s with heap := s.heap.push { cls := .type "tuple", data := .seq items.toList.reverse.toArray } }) (hsz : items.size ≤ sizeLine) : wpAny (model prog w) A (getItem (.ref t) (.ref sl)) Q E s := by
  have size : sizeOk (.seq items.toList.reverse.toArray) := by
    show items.toList.reverse.toArray.size ≤ sizeLine
    simpa using hsz
  obtain ⟨os, hos, hcs, hds⟩ := id hs
  unfold getItem
  try with_reducible refine wpAny_holding ?_
  first | refine wpAny_bind (wpAny_pure ?_) | skip
  refine wpAny_bind (wpAny_sequenceKey ht.typeIs (by decide) ?_)
  refine wpAny_bind (wpAny_callSpecial?_slot (name := Str.ofString "__getitem__") ht.typeIs PyProof.Rows.slot_tuple_getitem (wpAny_call_entry PyProof.Rows.slot_tuple_getitem ht.typeIs entry_tuple_getitem ?_ (args_tuple_getitem _ _)))
  show wpAny _ _ (Builtin.Tuple.tupleItemsOf (.ref t) >>= _) _ _ s
  refine wpAny_bind (tupleItemsOf_ ht (wpAny_bind (wpAny_typeOf (s := s) ⟨os, hos, hcs⟩ ?_)))
  rw [if_pos (by decide)]
  have applied : ∀ {R : Int × Int × Nat → Shared → Prop} {A : Around} {E : Value → Shared → Prop}, R (((items.size : Nat) : Int) - 1, -1, items.size) s → wpAny (model prog w) A (Builtin.Slice.sliceApplied (.ref sl) (pure ((items.size : Nat) : Int))) R E s := fun {R A E} r => by
    unfold Builtin.Slice.sliceApplied Builtin.Slice.sliceFields
    refine wpAny_bind (wpAny_bind (wpAny_field hos hds (x := vl) rfl (wpAny_bind (wpAny_field hos hds (x := vu) rfl (wpAny_bind (wpAny_field hos hds (x := vs) rfl (wpAny_pure ?_)))))))
    refine wpAny_bind (HT.slicePart_ ps ?_)
    show wpAny _ _ (if ((-1 : Int) == 0) = true then _ else _) _ _ s
    rw [if_neg (by decide)]
    refine wpAny_bind (HT.slicePart_ pl (wpAny_bind (HT.slicePart_ pu (wpAny_bind (wpAny_pure ?_)))))
    show wpAny _ _ (pure (((items.size : Nat) : Int) - 1, (-1 : Int), Builtin.Slice.slicePlaces (((items.size : Nat) : Int) - 1) (-1) (-1))) _ _ s
    rw [places_back]
    exact wpAny_pure r
  refine wpAny_bind (applied ?_)
  have no : ¬ ((((items.size : Nat) : Int) - 1 == 0 && (-1 : Int) == 1 && items.size == items.size) = true) := by
    intro z
    rw [Bool.and_eq_true, Bool.and_eq_true] at z
    exact absurd z.1.2 (by decide)
  show wpAny _ _ (if (((items.size : Nat) : Int) - 1 == 0 && (-1 : Int) == 1 && items.size == items.size) = true then _ else _) _ _ s
  rw [if_neg no, tup_back]
  first
    | exact wpAny_bind (m := Builtin.Tuple.tupleExact _) (wpAny_newObj_type (wpAny_pure ⟨_, rfl, wpAny_pure q⟩) size)
    | exact wpAny_bind (m := Builtin.Tuple.tupleExact _) (wpAny_newObj_type (wpAny_bind (wpAny_pure (wpAny_pure ⟨_, rfl, wpAny_pure q⟩))) size)
    | exact wpAny_bind (wpAny_bind (m := Builtin.Tuple.tupleExact _) (wpAny_newObj_type (wpAny_pure (wpAny_pure ⟨_, rfl, wpAny_pure q⟩)) size))
    | exact wpAny_bind (wpAny_bind (m := Builtin.Tuple.tupleExact _) (wpAny_newObj_type (wpAny_pure ⟨_, rfl, wpAny_pure q⟩) size))
end
section
variable {X : Cx}
/-- t[::-1] of a tuple -/
theorem pe_revT {e : Expr} {te : TE} {k : Nat} {p1 p2 p3 pos : Pos} (he : PE X e te) : PE X (.Subscript e (.Slice none none (some (.UnaryOp .USub (.Constant (.int 1) k p1) p2)) p3) pos) (tRevT X.K te) := by
  constructor
  intro pins s σ H Q I told
  refine Subscript_ (thn (he.run pins s σ H _ I told) fun v s1 got => ?_)
  obtain ⟨x, H1, I1, r1, a, xs, rfl, hx, q⟩ := got
  cases r1
  have step : PO X (some (.UnaryOp .USub (.Constant (.int 1) k p1) p2)) (tPart (tUn (rU fun i => .int (-i)) (tC (.int 1)))) := po_some (pe_un un_neg pe_int)
  refine wpAny_Slice (thn (po_none.run pins s1 σ H1 (fun o G => o = none ∧ G = H1) I1 ⟨rfl, rfl⟩) fun vl s2 g2 => ?_)
  obtain ⟨l, H2, I2, pl, rfl, rfl⟩ := g2
  refine thn (po_none.run pins s2 σ _ (fun o G => o = none ∧ G = _) I2 ⟨rfl, rfl⟩) fun vu s3 g3 => ?_
  obtain ⟨l, H3, I3, pu, rfl, rfl⟩ := g3
  refine thn (step.run pins s3 σ _ (fun o G => o = some (-1) ∧ G = _) I3 ⟨1, rfl, -1, rfl, rfl, rfl⟩) fun vs s4 g4 => ?_
  obtain ⟨l, H4, I4, ps, rfl, rfl⟩ := g4
  have I5 : Inv X pins σ _ { s4 with heap := s4.heap.push { cls := .type "slice", data := .fields #[vl, vu, vs] } } := I4.kept (t' := s4.toks) fun c o z => Heap.get?_push_of_some _ z
  obtain ⟨its, r, ht, hz⟩ := I5.tuple hx
  have hlen := r.length
  show wpAny (model X.prog X.w) X.A (subscriptTail e (.Slice none none (some (.UnaryOp .USub (.Constant (.int 1) k p1) p2)) p3) (.ref a) (.ref s4.heap.objs.size)) (EP X pins σ Q) X.xe { s4 with heap := s4.heap.push { cls := .type "slice", data := .fields #[vl, vu, vs] } }
  refine tail_any (ops := [.ref a, .ref s4.heap.objs.size]) ht.typeIs PyProof.Rows.slot_tuple_getitem.lookup ?_ (by with_unfolding_all rfl)
  refine getItem_tup_back ht (Heap.IsSliceOf.new _ vl vu vs) pl pu ps ?_ (by rw [List.size_toArray]; omega)
  refine ⟨.ref _, _, I5.laid (t' := s4.toks) (o := .tup xs.reverse) (fun c o z => Heap.get?_push_of_some _ z) (Nat.le_refl _) ?_, rfl, q _ (I5.hok.fresh (Nat.le_refl _))⟩
  exact ⟨by rw [List.length_reverse]; exact hz, _, r.reverse, IsTup.new _ _⟩
end
section
variable {X : Cx}
/-- every second of the things -/
def evens {α : Type} : List α → List α
  | [] => []
  | [x] => [x]
  | x :: _ :: r => x :: evens r
theorem evens_len {α : Type} : ∀ (xs : List α), (evens xs).length ≤ xs.length
  | [] => Nat.le_refl _
  | [_] => Nat.le_refl _
  | _ :: _ :: r => by
    have := evens_len r
    simp only [evens, List.length_cons]
    omega
theorem evens_mem {α : Type} {x : α} : ∀ {xs : List α}, x ∈ evens xs → x ∈ xs
  | [], h => h
  | [_], h => h
  | a :: _ :: r, h => by
    rcases List.mem_cons.mp h with rfl | h
    · exact List.mem_cons_self
    · exact List.mem_cons_of_mem _ (List.mem_cons_of_mem _ (evens_mem h))
theorem evens_map {α β : Type} (f : α → β) : ∀ (xs : List α), evens (xs.map f) = (evens xs).map f
  | [] => rfl
  | [_] => rfl
  | _ :: _ :: r => by
    simp only [List.map_cons, evens, evens_map f r]
theorem evens_vals : ∀ {xs : List V} {us : List Value}, Vals xs us → Vals (evens xs) (evens us)
  | _, _, .nil => .nil
  | _, _, .cons r .nil => .cons r .nil
  | _, _, .cons r (.cons _ t) => .cons r (evens_vals t)
theorem range4 : sliceRange 0 4 2 = [0, 2] := by decide +kernel
theorem bounds4 : sliceBounds none none (some 2) 4 = (0, 4, 2) := by decide +kernel
theorem pick4 (a b c d : Value) : slicePick #[a, b, c, d] none none (some 2) = #[a, c] := by
  unfold slicePick
  show (match sliceBounds none none (some 2) 4 with | (lo, hi, st) => ((sliceRange lo hi st).filterMap (#[a, b, c, d][·]?)).toArray) = _
  rw [bounds4]
  show ((sliceRange 0 4 2).filterMap (#[a, b, c, d][·]?)).toArray = _
  rw [range4]
  rfl
theorem range3 : sliceRange 0 3 2 = [0, 2] := by decide +kernel
theorem bounds3 : sliceBounds none none (some 2) 3 = (0, 3, 2) := by decide +kernel
theorem pick3 (a b c : Value) : slicePick #[a, b, c] none none (some 2) = #[a, c] := by
  unfold slicePick
  show (match sliceBounds none none (some 2) 3 with | (lo, hi, st) => ((sliceRange lo hi st).filterMap (#[a, b, c][·]?)).toArray) = _
  rw [bounds3]
  show ((sliceRange 0 3 2).filterMap (#[a, b, c][·]?)).toArray = _
  rw [range3]
  rfl
theorem range2 : sliceRange 0 2 2 = [0] := by decide +kernel
theorem bounds2 : sliceBounds none none (some 2) 2 = (0, 2, 2) := by decide +kernel
theorem pick2 (a b : Value) : slicePick #[a, b] none none (some 2) = #[a] := by
  unfold slicePick
  show (match sliceBounds none none (some 2) 2 with | (lo, hi, st) => ((sliceRange lo hi st).filterMap (#[a, b][·]?)).toArray) = _
  rw [bounds2]
  show ((sliceRange 0 2 2).filterMap (#[a, b][·]?)).toArray = _
  rw [range2]
  rfl
theorem range1 : sliceRange 0 1 2 = [0] := by decide +kernel
theorem bounds1 : sliceBounds none none (some 2) 1 = (0, 1, 2) := by decide +kernel
theorem pick1 (a : Value) : slicePick #[a] none none (some 2) = #[a] := by
  unfold slicePick
  show (match sliceBounds none none (some 2) 1 with | (lo, hi, st) => ((sliceRange lo hi st).filterMap (#[a][·]?)).toArray) = _
  rw [bounds1]
  show ((sliceRange 0 1 2).filterMap (#[a][·]?)).toArray = _
  rw [range1]
  rfl
theorem pick_small : ∀ (xs : List Value), xs.length ≤ 4 → slicePick xs.toArray none none (some 2) = (evens xs).toArray
  | [], _ => rfl
  | [a], _ => pick1 a
  | [a, b], _ => pick2 a b
  | [a, b, c], _ => pick3 a b c
  | [a, b, c, d], _ => pick4 a b c d
  | _ :: _ :: _ :: _ :: _ :: _, h => by
    simp only [List.length_cons] at h
    omega
def tTwo (K : PySem.W.Frag) (te : TE) : TE := fun σ H Q => te σ H fun x H1 => ∃ a xs, x = .ref a ∧ SqL K H1 a xs ∧ xs.length ≤ 4 ∧ ∀ p, H1 p = none → Q (.ref p) (upd H1 p (.lst (evens xs)))
/-- xs[::2] of a list of at most four things -/
theorem pe_two {e : Expr} {te : TE} {k : Nat} {p1 p3 pos : Pos} (he : PE X e te) : PE X (.Subscript e (.Slice none none (some (.Constant (.int 2) k p1)) p3) pos) (tTwo X.K te) := by
  constructor
  intro pins s σ H Q I told
  refine Subscript_ (thn (he.run pins s σ H _ I told) fun v s1 got => ?_)
  obtain ⟨x, H1, I1, r1, a, xs, rfl, hx, h4, q⟩ := got
  cases r1
  have step : PO X (some (.Constant (.int 2) k p1)) (tPart (tC (.int 2))) := po_some pe_int
  refine wpAny_Slice (thn (po_none.run pins s1 σ H1 (fun o G => o = none ∧ G = H1) I1 ⟨rfl, rfl⟩) fun vl s2 g2 => ?_)
  obtain ⟨l, H2, I2, pl, rfl, rfl⟩ := g2
  refine thn (po_none.run pins s2 σ _ (fun o G => o = none ∧ G = _) I2 ⟨rfl, rfl⟩) fun vu s3 g3 => ?_
  obtain ⟨l, H3, I3, pu, rfl, rfl⟩ := g3
  refine thn (step.run pins s3 σ _ (fun o G => o = some 2 ∧ G = _) I3 ⟨2, rfl, rfl, rfl⟩) fun vs s4 g4 => ?_
  obtain ⟨l, H4, I4, ps, rfl, rfl⟩ := g4
  have I5 : Inv X pins σ _ { s4 with heap := s4.heap.push { cls := .type "slice", data := .fields #[vl, vu, vs] } } := I4.kept (t' := s4.toks) fun c o z => Heap.get?_push_of_some _ z
  obtain ⟨its, r, ht, hz⟩ := I5.list hx
  have hlen := r.length
  show wpAny (model X.prog X.w) X.A (subscriptTail e (.Slice none none (some (.Constant (.int 2) k p1)) p3) (.ref a) (.ref s4.heap.objs.size)) (EP X pins σ Q) X.xe { s4 with heap := s4.heap.push { cls := .type "slice", data := .fields #[vl, vu, vs] } }
  refine tail_any (ops := [.ref a, .ref s4.heap.objs.size]) ht.isList.typeIs (PySem.slot_list_getitem.lookup) ?_ (by with_unfolding_all rfl)
  refine wpAny_getItem_list_slice ht.isList (Heap.IsSliceOf.new _ vl vu vs) pl pu ps (by decide) ?_ (by rw [List.size_toArray]; omega)
  rw [pick_small its (by omega)]
  refine ⟨.ref _, _, I5.laid (t' := s4.toks) (o := .lst (evens xs)) (fun c o z => Heap.get?_push_of_some _ z) (Nat.le_refl _) ?_, rfl, q _ (I5.hok.fresh (Nat.le_refl _))⟩
  exact ⟨Nat.le_trans (evens_len xs) hz, _, 0, evens_vals r, Heap.get?_push_size _ rfl⟩
end
end CaD
set_option Elab.async false
set_option linter.all false
set_option maxRecDepth 100000
/-! xs == []: a list of whatever things beside an empty one. -/
namespace CaD
open PySem PySem.Spec PyProof.Rows L2 CaV CaL CaN
section
variable {X : Cx}
def rEqNil (K : PySem.W.Frag) : R2 := fun x y H Q => ∃ (l c : Addr) (xs : List V), x = .ref l ∧ y = .ref c ∧ SqL K H l xs ∧ SqL K H c [] ∧ Q (.bl xs.isEmpty) H
theorem op_eqNil (room : X.A.units < cLine) : OpR X (compareOp .Eq) (rEqNil X.K) := by
  intro pins s σ H x y v u Q I rx ry told
  obtain ⟨l, c, xs, rfl, rfl, h1, h2, q⟩ := told
  cases rx
  cases ry
  obtain ⟨its, r1, p1, _⟩ := I.list h1
  obtain ⟨its2, r2, p2, _⟩ := I.list h2
  cases r2
  cases r1 with
  | nil => exact SeqAt.eq_listAt (e := fun _ => true) p1.isList p2.isList rfl room (fun j a _ => absurd a (Nat.not_lt_zero j)) ⟨.bl true, H, I, rfl, q⟩
  | cons a t => exact SeqAt.eq_list_lengthsAt p1.isList p2.isList (by simp) room ⟨.bl false, H, I, rfl, q⟩
end
end CaD
set_option Elab.async false
set_option linter.all false
set_option maxRecDepth 100000
/-! Texts of small letters: joined, cut, made names. -/
namespace CaN
open PySem PySem.Spec PyProof.Rows L2 CaL
def Lo (x : Str) : Prop := x.cps.toList.all low = true
theorem tl_len (x : Str) : x.cps.toList.length = x.length := by simp [Str.length]
theorem app_tl (a c : Str) : (a ++ c).cps.toList = a.cps.toList ++ c.cps.toList := by
  rw [Str.cps_append, Array.toList_append]
theorem lo_app {a c : Str} (h : Lo a) (g : Lo c) : Lo (a ++ c) := by
  unfold Lo at *
  rw [app_tl, List.all_append, h, g]
  rfl
theorem lo_cut {z : Str} (lo hi : Option Int) (h : Lo z) : Lo (cutS z lo hi) := by
  unfold Lo at *
  rw [List.all_eq_true] at *
  intro c hc
  unfold cutS at hc
  exact h c (List.mem_of_mem_drop (List.mem_of_mem_take hc))
theorem lo_one {c : Nat} (h : low c = true) : Lo ⟨#[c]⟩ := by
  unfold Lo
  simp [h]
theorem join_tl : ∀ ys : List Str, (Str.join "" ys).cps.toList = ys.flatMap fun y => y.cps.toList
  | [] => by
    show ("" : Str).cps.toList = _
    rw [empty_list]
    rfl
  | [x] => by
    show x.cps.toList = _
    simp
  | x :: y :: r => by
    show (x ++ "" ++ Str.join "" (y :: r)).cps.toList = _
    rw [app_tl, app_tl, empty_list, join_tl (y :: r)]
    simp
theorem join_lo {ys : List Str} (h : ∀ y ∈ ys, y.length = 1 ∧ Lo y) : (Txt.join "" ys).length = ys.length ∧ Lo (Txt.join "" ys) := by
  have e : Txt.join "" ys = Str.join "" ys := by
    show Builtin.Str.glued "" ys = _
    rw [StrLaws.glued_eq_join]
  rw [e]
  refine ⟨?_, ?_⟩
  · rw [← tl_len, join_tl]
    clear e
    induction ys with
    | nil => rfl
    | cons y r ih =>
      rw [List.flatMap_cons, List.length_append, ih fun z hz => h z (List.mem_cons_of_mem _ hz), tl_len, (h y List.mem_cons_self).1, List.length_cons]
      omega
  · unfold Lo
    rw [join_tl, List.all_eq_true]
    intro c hc
    obtain ⟨y, hy, hc⟩ := List.mem_flatMap.mp hc
    exact List.all_eq_true.mp (h y hy).2 c hc
theorem sIx_pos {n : Nat} {d : Nat} {i : Int} (h : 0 ≤ i) : HT.sIx n d (some i) = min i.toNat n := by
  show (if i < 0 then (i + (n : Int)).toNat else min i.toNat n) = _
  rw [if_neg (by omega)]
theorem cut_to (z : Str) {i : Int} (h : 0 ≤ i) : (cutS z none (some i)).length = min i.toNat z.length := by
  show ((z.cps.toList.drop (HT.sIx z.length 0 none)).take (HT.sIx z.length z.length (some i) - HT.sIx z.length 0 none)).toArray.size = _
  rw [sIx_pos h, List.size_toArray, List.length_take, List.length_drop, tl_len]
  show min (min i.toNat z.length - 0) (z.length - 0) = _
  omega
theorem cut_from (z : Str) {i : Int} (h : 0 ≤ i) : (cutS z (some i) none).length = z.length - min i.toNat z.length := by
  show ((z.cps.toList.drop (HT.sIx z.length 0 (some i))).take (HT.sIx z.length z.length none - HT.sIx z.length 0 (some i))).toArray.size = _
  rw [sIx_pos h, List.size_toArray, List.length_take, List.length_drop, tl_len]
  show min (z.length - min i.toNat z.length) (z.length - min i.toNat z.length) = _
  omega
theorem kws_a : ∀ z ∈ kws, nameS (z ++ "a") = true := by decide +kernel
theorem app_nil (z : Str) : z ++ "" = z := by
  have e : (z ++ "").cps = z.cps := by
    rw [Str.cps_append, ← Array.toList_inj, Array.toList_append, empty_list, List.append_nil]
  cases z
  cases h : (_ : Str) ++ "" with
  | mk c =>
    rw [h] at e
    exact congrArg Str.mk e
/-- a text of one to six small letters, with a letter behind it where it is an own word, is a name -/
theorem made_name {z : Str} (h : Lo z) (h1 : 1 ≤ z.length) (h6 : z.length ≤ 6) : nameS (z ++ (if inV (.str z) (kws.map V.str) = true then "a" else "")) = true := by
  cases e : inV (.str z) (kws.map V.str) with
  | true =>
    rw [if_pos rfl]
    rw [inV_str] at e
    exact kws_a z (List.contains_iff_mem.mp e)
  | false =>
    rw [if_neg (by decide), app_nil]
    unfold nameS
    unfold Lo at h
    rw [h, e, decide_eq_true (show 0 < z.length by omega), decide_eq_true (show z.length < 7 by omega)]
    rfl
theorem letters_tl : ("abcdefghijklmnopqrstuvwxyz" : Str).cps.toList.length = 26 := by decide +kernel
theorem letters_low : ∀ c ∈ ("abcdefghijklmnopqrstuvwxyz" : Str).cps.toList, low c = true := by decide +kernel
theorem fixed_lo : ∀ z ∈ (["lets", "inn", "i", "eachs", "ofx"] : List Str), z.cps.toList.all low = true ∧ 1 ≤ z.length ∧ z.length ≤ 6 := by decide +kernel
theorem name_len {z : Str} (h : nameS z = true) : 1 ≤ z.length ∧ z.length ≤ 6 := by
  unfold nameS at h
  simp only [Bool.and_eq_true, decide_eq_true_eq] at h
  omega
theorem name_lo {z : Str} (h : nameS z = true) : Lo z := by
  unfold nameS at h
  simp only [Bool.and_eq_true] at h
  exact h.1.1
theorem lo_asc {z : Str} (h : Lo z) : Asc z := fun c hc => low_128 (List.all_eq_true.mp h c hc)
theorem fine_name {z : Str} (h : nameS z = true) : CaD.fine (.str z) = true := by
  have h1 := name_len h
  have h2 := lo_asc (name_lo h)
  simp only [CaD.fine, Bool.and_eq_true]
  refine ⟨decide_eq_true (by omega), List.all_eq_true.mpr fun c hc => decide_eq_true (h2 c hc)⟩
/-- a sign and a name behind it -/
theorem sign_par {g : Nat} {z : Str} (hg : g = 63 ∨ g = 36) (h : nameS z = true) : parS ((⟨#[g]⟩ : Str) ++ z) = true ∧ CaD.fine (.str ((⟨#[g]⟩ : Str) ++ z)) = true := by
  have e : ((⟨#[g]⟩ : Str) ++ z).cps.toList = g :: z.cps.toList := by
    rw [app_tl]
    rfl
  have hl := name_len h
  have el : ((⟨#[g]⟩ : Str) ++ z).length = z.length + 1 := by
    rw [← tl_len, e, List.length_cons, tl_len]
  refine ⟨?_, ?_⟩
  · unfold parS
    have c1 : cutS ((⟨#[g]⟩ : Str) ++ z) none (some 1) = ⟨#[g]⟩ := by
      rw [cut1, e]
      rfl
    have c2 : cutS ((⟨#[g]⟩ : Str) ++ z) (some 1) none = z := by
      unfold cutS
      rw [sIx_pos (by decide), el]
      show (⟨((((⟨#[g]⟩ : Str) ++ z).cps.toList.drop (min (1 : Int).toNat (z.length + 1))).take ((z.length + 1) - min (1 : Int).toNat (z.length + 1))).toArray⟩ : Str) = z
      have m1 : min (1 : Int).toNat (z.length + 1) = 1 := by
        have : (1 : Int).toNat = 1 := rfl
        omega
      rw [m1, e]
      show (⟨(z.cps.toList.take (z.length + 1 - 1)).toArray⟩ : Str) = z
      rw [List.take_of_length_le (by rw [tl_len]; omega)]
    rw [c1, c2, h, Bool.and_true]
    rcases hg with rfl | rfl <;> decide +kernel
  · simp only [CaD.fine, Bool.and_eq_true]
    refine ⟨decide_eq_true (by omega), ?_⟩
    rw [e, List.all_cons, Bool.and_eq_true]
    exact ⟨by rcases hg with rfl | rfl <;> decide, List.all_eq_true.mpr fun c hc => decide_eq_true (lo_asc (name_lo h) c hc)⟩
end CaN
set_option Elab.async false
set_option linter.all false
set_option maxRecDepth 100000
/-! Tuples of such data put together and cut; lists of things within bounds. -/
namespace CaD
open PySem PySem.Spec PyProof.Rows L2 CaV CaL CaN
def cutD (ds : List PyData) (lo hi : Option Int) : List PyData := (ds.drop (HT.sIx ds.length 0 lo)).take (HT.sIx ds.length ds.length hi - HT.sIx ds.length 0 lo)
theorem cutD_mem {ds : List PyData} {lo hi : Option Int} {d : PyData} (h : d ∈ cutD ds lo hi) : d ∈ ds := List.mem_of_mem_drop (List.mem_of_mem_take h)
theorem wtAll_take : ∀ (n : Nat) (ds : List PyData), wtAll (ds.take n) ≤ wtAll ds
  | 0, ds => by simp [wtAll]
  | _ + 1, [] => by simp
  | n + 1, d :: ds => by
    have := wtAll_take n ds
    simp only [List.take_succ_cons, wtAll]
    omega
theorem wtAll_drop : ∀ (n : Nat) (ds : List PyData), wtAll (ds.drop n) ≤ wtAll ds
  | 0, ds => by simp
  | _ + 1, [] => by simp
  | n + 1, d :: ds => by
    have := wtAll_drop n ds
    simp only [List.drop_succ_cons, wtAll]
    omega
theorem wtAll_cut (ds : List PyData) (lo hi : Option Int) : wtAll (cutD ds lo hi) ≤ wtAll ds := Nat.le_trans (wtAll_take _ _) (wtAll_drop _ _)
theorem cutD_len (ds : List PyData) (lo hi : Option Int) : (cutD ds lo hi).length ≤ ds.length := by
  unfold cutD
  rw [List.length_take, List.length_drop]
  omega
section
variable {K : PySem.W.Frag} {b : Addr} {H : Hp} {Q : VK}
theorem Dq.ref_tup {v : V} {ds : List PyData} (h : Dq b H v (.tuple ds)) : ∃ a xs, v = .ref a ∧ H a = some (.tup xs) ∧ DqAll b H xs ds := by
  cases h with
  | tup h1 h2 => exact ⟨_, _, rfl, h1, h2⟩
theorem catQ {a c : Addr} {ds es : List PyData} (ha : Dq b H (.ref a) (.tuple ds)) (hc : Dq b H (.ref c) (.tuple es)) (small : ds.length + es.length ≤ 100000) (q : ∀ p H', Same H H' → Dq b H' (.ref p) (.tuple (ds ++ es)) → Q (.ref p) H') : rCatA K (.ref a) (.ref c) H Q := by
  have ha2 := ha
  have hc2 := hc
  cases ha with
  | @tup _ xs _ h1 h2 =>
    cases hc with
    | @tup _ ys _ k1 k2 =>
      have l1 := h2.len
      have l2 := k2.len
      refine ⟨a, c, xs, ys, rfl, rfl, SqT.of h1, SqT.of k1, Nat.le_trans (show xs.length + ys.length ≤ 100000 by omega) (by decide), fun e => ?_, fun _ e => ?_, fun _ _ p np => ?_⟩
      · subst e
        cases h2
        exact q c H (fun _ _ z => z) hc2
      · subst e
        cases k2
        refine q a H (fun _ _ z => z) ?_
        rw [List.append_nil]
        exact ha2
      · have s := same_new (o := .tup (xs ++ ys)) np
        exact q p _ s (.tup upd_same ((DqAll.same s _ _ h2).append (DqAll.same s _ _ k2)))
theorem sliceQ {a : Addr} {ds : List PyData} {lo hi : Option Int} (ha : Dq b H (.ref a) (.tuple ds)) (q : ∀ p H', Same H H' → Dq b H' (.ref p) (.tuple (cutD ds lo hi)) → Q (.ref p) H') : rSlA K (.ref a) lo hi H Q := by
  have ha2 := ha
  cases ha with
  | @tup _ xs _ h1 h2 =>
    have l1 := h2.len
    refine ⟨a, xs, rfl, SqT.of h1, fun z => ?_, fun _ p np => ?_⟩
    · refine q a H (fun _ _ z => z) ?_
      have e : cutD ds lo hi = ds := by
        unfold cutD
        rw [← l1, z.1, z.2, List.drop_zero, l1]
        exact List.take_of_length_le (by omega)
      rw [e]
      exact ha2
    · have s := same_new (o := .tup (cutV xs lo hi)) np
      exact q p _ s (.tup upd_same (DqAll.same s _ _ (h2.cut lo hi)))
theorem sliceF {a : Addr} {ds : List PyData} {lo : Option Int} {σ : L2.St} (ha : Dq b H (.ref a) (.tuple ds)) (q : ∀ p H', Same H H' → Dq b H' (.ref p) (.tuple (cutD ds lo none)) → Q (.ref p) H') : tNoPart σ H (fun u G => rSlA K (.ref a) lo u G Q) := sliceQ ha q
/-- a thing within bounds -/
def Fit (W D : Nat) (d : PyData) : Prop := fine d = true ∧ wt d ≤ W ∧ d.depth ≤ D
/-- the things of a list, each within bounds -/
def Its (b : Addr) (H : Hp) (W D : Nat) (xs : List V) : Prop := ∃ ds, DqAll b H xs ds ∧ ∀ d ∈ ds, Fit W D d
theorem Its.same {H' : Hp} {W D : Nat} {xs : List V} (s : Same H H') (h : Its b H W D xs) : Its b H' W D xs := by
  obtain ⟨ds, h1, h2⟩ := h
  exact ⟨ds, DqAll.same s _ _ h1, h2⟩
theorem Its.nil {W D : Nat} : Its b H W D [] := ⟨[], .nil, fun d h => (nomatch h)⟩
theorem Its.cons {W D : Nat} {v : V} {xs : List V} {d : PyData} (h : Dq b H v d) (f : Fit W D d) (t : Its b H W D xs) : Its b H W D (v :: xs) := by
  obtain ⟨ds, h1, h2⟩ := t
  refine ⟨d :: ds, .cons h h1, fun e m => ?_⟩
  rcases List.mem_cons.mp m with rfl | m
  · exact f
  · exact h2 e m
theorem Its.app {W D : Nat} {xs ys : List V} (h : Its b H W D xs) (t : Its b H W D ys) : Its b H W D (xs ++ ys) := by
  obtain ⟨ds, h1, h2⟩ := h
  obtain ⟨es, t1, t2⟩ := t
  refine ⟨ds ++ es, h1.append t1, fun e m => ?_⟩
  rcases List.mem_append.mp m with m | m
  · exact h2 e m
  · exact t2 e m
theorem Its.rep {W D : Nat} {xs : List V} (h : Its b H W D xs) : ∀ n : Nat, Its b H W D (List.replicate n xs).flatten
  | 0 => .nil
  | n + 1 => by
    rw [List.replicate_succ, List.flatten_cons]
    exact h.app (Its.rep h n)
theorem Its.get {W D : Nat} {xs : List V} (h : Its b H W D xs) {i : Int} (h0 : 0 ≤ i) (h1 : i < xs.length) : ∃ v d, atI xs i = some v ∧ Dq b H v d ∧ Fit W D d := by
  obtain ⟨ds, g1, g2⟩ := h
  have l := g1.len
  have hi : i.toNat < ds.length := by omega
  have e := List.getElem?_eq_getElem hi
  obtain ⟨v, k1, k2⟩ := g1.get e
  refine ⟨v, _, ?_, k2, g2 _ (List.getElem_mem hi)⟩
  have z := atI_nat k1
  rwa [Int.toNat_of_nonneg h0] at z
theorem fit_str {W D : Nat} {z : Str} (f : fine (.str z) = true) (h : 1 ≤ W) : Fit W D (.str z) := ⟨f, by simpa [wt] using h, by simp [PyData.depth]⟩
theorem fit_tup {W D : Nat} {ds : List PyData} (f : ∀ d ∈ ds, fine d = true) (w : wtAll ds + 1 ≤ W) (g : ∀ d ∈ ds, d.depth + 1 ≤ D) (hD : 1 ≤ D) : Fit W D (.tuple ds) := by
  refine ⟨?_, ?_, ?_⟩
  · simp only [fine]
    exact fineAll_iff.mpr f
  · simpa only [wt] using w
  · simp only [PyData.depth]
    have : PyData.depthAll ds ≤ D - 1 := depthAll_le.mpr fun d m => by
      have := g d m
      omega
    omega
end
end CaD
set_option Elab.async false
set_option linter.all false
set_option maxRecDepth 100000
namespace K11
open PySem PySem.Spec PyProof.Rows L2 CaV CaL CaN CaD
def topS (i : Nat) : Stmt := PySem.Challenge.pw_caughtnames_k11_terms_programs_bodies.main.body.getD i (.Pass ⟨0, 0, 0, 0⟩)
abbrev s_is_name : Stmt := topS 3
abbrev N_is_name : List Str := ["value"]
theorem sc_is_name : FnScope N_is_name ["value"] (defScope s_is_name) := ⟨rfl, rfl, rfl, by decide +kernel, rfl, by decide +kernel, by decide +kernel⟩
abbrev s_is_parameter : Stmt := topS 4
abbrev N_is_parameter : List Str := ["value"]
theorem sc_is_parameter : FnScope N_is_parameter ["value"] (defScope s_is_parameter) := ⟨rfl, rfl, rfl, by decide +kernel, rfl, by decide +kernel, by decide +kernel⟩
abbrev s_is_term : Stmt := topS 14
abbrev N_is_term : List Str := ["value"]
theorem sc_is_term : FnScope N_is_term ["value"] (defScope s_is_term) := ⟨rfl, rfl, rfl, by decide +kernel, rfl, by decide +kernel, by decide +kernel⟩
abbrev s_is_program : Stmt := topS 15
abbrev N_is_program : List Str := ["value"]
theorem sc_is_program : FnScope N_is_program ["value"] (defScope s_is_program) := ⟨rfl, rfl, rfl, by decide +kernel, rfl, by decide +kernel, by decide +kernel⟩
abbrev s_is_body : Stmt := topS 16
abbrev N_is_body : List Str := ["value", "parameters"]
theorem sc_is_body : FnScope N_is_body ["value", "parameters"] (defScope s_is_body) := ⟨rfl, rfl, rfl, by decide +kernel, rfl, by decide +kernel, by decide +kernel⟩
abbrev s_levelled_parts : Stmt := topS 17
abbrev N_levelled_parts : List Str := ["value", "kinds", "parameters", "found", "waiting", "part", "level", "inner"]
theorem sc_levelled_parts : FnScope N_levelled_parts ["value", "kinds", "parameters"] (defScope s_levelled_parts) := ⟨rfl, rfl, rfl, by decide +kernel, rfl, by decide +kernel, by decide +kernel⟩
abbrev s_parts_within : Stmt := topS 18
abbrev N_parts_within : List Str := ["part"]
theorem sc_parts_within : FnScope N_parts_within ["part"] (defScope s_parts_within) := ⟨rfl, rfl, rfl, by decide +kernel, rfl, by decide +kernel, by decide +kernel⟩
abbrev s_is_part : Stmt := topS 19
abbrev N_is_part : List Str := ["value", "kinds", "parameters", "kind"]
theorem sc_is_part : FnScope N_is_part ["value", "kinds", "parameters"] (defScope s_is_part) := ⟨rfl, rfl, rfl, by decide +kernel, rfl, by decide +kernel, by decide +kernel⟩
abbrev s_has_row : Stmt := topS 20
abbrev N_has_row : List Str := ["value", "most"]
theorem sc_has_row : FnScope N_has_row ["value", "most"] (defScope s_has_row) := ⟨rfl, rfl, rfl, by decide +kernel, rfl, by decide +kernel, by decide +kernel⟩
abbrev s_is_name_within : Stmt := topS 21
abbrev N_is_name_within : List Str := ["value", "parameters"]
theorem sc_is_name_within : FnScope N_is_name_within ["value", "parameters"] (defScope s_is_name_within) := ⟨rfl, rfl, rfl, by decide +kernel, rfl, by decide +kernel, by decide +kernel⟩
abbrev s_is_allowed : Stmt := topS 22
abbrev N_is_allowed : List Str := ["parameter", "parameters"]
theorem sc_is_allowed : FnScope N_is_allowed ["parameter", "parameters"] (defScope s_is_allowed) := ⟨rfl, rfl, rfl, by decide +kernel, rfl, by decide +kernel, by decide +kernel⟩
abbrev s_l_cell : Stmt := topS 24
abbrev N_l_cell : List Str := ["_law_script", "_law_k"]
theorem sc_l_cell : FnScope N_l_cell ["_law_script", "_law_k"] (defScope s_l_cell) := ⟨rfl, rfl, rfl, by decide +kernel, rfl, by decide +kernel, by decide +kernel⟩
abbrev s_l_purse : Stmt := topS 25
abbrev N_l_purse : List Str := ["_law_cell_here"]
theorem sc_l_purse : FnScope N_l_purse ["_law_cell_here"] (defScope s_l_purse) := ⟨rfl, rfl, rfl, by decide +kernel, rfl, by decide +kernel, by decide +kernel⟩
abbrev s_l_take : Stmt := topS 26
abbrev N_l_take : List Str := ["_law_purse_here", "_law_many", "_law_digit", "_law_number"]
theorem sc_l_take : FnScope N_l_take ["_law_purse_here", "_law_many"] (defScope s_l_take) := ⟨rfl, rfl, rfl, by decide +kernel, rfl, by decide +kernel, by decide +kernel⟩
abbrev s_l_pool : Stmt := topS 27
abbrev N_l_pool : List Str := ["_law_purse_here", "_law_letters", "_law_way", "_law_first", "_law_at", "_law_stem", "_law_turned", "_law_found", "_law_own", "_law_k", "_law_letter", "_law_name"]
theorem sc_l_pool : FnScope N_l_pool ["_law_purse_here"] (defScope s_l_pool) := ⟨rfl, rfl, rfl, by decide +kernel, rfl, by decide +kernel, by decide +kernel⟩
abbrev s_l_parts : Stmt := topS 28
abbrev N_l_parts : List Str := ["_law_purse_here", "_law_pool_here", "_law_room", "_law_deep", "_law_way", "_law_many", "_law_found", "_law_k", "_law_share"]
theorem sc_l_parts : FnScope N_l_parts ["_law_purse_here", "_law_pool_here", "_law_room", "_law_deep", "_law_way", "_law_many"] (defScope s_l_parts) := ⟨rfl, rfl, rfl, by decide +kernel, rfl, by decide +kernel, by decide +kernel⟩
abbrev s_l_piece : Stmt := topS 29
abbrev N_l_piece : List Str := ["_law_purse_here", "_law_pool_here", "_law_room", "_law_deep", "_law_way", "_law_kind", "_law_many", "_law_head", "_law_parts_here", "_law_word", "_law_name"]
theorem sc_l_piece : FnScope N_l_piece ["_law_purse_here", "_law_pool_here", "_law_room", "_law_deep", "_law_way"] (defScope s_l_piece) := ⟨rfl, rfl, rfl, by decide +kernel, rfl, by decide +kernel, by decide +kernel⟩
abbrev s_l_is_name : Stmt := topS 30
abbrev N_l_is_name : List Str := ["_law_value", "_law_letters", "_law_sign"]
theorem sc_l_is_name : FnScope N_l_is_name ["_law_value"] (defScope s_l_is_name) := ⟨rfl, rfl, rfl, by decide +kernel, rfl, by decide +kernel, by decide +kernel⟩
abbrev s_l_is_binder : Stmt := topS 31
abbrev N_l_is_binder : List Str := ["_law_value", "_law_form", "_law_parameters"]
theorem sc_l_is_binder : FnScope N_l_is_binder ["_law_value", "_law_form", "_law_parameters"] (defScope s_l_is_binder) := ⟨rfl, rfl, rfl, by decide +kernel, rfl, by decide +kernel, by decide +kernel⟩
abbrev s_l_good : Stmt := topS 32
abbrev N_l_good : List Str := ["_law_value", "_law_parameters", "_law_can_call", "_law_form", "_law_name", "_law_part"]
theorem sc_l_good : FnScope N_l_good ["_law_value", "_law_parameters", "_law_can_call"] (defScope s_l_good) := ⟨rfl, rfl, rfl, by decide +kernel, rfl, by decide +kernel, by decide +kernel⟩
abbrev s_l_odd : Stmt := topS 33
abbrev N_l_odd : List Str := ["_law_purse_here", "_law_value", "_law_some"]
theorem sc_l_odd : FnScope N_l_odd ["_law_purse_here", "_law_value"] (defScope s_l_odd) := ⟨rfl, rfl, rfl, by decide +kernel, rfl, by decide +kernel, by decide +kernel⟩
abbrev s_l_spoilt : Stmt := topS 34
abbrev N_l_spoilt : List Str := ["_law_purse_here", "_law_value", "_law_deep", "_law_at"]
theorem sc_l_spoilt : FnScope N_l_spoilt ["_law_purse_here", "_law_value", "_law_deep"] (defScope s_l_spoilt) := ⟨rfl, rfl, rfl, by decide +kernel, rfl, by decide +kernel, by decide +kernel⟩
abbrev s_l_right : Stmt := topS 35
abbrev N_l_right : List Str := ["_law_purse_here", "_law_pool_here", "_law_value", "_law_turn", "_law_parameters", "_law_gone", "_law_due", "_law_kept", "_law_found", "_law_k"]
theorem sc_l_right : FnScope N_l_right ["_law_purse_here"] (defScope s_l_right) := ⟨rfl, rfl, rfl, by decide +kernel, rfl, by decide +kernel, by decide +kernel⟩
abbrev s_law : Stmt := topS 36
abbrev N_law : List Str := ["_law_script", "_law_k"]
theorem sc_law : FnScope N_law ["_law_script"] (defScope s_law) := ⟨rfl, rfl, rfl, by decide +kernel, rfl, by decide +kernel, by decide +kernel⟩
def bindK : List Str := ["let", "each", "want"]
/-- a def of the text where it stands -/
structure Df (K : PySem.W.Frag) (mg : Str → Option Value) (x : Str) (st : Stmt) (ps : List Str) where
  f : Addr
  fd : FuncData
  F : Fun K x x st f fd
  b : Binds K fd ps []
  g : mg x = some (.ref f)
/-- what the top holds by name -/
structure TP (K : PySem.W.Frag) (mg : Str → Option Value) where
  n_len : mg "len" = none
  n_max : mg "max" = none
  n_min : mg "min" = none
  n_range : mg "range" = none
  n_isinstance : mg "isinstance" = none
  n_int : mg "int" = none
  n_str : mg "str" = none
  n_list : mg "list" = none
  n_tuple : mg "tuple" = none
  n_repr : mg "repr" = none
  aKW : Addr
  gl_KEYWORDS : mg "KEYWORDS" = some (.ref aKW)
  sKW : ∀ H, SqT K H aKW (kws.map V.str)
  aTK : Addr
  gl_TERM_KINDS : mg "TERM_KINDS" = some (.ref aTK)
  sTK : ∀ H, SqT K H aTK (termK.map V.str)
  aPK : Addr
  gl_PROGRAM_KINDS : mg "PROGRAM_KINDS" = some (.ref aPK)
  sPK : ∀ H, SqT K H aPK (progK.map V.str)
  aBK : Addr
  gl_BODY_KINDS : mg "BODY_KINDS" = some (.ref aBK)
  sBK : ∀ H, SqT K H aBK (bodyK.map V.str)
  aNK : Addr
  gl_BINDER_KINDS : mg "BINDER_KINDS" = some (.ref aNK)
  sNK : ∀ H, SqT K H aNK (bindK.map V.str)
  tLN : Tok
  gl_LONGEST_NAME : mg "LONGEST_NAME" = some (.int 6 tLN)
  tMP : Tok
  gl_MOST_PARTS : mg "MOST_PARTS" = some (.int 400 tMP)
  tGD : Tok
  gl_GREATEST_DEPTH : mg "GREATEST_DEPTH" = some (.int 60 tGD)
  tMO : Tok
  gl_MOST_OPERANDS : mg "MOST_OPERANDS" = some (.int 3 tMO)
  tMA : Tok
  gl_MOST_ARGUMENTS : mg "MOST_ARGUMENTS" = some (.int 5 tMA)
  d_is_name : Df K mg "is_name" s_is_name ["value"]
  d_is_parameter : Df K mg "is_parameter" s_is_parameter ["value"]
  d_is_term : Df K mg "is_term" s_is_term ["value"]
  d_is_program : Df K mg "is_program" s_is_program ["value"]
  d_is_body : Df K mg "is_body" s_is_body ["value", "parameters"]
  d_levelled_parts : Df K mg "levelled_parts" s_levelled_parts ["value", "kinds", "parameters"]
  d_parts_within : Df K mg "parts_within" s_parts_within ["part"]
  d_is_part : Df K mg "is_part" s_is_part ["value", "kinds", "parameters"]
  d_has_row : Df K mg "has_row" s_has_row ["value", "most"]
  d_is_name_within : Df K mg "is_name_within" s_is_name_within ["value", "parameters"]
  d_is_allowed : Df K mg "is_allowed" s_is_allowed ["parameter", "parameters"]
  d_l_cell : Df K mg "_law_cell" s_l_cell ["_law_script", "_law_k"]
  d_l_purse : Df K mg "_law_purse" s_l_purse ["_law_cell_here"]
  d_l_take : Df K mg "_law_take" s_l_take ["_law_purse_here", "_law_many"]
  d_l_pool : Df K mg "_law_pool" s_l_pool ["_law_purse_here"]
  d_l_parts : Df K mg "_law_parts" s_l_parts ["_law_purse_here", "_law_pool_here", "_law_room", "_law_deep", "_law_way", "_law_many"]
  d_l_piece : Df K mg "_law_piece" s_l_piece ["_law_purse_here", "_law_pool_here", "_law_room", "_law_deep", "_law_way"]
  d_l_is_name : Df K mg "_law_is_name" s_l_is_name ["_law_value"]
  d_l_is_binder : Df K mg "_law_is_binder" s_l_is_binder ["_law_value", "_law_form", "_law_parameters"]
  d_l_good : Df K mg "_law_good" s_l_good ["_law_value", "_law_parameters", "_law_can_call"]
  d_l_odd : Df K mg "_law_odd" s_l_odd ["_law_purse_here", "_law_value"]
  d_l_spoilt : Df K mg "_law_spoilt" s_l_spoilt ["_law_purse_here", "_law_value", "_law_deep"]
  d_l_right : Df K mg "_law_right" s_l_right ["_law_purse_here"]
section
variable {P : Program} {w : World} {K : PySem.W.Frag} {mg : Str → Option Value} {base : Heap}
theorem ok_cell {k : Nat} (T : TP K mg) : FnOk P w K mg base CX0 (k + 1) T.d_l_cell.f T.d_l_cell.fd ["_law_script", "_law_k"] (spCell K) := by
  refine T.d_l_cell.F.ok sc_l_cell (fun vs H Q E h => ?_) (fun cdv A outer s H vs Q E hr h => ?_)
  · obtain ⟨a, ns, j, rfl, _⟩ := h
    rfl
  · obtain ⟨a, ns, j, rfl, hS, hj, q⟩ := h
    refine ⟨_, (pss_cons (ps_if (pt_cmpR op_lt (pv 1) (pe_callB call_len_seq (by rfl) T.n_len PySem.boot_len (pa_cons (pv 0) pa_nil)) (nomark _))
      (pss_one (ps_ret (pe_ix ix_list (pv 0) (pv 1) (fun _ _ => rfl))))
      pss_nil)
    (pss_one (ps_ret (pe_op op_add (pe_op op_mul pe_int (pv 1)) pe_int)))), ?_⟩
    refine ⟨_, rfl, _, rfl, a, _, rfl, .inl hS, _, _, rfl, rfl, _, rfl, ite2 (fun e => ?_) (fun e => ?_)⟩
    · have hl : j.toNat < ns.length := by
        have z := of_decide_eq_true e
        rw [List.length_map] at z
        omega
      exact ⟨_, rfl, _, rfl, a, _, _, .int ns[j.toNat], rfl, rfl, hS, (by have e := atI_nat (xs := ns.map V.int) (j := j.toNat) (v := .int ns[j.toNat]) (by rw [List.getElem?_map, List.getElem?_eq_getElem hl]; rfl); rwa [Int.toNat_of_nonneg hj] at e), q _⟩
    · exact ⟨_, rfl, _, _, rfl, rfl, .inl ⟨by decide, by decide⟩, _, _, rfl, rfl, q _⟩
theorem ok_purse {k : Nat} (T : TP K mg) : FnOk P w K mg base CX0 (k + 1) T.d_l_purse.f T.d_l_purse.fd ["_law_cell_here"] spBox := by
  refine T.d_l_purse.F.ok sc_l_purse (fun vs H Q E h => ?_) (fun cdv A outer s H vs Q E hr h => ?_)
  · obtain ⟨x, rfl, _⟩ := h
    rfl
  · obtain ⟨x, rfl, q⟩ := h
    refine ⟨_, (pss_one (ps_ret (pe_lst (pa_cons (pe_callB (call_max2 rfl) (by rfl) T.n_max (by decide +kernel) (pa_cons pe_int (pa_cons (pe_op op_sub (pv 0) (pe_op op_pow pe_int pe_int)) pa_nil))) (pa_cons (pe_op op_mod (pv 0) pe_int) (pa_cons pe_int pa_nil)))))), ?_⟩
    refine ⟨_, rfl, _, _, rfl, rfl, ⟨by decide, by decide, by decide⟩, _, _, rfl, rfl, _, _, rfl, _, rfl, _, _, rfl, rfl, (by decide : (0 : Int) < 2147483629), (by show 3 ≤ sizeLine; decide), fun l hl => ?_⟩
    refine q l _ hl (fun c o e => by rw [upd_ne (ne_of_none e hl)]; exact e) ⟨_, _, _, upd_same, ?_, (emod_bd (by decide)).1, (emod_bd (by decide)).2, by decide, by decide⟩
    split <;> omega
theorem ok_take {k : Nat} (T : TP K mg) : FnOk P w K mg base CX0 (k + 1) T.d_l_take.f T.d_l_take.fd ["_law_purse_here", "_law_many"] spTake := by
  refine T.d_l_take.F.ok sc_l_take (fun vs H Q E h => ?_) (fun cdv A outer s H vs Q E hr h => ?_)
  · obtain ⟨b, many, n, rfl, _⟩ := h
    rfl
  · obtain ⟨b, many, n, rfl, ⟨m, r, c, hb, hm, hr0, hr1, hc0, hc1⟩, hn, hm0, hm1, q⟩ := h
    refine ⟨_, (pss_cons (ps_if (pt_cmpR op_gt (pe_ix ix_list (pv 0) pe_int (fun _ _ => rfl)) pe_int (nomark _))
      (pss_cons (ps_set (i := 2) sc_l_take.nd rfl (.inl rfl) (pe_op op_mod (pe_ix ix_list (pv 0) pe_int (fun _ _ => rfl)) (pv 1)))
      (pss_cons (ps_asg (pe_op op_fdiv (pe_ix ix_list (pv 0) pe_int (fun _ _ => rfl)) (pv 1)) (pg_sub (pv 0) pe_int set_list))
      (pss_one (ps_ret (pv 2)))))
      pss_nil)
    (pss_cons (ps_asg (pe_op op_add (pe_ix ix_list (pv 0) pe_int (fun _ _ => rfl)) pe_int) (pg_sub (pv 0) pe_int set_list))
    (pss_cons (ps_set (i := 3) sc_l_take.nd rfl (.inl rfl) (pe_op op_mod (pe_op op_pow (pe_op op_add (pe_op op_add (pe_ix ix_list (pv 0) pe_int (fun _ _ => rfl)) (pe_op op_mul pe_int (pe_ix ix_list (pv 0) pe_int (fun _ _ => rfl)))) pe_int) pe_int) pe_int))
    (pss_cons (ps_set (i := 3) sc_l_take.nd rfl (.inl rfl) (pe_op op_mod (pe_op op_pow (pe_op op_add (pv 3) (pe_op op_mul pe_int (pe_ix ix_list (pv 0) pe_int (fun _ _ => rfl)))) pe_int) pe_int))
    (pss_one (ps_ret (pe_op op_mod (pe_op op_fdiv (pv 3) pe_int) (pv 1)))))))), ?_⟩
    refine ⟨_, rfl, b, _, _, .int m, rfl, rfl, SqL.of hb, rfl, _, _, rfl, rfl, _, rfl, ite2 (fun e => ?_) (fun e => ?_)⟩
    · refine ⟨_, rfl, b, _, _, .int m, rfl, rfl, SqL.of hb, rfl, _, rfl, _, _, rfl, rfl, hm0, ?_⟩
      refine ⟨_, rfl, b, _, _, .int m, rfl, rfl, SqL.of hb, rfl, _, rfl, _, _, rfl, rfl, ⟨hm0, hm1⟩, _, rfl, b, _, _, 0, rfl, rfl, hb, rfl, ?_⟩
      refine ⟨_, rfl, q _ _ (emod_bd hm0).1 (emod_bd hm0).2 ⟨_, _, _, upd_same, Int.ediv_nonneg hm (by omega), hr0, hr1, hc0, by omega⟩ Kp.at⟩
    · refine ⟨_, rfl, b, _, _, .int c, rfl, rfl, SqL.of hb, rfl, _, _, rfl, rfl, _, rfl, b, _, _, 2, rfl, rfl, hb, rfl, ?_⟩
      have hb2 : (upd H b (.lst [.int m, .int r, .int (c + 1)])) b = some (.lst [.int m, .int r, .int (c + 1)]) := upd_same
      refine ⟨_, rfl, b, _, _, .int r, rfl, rfl, SqL.of hb2, rfl, _, rfl, b, _, _, .int (c + 1), rfl, rfl, SqL.of hb2, rfl, _, _, rfl, rfl, .inl ⟨by decide, by decide⟩, _, _, rfl, rfl, _, _, rfl, rfl, _, _, rfl, rfl, pow_bd (by omega) (by omega), _, _, rfl, rfl, (by decide : (0 : Int) < 2147483647), ?_⟩
      have h1 := emod_bd (x := (r + 7919 * (c + 1) + 11) ^ (5 : Int).toNat) (k := 2147483647) (by decide)
      generalize (r + 7919 * (c + 1) + 11) ^ (5 : Int).toNat % 2147483647 = x1 at h1
      refine ⟨_, rfl, _, rfl, b, _, _, .int (c + 1), rfl, rfl, SqL.of hb2, rfl, _, _, rfl, rfl, .inl ⟨by decide, by decide⟩, _, _, rfl, rfl, _, _, rfl, rfl, pow_bd3 (by omega) (by omega), _, _, rfl, rfl, (by decide : (0 : Int) < 2147483587), ?_⟩
      refine ⟨_, rfl, _, _, rfl, rfl, ⟨by decide, by decide⟩, _, rfl, _, _, rfl, rfl, hm0, q _ _ (emod_bd hm0).1 (emod_bd hm0).2 ⟨m, r, c + 1, hb2, hm, hr0, hr1, by omega, by omega⟩ Kp.at⟩
end
end K11
set_option Elab.async false
set_option linter.all false
set_option maxRecDepth 100000
namespace K11
open PySem PySem.Spec PyProof.Rows L2 CaV CaL CaN CaD
theorem fine_str {z : Str} (h : fine (.str z) = true) : z.length ≤ 10 ∧ Asc z := by
  simp only [fine, Bool.and_eq_true] at h
  exact ⟨of_decide_eq_true h.1, fun c hc => of_decide_eq_true (List.all_eq_true.mp h.2 c hc)⟩
def smallS (d : PyData) : Prop := ∀ z, d = .str z → z.length ≤ 1000
theorem small_of {d : PyData} (h : fine d = true) : smallS d := fun z e => by
  subst e
  have := (fine_str h).1
  omega
def spName : Sp := fun vs H Q _ => ∃ (b : Addr) (x : V) (d : PyData), vs = [x] ∧ Dq b H x d ∧ smallS d ∧ Q (.bl (nameD d)) H
def spPar : Sp := fun vs H Q _ => ∃ (b : Addr) (x : V) (d : PyData), vs = [x] ∧ Dq b H x d ∧ smallS d ∧ ∀ H', Same H H' → Q (.bl (parD d)) H'
section
variable {P : Program} {w : World} {K : PySem.W.Frag} {mg : Str → Option Value} {base : Heap}
theorem ok_is_name {k : Nat} (T : TP K mg) : FnOk P w K mg base CX0 (k + 1) T.d_is_name.f T.d_is_name.fd ["value"] spName := by
  refine T.d_is_name.F.ok sc_is_name (fun vs H Q E h => ?_) (fun cdv A outer s H vs Q E hr h => ?_)
  · obtain ⟨b, x, d, rfl, _⟩ := h
    rfl
  · obtain ⟨b, x, d, rfl, dq, hz, q⟩ := h
    refine ⟨_, (pss_cons (ps_if (PW.pt (pw_or (pt_not (pt_val (pe_callB CaV.call_isV (by rfl) T.n_isinstance (by decide +kernel) (pa_cons (pv 0) (pa_cons (pe_bltn (v := .ty "str") (by rfl) T.n_str (by decide +kernel) rfl) pa_nil))))) (pw_or (pt_cmpR op_gt (pe_callB call_len_str (by rfl) T.n_len PySem.boot_len (pa_cons (pv 0) pa_nil)) (pe_glob (v := .int 6) rfl T.gl_LONGEST_NAME ⟨_, rfl⟩) (nomark _)) (pw_or1 (pt_cmpR op_in_seq (pv 0) (pe_glob (v := .ref T.aKW) rfl T.gl_KEYWORDS rfl) (by with_unfolding_all rfl))))))
      (pss_one (ps_ret pe_bl))
      pss_nil)
    (pss_one (ps_ret (pe_and (pe_bm0 PySem.F.plainAttrs_str PySem.F.slot_str_isascii PySem.F.type_str_isascii mt_isascii (pv 0)) (pe_and (pe_bm0 PySem.F.plainAttrs_str PySem.F.slot_str_isalpha PySem.F.type_str_isalpha mt_isalpha (pv 0)) (pe_one (pe_bm0 PySem.F.plainAttrs_str PySem.F.slot_str_islower PySem.F.type_str_islower mt_islower (pv 0)))))))), ?_⟩
    refine ⟨_, rfl, _, _, _, _, isStr (d), rfl, .ty "str", .inl dq.ty, kit_ty (kit_str _), ?_⟩
    cases d with
    | str z =>
      cases dq
      have hz : z.length ≤ 1000 := hz z rfl
      have q : Q (.bl (nameS z)) H := q
      refine ⟨_, rfl, iteF ?_⟩
      refine ⟨_, rfl, _, rfl, sz100 hz, _, _, rfl, rfl, _, rfl, ?_⟩
      by_cases h6 : (6 : Int) < (z.length : Int)
      · rw [decide_eq_true h6]
        refine iteT (iteT ?_)
        have e : nameS z = false := by
          unfold nameS
          rw [show decide (z.length < 7) = false from decide_eq_false (by omega)]
          simp
        rw [e] at q
        exact q
      · rw [decide_eq_false h6]
        refine iteF ?_
        refine ⟨_, rfl, T.aKW, _, rfl, .inr (T.sKW _), rfl, by decide +kernel, _, rfl, ?_⟩
        cases ek : inV (.str z) (kws.map V.str) with
        | true =>
          refine iteT ?_
          have e : nameS z = false := by
            unfold nameS
            rw [ek]
            simp
          rw [e] at q
          exact q
        | false =>
          refine iteF ?_
          refine ⟨_, rfl, rfl, _, rfl, rfl, trivial, _, rfl, ?_⟩
          by_cases h0 : 0 < z.length
          · have e : nameS z = (Txt.isascii z && (Txt.isalpha z && Txt.islower z)) := by
              rw [signs_same z h0]
              unfold nameS
              rw [ek, decide_eq_true h0, decide_eq_true (show z.length < 7 by omega)]
              simp
            rw [e] at q
            cases ea : Txt.isascii z with
            | false =>
              rw [ea] at q
              exact iteF q
            | true =>
              rw [ea] at q
              refine iteT ?_
              refine ⟨_, rfl, rfl, _, rfl, rfl, trivial, _, rfl, ?_⟩
              cases eb : Txt.isalpha z with
              | false =>
                rw [eb] at q
                exact iteF q
              | true =>
                rw [eb] at q
                refine iteT ?_
                exact ⟨_, rfl, rfl, _, rfl, rfl, trivial, q⟩
          · have e : nameS z = false := by
              unfold nameS
              rw [decide_eq_false h0]
              simp
            rw [e] at q
            have eb : Txt.isalpha z = false := by
              unfold Txt.isalpha
              rw [show decide (z.length > 0) = false from decide_eq_false h0]
              rfl
            cases ea : Txt.isascii z with
            | false => exact iteF q
            | true =>
              refine iteT ?_
              refine ⟨_, rfl, rfl, _, rfl, rfl, trivial, _, rfl, ?_⟩
              rw [eb]
              exact iteF q
    | _ => exact ⟨_, rfl, iteT (iteT q)⟩
theorem ok_is_parameter {k : Nat} (T : TP K mg) : FnOk P w K mg base CX0 (k + 2) T.d_is_parameter.f T.d_is_parameter.fd ["value"] spPar := by
  have G_is_name : FnOk P w K mg base CX0 1 T.d_is_name.f T.d_is_name.fd ["value"] spName := ok_is_name T
  refine T.d_is_parameter.F.ok sc_is_parameter (fun vs H Q E h => ?_) (fun cdv A outer s H vs Q E hr h => ?_)
  · obtain ⟨b, x, d, rfl, _⟩ := h
    rfl
  · obtain ⟨b, x, d, rfl, dq, hz, q⟩ := h
    refine ⟨_, (pss_one (ps_ret (pe_and (pe_callB CaV.call_isV (by rfl) T.n_isinstance (by decide +kernel) (pa_cons (pv 0) (pa_cons (pe_bltn (v := .ty "str") (by rfl) T.n_str (by decide +kernel) rfl) pa_nil))) (pe_and (pe_cmpR op_in_seq (pe_slice sl_str (pv 0) po_none (po_some pe_int)) (pe_tup (pa_cons pe_str (pa_cons pe_str pa_nil))) (by with_unfolding_all rfl)) (pe_one (pe_call G_is_name (hr.mono (by omega)) (by rfl) T.d_is_name.g T.d_is_name.F.kp T.d_is_name.b .nil pass0 (pa_cons (pe_slice sl_str (pv 0) (po_some pe_int) po_none) pa_nil))))))), ?_⟩
    refine ⟨_, rfl, _, _, _, _, isStr (d), rfl, .ty "str", .inl dq.ty, kit_ty (kit_str _), ?_⟩
    cases d with
    | str z =>
      cases dq
      have hz : z.length ≤ 1000 := hz z rfl
      refine ⟨_, rfl, iteT ?_⟩
      refine ⟨_, rfl, _, rfl, _, rfl, sz100 hz, (by show 2 ≤ sizeLine; decide), fun p np => ?_⟩
      refine ⟨p, _, rfl, .inr (SqT.of upd_same), rfl, rfl, _, rfl, ?_⟩
      have q : Q (.bl (parS z)) _ := q _ (same_new (o := .tup [.str "?", .str "$"]) np)
      unfold parS at q
      show if inV (.str (cutS z none (some 1))) [.str "?", .str "$"] = true then _ else _
      cases e : inV (.str (cutS z none (some 1))) [.str "?", .str "$"] with
      | false =>
        rw [e] at q
        exact iteF q
      | true =>
        rw [e] at q
        refine iteT ?_
        have hc := cut_len z (some 1) none
        exact ⟨_, rfl, _, rfl, _, rfl, sz100 hz, b, _, .str (cutS z (some 1) none), rfl, .str _, (fun y ey => by cases ey; omega), q⟩
    | _ => exact ⟨_, rfl, iteF (q _ (fun _ _ e => e))⟩
end
end K11
set_option Elab.async false
set_option linter.all false
set_option maxRecDepth 100000
namespace K11
open PySem PySem.Spec PyProof.Rows L2 CaV CaL CaN CaD
/-- the parameters as they are passed: None, or a list or tuple of texts -/
def PV (K : PySem.W.Frag) (H : Hp) (y : V) (ps : Option (List Str)) : Prop := (y = .non ∧ ps = none) ∨ ∃ (a : Addr) (l : List Str), y = .ref a ∧ ps = some l ∧ (SqL K H a (l.map V.str) ∨ SqT K H a (l.map V.str))
theorem sqt_same {K : PySem.W.Frag} {H H' : Hp} {a : Addr} {xs : List V} (s : Same H H') (h : SqT K H a xs) : SqT K H' a xs := by
  rcases h with (h | ⟨o, h⟩) | h
  · exact .inl (.inl (s _ _ h))
  · exact .inl (.inr ⟨o, s _ _ h⟩)
  · exact .inr h
theorem PV.same {K : PySem.W.Frag} {H H' : Hp} {y : V} {ps : Option (List Str)} (s : Same H H') (h : PV K H y ps) : PV K H' y ps := by
  rcases h with h | ⟨a, l, h1, h2, h3⟩
  · exact .inl h
  · exact .inr ⟨a, l, h1, h2, h3.imp (fun z => s.seq z) (fun z => sqt_same s z)⟩
theorem flat_strs : ∀ (l : List Str), (l.map V.str).all flatV = true
  | [] => rfl
  | _ :: r => by
    rw [List.map_cons, List.all_cons, flat_strs r]
    rfl
theorem dec_int (a b : Int) : decide (V.int a = V.int b) = decide (a = b) := by
  rw [Bool.eq_iff_iff, decide_eq_true_eq, decide_eq_true_eq]
  exact ⟨fun h => V.int.inj h, fun h => by rw [h]⟩
theorem dec_str (a b : Str) : decide (V.str a = V.str b) = decide (a = b) := by
  rw [Bool.eq_iff_iff, decide_eq_true_eq, decide_eq_true_eq]
  exact ⟨fun h => V.str.inj h, fun h => by rw [h]⟩
theorem dec_nat {a b : Nat} : decide ((a : Int) = (b : Int)) = decide (a = b) := by
  rw [Bool.eq_iff_iff, decide_eq_true_eq, decide_eq_true_eq]
  omega
theorem at0 {v : V} {r : List V} : atI (v :: r) 0 = some v := atI_nat (xs := v :: r) (j := 0) (v := v) rfl
theorem at1 {v0 v : V} {r : List V} : atI (v0 :: v :: r) 1 = some v := atI_nat (xs := v0 :: v :: r) (j := 1) (v := v) rfl
theorem at2 {v0 v1 v : V} {r : List V} : atI (v0 :: v1 :: v :: r) 2 = some v := atI_nat (xs := v0 :: v1 :: v :: r) (j := 2) (v := v) rfl
theorem at3 {v0 v1 v2 v : V} {r : List V} : atI (v0 :: v1 :: v2 :: v :: r) 3 = some v := atI_nat (xs := v0 :: v1 :: v2 :: v :: r) (j := 3) (v := v) rfl
def spAllowed (K : PySem.W.Frag) : Sp := fun vs H Q _ => ∃ (x : Str) (y : V) (ps : Option (List Str)), vs = [.str x, y] ∧ PV K H y ps ∧ Q (.bl (allowS ps x)) H
def spWithin (K : PySem.W.Frag) : Sp := fun vs H Q _ => ∃ (b : Addr) (x : V) (d : PyData) (y : V) (ps : Option (List Str)), vs = [x, y] ∧ Dq b H x d ∧ smallS d ∧ PV K H y ps ∧ ∀ H', Same H H' → Q (.bl (withinD ps d)) H'
def spRow : Sp := fun vs H Q _ => ∃ (b a : Addr) (m : Nat) (d0 d1 : PyData) (r : List PyData), vs = [.ref a, .int m] ∧ Dq b H (.ref a) (.tuple (d0 :: d1 :: r)) ∧ smallS d1 ∧ Q (.bl (rowD m d1 r)) H
section
variable {P : Program} {w : World} {K : PySem.W.Frag} {mg : Str → Option Value} {base : Heap}
theorem ok_is_allowed {k : Nat} (T : TP K mg) : FnOk P w K mg base CX0 (k + 1) T.d_is_allowed.f T.d_is_allowed.fd ["parameter", "parameters"] (spAllowed K) := by
  refine T.d_is_allowed.F.ok sc_is_allowed (fun vs H Q E h => ?_) (fun cdv A outer s H vs Q E hr h => ?_)
  · obtain ⟨x, y, ps, rfl, _⟩ := h
    rfl
  · obtain ⟨x, y, ps, rfl, pv_, q⟩ := h
    refine ⟨_, (pss_one (ps_ret (pe_or (pe_cmpR op_isN (pv 1) pe_non (nomark _)) (pe_one (pe_cmpR op_in_seq (pv 0) (pv 1) (by with_unfolding_all rfl)))))), ?_⟩
    rcases pv_ with ⟨rfl, rfl⟩ | ⟨a, l, rfl, rfl, sq⟩
    · exact ⟨_, rfl, rfl, _, rfl, iteT q⟩
    · exact ⟨_, rfl, rfl, _, rfl, iteF ⟨_, rfl, _, rfl, a, _, rfl, sq, rfl, flat_strs l, q⟩⟩
theorem ok_is_name_within {k : Nat} (T : TP K mg) : FnOk P w K mg base CX0 (k + 3) T.d_is_name_within.f T.d_is_name_within.fd ["value", "parameters"] (spWithin K) := by
  have G_is_name : FnOk P w K mg base CX0 1 T.d_is_name.f T.d_is_name.fd ["value"] spName := ok_is_name T
  have G_is_parameter : FnOk P w K mg base CX0 2 T.d_is_parameter.f T.d_is_parameter.fd ["value"] spPar := ok_is_parameter T
  have G_is_allowed : FnOk P w K mg base CX0 1 T.d_is_allowed.f T.d_is_allowed.fd ["parameter", "parameters"] (spAllowed K) := ok_is_allowed T
  refine T.d_is_name_within.F.ok sc_is_name_within (fun vs H Q E h => ?_) (fun cdv A outer s H vs Q E hr h => ?_)
  · obtain ⟨b, x, d, y, ps, rfl, _⟩ := h
    rfl
  · obtain ⟨b, x, d, y, ps, rfl, dq, hz, pv_, q⟩ := h
    refine ⟨_, (pss_cons (ps_if (pt_val (pe_call G_is_name (hr.mono (by omega)) (by rfl) T.d_is_name.g T.d_is_name.F.kp T.d_is_name.b .nil pass0 (pa_cons (pv 0) pa_nil)))
      (pss_one (ps_ret pe_bl))
      pss_nil)
    (pss_one (ps_ret (pe_and (pe_call G_is_parameter (hr.mono (by omega)) (by rfl) T.d_is_parameter.g T.d_is_parameter.F.kp T.d_is_parameter.b .nil pass0 (pa_cons (pv 0) pa_nil)) (pe_and (pe_m1 PySem.F.slot_str_startswith PySem.F.type_str_startswith mt_startswith (pv 0) pe_str) (pe_one (pe_call G_is_allowed (hr.mono (by omega)) (by rfl) T.d_is_allowed.g T.d_is_allowed.F.kp T.d_is_allowed.b .nil pass0 (pa_cons (pv 0) (pa_cons (pv 1) pa_nil))))))))), ?_⟩
    refine ⟨_, rfl, b, _, d, rfl, dq, hz, _, rfl, ?_⟩
    unfold withinD at q
    cases e : nameD d with
    | true =>
      rw [e] at q
      exact iteT (q _ (fun _ _ z => z))
    | false =>
      rw [e] at q
      refine iteF ⟨_, rfl, b, _, d, rfl, dq, hz, fun H1 s1 => ⟨_, rfl, ?_⟩⟩
      cases e2 : parD d with
      | false =>
        rw [e2] at q
        exact iteF (q _ s1)
      | true =>
        rw [e2] at q
        cases d with
        | str z =>
          cases dq
          refine iteT ⟨_, rfl, ⟨_, rfl⟩, _, _, rfl, rfl, _, rfl, ?_⟩
          show if doll z = true then _ else _
          have q : ∀ H', Same H H' → Q (.bl (doll z && allowS ps z)) H' := q
          cases e3 : doll z with
          | false =>
            rw [e3] at q
            exact iteF (q _ s1)
          | true =>
            rw [e3] at q
            exact iteT ⟨_, rfl, _, rfl, z, _, ps, rfl, pv_.same s1, q _ s1⟩
        | _ => cases e2
theorem ok_has_row {k : Nat} (T : TP K mg) : FnOk P w K mg base CX0 (k + 2) T.d_has_row.f T.d_has_row.fd ["value", "most"] spRow := by
  have G_is_name : FnOk P w K mg base CX0 1 T.d_is_name.f T.d_is_name.fd ["value"] spName := ok_is_name T
  refine T.d_has_row.F.ok sc_has_row (fun vs H Q E h => ?_) (fun cdv A outer s H vs Q E hr h => ?_)
  · obtain ⟨b, a, m, d0, d1, r, rfl, _⟩ := h
    rfl
  · obtain ⟨b, a, m, d0, d1, r, rfl, dq, hz, q⟩ := h
    refine ⟨_, (pss_one (ps_ret (pe_and (pe_cmpR op_eq (pe_callB call_len_seq (by rfl) T.n_len PySem.boot_len (pa_cons (pv 0) pa_nil)) pe_int (nomark _)) (pe_and (pe_call G_is_name (hr.mono (by omega)) (by rfl) T.d_is_name.g T.d_is_name.F.kp T.d_is_name.b .nil pass0 (pa_cons (pe_ix ix_tup (pv 0) pe_int (fun _ _ => rfl)) pa_nil)) (pe_and (pe_callB CaV.call_isV (by rfl) T.n_isinstance (by decide +kernel) (pa_cons (pe_ix ix_tup (pv 0) pe_int (fun _ _ => rfl)) (pa_cons (pe_bltn (v := .ty "tuple") (by rfl) T.n_tuple (by decide +kernel) rfl) pa_nil))) (pe_one (pe_cmpR op_le (pe_callB call_len_seq (by rfl) T.n_len PySem.boot_len (pa_cons (pe_ix ix_tup (pv 0) pe_int (fun _ _ => rfl)) pa_nil)) (pv 1) (nomark _)))))))), ?_⟩
    cases dq with
    | tup h1 h2 =>
      cases h2 with
      | @cons v0 _ _ _ g0 g =>
        cases g with
        | @cons v1 vr _ _ g1 g =>
          have hl := g.len
          refine ⟨_, rfl, a, _, rfl, .inr (SqT.of h1), rfl, _, rfl, ?_⟩
          have e : decide (V.int ((v0 :: v1 :: vr).length : Int) = V.int 3) = decide (r.length = 1) := by
            rw [dec_int, show (3 : Int) = ((3 : Nat) : Int) from rfl, dec_nat]
            simp only [List.length_cons, hl]
            rw [Bool.eq_iff_iff, decide_eq_true_eq, decide_eq_true_eq]
            omega
          rw [e]
          unfold rowD at q
          by_cases h3 : r.length = 1
          · rw [decide_eq_true h3] at q ⊢
            refine iteT ⟨_, rfl, a, _, _, v1, rfl, rfl, SqT.of h1, at1, b, _, d1, rfl, g1, hz, _, rfl, ?_⟩
            cases e2 : nameD d1 with
            | false =>
              rw [e2] at q
              exact iteF q
            | true =>
              rw [e2] at q
              match r, g, h3, q with
              | [z], @DqAll.cons _ _ v2 _ _ _ g2 .nil, _, q =>
                refine iteT ⟨_, rfl, a, _, _, v2, rfl, rfl, SqT.of h1, at2, _, _, _, _, isTup (z), rfl, .ty "tuple", .inl g2.ty, kit_ty (kit_tup _), _, rfl, ?_⟩
                cases z with
                | tuple zs =>
                  cases g2 with
                  | tup k1 k2 =>
                    rename_i p ws
                    refine iteT ⟨_, rfl, a, _, _, .ref p, rfl, rfl, SqT.of h1, at2, p, _, rfl, .inr (SqT.of k1), _, rfl, _, _, rfl, rfl, ?_⟩
                    have e3 : decide ((ws.length : Int) ≤ (m : Int)) = decide (zs.length ≤ m) := by
                      rw [k2.len, Bool.eq_iff_iff, decide_eq_true_eq, decide_eq_true_eq]
                      omega
                    show Q (.bl (decide ((ws.length : Int) ≤ (m : Int)))) H
                    rw [e3]
                    exact q
                | _ => exact iteF q
          · rw [decide_eq_false h3] at q ⊢
            exact iteF q
end
end K11
set_option Elab.async false
set_option linter.all false
set_option maxRecDepth 100000
namespace K11
open PySem PySem.Spec PyProof.Rows L2 CaV CaL CaN CaD
theorem fine_tup {ds : List PyData} (h : fine (.tuple ds) = true) : ∀ x ∈ ds, fine x = true := by
  simp only [fine] at h
  exact fineAll_iff.mp h
theorem dec_len (n m : Nat) : decide (V.int (n : Int) = V.int (m : Int)) = decide (n = m) := by
  rw [dec_int, dec_nat]
theorem part_one {ks : List Str} {ps : Option (List Str)} (d : PyData) : isPart ks ps (.tuple [d]) = false := by
  cases d <;> rfl
def spPart (K : PySem.W.Frag) : Sp := fun vs H Q _ => ∃ (b : Addr) (x : V) (d : PyData) (pk : Addr) (ks : List Str) (y : V) (ps : Option (List Str)), vs = [x, .ref pk, y] ∧ Dq b H x d ∧ fine d = true ∧ SqT K H pk (ks.map V.str) ∧ PV K H y ps ∧ ∀ H', Same H H' → Q (.bl (isPart ks ps d)) H'
section
variable {P : Program} {w : World} {K : PySem.W.Frag} {mg : Str → Option Value} {base : Heap}
theorem ok_is_part {k : Nat} (T : TP K mg) : FnOk P w K mg base CX0 (k + 4) T.d_is_part.f T.d_is_part.fd ["value", "kinds", "parameters"] (spPart K) := by
  have G_is_name : FnOk P w K mg base CX0 1 T.d_is_name.f T.d_is_name.fd ["value"] spName := ok_is_name T
  have G_is_allowed : FnOk P w K mg base CX0 1 T.d_is_allowed.f T.d_is_allowed.fd ["parameter", "parameters"] (spAllowed K) := ok_is_allowed T
  have G_is_name_within : FnOk P w K mg base CX0 3 T.d_is_name_within.f T.d_is_name_within.fd ["value", "parameters"] (spWithin K) := ok_is_name_within T
  have G_has_row : FnOk P w K mg base CX0 2 T.d_has_row.f T.d_has_row.fd ["value", "most"] spRow := ok_has_row T
  refine T.d_is_part.F.ok sc_is_part (fun vs H Q E h => ?_) (fun cdv A outer s H vs Q E hr h => ?_)
  · obtain ⟨b, x, d, pk, ks, y, ps, rfl, _⟩ := h
    rfl
  · obtain ⟨b, x, d, pk, ks, y, ps, rfl, dq, fd_, sk, pv_, q⟩ := h
    refine ⟨_, (pss_cons (ps_if (PW.pt (pw_or (pt_not (pt_val (pe_callB CaV.call_isV (by rfl) T.n_isinstance (by decide +kernel) (pa_cons (pv 0) (pa_cons (pe_bltn (v := .ty "tuple") (by rfl) T.n_tuple (by decide +kernel) rfl) pa_nil))))) (pw_or (pt_cmpR op_lt (pe_callB call_len_seq (by rfl) T.n_len PySem.boot_len (pa_cons (pv 0) pa_nil)) pe_int (nomark _)) (pw_or1 (pt_cmpR (op_notInK (b := b) (Nat.lt_of_le_of_lt (Nat.add_le_add_left (by decide : 1 ≤ 64) _) hr.units)) (pe_ix ix_tup (pv 0) pe_int (fun _ _ => rfl)) (pv 1) (by with_unfolding_all rfl))))))
      (pss_one (ps_ret pe_bl))
      pss_nil)
    (pss_cons (ps_set (i := 3) sc_is_part.nd rfl (.inl rfl) (pe_ix ix_tup (pv 0) pe_int (fun _ _ => rfl)))
    (pss_cons (ps_if (pt_cmpR op_eq (pv 3) pe_str (nomark _))
      (pss_one (ps_ret (pe_and (pe_cmpR op_eq (pe_callB call_len_seq (by rfl) T.n_len PySem.boot_len (pa_cons (pv 0) pa_nil)) pe_int (nomark _)) (pe_one (pe_call G_is_name_within (hr.mono (by omega)) (by rfl) T.d_is_name_within.g T.d_is_name_within.F.kp T.d_is_name_within.b .nil pass0 (pa_cons (pe_ix ix_tup (pv 0) pe_int (fun _ _ => rfl)) (pa_cons (pv 2) pa_nil)))))))
      pss_nil)
    (pss_cons (ps_if (pt_cmpR op_eq (pv 3) pe_str (nomark _))
      (pss_one (ps_ret (pe_and (pe_cmpR op_eq (pe_callB call_len_seq (by rfl) T.n_len PySem.boot_len (pa_cons (pv 0) pa_nil)) pe_int (nomark _)) (pe_and (pe_call G_is_name (hr.mono (by omega)) (by rfl) T.d_is_name.g T.d_is_name.F.kp T.d_is_name.b .nil pass0 (pa_cons (pe_ix ix_tup (pv 0) pe_int (fun _ _ => rfl)) pa_nil)) (pe_one (pe_call G_is_allowed (hr.mono (by omega)) (by rfl) T.d_is_allowed.g T.d_is_allowed.F.kp T.d_is_allowed.b .nil pass0 (pa_cons (pe_op op_add_str pe_str (pe_ix ix_tup (pv 0) pe_int (fun _ _ => rfl))) (pa_cons (pv 2) pa_nil))))))))
      pss_nil)
    (pss_cons (ps_if (pt_cmpR op_eq (pv 3) pe_str (nomark _))
      (pss_one (ps_ret (pe_call G_has_row (hr.mono (by omega)) (by rfl) T.d_has_row.g T.d_has_row.F.kp T.d_has_row.b .nil pass0 (pa_cons (pv 0) (pa_cons (pe_glob (v := .int 3) rfl T.gl_MOST_OPERANDS ⟨_, rfl⟩) pa_nil)))))
      pss_nil)
    (pss_cons (ps_if (pt_cmpR op_eq (pv 3) pe_str (nomark _))
      (pss_one (ps_ret (pe_call G_has_row (hr.mono (by omega)) (by rfl) T.d_has_row.g T.d_has_row.F.kp T.d_has_row.b .nil pass0 (pa_cons (pv 0) (pa_cons (pe_glob (v := .int 5) rfl T.gl_MOST_ARGUMENTS ⟨_, rfl⟩) pa_nil)))))
      pss_nil)
    (pss_cons (ps_if (pt_cmpR op_eq (pv 3) pe_str (nomark _))
      (pss_one (ps_ret (pe_and (pe_cmpR op_eq (pe_callB call_len_seq (by rfl) T.n_len PySem.boot_len (pa_cons (pv 0) pa_nil)) pe_int (nomark _)) (pe_one (pe_call G_is_name (hr.mono (by omega)) (by rfl) T.d_is_name.g T.d_is_name.F.kp T.d_is_name.b .nil pass0 (pa_cons (pe_ix ix_tup (pv 0) pe_int (fun _ _ => rfl)) pa_nil))))))
      pss_nil)
    (pss_one (ps_ret (pe_and (pe_cmpR op_eq (pe_callB call_len_seq (by rfl) T.n_len PySem.boot_len (pa_cons (pv 0) pa_nil)) pe_int (nomark _)) (pe_one (pe_call G_is_name_within (hr.mono (by omega)) (by rfl) T.d_is_name_within.g T.d_is_name_within.F.kp T.d_is_name_within.b .nil pass0 (pa_cons (pe_ix ix_tup (pv 0) pe_int (fun _ _ => rfl)) (pa_cons (pv 2) pa_nil)))))))))))))), ?_⟩
    refine ⟨_, rfl, _, _, _, _, isTup (d), rfl, .ty "tuple", .inl dq.ty, kit_ty (kit_tup _), _, rfl, ?_⟩
    cases d with
    | tuple ds =>
      refine iteF ?_
      have hd := dq
      cases hd with
      | @tup a xs _ h1 h2 =>
        refine ⟨_, rfl, a, xs, rfl, .inr (SqT.of h1), _, _, rfl, rfl, _, rfl, ?_⟩
        have hl := h2.len
        match ds, xs, h2, hl with
        | [], [], _, _ => exact iteT (iteT (q _ (fun _ _ z => z)))
        | [d0], [_], _, _ => exact iteT (iteT (by have q := q _ (fun _ _ z => z); rw [part_one] at q; exact q))
        | d0 :: d1 :: r, v0 :: v1 :: vr, .cons g0 (.cons g1 g), hl =>
          have hl2 : vr.length = r.length := g.len
          have f1 : fine d1 = true := fine_tup fd_ d1 (List.mem_cons_of_mem _ List.mem_cons_self)
          have f0 : fine d0 = true := fine_tup fd_ d0 List.mem_cons_self
          have n2 : ¬ (((v0 :: v1 :: vr).length : Nat) : Int) < 2 := by
            simp only [List.length_cons]
            omega
          rw [decide_eq_false n2]
          refine iteF ?_
          refine ⟨_, rfl, a, _, _, v0, rfl, rfl, SqT.of h1, at0, _, rfl, d0, pk, ks, rfl, sk, g0, _, rfl, ?_⟩
          cases d0 with
          | str kd =>
            cases g0
            have q : ∀ H', Same H H' → Q (.bl (ks.contains kd && bodyD ps kd d1 r)) H' := q
            show if (!ks.contains kd) = true then _ else _
            cases ec : ks.contains kd with
            | false =>
              rw [ec] at q
              exact iteT (q _ (fun _ _ z => z))
            | true =>
              rw [ec] at q
              refine iteF ?_
              have q : ∀ H', Same H H' → Q (.bl (bodyD ps kd d1 r)) H' := q
              have hlen : ∀ m : Nat, decide (V.int (((V.str kd :: v1 :: vr).length : Nat) : Int) = V.int (m + 2 : Nat)) = decide (r.length = m) := fun m => by
                rw [dec_len]
                simp only [List.length_cons, hl2]
                rw [Bool.eq_iff_iff, decide_eq_true_eq, decide_eq_true_eq]
                omega
              refine ⟨_, rfl, a, _, _, .str kd, rfl, rfl, SqT.of h1, at0, ?_⟩
              refine ⟨_, rfl, rfl, _, rfl, ?_⟩
              rw [dec_str]
              by_cases e1 : kd = "name"
              · rw [decide_eq_true e1]
                refine iteT ⟨_, rfl, a, _, rfl, .inr (SqT.of h1), rfl, _, rfl, ?_⟩
                unfold bodyD at q
                rw [if_pos e1] at q
                have e := hlen 0
                rw [show (((0 + 2 : Nat) : Nat) : Int) = 2 from rfl] at e
                rw [e]
                cases ez : decide (r.length = 0) with
                | false =>
                  rw [ez] at q
                  exact iteF (q _ (fun _ _ z => z))
                | true =>
                  rw [ez] at q
                  exact iteT ⟨_, rfl, a, _, _, v1, rfl, rfl, SqT.of h1, at1, _, rfl, b, v1, d1, y, ps, rfl, g1, small_of f1, pv_, q⟩
              rw [decide_eq_false e1]
              refine iteF ?_
              refine ⟨_, rfl, rfl, _, rfl, ?_⟩
              rw [dec_str]
              by_cases e2 : kd = "hole"
              · rw [decide_eq_true e2]
                refine iteT ⟨_, rfl, a, _, rfl, .inr (SqT.of h1), rfl, _, rfl, ?_⟩
                unfold bodyD at q
                rw [if_neg e1, if_pos e2] at q
                have e := hlen 0
                rw [show (((0 + 2 : Nat) : Nat) : Int) = 2 from rfl] at e
                rw [e]
                cases ez : decide (r.length = 0) with
                | false =>
                  rw [ez] at q
                  exact iteF (q _ (fun _ _ z => z))
                | true =>
                  rw [ez] at q
                  refine iteT ⟨_, rfl, a, _, _, v1, rfl, rfl, SqT.of h1, at1, b, v1, d1, rfl, g1, small_of f1, _, rfl, ?_⟩
                  cases en : nameD d1 with
                  | false =>
                    rw [en] at q
                    exact iteF (q _ (fun _ _ z => z))
                  | true =>
                    rw [en] at q
                    cases d1 with
                    | str z =>
                      cases g1
                      have hz := (fine_str f1).1
                      have ha := app_len "?" z
                      have h1q : ("?" : Str).length = 1 := by decide +kernel
                      exact iteT ⟨_, rfl, a, _, _, .str z, rfl, rfl, SqT.of h1, at1, _, _, rfl, rfl, sz100 (by omega), _, rfl, _, y, ps, rfl, pv_, q _ (fun _ _ z => z)⟩
                    | _ => cases en
              rw [decide_eq_false e2]
              refine iteF ?_
              refine ⟨_, rfl, rfl, _, rfl, ?_⟩
              rw [dec_str]
              by_cases e3 : kd = "op"
              · rw [decide_eq_true e3]
                unfold bodyD at q
                rw [if_neg e1, if_neg e2, if_pos e3] at q
                exact iteT ⟨_, rfl, b, a, 3, _, d1, r, rfl, dq, small_of f1, q _ (fun _ _ z => z)⟩
              rw [decide_eq_false e3]
              refine iteF ?_
              refine ⟨_, rfl, rfl, _, rfl, ?_⟩
              rw [dec_str]
              by_cases e4 : kd = "call"
              · rw [decide_eq_true e4]
                unfold bodyD at q
                rw [if_neg e1, if_neg e2, if_neg e3, if_pos e4] at q
                exact iteT ⟨_, rfl, b, a, 5, _, d1, r, rfl, dq, small_of f1, q _ (fun _ _ z => z)⟩
              rw [decide_eq_false e4]
              refine iteF ?_
              refine ⟨_, rfl, rfl, _, rfl, ?_⟩
              rw [dec_str]
              have e := hlen 2
              rw [show (((2 + 2 : Nat) : Nat) : Int) = 4 from rfl] at e
              by_cases e5 : kd = "want"
              · rw [decide_eq_true e5]
                refine iteT ⟨_, rfl, a, _, rfl, .inr (SqT.of h1), rfl, _, rfl, ?_⟩
                unfold bodyD at q
                rw [if_neg e1, if_neg e2, if_neg e3, if_neg e4, if_pos e5] at q
                rw [e]
                cases ez : decide (r.length = 2) with
                | false =>
                  rw [ez] at q
                  exact iteF (q _ (fun _ _ z => z))
                | true =>
                  rw [ez] at q
                  exact iteT ⟨_, rfl, a, _, _, v1, rfl, rfl, SqT.of h1, at1, b, v1, d1, rfl, g1, small_of f1, q _ (fun _ _ z => z)⟩
              rw [decide_eq_false e5]
              refine iteF ⟨_, rfl, a, _, rfl, .inr (SqT.of h1), rfl, _, rfl, ?_⟩
              unfold bodyD at q
              rw [if_neg e1, if_neg e2, if_neg e3, if_neg e4, if_neg e5] at q
              rw [e]
              cases ez : decide (r.length = 2) with
              | false =>
                rw [ez] at q
                exact iteF (q _ (fun _ _ z => z))
              | true =>
                rw [ez] at q
                exact iteT ⟨_, rfl, a, _, _, v1, rfl, rfl, SqT.of h1, at1, _, rfl, b, v1, d1, y, ps, rfl, g1, small_of f1, pv_, q⟩
          | _ => exact iteT (q _ (fun _ _ z => z))
    | _ => exact iteT (iteT (q _ (fun _ _ z => z)))
end
end K11
set_option Elab.async false
set_option linter.all false
set_option maxRecDepth 100000
namespace K11
open PySem PySem.Spec PyProof.Rows L2 CaV CaL CaN CaD
theorem row_one {m : Nat} {d1 : PyData} {r : List PyData} (h : rowD m d1 r = true) : ∃ zs, r = [.tuple zs] := by
  unfold rowD at h
  simp only [Bool.and_eq_true, decide_eq_true_eq] at h
  obtain ⟨h1, _, h3⟩ := h
  match r, h1, h3 with
  | [.tuple zs], _, _ => exact ⟨zs, rfl⟩
theorem body_row {ps : Option (List Str)} {kd : Str} {d1 : PyData} {r : List PyData} (h : bodyD ps kd d1 r = true) (hk : kd = "op" ∨ kd = "call") : ∃ zs, r = [.tuple zs] := by
  unfold bodyD at h
  rcases hk with rfl | rfl
  · rw [if_neg (by decide +kernel), if_neg (by decide +kernel), if_pos rfl] at h
    exact row_one h
  · rw [if_neg (by decide +kernel), if_neg (by decide +kernel), if_neg (by decide +kernel), if_pos rfl] at h
    exact row_one h
theorem part_shape {ks : List Str} {ps : Option (List Str)} {d : PyData} (h : isPart ks ps d = true) : ∃ kd d1 r, d = .tuple (.str kd :: d1 :: r) ∧ bodyD ps kd d1 r = true := by
  unfold isPart at h
  split at h
  · rename_i kd d1 r
    simp only [Bool.and_eq_true] at h
    exact ⟨kd, d1, r, rfl, h.2⟩
  · cases h
theorem inner_eq (kd : Str) (d1 : PyData) (r : List PyData) : inner (.tuple (.str kd :: d1 :: r)) = if kd = "op" ∨ kd = "call" then rowOf r else if kd = "let" ∨ kd = "each" ∨ kd = "want" then r else [] := rfl
def spInner : Sp := fun vs H Q _ => ∃ (b : Addr) (v : V) (d : PyData) (ks : List Str) (ps : Option (List Str)) (H0 : Hp), vs = [v] ∧ Same H0 H ∧ Dq b H0 v d ∧ isPart ks ps d = true ∧ ∀ (p : Addr) (ws : List V) (H' : Hp), Same H H' → H' p = some (.tup ws) → DqAll b H0 ws (inner d) → Q (.ref p) H'
theorem cut2 (v0 v1 : V) (vr : List V) : cutV (v0 :: v1 :: vr) (some 2) none = vr := by
  show ((v0 :: v1 :: vr).drop (min (2 : Int).toNat (v0 :: v1 :: vr).length)).take ((v0 :: v1 :: vr).length - min (2 : Int).toNat (v0 :: v1 :: vr).length) = vr
  have e : min (2 : Int).toNat (v0 :: v1 :: vr).length = 2 := by
    simp only [List.length_cons]
    have : (2 : Int).toNat = 2 := rfl
    omega
  rw [e]
  show vr.take ((v0 :: v1 :: vr).length - 2) = vr
  refine List.take_of_length_le ?_
  simp only [List.length_cons]
  omega
section
variable {P : Program} {w : World} {K : PySem.W.Frag} {mg : Str → Option Value} {base : Heap}
theorem ok_parts_within {k : Nat} (T : TP K mg) : FnOk P w K mg base CX0 (k + 1) T.d_parts_within.f T.d_parts_within.fd ["part"] spInner := by
  refine T.d_parts_within.F.ok sc_parts_within (fun vs H Q E h => ?_) (fun cdv A outer s H vs Q E hr h => ?_)
  · obtain ⟨b, v, d, ks, ps, H0, rfl, _⟩ := h
    rfl
  · obtain ⟨b, v, d, ks, ps, H0, rfl, s0, dq, hp, q⟩ := h
    refine ⟨_, (pss_cons (ps_if (pt_cmpR op_in_seq (pe_ix ix_tup (pv 0) pe_int (fun _ _ => rfl)) (pe_tup (pa_cons pe_str (pa_cons pe_str pa_nil))) (by with_unfolding_all rfl))
      (pss_one (ps_ret (pe_ix ix_tup (pv 0) pe_int (fun _ _ => rfl))))
      pss_nil)
    (pss_cons (ps_if (pt_cmpR op_in_seq (pe_ix ix_tup (pv 0) pe_int (fun _ _ => rfl)) (pe_glob (v := .ref T.aNK) rfl T.gl_BINDER_KINDS rfl) (by with_unfolding_all rfl))
      (pss_one (ps_ret (pe_slice sl_tupA (pv 0) (po_some pe_int) po_none)))
      pss_nil)
    (pss_one (ps_ret (pe_tup pa_nil))))), ?_⟩
    obtain ⟨kd, d1, r, rfl, hb⟩ := part_shape hp
    cases dq with
    | @tup a _ _ h01 h2 =>
      have h1 := s0 _ _ h01
      match h2 with
      | @DqAll.cons _ _ v0 _ _ _ g0 (@DqAll.cons _ _ v1 vr _ _ g1 g) =>
        cases g0
        refine ⟨_, rfl, a, _, _, .str kd, rfl, rfl, SqT.of h1, at0, (by show 2 ≤ sizeLine; decide), fun p np => ?_⟩
        have s1 := same_new (o := .tup [.str "op", .str "call"]) np
        refine ⟨p, _, rfl, .inr (SqT.of upd_same), rfl, rfl, _, rfl, ?_⟩
        show if inV (.str kd) ((["op", "call"] : List Str).map V.str) = true then _ else _
        rw [inV_str]
        have ha := s1 _ _ h1
        have hg := g
        have s01 := s0.trans s1
        generalize upd H p (.tup [.str "op", .str "call"]) = H1 at s1 ha s01
        by_cases hk : kd = "op" ∨ kd = "call"
        · rw [show (["op", "call"] : List Str).contains kd = true from List.contains_iff_mem.mpr (by rcases hk with rfl | rfl <;> simp)]
          obtain ⟨zs, rfl⟩ := body_row hb hk
          match hg with
          | @DqAll.cons _ _ _ _ _ _ (@Dq.tup _ _ p2 ws _ k1 k2) .nil =>
            refine iteT ⟨_, rfl, a, _, _, .ref p2, rfl, rfl, SqT.of ha, at2, ?_⟩
            refine q p2 ws _ s1 (s01 _ _ k1) ?_
            rw [inner_eq]
            rw [if_pos hk]
            exact k2
        · rw [show (["op", "call"] : List Str).contains kd = false by
            cases e : (["op", "call"] : List Str).contains kd with
            | false => rfl
            | true =>
              have := List.contains_iff_mem.mp e
              simp only [List.mem_cons, List.not_mem_nil, or_false] at this
              exact absurd this hk]
          refine iteF ?_
          refine ⟨_, rfl, a, _, _, .str kd, rfl, rfl, SqT.of ha, at0, T.aNK, _, rfl, .inr (T.sNK _), rfl, flat_strs _, _, rfl, ?_⟩
          show if inV (.str kd) (bindK.map V.str) = true then _ else _
          rw [inV_str]
          by_cases hn : kd = "let" ∨ kd = "each" ∨ kd = "want"
          · rw [show bindK.contains kd = true from List.contains_iff_mem.mpr (by rcases hn with rfl | rfl | rfl <;> simp [bindK])]
            refine iteT ⟨_, rfl, _, rfl, a, _, rfl, SqT.of ha, fun z => ?_, fun _ p3 np3 => ?_⟩
            · have z := z.1
              have e : HT.sIx (V.str kd :: v1 :: vr).length 0 (some 2) = 2 := by
                show min (2 : Int).toNat (V.str kd :: v1 :: vr).length = 2
                simp only [List.length_cons]
                have : (2 : Int).toNat = 2 := rfl
                omega
              rw [e] at z
              cases z
            · rw [cut2]
              have s3 := same_new (o := .tup vr) np3
              refine q p3 vr _ (s1.trans s3) upd_same ?_
              rw [inner_eq]
              rw [if_neg hk, if_pos hn]
              exact hg
          · rw [show bindK.contains kd = false by
              cases e : bindK.contains kd with
              | false => rfl
              | true =>
                have := List.contains_iff_mem.mp e
                simp only [bindK, List.mem_cons, List.not_mem_nil, or_false] at this
                exact absurd this hn]
            refine iteF ⟨Nat.zero_le _, fun p3 np3 => ?_⟩
            have s3 := same_new (o := .tup []) np3
            refine q p3 [] _ (s1.trans s3) upd_same ?_
            rw [inner_eq]
            rw [if_neg hk, if_neg hn]
            exact .nil
end
end K11
set_option Elab.async false
set_option linter.all false
set_option maxRecDepth 100000
namespace K11
open PySem PySem.Spec PyProof.Rows L2 CaV CaL CaN CaD
/-- pairs of a part and its level, the parts as they are in H0 -/
inductive LvAll (b : Addr) (H0 H : Hp) : List V → List (PyData × Nat) → Prop
  | nil : LvAll b H0 H [] []
  | cons {t : Addr} {v : V} {d : PyData} {l : Nat} {vs : List V} {ds : List (PyData × Nat)} : H t = some (.tup [v, .int (l : Int)]) → Dq b H0 v d → LvAll b H0 H vs ds → LvAll b H0 H (.ref t :: vs) ((d, l) :: ds)
/-- tuples stay -/
def Tp (H H' : Hp) : Prop := ∀ t xs, H t = some (.tup xs) → H' t = some (.tup xs)
theorem Tp.lst {H : Hp} {p : Addr} {zs : List V} {o : HO} (h : H p = some (.lst zs)) : Tp H (upd H p o) := fun t xs e => by
  rw [upd_ne (ne_of e h (fun z => nomatch z))]
  exact e
theorem Tp.new {H : Hp} {p : Addr} {o : HO} (h : H p = none) : Tp H (upd H p o) := fun t xs e => by
  rw [upd_ne (ne_of_none e h)]
  exact e
theorem Tp.same {H H' : Hp} (s : Same H H') : Tp H H' := fun t xs e => s _ _ e
theorem Tp.trans {H H1 H2 : Hp} (x : Tp H H1) (y : Tp H1 H2) : Tp H H2 := fun t xs e => y _ _ (x _ _ e)
section
variable {b : Addr} {H0 H H' : Hp}
theorem LvAll.tp (k : Tp H H') : ∀ {vs : List V} {ds : List (PyData × Nat)}, LvAll b H0 H vs ds → LvAll b H0 H' vs ds
  | _, _, .nil => .nil
  | _, _, .cons h1 h2 h3 => .cons (k _ _ h1) h2 (LvAll.tp k h3)
theorem LvAll.len : ∀ {vs : List V} {ds : List (PyData × Nat)}, LvAll b H0 H vs ds → vs.length = ds.length
  | _, _, .nil => rfl
  | _, _, .cons _ _ h3 => by rw [List.length_cons, List.length_cons, h3.len]
theorem LvAll.append : ∀ {vs ws : List V} {ds es : List (PyData × Nat)}, LvAll b H0 H vs ds → LvAll b H0 H ws es → LvAll b H0 H (vs ++ ws) (ds ++ es)
  | _, _, _, _, .nil, h => h
  | _, _, _, _, .cons h1 h2 h3, h => .cons h1 h2 (h3.append h)
theorem LvAll.last {d : PyData} {l : Nat} : ∀ {vs : List V} {ds : List (PyData × Nat)}, LvAll b H0 H vs (ds ++ [(d, l)]) → ∃ vs' t v, vs = vs' ++ [.ref t] ∧ H t = some (.tup [v, .int (l : Int)]) ∧ Dq b H0 v d ∧ LvAll b H0 H vs' ds
  | _, [], h => by
    cases h with
    | cons h1 h2 h3 =>
      cases h3
      exact ⟨[], _, _, rfl, h1, h2, .nil⟩
  | _, e :: ds, h => by
    cases h with
    | cons h1 h2 h3 =>
      obtain ⟨vs', t, v, rfl, k1, k2, k3⟩ := LvAll.last h3
      exact ⟨_ :: vs', t, v, rfl, k1, k2, .cons h1 h2 k3⟩
end
def spLev (K : PySem.W.Frag) : Sp := fun vs H Q _ => ∃ (b : Addr) (x : V) (d : PyData) (pk : Addr) (ks : List Str) (y : V) (ps : Option (List Str)), vs = [x, .ref pk, y] ∧ Dq b H x d ∧ fine d = true ∧ wt d ≤ 1000 ∧ SqT K H pk (ks.map V.str) ∧ PV K H y ps ∧
  (run (isPart ks ps) 400 [(d, 1)] = none → ∀ H', Same H H' → Q .non H') ∧
  ∀ ys, run (isPart ks ps) 400 [(d, 1)] = some ys → ∀ p F H', Same H H' → H p = none → H' p = some (.lst F) → LvAll b H H' F ys → Q (.ref p) H'
theorem inner_fine {d c : PyData} (h : fine d = true) (hc : c ∈ inner d) : fine c = true := by
  unfold inner at hc
  split at hc
  · rename_i kd d1 r
    have f := fine_tup h
    split at hc
    · unfold rowOf at hc
      split at hc
      · rename_i zs r2
        exact fine_tup (f (.tuple zs) (List.mem_cons_of_mem _ (List.mem_cons_of_mem _ List.mem_cons_self))) c hc
      · cases hc
    · split at hc
      · exact f c (List.mem_cons_of_mem _ (List.mem_cons_of_mem _ hc))
      · cases hc
  · cases hc
theorem wsum_app (xs ys : List (PyData × Nat)) : wsum (xs ++ ys) = wsum xs + wsum ys := by
  unfold wsum
  rw [List.map_append, wtAll_append]
theorem wsum_inner (d : PyData) (l : Nat) : wsum ((inner d).map fun c => (c, l)) = wtAll (inner d) := by
  unfold wsum
  rw [List.map_map, show ((fun x : PyData × Nat => x.1) ∘ fun c => (c, l)) = id from rfl, List.map_id]
theorem wsum_len (xs : List (PyData × Nat)) : xs.length ≤ wsum xs := by
  have := wtAll_len (xs.map (·.1))
  rw [List.length_map] at this
  exact this
theorem run_step (Pp : PyData → Bool) (n : Nat) (d : PyData) (l : Nat) (S : List (PyData × Nat)) (h1 : ¬ l > 60) (h2 : Pp d = true) : run Pp (n + 1) ((d, l) :: S) = (run Pp n ((inner d).map (fun c => (c, l + 1)) ++ S)).map fun ys => (d, l) :: ys := by
  show (if l > 60 then none else if Pp d = true then _ else none) = _
  rw [if_neg h1, if_pos h2]
theorem run_no (Pp : PyData → Bool) (n : Nat) (d : PyData) (l : Nat) (S : List (PyData × Nat)) (h : n = 0 ∨ l > 60 ∨ Pp d = false) : run Pp n ((d, l) :: S) = none := by
  cases n with
  | zero => rfl
  | succ n =>
    show (if l > 60 then none else if Pp d = true then _ else none) = none
    rcases h with h | h | h
    · cases h
    · rw [if_pos h]
    · rw [h]
      split <;> rfl
theorem drop_last {xs : List V} {v : V} : (xs ++ [v]).dropLast = xs ∧ (xs ++ [v])[(xs ++ [v]).length - 1]? = some v := by
  refine ⟨by simp, ?_⟩
  rw [List.length_append, List.length_singleton, Nat.add_sub_cancel]
  simp
section
variable {P : Program} {w : World} {K : PySem.W.Frag} {mg : Str → Option Value} {base : Heap}
set_option maxHeartbeats 1000000 in
theorem ok_levelled_parts {k : Nat} (T : TP K mg) : FnOk P w K mg base CX0 (k + 5) T.d_levelled_parts.f T.d_levelled_parts.fd ["value", "kinds", "parameters"] (spLev K) := by
  have G_is_part : FnOk P w K mg base CX0 4 T.d_is_part.f T.d_is_part.fd ["value", "kinds", "parameters"] (spPart K) := ok_is_part T
  have G_parts_within : FnOk P w K mg base CX0 1 T.d_parts_within.f T.d_parts_within.fd ["part"] spInner := ok_parts_within T
  refine T.d_levelled_parts.F.ok sc_levelled_parts (fun vs H Q E h => ?_) (fun cdv A outer s H vs Q E hr h => ?_)
  · obtain ⟨b, x, d, pk, ks, y, ps, rfl, _⟩ := h
    rfl
  · obtain ⟨b, x, d, pk, ks, y, ps, rfl, dq, fd_, hw, sk, pv_, qn, qs⟩ := h
    refine ⟨_, (pss_cons (ps_set (i := 3) sc_levelled_parts.nd rfl (.inl rfl) (pe_lst pa_nil))
    (pss_cons (ps_set (i := 4) sc_levelled_parts.nd rfl (.inl rfl) (pe_lst (pa_cons (pe_tup (pa_cons (pv 0) (pa_cons pe_int pa_nil))) pa_nil)))
    (pss_cons (ps_while PassesOwn.never (pt_truth (pv 4) (by intro _; rfl))
      (pss_cons (ps_asg (pe_bm0 PySem.F.plainAttrs_list PySem.F.slot_list_pop PySem.F.type_list_pop mt_pop (pv 4)) (pg_tup rfl (pgs_cons (pg_name (i := 5) sc_levelled_parts.nd rfl (.inl rfl)) (pgs_cons (pg_name (i := 6) sc_levelled_parts.nd rfl (.inr rfl)) pgs_nil))))
      (pss_cons (ps_if (PW.pt (pw_or (pt_cmpR op_eq (pe_callB call_len_seq (by rfl) T.n_len PySem.boot_len (pa_cons (pv 3) pa_nil)) (pe_glob (v := .int 400) rfl T.gl_MOST_PARTS ⟨_, rfl⟩) (nomark _)) (pw_or (pt_cmpR op_gt (pv 6) (pe_glob (v := .int 60) rfl T.gl_GREATEST_DEPTH ⟨_, rfl⟩) (nomark _)) (pw_or1 (pt_not (pt_val (pe_call G_is_part (hr.mono (by omega)) (by rfl) T.d_is_part.g T.d_is_part.F.kp T.d_is_part.b .nil pass0 (pa_cons (pv 5) (pa_cons (pv 1) (pa_cons (pv 2) pa_nil))))))))))
        (pss_one (ps_ret pe_non))
        pss_nil)
      (pss_cons (ps_expr (pe_bm PySem.F.plainAttrs_list PySem.F.slot_list_append PySem.F.type_list_append mt_append (pv 3) (pa_cons (pe_tup (pa_cons (pv 5) (pa_cons (pv 6) pa_nil))) pa_nil)))
      (pss_one (ps_expr (pe_bm PySem.F.plainAttrs_list PySem.F.slot_list_extend PySem.F.type_list_extend mt_extend (pv 4) (pa_cons (pe_lc (own := [("inner", 7)]) (g := gName 7) (tt := tYes) (by rfl) sc_levelled_parts.nd (pi_tup (pe_revT (pe_call G_parts_within (hr.mono (by omega)) (by rfl) T.d_parts_within.g T.d_parts_within.F.kp T.d_parts_within.b .nil pass0 (pa_cons (pv 5) pa_nil)))) (blkOk_by (own := [("inner", 7)]) (N := N_levelled_parts) (sc := defScope s_levelled_parts) (by decide +kernel)) (fun _ _ _ _ _ => pg_name (i := 7) sc_levelled_parts.nd rfl (Or.inl rfl)) (fun _ _ _ _ _ => pts_nil) (fun _ _ _ _ _ => (pe_tup (pa_cons (pv 7) (pa_cons (pe_op op_add (pv 6) pe_int) pa_nil))))) pa_nil))))))))
    (pss_one (ps_ret (pv 3)))))), ?_⟩
    refine ⟨Nat.zero_le _, fun pf nf => ?_⟩
    refine ⟨_, rfl, (by show 2 ≤ sizeLine; decide), fun q0 nq => ?_⟩
    refine ⟨(by show 1 ≤ sizeLine; decide), fun pw nw => ?_⟩
    have sf := same_new (o := .lst []) nf
    have sq := same_new (o := .tup [x, .int 1]) nq
    have sw := same_new (o := .lst [.ref q0]) nw
    have nfw : pf ≠ pw := ne_of_none (sq _ _ upd_same) nw
    have nwH : H pw = none := by
      cases e : H pw with
      | none => rfl
      | some o =>
        rw [sq _ _ (sf _ _ e)] at nw
        cases nw
    refine ⟨fun m σ H5 => ∃ t5 t6 F ys Sv S, σ = [some x, some (.ref pk), some y, some (.ref pf), some (.ref pw), t5, t6, none] ∧ H5 pf = some (.lst F) ∧ H5 pw = some (.lst Sv) ∧ LvAll b H H5 F ys ∧ LvAll b H H5 Sv S.reverse ∧ Same H H5 ∧ ys.length ≤ 400 ∧ (∀ c ∈ S, fine c.1 = true) ∧ wsum S + ys.length ≤ wt d ∧ m = wsum S ∧ run (isPart ks ps) 400 [(d, 1)] = (run (isPart ks ps) (400 - ys.length) S).map (fun zs => ys ++ zs), ⟨wt d, ?_⟩, ?_⟩
    · refine ⟨none, none, [], [], [.ref q0], [(d, 1)], rfl, ?_, upd_same, .nil, .cons ?_ dq .nil, (sf.trans sq).trans sw, by decide, fun c hc => ?_, ?_, ?_, ?_⟩
      · exact sw _ _ (sq _ _ upd_same)
      · exact sw _ _ upd_same
      · rw [List.mem_singleton.mp hc]
        exact fd_
      · simp [wsum, wtAll]
      · simp [wsum, wtAll]
      · show _ = (run (isPart ks ps) 400 [(d, 1)]).map (fun zs => [] ++ zs)
        simp
    · rintro m σ H5 ⟨t5, t6, F, ys, Sv, S, rfl, hpf, hpw, hF, hS, s5, h400, hfine, hsum, rfl, hrun⟩
      cases S with
      | nil =>
        have hS : LvAll b H H5 Sv [] := hS
        cases hS
        refine ⟨_, rfl, false, .inl ⟨[], SqL.of hpw, rfl⟩, iteF ?_⟩
        have hrun : run (isPart ks ps) 400 [(d, 1)] = some ys := by
          rw [hrun]
          unfold CaN.run
          simp
        exact ⟨_, rfl, qs ys hrun pf F H5 s5 nf hpf hF⟩
      | cons e S =>
        obtain ⟨c, l⟩ := e
        rw [List.reverse_cons] at hS
        obtain ⟨Sv', t, v, rfl, ht, hc, hS'⟩ := hS.last
        have fc : fine c = true := hfine (c, l) List.mem_cons_self
        have hFl := hF.len
        refine ⟨_, rfl, true, .inl ⟨_, SqL.of hpw, by simp⟩, iteT ?_⟩
        refine ⟨fun σ' H' => ∃ m', m' < wsum ((c, l) :: S) ∧ ∃ t5 t6 F ys Sv S, σ' = [some x, some (.ref pk), some y, some (.ref pf), some (.ref pw), t5, t6, none] ∧ H' pf = some (.lst F) ∧ H' pw = some (.lst Sv) ∧ LvAll b H H' F ys ∧ LvAll b H H' Sv S.reverse ∧ Same H H' ∧ ys.length ≤ 400 ∧ (∀ c ∈ S, fine c.1 = true) ∧ wsum S + ys.length ≤ wt d ∧ m' = wsum S ∧ run (isPart ks ps) 400 [(d, 1)] = (run (isPart ks ps) (400 - ys.length) S).map (fun zs => ys ++ zs), fun σ' H' z => z, ?_⟩
        -- part, level = waiting.pop()
        refine ⟨_, rfl, .inl ⟨rfl, _, SqL.of hpw⟩, pw, _, .ref t, rfl, rfl, hpw, drop_last.2, ?_⟩
        rw [drop_last.1]
        have k6 : Tp H5 (upd H5 pw (.lst Sv')) := Tp.lst hpw
        have ht6 := k6 _ _ ht
        have s6 : Same H (upd H5 pw (.lst Sv')) := fun a o z => by
          rw [upd_ne (ne_of_none z nwH)]
          exact s5 a o z
        have hpf6 : (upd H5 pw (.lst Sv')) pf = some (.lst F) := by
          rw [upd_ne nfw]
          exact hpf
        have hpw6 : (upd H5 pw (.lst Sv')) pw = some (.lst Sv') := upd_same
        have hF6 := hF.tp k6
        have hS6 := hS'.tp k6
        generalize upd H5 pw (.lst Sv') = H6 at k6 ht6 s6 hpf6 hpw6 hF6 hS6 ⊢
        refine ⟨t, _, rfl, SqT.of ht6, rfl, _, _, rfl, _, _, rfl, rfl, ?_⟩
        -- what ends it
        have no : (400 - ys.length = 0 ∨ l > 60 ∨ isPart ks ps c = false) → ∀ H', Same H H' → Q .non H' := fun z => qn (by
          rw [hrun, run_no _ _ _ _ _ z]
          rfl)
        refine ⟨_, rfl, pf, _, rfl, .inl (SqL.of hpf6), rfl, _, rfl, ?_⟩
        show if decide (V.int (F.length : Int) = V.int 400) = true then _ else _
        rw [show (400 : Int) = ((400 : Nat) : Int) from rfl, dec_len]
        by_cases e400 : F.length = 400
        · rw [decide_eq_true e400]
          exact iteT (iteT (no (.inl (by omega)) _ s6))
        rw [decide_eq_false e400]
        refine iteF ⟨_, rfl, _, _, rfl, rfl, _, rfl, ?_⟩
        by_cases e60 : l > 60
        · rw [show decide ((60 : Int) < (l : Int)) = true from decide_eq_true (by omega)]
          exact iteT (iteT (no (.inr (.inl e60)) _ s6))
        rw [show decide ((60 : Int) < (l : Int)) = false from decide_eq_false (by omega)]
        refine iteF ⟨_, rfl, _, rfl, _, rfl, b, v, c, pk, ks, y, ps, rfl, Dq.same s6 _ _ hc, fc, sqt_same s6 sk, pv_.same s6, fun H7 s67 => ⟨_, rfl, ?_⟩⟩
        have s7 := s6.trans s67
        cases ep : isPart ks ps c with
        | false => exact iteT (no (.inr (.inr ep)) _ s7)
        | true =>
          refine iteF ?_
          -- found.append((part, level))
          refine ⟨_, rfl, .inl ⟨rfl, _, SqL.of (s67 _ _ hpf6)⟩, _, rfl, _, rfl, (by show 2 ≤ sizeLine; decide), fun q1 nq1 => ?_⟩
          have s8 := same_new (o := .tup [v, .int (l : Int)]) nq1
          refine ⟨pf, _, _, rfl, rfl, s8 _ _ (s67 _ _ hpf6), ?_, ?_⟩
          · have : ys.length ≤ 400 := h400
            exact Nat.lt_of_le_of_lt (show F.length ≤ 400 by omega) (by decide)
          have hpf8 := s8 _ _ (s67 _ _ hpf6)
          have k9 : Tp H6 (upd (upd H7 q1 (.tup [v, .int (l : Int)])) pf (.lst (F ++ [.ref q1]))) := ((Tp.same s67).trans (Tp.same s8)).trans (Tp.lst hpf8)
          have s9 : Same H (upd (upd H7 q1 (.tup [v, .int (l : Int)])) pf (.lst (F ++ [.ref q1]))) := fun a o z => by
            rw [upd_ne (ne_of_none z nf)]
            exact s8 _ _ (s7 _ _ z)
          have hq9 : (upd (upd H7 q1 (.tup [v, .int (l : Int)])) pf (.lst (F ++ [.ref q1]))) q1 = some (.tup [v, .int (l : Int)]) := by
            rw [upd_ne (ne_of upd_same hpf8 (fun z => nomatch z))]
            exact upd_same
          have hpf9 : (upd (upd H7 q1 (.tup [v, .int (l : Int)])) pf (.lst (F ++ [.ref q1]))) pf = some (.lst (F ++ [.ref q1])) := upd_same
          have hpw9 : (upd (upd H7 q1 (.tup [v, .int (l : Int)])) pf (.lst (F ++ [.ref q1]))) pw = some (.lst Sv') := by
            rw [upd_ne nfw.symm]
            exact s8 _ _ (s67 _ _ hpw6)
          have hF9 := (hF6.tp k9).append (.cons hq9 hc .nil)
          have hS9 := hS6.tp k9
          generalize upd (upd H7 q1 (.tup [v, .int (l : Int)])) pf (.lst (F ++ [.ref q1])) = H9 at s9 hpf9 hpw9 hF9 hS9 ⊢
          -- waiting.extend(..)
          refine ⟨_, rfl, .inl ⟨rfl, _, SqL.of hpw9⟩, ?_⟩
          have hcq := Dq.same s9 _ _ hc
          refine ⟨_, rfl, b, v, c, ks, ps, H, rfl, s9, hc, ep, fun p2 ws H10 s10 hp2 hws => ?_⟩
          refine ⟨p2, ws, rfl, SqT.of hp2, fun p3 np3 => ?_⟩
          have s910 := s10.trans (same_new (o := .tup ws.reverse) np3)
          have hp3 : (upd H10 p3 (.tup ws.reverse)) p3 = some (.tup ws.reverse) := upd_same
          have hwl := hws.len
          generalize upd H10 p3 (.tup ws.reverse) = H11 at s910 hp3 ⊢
          refine ⟨p3, rfl, ⟨_, SqT.of hp3⟩, fun D nD => ?_⟩
          refine lc_tup (K := K) (a := p3) (xs := ws.reverse) (fun i H12 => ∃ acc, H12 D = some (.lst acc) ∧ LvAll b H H12 acc (((inner c).reverse.take i).map fun e => (e, l + 1)) ∧ Same H11 H12) ⟨[], upd_same, .nil, same_new nD⟩ (fun i H12 _ z => ?_) ?_ ?_
          · obtain ⟨acc, _, _, s12⟩ := z
            exact SqT.of (s12 _ _ hp3)
          · rintro i u H12 hu ⟨acc, hD, hacc, s12⟩
            refine ⟨rfl, yes_at ?_⟩
            refine ⟨_, rfl, _, rfl, _, _, rfl, rfl, (by show 2 ≤ sizeLine; decide), fun q2 nq2 => ?_⟩
            have k13 := Tp.new (o := .tup [u, .int ((l : Int) + 1)]) nq2
            have hD13 : (upd H12 q2 (.tup [u, .int ((l : Int) + 1)])) D = some (.lst acc) := by
              rw [upd_ne (ne_of_none hD nq2)]
              exact hD
            have al := hacc.len
            have hi : i < (inner c).reverse.length := by
              have := (List.getElem?_eq_some_iff.mp hu).1
              rw [List.length_reverse] at this ⊢
              omega
            have small : acc.length ≤ 1000 := by
              rw [al, List.length_map, List.length_take]
              have := (inner_sub c).1
              rw [List.length_reverse] at hi ⊢
              have h1 := wsum_app [(c, l)] S
              have h2 : wsum [(c, l)] = wt c := by simp [wsum, wtAll]
              have h3 : wsum ((c, l) :: S) = wsum [(c, l)] + wsum S := h1
              omega
            refine ⟨acc, hD13, Nat.lt_of_le_of_lt small (by decide), _, upd_same, ?_, fun a o z => ?_⟩
            · have k14 : Tp H12 (upd (upd H12 q2 (.tup [u, .int ((l : Int) + 1)])) D (.lst (acc ++ [.ref q2]))) := k13.trans (Tp.lst hD13)
              rw [List.take_add_one, List.map_append]
              have e : (inner c).reverse[i]? = some (inner c).reverse[i] := List.getElem?_eq_getElem hi
              rw [e]
              obtain ⟨u2, g1, g2⟩ := hws.reverse.get e
              rw [hu] at g1
              cases g1
              refine (hacc.tp k14).append (.cons ?_ g2 .nil)
              rw [upd_ne (ne_of upd_same hD13 (fun z => nomatch z))]
              exact upd_same
            · have hne : a ≠ D := ne_of_none z nD
              rw [upd_ne hne, upd_ne (ne_of_none (s12 _ _ z) nq2)]
              exact s12 _ _ z
          · rintro H12 ⟨acc, hD, hacc, s12⟩
            have s12' := s910.trans s12
            have hpw12 := s12' _ _ hpw9
            have al := hacc.len
            rw [List.length_reverse, hwl, show (inner c).length = (inner c).reverse.length from (List.length_reverse).symm, List.take_length] at hacc
            have al := hacc.len
            have sl := hS9.len
            have sub := inner_sub c
            have h1 := wsum_app [(c, l)] S
            have h2 : wsum [(c, l)] = wt c := by simp [wsum, wtAll]
            have h3 : wsum ((c, l) :: S) = wsum [(c, l)] + wsum S := h1
            have h4 := wsum_len S
            refine ⟨pw, D, Sv', acc, rfl, rfl, hpw12, hD, ?_, ?_⟩
            · rw [al, sl, List.length_map, List.length_reverse, List.length_reverse]
              exact Nat.le_trans (show S.length + (inner c).length ≤ 1000 by omega) (by decide)
            have k13 : Tp H9 (upd H12 pw (.lst (Sv' ++ acc))) := (Tp.same s12').trans (Tp.lst hpw12)
            have k12 : Tp H12 (upd H12 pw (.lst (Sv' ++ acc))) := Tp.lst hpw12
            refine ⟨_, ?_, some v, some (.int (l : Int)), F ++ [.ref q1], ys ++ [(c, l)], Sv' ++ acc, (inner c).map (fun e => (e, l + 1)) ++ S, rfl, ?_, upd_same, hF9.tp k13, ?_, fun a o z => ?_, ?_, ?_, ?_, rfl, ?_⟩
            · rw [wsum_app, wsum_inner]
              omega
            · rw [upd_ne nfw]
              exact s12' _ _ hpf9
            · rw [List.reverse_append, ← List.map_reverse]
              exact (hS9.tp k13).append (hacc.tp k12)
            · rw [upd_ne (ne_of_none z nwH)]
              exact s12' _ _ (s9 _ _ z)
            · rw [List.length_append, List.length_singleton]
              omega
            · intro e he
              rcases List.mem_append.mp he with he | he
              · obtain ⟨f, hf, rfl⟩ := List.mem_map.mp he
                exact inner_fine fc hf
              · exact hfine e (List.mem_cons_of_mem _ he)
            · rw [wsum_app, wsum_inner, List.length_append, List.length_singleton]
              omega
            · rw [hrun]
              have e : 400 - ys.length = (400 - (ys ++ [(c, l)]).length) + 1 := by
                rw [List.length_append, List.length_singleton]
                omega
              rw [e, run_step _ _ _ _ _ e60 ep, Option.map_map]
              congr 1
              funext zs
              simp
end
end K11
set_option Elab.async false
set_option linter.all false
set_option maxRecDepth 100000
namespace K11
open PySem PySem.Spec PyProof.Rows L2 CaV CaL CaN CaD
/-- the program's word, where the thing is small -/
def spIs (ps : Option (List Str)) (cc : Bool) : Sp := fun vs H Q _ => ∃ (b : Addr) (x : V) (d : PyData), vs = [x] ∧ Dq b H x d ∧ fine d = true ∧ wt d ≤ 400 ∧ d.depth ≤ 59 ∧ ∀ H', Same H H' → Q (.bl (goodF (lawPart ps cc) d)) H'
def spBody (K : PySem.W.Frag) : Sp := fun vs H Q _ => ∃ (b : Addr) (x : V) (d : PyData) (y : V) (l : List Str), vs = [x, y] ∧ Dq b H x d ∧ fine d = true ∧ wt d ≤ 400 ∧ d.depth ≤ 59 ∧ PV K H y (some l) ∧ (∀ p ∈ l, parS p = true) ∧ ∀ H', Same H H' → Q (.bl (goodF (lawPart (some l) true) d)) H'
theorem run_is {Pp R : PyData → Bool} {d : PyData} (e : Pp = R) (hw : wt d ≤ 400) (hd : d.depth ≤ 59) : (CaN.run Pp 400 [(d, 1)] = none → goodF R d = false) ∧ ∀ ys, CaN.run Pp 400 [(d, 1)] = some ys → goodF R d = true := by
  subst e
  have h := run_one Pp d hw hd
  refine ⟨fun z => ?_, fun ys z => ?_⟩
  · rw [z] at h
    exact h.symm
  · rw [z] at h
    exact h.symm
def spLName : Sp := fun vs H Q _ => ∃ (b : Addr) (x : V) (d : PyData), vs = [x] ∧ Dq b H x d ∧ smallS d ∧ ∀ H', Same H H' → Q (.bl (nameD d)) H'
def spBind (K : PySem.W.Frag) : Sp := fun vs H Q _ => ∃ (b : Addr) (x : V) (d : PyData) (kd : Str) (y : V) (ps : Option (List Str)), vs = [x, .str kd, y] ∧ Dq b H x d ∧ smallS d ∧ PV K H y ps ∧ ∀ H', Same H H' → Q (.bl (bindD ps kd d)) H'
theorem low_mem (c : Nat) : decide (c ∈ ("abcdefghijklmnopqrstuvwxyz" : Str).cps.toList) = low c := by
  have e : ("abcdefghijklmnopqrstuvwxyz" : Str).cps.toList = (List.range 26).map fun k => 97 + k := by decide +kernel
  rw [e, Bool.eq_iff_iff, decide_eq_true_eq]
  unfold low
  simp only [List.mem_map, List.mem_range, Bool.and_eq_true, decide_eq_true_eq]
  constructor
  · rintro ⟨k, h1, rfl⟩
    omega
  · intro h
    exact ⟨c - 97, by omega, by omega⟩
section
variable {P : Program} {w : World} {K : PySem.W.Frag} {mg : Str → Option Value} {base : Heap}
theorem ok_is_term {k : Nat} (T : TP K mg) : FnOk P w K mg base CX0 (k + 6) T.d_is_term.f T.d_is_term.fd ["value"] (spIs none false) := by
  have G_levelled_parts : FnOk P w K mg base CX0 5 T.d_levelled_parts.f T.d_levelled_parts.fd ["value", "kinds", "parameters"] (spLev K) := ok_levelled_parts T
  refine T.d_is_term.F.ok sc_is_term (fun vs H Q E h => ?_) (fun cdv A outer s H vs Q E hr h => ?_)
  · obtain ⟨b, x, d, rfl, _⟩ := h
    rfl
  · obtain ⟨b, x, d, rfl, dq, fd_, hw, hd, q⟩ := h
    refine ⟨_, (pss_one (ps_ret (pe_cmpR op_notN (pe_call G_levelled_parts (hr.mono (by omega)) (by rfl) T.d_levelled_parts.g T.d_levelled_parts.F.kp T.d_levelled_parts.b .nil pass0 (pa_cons (pv 0) (pa_cons (pe_glob (v := .ref T.aTK) rfl T.gl_TERM_KINDS rfl) (pa_cons (pe_tup pa_nil) pa_nil)))) pe_non (nomark _)))), ?_⟩
    refine ⟨_, rfl, Nat.zero_le _, fun p np => ?_⟩
    have s1 := same_new (o := .tup []) np
    have z := run_is (funext part_term) hw hd
    exact ⟨b, x, d, T.aTK, termK, _, some [], rfl, Dq.same s1 _ _ dq, fd_, by omega, T.sTK _, .inr ⟨p, [], rfl, rfl, .inr (SqT.of upd_same)⟩, fun e H' s' => ⟨rfl, by have q := q H' (s1.trans s'); rw [z.1 e] at q; exact q⟩, fun ys e p F H' s' _ _ _ => ⟨rfl, by have q := q H' (s1.trans s'); rw [z.2 ys e] at q; exact q⟩⟩
theorem ok_is_program {k : Nat} (T : TP K mg) : FnOk P w K mg base CX0 (k + 6) T.d_is_program.f T.d_is_program.fd ["value"] (spIs none true) := by
  have G_levelled_parts : FnOk P w K mg base CX0 5 T.d_levelled_parts.f T.d_levelled_parts.fd ["value", "kinds", "parameters"] (spLev K) := ok_levelled_parts T
  refine T.d_is_program.F.ok sc_is_program (fun vs H Q E h => ?_) (fun cdv A outer s H vs Q E hr h => ?_)
  · obtain ⟨b, x, d, rfl, _⟩ := h
    rfl
  · obtain ⟨b, x, d, rfl, dq, fd_, hw, hd, q⟩ := h
    refine ⟨_, (pss_one (ps_ret (pe_cmpR op_notN (pe_call G_levelled_parts (hr.mono (by omega)) (by rfl) T.d_levelled_parts.g T.d_levelled_parts.F.kp T.d_levelled_parts.b .nil pass0 (pa_cons (pv 0) (pa_cons (pe_glob (v := .ref T.aPK) rfl T.gl_PROGRAM_KINDS rfl) (pa_cons (pe_tup pa_nil) pa_nil)))) pe_non (nomark _)))), ?_⟩
    refine ⟨_, rfl, Nat.zero_le _, fun p np => ?_⟩
    have s1 := same_new (o := .tup []) np
    have z := run_is (funext part_prog) hw hd
    exact ⟨b, x, d, T.aPK, progK, _, some [], rfl, Dq.same s1 _ _ dq, fd_, by omega, T.sPK _, .inr ⟨p, [], rfl, rfl, .inr (SqT.of upd_same)⟩, fun e H' s' => ⟨rfl, by have q := q H' (s1.trans s'); rw [z.1 e] at q; exact q⟩, fun ys e p F H' s' _ _ _ => ⟨rfl, by have q := q H' (s1.trans s'); rw [z.2 ys e] at q; exact q⟩⟩
theorem ok_is_body {k : Nat} (T : TP K mg) : FnOk P w K mg base CX0 (k + 6) T.d_is_body.f T.d_is_body.fd ["value", "parameters"] (spBody K) := by
  have G_levelled_parts : FnOk P w K mg base CX0 5 T.d_levelled_parts.f T.d_levelled_parts.fd ["value", "kinds", "parameters"] (spLev K) := ok_levelled_parts T
  refine T.d_is_body.F.ok sc_is_body (fun vs H Q E h => ?_) (fun cdv A outer s H vs Q E hr h => ?_)
  · obtain ⟨b, x, d, y, l, rfl, _⟩ := h
    rfl
  · obtain ⟨b, x, d, y, l, rfl, dq, fd_, hw, hd, pv_, hl, q⟩ := h
    refine ⟨_, (pss_one (ps_ret (pe_cmpR op_notN (pe_call G_levelled_parts (hr.mono (by omega)) (by rfl) T.d_levelled_parts.g T.d_levelled_parts.F.kp T.d_levelled_parts.b .nil pass0 (pa_cons (pv 0) (pa_cons (pe_glob (v := .ref T.aBK) rfl T.gl_BODY_KINDS rfl) (pa_cons (pv 1) pa_nil)))) pe_non (nomark _)))), ?_⟩
    have z := run_is (funext (part_body hl)) hw hd
    exact ⟨_, rfl, _, rfl, b, x, d, T.aBK, bodyK, y, some l, rfl, dq, fd_, by omega, T.sBK _, pv_, fun e H' s' => ⟨rfl, by have q := q H' s'; rw [z.1 e] at q; exact q⟩, fun ys e p F H' s' _ _ _ => ⟨rfl, by have q := q H' s'; rw [z.2 ys e] at q; exact q⟩⟩
theorem ok_l_is_name {k : Nat} (T : TP K mg) : FnOk P w K mg base CX0 (k + 1) T.d_l_is_name.f T.d_l_is_name.fd ["_law_value"] spLName := by
  refine T.d_l_is_name.F.ok sc_l_is_name (fun vs H Q E h => ?_) (fun cdv A outer s H vs Q E hr h => ?_)
  · obtain ⟨b, x, d, rfl, _⟩ := h
    rfl
  · obtain ⟨b, x, d, rfl, dq, hz, q⟩ := h
    refine ⟨_, (pss_cons (ps_set (i := 1) sc_l_is_name.nd rfl (.inr rfl) pe_str)
    (pss_cons (ps_if (PW.pt (pw_or (pt_not (pt_val (pe_callB CaV.call_isV (by rfl) T.n_isinstance (by decide +kernel) (pa_cons (pv 0) (pa_cons (pe_bltn (v := .ty "str") (by rfl) T.n_str (by decide +kernel) rfl) pa_nil))))) (pw_or1 (pt_not (pt_chain op_le op_le pe_int (pe_callB call_len_str (by rfl) T.n_len PySem.boot_len (pa_cons (pv 0) pa_nil)) pe_int)))))
      (pss_one (ps_ret pe_bl))
      pss_nil)
    (pss_cons (ps_if (pt_cmpR op_in_seq (pv 0) (pe_tup (pa_cons pe_str (pa_cons pe_str (pa_cons pe_str (pa_cons pe_str (pa_cons pe_str pa_nil)))))) (by with_unfolding_all rfl))
      (pss_one (ps_ret pe_bl))
      pss_nil)
    (pss_one (ps_ret (pe_cmpR (op_eqNil (Nat.lt_of_le_of_lt (Nat.le_add_right _ 64) hr.units)) (pe_lc (own := [("_law_sign", 2)]) (g := gName 2) (by rfl) sc_l_is_name.nd (pi_str (pv 0)) (blkOk_by (own := [("_law_sign", 2)]) (N := N_l_is_name) (sc := defScope s_l_is_name) (by decide +kernel)) (fun _ _ _ _ _ => pg_name (i := 2) sc_l_is_name.nd rfl (Or.inl rfl)) (fun _ _ _ _ _ => (pts_one (pt_cmpR op_notIn_sign (pv 2) (pv 1) (by with_unfolding_all rfl)))) (fun _ _ _ _ _ => (pv 2))) (pe_lst pa_nil) (nomark _))))))), ?_⟩
    refine ⟨_, rfl, _, _, _, _, isStr (d), rfl, .ty "str", .inl dq.ty, kit_ty (kit_str _), _, rfl, ?_⟩
    cases d with
    | str z =>
      cases dq
      have hz : z.length ≤ 1000 := hz z rfl
      have q : ∀ H', Same H H' → Q (.bl (nameS z)) H' := q
      refine iteF ⟨_, rfl, _, rfl, sz100 hz, _, _, rfl, rfl, _, rfl, ?_⟩
      by_cases h0 : 0 < z.length
      · rw [decide_eq_true (show (1 : Int) ≤ (z.length : Int) by omega)]
        refine iteT ⟨_, _, rfl, rfl, _, rfl, ?_⟩
        by_cases h7 : z.length < 7
        · rw [decide_eq_true (show (z.length : Int) ≤ 6 by omega)]
          refine iteF ?_
          refine ⟨_, rfl, (by show 5 ≤ sizeLine; decide), fun p np => ?_⟩
          have s1 := same_new (o := .tup (kws.map V.str)) np
          refine ⟨p, _, rfl, .inr (SqT.of upd_same), rfl, rfl, _, rfl, ?_⟩
          show if inV (.str z) (kws.map V.str) = true then _ else _
          have hq := q _ s1
          cases ek : inV (.str z) (kws.map V.str) with
          | true =>
            have e : nameS z = false := by
              unfold nameS
              rw [ek]
              simp
            rw [e] at hq
            exact iteT hq
          | false =>
            refine iteF ?_
            show tNext _ _ (upd H p (.tup (kws.map V.str)))
            clear hq
            generalize upd H p (.tup (kws.map V.str)) = H1 at s1 ⊢
            refine ⟨_, rfl, _, rfl, fun D hD => ?_⟩
            refine lc_it walk_str (fun i H5 => H5 D = some (.lst ((badS z i).map V.str)) ∧ Same H1 H5) ⟨upd_same, same_new hD⟩ (fun _ _ _ _ => trivial) ?_ ?_
            · rintro i x H5 H6 hi ⟨hD5, s5⟩ ⟨rfl, c, hc, rfl⟩
              have hcl : z.cps.toList[i]? = some c := by
                rw [Array.getElem?_toList]
                exact hc
              have bs := bad_succ hcl
              refine ⟨rfl, _, rfl, _, rfl, c, _, rfl, rfl, _, rfl, ?_⟩
              rw [low_mem]
              cases e : low c with
              | true =>
                refine iteF ⟨?_, s5⟩
                rw [bs, e, if_pos rfl, List.append_nil]
                exact hD5
              | false =>
                refine iteT ⟨_, rfl, _, hD5, ?_, ?_, fun b o h => ?_⟩
                · rw [List.length_map]
                  have := bad_len z i
                  have hzl : z.cps.size = z.length := rfl
                  exact Nat.lt_of_le_of_lt (show (badS z i).length ≤ 1000 by omega) (by decide)
                · rw [upd_same, bs, e, List.map_append]
                  rfl
                · rw [upd_ne (ne_of_none h hD)]
                  exact s5 b o h
            · rintro H5 ⟨hD5, s5⟩
              refine ⟨Nat.zero_le _, fun p2 np2 => ?_⟩
              have s6 := same_new (o := .lst []) np2
              refine ⟨D, p2, _, rfl, rfl, SqL.of (s6 _ _ hD5), SqL.of upd_same, ?_⟩
              have e : nameS z = ((badS z z.cps.size).map V.str).isEmpty := by
                rw [show ((badS z z.cps.size).map V.str).isEmpty = (badS z z.cps.size).isEmpty by cases badS z z.cps.size <;> rfl, bad_all]
                unfold nameS
                rw [ek, decide_eq_true h0, decide_eq_true h7]
                simp
              have hq := q _ (s1.trans (s5.trans s6))
              rw [e] at hq
              exact hq
        · rw [decide_eq_false (show ¬ (z.length : Int) ≤ 6 by omega)]
          have e : nameS z = false := by
            unfold nameS
            rw [decide_eq_false h7]
            simp
          have hq := q _ (fun _ _ z => z)
          rw [e] at hq
          exact iteT hq
      · rw [decide_eq_false (show ¬ (1 : Int) ≤ (z.length : Int) by omega)]
        have e : nameS z = false := by
          unfold nameS
          rw [decide_eq_false h0]
          simp
        have hq := q _ (fun _ _ z => z)
        rw [e] at hq
        exact iteF ⟨_, rfl, iteT hq⟩
    | _ => exact iteT (iteT (q _ (fun _ _ z => z)))
theorem ok_l_is_binder {k : Nat} (T : TP K mg) : FnOk P w K mg base CX0 (k + 2) T.d_l_is_binder.f T.d_l_is_binder.fd ["_law_value", "_law_form", "_law_parameters"] (spBind K) := by
  have G_l_is_name : FnOk P w K mg base CX0 1 T.d_l_is_name.f T.d_l_is_name.fd ["_law_value"] spLName := ok_l_is_name T
  refine T.d_l_is_binder.F.ok sc_l_is_binder (fun vs H Q E h => ?_) (fun cdv A outer s H vs Q E hr h => ?_)
  · obtain ⟨b, x, d, kd, y, ps, rfl, _⟩ := h
    rfl
  · obtain ⟨b, x, d, kd, y, ps, rfl, dq, hz, pv_, q⟩ := h
    refine ⟨_, (pss_cons (ps_if (PW.pt (pw_and (pt_cmpR op_notN (pv 2) pe_non (nomark _)) (pw_and (pt_cmpR op_ne (pv 1) pe_str (nomark _)) (pw_and (pt_val (pe_callB CaV.call_isV (by rfl) T.n_isinstance (by decide +kernel) (pa_cons (pv 0) (pa_cons (pe_bltn (v := .ty "str") (by rfl) T.n_str (by decide +kernel) rfl) pa_nil)))) (pw_and1 (pt_cmpR op_eq (pe_slice sl_str (pv 0) po_none (po_some pe_int)) pe_str (nomark _)))))))
      (pss_one (ps_ret (pe_cmpR op_in_seq (pv 0) (pv 2) (by with_unfolding_all rfl))))
      pss_nil)
    (pss_one (ps_ret (pe_call G_l_is_name (hr.mono (by omega)) (by rfl) T.d_l_is_name.g T.d_l_is_name.F.kp T.d_l_is_name.b .nil pass0 (pa_cons (pv 0) pa_nil))))), ?_⟩
    rcases pv_ with ⟨rfl, rfl⟩ | ⟨a, l, rfl, rfl, sq⟩
    · refine ⟨_, rfl, rfl, _, rfl, iteF (iteF ?_)⟩
      have q : ∀ H', Same H H' → Q (.bl (nameD d)) H' := by
        cases d <;> exact q
      exact ⟨_, rfl, b, x, d, rfl, dq, hz, q⟩
    · refine ⟨_, rfl, rfl, _, rfl, iteT ?_⟩
      refine ⟨_, rfl, rfl, _, rfl, ?_⟩
      rw [dec_str]
      by_cases ew : kd = "want"
      · rw [decide_eq_true ew]
        refine iteF (iteF ?_)
        have q : ∀ H', Same H H' → Q (.bl (nameD d)) H' := by
          cases d with
          | str z =>
            have q : ∀ H', Same H H' → Q (.bl (if kd ≠ "want" ∧ doll z = true then inV (.str z) (l.map V.str) else nameS z)) H' := q
            rw [if_neg (fun z => z.1 ew)] at q
            exact q
          | _ => exact q
        exact ⟨_, rfl, b, x, d, rfl, dq, hz, q⟩
      · rw [decide_eq_false ew]
        refine iteT ⟨_, rfl, _, _, _, _, isStr (d), rfl, .ty "str", .inl dq.ty, kit_ty (kit_str _), _, rfl, ?_⟩
        cases d with
        | str z =>
          cases dq
          have hz1 : z.length ≤ 1000 := hz z rfl
          have q : ∀ H', Same H H' → Q (.bl (if kd ≠ "want" ∧ doll z = true then inV (.str z) (l.map V.str) else nameS z)) H' := q
          refine iteT ⟨_, rfl, _, rfl, _, rfl, sz100 hz1, rfl, _, rfl, ?_⟩
          rw [dec_str, ← doll_cut]
          cases ed : doll z with
          | true =>
            rw [if_pos ⟨ew, ed⟩] at q
            exact iteT ⟨_, rfl, _, rfl, a, _, rfl, sq, rfl, flat_strs l, q _ (fun _ _ z => z)⟩
          | false =>
            rw [if_neg (fun z => by rw [ed] at z; exact absurd z.2 (by decide))] at q
            exact iteF ⟨_, rfl, b, _, .str z, rfl, .str z, hz, q⟩
        | _ => exact iteF (iteF ⟨_, rfl, b, x, _, rfl, dq, hz, q⟩)
end
end K11
set_option Elab.async false
set_option linter.all false
set_option maxRecDepth 100000
namespace K11
open PySem PySem.Spec PyProof.Rows L2 CaV CaL CaN CaD
def spGood (K : PySem.W.Frag) (n : Nat) : Sp := fun vs H Q _ => ∃ (b : Addr) (x : V) (d : PyData) (y : V) (ps : Option (List Str)) (cc : Bool), vs = [x, y, .bl cc] ∧ Dq b H x d ∧ fine d = true ∧ (d.depth < n ∧ wt d ≤ 500) ∧ PV K H y ps ∧ ∀ H', Same H H' → Q (.bl (goodF (lawPart ps cc) d)) H'
theorem good_no {R : PyData → Bool} {d : PyData} (h : R d = false) : goodF R d = false := by
  rw [goodF_eq, h]
  rfl
theorem law_one {ps : Option (List Str)} {cc : Bool} (d : PyData) : lawPart ps cc (.tuple [d]) = false := by
  cases d <;> rfl
theorem law_eq (ps : Option (List Str)) (cc : Bool) (k : Str) (d1 : PyData) (r : List PyData) : lawPart ps cc (.tuple (.str k :: d1 :: r)) = (if k = "hole" then decide (r.length = 0) && (ps.isSome && (nameD d1 && allowS ps ("?" ++ sOf d1)))
    else if k = "name" then decide (r.length = 0) && bindD ps k d1
    else if k = "op" then rowD 3 d1 r
    else if k = "call" ∧ cc = true then rowD 5 d1 r
    else if ((k ≠ "let" ∧ k ≠ "each") ∧ (k ≠ "want" ∨ ps = none)) ∨ r.length ≠ 2 then false
    else bindD ps k d1) := rfl
section
variable {P : Program} {w : World} {K : PySem.W.Frag} {mg : Str → Option Value} {base : Heap}
set_option maxHeartbeats 2000000 in
theorem ok_l_good (T : TP K mg) : ∀ n : Nat, FnOk P w K mg base CX0 (n + 3) T.d_l_good.f T.d_l_good.fd ["_law_value", "_law_parameters", "_law_can_call"] (spGood K n)
  | 0 => by
    refine T.d_l_good.F.ok sc_l_good (fun vs H Q E h => ?_) (fun cdv A outer s H vs Q E hr h => ?_)
    · obtain ⟨b, x, d, y, ps, cc, rfl, _⟩ := h
      rfl
    · obtain ⟨b, x, d, y, ps, cc, rfl, _, _, hd, _⟩ := h
      exact absurd hd.1 (Nat.not_lt_zero _)
  | n + 1 => by
    have G_l_good := ok_l_good T n
    have G_l_is_name : FnOk P w K mg base CX0 1 T.d_l_is_name.f T.d_l_is_name.fd ["_law_value"] spLName := ok_l_is_name T
    have G_l_is_binder : FnOk P w K mg base CX0 2 T.d_l_is_binder.f T.d_l_is_binder.fd ["_law_value", "_law_form", "_law_parameters"] (spBind K) := ok_l_is_binder T
    refine T.d_l_good.F.ok sc_l_good (fun vs H Q E h => ?_) (fun cdv A outer s H vs Q E hr h => ?_)
    · obtain ⟨b, x, d, y, ps, cc, rfl, _⟩ := h
      rfl
    · obtain ⟨b, x, d, y, ps, cc, rfl, dq, fd_, hd, pv_, q⟩ := h
      refine ⟨_, (pss_cons (ps_if (PW.pt (pw_or (pt_not (pt_val (pe_callB CaV.call_isV (by rfl) T.n_isinstance (by decide +kernel) (pa_cons (pv 0) (pa_cons (pe_bltn (v := .ty "tuple") (by rfl) T.n_tuple (by decide +kernel) rfl) pa_nil))))) (pw_or (pt_cmpR op_lt (pe_callB call_len_seq (by rfl) T.n_len PySem.boot_len (pa_cons (pv 0) pa_nil)) pe_int (nomark _)) (pw_or1 (pt_not (pt_val (pe_callB CaV.call_isV (by rfl) T.n_isinstance (by decide +kernel) (pa_cons (pe_ix ix_tup (pv 0) pe_int (fun _ _ => rfl)) (pa_cons (pe_bltn (v := .ty "str") (by rfl) T.n_str (by decide +kernel) rfl) pa_nil)))))))))
      (pss_one (ps_ret pe_bl))
      pss_nil)
    (pss_cons (ps_par (i := 3) (j := 4) (by rfl) sc_l_good.nd rfl rfl (by decide) rfl rfl (pa_cons (pe_ix ix_tup (pv 0) pe_int (fun _ _ => rfl)) (pa_cons (pe_ix ix_tup (pv 0) pe_int (fun _ _ => rfl)) pa_nil)) (by rfl))
    (pss_cons (ps_if (pt_cmpR op_eq (pv 3) pe_str (nomark _))
      (pss_one (ps_ret (pe_and (pe_cmpR op_eq (pe_callB call_len_seq (by rfl) T.n_len PySem.boot_len (pa_cons (pv 0) pa_nil)) pe_int (nomark _)) (pe_and (pe_cmpR op_notN (pv 1) pe_non (nomark _)) (pe_and (pe_call G_l_is_name (hr.mono (by omega)) (by rfl) T.d_l_is_name.g T.d_l_is_name.F.kp T.d_l_is_name.b .nil pass0 (pa_cons (pv 4) pa_nil)) (pe_one (pe_cmpR op_in_seq (pe_op op_add_str pe_str (pv 4)) (pv 1) (by with_unfolding_all rfl))))))))
      pss_nil)
    (pss_cons (ps_if (pt_cmpR op_eq (pv 3) pe_str (nomark _))
      (pss_one (ps_ret (pe_and (pe_cmpR op_eq (pe_callB call_len_seq (by rfl) T.n_len PySem.boot_len (pa_cons (pv 0) pa_nil)) pe_int (nomark _)) (pe_one (pe_call G_l_is_binder (hr.mono (by omega)) (by rfl) T.d_l_is_binder.g T.d_l_is_binder.F.kp T.d_l_is_binder.b .nil pass0 (pa_cons (pv 4) (pa_cons (pv 3) (pa_cons (pv 1) pa_nil))))))))
      pss_nil)
    (pss_cons (ps_if (PW.pt (pw_or (pt_cmpR op_eq (pv 3) pe_str (nomark _)) (pw_or1 (PW.pt (pw_and (pt_cmpR op_eq (pv 3) pe_str (nomark _)) (pw_and1 (pt_val (pv 2))))))))
      (pss_cons (ps_if (PW.pt (pw_or (pt_cmpR op_ne (pe_callB call_len_seq (by rfl) T.n_len PySem.boot_len (pa_cons (pv 0) pa_nil)) pe_int (nomark _)) (pw_or (pt_not (pt_val (pe_call G_l_is_name (hr.mono (by omega)) (by rfl) T.d_l_is_name.g T.d_l_is_name.F.kp T.d_l_is_name.b .nil pass0 (pa_cons (pv 4) pa_nil)))) (pw_or1 (pt_not (pt_val (pe_callB CaV.call_isV (by rfl) T.n_isinstance (by decide +kernel) (pa_cons (pe_ix ix_tup (pv 0) pe_int (fun _ _ => rfl)) (pa_cons (pe_bltn (v := .ty "tuple") (by rfl) T.n_tuple (by decide +kernel) rfl) pa_nil)))))))))
        (pss_one (ps_ret pe_bl))
        pss_nil)
      (pss_cons (ps_if (pt_cmpR op_gt (pe_callB call_len_seq (by rfl) T.n_len PySem.boot_len (pa_cons (pe_ix ix_tup (pv 0) pe_int (fun _ _ => rfl)) pa_nil)) (pe_ix ix_list (pe_lst (pa_cons pe_int (pa_cons pe_int pa_nil))) (pe_callTy call_int1 (by rfl) T.n_int (by decide +kernel) (pa_cons (pe_cmpR op_eq (pv 3) pe_str (nomark _)) pa_nil)) (fun _ _ => rfl)) (nomark _))
        (pss_one (ps_ret pe_bl))
        pss_nil)
      (pss_one (ps_ret (pe_cmpR (op_eqNil (Nat.lt_of_le_of_lt (Nat.le_add_right _ 64) hr.units)) (pe_lc (own := [("_law_part", 5)]) (g := gName 5) (by rfl) sc_l_good.nd (pi_tup (pe_ix ix_tup (pv 0) pe_int (fun _ _ => rfl))) (blkOk_by (own := [("_law_part", 5)]) (N := N_l_good) (sc := defScope s_l_good) (by decide +kernel)) (fun _ _ _ _ _ => pg_name (i := 5) sc_l_good.nd rfl (Or.inl rfl)) (fun _ _ _ _ _ => (pts_one (pt_not (pt_val (pe_call G_l_good (hr.mono (by omega)) (by rfl) T.d_l_good.g T.d_l_good.F.kp T.d_l_good.b .nil pass0 (pa_cons (pv 5) (pa_cons (pv 1) (pa_cons (pv 2) pa_nil)))))))) (fun _ _ _ _ _ => (pv 5))) (pe_lst pa_nil) (nomark _))))))
      pss_nil)
    (pss_cons (ps_if (PW.pt (pw_or (PW.pt (pw_and (pt_cmpR op_notIn_seq (pv 3) (pe_tup (pa_cons pe_str (pa_cons pe_str pa_nil))) (by with_unfolding_all rfl)) (pw_and1 (PW.pt (pw_or (pt_cmpR op_ne (pv 3) pe_str (nomark _)) (pw_or1 (pt_cmpR op_isN (pv 1) pe_non (nomark _)))))))) (pw_or1 (pt_cmpR op_ne (pe_callB call_len_seq (by rfl) T.n_len PySem.boot_len (pa_cons (pv 0) pa_nil)) pe_int (nomark _)))))
      (pss_one (ps_ret pe_bl))
      pss_nil)
    (pss_cons (ps_if (pt_not (pt_val (pe_call G_l_is_binder (hr.mono (by omega)) (by rfl) T.d_l_is_binder.g T.d_l_is_binder.F.kp T.d_l_is_binder.b .nil pass0 (pa_cons (pv 4) (pa_cons (pv 3) (pa_cons (pv 1) pa_nil))))))
      (pss_one (ps_ret pe_bl))
      pss_nil)
    (pss_one (ps_ret (pe_and (pe_call G_l_good (hr.mono (by omega)) (by rfl) T.d_l_good.g T.d_l_good.F.kp T.d_l_good.b .nil pass0 (pa_cons (pe_ix ix_tup (pv 0) pe_int (fun _ _ => rfl)) (pa_cons (pv 1) (pa_cons (pv 2) pa_nil)))) (pe_one (pe_call G_l_good (hr.mono (by omega)) (by rfl) T.d_l_good.g T.d_l_good.F.kp T.d_l_good.b .nil pass0 (pa_cons (pe_ix ix_tup (pv 0) pe_int (fun _ _ => rfl)) (pa_cons (pv 1) (pa_cons (pv 2) pa_nil))))))))))))))), ?_⟩
      refine ⟨_, rfl, _, _, _, _, isTup (d), rfl, .ty "tuple", .inl dq.ty, kit_ty (kit_tup _), _, rfl, ?_⟩
      have sub := inner_sub d
      cases d with
      | tuple ds =>
        refine iteF ?_
        cases dq with
        | @tup a xs _ h1 h2 =>
          refine ⟨_, rfl, a, xs, rfl, .inr (SqT.of h1), _, _, rfl, rfl, _, rfl, ?_⟩
          have hl := h2.len
          match ds, xs, h2, hl, sub with
          | [], [], _, _, _ => exact iteT (iteT (by have q := q _ (fun _ _ z => z); rw [good_no rfl] at q; exact q))
          | [d0], [_], _, _, _ => exact iteT (iteT (by have q := q _ (fun _ _ z => z); rw [good_no (law_one d0)] at q; exact q))
          | d0 :: d1 :: r, v0 :: v1 :: vr, .cons g0 (.cons g1 g), hl, sub =>
            have hl2 : vr.length = r.length := g.len
            have f1 : fine d1 = true := fine_tup fd_ d1 (List.mem_cons_of_mem _ List.mem_cons_self)
            have n2 : ¬ (((v0 :: v1 :: vr).length : Nat) : Int) < 2 := by
              simp only [List.length_cons]
              omega
            rw [decide_eq_false n2]
            refine iteF ?_
            refine ⟨_, rfl, a, _, _, v0, rfl, rfl, SqT.of h1, at0, _, _, _, _, isStr (d0), rfl, .ty "str", .inl g0.ty, kit_ty (kit_str _), _, rfl, ?_⟩
            cases d0 with
            | str kd =>
              cases g0
              refine iteF ?_
              have hlen : ∀ m : Nat, decide (V.int (((V.str kd :: v1 :: vr).length : Nat) : Int) = V.int (m + 2 : Nat)) = decide (r.length = m) := fun m => by
                rw [dec_len]
                simp only [List.length_cons, hl2]
                rw [Bool.eq_iff_iff, decide_eq_true_eq, decide_eq_true_eq]
                omega
              refine ⟨_, rfl, a, _, _, .str kd, rfl, rfl, SqT.of h1, at0, _, rfl, a, _, _, v1, rfl, rfl, SqT.of h1, at1, _, _, rfl, ?_⟩
              refine ⟨_, rfl, rfl, _, rfl, ?_⟩
              rw [dec_str]
              have hin := inner_eq kd d1 r
              have hlaw := law_eq ps cc kd d1 r
              by_cases e1 : kd = "hole"
              · rw [decide_eq_true e1]
                rw [if_pos e1] at hlaw
                subst e1
                rw [if_neg (by decide +kernel), if_neg (by decide +kernel)] at hin
                rw [goodF_eq, hin, hlaw] at q
                refine iteT ⟨_, rfl, a, _, rfl, .inr (SqT.of h1), rfl, _, rfl, ?_⟩
                have e := hlen 0
                rw [show (((0 + 2 : Nat) : Nat) : Int) = 2 from rfl] at e
                rw [e]
                cases ez : decide (r.length = 0) with
                | false =>
                  rw [ez] at q
                  exact iteF (q _ (fun _ _ z => z))
                | true =>
                  rw [ez] at q
                  refine iteT ⟨_, rfl, rfl, _, rfl, ?_⟩
                  rcases pv_ with ⟨rfl, rfl⟩ | ⟨ap, l, rfl, rfl, sq⟩
                  · exact iteF (q _ (fun _ _ z => z))
                  · refine iteT ⟨_, rfl, b, v1, d1, rfl, g1, small_of f1, fun H1 s1 => ⟨_, rfl, ?_⟩⟩
                    cases en : nameD d1 with
                    | false =>
                      rw [en] at q
                      exact iteF (q _ s1)
                    | true =>
                      rw [en] at q
                      cases d1 with
                      | str z =>
                        cases g1
                        have hz := (fine_str f1).1
                        have ha := app_len "?" z
                        have h1q : ("?" : Str).length = 1 := by decide +kernel
                        have q : ∀ H', Same H H' → Q (.bl ((true && (true && (true && inV (.str ("?" ++ z)) (l.map V.str)))) && true)) H' := q
                        simp only [Bool.true_and, Bool.and_true] at q
                        exact iteT ⟨_, rfl, _, _, rfl, rfl, sz100 (by omega), _, rfl, ap, _, rfl, sq.imp (fun z => s1.seq z) (fun z => sqt_same s1 z), rfl, flat_strs l, q _ s1⟩
                      | _ => cases en
              rw [decide_eq_false e1]
              rw [if_neg e1] at hlaw
              refine iteF ?_
              refine ⟨_, rfl, rfl, _, rfl, ?_⟩
              rw [dec_str]
              by_cases e2 : kd = "name"
              · rw [decide_eq_true e2]
                rw [if_pos e2] at hlaw
                subst e2
                rw [if_neg (by decide +kernel), if_neg (by decide +kernel)] at hin
                rw [goodF_eq, hin, hlaw] at q
                refine iteT ⟨_, rfl, a, _, rfl, .inr (SqT.of h1), rfl, _, rfl, ?_⟩
                have e := hlen 0
                rw [show (((0 + 2 : Nat) : Nat) : Int) = 2 from rfl] at e
                rw [e]
                cases ez : decide (r.length = 0) with
                | false =>
                  rw [ez] at q
                  exact iteF (q _ (fun _ _ z => z))
                | true =>
                  rw [ez] at q
                  refine iteT ⟨_, rfl, _, rfl, _, rfl, b, v1, d1, _, y, ps, rfl, g1, small_of f1, pv_, fun H1 s1 => ?_⟩
                  have q := q _ s1
                  simp only [List.all_nil, Bool.true_and, Bool.and_true] at q
                  exact q
              rw [decide_eq_false e2]
              rw [if_neg e2] at hlaw
              refine iteF ?_
              refine ⟨_, rfl, rfl, _, rfl, ?_⟩
              rw [dec_str]
              by_cases e3 : kd = "op"
              · rw [decide_eq_true e3]
                rw [if_pos e3] at hlaw
                subst e3
                have hR : ∀ zc ∈ rowOf r, zc.depth < n ∧ wt zc ≤ 500 := fun zc hz => by
                  have m : zc ∈ inner (.tuple (.str "op" :: d1 :: r)) := by
                    rw [hin, if_pos (.inl rfl)]
                    exact hz
                  have := sub.2.2 zc m
                  have := wt_mem m
                  omega
                rw [if_pos (.inl rfl)] at hin
                rw [goodF_eq, hin, hlaw] at q
                refine iteT (iteT ?_)
                refine ⟨_, rfl, a, _, rfl, .inr (SqT.of h1), rfl, _, rfl, ?_⟩
                rw [show (3 : Int) = ((1 + 2 : Nat) : Int) from rfl, hlen 1]
                unfold rowD at q
                by_cases h3 : r.length = 1
                · rw [decide_eq_true h3] at q ⊢
                  refine iteF ⟨_, rfl, b, v1, d1, rfl, g1, small_of f1, fun H1 s1 => ⟨_, rfl, ?_⟩⟩
                  cases en : nameD d1 with
                  | false =>
                    rw [en] at q
                    exact iteT (iteT (q _ s1))
                  | true =>
                    rw [en] at q
                    match r, vr, g, h3, q, hR with
                    | [z], [v2], .cons g2 .nil, _, q, hR =>
                      have h1' := s1 _ _ h1
                      have g2' := Dq.same s1 _ _ g2
                      refine iteF ⟨_, rfl, a, _, _, v2, rfl, rfl, SqT.of h1', at2, _, _, _, _, isTup (z), rfl, .ty "tuple", .inl g2'.ty, kit_ty (kit_tup _), _, rfl, ?_⟩
                      cases z with
                      | tuple zs =>
                        cases g2 with
                        | @tup p2 ws _ k1 k2 =>
                          refine iteF ?_
                          have k1' := s1 _ _ k1
                          refine ⟨_, rfl, a, _, _, .ref p2, rfl, rfl, SqT.of h1', at2, p2, _, rfl, .inr (SqT.of k1'), (by show 2 ≤ sizeLine; decide), fun p3 np3 => ?_⟩
                          refine ⟨_, rfl, rfl, .inr ⟨_, rfl, p3, _, _, .int 3, rfl, rfl, SqL.of upd_same, ?_, _, _, rfl, rfl, _, rfl, ?_⟩⟩
                          · rw [dec_str]
                            rw [decide_eq_false (by decide +kernel)]
                            rfl
                          have s3 := s1.trans (same_new (o := .lst [.int 3, .int 5]) np3)
                          generalize upd H1 p3 (.lst [.int 3, .int 5]) = H3 at s3 ⊢
                          have q : ∀ H', Same H H' → Q (.bl (decide (zs.length ≤ 3) && zs.all (goodF (lawPart ps cc)))) H' := q
                          by_cases hm : zs.length ≤ 3
                          · rw [decide_eq_true hm] at q
                            rw [show decide ((ws.length : Int) > 3) = false from decide_eq_false (by rw [k2.len]; omega)]
                            refine iteF ⟨_, rfl, a, _, _, .ref p2, rfl, rfl, SqT.of (s3 _ _ h1), at2, p2, rfl, ⟨_, SqT.of (s3 _ _ k1)⟩, fun D nD => ?_⟩
                            refine lc_tup (K := K) (a := p2) (xs := ws) (fun i H5 => ∃ acc, H5 D = some (.lst acc) ∧ Same H3 H5 ∧ acc.length ≤ i ∧ acc.isEmpty = (zs.take i).all (goodF (lawPart ps cc))) ⟨[], upd_same, same_new nD, Nat.le_refl _, rfl⟩ (fun i H5 _ z => ?_) ?_ ?_
                            · obtain ⟨acc, _, s5, _⟩ := z
                              exact SqT.of (s5 _ _ (s3 _ _ k1))
                            · rintro i u H5 hu ⟨acc, hD, s5, hl5, hacc⟩
                              have hi := (List.getElem?_eq_some_iff.mp hu).1
                              have hiz : i < zs.length := by
                                rw [← k2.len]
                                exact hi
                              have e := List.getElem?_eq_getElem hiz
                              obtain ⟨u2, w1, w2⟩ := k2.get e
                              rw [hu] at w1
                              cases w1
                              have fz : fine zs[i] = true := fine_tup (fine_tup fd_ _ (by simp)) _ (List.getElem_mem hiz)
                              have dz := hR zs[i] (List.getElem_mem hiz)
                              refine ⟨rfl, _, rfl, _, rfl, _, rfl, b, u, zs[i], y, ps, cc, rfl, Dq.same (s3.trans s5) _ _ w2, fz, dz, pv_.same (s3.trans s5), fun H6 s6 => ⟨_, rfl, ?_⟩⟩
                              have et : (zs.take (i + 1)).all (goodF (lawPart ps cc)) = ((zs.take i).all (goodF (lawPart ps cc)) && goodF (lawPart ps cc) zs[i]) := by
                                rw [List.take_add_one, e, List.all_append]
                                simp
                              cases eg : goodF (lawPart ps cc) zs[i] with
                              | true =>
                                refine iteF ⟨acc, s6 _ _ hD, s5.trans s6, by omega, ?_⟩
                                rw [et, eg, Bool.and_true]
                                exact hacc
                              | false =>
                                refine iteT ⟨_, rfl, acc, s6 _ _ hD, ?_, _, upd_same, fun c o z => ?_, ?_, ?_⟩
                                · exact Nat.lt_of_le_of_lt (show acc.length ≤ 1000 by omega) (by decide)
                                · rw [upd_ne (ne_of_none z nD)]
                                  exact s6 _ _ (s5 _ _ z)
                                · rw [List.length_append, List.length_singleton]
                                  omega
                                · rw [et, eg, Bool.and_false]
                                  cases acc <;> rfl
                            · rintro H5 ⟨acc, hD, s5, hl5, hacc⟩
                              refine ⟨Nat.zero_le _, fun p4 np4 => ?_⟩
                              have s6 := same_new (o := .lst []) np4
                              refine ⟨D, p4, acc, rfl, rfl, SqL.of (s6 _ _ hD), SqL.of upd_same, ?_⟩
                              rw [hacc, k2.len, List.take_length]
                              exact q _ (s3.trans (s5.trans s6))
                          · rw [decide_eq_false hm] at q
                            rw [show decide ((ws.length : Int) > 3) = true from decide_eq_true (by rw [k2.len]; omega)]
                            exact iteT (q _ s3)
                      | _ => exact iteT (q _ s1)
                · rw [decide_eq_false h3] at q ⊢
                  exact iteT (iteT (q _ (fun _ _ z => z)))
              rw [decide_eq_false e3]
              rw [if_neg e3] at hlaw
              refine iteF ⟨_, rfl, rfl, _, rfl, ?_⟩
              rw [dec_str]
              by_cases e4 : kd = "call"
              · rw [decide_eq_true e4]
                refine iteT ⟨_, rfl, _, rfl, ?_⟩
                cases cc with
                | true =>
                  rw [if_pos ⟨e4, rfl⟩] at hlaw
                  subst e4
                  have hR : ∀ zc ∈ rowOf r, zc.depth < n ∧ wt zc ≤ 500 := fun zc hz => by
                    have m : zc ∈ inner (.tuple (.str "call" :: d1 :: r)) := by
                      rw [hin, if_pos (.inr rfl)]
                      exact hz
                    have := sub.2.2 zc m
                    have := wt_mem m
                    omega
                  rw [if_pos (.inr rfl)] at hin
                  rw [goodF_eq, hin, hlaw] at q
                  refine iteT ?_
                  refine ⟨_, rfl, a, _, rfl, .inr (SqT.of h1), rfl, _, rfl, ?_⟩
                  rw [show (3 : Int) = ((1 + 2 : Nat) : Int) from rfl, hlen 1]
                  unfold rowD at q
                  by_cases h3 : r.length = 1
                  · rw [decide_eq_true h3] at q ⊢
                    refine iteF ⟨_, rfl, b, v1, d1, rfl, g1, small_of f1, fun H1 s1 => ⟨_, rfl, ?_⟩⟩
                    cases en : nameD d1 with
                    | false =>
                      rw [en] at q
                      exact iteT (iteT (q _ s1))
                    | true =>
                      rw [en] at q
                      match r, vr, g, h3, q, hR with
                      | [z], [v2], .cons g2 .nil, _, q, hR =>
                        have h1' := s1 _ _ h1
                        have g2' := Dq.same s1 _ _ g2
                        refine iteF ⟨_, rfl, a, _, _, v2, rfl, rfl, SqT.of h1', at2, _, _, _, _, isTup (z), rfl, .ty "tuple", .inl g2'.ty, kit_ty (kit_tup _), _, rfl, ?_⟩
                        cases z with
                        | tuple zs =>
                          cases g2 with
                          | @tup p2 ws _ k1 k2 =>
                            refine iteF ?_
                            have k1' := s1 _ _ k1
                            refine ⟨_, rfl, a, _, _, .ref p2, rfl, rfl, SqT.of h1', at2, p2, _, rfl, .inr (SqT.of k1'), (by show 2 ≤ sizeLine; decide), fun p3 np3 => ?_⟩
                            refine ⟨_, rfl, rfl, .inr ⟨_, rfl, p3, _, _, .int 5, rfl, rfl, SqL.of upd_same, ?_, _, _, rfl, rfl, _, rfl, ?_⟩⟩
                            · rw [dec_str]
                              rw [decide_eq_true (by decide +kernel)]
                              rfl
                            have s3 := s1.trans (same_new (o := .lst [.int 3, .int 5]) np3)
                            generalize upd H1 p3 (.lst [.int 3, .int 5]) = H3 at s3 ⊢
                            have q : ∀ H', Same H H' → Q (.bl (decide (zs.length ≤ 5) && zs.all (goodF (lawPart ps true)))) H' := q
                            by_cases hm : zs.length ≤ 5
                            · rw [decide_eq_true hm] at q
                              rw [show decide ((ws.length : Int) > 5) = false from decide_eq_false (by rw [k2.len]; omega)]
                              refine iteF ⟨_, rfl, a, _, _, .ref p2, rfl, rfl, SqT.of (s3 _ _ h1), at2, p2, rfl, ⟨_, SqT.of (s3 _ _ k1)⟩, fun D nD => ?_⟩
                              refine lc_tup (K := K) (a := p2) (xs := ws) (fun i H5 => ∃ acc, H5 D = some (.lst acc) ∧ Same H3 H5 ∧ acc.length ≤ i ∧ acc.isEmpty = (zs.take i).all (goodF (lawPart ps true))) ⟨[], upd_same, same_new nD, Nat.le_refl _, rfl⟩ (fun i H5 _ z => ?_) ?_ ?_
                              · obtain ⟨acc, _, s5, _⟩ := z
                                exact SqT.of (s5 _ _ (s3 _ _ k1))
                              · rintro i u H5 hu ⟨acc, hD, s5, hl5, hacc⟩
                                have hi := (List.getElem?_eq_some_iff.mp hu).1
                                have hiz : i < zs.length := by
                                  rw [← k2.len]
                                  exact hi
                                have e := List.getElem?_eq_getElem hiz
                                obtain ⟨u2, w1, w2⟩ := k2.get e
                                rw [hu] at w1
                                cases w1
                                have fz : fine zs[i] = true := fine_tup (fine_tup fd_ _ (by simp)) _ (List.getElem_mem hiz)
                                have dz := hR zs[i] (List.getElem_mem hiz)
                                refine ⟨rfl, _, rfl, _, rfl, _, rfl, b, u, zs[i], y, ps, true, rfl, Dq.same (s3.trans s5) _ _ w2, fz, dz, pv_.same (s3.trans s5), fun H6 s6 => ⟨_, rfl, ?_⟩⟩
                                have et : (zs.take (i + 1)).all (goodF (lawPart ps true)) = ((zs.take i).all (goodF (lawPart ps true)) && goodF (lawPart ps true) zs[i]) := by
                                  rw [List.take_add_one, e, List.all_append]
                                  simp
                                cases eg : goodF (lawPart ps true) zs[i] with
                                | true =>
                                  refine iteF ⟨acc, s6 _ _ hD, s5.trans s6, by omega, ?_⟩
                                  rw [et, eg, Bool.and_true]
                                  exact hacc
                                | false =>
                                  refine iteT ⟨_, rfl, acc, s6 _ _ hD, ?_, _, upd_same, fun c o z => ?_, ?_, ?_⟩
                                  · exact Nat.lt_of_le_of_lt (show acc.length ≤ 1000 by omega) (by decide)
                                  · rw [upd_ne (ne_of_none z nD)]
                                    exact s6 _ _ (s5 _ _ z)
                                  · rw [List.length_append, List.length_singleton]
                                    omega
                                  · rw [et, eg, Bool.and_false]
                                    cases acc <;> rfl
                              · rintro H5 ⟨acc, hD, s5, hl5, hacc⟩
                                refine ⟨Nat.zero_le _, fun p4 np4 => ?_⟩
                                have s6 := same_new (o := .lst []) np4
                                refine ⟨D, p4, acc, rfl, rfl, SqL.of (s6 _ _ hD), SqL.of upd_same, ?_⟩
                                rw [hacc, k2.len, List.take_length]
                                exact q _ (s3.trans (s5.trans s6))
                            · rw [decide_eq_false hm] at q
                              rw [show decide ((ws.length : Int) > 5) = true from decide_eq_true (by rw [k2.len]; omega)]
                              exact iteT (q _ s3)
                        | _ => exact iteT (q _ s1)
                  · rw [decide_eq_false h3] at q ⊢
                    exact iteT (iteT (q _ (fun _ _ z => z)))
                | false =>
                  rw [if_neg (fun z => by cases z.2), if_pos (.inl ⟨⟨by rw [e4]; decide +kernel, by rw [e4]; decide +kernel⟩, .inl (by rw [e4]; decide +kernel)⟩)] at hlaw
                  rw [goodF_eq, hlaw] at q
                  subst e4
                  refine iteF ?_
                  refine ⟨_, rfl, (by show 2 ≤ sizeLine; decide), fun p np => ?_⟩
                  have s1 := same_new (o := .tup [.str "let", .str "each"]) np
                  refine ⟨p, _, rfl, .inr (SqT.of upd_same), rfl, rfl, _, rfl, ?_⟩
                  rw [show inV (.str "call") [.str "let", .str "each"] = false by decide +kernel]
                  refine iteT ⟨_, rfl, rfl, _, rfl, ?_⟩
                  rw [dec_str, decide_eq_false (by decide +kernel)]
                  exact iteT (iteT (q _ s1))
              · rw [decide_eq_false e4]
                rw [if_neg (fun z => e4 z.1)] at hlaw
                refine iteF (iteF ?_)
                have hR : (kd = "let" ∨ kd = "each" ∨ kd = "want") → ∀ zc ∈ r, zc.depth < n ∧ wt zc ≤ 500 := fun hk zc hz => by
                  have m : zc ∈ inner (.tuple (.str kd :: d1 :: r)) := by
                    rw [hin, if_neg (fun z => z.elim e3 e4), if_pos hk]
                    exact hz
                  have := sub.2.2 zc m
                  have := wt_mem m
                  omega
                rw [if_neg (fun z => z.elim e3 e4)] at hin
                refine ⟨_, rfl, (by show 2 ≤ sizeLine; decide), fun p np => ?_⟩
                have s1 := same_new (o := .tup [.str "let", .str "each"]) np
                refine ⟨p, _, rfl, .inr (SqT.of upd_same), rfl, rfl, _, rfl, ?_⟩
                have h1p := s1 _ _ h1
                show if (!inV (.str kd) ((["let", "each"] : List Str).map V.str)) = true then _ else _
                rw [inV_str]
                by_cases el : kd = "let" ∨ kd = "each"
                · rw [show (["let", "each"] : List Str).contains kd = true from List.contains_iff_mem.mpr (by rcases el with rfl | rfl <;> simp)]
                  refine iteF ?_
                  have hk : kd = "let" ∨ kd = "each" ∨ kd = "want" := el.elim .inl (fun z => .inr (.inl z))
                  have hR := hR hk
                  rw [if_pos hk] at hin
                  refine ⟨_, rfl, a, _, rfl, .inr (SqT.of h1p), rfl, _, rfl, ?_⟩
                  rw [show (4 : Int) = ((2 + 2 : Nat) : Int) from rfl, hlen 2]
                  by_cases h2 : r.length = 2
                  · rw [decide_eq_true h2]
                    refine iteF ?_
                    rw [if_neg (fun z => z.elim (fun z => el.elim z.1.1 z.1.2) (fun z => z h2))] at hlaw
                    rw [goodF_eq, hin, hlaw] at q
                    refine ⟨_, rfl, _, rfl, _, rfl, b, v1, d1, kd, y, ps, rfl, Dq.same s1 _ _ g1, small_of f1, pv_.same s1, fun H2 s2 => ⟨_, rfl, ?_⟩⟩
                    have s12 := s1.trans s2
                    cases eb : bindD ps kd d1 with
                    | false =>
                      rw [eb] at q
                      exact iteT (q _ s12)
                    | true =>
                      rw [eb] at q
                      refine iteF ?_
                      match r, vr, g, h2, q, hR with
                      | [x2, x3], [v2, v3], .cons g2 (.cons g3 .nil), _, q, hR =>
                        have q : ∀ H', Same H H' → Q (.bl (goodF (lawPart ps cc) x2 && (goodF (lawPart ps cc) x3 && true))) H' := q
                        have fx := fine_tup fd_
                        refine ⟨_, rfl, a, _, _, v2, rfl, rfl, SqT.of (s12 _ _ h1), at2, _, rfl, _, rfl, b, v2, x2, y, ps, cc, rfl, Dq.same s12 _ _ g2, fx x2 (by simp), hR x2 (by simp), pv_.same s12, fun H3 s3 => ⟨_, rfl, ?_⟩⟩
                        cases eg : goodF (lawPart ps cc) x2 with
                        | false =>
                          rw [eg] at q
                          exact iteF (q _ (s12.trans s3))
                        | true =>
                          rw [eg, Bool.and_true] at q
                          have s13 := s12.trans s3
                          exact iteT ⟨_, rfl, a, _, _, v3, rfl, rfl, SqT.of (s13 _ _ h1), at3, _, rfl, _, rfl, b, v3, x3, y, ps, cc, rfl, Dq.same s13 _ _ g3, fx x3 (by simp), hR x3 (by simp), pv_.same s13, fun H4 s4 => q _ (s13.trans s4)⟩
                  · rw [decide_eq_false h2]
                    rw [if_pos (.inr h2)] at hlaw
                    rw [goodF_eq, hlaw] at q
                    exact iteT (q _ s1)
                rw [show (["let", "each"] : List Str).contains kd = false by
                  cases e : (["let", "each"] : List Str).contains kd with
                  | false => rfl
                  | true =>
                    have := List.contains_iff_mem.mp e
                    simp only [List.mem_cons, List.not_mem_nil, or_false] at this
                    exact absurd this el]
                have nl : kd ≠ "let" ∧ kd ≠ "each" := ⟨fun z => el (.inl z), fun z => el (.inr z)⟩
                refine iteT ⟨_, rfl, rfl, _, rfl, ?_⟩
                rw [dec_str]
                by_cases ew : kd = "want"
                · rw [decide_eq_true ew]
                  refine iteF ⟨_, rfl, rfl, _, rfl, ?_⟩
                  have hk : kd = "let" ∨ kd = "each" ∨ kd = "want" := .inr (.inr ew)
                  have hR := hR hk
                  rw [if_pos hk] at hin
                  have pv2 := pv_
                  rcases pv2 with ⟨ey, ep⟩ | ⟨ap, l, ey, ep, sq⟩
                  · rw [if_pos (.inl ⟨nl, .inr ep⟩)] at hlaw
                    rw [goodF_eq, hlaw] at q
                    rw [ey]
                    exact iteT (iteT (q _ s1))
                  · have np_ : ps ≠ none := fun z => by
                      rw [z] at ep
                      cases ep
                    rw [show decide (y = V.non) = false from decide_eq_false (by rw [ey]; exact fun z => nomatch z)]
                    refine iteF ?_
                    refine ⟨_, rfl, a, _, rfl, .inr (SqT.of h1p), rfl, _, rfl, ?_⟩
                    rw [show (4 : Int) = ((2 + 2 : Nat) : Int) from rfl, hlen 2]
                    by_cases h2 : r.length = 2
                    · rw [decide_eq_true h2]
                      refine iteF ?_
                      rw [if_neg (fun z => z.elim (fun z => z.2.elim (fun z => z ew) np_) (fun z => z h2))] at hlaw
                      rw [goodF_eq, hin, hlaw] at q
                      refine ⟨_, rfl, _, rfl, _, rfl, b, v1, d1, kd, y, ps, rfl, Dq.same s1 _ _ g1, small_of f1, pv_.same s1, fun H2 s2 => ⟨_, rfl, ?_⟩⟩
                      have s12 := s1.trans s2
                      cases eb : bindD ps kd d1 with
                      | false =>
                        rw [eb] at q
                        exact iteT (q _ s12)
                      | true =>
                        rw [eb] at q
                        refine iteF ?_
                        match r, vr, g, h2, q, hR with
                        | [x2, x3], [v2, v3], .cons g2 (.cons g3 .nil), _, q, hR =>
                          have q : ∀ H', Same H H' → Q (.bl (goodF (lawPart ps cc) x2 && (goodF (lawPart ps cc) x3 && true))) H' := q
                          have fx := fine_tup fd_
                          refine ⟨_, rfl, a, _, _, v2, rfl, rfl, SqT.of (s12 _ _ h1), at2, _, rfl, _, rfl, b, v2, x2, y, ps, cc, rfl, Dq.same s12 _ _ g2, fx x2 (by simp), hR x2 (by simp), pv_.same s12, fun H3 s3 => ⟨_, rfl, ?_⟩⟩
                          cases eg : goodF (lawPart ps cc) x2 with
                          | false =>
                            rw [eg] at q
                            exact iteF (q _ (s12.trans s3))
                          | true =>
                            rw [eg, Bool.and_true] at q
                            have s13 := s12.trans s3
                            exact iteT ⟨_, rfl, a, _, _, v3, rfl, rfl, SqT.of (s13 _ _ h1), at3, _, rfl, _, rfl, b, v3, x3, y, ps, cc, rfl, Dq.same s13 _ _ g3, fx x3 (by simp), hR x3 (by simp), pv_.same s13, fun H4 s4 => q _ (s13.trans s4)⟩
                    · rw [decide_eq_false h2]
                      rw [if_pos (.inr h2)] at hlaw
                      rw [goodF_eq, hlaw] at q
                      exact iteT (q _ s1)
                · rw [decide_eq_false ew]
                  rw [if_pos (.inl ⟨nl, .inl ew⟩)] at hlaw
                  rw [goodF_eq, hlaw] at q
                  exact iteT (iteT (q _ s1))
            | _ => exact iteT (by have q := q _ (fun _ _ z => z); rw [good_no rfl] at q; exact q)
      | _ => exact iteT (iteT (by have q := q _ (fun _ _ z => z); rw [good_no rfl] at q; exact q))
end
end K11
set_option Elab.async false
set_option linter.all false
set_option maxRecDepth 100000
namespace K11
open PySem PySem.Spec PyProof.Rows L2 CaV CaL CaN CaD
def spPool : Sp := fun vs H Q _ => ∃ (b : Addr) (n : Nat), vs = [.ref b] ∧ Bx H b n ∧ n < 900000 ∧
  ∀ (p : Addr) (zs : List Str) (H' : Hp), H p = none → Kp b H H' → Bx H' b (n + 8) → zs.length = 5 → (∀ z ∈ zs, nameS z = true) → H' p = some (.lst (zs.map V.str)) → p ≠ b → Q (.ref p) H'
theorem kp_none {b p : Addr} {H H' : Hp} {n : Nat} (k : Kp b H H') (x : Bx H' b n) (h : H' p = none) : H p = none := k.free x h
section
variable {P : Program} {w : World} {K : PySem.W.Frag} {mg : Str → Option Value} {base : Heap}
set_option maxHeartbeats 2000000 in
theorem ok_l_pool {k : Nat} (T : TP K mg) : FnOk P w K mg base CX0 (k + 2) T.d_l_pool.f T.d_l_pool.fd ["_law_purse_here"] spPool := by
  have G_l_take : FnOk P w K mg base CX0 1 T.d_l_take.f T.d_l_take.fd ["_law_purse_here", "_law_many"] spTake := ok_take T
  refine T.d_l_pool.F.ok sc_l_pool (fun vs H Q E h => ?_) (fun cdv A outer s H vs Q E hr h => ?_)
  · obtain ⟨b, n, rfl, _⟩ := h
    rfl
  · obtain ⟨b, n, rfl, bx, hn, q⟩ := h
    refine ⟨_, (pss_cons (ps_set (i := 1) sc_l_pool.nd rfl (.inr rfl) pe_str)
    (pss_cons (ps_set (i := 2) sc_l_pool.nd rfl (.inl rfl) (pe_call G_l_take (hr.mono (by omega)) (by rfl) T.d_l_take.g T.d_l_take.F.kp T.d_l_take.b .nil pass0 (pa_cons (pv 0) (pa_cons pe_int pa_nil))))
    (pss_cons (ps_asg (pe_tup (pa_cons (pe_call G_l_take (hr.mono (by omega)) (by rfl) T.d_l_take.g T.d_l_take.F.kp T.d_l_take.b .nil pass0 (pa_cons (pv 0) (pa_cons pe_int pa_nil))) (pa_cons (pe_call G_l_take (hr.mono (by omega)) (by rfl) T.d_l_take.g T.d_l_take.F.kp T.d_l_take.b .nil pass0 (pa_cons (pv 0) (pa_cons pe_int pa_nil))) pa_nil))) (pg_tup rfl (pgs_cons (pg_name (i := 3) sc_l_pool.nd rfl (.inr rfl)) (pgs_cons (pg_name (i := 4) sc_l_pool.nd rfl (.inr rfl)) pgs_nil))))
    (pss_cons (ps_set (i := 5) sc_l_pool.nd rfl (.inr rfl) (pe_join pe_str (pe_lc (own := [("_law_k", 9)]) (g := gName 9) (tt := tYes) (by rfl) sc_l_pool.nd (pi_range1 (by rfl) T.n_range (pa_cons pe_int pa_nil)) (blkOk_by (own := [("_law_k", 9)]) (N := N_l_pool) (sc := defScope s_l_pool) (by decide +kernel)) (fun _ _ _ _ _ => pg_name (i := 9) sc_l_pool.nd rfl (Or.inl rfl)) (fun _ _ _ _ _ => pts_nil) (fun _ _ _ _ _ => (pe_ix ix_str (pv 1) (pe_call G_l_take (hr.mono (by omega)) (by rfl) T.d_l_take.g T.d_l_take.F.kp T.d_l_take.b .nil pass0 (pa_cons (pv 0) (pa_cons pe_int pa_nil))) (fun _ _ => rfl))))))
    (pss_cons (ps_setLc (i := 6) (own := [("_law_k", 9)]) (g := gName 9) (tt := tYes) (by rfl) sc_l_pool.nd rfl rfl (sw_true rfl rfl rfl (by decide +kernel)) (pi_range1 (by rfl) T.n_range (pa_cons pe_int pa_nil)) (blkOk_by (own := [("_law_k", 9)]) (N := N_l_pool) (sc := defScope s_l_pool) (by decide +kernel)) (fun _ _ _ _ _ => pg_name (i := 9) sc_l_pool.nd rfl (Or.inl rfl)) (fun _ _ _ _ _ => pts_nil) (fun _ _ _ _ _ => (pe_ix ix_str (pv 1) (pe_op op_mod (pe_op op_add (pv 3) (pe_op op_mul pe_int (pv 9))) pe_int) (fun _ _ => rfl))))
    (pss_cons (ps_setLc (i := 7) (own := [("_law_letter", 10)]) (g := gName 10) (tt := tYes) (by rfl) sc_l_pool.nd rfl rfl (sw_true rfl rfl rfl (by decide +kernel)) (pi_list (pv 6)) (blkOk_by (own := [("_law_letter", 10)]) (N := N_l_pool) (sc := defScope s_l_pool) (by decide +kernel)) (fun _ _ _ _ _ => pg_name (i := 10) sc_l_pool.nd rfl (Or.inl rfl)) (fun _ _ _ _ _ => pts_nil) (fun _ _ _ _ _ => (pe_op op_add_str (pe_op op_add_str (pe_slice sl_str (pv 5) po_none (po_some (pv 4))) (pv 10)) (pe_slice sl_str (pv 5) (po_some (pv 4)) po_none))))
    (pss_cons (ps_if (pt_cmpR op_eq (pv 2) pe_int (nomark _))
      (pss_one (ps_setLc (i := 7) (own := [("_law_k", 9)]) (g := gName 9) (tt := tYes) (by rfl) sc_l_pool.nd rfl rfl (sw_true rfl rfl rfl (by decide +kernel)) (pi_range1 (by rfl) T.n_range (pa_cons pe_int pa_nil)) (blkOk_by (own := [("_law_k", 9)]) (N := N_l_pool) (sc := defScope s_l_pool) (by decide +kernel)) (fun _ _ _ _ _ => pg_name (i := 9) sc_l_pool.nd rfl (Or.inl rfl)) (fun _ _ _ _ _ => pts_nil) (fun _ _ _ _ _ => (pe_slice sl_str (pe_op op_add_str (pv 5) (pe_ix ix_str (pv 1) (pv 3) (fun _ _ => rfl))) po_none (po_some (pe_op op_add pe_int (pe_op op_mod (pe_op op_add (pv 4) (pv 9)) pe_int)))))))
      pss_nil)
    (pss_cons (ps_if (pt_cmpR op_eq (pv 2) pe_int (nomark _))
      (pss_one (ps_set (i := 7) sc_l_pool.nd rfl (.inl rfl) (pe_lst (pa_cons pe_str (pa_cons pe_str (pa_cons pe_str (pa_cons pe_str (pa_cons pe_str pa_nil))))))))
      pss_nil)
    (pss_cons (ps_set (i := 8) sc_l_pool.nd rfl (.inr rfl) (pe_lst (pa_cons pe_str (pa_cons pe_str (pa_cons pe_str (pa_cons pe_str (pa_cons pe_str pa_nil)))))))
    (pss_one (ps_ret (pe_lc (own := [("_law_name", 11)]) (g := gName 11) (tt := tYes) (by rfl) sc_l_pool.nd (pi_list (pv 7)) (blkOk_by (own := [("_law_name", 11)]) (N := N_l_pool) (sc := defScope s_l_pool) (by decide +kernel)) (fun _ _ _ _ _ => pg_name (i := 11) sc_l_pool.nd rfl (Or.inl rfl)) (fun _ _ _ _ _ => pts_nil) (fun _ _ _ _ _ => (pe_op op_add_str (pv 11) (pe_op op_mul01 pe_str (pe_callTy call_int1 (by rfl) T.n_int (by decide +kernel) (pa_cons (pe_cmpR (show OpR _ (compareOp .In) (rIn K false) from op_in_seq) (pv 11) (pv 8) (by with_unfolding_all rfl)) pa_nil))))))))))))))))), ?_⟩
    refine ⟨_, rfl, b, _, n, rfl, bx, by omega, by decide, by decide, fun d1 H1 l1 u1 x1 k1 => ?_⟩
    refine ⟨_, rfl, b, _, n + 1, rfl, x1, by omega, by decide, by decide, fun d2 H2 l2 u2 x2 k2 => ?_⟩
    refine ⟨_, rfl, b, _, n + 2, rfl, x2, by omega, by decide, by decide, fun d3 H3 l3 u3 x3 k3 => ?_⟩
    refine ⟨(by show 2 ≤ sizeLine; decide), fun pt npt => ⟨pt, _, rfl, SqT.of upd_same, rfl, _, _, rfl, _, _, rfl, rfl, ?_⟩⟩
    have x3 := x3.new (o := .tup [.int d2, .int d3]) npt
    have k3 := k3.trans (Kp.new (b := b) (o := .tup [.int d2, .int d3]) npt)
    show tSeq _ _ _ _ (upd H3 pt (.tup [.int d2, .int d3]))
    generalize upd H3 pt (.tup [.int d2, .int d3]) = H3 at x3 k3 ⊢
    have u2 : d2 < 26 := u2
    have u3 : d3 < 6 := u3
    have k03 := (k1.trans k2).trans k3
    -- the stem
    refine ⟨⟨_, rfl⟩, 5, rfl, by decide, by decide, fun D hD => ?_⟩
    have nD := x3.ne hD
    refine lc_range (lo := 0) (n := 5) (fun i H5 => ∃ ys : List Str, H5 D = some (.lst (ys.map V.str)) ∧ ys.length = i ∧ (∀ y ∈ ys, y.length = 1 ∧ Lo y) ∧ Bx H5 b (n + 3 + i) ∧ Kp b H3 H5) ⟨[], upd_same, rfl, (fun y hy => nomatch hy), x3.new hD, Kp.new hD⟩ ?_ ?_
    · rintro i H5 hi ⟨ys, hys, hl, h1, x5, k5⟩
      refine ⟨rfl, yes_at ?_⟩
      refine ⟨_, rfl, _, rfl, b, _, _, rfl, x5, by omega, by decide, by decide, fun d4 H6 l4 u4 x6 k6 => ?_⟩
      obtain ⟨c, hc, ec⟩ := atI_in (xs := ("abcdefghijklmnopqrstuvwxyz" : Str).cps.toList) (i := d4) l4 (by rw [letters_tl]; exact u4)
      refine ⟨_, _, c, rfl, rfl, by decide +kernel, ec, ys.map V.str, k6 D _ hys nD, by rw [List.length_map]; exact Nat.lt_of_le_of_lt (show ys.length ≤ 9 by omega) (by decide), ys ++ [⟨#[c]⟩], by rw [upd_same, List.map_append]; rfl, by rw [List.length_append, hl]; rfl, fun y hy => ?_, ?_, fun a o e na => ?_⟩
      · rcases List.mem_append.mp hy with hy | hy
        · exact h1 y hy
        · rw [List.mem_singleton.mp hy]
          exact ⟨rfl, lo_one (letters_low c hc)⟩
      · obtain ⟨m, r, c', e1, e2⟩ := x6
        exact ⟨m, r, c', by rw [upd_ne nD.symm]; exact e1, e2⟩
      · rw [upd_ne (ne_of_none e hD)]
        exact k6 a o (k5 a o e na) na
    rintro H4 ⟨ys, hys, hl, h1, x4, k4⟩
    obtain ⟨jl, jo⟩ := join_lo h1
    refine ⟨_, D, ys, rfl, rfl, .inl (SqL.of hys), ?_, ?_⟩
    · rw [sum_ones fun y hy => (h1 y hy).1, hl, show ("" : Str).length = 0 by decide +kernel]
      omega
    generalize Txt.join "" ys = stem at jl jo ⊢
    have jl : stem.length = 5 := by omega
    have k04 := k03.trans k4
    clear hys h1 hl
    -- turned
    refine ⟨5, rfl, by decide, by decide, fun D2 hD2 => ?_⟩
    have nD2 := x4.ne hD2
    refine lc_range (lo := 0) (n := 5) (fun i H5 => ∃ ys : List Str, H5 D2 = some (.lst (ys.map V.str)) ∧ ys.length = i ∧ (∀ y ∈ ys, y.length = 1 ∧ Lo y) ∧ Same H4 H5) ⟨[], upd_same, rfl, (fun y hy => nomatch hy), same_new hD2⟩ ?_ ?_
    · rintro i H5 hi ⟨ys, hys, hl, h1, s5⟩
      refine ⟨rfl, yes_at ?_⟩
      obtain ⟨c, hc, ec⟩ := atI_in (xs := ("abcdefghijklmnopqrstuvwxyz" : Str).cps.toList) (i := (d2 + 5 * (0 + (i : Int))) % 26) (by omega) (by rw [letters_tl]; omega)
      refine ⟨_, rfl, _, rfl, _, rfl, _, _, rfl, rfl, .inl ⟨by decide, by decide⟩, _, _, rfl, rfl, _, _, rfl, rfl, (by decide : (0 : Int) < 26), ?_⟩
      refine ⟨_, _, c, rfl, rfl, by decide +kernel, ec, ys.map V.str, hys, by rw [List.length_map]; exact Nat.lt_of_le_of_lt (show ys.length ≤ 9 by omega) (by decide), ys ++ [⟨#[c]⟩], by rw [upd_same, List.map_append]; rfl, by rw [List.length_append, hl]; rfl, fun y hy => ?_, fun a o e => ?_⟩
      · rcases List.mem_append.mp hy with hy | hy
        · exact h1 y hy
        · rw [List.mem_singleton.mp hy]
          exact ⟨rfl, lo_one (letters_low c hc)⟩
      · rw [upd_ne (ne_of_none e hD2)]
        exact s5 a o e
    rintro H5 ⟨ts, hts, htl, ht1, s5⟩
    have x5 := x4.same s5
    have k05 := k04.trans (Kp.of_same s5)
    -- found
    refine ⟨_, rfl, _, rfl, ⟨_, SqL.of hts⟩, fun D3 hD3 => ?_⟩
    refine lc_list (K := K) (a := D2) (xs := ts.map V.str) (fun i H6 => ∃ ys : List Str, H6 D3 = some (.lst (ys.map V.str)) ∧ ys.length = i ∧ (∀ y ∈ ys, Lo y ∧ 1 ≤ y.length ∧ y.length ≤ 6) ∧ Same H5 H6) ⟨[], upd_same, rfl, (fun y hy => nomatch hy), same_new hD3⟩ (fun i H6 _ z => ?_) ?_ ?_
    · obtain ⟨ys, _, _, _, s6⟩ := z
      exact SqL.of (s6 _ _ hts)
    · rintro i u H6 hu ⟨ys, hys, hl, h1, s6⟩
      obtain ⟨z, hz, rfl⟩ : ∃ z, z ∈ ts ∧ u = .str z := by
        obtain ⟨z, hz, e⟩ := List.mem_map.mp (mem_get hu)
        exact ⟨z, hz, e.symm⟩
      have hi := (List.getElem?_eq_some_iff.mp hu).1
      rw [List.length_map] at hi
      obtain ⟨z1, z2⟩ := ht1 z hz
      have c1 := cut_to stem l3
      have c2 := cut_from stem l3
      have a1 := app_len (cutS stem none (some d3)) z
      have a2 := app_len (cutS stem none (some d3) ++ z) (cutS stem (some d3) none)
      refine ⟨rfl, yes_at ?_⟩
      refine ⟨_, rfl, _, rfl, _, rfl, _, rfl, sz100 (by omega), _, rfl, _, _, rfl, rfl, sz100 (by omega), _, rfl, _, rfl, _, rfl, _, rfl, sz100 (by omega), _, _, rfl, rfl, sz100 (by omega), ?_⟩
      refine ⟨ys.map V.str, hys, by rw [List.length_map]; exact Nat.lt_of_le_of_lt (show ys.length ≤ 9 by omega) (by decide), ys ++ [(cutS stem none (some d3) ++ z) ++ cutS stem (some d3) none], by rw [upd_same, List.map_append]; rfl, by rw [List.length_append, hl]; rfl, fun y hy => ?_, fun a o e => ?_⟩
      · rcases List.mem_append.mp hy with hy | hy
        · exact h1 y hy
        · rw [List.mem_singleton.mp hy]
          exact ⟨lo_app (lo_app (lo_cut _ _ jo) z2) (lo_cut _ _ jo), by omega, by omega⟩
      · rw [upd_ne (ne_of_none e hD3)]
        exact s6 a o e
    rintro H6 ⟨fs, hfs, hfl, hf1, s6⟩
    rw [List.length_map] at hfl
    have x6 := x5.same s6
    have k06 := k05.trans (Kp.of_same s6)
    refine ⟨_, rfl, rfl, _, rfl, ?_⟩
    by_cases e0 : d1 = 0
    · rw [show decide (V.int d1 = V.int 0) = true from decide_eq_true (by rw [e0])]
      refine iteT ?_
      refine ⟨5, rfl, by decide, by decide, fun D4 hD4 => ?_⟩
      refine lc_range (lo := 0) (n := 5) (fun i H7 => ∃ ys : List Str, H7 D4 = some (.lst (ys.map V.str)) ∧ ys.length = i ∧ (∀ y ∈ ys, Lo y ∧ 1 ≤ y.length ∧ y.length ≤ 6) ∧ Same H6 H7) ⟨[], upd_same, rfl, (fun y hy => nomatch hy), same_new hD4⟩ ?_ ?_
      · rintro i H7 hi ⟨ys, hys, hl, h1, s7⟩
        refine ⟨rfl, yes_at ?_⟩
        obtain ⟨c, hc, ec⟩ := atI_in (xs := ("abcdefghijklmnopqrstuvwxyz" : Str).cps.toList) (i := d2) l2 (by rw [letters_tl]; exact u2)
        have a1 := app_len stem ⟨#[c]⟩
        have o1 : (⟨#[c]⟩ : Str).length = 1 := rfl
        have lo6 : Lo (stem ++ ⟨#[c]⟩) := lo_app jo (lo_one (letters_low c hc))
        refine ⟨_, rfl, _, rfl, _, rfl, _, _, c, rfl, rfl, by decide +kernel, ec, _, _, rfl, rfl, sz100 (by omega), ?_⟩
        have cc := cut_to (stem ++ ⟨#[c]⟩) (i := 1 + (d3 + (0 + (i : Int))) % 6) (by omega)
        refine ⟨_, rfl, _, rfl, _, _, rfl, rfl, _, _, rfl, rfl, (by decide : (0 : Int) < 6), _, _, rfl, rfl, _, rfl, _, rfl, sz100 (by omega), ?_⟩
        refine ⟨ys.map V.str, hys, by rw [List.length_map]; exact Nat.lt_of_le_of_lt (show ys.length ≤ 9 by omega) (by decide), ys ++ [cutS (stem ++ ⟨#[c]⟩) none (some (1 + (d3 + (0 + (i : Int))) % 6))], by rw [upd_same, List.map_append]; rfl, by rw [List.length_append, hl]; rfl, fun y hy => ?_, fun a o e => ?_⟩
        · rcases List.mem_append.mp hy with hy | hy
          · exact h1 y hy
          · rw [List.mem_singleton.mp hy]
            exact ⟨lo_cut _ _ lo6, by omega, by omega⟩
        · rw [upd_ne (ne_of_none e hD4)]
          exact s7 a o e
      rintro H7 ⟨gs, hgs, hgl, hg1, s7⟩
      have x7 := x6.same s7
      have k07 := k06.trans (Kp.of_same s7)
      refine ⟨_, rfl, rfl, _, rfl, ?_⟩
      rw [show decide (V.int d1 = V.int 1) = false from decide_eq_false (by rw [e0]; exact fun z => by cases z)]
      refine iteF ?_
      -- own words, the names
      refine ⟨(by show 5 ≤ sizeLine; decide), fun po npo => ?_⟩
      have so := same_new (o := .lst (kws.map V.str)) npo
      have xo := x7.new (o := .lst (kws.map V.str)) npo
      have ko : Kp b H _ := k07.trans (Kp.new (b := b) (o := .lst (kws.map V.str)) npo)
      have hpo : (upd H7 po (.lst (kws.map V.str))) po = some (.lst (kws.map V.str)) := upd_same
      have hfo := so _ _ hgs
      show gName 8 (.ref po) _ (upd H7 po (.lst (kws.map V.str))) _
      generalize upd H7 po (.lst (kws.map V.str)) = Ho at so xo ko hpo hfo ⊢
      refine ⟨_, rfl, _, rfl, ⟨_, SqL.of hfo⟩, fun D hD => ?_⟩
      refine lc_list (K := K) (a := D4) (xs := gs.map V.str) (fun i H5 => ∃ ys : List Str, H5 D = some (.lst (ys.map V.str)) ∧ ys.length = i ∧ (∀ y ∈ ys, nameS y = true) ∧ Same Ho H5) ⟨[], upd_same, rfl, (fun y hy => nomatch hy), same_new hD⟩ (fun i H5 _ z => ?_) ?_ ?_
      · obtain ⟨ys, _, _, _, s5⟩ := z
        exact SqL.of (s5 _ _ hfo)
      · rintro i u H5 hu ⟨ys, hys, hl, hn, s5⟩
        obtain ⟨z, hz, rfl⟩ : ∃ z, z ∈ gs ∧ u = .str z := by
          obtain ⟨z, hz, e⟩ := List.mem_map.mp (mem_get hu)
          exact ⟨z, hz, e.symm⟩
        have hi := (List.getElem?_eq_some_iff.mp hu).1
        rw [List.length_map] at hi
        have hll : (gs).length = 5 := hgl
        obtain ⟨q1, q2, q3⟩ := hg1 z hz
        have mn := made_name q1 q2 q3
        refine ⟨rfl, yes_at ?_⟩
        refine ⟨_, rfl, _, rfl, _, rfl, po, _, rfl, .inl (SqL.of (s5 _ _ hpo)), rfl, by decide +kernel, .inr ⟨_, rfl, _, _, rfl, rfl, ?_⟩⟩
        have step : ∀ t : Str, t.length ≤ 1 → nameS (z ++ t) = true → ∃ za zb, V.str z = .str za ∧ V.str t = .str zb ∧ za.length + zb.length ≤ sizeLine ∧ ∃ acc, H5 D = some (.lst acc) ∧ acc.length < sizeLine ∧ ∃ ys : List Str, (upd H5 D (.lst (acc ++ [.str (za ++ zb)]))) D = some (.lst (ys.map V.str)) ∧ ys.length = i + 1 ∧ (∀ y ∈ ys, nameS y = true) ∧ Same Ho (upd H5 D (.lst (acc ++ [.str (za ++ zb)]))) := fun t ht hn2 => by
          refine ⟨z, t, rfl, rfl, sz100 (by omega), _, hys, ?_, ys ++ [z ++ t], by rw [upd_same, List.map_append]; rfl, by rw [List.length_append, hl]; rfl, fun y hy => ?_, fun c o e => ?_⟩
          · rw [List.length_map, hl]
            exact Nat.lt_of_le_of_lt (show i ≤ 5 by omega) (by decide)
          · rcases List.mem_append.mp hy with hy | hy
            · exact hn y hy
            · rw [List.mem_singleton.mp hy]
              exact hn2
          · rw [upd_ne (ne_of_none e hD)]
            exact s5 _ _ e
        cases ez : inV (.str z) (kws.map V.str) with
        | true =>
          rw [ez, if_pos rfl] at mn
          exact .inr ⟨rfl, step "a" (by decide +kernel) mn⟩
        | false =>
          rw [ez, if_neg (by decide)] at mn
          exact .inl ⟨rfl, step "" (by decide +kernel) mn⟩
      · rintro H5 ⟨ys, hys, hl, hn, s5⟩
        rw [List.length_map] at hl
        have nD : H D = none := ko.free xo hD
        exact q _ ys _ nD (ko.trans (Kp.of_same s5)) ((xo.same s5).mono (by omega)) (by rw [hl]; exact hgl) hn hys (xo.ne hD)
    rw [show decide (V.int d1 = V.int 0) = false from decide_eq_false (fun z => e0 (V.int.inj z))]
    refine iteF ?_
    refine ⟨_, rfl, rfl, _, rfl, ?_⟩
    by_cases e1 : d1 = 1
    · rw [show decide (V.int d1 = V.int 1) = true from decide_eq_true (by rw [e1])]
      refine iteT ?_
      refine ⟨(by show 5 ≤ sizeLine; decide), fun D4 hD4 => ?_⟩
      have s7 := same_new (o := .lst ((["lets", "inn", "i", "eachs", "ofx"] : List Str).map V.str)) hD4
      have hgs : (upd H6 D4 (.lst ((["lets", "inn", "i", "eachs", "ofx"] : List Str).map V.str))) D4 = some (.lst ((["lets", "inn", "i", "eachs", "ofx"] : List Str).map V.str)) := upd_same
      show tSeq _ _ _ _ (upd H6 D4 (.lst ((["lets", "inn", "i", "eachs", "ofx"] : List Str).map V.str)))
      generalize upd H6 D4 (.lst ((["lets", "inn", "i", "eachs", "ofx"] : List Str).map V.str)) = H7 at s7 hgs ⊢
      have x7 := x6.same s7
      have k07 := k06.trans (Kp.of_same s7)
      -- own words, the names
      refine ⟨(by show 5 ≤ sizeLine; decide), fun po npo => ?_⟩
      have so := same_new (o := .lst (kws.map V.str)) npo
      have xo := x7.new (o := .lst (kws.map V.str)) npo
      have ko : Kp b H _ := k07.trans (Kp.new (b := b) (o := .lst (kws.map V.str)) npo)
      have hpo : (upd H7 po (.lst (kws.map V.str))) po = some (.lst (kws.map V.str)) := upd_same
      have hfo := so _ _ hgs
      show gName 8 (.ref po) _ (upd H7 po (.lst (kws.map V.str))) _
      generalize upd H7 po (.lst (kws.map V.str)) = Ho at so xo ko hpo hfo ⊢
      refine ⟨_, rfl, _, rfl, ⟨_, SqL.of hfo⟩, fun D hD => ?_⟩
      refine lc_list (K := K) (a := D4) (xs := ((["lets", "inn", "i", "eachs", "ofx"] : List Str)).map V.str) (fun i H5 => ∃ ys : List Str, H5 D = some (.lst (ys.map V.str)) ∧ ys.length = i ∧ (∀ y ∈ ys, nameS y = true) ∧ Same Ho H5) ⟨[], upd_same, rfl, (fun y hy => nomatch hy), same_new hD⟩ (fun i H5 _ z => ?_) ?_ ?_
      · obtain ⟨ys, _, _, _, s5⟩ := z
        exact SqL.of (s5 _ _ hfo)
      · rintro i u H5 hu ⟨ys, hys, hl, hn, s5⟩
        obtain ⟨z, hz, rfl⟩ : ∃ z, z ∈ ((["lets", "inn", "i", "eachs", "ofx"] : List Str)) ∧ u = .str z := by
          obtain ⟨z, hz, e⟩ := List.mem_map.mp (mem_get hu)
          exact ⟨z, hz, e.symm⟩
        have hi := (List.getElem?_eq_some_iff.mp hu).1
        rw [List.length_map] at hi
        have hll : (((["lets", "inn", "i", "eachs", "ofx"] : List Str))).length = 5 := rfl
        obtain ⟨q1, q2, q3⟩ := fixed_lo z hz
        have mn := made_name q1 q2 q3
        refine ⟨rfl, yes_at ?_⟩
        refine ⟨_, rfl, _, rfl, _, rfl, po, _, rfl, .inl (SqL.of (s5 _ _ hpo)), rfl, by decide +kernel, .inr ⟨_, rfl, _, _, rfl, rfl, ?_⟩⟩
        have step : ∀ t : Str, t.length ≤ 1 → nameS (z ++ t) = true → ∃ za zb, V.str z = .str za ∧ V.str t = .str zb ∧ za.length + zb.length ≤ sizeLine ∧ ∃ acc, H5 D = some (.lst acc) ∧ acc.length < sizeLine ∧ ∃ ys : List Str, (upd H5 D (.lst (acc ++ [.str (za ++ zb)]))) D = some (.lst (ys.map V.str)) ∧ ys.length = i + 1 ∧ (∀ y ∈ ys, nameS y = true) ∧ Same Ho (upd H5 D (.lst (acc ++ [.str (za ++ zb)]))) := fun t ht hn2 => by
          refine ⟨z, t, rfl, rfl, sz100 (by omega), _, hys, ?_, ys ++ [z ++ t], by rw [upd_same, List.map_append]; rfl, by rw [List.length_append, hl]; rfl, fun y hy => ?_, fun c o e => ?_⟩
          · rw [List.length_map, hl]
            exact Nat.lt_of_le_of_lt (show i ≤ 5 by omega) (by decide)
          · rcases List.mem_append.mp hy with hy | hy
            · exact hn y hy
            · rw [List.mem_singleton.mp hy]
              exact hn2
          · rw [upd_ne (ne_of_none e hD)]
            exact s5 _ _ e
        cases ez : inV (.str z) (kws.map V.str) with
        | true =>
          rw [ez, if_pos rfl] at mn
          exact .inr ⟨rfl, step "a" (by decide +kernel) mn⟩
        | false =>
          rw [ez, if_neg (by decide)] at mn
          exact .inl ⟨rfl, step "" (by decide +kernel) mn⟩
      · rintro H5 ⟨ys, hys, hl, hn, s5⟩
        rw [List.length_map] at hl
        have nD : H D = none := ko.free xo hD
        exact q _ ys _ nD (ko.trans (Kp.of_same s5)) ((xo.same s5).mono (by omega)) (by rw [hl]; exact rfl) hn hys (xo.ne hD)
    · rw [show decide (V.int d1 = V.int 1) = false from decide_eq_false (fun z => e1 (V.int.inj z))]
      refine iteF ?_
      -- own words, the names
      refine ⟨(by show 5 ≤ sizeLine; decide), fun po npo => ?_⟩
      have so := same_new (o := .lst (kws.map V.str)) npo
      have xo := x6.new (o := .lst (kws.map V.str)) npo
      have ko : Kp b H _ := k06.trans (Kp.new (b := b) (o := .lst (kws.map V.str)) npo)
      have hpo : (upd H6 po (.lst (kws.map V.str))) po = some (.lst (kws.map V.str)) := upd_same
      have hfo := so _ _ hfs
      show gName 8 (.ref po) _ (upd H6 po (.lst (kws.map V.str))) _
      generalize upd H6 po (.lst (kws.map V.str)) = Ho at so xo ko hpo hfo ⊢
      refine ⟨_, rfl, _, rfl, ⟨_, SqL.of hfo⟩, fun D hD => ?_⟩
      refine lc_list (K := K) (a := D3) (xs := fs.map V.str) (fun i H5 => ∃ ys : List Str, H5 D = some (.lst (ys.map V.str)) ∧ ys.length = i ∧ (∀ y ∈ ys, nameS y = true) ∧ Same Ho H5) ⟨[], upd_same, rfl, (fun y hy => nomatch hy), same_new hD⟩ (fun i H5 _ z => ?_) ?_ ?_
      · obtain ⟨ys, _, _, _, s5⟩ := z
        exact SqL.of (s5 _ _ hfo)
      · rintro i u H5 hu ⟨ys, hys, hl, hn, s5⟩
        obtain ⟨z, hz, rfl⟩ : ∃ z, z ∈ fs ∧ u = .str z := by
          obtain ⟨z, hz, e⟩ := List.mem_map.mp (mem_get hu)
          exact ⟨z, hz, e.symm⟩
        have hi := (List.getElem?_eq_some_iff.mp hu).1
        rw [List.length_map] at hi
        have hll : (fs).length = 5 := (hfl.trans htl)
        obtain ⟨q1, q2, q3⟩ := hf1 z hz
        have mn := made_name q1 q2 q3
        refine ⟨rfl, yes_at ?_⟩
        refine ⟨_, rfl, _, rfl, _, rfl, po, _, rfl, .inl (SqL.of (s5 _ _ hpo)), rfl, by decide +kernel, .inr ⟨_, rfl, _, _, rfl, rfl, ?_⟩⟩
        have step : ∀ t : Str, t.length ≤ 1 → nameS (z ++ t) = true → ∃ za zb, V.str z = .str za ∧ V.str t = .str zb ∧ za.length + zb.length ≤ sizeLine ∧ ∃ acc, H5 D = some (.lst acc) ∧ acc.length < sizeLine ∧ ∃ ys : List Str, (upd H5 D (.lst (acc ++ [.str (za ++ zb)]))) D = some (.lst (ys.map V.str)) ∧ ys.length = i + 1 ∧ (∀ y ∈ ys, nameS y = true) ∧ Same Ho (upd H5 D (.lst (acc ++ [.str (za ++ zb)]))) := fun t ht hn2 => by
          refine ⟨z, t, rfl, rfl, sz100 (by omega), _, hys, ?_, ys ++ [z ++ t], by rw [upd_same, List.map_append]; rfl, by rw [List.length_append, hl]; rfl, fun y hy => ?_, fun c o e => ?_⟩
          · rw [List.length_map, hl]
            exact Nat.lt_of_le_of_lt (show i ≤ 5 by omega) (by decide)
          · rcases List.mem_append.mp hy with hy | hy
            · exact hn y hy
            · rw [List.mem_singleton.mp hy]
              exact hn2
          · rw [upd_ne (ne_of_none e hD)]
            exact s5 _ _ e
        cases ez : inV (.str z) (kws.map V.str) with
        | true =>
          rw [ez, if_pos rfl] at mn
          exact .inr ⟨rfl, step "a" (by decide +kernel) mn⟩
        | false =>
          rw [ez, if_neg (by decide)] at mn
          exact .inl ⟨rfl, step "" (by decide +kernel) mn⟩
      · rintro H5 ⟨ys, hys, hl, hn, s5⟩
        rw [List.length_map] at hl
        have nD : H D = none := ko.free xo hD
        exact q _ ys _ nD (ko.trans (Kp.of_same s5)) ((xo.same s5).mono (by omega)) (by rw [hl]; exact (hfl.trans htl)) hn hys (xo.ne hD)
end
end K11
set_option Elab.async false
set_option linter.all false
set_option maxRecDepth 100000
namespace K11
open PySem PySem.Spec PyProof.Rows L2 CaV CaL CaN CaD
mutual
/-- no list and no dict within -/
def pureD : PyData → Bool
  | .none => true
  | .bool _ => true
  | .int _ => true
  | .str _ => true
  | .list _ => false
  | .tuple xs => pureAll xs
  | .dict _ => false
def pureAll : List PyData → Bool
  | [] => true
  | x :: xs => pureD x && pureAll xs
end
theorem Tp.kp {b : Addr} {H H' : Hp} {n : Nat} (x : Bx H b n) (k : Kp b H H') : Tp H H' := fun t xs e => by
  obtain ⟨m, r, c, h, _⟩ := x
  exact k _ _ e (ne_of e h (fun z => nomatch z))
section
variable {b : Addr} {H H' : Hp}
mutual
theorem dq_tp (k : Tp H H') : ∀ (d : PyData) (v : V), pureD d = true → Dq b H v d → Dq b H' v d
  | .none, _, _, h => by
    cases h
    exact .non
  | .bool y, _, _, h => by
    cases h
    exact .bl y
  | .int i, _, _, h => by
    cases h
    exact .int i
  | .str z, _, _, h => by
    cases h
    exact .str z
  | .list _, _, p, _ => by simp [pureD] at p
  | .tuple ds, _, p, h => by
    simp only [pureD] at p
    cases h with
    | tup h1 h2 => exact .tup (k _ _ h1) (dqAll_tp k ds _ p h2)
  | .dict _, _, p, _ => by simp [pureD] at p
theorem dqAll_tp (k : Tp H H') : ∀ (ds : List PyData) (vs : List V), pureAll ds = true → DqAll b H vs ds → DqAll b H' vs ds
  | [], _, _, h => by
    cases h
    exact .nil
  | d :: ds, _, p, h => by
    simp only [pureAll, Bool.and_eq_true] at p
    cases h with
    | cons h1 h2 => exact .cons (dq_tp k d _ p.1 h1) (dqAll_tp k ds _ p.2 h2)
end
end
theorem pureAll_app : ∀ (xs ys : List PyData), pureAll (xs ++ ys) = (pureAll xs && pureAll ys)
  | [], ys => rfl
  | x :: xs, ys => by
    rw [List.cons_append]
    simp only [pureAll]
    rw [pureAll_app xs ys, Bool.and_assoc]
/-- what a drawing hands on -/
def Draw (b : Addr) (H : Hp) (n : Nat) (room deep : Int) (Q : VK) : Prop := ∀ (v : V) (d : PyData) (H' : Hp), Kp b H H' → Bx H' b (n + 16 * room.toNat) → Dq b H' v d → fine d = true → pureD d = true → (wt d : Int) ≤ 4 * room → (d.depth : Int) ≤ 2 * deep → Q v H'
structure Pool (b : Addr) (H : Hp) (pp : Addr) (zs : List Str) : Prop where
  at_ : H pp = some (.lst (zs.map V.str))
  ne : pp ≠ b
  len : zs.length = 5
  nm : ∀ z ∈ zs, nameS z = true
def spPiece (m : Nat) : Sp := fun vs H Q _ => ∃ (b pp : Addr) (zs : List Str) (n : Nat) (room deep way : Int), vs = [.ref b, .ref pp, .int room, .int deep, .int way] ∧ Bx H b n ∧ Pool b H pp zs ∧ (1 ≤ room ∧ room ≤ 24 ∧ n + 16 * room.toNat + 100 < 900000) ∧ (1 ≤ deep ∧ deep ≤ m) ∧ (0 ≤ way ∧ way < 3) ∧ Draw b H n room deep Q
def spParts (m : Nat) : Sp := fun vs H Q _ => ∃ (b pp : Addr) (zs : List Str) (n : Nat) (room deep way many : Int), vs = [.ref b, .ref pp, .int room, .int deep, .int way, .int many] ∧ Bx H b n ∧ Pool b H pp zs ∧ (room ≤ 24 ∧ n + 16 * room.toNat + 110 < 900000) ∧ (0 ≤ many ∧ many ≤ 5 ∧ many ≤ room) ∧ (1 ≤ deep ∧ deep ≤ m) ∧ (0 ≤ way ∧ way < 3) ∧
  ∀ (p : Addr) (ws : List V) (ds : List PyData) (H' : Hp), Kp b H H' → Bx H' b (n + many.toNat + 16 * room.toNat) → H' p = some (.tup ws) → DqAll b H' ws ds → ds.length = many.toNat → fineAll ds = true → pureAll ds = true → (wtAll ds : Int) ≤ 4 * room → (∀ d ∈ ds, (d.depth : Int) ≤ 2 * deep) → Q (.ref p) H'
theorem fine_app (xs ys : List PyData) : fineAll (xs ++ ys) = (fineAll xs && fineAll ys) := by
  induction xs with
  | nil => rfl
  | cons x xs ih =>
    rw [List.cons_append]
    simp only [fineAll]
    rw [ih, Bool.and_assoc]
section
variable {P : Program} {w : World} {K : PySem.W.Frag} {mg : Str → Option Value} {base : Heap}
set_option maxHeartbeats 2000000 in
theorem ok_l_parts {m kp : Nat} (T : TP K mg) (G_l_piece : FnOk P w K mg base CX0 (kp + 1) T.d_l_piece.f T.d_l_piece.fd ["_law_purse_here", "_law_pool_here", "_law_room", "_law_deep", "_law_way"] (spPiece m)) : FnOk P w K mg base CX0 (kp + 2) T.d_l_parts.f T.d_l_parts.fd ["_law_purse_here", "_law_pool_here", "_law_room", "_law_deep", "_law_way", "_law_many"] (spParts m) := by
  have G_l_take : FnOk P w K mg base CX0 1 T.d_l_take.f T.d_l_take.fd ["_law_purse_here", "_law_many"] spTake := ok_take T
  refine T.d_l_parts.F.ok sc_l_parts (fun vs H Q E h => ?_) (fun cdv A outer s H vs Q E hr h => ?_)
  · obtain ⟨b, pp, zs, n, room, deep, way, many, rfl, _⟩ := h
    rfl
  · obtain ⟨b, pp, zs, n, room, deep, way, many, rfl, bx, pl, hn, hm, hd, hw, q⟩ := h
    refine ⟨_, (pss_cons (ps_set (i := 6) sc_l_parts.nd rfl (.inl rfl) (pe_lst pa_nil))
    (pss_cons (ps_for PassesOwn.never rfl (pi_range1 (by rfl) T.n_range (pa_cons (pv 5) pa_nil)) (pg_name (i := 7) sc_l_parts.nd rfl (.inl rfl))
      (pss_cons (ps_set (i := 8) sc_l_parts.nd rfl (.inl rfl) (pe_op op_add pe_int (pe_call G_l_take (hr.mono (by omega)) (by rfl) T.d_l_take.g T.d_l_take.F.kp T.d_l_take.b .nil pass0 (pa_cons (pv 0) (pa_cons (pe_op op_sub (pv 2) (pe_op op_sub (pe_op op_sub (pv 5) (pv 7)) pe_int)) pa_nil)))))
      (pss_cons (ps_expr (pe_bm PySem.F.plainAttrs_list PySem.F.slot_list_append PySem.F.type_list_append mt_append (pv 6) (pa_cons (pe_call G_l_piece (hr.mono (by omega)) (by rfl) T.d_l_piece.g T.d_l_piece.F.kp T.d_l_piece.b .nil pass0 (pa_cons (pv 0) (pa_cons (pv 1) (pa_cons (pv 8) (pa_cons (pv 3) (pa_cons (pv 4) pa_nil)))))) pa_nil)))
      (pss_one (ps_set (i := 2) sc_l_parts.nd rfl (.inl rfl) (pe_op op_sub (pv 2) (pv 8)))))))
    (pss_one (ps_ret (pe_callTy call_tuple_of (by rfl) T.n_tuple (by decide +kernel) (pa_cons (pv 6) pa_nil)))))), ?_⟩
    refine ⟨Nat.zero_le _, fun pf npf => ?_⟩
    have nfb := bx.ne npf
    refine ⟨_, rfl, many, rfl, by omega, by omega, ?_⟩
    refine for_range (n := many.toNat) (fun i σ H5 => ∃ t7 t8 acc ds rk, σ = [some (.ref b), some (.ref pp), some (.int rk), some (.int deep), some (.int way), some (.int many), some (.ref pf), t7, t8] ∧ H5 pf = some (.lst acc) ∧ DqAll b H5 acc ds ∧ ds.length = i ∧ fineAll ds = true ∧ pureAll ds = true ∧ (wtAll ds : Int) ≤ 4 * (room - rk) ∧ rk ≤ room ∧ many - i ≤ rk ∧ (∀ d ∈ ds, (d.depth : Int) ≤ 2 * deep) ∧ Bx H5 b (n + i + 16 * (room - rk).toNat) ∧ Kp b H H5) ?_ ?_ ?_
    · exact ⟨none, none, [], [], room, rfl, upd_same, .nil, rfl, rfl, rfl, by simp [wtAll], by omega, by omega, (fun d hd => nomatch hd), (bx.new npf).mono (by omega), Kp.new npf⟩
    · rintro i σ H5 hi ⟨t7, t8, acc, ds, rk, rfl, hpf, hds, hlen, hf, hpu, hwt, hrk, hrem, hdep, x5, k5⟩
      have hpp := k5 _ _ pl.at_ pl.ne
      have al := hds.len
      refine ⟨_, rfl, _, rfl, _, rfl, _, rfl, _, _, rfl, rfl, _, _, rfl, rfl, _, _, rfl, rfl, b, _, _, rfl, x5, by omega, by omega, by omega, fun d1 H6 l1 u1 x6 k6 => ?_⟩
      refine ⟨_, _, rfl, rfl, ?_⟩
      have hpf6 := k6 _ _ hpf nfb
      refine ⟨_, rfl, .inl ⟨rfl, _, SqL.of hpf6⟩, ?_⟩
      refine ⟨_, rfl, _, rfl, _, rfl, _, rfl, _, rfl, b, pp, zs, _, 1 + d1, deep, way, rfl, x6, ⟨k6 _ _ hpp pl.ne, pl.ne, pl.len, pl.nm⟩, by omega, by omega, by omega, fun v d H7 k7 x7 hv fv pv_ wv dv => ?_⟩
      have hpf7 := k7 _ _ hpf6 nfb
      refine ⟨pf, _, _, rfl, rfl, hpf7, Nat.lt_of_le_of_lt (show acc.length ≤ 5 by omega) (by decide), ?_⟩
      refine ⟨_, rfl, _, rfl, _, _, rfl, rfl, ?_⟩
      have k8 : Tp H7 (upd H7 pf (.lst (acc ++ [v]))) := Tp.lst hpf7
      have t57 : Tp H5 H7 := (Tp.kp x5 k6).trans (Tp.kp x6 k7)
      refine ⟨_, _, acc ++ [v], ds ++ [d], rk - (1 + d1), rfl, upd_same, (dqAll_tp (t57.trans k8) _ _ hpu hds).append (.cons (dq_tp k8 _ _ pv_ hv) .nil), by rw [List.length_append, hlen]; rfl, ?_, ?_, ?_, by omega, by omega, ?_, ?_, fun a o z na => ?_⟩
      · rw [fine_app, hf]
        simp [fineAll, fv]
      · rw [pureAll_app, hpu]
        simp [pureAll, pv_]
      · rw [wtAll_append]
        simp only [wtAll]
        omega
      · intro e he
        rcases List.mem_append.mp he with he | he
        · exact hdep e he
        · rw [List.mem_singleton.mp he]
          exact dv
      · obtain ⟨m1, r1, c1, e1, e2⟩ := x7.mono (k := n + (i + 1) + 16 * (room - (rk - (1 + d1))).toNat) (by omega)
        exact ⟨m1, r1, c1, by rw [upd_ne nfb.symm]; exact e1, e2⟩
      · rw [upd_ne (ne_of_none z npf)]
        exact k7 _ _ (k6 _ _ (k5 _ _ z na) na) na
    · rintro σ H5 ⟨t7, t8, acc, ds, rk, rfl, hpf, hds, hlen, hf, hpu, hwt, hrk, hrem, hdep, x5, k5⟩
      refine ⟨_, rfl, pf, _, rfl, .inl ⟨SqL.of hpf, fun p np => ?_⟩⟩
      have s6 := same_new (o := .tup acc) np
      exact q p acc ds _ (k5.trans (Kp.of_same s6)) ((x5.same s6).mono (by omega)) upd_same (DqAll.same s6 _ _ hds) hlen hf hpu (by omega) hdep
end
end K11
set_option Elab.async false
set_option linter.all false
set_option maxRecDepth 100000
namespace K11
open PySem PySem.Spec PyProof.Rows L2 CaV CaL CaN CaD
theorem Draw.leaf {b : Addr} {H H2 : Hp} {n j : Nat} {room deep : Int} {Q : VK} {p : Addr} {a z : Str} (q : Draw b H n room deep Q) (hr : 1 ≤ room) (hd : 1 ≤ deep) (k : Kp b H H2) (x : Bx H2 b (n + j)) (hj : j ≤ 8) (np : H2 p = none) (fa : fine (.str a) = true) (fz : fine (.str z) = true) : Q (.ref p) (upd H2 p (.tup [.str a, .str z])) := by
  refine q _ (.tuple [.str a, .str z]) _ (k.trans (Kp.new np)) ((x.new np).mono (by omega)) (.tup upd_same (.cons (.str a) (.cons (.str z) .nil))) ?_ (by simp [pureD, pureAll]) ?_ ?_
  · simp only [fine, fineAll, Bool.and_eq_true] at fa fz ⊢
    exact ⟨fa, fz, trivial⟩
  · simp only [wt, wtAll]
    omega
  · simp only [PyData.depth, PyData.depthAll]
    omega
theorem Pool.kp {b : Addr} {H H' : Hp} {pp : Addr} {zs : List Str} (h : Pool b H pp zs) (k : Kp b H H') : Pool b H' pp zs := ⟨k _ _ h.at_ h.ne, h.ne, h.len, h.nm⟩
theorem Pool.get {b : Addr} {H : Hp} {pp : Addr} {zs : List Str} (h : Pool b H pp zs) {i : Int} (h0 : 0 ≤ i) (h5 : i < 5) : ∃ z, nameS z = true ∧ fine (.str z) = true ∧ atI (zs.map V.str) i = some (.str z) := by
  obtain ⟨z, hz, e⟩ := atI_strs (zs := zs) (i := i) h0 (by rw [h.len]; exact h5)
  exact ⟨z, h.nm z hz, fine_name (h.nm z hz), e⟩
theorem qmark : ("?" : Str) = ⟨#[63]⟩ := by decide +kernel
theorem doll_par {z : Str} (h : nameS z = true) : fine (.str ("$" ++ z)) = true ∧ parS ("$" ++ z) = true ∧ ("$" ++ z).length ≤ 10 := by
  have h2 := sign_par (g := 36) (.inr rfl) h
  have e : ("$" : Str) = ⟨#[36]⟩ := by decide +kernel
  rw [e]
  exact ⟨h2.2, h2.1, (fine_str h2.2).1⟩
theorem dec_i (a c : Int) : decide (V.int a = V.int c) = decide (a = c) := dec_int a c
theorem beq_int (u x : Int) : (u == x) = decide (x = u) := by
  by_cases z : x = u
  · rw [decide_eq_true z, z]
    exact beq_self_eq_true u
  · rw [decide_eq_false z]
    exact beq_eq_false_iff_ne.mpr (Ne.symm z)
theorem inV3 (x a c e : Int) : inV (.int x) [.int a, .int c, .int e] = decide (x = a ∨ x = c ∨ x = e) := by
  show ((a == x) || ((c == x) || ((e == x) || false))) = _
  rw [beq_int, beq_int, beq_int, Bool.or_false, Bool.decide_or, Bool.decide_or]
theorem inV2 (x a c : Int) : inV (.int x) [.int a, .int c] = decide (x = a ∨ x = c) := by
  show ((a == x) || ((c == x) || false)) = _
  rw [beq_int, beq_int, Bool.or_false, Bool.decide_or]
section
variable {P : Program} {w : World} {K : PySem.W.Frag} {mg : Str → Option Value} {base : Heap}
set_option maxHeartbeats 4000000 in
theorem ok_l_piece (T : TP K mg) : ∀ m : Nat, FnOk P w K mg base CX0 (2 * m + 2) T.d_l_piece.f T.d_l_piece.fd ["_law_purse_here", "_law_pool_here", "_law_room", "_law_deep", "_law_way"] (spPiece m)
  | 0 => by
    refine T.d_l_piece.F.ok sc_l_piece (fun vs H Q E h => ?_) (fun cdv A outer s H vs Q E hr h => ?_)
    · obtain ⟨b, pp, zs, n, room, deep, way, rfl, _⟩ := h
      rfl
    · obtain ⟨b, pp, zs, n, room, deep, way, rfl, bx, pl, hn, hd, _⟩ := h
      exact absurd hd (by omega)
  | m + 1 => by
    have G_l_take : FnOk P w K mg base CX0 1 T.d_l_take.f T.d_l_take.fd ["_law_purse_here", "_law_many"] spTake := ok_take T
    have G_l_parts : FnOk P w K mg base CX0 (2 * m + 3) T.d_l_parts.f T.d_l_parts.fd ["_law_purse_here", "_law_pool_here", "_law_room", "_law_deep", "_law_way", "_law_many"] (spParts m) := ok_l_parts (kp := 2 * m + 1) T (ok_l_piece T m)
    refine T.d_l_piece.F.ok (k := 2 * m + 3) sc_l_piece (fun vs H Q E h => ?_) (fun cdv A outer s H vs Q E hr h => ?_)
    · obtain ⟨b, pp, zs, n, room, deep, way, rfl, _⟩ := h
      rfl
    · obtain ⟨b, pp, zs, n, room, deep, way, rfl, bx, pl, hn, hd, hw, q⟩ := h
      refine ⟨_, (pss_cons (ps_set (i := 5) sc_l_piece.nd rfl (.inl rfl) (pe_call G_l_take (hr.mono (by omega)) (by rfl) T.d_l_take.g T.d_l_take.F.kp T.d_l_take.b .nil pass0 (pa_cons (pv 0) (pa_cons (pe_ix ix_list (pe_lst (pa_cons pe_int (pa_cons pe_int (pa_cons pe_int pa_nil)))) (pv 4) (fun _ _ => rfl)) pa_nil))))
    (pss_cons (ps_if (pt_cmpR op_eq (pv 5) pe_int (nomark _))
      (pss_one (ps_ret (pe_tup (pa_cons pe_str (pa_cons (pe_ix ix_list (pv 1) (pe_call G_l_take (hr.mono (by omega)) (by rfl) T.d_l_take.g T.d_l_take.F.kp T.d_l_take.b .nil pass0 (pa_cons (pv 0) (pa_cons pe_int pa_nil))) (fun _ _ => rfl)) pa_nil)))))
      pss_nil)
    (pss_cons (ps_if (pt_cmpR op_eq (pv 5) pe_int (nomark _))
      (pss_one (ps_ret (pe_tup (pa_cons pe_str (pa_cons (pe_op op_add_str pe_str (pe_ix ix_list (pv 1) (pe_op op_add pe_int (pe_call G_l_take (hr.mono (by omega)) (by rfl) T.d_l_take.g T.d_l_take.F.kp T.d_l_take.b .nil pass0 (pa_cons (pv 0) (pa_cons pe_int pa_nil)))) (fun _ _ => rfl))) pa_nil)))))
      pss_nil)
    (pss_cons (ps_if (PW.pt (pw_or (pt_cmpR op_eq (pv 5) pe_int (nomark _)) (pw_or (pt_cmpR op_lt (pv 2) pe_int (nomark _)) (pw_or1 (pt_cmpR op_lt (pv 3) pe_int (nomark _))))))
      (pss_one (ps_ret (pe_tup (pa_cons pe_str (pa_cons (pe_ix ix_list (pv 1) (pe_call G_l_take (hr.mono (by omega)) (by rfl) T.d_l_take.g T.d_l_take.F.kp T.d_l_take.b .nil pass0 (pa_cons (pv 0) (pa_cons pe_int pa_nil))) (fun _ _ => rfl)) pa_nil)))))
      pss_nil)
    (pss_cons (ps_if (pt_cmpR op_in_seq (pv 5) (pe_tup (pa_cons pe_int (pa_cons pe_int (pa_cons pe_int pa_nil)))) (by with_unfolding_all rfl))
      (pss_cons (ps_set (i := 6) sc_l_piece.nd rfl (.inl rfl) (pe_callB (call_min2 rfl) (by rfl) T.n_min (by decide +kernel) (pa_cons (pe_call G_l_take (hr.mono (by omega)) (by rfl) T.d_l_take.g T.d_l_take.F.kp T.d_l_take.b .nil pass0 (pa_cons (pv 0) (pa_cons (pe_ix ix_list (pe_lst (pa_cons pe_int (pa_cons pe_int pa_nil))) (pe_callTy call_int1 (by rfl) T.n_int (by decide +kernel) (pa_cons (pe_cmpR op_eq (pv 5) pe_int (nomark _)) pa_nil)) (fun _ _ => rfl)) pa_nil))) (pa_cons (pe_op op_sub (pv 2) pe_int) pa_nil))))
      (pss_cons (ps_set (i := 7) sc_l_piece.nd rfl (.inl rfl) (pe_tup (pa_cons (pe_ix ix_list (pe_lst (pa_cons pe_str (pa_cons pe_str pa_nil))) (pe_callTy call_int1 (by rfl) T.n_int (by decide +kernel) (pa_cons (pe_cmpR op_eq (pv 5) pe_int (nomark _)) pa_nil)) (fun _ _ => rfl)) (pa_cons (pe_ix ix_list (pv 1) (pe_call G_l_take (hr.mono (by omega)) (by rfl) T.d_l_take.g T.d_l_take.F.kp T.d_l_take.b .nil pass0 (pa_cons (pv 0) (pa_cons pe_int pa_nil))) (fun _ _ => rfl)) pa_nil))))
      (pss_cons (ps_set (i := 8) sc_l_piece.nd rfl (.inl rfl) (pe_call G_l_parts (hr.mono (by omega)) (by rfl) T.d_l_parts.g T.d_l_parts.F.kp T.d_l_parts.b .nil pass0 (pa_cons (pv 0) (pa_cons (pv 1) (pa_cons (pe_op op_sub (pv 2) pe_int) (pa_cons (pe_op op_sub (pv 3) pe_int) (pa_cons (pv 4) (pa_cons (pv 6) pa_nil))))))))
      (pss_one (ps_ret (pe_op op_catA (pv 7) (pe_tup (pa_cons (pv 8) pa_nil))))))))
      pss_nil)
    (pss_cons (ps_set (i := 9) sc_l_piece.nd rfl (.inl rfl) (pe_ifExp (pt_cmpR op_in_seq (pv 5) (pe_tup (pa_cons pe_int (pa_cons pe_int (pa_cons pe_int pa_nil)))) (by with_unfolding_all rfl)) pe_str (pe_ix ix_list (pe_lst (pa_cons pe_str (pa_cons pe_str pa_nil))) (pe_callTy call_int1 (by rfl) T.n_int (by decide +kernel) (pa_cons (pe_cmpR op_eq (pv 5) pe_int (nomark _)) pa_nil)) (fun _ _ => rfl))))
    (pss_cons (ps_set (i := 10) sc_l_piece.nd rfl (.inl rfl) (pe_ix ix_list (pv 1) (pe_call G_l_take (hr.mono (by omega)) (by rfl) T.d_l_take.g T.d_l_take.F.kp T.d_l_take.b .nil pass0 (pa_cons (pv 0) (pa_cons pe_int pa_nil))) (fun _ _ => rfl)))
    (pss_cons (ps_if (pt_cmpR op_in_seq (pv 5) (pe_tup (pa_cons pe_int (pa_cons pe_int pa_nil))) (by with_unfolding_all rfl))
      (pss_one (ps_set (i := 10) sc_l_piece.nd rfl (.inl rfl) (pe_op op_add_str pe_str (pe_ix ix_list (pv 1) (pe_op op_add pe_int (pe_call G_l_take (hr.mono (by omega)) (by rfl) T.d_l_take.g T.d_l_take.F.kp T.d_l_take.b .nil pass0 (pa_cons (pv 0) (pa_cons pe_int pa_nil)))) (fun _ _ => rfl)))))
      pss_nil)
    (pss_one (ps_ret (pe_op op_catA (pe_tup (pa_cons (pv 9) (pa_cons (pv 10) pa_nil))) (pe_call G_l_parts (hr.mono (by omega)) (by rfl) T.d_l_parts.g T.d_l_parts.F.kp T.d_l_parts.b .nil pass0 (pa_cons (pv 0) (pa_cons (pv 1) (pa_cons (pe_op op_sub (pv 2) pe_int) (pa_cons (pe_op op_sub (pv 3) pe_int) (pa_cons (pv 4) (pa_cons pe_int pa_nil)))))))))))))))))), ?_⟩
      obtain ⟨kk, hkk, hk0, hk1⟩ : ∃ kk : Int, atI [V.int 7, .int 8, .int 13] way = some (.int kk) ∧ 0 < kk ∧ kk ≤ 13 := by
        have : way = 0 ∨ way = 1 ∨ way = 2 := by omega
        rcases this with rfl | rfl | rfl
        · exact ⟨7, rfl, by decide, by decide⟩
        · exact ⟨8, rfl, by decide, by decide⟩
        · exact ⟨13, rfl, by decide, by decide⟩
      refine ⟨_, rfl, (by show 3 ≤ sizeLine; decide), fun pL nL => ⟨_, rfl, pL, _, _, .int kk, rfl, rfl, SqL.of upd_same, hkk, b, kk, n, rfl, bx.new nL, by omega, by omega, by omega, fun d1 H1 l1 u1 x1 k1 => ?_⟩⟩
      have k1 : Kp b H H1 := (Kp.new nL).trans k1
      have pl1 := pl.kp k1
      refine ⟨_, rfl, rfl, _, rfl, ?_⟩
      rw [dec_i]
      by_cases e9 : d1 = 9
      · rw [decide_eq_true e9]
        refine iteT ⟨_, rfl, _, rfl, b, _, _, rfl, x1, by omega, by decide, by decide, fun d2 H2 l2 u2 x2 k2 => ?_⟩
        obtain ⟨z, nz, fz, ez⟩ := pl1.get (i := d2) l2 (by omega)
        exact ⟨pp, _, _, .str z, rfl, rfl, SqL.of (pl1.kp k2).at_, ez, (by show 2 ≤ sizeLine; decide), fun p np => q.leaf (j := 4) (by omega) (by omega) (k1.trans k2) (x2.mono (by omega)) (by omega) np (by decide +kernel) fz⟩
      rw [decide_eq_false e9]
      refine iteF ?_
      refine ⟨_, rfl, rfl, _, rfl, ?_⟩
      rw [dec_i]
      by_cases e10 : d1 = 10
      · rw [decide_eq_true e10]
        refine iteT ⟨_, rfl, _, rfl, b, _, _, rfl, x1, by omega, by decide, by decide, fun d2 H2 l2 u2 x2 k2 => ?_⟩
        obtain ⟨z, nz, fz, ez⟩ := pl1.get (i := 2 + d2) (by omega) (by omega)
        have dz := doll_par nz
        have dl := app_len "$" z
        exact ⟨_, _, rfl, rfl, pp, _, _, .str z, rfl, rfl, SqL.of (pl1.kp k2).at_, ez, _, _, rfl, rfl, sz100 (by omega), (by show 2 ≤ sizeLine; decide), fun p np => q.leaf (j := 4) (by omega) (by omega) (k1.trans k2) (x2.mono (by omega)) (by omega) np (by decide +kernel) dz.1⟩
      rw [decide_eq_false e10]
      refine iteF ?_
      refine ⟨_, rfl, rfl, _, rfl, ?_⟩
      rw [dec_i]
      by_cases c1 : d1 = 0
      · rw [decide_eq_true c1]
        exact iteT (iteT ⟨_, rfl, _, rfl, b, _, _, rfl, x1, by omega, by decide, by decide, fun d2 H2 l2 u2 x2 k2 => by
          obtain ⟨z, nz, fz, ez⟩ := pl1.get (i := d2) l2 u2
          exact ⟨pp, _, _, .str z, rfl, rfl, SqL.of (pl1.kp k2).at_, ez, (by show 2 ≤ sizeLine; decide), fun p np => q.leaf (j := 4) (by omega) (by omega) (k1.trans k2) (x2.mono (by omega)) (by omega) np (by decide +kernel) fz⟩⟩)
      rw [decide_eq_false c1]
      refine iteF ⟨_, rfl, _, _, rfl, rfl, _, rfl, ?_⟩
      by_cases c2 : room < 3
      · rw [decide_eq_true c2]
        exact iteT (iteT ⟨_, rfl, _, rfl, b, _, _, rfl, x1, by omega, by decide, by decide, fun d2 H2 l2 u2 x2 k2 => by
          obtain ⟨z, nz, fz, ez⟩ := pl1.get (i := d2) l2 u2
          exact ⟨pp, _, _, .str z, rfl, rfl, SqL.of (pl1.kp k2).at_, ez, (by show 2 ≤ sizeLine; decide), fun p np => q.leaf (j := 4) (by omega) (by omega) (k1.trans k2) (x2.mono (by omega)) (by omega) np (by decide +kernel) fz⟩⟩)
      rw [decide_eq_false c2]
      refine iteF ⟨_, rfl, _, _, rfl, rfl, _, rfl, ?_⟩
      by_cases c3 : deep < 2
      · rw [decide_eq_true c3]
        exact iteT ⟨_, rfl, _, rfl, b, _, _, rfl, x1, by omega, by decide, by decide, fun d2 H2 l2 u2 x2 k2 => by
          obtain ⟨z, nz, fz, ez⟩ := pl1.get (i := d2) l2 u2
          exact ⟨pp, _, _, .str z, rfl, rfl, SqL.of (pl1.kp k2).at_, ez, (by show 2 ≤ sizeLine; decide), fun p np => q.leaf (j := 4) (by omega) (by omega) (k1.trans k2) (x2.mono (by omega)) (by omega) np (by decide +kernel) fz⟩⟩
      rw [decide_eq_false c3]
      refine iteF ?_
      -- applications and calls
      refine ⟨_, rfl, (by show 3 ≤ sizeLine; decide), fun pa npa => ⟨pa, _, rfl, .inr (SqT.of upd_same), rfl, rfl, _, rfl, ?_⟩⟩
      have x1 := x1.new (o := .tup [.int 1, .int 2, .int 7]) npa
      have k1 := k1.trans (Kp.new (b := b) (o := .tup [.int 1, .int 2, .int 7]) npa)
      have pl1 := pl.kp k1
      show if inV (.int d1) [.int 1, .int 2, .int 7] = true then _ else _
      rw [inV3]
      generalize upd H1 pa (.tup [.int 1, .int 2, .int 7]) = H1 at x1 k1 pl1 ⊢
      by_cases c4 : d1 = 1 ∨ d1 = 2 ∨ d1 = 7
      · rw [decide_eq_true c4]
        refine iteT ?_
        obtain ⟨k2, hk2, hk20, hk21⟩ : ∃ k2 : Int, atI [V.int 4, .int 6] (if decide (V.int d1 = V.int 7) = true then 1 else 0) = some (.int k2) ∧ 0 < k2 ∧ k2 ≤ 6 := by
          cases decide (V.int d1 = V.int 7)
          · exact ⟨4, rfl, by decide, by decide⟩
          · exact ⟨6, rfl, by decide, by decide⟩
        obtain ⟨kd, hkd, fkd⟩ : ∃ kd : Str, atI [V.str "op", .str "call"] (if decide (V.int d1 = V.int 7) = true then 1 else 0) = some (.str kd) ∧ fine (.str kd) = true := by
          cases decide (V.int d1 = V.int 7)
          · exact ⟨"op", rfl, by decide +kernel⟩
          · exact ⟨"call", rfl, by decide +kernel⟩
        refine ⟨_, rfl, (by show 2 ≤ sizeLine; decide), fun pM nM => ⟨_, rfl, rfl, .inr ⟨_, rfl, pM, _, _, .int k2, rfl, rfl, SqL.of upd_same, hk2, b, k2, _, rfl, x1.new nM, by omega, by omega, by omega, fun d2 H2 l2 u2 x2 k2' => ?_⟩⟩⟩
        have kk2 := (k1.trans (Kp.new nM)).trans k2'
        refine ⟨_, rfl, _, _, rfl, rfl, _, _, rfl, ?_⟩
        have hmany : 0 ≤ (if room - 1 < d2 then room - 1 else d2) ∧ (if room - 1 < d2 then room - 1 else d2) ≤ 5 ∧ (if room - 1 < d2 then room - 1 else d2) ≤ room - 1 := by
          split <;> omega
        generalize (if room - 1 < d2 then room - 1 else d2) = many at hmany ⊢
        refine ⟨(by show 2 ≤ sizeLine; decide), fun pN nN => ⟨_, rfl, rfl, .inr ⟨_, rfl, pN, _, _, .str kd, rfl, rfl, SqL.of upd_same, hkd, _, rfl, _, rfl, b, _, _, rfl, x2.new nN, by omega, by decide, by decide, fun d3 H3 l3 u3 x3 k3' => ?_⟩⟩⟩
        have k3 := (kk2.trans (Kp.new nN)).trans k3'
        have pl3 := pl.kp k3
        obtain ⟨z, nz, fz, ez⟩ := pl3.get (i := d3) l3 u3
        refine ⟨pp, _, _, .str z, rfl, rfl, SqL.of pl3.at_, ez, (by show 2 ≤ sizeLine; decide), fun ph nph => ?_⟩
        have k4 := k3.trans (Kp.new (b := b) (o := .tup [.str kd, .str z]) nph)
        have x4 := (x3.new (o := .tup [.str kd, .str z]) nph).mono (k := n + 5) (by omega)
        have hph : (upd H3 ph (.tup [.str kd, .str z])) ph = some (.tup [.str kd, .str z]) := upd_same
        generalize upd H3 ph (.tup [.str kd, .str z]) = H4 at k4 x4 hph ⊢
        refine ⟨_, rfl, _, rfl, _, rfl, _, _, rfl, rfl, _, rfl, _, _, rfl, rfl, _, rfl, _, rfl, b, pp, zs, _, room - 1, deep - 1, way, many, rfl, x4, pl.kp k4, by omega, by omega, by omega, hw, fun pq ws ds H5 k5 x5 hpq hds hlen hf hpu hwt hdep => ?_⟩
        have hph5 := Tp.kp x4 k5 _ _ hph
        refine ⟨_, rfl, _, rfl, (by show 1 ≤ sizeLine; decide), fun pr npr => ?_⟩
        have s6 := same_new (o := .tup [.ref pq]) npr
        refine ⟨ph, pr, _, _, rfl, rfl, SqT.of (s6 _ _ hph5), SqT.of upd_same, (by show 3 ≤ sizeLine; decide), (fun z => nomatch z), (fun _ z => nomatch z), fun _ _ pz npz => ?_⟩
        have s7 := same_new (o := .tup ([.str kd, .str z] ++ [.ref pq])) npz
        have s67 := s6.trans s7
        have da := (depthAll_le (n := (2 * (deep - 1)).toNat) (xs := ds)).mpr fun e he => by have := hdep e he; omega
        refine q _ (.tuple [.str kd, .str z, .tuple ds]) _ ((k4.trans k5).trans (Kp.of_same s67)) ((x5.same s67).mono (by omega)) (.tup upd_same (.cons (.str kd) (.cons (.str z) (.cons (.tup (s67 _ _ hpq) (DqAll.same s67 _ _ hds)) .nil)))) ?_ ?_ ?_ ?_
        · simp only [fine, fineAll, Bool.and_eq_true] at fkd fz ⊢
          exact ⟨fkd, fz, hf, trivial⟩
        · simp only [pureD, pureAll, Bool.and_eq_true]
          exact ⟨trivial, trivial, hpu, trivial⟩
        · simp only [wt, wtAll]
          omega
        · simp only [PyData.depth, PyData.depthAll]
          omega
      rw [decide_eq_false c4]
      refine iteF ?_
      refine ⟨_, rfl, (by show 3 ≤ sizeLine; decide), fun pc npc => ⟨pc, _, rfl, .inr (SqT.of upd_same), rfl, rfl, _, rfl, ?_⟩⟩
      have x1 := x1.new (o := .tup [.int 5, .int 6, .int 8]) npc
      have k1 := k1.trans (Kp.new (b := b) (o := .tup [.int 5, .int 6, .int 8]) npc)
      have pl1 := pl.kp k1
      show if inV (.int d1) [.int 5, .int 6, .int 8] = true then _ else _
      rw [inV3]
      generalize upd H1 pc (.tup [.int 5, .int 6, .int 8]) = H1 at x1 k1 pl1 ⊢
      by_cases c5 : d1 = 5 ∨ d1 = 6 ∨ d1 = 8
      · rw [decide_eq_true c5]
        refine iteT ?_
        refine ⟨_, rfl, _, rfl, b, _, _, rfl, x1, by omega, by decide, by decide, fun d3 H3 l3 u3 x3 k3' => ?_⟩
        have k3 := k1.trans k3'
        have pl3 := pl.kp k3
        obtain ⟨z, nz, fz, ez⟩ := pl3.get (i := d3) l3 u3
        refine ⟨pp, _, _, .str z, rfl, rfl, SqL.of pl3.at_, ez, ?_⟩
        refine ⟨_, rfl, (by show 2 ≤ sizeLine; decide), fun pb npb => ⟨pb, _, rfl, .inr (SqT.of upd_same), rfl, rfl, _, rfl, ?_⟩⟩
        have x3 := x3.new (o := .tup [.int 8, .int 12]) npb
        have k3 := k3.trans (Kp.new (b := b) (o := .tup [.int 8, .int 12]) npb)
        have pl3 := pl.kp k3
        show if inV (.int d1) [.int 8, .int 12] = true then _ else _
        rw [inV2]
        generalize upd H3 pb (.tup [.int 8, .int 12]) = H3 at x3 k3 pl3 ⊢
        by_cases c6 : d1 = 8 ∨ d1 = 12
        · rw [decide_eq_true c6]
          refine iteT ?_
          refine ⟨_, rfl, _, rfl, b, _, _, rfl, x3, by omega, by decide, by decide, fun d5 H6 l5 u5 x6 k6' => ?_⟩
          have k6 := k3.trans k6'
          obtain ⟨z2, nz2, fz2, ez2⟩ := (pl.kp k6).get (i := 2 + d5) (by omega) (by omega)
          have dz := doll_par nz2
          have dl := app_len "$" z2
          refine ⟨_, _, rfl, rfl, pp, _, _, .str z2, rfl, rfl, SqL.of (pl.kp k6).at_, ez2, _, _, rfl, rfl, sz100 (by omega), ?_⟩
          refine ⟨_, rfl, _, rfl, (by show 2 ≤ sizeLine; decide), fun ph nph => ?_⟩
          have k4 := k6.trans (Kp.new (b := b) (o := .tup [.str "each", .str ("$" ++ z2)]) nph)
          have x4 := (x6.new (o := .tup [.str "each", .str ("$" ++ z2)]) nph).mono (k := n + 5) (by omega)
          have hph : (upd H6 ph (.tup [.str "each", .str ("$" ++ z2)])) ph = some (.tup [.str "each", .str ("$" ++ z2)]) := upd_same
          show tCall (spParts m) [] E0 _ _ (upd H6 ph (.tup [.str "each", .str ("$" ++ z2)])) _
          generalize upd H6 ph (.tup [.str "each", .str ("$" ++ z2)]) = H4 at k4 x4 hph ⊢
          refine ⟨_, rfl, _, rfl, _, rfl, _, _, rfl, rfl, _, rfl, _, _, rfl, rfl, _, rfl, b, pp, zs, _, room - 1, deep - 1, way, 2, rfl, x4, pl.kp k4, by omega, by omega, by omega, hw, fun pq ws ds H5 k5 x5 hpq hds hlen hf hpu hwt hdep => ?_⟩
          have hph5 := Tp.kp x4 k5 _ _ hph
          have hwl := hds.len
          have hl2 : ds.length = 2 := hlen
          refine ⟨ph, pq, _, ws, rfl, rfl, SqT.of hph5, SqT.of hpq, sz100 (by simp only [List.length_cons, List.length_nil]; omega), (fun z => nomatch z), (fun _ z => by rw [z] at hwl; simp only [List.length_nil] at hwl; omega), fun _ _ pz npz => ?_⟩
          have s7 := same_new (o := .tup ([.str "each", .str ("$" ++ z2)] ++ ws)) npz
          have da := (depthAll_le (n := (2 * (deep - 1)).toNat) (xs := ds)).mpr fun e he => by have := hdep e he; omega
          refine q _ (.tuple (.str "each" :: .str ("$" ++ z2) :: ds)) _ ((k4.trans k5).trans (Kp.of_same s7)) ((x5.same s7).mono (by omega)) (.tup upd_same (.cons (.str _) (.cons (.str _) (DqAll.same s7 _ _ hds)))) ?_ ?_ ?_ ?_
          · have f1 : fine (.str "each") = true := by decide +kernel
            have f2 : fine (.str ("$" ++ z2)) = true := dz.1
            simp only [fine, fineAll, Bool.and_eq_true] at f1 f2 ⊢
            exact ⟨f1, f2, hf⟩
          · simp only [pureD, pureAll, Bool.and_eq_true]
            exact ⟨trivial, trivial, hpu⟩
          · simp only [wt, wtAll]
            omega
          · simp only [PyData.depth, PyData.depthAll]
            omega
        · rw [decide_eq_false c6]
          refine iteF ?_
          refine ⟨_, rfl, _, rfl, (by show 2 ≤ sizeLine; decide), fun ph nph => ?_⟩
          have k4 := k3.trans (Kp.new (b := b) (o := .tup [.str "each", .str z]) nph)
          have x4 := (x3.new (o := .tup [.str "each", .str z]) nph).mono (k := n + 5) (by omega)
          have hph : (upd H3 ph (.tup [.str "each", .str z])) ph = some (.tup [.str "each", .str z]) := upd_same
          show tCall (spParts m) [] E0 _ _ (upd H3 ph (.tup [.str "each", .str z])) _
          generalize upd H3 ph (.tup [.str "each", .str z]) = H4 at k4 x4 hph ⊢
          refine ⟨_, rfl, _, rfl, _, rfl, _, _, rfl, rfl, _, rfl, _, _, rfl, rfl, _, rfl, b, pp, zs, _, room - 1, deep - 1, way, 2, rfl, x4, pl.kp k4, by omega, by omega, by omega, hw, fun pq ws ds H5 k5 x5 hpq hds hlen hf hpu hwt hdep => ?_⟩
          have hph5 := Tp.kp x4 k5 _ _ hph
          have hwl := hds.len
          have hl2 : ds.length = 2 := hlen
          refine ⟨ph, pq, _, ws, rfl, rfl, SqT.of hph5, SqT.of hpq, sz100 (by simp only [List.length_cons, List.length_nil]; omega), (fun z => nomatch z), (fun _ z => by rw [z] at hwl; simp only [List.length_nil] at hwl; omega), fun _ _ pz npz => ?_⟩
          have s7 := same_new (o := .tup ([.str "each", .str z] ++ ws)) npz
          have da := (depthAll_le (n := (2 * (deep - 1)).toNat) (xs := ds)).mpr fun e he => by have := hdep e he; omega
          refine q _ (.tuple (.str "each" :: .str z :: ds)) _ ((k4.trans k5).trans (Kp.of_same s7)) ((x5.same s7).mono (by omega)) (.tup upd_same (.cons (.str _) (.cons (.str _) (DqAll.same s7 _ _ hds)))) ?_ ?_ ?_ ?_
          · have f1 : fine (.str "each") = true := by decide +kernel
            have f2 : fine (.str z) = true := fz
            simp only [fine, fineAll, Bool.and_eq_true] at f1 f2 ⊢
            exact ⟨f1, f2, hf⟩
          · simp only [pureD, pureAll, Bool.and_eq_true]
            exact ⟨trivial, trivial, hpu⟩
          · simp only [wt, wtAll]
            omega
          · simp only [PyData.depth, PyData.depthAll]
            omega
      · rw [decide_eq_false c5]
        refine iteF ?_
        obtain ⟨kd, hkd, fkd⟩ : ∃ kd : Str, atI [V.str "let", .str "want"] (if decide (V.int d1 = V.int 11) = true then 1 else 0) = some (.str kd) ∧ fine (.str kd) = true := by
          cases decide (V.int d1 = V.int 11)
          · exact ⟨"let", rfl, by decide +kernel⟩
          · exact ⟨"want", rfl, by decide +kernel⟩
        refine ⟨(by show 2 ≤ sizeLine; decide), fun pN nN => ⟨_, rfl, rfl, .inr ⟨_, rfl, pN, _, _, .str kd, rfl, rfl, SqL.of upd_same, hkd, ?_⟩⟩⟩
        have x1 := x1.new (o := .lst [.str "let", .str "want"]) nN
        have k1 := k1.trans (Kp.new (b := b) (o := .lst [.str "let", .str "want"]) nN)
        refine ⟨_, rfl, _, rfl, b, _, _, rfl, x1, by omega, by decide, by decide, fun d3 H3 l3 u3 x3 k3' => ?_⟩
        have k3 := k1.trans k3'
        have pl3 := pl.kp k3
        obtain ⟨z, nz, fz, ez⟩ := pl3.get (i := d3) l3 u3
        refine ⟨pp, _, _, .str z, rfl, rfl, SqL.of pl3.at_, ez, ?_⟩
        refine ⟨_, rfl, (by show 2 ≤ sizeLine; decide), fun pb npb => ⟨pb, _, rfl, .inr (SqT.of upd_same), rfl, rfl, _, rfl, ?_⟩⟩
        have x3 := x3.new (o := .tup [.int 8, .int 12]) npb
        have k3 := k3.trans (Kp.new (b := b) (o := .tup [.int 8, .int 12]) npb)
        have pl3 := pl.kp k3
        show if inV (.int d1) [.int 8, .int 12] = true then _ else _
        rw [inV2]
        generalize upd H3 pb (.tup [.int 8, .int 12]) = H3 at x3 k3 pl3 ⊢
        by_cases c6 : d1 = 8 ∨ d1 = 12
        · rw [decide_eq_true c6]
          refine iteT ?_
          refine ⟨_, rfl, _, rfl, b, _, _, rfl, x3, by omega, by decide, by decide, fun d5 H6 l5 u5 x6 k6' => ?_⟩
          have k6 := k3.trans k6'
          obtain ⟨z2, nz2, fz2, ez2⟩ := (pl.kp k6).get (i := 2 + d5) (by omega) (by omega)
          have dz := doll_par nz2
          have dl := app_len "$" z2
          refine ⟨_, _, rfl, rfl, pp, _, _, .str z2, rfl, rfl, SqL.of (pl.kp k6).at_, ez2, _, _, rfl, rfl, sz100 (by omega), ?_⟩
          refine ⟨_, rfl, _, rfl, (by show 2 ≤ sizeLine; decide), fun ph nph => ?_⟩
          have k4 := k6.trans (Kp.new (b := b) (o := .tup [.str kd, .str ("$" ++ z2)]) nph)
          have x4 := (x6.new (o := .tup [.str kd, .str ("$" ++ z2)]) nph).mono (k := n + 5) (by omega)
          have hph : (upd H6 ph (.tup [.str kd, .str ("$" ++ z2)])) ph = some (.tup [.str kd, .str ("$" ++ z2)]) := upd_same
          show tCall (spParts m) [] E0 _ _ (upd H6 ph (.tup [.str kd, .str ("$" ++ z2)])) _
          generalize upd H6 ph (.tup [.str kd, .str ("$" ++ z2)]) = H4 at k4 x4 hph ⊢
          refine ⟨_, rfl, _, rfl, _, rfl, _, _, rfl, rfl, _, rfl, _, _, rfl, rfl, _, rfl, b, pp, zs, _, room - 1, deep - 1, way, 2, rfl, x4, pl.kp k4, by omega, by omega, by omega, hw, fun pq ws ds H5 k5 x5 hpq hds hlen hf hpu hwt hdep => ?_⟩
          have hph5 := Tp.kp x4 k5 _ _ hph
          have hwl := hds.len
          have hl2 : ds.length = 2 := hlen
          refine ⟨ph, pq, _, ws, rfl, rfl, SqT.of hph5, SqT.of hpq, sz100 (by simp only [List.length_cons, List.length_nil]; omega), (fun z => nomatch z), (fun _ z => by rw [z] at hwl; simp only [List.length_nil] at hwl; omega), fun _ _ pz npz => ?_⟩
          have s7 := same_new (o := .tup ([.str kd, .str ("$" ++ z2)] ++ ws)) npz
          have da := (depthAll_le (n := (2 * (deep - 1)).toNat) (xs := ds)).mpr fun e he => by have := hdep e he; omega
          refine q _ (.tuple (.str kd :: .str ("$" ++ z2) :: ds)) _ ((k4.trans k5).trans (Kp.of_same s7)) ((x5.same s7).mono (by omega)) (.tup upd_same (.cons (.str _) (.cons (.str _) (DqAll.same s7 _ _ hds)))) ?_ ?_ ?_ ?_
          · have f1 : fine (.str kd) = true := fkd
            have f2 : fine (.str ("$" ++ z2)) = true := dz.1
            simp only [fine, fineAll, Bool.and_eq_true] at f1 f2 ⊢
            exact ⟨f1, f2, hf⟩
          · simp only [pureD, pureAll, Bool.and_eq_true]
            exact ⟨trivial, trivial, hpu⟩
          · simp only [wt, wtAll]
            omega
          · simp only [PyData.depth, PyData.depthAll]
            omega
        · rw [decide_eq_false c6]
          refine iteF ?_
          refine ⟨_, rfl, _, rfl, (by show 2 ≤ sizeLine; decide), fun ph nph => ?_⟩
          have k4 := k3.trans (Kp.new (b := b) (o := .tup [.str kd, .str z]) nph)
          have x4 := (x3.new (o := .tup [.str kd, .str z]) nph).mono (k := n + 5) (by omega)
          have hph : (upd H3 ph (.tup [.str kd, .str z])) ph = some (.tup [.str kd, .str z]) := upd_same
          show tCall (spParts m) [] E0 _ _ (upd H3 ph (.tup [.str kd, .str z])) _
          generalize upd H3 ph (.tup [.str kd, .str z]) = H4 at k4 x4 hph ⊢
          refine ⟨_, rfl, _, rfl, _, rfl, _, _, rfl, rfl, _, rfl, _, _, rfl, rfl, _, rfl, b, pp, zs, _, room - 1, deep - 1, way, 2, rfl, x4, pl.kp k4, by omega, by omega, by omega, hw, fun pq ws ds H5 k5 x5 hpq hds hlen hf hpu hwt hdep => ?_⟩
          have hph5 := Tp.kp x4 k5 _ _ hph
          have hwl := hds.len
          have hl2 : ds.length = 2 := hlen
          refine ⟨ph, pq, _, ws, rfl, rfl, SqT.of hph5, SqT.of hpq, sz100 (by simp only [List.length_cons, List.length_nil]; omega), (fun z => nomatch z), (fun _ z => by rw [z] at hwl; simp only [List.length_nil] at hwl; omega), fun _ _ pz npz => ?_⟩
          have s7 := same_new (o := .tup ([.str kd, .str z] ++ ws)) npz
          have da := (depthAll_le (n := (2 * (deep - 1)).toNat) (xs := ds)).mpr fun e he => by have := hdep e he; omega
          refine q _ (.tuple (.str kd :: .str z :: ds)) _ ((k4.trans k5).trans (Kp.of_same s7)) ((x5.same s7).mono (by omega)) (.tup upd_same (.cons (.str _) (.cons (.str _) (DqAll.same s7 _ _ hds)))) ?_ ?_ ?_ ?_
          · have f1 : fine (.str kd) = true := fkd
            have f2 : fine (.str z) = true := fz
            simp only [fine, fineAll, Bool.and_eq_true] at f1 f2 ⊢
            exact ⟨f1, f2, hf⟩
          · simp only [pureD, pureAll, Bool.and_eq_true]
            exact ⟨trivial, trivial, hpu⟩
          · simp only [wt, wtAll]
            omega
          · simp only [PyData.depth, PyData.depthAll]
            omega
end
end K11
set_option Elab.async false
set_option linter.all false
set_option maxRecDepth 100000
namespace K11
open PySem PySem.Spec PyProof.Rows L2 CaV CaL CaN CaD
theorem ne_of_at {b p : Addr} {H H' : Hp} {n : Nat} {L : List V} (x : Bx H b n) (s : Same H H') (h : H' p = some (.lst L)) (n0 : L.head? = some .non) : p ≠ b := fun z => by
  obtain ⟨m, r, c, e, _⟩ := x
  rw [z, s _ _ e] at h
  cases h
  cases n0
def oddS : List Str := ["let", "each", "want", "in", "of", "a b", "a\n", "Ab", "abcdefg", "", "a1", "$x", "?x"]
theorem odd_fine : ∀ z ∈ oddS, fine (.str z) = true := by decide +kernel
theorem its_strs {b : Addr} {H : Hp} {W D : Nat} (h : 1 ≤ W) : ∀ (zs : List Str), (∀ z ∈ zs, fine (.str z) = true) → Its b H W D (zs.map V.str)
  | [], _ => .nil
  | z :: zs, f => .cons (.str z) (fit_str (f z List.mem_cons_self) h) (its_strs h zs fun y m => f y (List.mem_cons_of_mem _ m))
theorem its_odd {b : Addr} {H : Hp} {W D : Nat} (h : 1 ≤ W) : Its b H W D (.non :: .bl true :: .int 7 :: oddS.map V.str) :=
  .cons .non ⟨rfl, h, by simp [PyData.depth]⟩ (.cons (.bl true) ⟨rfl, h, by simp [PyData.depth]⟩ (.cons (.int 7) ⟨by decide, h, by simp [PyData.depth]⟩ (its_strs h oddS odd_fine)))
section
variable {ds : List PyData} {W D : Nat}
theorem dep_of {d : PyData} (h : d ∈ ds) : d.depth + 1 ≤ (PyData.tuple ds).depth := by
  simp only [PyData.depth]
  have := depth_mem h
  omega
theorem wt_t (ds : List PyData) : wt (.tuple ds) = wtAll ds + 1 := by simp only [wt]
theorem dep_t (ds : List PyData) : 1 ≤ (PyData.tuple ds).depth := by
  simp only [PyData.depth]
  omega
theorem fit_pre {z : Str} {lo hi : Option Int} (fz : fine (.str z) = true) (f : fine (.tuple ds) = true) : Fit (2 * wt (.tuple ds) + 3) ((PyData.tuple ds).depth + 1) (.tuple ([.str z] ++ cutD ds lo hi)) := by
  have w1 := wtAll_cut ds lo hi
  have w2 := wt_t ds
  refine fit_tup (fun d m => ?_) ?_ (fun d m => ?_) (by omega)
  · rcases List.mem_append.mp m with m | m
    · rw [List.mem_singleton.mp m]
      exact fz
    · exact fine_tup f d (cutD_mem m)
  · rw [wtAll_append]
    simp only [wtAll, wt] at *
    omega
  · rcases List.mem_append.mp m with m | m
    · rw [List.mem_singleton.mp m]
      simp only [PyData.depth]
      omega
    · have := dep_of (cutD_mem m)
      omega
end
def spOdd : Sp := fun vs H Q _ => ∃ (b : Addr) (n : Nat) (x : V) (d : PyData), vs = [.ref b, x] ∧ Bx H b n ∧ n < 890000 ∧ Dq b H x d ∧ fine d = true ∧ wt d ≤ 10000 ∧
  ∀ (v : V) (e : PyData) (H' : Hp), Kp b H H' → Bx H' b (n + 1) → Dq b H' v e → fine e = true → wt e ≤ 2 * wt d + 3 → e.depth ≤ d.depth + 1 → Q v H'
section
variable {P : Program} {w : World} {K : PySem.W.Frag} {mg : Str → Option Value} {base : Heap}
set_option maxHeartbeats 4000000 in
theorem ok_l_odd {k : Nat} (T : TP K mg) : FnOk P w K mg base CX0 (k + 2) T.d_l_odd.f T.d_l_odd.fd ["_law_purse_here", "_law_value"] spOdd := by
  have G_l_take : FnOk P w K mg base CX0 1 T.d_l_take.f T.d_l_take.fd ["_law_purse_here", "_law_many"] spTake := ok_take T
  refine T.d_l_odd.F.ok sc_l_odd (fun vs H Q E h => ?_) (fun cdv A outer s H vs Q E hr h => ?_)
  · obtain ⟨b, n, x, d, rfl, _⟩ := h
    rfl
  · obtain ⟨b, n, x, d, rfl, bx, hn, dq, fd_, hw, q⟩ := h
    refine ⟨_, (pss_cons (ps_set (i := 2) sc_l_odd.nd rfl (.inl rfl) (pe_lst (pa_cons pe_non (pa_cons pe_bl (pa_cons pe_int (pa_cons pe_str (pa_cons pe_str (pa_cons pe_str (pa_cons pe_str (pa_cons pe_str (pa_cons pe_str (pa_cons pe_str (pa_cons pe_str (pa_cons pe_str (pa_cons pe_str (pa_cons pe_str (pa_cons pe_str (pa_cons pe_str pa_nil))))))))))))))))))
    (pss_cons (ps_set (i := 2) sc_l_odd.nd rfl (.inl rfl) (pe_op op_cat (pv 2) (pe_lst (pa_cons (pe_tup (pa_cons pe_str (pa_cons pe_str pa_nil))) (pa_cons (pe_lst (pa_cons (pv 1) pa_nil)) (pa_cons pe_dnewK (pa_cons (pe_tup pa_nil) pa_nil)))))))
    (pss_cons (ps_if (pt_val (pe_callB CaV.call_isV (by rfl) T.n_isinstance (by decide +kernel) (pa_cons (pv 1) (pa_cons (pe_bltn (v := .ty "tuple") (by rfl) T.n_tuple (by decide +kernel) rfl) pa_nil))))
      (pss_cons (ps_set (i := 2) sc_l_odd.nd rfl (.inl rfl) (pe_op op_cat (pv 2) (pe_op op_rep (pe_lst (pa_cons (pe_callTy call_list_of (by rfl) T.n_list (by decide +kernel) (pa_cons (pv 1) pa_nil)) (pa_cons (pe_op op_catA (pv 1) (pe_tup (pa_cons pe_str pa_nil))) (pa_cons (pe_slice sl_tupA (pv 1) po_none (po_some (pe_un un_neg pe_int))) (pa_cons (pe_revT (pv 1)) (pa_cons (pe_tup (pa_cons (pv 1) pa_nil)) (pa_cons (pe_op op_catA (pe_tup (pa_cons pe_str pa_nil)) (pe_slice sl_tupA (pv 1) (po_some pe_int) po_none)) pa_nil))))))) pe_int)))
      (pss_cons (ps_set (i := 2) sc_l_odd.nd rfl (.inl rfl) (pe_op op_cat (pv 2) (pe_op op_rep (pe_lst (pa_cons (pe_op op_catA (pv 1) (pe_slice sl_tupA (pv 1) (po_some (pe_un un_neg pe_int)) po_none)) pa_nil)) pe_int)))
      (pss_one (ps_set (i := 2) sc_l_odd.nd rfl (.inl rfl) (pe_op op_cat (pv 2) (pe_lst (pa_cons (pe_op op_catA (pe_tup (pa_cons pe_str pa_nil)) (pe_slice sl_tupA (pv 1) (po_some pe_int) po_none)) (pa_cons (pe_op op_catA (pe_tup (pa_cons pe_str pa_nil)) (pe_slice sl_tupA (pv 1) (po_some pe_int) po_none)) (pa_cons (pe_op op_catA (pe_tup (pa_cons pe_str pa_nil)) (pe_slice sl_tupA (pv 1) (po_some pe_int) po_none)) (pa_cons (pe_op op_catA (pe_tup (pa_cons pe_str pa_nil)) (pe_slice sl_tupA (pv 1) (po_some pe_int) po_none)) pa_nil))))))))))
      pss_nil)
    (pss_one (ps_ret (pe_ix ix_list (pv 2) (pe_call G_l_take (hr.mono (by omega)) (by rfl) T.d_l_take.g T.d_l_take.F.kp T.d_l_take.b .nil pass0 (pa_cons (pv 0) (pa_cons (pe_callB call_len_seq (by rfl) T.n_len PySem.boot_len (pa_cons (pv 2) pa_nil)) pa_nil))) (fun _ _ => rfl))))))), ?_⟩
    have i1 : ∀ H1, Its b H1 (2 * wt d + 3) (d.depth + 1) (.non :: .bl true :: .int 7 :: oddS.map V.str) := fun H1 => its_odd (by omega)
    refine ⟨(by show 16 ≤ sizeLine; decide), fun p1 n1 => ?_⟩
    have s1 := same_new (o := .lst (.non :: .bl true :: .int 7 :: oddS.map V.str)) n1
    have h1 : (upd H p1 (.lst (.non :: .bl true :: .int 7 :: oddS.map V.str))) p1 = some (.lst (.non :: .bl true :: .int 7 :: oddS.map V.str)) := upd_same
    show gName 2 (.ref p1) _ (upd H p1 (.lst (.non :: .bl true :: .int 7 :: oddS.map V.str))) _
    generalize upd H p1 (.lst (.non :: .bl true :: .int 7 :: oddS.map V.str)) = H1 at s1 h1 ⊢
    refine ⟨_, rfl, (by show 2 ≤ sizeLine; decide), fun pA nA => ⟨_, rfl, (by show 1 ≤ sizeLine; decide), fun pB nB => fun pC nC => ⟨Nat.zero_le _, fun pD nD => ⟨(by show 4 ≤ sizeLine; decide), fun p2 n2 => ?_⟩⟩⟩⟩
    have sA := same_new (o := .tup [.str "name", .str "x"]) nA
    have sB := same_new (o := .lst [x]) nB
    have sC := same_new (o := .dK []) nC
    have sD := same_new (o := .tup []) nD
    have s2 := same_new (o := .lst [.ref pA, .ref pB, .ref pC, .ref pD]) n2
    have hA := (((sB.trans sC).trans sD).trans s2) _ _ (upd_same (H := H1) (a := pA) (o := .tup [.str "name", .str "x"]))
    have hB := ((sC.trans sD).trans s2) _ _ (upd_same (H := upd H1 pA (.tup [.str "name", .str "x"])) (a := pB) (o := .lst [x]))
    have hC := (sD.trans s2) _ _ (upd_same (H := upd (upd H1 pA (.tup [.str "name", .str "x"])) pB (.lst [x])) (a := pC) (o := .dK []))
    have hD := s2 _ _ (upd_same (H := upd (upd (upd H1 pA (.tup [.str "name", .str "x"])) pB (.lst [x])) pC (.dK [])) (a := pD) (o := .tup []))
    have h2 := upd_same (H := upd (upd (upd (upd H1 pA (.tup [.str "name", .str "x"])) pB (.lst [x])) pC (.dK [])) pD (.tup [])) (a := p2) (o := .lst [.ref pA, .ref pB, .ref pC, .ref pD])
    have sAll := (((sA.trans sB).trans sC).trans sD).trans s2
    have nBb : pB ≠ b := (bx.same (s1.trans sA)).ne nB
    generalize upd (upd (upd (upd (upd H1 pA (.tup [.str "name", .str "x"])) pB (.lst [x])) pC (.dK [])) pD (.tup [])) p2 (.lst [.ref pA, .ref pB, .ref pC, .ref pD]) = H2 at hA hB hC hD h2 sAll ⊢
    have s02 := s1.trans sAll
    have dq2 := Dq.same s02 _ _ dq
    have i2 : Its b H2 (2 * wt d + 3) (d.depth + 1) [.ref pA, .ref pB, .ref pC, .ref pD] := by
      refine .cons (.tup hA (.cons (.str _) (.cons (.str _) .nil))) (fit_tup (by decide +kernel) ?_ ?_ (by omega)) (.cons (.lst hB nBb (.cons dq2 .nil)) ⟨?_, ?_, ?_⟩ (.cons (.emp hC) ⟨rfl, ?_, ?_⟩ (.cons (.tup hD .nil) (fit_tup (fun _ m => (nomatch m)) ?_ (fun _ m => (nomatch m)) (by omega)) .nil)))
      · have := wt_pos d
        simp only [wtAll, wt]
        omega
      · intro e m
        simp only [List.mem_cons, List.not_mem_nil, or_false] at m
        rcases m with rfl | rfl <;> simp only [PyData.depth] <;> omega
      · simp only [fine, fineAll, fd_]
        rfl
      · simp only [wt, wtAll]
        omega
      · simp only [PyData.depth, PyData.depthAll]
        omega
      · simp only [wt]
        omega
      · simp only [PyData.depth, PyData.depthKv]
        omega
      · simp only [wtAll]
        omega
    refine ⟨p1, p2, _, _, rfl, rfl, sAll _ _ h1, h2, (by show 20 ≤ sizeLine; decide), fun p3 n3 => ?_⟩
    have s3 := same_new (o := .lst ((V.non :: V.bl true :: V.int 7 :: oddS.map V.str) ++ [V.ref pA, V.ref pB, V.ref pC, V.ref pD])) n3
    have i3 := ((i1 H2).app i2).same s3
    have h3 : (upd H2 p3 (.lst ((V.non :: V.bl true :: V.int 7 :: oddS.map V.str) ++ [V.ref pA, V.ref pB, V.ref pC, V.ref pD]))) p3 = some (.lst ((V.non :: V.bl true :: V.int 7 :: oddS.map V.str) ++ [V.ref pA, V.ref pB, V.ref pC, V.ref pD])) := upd_same
    show gName 2 (.ref p3) _ (upd H2 p3 (.lst ((V.non :: V.bl true :: V.int 7 :: oddS.map V.str) ++ [V.ref pA, V.ref pB, V.ref pC, V.ref pD]))) _
    have hL : ((V.non :: V.bl true :: V.int 7 :: oddS.map V.str) ++ [V.ref pA, V.ref pB, V.ref pC, V.ref pD]).length = 20 := rfl
    have n0 : ((V.non :: V.bl true :: V.int 7 :: oddS.map V.str) ++ [V.ref pA, V.ref pB, V.ref pC, V.ref pD]).head? = some V.non := rfl
    have s03 := s02.trans s3
    generalize ((V.non :: V.bl true :: V.int 7 :: oddS.map V.str) ++ [V.ref pA, V.ref pB, V.ref pC, V.ref pD]) = L at s3 i3 h3 hL n0 s03 ⊢
    generalize upd H2 p3 (.lst L) = H3 at i3 h3 s03 ⊢
    clear s3 i2 h2 hA hB hC hD sA sB sC sD s2 sAll
    refine ⟨_, rfl, _, _, _, _, isTup (d), rfl, .ty "tuple", .inl (Dq.same s03 _ _ dq).ty, kit_ty (kit_tup _), _, rfl, ?_⟩
    cases d with
    | tuple ds =>
      obtain ⟨a, xs, rfl, ha, hds⟩ := dq.ref_tup
      have hwd := wt_t ds
      have hdd := dep_t ds
      have hlen : ds.length ≤ 10000 := by
        have := wtAll_len ds
        omega
      refine iteT ?_
      -- list(value) ..
      refine ⟨_, rfl, _, rfl, a, xs, rfl, .inr (SqT.of (s03 _ _ ha)), fun v1 nv1 => ?_⟩
      have t13 := same_new (o := .lst xs) nv1
      have t1 := s03.trans t13
      have e1 : Dq b (upd H3 v1 (.lst xs)) (.ref v1) (.list ds) := .lst upd_same ((bx.same s03).ne nv1) (DqAll.same t1 _ _ hds)
      have f1 : Fit (2 * wt (.tuple ds) + 3) ((PyData.tuple ds).depth + 1) (.list ds) := by
        refine ⟨by simpa only [fine] using fd_, ?_, ?_⟩
        · simp only [wt]
          omega
        · simp only [PyData.depth]
          omega
      generalize upd H3 v1 (.lst xs) = G1 at t13 t1 e1 ⊢
      refine ⟨_, rfl, (by show 1 ≤ sizeLine; decide), fun q2 nq2 => ?_⟩
      have t2a := t1.trans (same_new (o := .tup [.str "x"]) nq2)
      have t12a := same_new (o := .tup [.str "x"]) nq2
      refine catQ (Dq.same t2a _ _ dq) (.tup upd_same (.cons (.str "x") .nil)) (by simp only [List.length_cons, List.length_nil]; omega) fun v2 G2 t2b e2 => ?_
      have t12 := t12a.trans t2b
      have t2 := t2a.trans t2b
      have f2 : Fit (2 * wt (.tuple ds) + 3) ((PyData.tuple ds).depth + 1) (.tuple (ds ++ [.str "x"])) := by
        refine fit_tup (fun d m => ?_) ?_ (fun d m => ?_) (by omega)
        · rcases List.mem_append.mp m with m | m
          · exact fine_tup fd_ d m
          · rw [List.mem_singleton.mp m]
            decide +kernel
        · rw [wtAll_append]
          simp only [wtAll, wt] at *
          omega
        · rcases List.mem_append.mp m with m | m
          · have := dep_of m
            omega
          · rw [List.mem_singleton.mp m]
            simp only [PyData.depth]
            omega
      refine ⟨_, rfl, _, rfl, _, rfl, ?_⟩
      refine sliceQ (Dq.same t2 _ _ dq) fun v3 G3 t23 e3 => ?_
      have t3 := t2.trans t23
      have f3 : Fit (2 * wt (.tuple ds) + 3) ((PyData.tuple ds).depth + 1) (.tuple (cutD ds none (some (-1)))) := by
        have := wtAll_cut ds none (some (-1))
        refine fit_tup (fun d m => fine_tup fd_ d (cutD_mem m)) (by omega) (fun d m => ?_) (by omega)
        have := dep_of (cutD_mem m)
        omega
      refine ⟨_, rfl, a, xs, rfl, SqT.of (t3 _ _ ha), fun v4 nv4 => ?_⟩
      have t34 := same_new (o := .tup xs.reverse) nv4
      have t4 := t3.trans t34
      have e4 : Dq b (upd G3 v4 (.tup xs.reverse)) (.ref v4) (.tuple ds.reverse) := .tup upd_same (DqAll.same t4 _ _ hds).reverse
      have f4 : Fit (2 * wt (.tuple ds) + 3) ((PyData.tuple ds).depth + 1) (.tuple ds.reverse) := by
        refine fit_tup (fun d m => fine_tup fd_ d (List.mem_reverse.mp m)) (by rw [wtAll_reverse]; omega) (fun d m => ?_) (by omega)
        have := dep_of (List.mem_reverse.mp m)
        omega
      generalize upd G3 v4 (.tup xs.reverse) = G4 at t34 t4 e4 ⊢
      refine ⟨_, rfl, (by show 1 ≤ sizeLine; decide), fun v5 nv5 => ?_⟩
      have t45 := same_new (o := .tup [.ref a]) nv5
      have t5 := t4.trans t45
      have e5 : Dq b (upd G4 v5 (.tup [.ref a])) (.ref v5) (.tuple [.tuple ds]) := .tup upd_same (.cons (Dq.same t5 _ _ dq) .nil)
      have f5 : Fit (2 * wt (.tuple ds) + 3) ((PyData.tuple ds).depth + 1) (.tuple [.tuple ds]) := by
        refine fit_tup (fun d m => by rw [List.mem_singleton.mp m]; exact fd_) (by simp only [wtAll]; omega) (fun d m => by rw [List.mem_singleton.mp m]; exact Nat.le_refl _) (by omega)
      generalize upd G4 v5 (.tup [.ref a]) = G5 at t45 t5 e5 ⊢
      refine ⟨(by show 1 ≤ sizeLine; decide), fun q6 nq6 => ⟨_, rfl, _, rfl, ?_⟩⟩
      have s6a2 := same_new (o := .tup [.str "hole"]) nq6
      have s6a := t5.trans s6a2
      have e6a : Dq b (upd G5 q6 (.tup [.str "hole"])) (.ref q6) (.tuple [.str "hole"]) := .tup upd_same (.cons (.str _) .nil)
      refine sliceF (Dq.same s6a _ _ dq) fun r6 H6b s6b d6b => ?_
      refine catQ (Dq.same s6b _ _ e6a) d6b (by have := cutD_len ds (some 1) none; simp only [List.length_cons, List.length_nil]; omega) fun v6 H6 s6c d6 => ?_
      have s6 := (s6a.trans s6b).trans s6c
      have f6 : Fit (2 * wt (.tuple ds) + 3) ((PyData.tuple ds).depth + 1) (.tuple ([.str "hole"] ++ cutD ds (some 1) none)) := fit_pre (by decide +kernel) fd_

      refine ⟨(by show 6 ≤ sizeLine; decide), fun p4 n4 => ?_⟩
      have t56 := (s6a2.trans s6b).trans s6c
      have i4 : Its b H6 (2 * wt (.tuple ds) + 3) ((PyData.tuple ds).depth + 1) [.ref v1, .ref v2, .ref v3, .ref v4, .ref v5, .ref v6] :=
        .cons (Dq.same ((((t12.trans t23).trans t34).trans t45).trans t56) _ _ e1) f1 (.cons (Dq.same (((t23.trans t34).trans t45).trans t56) _ _ e2) f2 (.cons (Dq.same ((t34.trans t45).trans t56) _ _ e3) f3 (.cons (Dq.same (t45.trans t56) _ _ e4) f4 (.cons (Dq.same t56 _ _ e5) f5 (.cons d6 f6 .nil)))))
      have s04 := s6.trans (same_new (o := .lst [.ref v1, .ref v2, .ref v3, .ref v4, .ref v5, .ref v6]) n4)
      have t36 := ((((t13.trans t12).trans t23).trans t34).trans t45).trans t56
      have h34 := (t36.trans (same_new (o := .lst [.ref v1, .ref v2, .ref v3, .ref v4, .ref v5, .ref v6]) n4)) _ _ h3
      have i34 := i3.same (t36.trans (same_new (o := .lst [.ref v1, .ref v2, .ref v3, .ref v4, .ref v5, .ref v6]) n4))
      have i4 := i4.same (same_new (o := .lst [.ref v1, .ref v2, .ref v3, .ref v4, .ref v5, .ref v6]) n4)
      refine ⟨p4, 2, _, rfl, rfl, upd_same, by decide, by decide, (by show 12 ≤ sizeLine; decide), fun p5 n5 => ?_⟩
      have s5 := same_new (o := .lst (List.replicate (2 : Int).toNat [V.ref v1, V.ref v2, V.ref v3, V.ref v4, V.ref v5, V.ref v6]).flatten) n5
      have i5 := (i4.rep (2 : Int).toNat).same s5
      have i35 := i34.same s5
      have s05 := s04.trans s5
      have h35 := s5 _ _ h34
      refine ⟨p3, p5, _, _, rfl, rfl, h35, upd_same, sz100 (by rw [hL]; show 20 + 12 ≤ 1000; decide), fun p6 n6 => ?_⟩
      have s6n := same_new (o := .lst (L ++ (List.replicate (2 : Int).toNat [V.ref v1, V.ref v2, V.ref v3, V.ref v4, V.ref v5, V.ref v6]).flatten)) n6
      have j1 := (i35.app i5).same s6n
      have u1 := s05.trans s6n
      have hl1 : (L ++ (List.replicate (2 : Int).toNat [V.ref v1, V.ref v2, V.ref v3, V.ref v4, V.ref v5, V.ref v6]).flatten).length = 32 := by
        rw [List.length_append, hL]
        rfl
      have z1 : (L ++ (List.replicate (2 : Int).toNat [V.ref v1, V.ref v2, V.ref v3, V.ref v4, V.ref v5, V.ref v6]).flatten).head? = some .non := by
        rw [List.head?_append, n0]
        rfl
      clear n0 s5 i5 i35 i34 i4 h35 h34 i3 h3
      show gName 2 (.ref p6) _ (upd _ p6 (.lst (L ++ (List.replicate (2 : Int).toNat [V.ref v1, V.ref v2, V.ref v3, V.ref v4, V.ref v5, V.ref v6]).flatten))) _
      generalize (L ++ (List.replicate (2 : Int).toNat [V.ref v1, V.ref v2, V.ref v3, V.ref v4, V.ref v5, V.ref v6]).flatten) = L1 at s6n j1 u1 hl1 z1 ⊢
      generalize hH7 : upd _ p6 (.lst L1) = H7 at j1 u1 ⊢
      have g1 : H7 p6 = some (.lst L1) := by
        rw [← hH7]
        exact upd_same
      clear hH7 s6n n6 n5 n4 s04 s05 d6 e5 e4 e3 e2 e1 t36 t56
      -- [value + value[-1:]] * 3
      have dq7 := Dq.same u1 _ _ dq
      refine ⟨_, rfl, _, rfl, _, rfl, _, rfl, _, rfl, ?_⟩
      refine sliceF dq7 fun r7 H8 s78 d8 => ?_
      refine catQ (Dq.same s78 _ _ dq7) d8 (by have := cutD_len ds (some (-1)) none; omega) fun v7 H9 s89 d9 => ?_
      have f7 : Fit (2 * wt (.tuple ds) + 3) ((PyData.tuple ds).depth + 1) (.tuple (ds ++ cutD ds (some (-1)) none)) := by
        have w1 := wtAll_cut ds (some (-1)) none
        refine fit_tup (fun d m => ?_) ?_ (fun d m => ?_) (by omega)
        · rcases List.mem_append.mp m with m | m
          · exact fine_tup fd_ d m
          · exact fine_tup fd_ d (cutD_mem m)
        · rw [wtAll_append]
          omega
        · rcases List.mem_append.mp m with m | m
          · have := dep_of m
            omega
          · have := dep_of (cutD_mem m)
            omega
      have s79 := s78.trans s89
      refine ⟨(by show 1 ≤ sizeLine; decide), fun p7 n7 => ?_⟩
      have w7 := same_new (o := .lst [.ref v7]) n7
      refine ⟨p7, 3, _, rfl, rfl, upd_same, by decide, by decide, (by show 3 ≤ sizeLine; decide), fun p8 n8 => ?_⟩
      have w8 := same_new (o := .lst (List.replicate (3 : Int).toNat [V.ref v7]).flatten) n8
      have w78 := (s79.trans w7).trans w8
      have i8 : Its b _ (2 * wt (.tuple ds) + 3) ((PyData.tuple ds).depth + 1) (List.replicate (3 : Int).toNat [V.ref v7]).flatten := ((Its.cons d9 f7 .nil).same (w7.trans w8)).rep (3 : Int).toNat
      refine ⟨p6, p8, _, _, rfl, rfl, w78 _ _ g1, upd_same, sz100 (by rw [hl1]; show 32 + 3 ≤ 1000; decide), fun p9 n9 => ?_⟩
      have w9 := same_new (o := .lst (L1 ++ (List.replicate (3 : Int).toNat [V.ref v7]).flatten)) n9
      have j2 := ((j1.same w78).app i8).same w9
      have u2 := (u1.trans w78).trans w9
      have hl2 : (L1 ++ (List.replicate (3 : Int).toNat [V.ref v7]).flatten).length = 35 := by
        rw [List.length_append, hl1]
        rfl
      have z2 : (L1 ++ (List.replicate (3 : Int).toNat [V.ref v7]).flatten).head? = some .non := by
        rw [List.head?_append, z1]
        rfl
      show gName 2 (.ref p9) _ (upd _ p9 (.lst (L1 ++ (List.replicate (3 : Int).toNat [V.ref v7]).flatten))) _
      clear z1 i8 w7 w8 j1 g1
      generalize (L1 ++ (List.replicate (3 : Int).toNat [V.ref v7]).flatten) = L2 at w9 j2 u2 hl2 z2 ⊢
      generalize hHa : upd _ p9 (.lst L2) = Ha at j2 u2 ⊢
      have g2 : Ha p9 = some (.lst L2) := by
        rw [← hHa]
        exact upd_same
      clear hHa w9 n9 n8 n7 w78 hl1
      refine ⟨_, rfl, ?_⟩
      refine ⟨(by show 1 ≤ sizeLine; decide), fun q1 nq1 => ⟨_, rfl, _, rfl, ?_⟩⟩
      have s1a2 := same_new (o := .tup [.str "want"]) nq1
      have s1a := u2.trans s1a2
      have e1a : Dq b (upd Ha q1 (.tup [.str "want"])) (.ref q1) (.tuple [.str "want"]) := .tup upd_same (.cons (.str _) .nil)
      refine sliceF (Dq.same s1a _ _ dq) fun r1 H1b s1b d1b => ?_
      refine catQ (Dq.same s1b _ _ e1a) d1b (by have := cutD_len ds (some 1) none; simp only [List.length_cons, List.length_nil]; omega) fun v1 H1 s1c d1 => ?_
      have s1 := (s1a.trans s1b).trans s1c
      have f1 : Fit (2 * wt (.tuple ds) + 3) ((PyData.tuple ds).depth + 1) (.tuple ([.str "want"] ++ cutD ds (some 1) none)) := fit_pre (by decide +kernel) fd_
      refine ⟨(by show 1 ≤ sizeLine; decide), fun q2 nq2 => ⟨_, rfl, _, rfl, ?_⟩⟩
      have s2a2 := same_new (o := .tup [.str "op"]) nq2
      have s2a := s1.trans s2a2
      have e2a : Dq b (upd H1 q2 (.tup [.str "op"])) (.ref q2) (.tuple [.str "op"]) := .tup upd_same (.cons (.str _) .nil)
      refine sliceF (Dq.same s2a _ _ dq) fun r2 H2b s2b d2b => ?_
      refine catQ (Dq.same s2b _ _ e2a) d2b (by have := cutD_len ds (some 1) none; simp only [List.length_cons, List.length_nil]; omega) fun v2 H2 s2c d2 => ?_
      have s2 := (s2a.trans s2b).trans s2c
      have f2 : Fit (2 * wt (.tuple ds) + 3) ((PyData.tuple ds).depth + 1) (.tuple ([.str "op"] ++ cutD ds (some 1) none)) := fit_pre (by decide +kernel) fd_
      refine ⟨(by show 1 ≤ sizeLine; decide), fun q3 nq3 => ⟨_, rfl, _, rfl, ?_⟩⟩
      have s3a2 := same_new (o := .tup [.str "call"]) nq3
      have s3a := s2.trans s3a2
      have e3a : Dq b (upd H2 q3 (.tup [.str "call"])) (.ref q3) (.tuple [.str "call"]) := .tup upd_same (.cons (.str _) .nil)
      refine sliceF (Dq.same s3a _ _ dq) fun r3 H3b s3b d3b => ?_
      refine catQ (Dq.same s3b _ _ e3a) d3b (by have := cutD_len ds (some 1) none; simp only [List.length_cons, List.length_nil]; omega) fun v3 H3 s3c d3 => ?_
      have s3 := (s3a.trans s3b).trans s3c
      have f3 : Fit (2 * wt (.tuple ds) + 3) ((PyData.tuple ds).depth + 1) (.tuple ([.str "call"] ++ cutD ds (some 1) none)) := fit_pre (by decide +kernel) fd_
      refine ⟨(by show 1 ≤ sizeLine; decide), fun q4 nq4 => ⟨_, rfl, _, rfl, ?_⟩⟩
      have s4a2 := same_new (o := .tup [.str "let"]) nq4
      have s4a := s3.trans s4a2
      have e4a : Dq b (upd H3 q4 (.tup [.str "let"])) (.ref q4) (.tuple [.str "let"]) := .tup upd_same (.cons (.str _) .nil)
      refine sliceF (Dq.same s4a _ _ dq) fun r4 H4b s4b d4b => ?_
      refine catQ (Dq.same s4b _ _ e4a) d4b (by have := cutD_len ds (some 1) none; simp only [List.length_cons, List.length_nil]; omega) fun v4 H4 s4c d4 => ?_
      have s4 := (s4a.trans s4b).trans s4c
      have f4 : Fit (2 * wt (.tuple ds) + 3) ((PyData.tuple ds).depth + 1) (.tuple ([.str "let"] ++ cutD ds (some 1) none)) := fit_pre (by decide +kernel) fd_
      have y1 := (s1a2.trans s1b).trans s1c
      have y2 := (s2a2.trans s2b).trans s2c
      have y3 := (s3a2.trans s3b).trans s3c
      have y4 := (s4a2.trans s4b).trans s4c
      refine ⟨(by show 4 ≤ sizeLine; decide), fun pe ne => ?_⟩
      have we := same_new (o := .lst [.ref v1, .ref v2, .ref v3, .ref v4]) ne
      have ie : Its b _ (2 * wt (.tuple ds) + 3) ((PyData.tuple ds).depth + 1) [.ref v1, .ref v2, .ref v3, .ref v4] := (Its.cons (Dq.same ((y2.trans y3).trans y4) _ _ d1) f1 (.cons (Dq.same (y3.trans y4) _ _ d2) f2 (.cons (Dq.same y4 _ _ d3) f3 (.cons d4 f4 .nil)))).same we
      have ya := (((y1.trans y2).trans y3).trans y4).trans we
      refine ⟨p9, pe, _, _, rfl, rfl, ya _ _ g2, upd_same, sz100 (by rw [hl2]; show 35 + 4 ≤ 1000; decide), fun pz nz => ?_⟩
      have wz := same_new (o := .lst (L2 ++ [V.ref v1, V.ref v2, V.ref v3, V.ref v4])) nz
      have j3 := ((j2.same ya).app ie).same wz
      have u3 := (u2.trans ya).trans wz
      have hl3 : (L2 ++ [V.ref v1, V.ref v2, V.ref v3, V.ref v4]).length = 39 := by
        rw [List.length_append, hl2]
        rfl
      have z3 : (L2 ++ [V.ref v1, V.ref v2, V.ref v3, V.ref v4]).head? = some .non := by
        rw [List.head?_append, z2]
        rfl
      show gName 2 (.ref pz) _ (upd _ pz (.lst (L2 ++ [V.ref v1, V.ref v2, V.ref v3, V.ref v4]))) _
      clear z2 ie we j2 g2
      generalize (L2 ++ [V.ref v1, V.ref v2, V.ref v3, V.ref v4]) = L3 at wz j3 u3 hl3 z3 ⊢
      generalize hHb : upd _ pz (.lst L3) = Hb at j3 u3 ⊢
      have g3 : Hb pz = some (.lst L3) := by
        rw [← hHb]
        exact upd_same
      clear hHb wz
      -- one of them
      refine ⟨_, rfl, _, rfl, _, rfl, pz, _, rfl, .inl (SqL.of g3), b, _, n, rfl, bx.same u3, by omega, by omega, by omega, fun dd Hf l1 u1 xf kf => ?_⟩
      obtain ⟨u, e, m1, m2, m3⟩ := (j3).get (i := dd) l1 u1
      have nf : pz ≠ b := ne_of_at bx u3 g3 z3
      exact ⟨pz, _, _, u, rfl, rfl, SqL.of (kf _ _ g3 nf), m1, q u e Hf ((Kp.of_same u3).trans kf) xf (Dq.kp (bx.same u3) kf _ _ m2) m3.1 m3.2.1 m3.2.2⟩
    | _ =>
      refine iteF ?_
      -- one of them
      refine ⟨_, rfl, _, rfl, _, rfl, p3, _, rfl, .inl (SqL.of h3), b, _, n, rfl, bx.same s03, by omega, by omega, by omega, fun dd Hf l1 u1 xf kf => ?_⟩
      obtain ⟨u, e, m1, m2, m3⟩ := (i3).get (i := dd) l1 u1
      have nf : p3 ≠ b := ne_of_at bx s03 h3 n0
      exact ⟨p3, _, _, u, rfl, rfl, SqL.of (kf _ _ h3 nf), m1, q u e Hf ((Kp.of_same s03).trans kf) xf (Dq.kp (bx.same s03) kf _ _ m2) m3.1 m3.2.1 m3.2.2⟩
end
end K11
set_option Elab.async false
set_option linter.all false
set_option maxRecDepth 100000
namespace K11
open PySem PySem.Spec PyProof.Rows L2 CaV CaL CaN CaD
theorem cut_take (ds : List PyData) {i : Int} (h0 : 0 ≤ i) (h1 : i ≤ ds.length) : CaD.cutD ds none (some i) = ds.take i.toNat := by
  unfold CaD.cutD
  rw [sIx_pos h0]
  show (ds.drop 0).take (min i.toNat ds.length - 0) = _
  rw [show min i.toNat ds.length - 0 = i.toNat by omega, List.drop_zero]
theorem cut_drop (ds : List PyData) {i : Int} (h0 : 0 ≤ i) (h1 : i ≤ ds.length) : CaD.cutD ds (some i) none = ds.drop i.toNat := by
  unfold CaD.cutD
  rw [sIx_pos h0]
  show (ds.drop (min i.toNat ds.length)).take (ds.length - min i.toNat ds.length) = _
  rw [show min i.toNat ds.length = i.toNat by omega]
  exact List.take_of_length_le (by rw [List.length_drop]; omega)
theorem wt_split : ∀ (ds : List PyData) (i : Nat) (h : i < ds.length), wtAll (ds.take i) + wt ds[i] + wtAll (ds.drop (i + 1)) = wtAll ds
  | d :: ds, 0, _ => by simp [wtAll]
  | d :: ds, i + 1, h => by
    have := wt_split ds i (by simpa using h)
    simp only [List.take_succ_cons, List.drop_succ_cons, wtAll, List.getElem_cons_succ]
    omega
def spSpoilt (m : Nat) : Sp := fun vs H Q _ => ∃ (b : Addr) (n : Nat) (x : V) (d : PyData) (deep : Int), vs = [.ref b, x, .int deep] ∧ Bx H b n ∧ n + 2 * m + 10 < 880000 ∧ Dq b H x d ∧ fine d = true ∧ wt d ≤ 5000 ∧ deep ≤ m ∧
  ∀ (v : V) (e : PyData) (H' : Hp), Kp b H H' → Bx H' b (n + 2 * m + 2) → Dq b H' v e → fine e = true → wt e ≤ 2 * wt d + 3 → e.depth ≤ d.depth + 1 → Q v H'
section
variable {P : Program} {w : World} {K : PySem.W.Frag} {mg : Str → Option Value} {base : Heap}
theorem false_ok {k : Nat} {f : Addr} {fd : FuncData} {ps : List Str} : FnOk P w K mg base CX0 k f fd ps (fun _ _ _ _ => False) := by
  constructor
  · intro vs H Q E h
    exact h.elim
  · intros
    contradiction
set_option maxHeartbeats 2000000 in
theorem spoilt_step (T : TP K mg) (m k : Nat) (sp : Sp) (G_l_spoilt : FnOk P w K mg base CX0 (k + 2) T.d_l_spoilt.f T.d_l_spoilt.fd ["_law_purse_here", "_law_value", "_law_deep"] sp) (hsp : ∀ m', m = m' + 1 → sp = spSpoilt m') : FnOk P w K mg base CX0 (k + 3) T.d_l_spoilt.f T.d_l_spoilt.fd ["_law_purse_here", "_law_value", "_law_deep"] (spSpoilt m) := by
  have G_l_take : FnOk P w K mg base CX0 1 T.d_l_take.f T.d_l_take.fd ["_law_purse_here", "_law_many"] spTake := ok_take T
  have G_l_odd : FnOk P w K mg base CX0 2 T.d_l_odd.f T.d_l_odd.fd ["_law_purse_here", "_law_value"] spOdd := ok_l_odd T
  refine T.d_l_spoilt.F.ok (k := k + 2) sc_l_spoilt (fun vs H Q E h => ?_) (fun cdv A outer s H vs Q E hr h => ?_)
  · obtain ⟨b, n, x, d, deep, rfl, _⟩ := h
    rfl
  · obtain ⟨b, n, x, d, deep, rfl, bx, hn, dq, fd_, hw, hd, q⟩ := h
    refine ⟨_, (pss_cons (ps_if (PW.pt (pw_and (pt_val (pe_callB CaV.call_isV (by rfl) T.n_isinstance (by decide +kernel) (pa_cons (pv 1) (pa_cons (pe_bltn (v := .ty "tuple") (by rfl) T.n_tuple (by decide +kernel) rfl) pa_nil)))) (pw_and (pt_cmpR op_gt (pe_callB call_len_seq (by rfl) T.n_len PySem.boot_len (pa_cons (pv 1) pa_nil)) pe_int (nomark _)) (pw_and (pt_cmpR op_gt (pv 2) pe_int (nomark _)) (pw_and1 (pt_cmpR op_gt (pe_call G_l_take (hr.mono (by omega)) (by rfl) T.d_l_take.g T.d_l_take.F.kp T.d_l_take.b .nil pass0 (pa_cons (pv 0) (pa_cons pe_int pa_nil))) pe_int (nomark _)))))))
      (pss_cons (ps_set (i := 3) sc_l_spoilt.nd rfl (.inl rfl) (pe_op op_sub (pe_op op_sub (pe_callB call_len_seq (by rfl) T.n_len PySem.boot_len (pa_cons (pv 1) pa_nil)) pe_int) (pe_call G_l_take (hr.mono (by omega)) (by rfl) T.d_l_take.g T.d_l_take.F.kp T.d_l_take.b .nil pass0 (pa_cons (pv 0) (pa_cons (pe_callB call_len_seq (by rfl) T.n_len PySem.boot_len (pa_cons (pv 1) pa_nil)) pa_nil)))))
      (pss_one (ps_ret (pe_op op_catA (pe_op op_catA (pe_slice sl_tupA (pv 1) po_none (po_some (pv 3))) (pe_tup (pa_cons (pe_call G_l_spoilt (hr.mono (by omega)) (by rfl) T.d_l_spoilt.g T.d_l_spoilt.F.kp T.d_l_spoilt.b .nil pass0 (pa_cons (pv 0) (pa_cons (pe_ix ix_tup (pv 1) (pv 3) (fun _ _ => rfl)) (pa_cons (pe_op op_sub (pv 2) pe_int) pa_nil)))) pa_nil))) (pe_slice sl_tupA (pv 1) (po_some (pe_op op_add (pv 3) pe_int)) po_none)))))
      pss_nil)
    (pss_one (ps_ret (pe_call G_l_odd (hr.mono (by omega)) (by rfl) T.d_l_odd.g T.d_l_odd.F.kp T.d_l_odd.b .nil pass0 (pa_cons (pv 0) (pa_cons (pv 1) pa_nil)))))), ?_⟩
    refine ⟨_, rfl, _, _, _, _, isTup (d), rfl, .ty "tuple", .inl dq.ty, kit_ty (kit_tup _), _, rfl, ?_⟩
    cases d with
    | tuple ds =>
      obtain ⟨a, xs, rfl, ha, hds⟩ := dq.ref_tup
      have hwd := wt_t ds
      have hdd := dep_t ds
      have hl := hds.len
      have hlen : ds.length ≤ 10000 := by
        have := wtAll_len ds
        omega
      refine iteT ⟨_, rfl, a, _, rfl, .inr (SqT.of ha), _, _, rfl, rfl, _, rfl, ?_⟩
      by_cases c1 : 0 < xs.length
      · rw [show decide ((xs.length : Int) > 0) = true from decide_eq_true (by omega)]
        refine iteT ⟨_, rfl, _, _, rfl, rfl, _, rfl, ?_⟩
        by_cases c2 : deep > 0
        · rw [decide_eq_true c2]
          refine iteT ⟨_, rfl, b, _, n, rfl, bx, by omega, by decide, by decide, fun d1 H1 l1 u1 x1 k1 => ⟨_, _, rfl, rfl, _, rfl, ?_⟩⟩
          have dq1 := Dq.kp bx k1 _ _ dq
          have ha1 := Tp.kp bx k1 _ _ ha
          by_cases c3 : d1 > 0
          · rw [decide_eq_true c3]
            refine iteT ?_
            refine ⟨_, rfl, a, _, rfl, .inr (SqT.of ha1), _, _, rfl, rfl, _, rfl, _, rfl, a, _, rfl, .inr (SqT.of ha1), b, _, _, rfl, x1, by omega, by omega, by omega, fun d2 H2 l2 u2 x2 k2 => ?_⟩
            have dq2 := Dq.kp x1 k2 _ _ dq1
            have ha2 := Tp.kp x1 k2 _ _ ha1
            have k02 := k1.trans k2
            refine ⟨_, _, rfl, rfl, ?_⟩
            have a0 : 0 ≤ ((xs.length : Int) - 1 - d2) := by omega
            have a1 : ((xs.length : Int) - 1 - d2) < xs.length := by omega
            have a2 : ((xs.length : Int) - 1 - d2).toNat < ds.length := by omega
            refine ⟨_, rfl, _, rfl, ((xs.length : Int) - 1 - d2), rfl, ?_⟩
            refine sliceQ dq2 fun c1 H3 s3 e3 => ?_
            have x3 := x2.same s3
            have dq3 := Dq.same s3 _ _ dq2
            have ha3 := s3 _ _ ha2
            obtain ⟨u, g1, g2⟩ := hds.get (List.getElem?_eq_getElem a2)
            have gu : atI xs ((xs.length : Int) - 1 - d2) = some u := by
              have z := atI_nat g1
              rwa [Int.toNat_of_nonneg a0] at z
            have gq : Dq b H3 u ds[((xs.length : Int) - 1 - d2).toNat] := Dq.same s3 _ _ (Dq.kp x1 k2 _ _ (Dq.kp bx k1 _ _ g2))
            have mem : ds[((xs.length : Int) - 1 - d2).toNat] ∈ ds := List.getElem_mem a2
            have wsp := wt_split ds ((xs.length : Int) - 1 - d2).toNat a2
            have dsp := dep_of mem
            obtain ⟨m', rfl⟩ : ∃ m', m = m' + 1 := ⟨m - 1, by omega⟩
            have hsp := hsp m' rfl
            subst hsp
            refine ⟨_, rfl, _, rfl, _, rfl, a, _, _, u, rfl, rfl, SqT.of ha3, gu, _, rfl, _, _, rfl, rfl, b, _, u, _, _, rfl, x3, by omega, gq, fine_tup fd_ _ mem, by omega, by omega, fun v e H4 k4 x4 dv fe we de => ?_⟩
            have e4 := Dq.kp x3 k4 _ _ e3
            have dq4 := Dq.kp x3 k4 _ _ dq3
            refine ⟨(by show 1 ≤ sizeLine; decide), fun pt npt => ?_⟩
            have s5 := same_new (o := .tup [v]) npt
            refine catQ (Dq.same s5 _ _ e4) (.tup upd_same (.cons (Dq.same s5 _ _ dv) .nil)) (by have := cutD_len ds none (some ((xs.length : Int) - 1 - d2)); simp only [List.length_cons, List.length_nil]; omega) fun c2 H6 s6 e6 => ?_
            have s56 := s5.trans s6
            refine ⟨_, rfl, _, rfl, _, _, rfl, rfl, ((xs.length : Int) - 1 - d2) + 1, rfl, ?_⟩
            refine sliceF (Dq.same s56 _ _ dq4) fun c3 H7 s7 e7 => ?_
            refine catQ (Dq.same s7 _ _ e6) e7 (by have := cutD_len ds none (some ((xs.length : Int) - 1 - d2)); have := cutD_len ds (some (((xs.length : Int) - 1 - d2) + 1)) none; simp only [List.length_append, List.length_cons, List.length_nil]; omega) fun c4 H8 s8 e8 => ?_
            have s58 := (s56.trans s7).trans s8
            have ce1 := cut_take ds a0 (by omega)
            have ce2 := cut_drop ds (i := ((xs.length : Int) - 1 - d2) + 1) (by omega) (by omega)
            have cn : (((xs.length : Int) - 1 - d2) + 1).toNat = ((xs.length : Int) - 1 - d2).toNat + 1 := by omega
            rw [cn] at ce2
            have fit : Fit (2 * wt (.tuple ds) + 3) ((PyData.tuple ds).depth + 1) (.tuple (CaD.cutD ds none (some ((xs.length : Int) - 1 - d2)) ++ [e] ++ CaD.cutD ds (some (((xs.length : Int) - 1 - d2) + 1)) none)) := by
              refine fit_tup (fun d mm => ?_) ?_ (fun d mm => ?_) (by omega)
              · rcases List.mem_append.mp mm with mm | mm
                · rcases List.mem_append.mp mm with mm | mm
                  · exact fine_tup fd_ d (cutD_mem mm)
                  · rw [List.mem_singleton.mp mm]
                    exact fe
                · exact fine_tup fd_ d (cutD_mem mm)
              · rw [wtAll_append, wtAll_append, ce1, ce2]
                simp only [wtAll]
                omega
              · rcases List.mem_append.mp mm with mm | mm
                · rcases List.mem_append.mp mm with mm | mm
                  · have := dep_of (cutD_mem mm)
                    omega
                  · rw [List.mem_singleton.mp mm]
                    omega
                · have := dep_of (cutD_mem mm)
                  omega
            exact q _ _ _ (((k02.trans (Kp.of_same s3)).trans k4).trans (Kp.of_same s58)) ((x4.same s58).mono (by omega)) e8 fit.1 fit.2.1 fit.2.2
          · rw [decide_eq_false c3]
            refine iteF ?_
            exact ⟨_, rfl, _, rfl, b, _, _, _, rfl, x1, by omega, dq1, fd_, by omega, fun v e Hf kf xf dv fe we de => q v e Hf (k1.trans kf) (xf.mono (by omega)) dv fe we de⟩
        · rw [decide_eq_false c2]
          refine iteF (iteF ?_)
          exact ⟨_, rfl, _, rfl, b, _, _, _, rfl, bx, by omega, dq, fd_, by omega, fun v e Hf kf xf dv fe we de => q v e Hf ((Kp.refl b H).trans kf) (xf.mono (by omega)) dv fe we de⟩
      · rw [show decide ((xs.length : Int) > 0) = false from decide_eq_false (by omega)]
        refine iteF (iteF ?_)
        exact ⟨_, rfl, _, rfl, b, _, _, _, rfl, bx, by omega, dq, fd_, by omega, fun v e Hf kf xf dv fe we de => q v e Hf ((Kp.refl b H).trans kf) (xf.mono (by omega)) dv fe we de⟩
    | _ =>
      refine iteF (iteF ?_)
      exact ⟨_, rfl, _, rfl, b, _, _, _, rfl, bx, by omega, dq, fd_, by omega, fun v e Hf kf xf dv fe we de => q v e Hf ((Kp.refl b H).trans kf) (xf.mono (by omega)) dv fe we de⟩
theorem ok_l_spoilt (T : TP K mg) : ∀ m : Nat, FnOk P w K mg base CX0 (m + 3) T.d_l_spoilt.f T.d_l_spoilt.fd ["_law_purse_here", "_law_value", "_law_deep"] (spSpoilt m)
  | 0 => spoilt_step T 0 0 _ false_ok (fun _ h => by cases h)
  | m + 1 => spoilt_step T (m + 1) (m + 1) _ (ok_l_spoilt T m) (fun m' h => by cases h; rfl)
end
end K11
set_option Elab.async false
set_option linter.all false
set_option maxRecDepth 100000
namespace K11
open PySem PySem.Spec PyProof.Rows L2 CaV CaL CaN CaD CaG
def spRight : Sp := fun vs H Q _ => ∃ (b : Addr), vs = [.ref b] ∧ Bx H b 0 ∧ ∀ H', Kp b H H' → Q (.bl true) H'
theorem q_par {z : Str} (h : nameS z = true) : fine (.str ("?" ++ z)) = true ∧ parS ("?" ++ z) = true ∧ ("?" ++ z).length ≤ 10 := by
  have h2 := sign_par (g := 63) (.inl rfl) h
  rw [qmark]
  exact ⟨h2.2, h2.1, (fine_str h2.2).1⟩
theorem five {zs : List Str} (h : zs.length = 5) : ∃ z0 z1 z2 z3 z4, zs = [z0, z1, z2, z3, z4] := by
  match zs, h with
  | [a, c, d, e, f], _ => exact ⟨a, c, d, e, f, rfl⟩
theorem dq_strs {b : Addr} {H : Hp} : ∀ l : List Str, DqAll b H (l.map V.str) (l.map PyData.str)
  | [] => .nil
  | y :: r => .cons (.str y) (dq_strs r)
theorem fine_strs : ∀ {l : List Str}, (∀ p ∈ l, fine (.str p) = true) → fineAll (l.map PyData.str) = true
  | [], _ => rfl
  | y :: r, h => by
    simp only [List.map_cons, fineAll, Bool.and_eq_true]
    exact ⟨h y List.mem_cons_self, fine_strs fun p m => h p (List.mem_cons_of_mem _ m)⟩
theorem wt_strs : ∀ (l : List Str), wtAll (l.map PyData.str) = l.length
  | [] => rfl
  | y :: r => by
    simp only [List.map_cons, wtAll, wt, List.length_cons]
    rw [wt_strs r]
    omega
theorem dep_strs : ∀ (l : List Str), PyData.depthAll (l.map PyData.str) = 0
  | [] => by simp [PyData.depthAll]
  | y :: r => by
    simp only [List.map_cons, PyData.depthAll, PyData.depth]
    rw [dep_strs r]
    rfl
/-- what the two reprs of the thing and its parameters are -/
def pairD (d : PyData) (l : List Str) : PyData := .list [d, .list (l.map PyData.str)]
theorem pair_ok {d : PyData} {l : List Str} (f : fine d = true) (w : wt d ≤ 393) (g : d.depth ≤ 20) (hl : l.length ≤ 4) (h : ∀ p ∈ l, fine (.str p) = true) : fine (pairD d l) = true ∧ wt (pairD d l) ≤ 60000 ∧ (pairD d l).depth ≤ 60 := by
  refine ⟨?_, ?_, ?_⟩
  · simp only [pairD, fine, fineAll, f, fine_strs h, Bool.and_true]
  · simp only [pairD, wt, wtAll, wt_strs]
    omega
  · simp only [pairD, PyData.depth, PyData.depthAll, dep_strs]
    omega
theorem bools_ok (x y z : Bool) : fine (.list [.bool x, .bool y, .bool z]) = true ∧ wt (.list [.bool x, .bool y, .bool z]) ≤ 60000 ∧ (PyData.list [.bool x, .bool y, .bool z]).depth ≤ 60 := by
  refine ⟨rfl, by simp [wt, wtAll], by simp [PyData.depth, PyData.depthAll]⟩
theorem ne_str (x : Str) : (!decide (V.str x = V.str x)) = false := by
  rw [decide_eq_true rfl]
  rfl
def bd : Nat → Nat
  | 0 => 96
  | 1 => 195
  | _ => 393
section
variable {P : Program} {w : World} {K : PySem.W.Frag} {mg : Str → Option Value} {base : Heap}
set_option maxHeartbeats 4000000 in
theorem ok_l_right {k : Nat} (T : TP K mg) : FnG P w K mg base (k + 34) T.d_l_right.f T.d_l_right.fd ["_law_purse_here"] spRight := by
  have G_l_take : FnOk P w K mg base CX0 1 T.d_l_take.f T.d_l_take.fd ["_law_purse_here", "_law_many"] spTake := ok_take T
  have G_l_pool : FnOk P w K mg base CX0 2 T.d_l_pool.f T.d_l_pool.fd ["_law_purse_here"] spPool := ok_l_pool T
  have G_l_piece : FnOk P w K mg base CX0 20 T.d_l_piece.f T.d_l_piece.fd ["_law_purse_here", "_law_pool_here", "_law_room", "_law_deep", "_law_way"] (spPiece 9) := ok_l_piece T 9
  have G_l_spoilt : FnOk P w K mg base CX0 10 T.d_l_spoilt.f T.d_l_spoilt.fd ["_law_purse_here", "_law_value", "_law_deep"] (spSpoilt 7) := ok_l_spoilt T 7
  have G_l_good : FnOk P w K mg base CX0 33 T.d_l_good.f T.d_l_good.fd ["_law_value", "_law_parameters", "_law_can_call"] (spGood K 30) := ok_l_good T 30
  have G_is_term : FnOk P w K mg base CX0 6 T.d_is_term.f T.d_is_term.fd ["value"] (spIs none false) := ok_is_term T
  have G_is_program : FnOk P w K mg base CX0 6 T.d_is_program.f T.d_is_program.fd ["value"] (spIs none true) := ok_is_program T
  have G_is_body : FnOk P w K mg base CX0 6 T.d_is_body.f T.d_is_body.fd ["value", "parameters"] (spBody K) := ok_is_body T
  refine FnG.of T.d_l_right.F sc_l_right (fun vs H Q E h => ?_) (fun cdv A outer s H vs Q E quiet hr h => ?_)
  · obtain ⟨b, rfl, _⟩ := h
    rfl
  · obtain ⟨b, rfl, bx, q⟩ := h
    refine ⟨_, (pss_cons (ps_set (i := 1) sc_l_right.nd rfl (.inl rfl) (pe_call G_l_pool (hr.mono (by omega)) (by rfl) T.d_l_pool.g T.d_l_pool.F.kp T.d_l_pool.b .nil pass0 (pa_cons (pv 0) pa_nil)))
    (pss_cons (ps_if (pt_cmpR op_eq (pe_call G_l_take (hr.mono (by omega)) (by rfl) T.d_l_take.g T.d_l_take.F.kp T.d_l_take.b .nil pass0 (pa_cons (pv 0) (pa_cons pe_int pa_nil))) pe_int (nomark _))
      (pss_one (ps_asg (pe_ix ix_list (pv 1) pe_int (fun _ _ => rfl)) (pg_sub (pv 1) pe_int set_list)))
      pss_nil)
    (pss_cons (ps_set (i := 2) sc_l_right.nd rfl (.inl rfl) (pe_call G_l_piece (hr.mono (by omega)) (by rfl) T.d_l_piece.g T.d_l_piece.F.kp T.d_l_piece.b .nil pass0 (pa_cons (pv 0) (pa_cons (pv 1) (pa_cons (pe_op op_add pe_int (pe_call G_l_take (hr.mono (by omega)) (by rfl) T.d_l_take.g T.d_l_take.F.kp T.d_l_take.b .nil pass0 (pa_cons (pv 0) (pa_cons pe_int pa_nil)))) (pa_cons pe_int (pa_cons (pe_call G_l_take (hr.mono (by omega)) (by rfl) T.d_l_take.g T.d_l_take.F.kp T.d_l_take.b .nil pass0 (pa_cons (pv 0) (pa_cons pe_int pa_nil))) pa_nil)))))))
    (pss_cons (ps_for PassesOwn.never rfl (pi_range1 (by rfl) T.n_range (pa_cons (pe_ix ix_list (pe_lst (pa_cons pe_int (pa_cons pe_int (pa_cons pe_int pa_nil)))) (pe_call G_l_take (hr.mono (by omega)) (by rfl) T.d_l_take.g T.d_l_take.F.kp T.d_l_take.b .nil pass0 (pa_cons (pv 0) (pa_cons pe_int pa_nil))) (fun _ _ => rfl)) pa_nil)) (pg_name (i := 3) sc_l_right.nd rfl (.inl rfl))
      (pss_one (ps_set (i := 2) sc_l_right.nd rfl (.inl rfl) (pe_call G_l_spoilt (hr.mono (by omega)) (by rfl) T.d_l_spoilt.g T.d_l_spoilt.F.kp T.d_l_spoilt.b .nil pass0 (pa_cons (pv 0) (pa_cons (pv 2) (pa_cons pe_int pa_nil)))))))
    (pss_cons (ps_set (i := 4) sc_l_right.nd rfl (.inr rfl) (pe_lst (pa_cons (pe_op op_add_str pe_str (pe_ix ix_list (pv 1) pe_int (fun _ _ => rfl))) (pa_cons (pe_op op_add_str pe_str (pe_ix ix_list (pv 1) pe_int (fun _ _ => rfl))) (pa_cons (pe_op op_add_str pe_str (pe_ix ix_list (pv 1) pe_int (fun _ _ => rfl))) (pa_cons (pe_op op_add_str pe_str (pe_ix ix_list (pv 1) pe_int (fun _ _ => rfl))) pa_nil))))))
    (pss_cons (ps_set (i := 5) sc_l_right.nd rfl (.inr rfl) (pe_call G_l_take (hr.mono (by omega)) (by rfl) T.d_l_take.g T.d_l_take.F.kp T.d_l_take.b .nil pass0 (pa_cons (pv 0) (pa_cons pe_int pa_nil))))
    (pss_cons (ps_set (i := 4) sc_l_right.nd rfl (.inr rfl) (pe_lc (own := [("_law_k", 9)]) (g := gName 9) (by rfl) sc_l_right.nd (pi_range1 (by rfl) T.n_range (pa_cons pe_int pa_nil)) (blkOk_by (own := [("_law_k", 9)]) (N := N_l_right) (sc := defScope s_l_right) (by decide +kernel)) (fun _ _ _ _ _ => pg_name (i := 9) sc_l_right.nd rfl (Or.inl rfl)) (fun _ _ _ _ _ => (pts_one (pt_cmpR op_ne (pv 9) (pv 5) (nomark _)))) (fun _ _ _ _ _ => (pe_ix (show IxR _ (rIxL K) from ix_list) (pv 4) (pv 9) (fun _ _ => rfl)))))
    (pss_cons (ps_if (PW.pt (pw_or (pt_cmpR op_eq (pe_ix ix_list (pv 1) pe_int (fun _ _ => rfl)) (pe_ix ix_list (pv 1) pe_int (fun _ _ => rfl)) (nomark _)) (pw_or1 (pt_cmpR op_eq (pe_ix ix_list (pv 1) pe_int (fun _ _ => rfl)) (pe_ix ix_list (pv 1) pe_int (fun _ _ => rfl)) (nomark _)))))
      (pss_one (ps_set (i := 4) sc_l_right.nd rfl (.inr rfl) (pe_two (pv 4))))
      pss_nil)
    (pss_cons (ps_set (i := 6) sc_l_right.nd rfl (.inl rfl) (pe_lst (pa_cons (pe_call G_l_good (hr.mono (by omega)) (by rfl) T.d_l_good.g T.d_l_good.F.kp T.d_l_good.b .nil pass0 (pa_cons (pv 2) (pa_cons pe_non (pa_cons pe_bl pa_nil)))) (pa_cons (pe_call G_l_good (hr.mono (by omega)) (by rfl) T.d_l_good.g T.d_l_good.F.kp T.d_l_good.b .nil pass0 (pa_cons (pv 2) (pa_cons pe_non (pa_cons pe_bl pa_nil)))) (pa_cons (pe_call G_l_good (hr.mono (by omega)) (by rfl) T.d_l_good.g T.d_l_good.F.kp T.d_l_good.b .nil pass0 (pa_cons (pv 2) (pa_cons (pv 4) (pa_cons pe_bl pa_nil)))) pa_nil)))))
    (pss_cons (ps_set (i := 7) sc_l_right.nd rfl (.inl rfl) (pe_callB (call_reprQ (b := b) quiet hr.units) (by rfl) T.n_repr (by decide +kernel) (pa_cons (pe_lst (pa_cons (pv 2) (pa_cons (pv 4) pa_nil))) pa_nil)))
    (pss_cons (ps_for PassesOwn.never rfl (pi_range1 (by rfl) T.n_range (pa_cons pe_int pa_nil)) (pg_name (i := 3) sc_l_right.nd rfl (.inl rfl))
      (pss_cons (ps_set (i := 8) sc_l_right.nd rfl (.inl rfl) (pe_lst (pa_cons (pe_call G_is_term (hr.mono (by omega)) (by rfl) T.d_is_term.g T.d_is_term.F.kp T.d_is_term.b .nil pass0 (pa_cons (pv 2) pa_nil)) (pa_cons (pe_call G_is_program (hr.mono (by omega)) (by rfl) T.d_is_program.g T.d_is_program.F.kp T.d_is_program.b .nil pass0 (pa_cons (pv 2) pa_nil)) (pa_cons (pe_call G_is_body (hr.mono (by omega)) (by rfl) T.d_is_body.g T.d_is_body.F.kp T.d_is_body.b .nil pass0 (pa_cons (pv 2) (pa_cons (pv 4) pa_nil))) pa_nil)))))
      (pss_cons (ps_if (PW.pt (pw_or (pt_cmpR op_ne (pe_callB (call_reprQ (b := b) quiet hr.units) (by rfl) T.n_repr (by decide +kernel) (pa_cons (pv 8) pa_nil)) (pe_callB (call_reprQ (b := b) quiet hr.units) (by rfl) T.n_repr (by decide +kernel) (pa_cons (pv 6) pa_nil)) (nomark _)) (pw_or1 (pt_cmpR op_ne (pe_callB (call_reprQ (b := b) quiet hr.units) (by rfl) T.n_repr (by decide +kernel) (pa_cons (pe_lst (pa_cons (pv 2) (pa_cons (pv 4) pa_nil))) pa_nil)) (pv 7) (nomark _)))))
        (pss_one (ps_ret pe_bl))
        pss_nil)
      (pss_one (ps_if (PW.pt (pw_or (pt_cmpR op_ne (pe_callB (call_reprQ (b := b) quiet hr.units) (by rfl) T.n_repr (by decide +kernel) (pa_cons (pe_call G_is_body (hr.mono (by omega)) (by rfl) T.d_is_body.g T.d_is_body.F.kp T.d_is_body.b .nil pass0 (pa_cons (pv 2) (pa_cons (pe_callTy call_tuple_of (by rfl) T.n_tuple (by decide +kernel) (pa_cons (pv 4) pa_nil)) pa_nil))) pa_nil)) (pe_callB (call_reprQ (b := b) quiet hr.units) (by rfl) T.n_repr (by decide +kernel) (pa_cons (pe_ix ix_list (pv 6) pe_int (fun _ _ => rfl)) pa_nil)) (nomark _)) (pw_or1 (pt_cmpR op_ne (pe_callB (call_reprQ (b := b) quiet hr.units) (by rfl) T.n_repr (by decide +kernel) (pa_cons (pe_call G_is_term (hr.mono (by omega)) (by rfl) T.d_is_term.g T.d_is_term.F.kp T.d_is_term.b .nil pass0 (pa_cons (pv 2) pa_nil)) pa_nil)) (pe_callB (call_reprQ (b := b) quiet hr.units) (by rfl) T.n_repr (by decide +kernel) (pa_cons (pe_ix ix_list (pv 6) pe_int (fun _ _ => rfl)) pa_nil)) (nomark _)))))
        (pss_one (ps_ret pe_bl))
        pss_nil)))))
    (pss_one (ps_ret (pe_cmpR op_eq (pe_callB (call_reprQ (b := b) quiet hr.units) (by rfl) T.n_repr (by decide +kernel) (pa_cons (pe_call G_is_body (hr.mono (by omega)) (by rfl) T.d_is_body.g T.d_is_body.F.kp T.d_is_body.b .nil pass0 (pa_cons (pv 2) (pa_cons (pe_lst pa_nil) pa_nil))) pa_nil)) (pe_callB (call_reprQ (b := b) quiet hr.units) (by rfl) T.n_repr (by decide +kernel) (pa_cons (pe_call G_l_good (hr.mono (by omega)) (by rfl) T.d_l_good.g T.d_l_good.F.kp T.d_l_good.b .nil pass0 (pa_cons (pv 2) (pa_cons (pe_lst pa_nil) (pa_cons pe_bl pa_nil)))) pa_nil)) (nomark _))))))))))))))), ?_⟩
    refine ⟨_, rfl, b, 0, rfl, bx, by decide, fun pp zs H1 npp k1 x1 hz5 hnm hpp nppb => ?_⟩
    obtain ⟨z0, z1, z2, z3, z4, rfl⟩ := five hz5
    have m0 := hnm z0 (by simp)
    have m1 := hnm z1 (by simp)
    have m2 := hnm z2 (by simp)
    have m3 := hnm z3 (by simp)
    have m4 := hnm z4 (by simp)
    refine ⟨_, rfl, b, _, _, rfl, x1, by omega, by decide, by decide, fun d1 H2 l1 u1 x2 k2 => ⟨rfl, _, rfl, ?_⟩⟩
    have hpp2 := k2 _ _ hpp nppb
    have k12 := k1.trans k2
    by_cases e1 : decide (V.int d1 = V.int 0) = true
    · rw [e1]
      refine iteT ⟨_, rfl, pp, _, _, .str z0, rfl, rfl, SqL.of hpp2, rfl, _, rfl, pp, _, _, 2, rfl, rfl, hpp2, rfl, ?_⟩
      have hpp3 : (upd H2 pp (.lst ([z0, z1, z0, z3, z4].map V.str))) pp = some (.lst ([z0, z1, z0, z3, z4].map V.str)) := upd_same
      have k3 : Kp b H (upd H2 pp (.lst ([z0, z1, z0, z3, z4].map V.str))) := fun a o z na => by
        rw [upd_ne (ne_of_none z npp)]
        exact k12 a o z na
      have x3 : Bx (upd H2 pp (.lst ([z0, z1, z0, z3, z4].map V.str))) b (0 + 8 + 1) := by
        obtain ⟨m, r, c, g1, g2⟩ := x2
        exact ⟨m, r, c, by rw [upd_ne nppb.symm]; exact g1, g2⟩
      show tSeq _ _ _ _ (upd H2 pp (.lst ([z0, z1, z0, z3, z4].map V.str)))
      generalize upd H2 pp (.lst ([z0, z1, z0, z3, z4].map V.str)) = H3 at hpp3 k3 x3 ⊢
      obtain ⟨y2, hy2⟩ : ∃ y, y = z0 := ⟨_, rfl⟩
      have my : nameS y2 = true := by rw [hy2]; exact m0
      rw [show [z0, z1, z0, z3, z4] = [z0, z1, y2, z3, z4] by rw [hy2]] at hpp3
      clear hy2 hpp2 x2 k2 hpp e1
      have pl3 : Pool b H3 pp [z0, z1, y2, z3, z4] := ⟨hpp3, nppb, rfl, fun z hz => by
        simp only [List.mem_cons, List.not_mem_nil, or_false] at hz
        rcases hz with rfl | rfl | rfl | rfl | rfl <;> assumption⟩
      refine ⟨_, rfl, _, rfl, _, rfl, b, _, _, rfl, x3, by omega, by decide, by decide, fun d2 H4 l2 u2 x4 k4 => ⟨_, _, rfl, rfl, _, rfl, b, _, _, rfl, x4, by omega, by decide, by decide, fun d3 H5 l3 u3 x5 k5 => ?_⟩⟩
      have k05 := (k3.trans k4).trans k5
      refine ⟨b, pp, _, _, 3 + d2, 9, d3, rfl, x5, (pl3.kp k4).kp k5, by omega, by omega, by omega, fun v0 d0 H6 k6 x6 dv0 fv0 _ wv0 gv0 => ?_⟩
      have k06 := k05.trans k6
      have pl6 := ((pl3.kp k4).kp k5).kp k6
      have x6 := x6.mono (k := 399) (by omega)
      -- spoilt none, one or two times
      refine ⟨(by show 3 ≤ sizeLine; decide), fun pq npq => ⟨_, rfl, b, _, _, rfl, x6.new npq, by omega, by decide, by decide, fun d4 H7 l4 u4 x7 k7 => ?_⟩⟩
      have e4 : atI [V.int 0, .int 1, .int 2] d4 = some (.int d4) := by
        have : d4 = 0 ∨ d4 = 1 ∨ d4 = 2 := by omega
        rcases this with rfl | rfl | rfl <;> rfl
      refine ⟨pq, _, _, .int d4, rfl, rfl, SqL.of (k7 _ _ upd_same (x6.ne npq)), e4, d4, rfl, by omega, by omega, ?_⟩
      have k67 := (Kp.new (b := b) (o := .lst [.int 0, .int 1, .int 2]) npq).trans k7
      have k07 := k06.trans k67
      have pl7 := pl6.kp k67
      have dv7 := Dq.kp x6 k67 _ _ dv0
      refine for_range (n := d4.toNat) (fun i σ H8 => ∃ t3 v d, σ = [some (.ref b), some (.ref pp), some v, t3, none, none, none, none, none, none] ∧ Dq b H8 v d ∧ fine d = true ∧ wt d ≤ bd i ∧ d.depth ≤ 18 + i ∧ Bx H8 b (400 + 20 * i) ∧ Kp b H7 H8) ⟨none, v0, d0, rfl, dv7, fv0, by show wt d0 ≤ 96; omega, by omega, x7, Kp.refl _ _⟩ ?_ ?_
      · rintro i σ H8 hi ⟨t3, v, d, rfl, dv, fv, wv, gv, x8, k8⟩
        have hb : bd i ≤ 195 ∧ bd (i + 1) = 2 * bd i + 3 := by
          have : i = 0 ∨ i = 1 := by omega
          rcases this with rfl | rfl <;> exact ⟨by decide, rfl⟩
        refine ⟨_, rfl, _, rfl, b, _, v, d, 7, rfl, x8, by omega, dv, fv, by omega, by decide, fun v2 e2 H9 k9 x9 dv2 fv2 wv2 gv2 => ?_⟩
        exact ⟨_, v2, e2, rfl, dv2, fv2, by rw [hb.2]; omega, by omega, x9.mono (by omega), k8.trans k9⟩
      rintro σ H8 ⟨t3, v, d, rfl, dv8, fv, wv, gv, x8, k8⟩
      have wv : wt d ≤ 393 := by
        have : d4.toNat = 0 ∨ d4.toNat = 1 ∨ d4.toNat = 2 := by omega
        rcases this with e | e | e <;> (rw [e] at wv; exact Nat.le_trans wv (by decide))
      have gv : d.depth ≤ 20 := by omega
      have x8 := x8.mono (k := 500) (by omega)
      have k08 := k07.trans k8
      have pl8 := pl7.kp k8
      clear x7 k7 k67 k07 pl7 dv7 k06 pl6 k6 x6 dv0 fv0 wv0 gv0 k05 pl3 k4 k5 x4 x5 hpp3 k3 x3
      -- the parameters
      have q0 := q_par m0
      have q1 := q_par m1
      have q2 := doll_par my
      have q3 := doll_par m3
      have b0 := app_len "?" z0
      have b1 := app_len "?" z1
      have b2 := app_len "$" y2
      have b3 := app_len "$" z3
      refine ⟨_, rfl, pp, _, _, .str z0, rfl, rfl, SqL.of pl8.at_, rfl, _, _, rfl, rfl, sz100 (by omega), _, rfl, pp, _, _, .str z1, rfl, rfl, SqL.of pl8.at_, rfl, _, _, rfl, rfl, sz100 (by omega), _, rfl, pp, _, _, .str y2, rfl, rfl, SqL.of pl8.at_, rfl, _, _, rfl, rfl, sz100 (by omega), _, rfl, pp, _, _, .str z3, rfl, rfl, SqL.of pl8.at_, rfl, _, _, rfl, rfl, sz100 (by omega), (by show 4 ≤ sizeLine; decide), fun pa npa => ?_⟩
      have hps : ∀ p ∈ (["?" ++ z0, "?" ++ z1, "$" ++ y2, "$" ++ z3] : List Str), fine (.str p) = true ∧ parS p = true := fun p hp => by
        simp only [List.mem_cons, List.not_mem_nil, or_false] at hp
        rcases hp with rfl | rfl | rfl | rfl
        · exact ⟨q0.1, q0.2.1⟩
        · exact ⟨q1.1, q1.2.1⟩
        · exact ⟨q2.1, q2.2.1⟩
        · exact ⟨q3.1, q3.2.1⟩
      have s9 := same_new (o := .lst ((["?" ++ z0, "?" ++ z1, "$" ++ y2, "$" ++ z3] : List Str).map V.str)) npa
      have hpa : (upd H8 pa (.lst ((["?" ++ z0, "?" ++ z1, "$" ++ y2, "$" ++ z3] : List Str).map V.str))) pa = some (.lst ((["?" ++ z0, "?" ++ z1, "$" ++ y2, "$" ++ z3] : List Str).map V.str)) := upd_same
      have npab := x8.ne npa
      show gName 4 (.ref pa) _ (upd H8 pa (.lst ((["?" ++ z0, "?" ++ z1, "$" ++ y2, "$" ++ z3] : List Str).map V.str))) _
      generalize hlp : (["?" ++ z0, "?" ++ z1, "$" ++ y2, "$" ++ z3] : List Str) = lp at hps s9 hpa ⊢
      have llp : lp.length = 4 := by
        rw [← hlp]
        rfl
      generalize upd H8 pa (.lst (lp.map V.str)) = H9 at s9 hpa ⊢
      have x9 := x8.same s9
      have k09 := k08.trans (Kp.of_same s9)
      refine ⟨_, rfl, b, _, _, rfl, x9, by omega, by decide, by decide, fun d5 Ha l5 u5 xa ka => ?_⟩
      have k0a := k09.trans ka
      have hpaa := ka _ _ hpa npab
      have dva := Dq.kp x9 ka _ _ (Dq.same s9 _ _ dv8)
      have pla := (pl8.kp (Kp.of_same s9)).kp ka
      -- all but one of them
      refine ⟨4, rfl, by decide, by decide, fun D nD => ?_⟩
      have nDb := xa.ne nD
      refine lc_range (lo := 0) (n := 4) (fun i Hb => ∃ acc : List Str, Hb D = some (.lst (acc.map V.str)) ∧ acc.length ≤ i ∧ (∀ p ∈ acc, fine (.str p) = true ∧ parS p = true) ∧ Same Ha Hb) ⟨[], upd_same, Nat.le_refl _, (fun p hp => nomatch hp), same_new nD⟩ ?_ ?_
      · rintro i Hb hi ⟨acc, hD, hl, hacc, sb⟩
        obtain ⟨p, hp, ep⟩ := atI_strs (zs := lp) (i := 0 + (i : Int)) (by omega) (by omega)
        refine ⟨rfl, _, rfl, _, rfl, rfl, _, rfl, ?_⟩
        by_cases eg : (!decide (V.int (0 + (i : Int)) = V.int d5)) = true
        · rw [eg]
          refine iteT ⟨_, rfl, _, rfl, pa, _, _, .str p, rfl, rfl, SqL.of (sb _ _ hpaa), ep, _, hD, ?_, acc ++ [p], by rw [upd_same, List.map_append]; rfl, ?_, fun e he => ?_, fun c o z => ?_⟩
          · rw [List.length_map]
            exact Nat.lt_of_le_of_lt (show acc.length ≤ 4 by omega) (by decide)
          · rw [List.length_append, List.length_singleton]
            omega
          · rcases List.mem_append.mp he with he | he
            · exact hacc e he
            · rw [List.mem_singleton.mp he]
              exact hps p hp
          · rw [upd_ne (ne_of_none z nD)]
            exact sb _ _ z
        · rw [show (!decide (V.int (0 + (i : Int)) = V.int d5)) = false by simpa using eg]
          exact iteF ⟨acc, hD, by omega, hacc, sb⟩
      rintro Hb ⟨acc, hD, hl, hacc, sb⟩
      have xb := xa.same sb
      have k0b := k0a.trans (Kp.of_same sb)
      have dvb := Dq.same sb _ _ dva
      have plb := pla.kp (Kp.of_same sb)
      refine ⟨_, rfl, pp, _, _, .str z0, rfl, rfl, SqL.of plb.at_, rfl, _, rfl, pp, _, _, .str z1, rfl, rfl, SqL.of plb.at_, rfl, rfl, _, rfl, ?_⟩
      by_cases ea : decide (V.str z0 = V.str z1) = true
      · rw [ea]
        refine iteT (iteT ?_)
        refine ⟨_, rfl, D, _, rfl, SqL.of hD, by rw [List.length_map]; exact hl, fun pc npc => ?_⟩
        have sc := same_new (o := .lst (evens (acc.map V.str))) npc
        have npcb := xb.ne npc
        have xc := xb.same sc
        have k0c := k0b.trans (Kp.of_same sc)
        have dvc := Dq.same sc _ _ dvb
        have hpc : (upd Hb pc (.lst (evens (acc.map V.str)))) pc = some (.lst ((evens acc).map V.str)) := by
          rw [upd_same, evens_map]
        have hlc : (evens acc).length ≤ 4 := Nat.le_trans (evens_len acc) hl
        have hac : ∀ p ∈ evens acc, fine (.str p) = true ∧ parS p = true := fun p hp => hacc p (evens_mem hp)
        show gName 4 (.ref pc) _ (upd Hb pc (.lst (evens (acc.map V.str)))) _
        generalize upd Hb pc (.lst (evens (acc.map V.str))) = Hc at hpc xc k0c dvc ⊢
        generalize evens acc = lc at hpc hlc hac
        -- what is due
        have pvc : PV K Hc (.ref pc) (some lc) := .inr ⟨pc, lc, rfl, rfl, .inl (SqL.of hpc)⟩
        have hpar : ∀ p ∈ lc, parS p = true := fun p m => (hac p m).2
        have hfin : ∀ p ∈ lc, fine (.str p) = true := fun p m => (hac p m).1
        have pok := pair_ok fv wv gv hlc hfin
        refine ⟨_, rfl, b, v, d, .non, none, false, rfl, dvc, fv, ⟨by omega, by omega⟩, .inl ⟨rfl, rfl⟩, fun Hd sd => ?_⟩
        refine ⟨_, rfl, b, v, d, .non, none, true, rfl, Dq.same sd _ _ dvc, fv, ⟨by omega, by omega⟩, .inl ⟨rfl, rfl⟩, fun He se => ?_⟩
        have sde := sd.trans se
        refine ⟨_, rfl, _, rfl, b, v, d, .ref pc, some lc, true, rfl, Dq.same sde _ _ dvc, fv, ⟨by omega, by omega⟩, pvc.same sde, fun Hf sf => ⟨(by show 3 ≤ sizeLine; decide), fun pd npd => ?_⟩⟩
        have scf := sde.trans sf
        have npdb := (xc.same scf).ne npd
        obtain ⟨g1, hg1⟩ : ∃ g, g = goodF (lawPart none false) d := ⟨_, rfl⟩
        obtain ⟨g2, hg2⟩ : ∃ g, g = goodF (lawPart none true) d := ⟨_, rfl⟩
        obtain ⟨g3, hg3⟩ : ∃ g, g = goodF (lawPart (some lc) true) d := ⟨_, rfl⟩
        rw [← hg1, ← hg2, ← hg3]
        have sg := scf.trans (same_new (o := .lst [.bl g1, .bl g2, .bl g3]) npd)
        have hpd : (upd Hf pd (.lst [.bl g1, .bl g2, .bl g3])) pd = some (.lst [.bl g1, .bl g2, .bl g3]) := upd_same
        show gName 6 (.ref pd) _ (upd Hf pd (.lst [.bl g1, .bl g2, .bl g3])) _
        generalize upd Hf pd (.lst [.bl g1, .bl g2, .bl g3]) = Hg at sg hpd ⊢
        have bok := bools_ok g1 g2 g3
        have one : ∀ g : Bool, fine (.bool g) = true ∧ wt (.bool g) ≤ 60000 ∧ (PyData.bool g).depth ≤ 60 := fun g => ⟨rfl, by simp [wt], by simp [PyData.depth]⟩
        -- kept
        refine ⟨_, rfl, _, rfl, (by show 2 ≤ sizeLine; decide), fun pe npe => ?_⟩
        have sgh := same_new (o := .lst [v, .ref pc]) npe
        have sh := sg.trans sgh
        refine ⟨_, pairD d lc, rfl, .lst upd_same ((xc.same sg).ne npe) (.cons (Dq.same sh _ _ dvc) (.cons (.lst (sh _ _ hpc) npcb (dq_strs lc)) .nil)), pok.1, pok.2.1, pok.2.2, ?_⟩
        have hpdh := sgh _ _ hpd
        show gName 7 _ _ (upd Hg pe (.lst [v, .ref pc])) _
        generalize upd Hg pe (.lst [v, .ref pc]) = Hh at sh hpdh ⊢
        -- asked twice
        refine ⟨2, rfl, by decide, by decide, ?_⟩
        refine for_range (n := 2) (fun i σ H5 => ∃ t3 t8, σ = [some (.ref b), some (.ref pp), some v, t3, some (.ref pc), some (.int d5), some (.ref pd), some (.str (pairD d lc).shown), t8, none] ∧ Same Hh H5) ⟨_, _, rfl, fun _ _ z => z⟩ ?_ ?_
        · rintro i σ H5 hi ⟨t3, t8, rfl, s5⟩
          have t5 := sh.trans s5
          refine ⟨_, rfl, b, v, d, rfl, Dq.same t5 _ _ dvc, fv, by omega, by omega, fun J1 a1 => ?_⟩
          have t1 := t5.trans a1
          refine ⟨_, rfl, b, v, d, rfl, Dq.same t1 _ _ dvc, fv, by omega, by omega, fun J2 a2 => ?_⟩
          have t2 := t1.trans a2
          refine ⟨_, rfl, _, rfl, b, v, d, .ref pc, lc, rfl, Dq.same t2 _ _ dvc, fv, by omega, by omega, pvc.same t2, hpar, fun J3 a3 => ⟨(by show 3 ≤ sizeLine; decide), fun pf npf => ?_⟩⟩
          have t3' := t2.trans a3
          have npfb := (xc.same t3').ne npf
          rw [← hg1, ← hg2, ← hg3]
          have a4 := same_new (o := .lst [.bl g1, .bl g2, .bl g3]) npf
          have t4 := t3'.trans a4
          have s54 := (((s5.trans a1).trans a2).trans a3).trans a4
          have hpf : (upd J3 pf (.lst [.bl g1, .bl g2, .bl g3])) pf = some (.lst [.bl g1, .bl g2, .bl g3]) := upd_same
          show gName 8 (.ref pf) _ (upd J3 pf (.lst [.bl g1, .bl g2, .bl g3])) _
          generalize upd J3 pf (.lst [.bl g1, .bl g2, .bl g3]) = J4 at t4 s54 hpf ⊢
          have hpd4 := s54 _ _ hpdh
          refine ⟨_, rfl, _, .list [.bool g1, .bool g2, .bool g3], rfl, .lst hpf npfb (.cons (.bl _) (.cons (.bl _) (.cons (.bl _) .nil))), bok.1, bok.2.1, bok.2.2, _, rfl, _, .list [.bool g1, .bool g2, .bool g3], rfl, .lst hpd4 npdb (.cons (.bl _) (.cons (.bl _) (.cons (.bl _) .nil))), bok.1, bok.2.1, bok.2.2, rfl, _, rfl, ?_⟩
          rw [ne_str]
          refine iteF ⟨_, rfl, _, rfl, (by show 2 ≤ sizeLine; decide), fun pg npg => ?_⟩
          have a5 := same_new (o := .lst [v, .ref pc]) npg
          have t5' := t4.trans a5
          refine ⟨_, pairD d lc, rfl, .lst upd_same ((xc.same t4).ne npg) (.cons (Dq.same t5' _ _ dvc) (.cons (.lst (t5' _ _ hpc) npcb (dq_strs lc)) .nil)), pok.1, pok.2.1, pok.2.2, _, rfl, rfl, _, rfl, ?_⟩
          rw [ne_str]
          refine iteF ?_
          have s55 := s54.trans a5
          generalize upd J4 pg (.lst [v, .ref pc]) = J5 at a5 t5' s55 ⊢
          refine ⟨_, rfl, _, rfl, pc, _, rfl, .inl ⟨SqL.of (t5' _ _ hpc), fun pt npt => ?_⟩⟩
          have a6 := same_new (o := .tup (lc.map V.str)) npt
          have t6 := t5'.trans a6
          refine ⟨b, v, d, .ref pt, lc, rfl, Dq.same t6 _ _ dvc, fv, by omega, by omega, .inr ⟨pt, lc, rfl, rfl, .inr (SqT.of upd_same)⟩, hpar, fun J7 a7 => ?_⟩
          rw [← hg3]
          have s57 := (s55.trans a6).trans a7
          have t7 := t6.trans a7
          refine ⟨_, .bool g3, rfl, .bl g3, (one g3).1, (one g3).2.1, (one g3).2.2, _, rfl, pd, _, _, .bl g3, rfl, rfl, SqL.of (s57 _ _ hpdh), rfl, _, .bool g3, rfl, .bl g3, (one g3).1, (one g3).2.1, (one g3).2.2, rfl, _, rfl, ?_⟩
          rw [ne_str]
          refine iteF ⟨_, rfl, b, v, d, rfl, Dq.same t7 _ _ dvc, fv, by omega, by omega, fun J8 a8 => ?_⟩
          rw [← hg1]
          have s58 := s57.trans a8
          refine ⟨_, .bool g1, rfl, .bl g1, (one g1).1, (one g1).2.1, (one g1).2.2, _, rfl, pd, _, _, .bl g1, rfl, rfl, SqL.of (s58 _ _ hpdh), rfl, _, .bool g1, rfl, .bl g1, (one g1).1, (one g1).2.1, (one g1).2.2, rfl, _, rfl, ?_⟩
          rw [ne_str]
          exact iteF ⟨_, _, rfl, s58⟩
        rintro σ H5 ⟨t3, t8, rfl, s5⟩
        have t5 := sh.trans s5
        refine ⟨_, rfl, Nat.zero_le _, fun pn npn => ?_⟩
        have a1 := same_new (o := .lst []) npn
        have t6 := t5.trans a1
        refine ⟨b, v, d, .ref pn, [], rfl, Dq.same t6 _ _ dvc, fv, by omega, by omega, .inr ⟨pn, [], rfl, rfl, .inl (SqL.of upd_same)⟩, (fun p hp => nomatch hp), fun J1 a2 => ?_⟩
        have t7 := t6.trans a2
        refine ⟨_, .bool _, rfl, .bl _, (one _).1, (one _).2.1, (one _).2.2, ?_⟩
        refine ⟨_, rfl, Nat.zero_le _, fun pm npm => ?_⟩
        have a3 := same_new (o := .lst []) npm
        have t8' := t7.trans a3
        refine ⟨b, v, d, .ref pm, some [], true, rfl, Dq.same t8' _ _ dvc, fv, ⟨by omega, by omega⟩, .inr ⟨pm, [], rfl, rfl, .inl (SqL.of upd_same)⟩, fun J2 a4 => ?_⟩
        refine ⟨_, .bool _, rfl, .bl _, (one _).1, (one _).2.1, (one _).2.2, rfl, ?_⟩
        rw [decide_eq_true rfl]
        exact q _ (k0c.trans (Kp.of_same (t8'.trans a4)))
      rw [show decide (V.str z0 = V.str z1) = false by simpa using ea]
      refine iteF ⟨_, rfl, pp, _, _, .str y2, rfl, rfl, SqL.of plb.at_, rfl, _, rfl, pp, _, _, .str z3, rfl, rfl, SqL.of plb.at_, rfl, rfl, _, rfl, ?_⟩
      by_cases ec : decide (V.str y2 = V.str z3) = true
      · rw [ec]
        refine iteT ?_
        refine ⟨_, rfl, D, _, rfl, SqL.of hD, by rw [List.length_map]; exact hl, fun pc npc => ?_⟩
        have sc := same_new (o := .lst (evens (acc.map V.str))) npc
        have npcb := xb.ne npc
        have xc := xb.same sc
        have k0c := k0b.trans (Kp.of_same sc)
        have dvc := Dq.same sc _ _ dvb
        have hpc : (upd Hb pc (.lst (evens (acc.map V.str)))) pc = some (.lst ((evens acc).map V.str)) := by
          rw [upd_same, evens_map]
        have hlc : (evens acc).length ≤ 4 := Nat.le_trans (evens_len acc) hl
        have hac : ∀ p ∈ evens acc, fine (.str p) = true ∧ parS p = true := fun p hp => hacc p (evens_mem hp)
        show gName 4 (.ref pc) _ (upd Hb pc (.lst (evens (acc.map V.str)))) _
        generalize upd Hb pc (.lst (evens (acc.map V.str))) = Hc at hpc xc k0c dvc ⊢
        generalize evens acc = lc at hpc hlc hac
        -- what is due
        have pvc : PV K Hc (.ref pc) (some lc) := .inr ⟨pc, lc, rfl, rfl, .inl (SqL.of hpc)⟩
        have hpar : ∀ p ∈ lc, parS p = true := fun p m => (hac p m).2
        have hfin : ∀ p ∈ lc, fine (.str p) = true := fun p m => (hac p m).1
        have pok := pair_ok fv wv gv hlc hfin
        refine ⟨_, rfl, b, v, d, .non, none, false, rfl, dvc, fv, ⟨by omega, by omega⟩, .inl ⟨rfl, rfl⟩, fun Hd sd => ?_⟩
        refine ⟨_, rfl, b, v, d, .non, none, true, rfl, Dq.same sd _ _ dvc, fv, ⟨by omega, by omega⟩, .inl ⟨rfl, rfl⟩, fun He se => ?_⟩
        have sde := sd.trans se
        refine ⟨_, rfl, _, rfl, b, v, d, .ref pc, some lc, true, rfl, Dq.same sde _ _ dvc, fv, ⟨by omega, by omega⟩, pvc.same sde, fun Hf sf => ⟨(by show 3 ≤ sizeLine; decide), fun pd npd => ?_⟩⟩
        have scf := sde.trans sf
        have npdb := (xc.same scf).ne npd
        obtain ⟨g1, hg1⟩ : ∃ g, g = goodF (lawPart none false) d := ⟨_, rfl⟩
        obtain ⟨g2, hg2⟩ : ∃ g, g = goodF (lawPart none true) d := ⟨_, rfl⟩
        obtain ⟨g3, hg3⟩ : ∃ g, g = goodF (lawPart (some lc) true) d := ⟨_, rfl⟩
        rw [← hg1, ← hg2, ← hg3]
        have sg := scf.trans (same_new (o := .lst [.bl g1, .bl g2, .bl g3]) npd)
        have hpd : (upd Hf pd (.lst [.bl g1, .bl g2, .bl g3])) pd = some (.lst [.bl g1, .bl g2, .bl g3]) := upd_same
        show gName 6 (.ref pd) _ (upd Hf pd (.lst [.bl g1, .bl g2, .bl g3])) _
        generalize upd Hf pd (.lst [.bl g1, .bl g2, .bl g3]) = Hg at sg hpd ⊢
        have bok := bools_ok g1 g2 g3
        have one : ∀ g : Bool, fine (.bool g) = true ∧ wt (.bool g) ≤ 60000 ∧ (PyData.bool g).depth ≤ 60 := fun g => ⟨rfl, by simp [wt], by simp [PyData.depth]⟩
        -- kept
        refine ⟨_, rfl, _, rfl, (by show 2 ≤ sizeLine; decide), fun pe npe => ?_⟩
        have sgh := same_new (o := .lst [v, .ref pc]) npe
        have sh := sg.trans sgh
        refine ⟨_, pairD d lc, rfl, .lst upd_same ((xc.same sg).ne npe) (.cons (Dq.same sh _ _ dvc) (.cons (.lst (sh _ _ hpc) npcb (dq_strs lc)) .nil)), pok.1, pok.2.1, pok.2.2, ?_⟩
        have hpdh := sgh _ _ hpd
        show gName 7 _ _ (upd Hg pe (.lst [v, .ref pc])) _
        generalize upd Hg pe (.lst [v, .ref pc]) = Hh at sh hpdh ⊢
        -- asked twice
        refine ⟨2, rfl, by decide, by decide, ?_⟩
        refine for_range (n := 2) (fun i σ H5 => ∃ t3 t8, σ = [some (.ref b), some (.ref pp), some v, t3, some (.ref pc), some (.int d5), some (.ref pd), some (.str (pairD d lc).shown), t8, none] ∧ Same Hh H5) ⟨_, _, rfl, fun _ _ z => z⟩ ?_ ?_
        · rintro i σ H5 hi ⟨t3, t8, rfl, s5⟩
          have t5 := sh.trans s5
          refine ⟨_, rfl, b, v, d, rfl, Dq.same t5 _ _ dvc, fv, by omega, by omega, fun J1 a1 => ?_⟩
          have t1 := t5.trans a1
          refine ⟨_, rfl, b, v, d, rfl, Dq.same t1 _ _ dvc, fv, by omega, by omega, fun J2 a2 => ?_⟩
          have t2 := t1.trans a2
          refine ⟨_, rfl, _, rfl, b, v, d, .ref pc, lc, rfl, Dq.same t2 _ _ dvc, fv, by omega, by omega, pvc.same t2, hpar, fun J3 a3 => ⟨(by show 3 ≤ sizeLine; decide), fun pf npf => ?_⟩⟩
          have t3' := t2.trans a3
          have npfb := (xc.same t3').ne npf
          rw [← hg1, ← hg2, ← hg3]
          have a4 := same_new (o := .lst [.bl g1, .bl g2, .bl g3]) npf
          have t4 := t3'.trans a4
          have s54 := (((s5.trans a1).trans a2).trans a3).trans a4
          have hpf : (upd J3 pf (.lst [.bl g1, .bl g2, .bl g3])) pf = some (.lst [.bl g1, .bl g2, .bl g3]) := upd_same
          show gName 8 (.ref pf) _ (upd J3 pf (.lst [.bl g1, .bl g2, .bl g3])) _
          generalize upd J3 pf (.lst [.bl g1, .bl g2, .bl g3]) = J4 at t4 s54 hpf ⊢
          have hpd4 := s54 _ _ hpdh
          refine ⟨_, rfl, _, .list [.bool g1, .bool g2, .bool g3], rfl, .lst hpf npfb (.cons (.bl _) (.cons (.bl _) (.cons (.bl _) .nil))), bok.1, bok.2.1, bok.2.2, _, rfl, _, .list [.bool g1, .bool g2, .bool g3], rfl, .lst hpd4 npdb (.cons (.bl _) (.cons (.bl _) (.cons (.bl _) .nil))), bok.1, bok.2.1, bok.2.2, rfl, _, rfl, ?_⟩
          rw [ne_str]
          refine iteF ⟨_, rfl, _, rfl, (by show 2 ≤ sizeLine; decide), fun pg npg => ?_⟩
          have a5 := same_new (o := .lst [v, .ref pc]) npg
          have t5' := t4.trans a5
          refine ⟨_, pairD d lc, rfl, .lst upd_same ((xc.same t4).ne npg) (.cons (Dq.same t5' _ _ dvc) (.cons (.lst (t5' _ _ hpc) npcb (dq_strs lc)) .nil)), pok.1, pok.2.1, pok.2.2, _, rfl, rfl, _, rfl, ?_⟩
          rw [ne_str]
          refine iteF ?_
          have s55 := s54.trans a5
          generalize upd J4 pg (.lst [v, .ref pc]) = J5 at a5 t5' s55 ⊢
          refine ⟨_, rfl, _, rfl, pc, _, rfl, .inl ⟨SqL.of (t5' _ _ hpc), fun pt npt => ?_⟩⟩
          have a6 := same_new (o := .tup (lc.map V.str)) npt
          have t6 := t5'.trans a6
          refine ⟨b, v, d, .ref pt, lc, rfl, Dq.same t6 _ _ dvc, fv, by omega, by omega, .inr ⟨pt, lc, rfl, rfl, .inr (SqT.of upd_same)⟩, hpar, fun J7 a7 => ?_⟩
          rw [← hg3]
          have s57 := (s55.trans a6).trans a7
          have t7 := t6.trans a7
          refine ⟨_, .bool g3, rfl, .bl g3, (one g3).1, (one g3).2.1, (one g3).2.2, _, rfl, pd, _, _, .bl g3, rfl, rfl, SqL.of (s57 _ _ hpdh), rfl, _, .bool g3, rfl, .bl g3, (one g3).1, (one g3).2.1, (one g3).2.2, rfl, _, rfl, ?_⟩
          rw [ne_str]
          refine iteF ⟨_, rfl, b, v, d, rfl, Dq.same t7 _ _ dvc, fv, by omega, by omega, fun J8 a8 => ?_⟩
          rw [← hg1]
          have s58 := s57.trans a8
          refine ⟨_, .bool g1, rfl, .bl g1, (one g1).1, (one g1).2.1, (one g1).2.2, _, rfl, pd, _, _, .bl g1, rfl, rfl, SqL.of (s58 _ _ hpdh), rfl, _, .bool g1, rfl, .bl g1, (one g1).1, (one g1).2.1, (one g1).2.2, rfl, _, rfl, ?_⟩
          rw [ne_str]
          exact iteF ⟨_, _, rfl, s58⟩
        rintro σ H5 ⟨t3, t8, rfl, s5⟩
        have t5 := sh.trans s5
        refine ⟨_, rfl, Nat.zero_le _, fun pn npn => ?_⟩
        have a1 := same_new (o := .lst []) npn
        have t6 := t5.trans a1
        refine ⟨b, v, d, .ref pn, [], rfl, Dq.same t6 _ _ dvc, fv, by omega, by omega, .inr ⟨pn, [], rfl, rfl, .inl (SqL.of upd_same)⟩, (fun p hp => nomatch hp), fun J1 a2 => ?_⟩
        have t7 := t6.trans a2
        refine ⟨_, .bool _, rfl, .bl _, (one _).1, (one _).2.1, (one _).2.2, ?_⟩
        refine ⟨_, rfl, Nat.zero_le _, fun pm npm => ?_⟩
        have a3 := same_new (o := .lst []) npm
        have t8' := t7.trans a3
        refine ⟨b, v, d, .ref pm, some [], true, rfl, Dq.same t8' _ _ dvc, fv, ⟨by omega, by omega⟩, .inr ⟨pm, [], rfl, rfl, .inl (SqL.of upd_same)⟩, fun J2 a4 => ?_⟩
        refine ⟨_, .bool _, rfl, .bl _, (one _).1, (one _).2.1, (one _).2.2, rfl, ?_⟩
        rw [decide_eq_true rfl]
        exact q _ (k0c.trans (Kp.of_same (t8'.trans a4)))
      rw [show decide (V.str y2 = V.str z3) = false by simpa using ec]
      refine iteF ?_
      obtain ⟨pc, lc, Hc, hpc, npcb, hlc, hac, dvc, xc, k0c⟩ : ∃ pc lc Hc, pc = D ∧ pc ≠ b ∧ lc = acc ∧ Hc = Hb ∧ True ∧ True ∧ True := ⟨_, _, _, rfl, nDb, rfl, rfl, trivial, trivial, trivial⟩
      subst hpc hlc hac
      clear dvc xc k0c
      have hpc := hD
      have hlc := hl
      have hac := hacc
      have dvc := dvb
      have xc := xb
      have k0c := k0b
      -- what is due
      have pvc : PV K Hc (.ref pc) (some lc) := .inr ⟨pc, lc, rfl, rfl, .inl (SqL.of hpc)⟩
      have hpar : ∀ p ∈ lc, parS p = true := fun p m => (hac p m).2
      have hfin : ∀ p ∈ lc, fine (.str p) = true := fun p m => (hac p m).1
      have pok := pair_ok fv wv gv hlc hfin
      refine ⟨_, rfl, b, v, d, .non, none, false, rfl, dvc, fv, ⟨by omega, by omega⟩, .inl ⟨rfl, rfl⟩, fun Hd sd => ?_⟩
      refine ⟨_, rfl, b, v, d, .non, none, true, rfl, Dq.same sd _ _ dvc, fv, ⟨by omega, by omega⟩, .inl ⟨rfl, rfl⟩, fun He se => ?_⟩
      have sde := sd.trans se
      refine ⟨_, rfl, _, rfl, b, v, d, .ref pc, some lc, true, rfl, Dq.same sde _ _ dvc, fv, ⟨by omega, by omega⟩, pvc.same sde, fun Hf sf => ⟨(by show 3 ≤ sizeLine; decide), fun pd npd => ?_⟩⟩
      have scf := sde.trans sf
      have npdb := (xc.same scf).ne npd
      obtain ⟨g1, hg1⟩ : ∃ g, g = goodF (lawPart none false) d := ⟨_, rfl⟩
      obtain ⟨g2, hg2⟩ : ∃ g, g = goodF (lawPart none true) d := ⟨_, rfl⟩
      obtain ⟨g3, hg3⟩ : ∃ g, g = goodF (lawPart (some lc) true) d := ⟨_, rfl⟩
      rw [← hg1, ← hg2, ← hg3]
      have sg := scf.trans (same_new (o := .lst [.bl g1, .bl g2, .bl g3]) npd)
      have hpd : (upd Hf pd (.lst [.bl g1, .bl g2, .bl g3])) pd = some (.lst [.bl g1, .bl g2, .bl g3]) := upd_same
      show gName 6 (.ref pd) _ (upd Hf pd (.lst [.bl g1, .bl g2, .bl g3])) _
      generalize upd Hf pd (.lst [.bl g1, .bl g2, .bl g3]) = Hg at sg hpd ⊢
      have bok := bools_ok g1 g2 g3
      have one : ∀ g : Bool, fine (.bool g) = true ∧ wt (.bool g) ≤ 60000 ∧ (PyData.bool g).depth ≤ 60 := fun g => ⟨rfl, by simp [wt], by simp [PyData.depth]⟩
      -- kept
      refine ⟨_, rfl, _, rfl, (by show 2 ≤ sizeLine; decide), fun pe npe => ?_⟩
      have sgh := same_new (o := .lst [v, .ref pc]) npe
      have sh := sg.trans sgh
      refine ⟨_, pairD d lc, rfl, .lst upd_same ((xc.same sg).ne npe) (.cons (Dq.same sh _ _ dvc) (.cons (.lst (sh _ _ hpc) npcb (dq_strs lc)) .nil)), pok.1, pok.2.1, pok.2.2, ?_⟩
      have hpdh := sgh _ _ hpd
      show gName 7 _ _ (upd Hg pe (.lst [v, .ref pc])) _
      generalize upd Hg pe (.lst [v, .ref pc]) = Hh at sh hpdh ⊢
      -- asked twice
      refine ⟨2, rfl, by decide, by decide, ?_⟩
      refine for_range (n := 2) (fun i σ H5 => ∃ t3 t8, σ = [some (.ref b), some (.ref pp), some v, t3, some (.ref pc), some (.int d5), some (.ref pd), some (.str (pairD d lc).shown), t8, none] ∧ Same Hh H5) ⟨_, _, rfl, fun _ _ z => z⟩ ?_ ?_
      · rintro i σ H5 hi ⟨t3, t8, rfl, s5⟩
        have t5 := sh.trans s5
        refine ⟨_, rfl, b, v, d, rfl, Dq.same t5 _ _ dvc, fv, by omega, by omega, fun J1 a1 => ?_⟩
        have t1 := t5.trans a1
        refine ⟨_, rfl, b, v, d, rfl, Dq.same t1 _ _ dvc, fv, by omega, by omega, fun J2 a2 => ?_⟩
        have t2 := t1.trans a2
        refine ⟨_, rfl, _, rfl, b, v, d, .ref pc, lc, rfl, Dq.same t2 _ _ dvc, fv, by omega, by omega, pvc.same t2, hpar, fun J3 a3 => ⟨(by show 3 ≤ sizeLine; decide), fun pf npf => ?_⟩⟩
        have t3' := t2.trans a3
        have npfb := (xc.same t3').ne npf
        rw [← hg1, ← hg2, ← hg3]
        have a4 := same_new (o := .lst [.bl g1, .bl g2, .bl g3]) npf
        have t4 := t3'.trans a4
        have s54 := (((s5.trans a1).trans a2).trans a3).trans a4
        have hpf : (upd J3 pf (.lst [.bl g1, .bl g2, .bl g3])) pf = some (.lst [.bl g1, .bl g2, .bl g3]) := upd_same
        show gName 8 (.ref pf) _ (upd J3 pf (.lst [.bl g1, .bl g2, .bl g3])) _
        generalize upd J3 pf (.lst [.bl g1, .bl g2, .bl g3]) = J4 at t4 s54 hpf ⊢
        have hpd4 := s54 _ _ hpdh
        refine ⟨_, rfl, _, .list [.bool g1, .bool g2, .bool g3], rfl, .lst hpf npfb (.cons (.bl _) (.cons (.bl _) (.cons (.bl _) .nil))), bok.1, bok.2.1, bok.2.2, _, rfl, _, .list [.bool g1, .bool g2, .bool g3], rfl, .lst hpd4 npdb (.cons (.bl _) (.cons (.bl _) (.cons (.bl _) .nil))), bok.1, bok.2.1, bok.2.2, rfl, _, rfl, ?_⟩
        rw [ne_str]
        refine iteF ⟨_, rfl, _, rfl, (by show 2 ≤ sizeLine; decide), fun pg npg => ?_⟩
        have a5 := same_new (o := .lst [v, .ref pc]) npg
        have t5' := t4.trans a5
        refine ⟨_, pairD d lc, rfl, .lst upd_same ((xc.same t4).ne npg) (.cons (Dq.same t5' _ _ dvc) (.cons (.lst (t5' _ _ hpc) npcb (dq_strs lc)) .nil)), pok.1, pok.2.1, pok.2.2, _, rfl, rfl, _, rfl, ?_⟩
        rw [ne_str]
        refine iteF ?_
        have s55 := s54.trans a5
        generalize upd J4 pg (.lst [v, .ref pc]) = J5 at a5 t5' s55 ⊢
        refine ⟨_, rfl, _, rfl, pc, _, rfl, .inl ⟨SqL.of (t5' _ _ hpc), fun pt npt => ?_⟩⟩
        have a6 := same_new (o := .tup (lc.map V.str)) npt
        have t6 := t5'.trans a6
        refine ⟨b, v, d, .ref pt, lc, rfl, Dq.same t6 _ _ dvc, fv, by omega, by omega, .inr ⟨pt, lc, rfl, rfl, .inr (SqT.of upd_same)⟩, hpar, fun J7 a7 => ?_⟩
        rw [← hg3]
        have s57 := (s55.trans a6).trans a7
        have t7 := t6.trans a7
        refine ⟨_, .bool g3, rfl, .bl g3, (one g3).1, (one g3).2.1, (one g3).2.2, _, rfl, pd, _, _, .bl g3, rfl, rfl, SqL.of (s57 _ _ hpdh), rfl, _, .bool g3, rfl, .bl g3, (one g3).1, (one g3).2.1, (one g3).2.2, rfl, _, rfl, ?_⟩
        rw [ne_str]
        refine iteF ⟨_, rfl, b, v, d, rfl, Dq.same t7 _ _ dvc, fv, by omega, by omega, fun J8 a8 => ?_⟩
        rw [← hg1]
        have s58 := s57.trans a8
        refine ⟨_, .bool g1, rfl, .bl g1, (one g1).1, (one g1).2.1, (one g1).2.2, _, rfl, pd, _, _, .bl g1, rfl, rfl, SqL.of (s58 _ _ hpdh), rfl, _, .bool g1, rfl, .bl g1, (one g1).1, (one g1).2.1, (one g1).2.2, rfl, _, rfl, ?_⟩
        rw [ne_str]
        exact iteF ⟨_, _, rfl, s58⟩
      rintro σ H5 ⟨t3, t8, rfl, s5⟩
      have t5 := sh.trans s5
      refine ⟨_, rfl, Nat.zero_le _, fun pn npn => ?_⟩
      have a1 := same_new (o := .lst []) npn
      have t6 := t5.trans a1
      refine ⟨b, v, d, .ref pn, [], rfl, Dq.same t6 _ _ dvc, fv, by omega, by omega, .inr ⟨pn, [], rfl, rfl, .inl (SqL.of upd_same)⟩, (fun p hp => nomatch hp), fun J1 a2 => ?_⟩
      have t7 := t6.trans a2
      refine ⟨_, .bool _, rfl, .bl _, (one _).1, (one _).2.1, (one _).2.2, ?_⟩
      refine ⟨_, rfl, Nat.zero_le _, fun pm npm => ?_⟩
      have a3 := same_new (o := .lst []) npm
      have t8' := t7.trans a3
      refine ⟨b, v, d, .ref pm, some [], true, rfl, Dq.same t8' _ _ dvc, fv, ⟨by omega, by omega⟩, .inr ⟨pm, [], rfl, rfl, .inl (SqL.of upd_same)⟩, fun J2 a4 => ?_⟩
      refine ⟨_, .bool _, rfl, .bl _, (one _).1, (one _).2.1, (one _).2.2, rfl, ?_⟩
      rw [decide_eq_true rfl]
      exact q _ (k0c.trans (Kp.of_same (t8'.trans a4)))
    · rw [show decide (V.int d1 = V.int 0) = false by simpa using e1]
      refine iteF ?_
      have k3 := k12
      have x3 := x2
      have hpp3 := hpp2
      have my := m2
      clear hpp2 x2 k2 hpp e1 k12 m2
      have pl3 : Pool b H2 pp [z0, z1, z2, z3, z4] := ⟨hpp3, nppb, rfl, fun z hz => by
        simp only [List.mem_cons, List.not_mem_nil, or_false] at hz
        rcases hz with rfl | rfl | rfl | rfl | rfl <;> assumption⟩
      refine ⟨_, rfl, _, rfl, _, rfl, b, _, _, rfl, x3, by omega, by decide, by decide, fun d2 H4 l2 u2 x4 k4 => ⟨_, _, rfl, rfl, _, rfl, b, _, _, rfl, x4, by omega, by decide, by decide, fun d3 H5 l3 u3 x5 k5 => ?_⟩⟩
      have k05 := (k3.trans k4).trans k5
      refine ⟨b, pp, _, _, 3 + d2, 9, d3, rfl, x5, (pl3.kp k4).kp k5, by omega, by omega, by omega, fun v0 d0 H6 k6 x6 dv0 fv0 _ wv0 gv0 => ?_⟩
      have k06 := k05.trans k6
      have pl6 := ((pl3.kp k4).kp k5).kp k6
      have x6 := x6.mono (k := 399) (by omega)
      -- spoilt none, one or two times
      refine ⟨(by show 3 ≤ sizeLine; decide), fun pq npq => ⟨_, rfl, b, _, _, rfl, x6.new npq, by omega, by decide, by decide, fun d4 H7 l4 u4 x7 k7 => ?_⟩⟩
      have e4 : atI [V.int 0, .int 1, .int 2] d4 = some (.int d4) := by
        have : d4 = 0 ∨ d4 = 1 ∨ d4 = 2 := by omega
        rcases this with rfl | rfl | rfl <;> rfl
      refine ⟨pq, _, _, .int d4, rfl, rfl, SqL.of (k7 _ _ upd_same (x6.ne npq)), e4, d4, rfl, by omega, by omega, ?_⟩
      have k67 := (Kp.new (b := b) (o := .lst [.int 0, .int 1, .int 2]) npq).trans k7
      have k07 := k06.trans k67
      have pl7 := pl6.kp k67
      have dv7 := Dq.kp x6 k67 _ _ dv0
      refine for_range (n := d4.toNat) (fun i σ H8 => ∃ t3 v d, σ = [some (.ref b), some (.ref pp), some v, t3, none, none, none, none, none, none] ∧ Dq b H8 v d ∧ fine d = true ∧ wt d ≤ bd i ∧ d.depth ≤ 18 + i ∧ Bx H8 b (400 + 20 * i) ∧ Kp b H7 H8) ⟨none, v0, d0, rfl, dv7, fv0, by show wt d0 ≤ 96; omega, by omega, x7, Kp.refl _ _⟩ ?_ ?_
      · rintro i σ H8 hi ⟨t3, v, d, rfl, dv, fv, wv, gv, x8, k8⟩
        have hb : bd i ≤ 195 ∧ bd (i + 1) = 2 * bd i + 3 := by
          have : i = 0 ∨ i = 1 := by omega
          rcases this with rfl | rfl <;> exact ⟨by decide, rfl⟩
        refine ⟨_, rfl, _, rfl, b, _, v, d, 7, rfl, x8, by omega, dv, fv, by omega, by decide, fun v2 e2 H9 k9 x9 dv2 fv2 wv2 gv2 => ?_⟩
        exact ⟨_, v2, e2, rfl, dv2, fv2, by rw [hb.2]; omega, by omega, x9.mono (by omega), k8.trans k9⟩
      rintro σ H8 ⟨t3, v, d, rfl, dv8, fv, wv, gv, x8, k8⟩
      have wv : wt d ≤ 393 := by
        have : d4.toNat = 0 ∨ d4.toNat = 1 ∨ d4.toNat = 2 := by omega
        rcases this with e | e | e <;> (rw [e] at wv; exact Nat.le_trans wv (by decide))
      have gv : d.depth ≤ 20 := by omega
      have x8 := x8.mono (k := 500) (by omega)
      have k08 := k07.trans k8
      have pl8 := pl7.kp k8
      clear x7 k7 k67 k07 pl7 dv7 k06 pl6 k6 x6 dv0 fv0 wv0 gv0 k05 pl3 k4 k5 x4 x5 hpp3 k3 x3
      -- the parameters
      have q0 := q_par m0
      have q1 := q_par m1
      have q2 := doll_par my
      have q3 := doll_par m3
      have b0 := app_len "?" z0
      have b1 := app_len "?" z1
      have b2 := app_len "$" z2
      have b3 := app_len "$" z3
      refine ⟨_, rfl, pp, _, _, .str z0, rfl, rfl, SqL.of pl8.at_, rfl, _, _, rfl, rfl, sz100 (by omega), _, rfl, pp, _, _, .str z1, rfl, rfl, SqL.of pl8.at_, rfl, _, _, rfl, rfl, sz100 (by omega), _, rfl, pp, _, _, .str z2, rfl, rfl, SqL.of pl8.at_, rfl, _, _, rfl, rfl, sz100 (by omega), _, rfl, pp, _, _, .str z3, rfl, rfl, SqL.of pl8.at_, rfl, _, _, rfl, rfl, sz100 (by omega), (by show 4 ≤ sizeLine; decide), fun pa npa => ?_⟩
      have hps : ∀ p ∈ (["?" ++ z0, "?" ++ z1, "$" ++ z2, "$" ++ z3] : List Str), fine (.str p) = true ∧ parS p = true := fun p hp => by
        simp only [List.mem_cons, List.not_mem_nil, or_false] at hp
        rcases hp with rfl | rfl | rfl | rfl
        · exact ⟨q0.1, q0.2.1⟩
        · exact ⟨q1.1, q1.2.1⟩
        · exact ⟨q2.1, q2.2.1⟩
        · exact ⟨q3.1, q3.2.1⟩
      have s9 := same_new (o := .lst ((["?" ++ z0, "?" ++ z1, "$" ++ z2, "$" ++ z3] : List Str).map V.str)) npa
      have hpa : (upd H8 pa (.lst ((["?" ++ z0, "?" ++ z1, "$" ++ z2, "$" ++ z3] : List Str).map V.str))) pa = some (.lst ((["?" ++ z0, "?" ++ z1, "$" ++ z2, "$" ++ z3] : List Str).map V.str)) := upd_same
      have npab := x8.ne npa
      show gName 4 (.ref pa) _ (upd H8 pa (.lst ((["?" ++ z0, "?" ++ z1, "$" ++ z2, "$" ++ z3] : List Str).map V.str))) _
      generalize hlp : (["?" ++ z0, "?" ++ z1, "$" ++ z2, "$" ++ z3] : List Str) = lp at hps s9 hpa ⊢
      have llp : lp.length = 4 := by
        rw [← hlp]
        rfl
      generalize upd H8 pa (.lst (lp.map V.str)) = H9 at s9 hpa ⊢
      have x9 := x8.same s9
      have k09 := k08.trans (Kp.of_same s9)
      refine ⟨_, rfl, b, _, _, rfl, x9, by omega, by decide, by decide, fun d5 Ha l5 u5 xa ka => ?_⟩
      have k0a := k09.trans ka
      have hpaa := ka _ _ hpa npab
      have dva := Dq.kp x9 ka _ _ (Dq.same s9 _ _ dv8)
      have pla := (pl8.kp (Kp.of_same s9)).kp ka
      -- all but one of them
      refine ⟨4, rfl, by decide, by decide, fun D nD => ?_⟩
      have nDb := xa.ne nD
      refine lc_range (lo := 0) (n := 4) (fun i Hb => ∃ acc : List Str, Hb D = some (.lst (acc.map V.str)) ∧ acc.length ≤ i ∧ (∀ p ∈ acc, fine (.str p) = true ∧ parS p = true) ∧ Same Ha Hb) ⟨[], upd_same, Nat.le_refl _, (fun p hp => nomatch hp), same_new nD⟩ ?_ ?_
      · rintro i Hb hi ⟨acc, hD, hl, hacc, sb⟩
        obtain ⟨p, hp, ep⟩ := atI_strs (zs := lp) (i := 0 + (i : Int)) (by omega) (by omega)
        refine ⟨rfl, _, rfl, _, rfl, rfl, _, rfl, ?_⟩
        by_cases eg : (!decide (V.int (0 + (i : Int)) = V.int d5)) = true
        · rw [eg]
          refine iteT ⟨_, rfl, _, rfl, pa, _, _, .str p, rfl, rfl, SqL.of (sb _ _ hpaa), ep, _, hD, ?_, acc ++ [p], by rw [upd_same, List.map_append]; rfl, ?_, fun e he => ?_, fun c o z => ?_⟩
          · rw [List.length_map]
            exact Nat.lt_of_le_of_lt (show acc.length ≤ 4 by omega) (by decide)
          · rw [List.length_append, List.length_singleton]
            omega
          · rcases List.mem_append.mp he with he | he
            · exact hacc e he
            · rw [List.mem_singleton.mp he]
              exact hps p hp
          · rw [upd_ne (ne_of_none z nD)]
            exact sb _ _ z
        · rw [show (!decide (V.int (0 + (i : Int)) = V.int d5)) = false by simpa using eg]
          exact iteF ⟨acc, hD, by omega, hacc, sb⟩
      rintro Hb ⟨acc, hD, hl, hacc, sb⟩
      have xb := xa.same sb
      have k0b := k0a.trans (Kp.of_same sb)
      have dvb := Dq.same sb _ _ dva
      have plb := pla.kp (Kp.of_same sb)
      refine ⟨_, rfl, pp, _, _, .str z0, rfl, rfl, SqL.of plb.at_, rfl, _, rfl, pp, _, _, .str z1, rfl, rfl, SqL.of plb.at_, rfl, rfl, _, rfl, ?_⟩
      by_cases ea : decide (V.str z0 = V.str z1) = true
      · rw [ea]
        refine iteT (iteT ?_)
        refine ⟨_, rfl, D, _, rfl, SqL.of hD, by rw [List.length_map]; exact hl, fun pc npc => ?_⟩
        have sc := same_new (o := .lst (evens (acc.map V.str))) npc
        have npcb := xb.ne npc
        have xc := xb.same sc
        have k0c := k0b.trans (Kp.of_same sc)
        have dvc := Dq.same sc _ _ dvb
        have hpc : (upd Hb pc (.lst (evens (acc.map V.str)))) pc = some (.lst ((evens acc).map V.str)) := by
          rw [upd_same, evens_map]
        have hlc : (evens acc).length ≤ 4 := Nat.le_trans (evens_len acc) hl
        have hac : ∀ p ∈ evens acc, fine (.str p) = true ∧ parS p = true := fun p hp => hacc p (evens_mem hp)
        show gName 4 (.ref pc) _ (upd Hb pc (.lst (evens (acc.map V.str)))) _
        generalize upd Hb pc (.lst (evens (acc.map V.str))) = Hc at hpc xc k0c dvc ⊢
        generalize evens acc = lc at hpc hlc hac
        -- what is due
        have pvc : PV K Hc (.ref pc) (some lc) := .inr ⟨pc, lc, rfl, rfl, .inl (SqL.of hpc)⟩
        have hpar : ∀ p ∈ lc, parS p = true := fun p m => (hac p m).2
        have hfin : ∀ p ∈ lc, fine (.str p) = true := fun p m => (hac p m).1
        have pok := pair_ok fv wv gv hlc hfin
        refine ⟨_, rfl, b, v, d, .non, none, false, rfl, dvc, fv, ⟨by omega, by omega⟩, .inl ⟨rfl, rfl⟩, fun Hd sd => ?_⟩
        refine ⟨_, rfl, b, v, d, .non, none, true, rfl, Dq.same sd _ _ dvc, fv, ⟨by omega, by omega⟩, .inl ⟨rfl, rfl⟩, fun He se => ?_⟩
        have sde := sd.trans se
        refine ⟨_, rfl, _, rfl, b, v, d, .ref pc, some lc, true, rfl, Dq.same sde _ _ dvc, fv, ⟨by omega, by omega⟩, pvc.same sde, fun Hf sf => ⟨(by show 3 ≤ sizeLine; decide), fun pd npd => ?_⟩⟩
        have scf := sde.trans sf
        have npdb := (xc.same scf).ne npd
        obtain ⟨g1, hg1⟩ : ∃ g, g = goodF (lawPart none false) d := ⟨_, rfl⟩
        obtain ⟨g2, hg2⟩ : ∃ g, g = goodF (lawPart none true) d := ⟨_, rfl⟩
        obtain ⟨g3, hg3⟩ : ∃ g, g = goodF (lawPart (some lc) true) d := ⟨_, rfl⟩
        rw [← hg1, ← hg2, ← hg3]
        have sg := scf.trans (same_new (o := .lst [.bl g1, .bl g2, .bl g3]) npd)
        have hpd : (upd Hf pd (.lst [.bl g1, .bl g2, .bl g3])) pd = some (.lst [.bl g1, .bl g2, .bl g3]) := upd_same
        show gName 6 (.ref pd) _ (upd Hf pd (.lst [.bl g1, .bl g2, .bl g3])) _
        generalize upd Hf pd (.lst [.bl g1, .bl g2, .bl g3]) = Hg at sg hpd ⊢
        have bok := bools_ok g1 g2 g3
        have one : ∀ g : Bool, fine (.bool g) = true ∧ wt (.bool g) ≤ 60000 ∧ (PyData.bool g).depth ≤ 60 := fun g => ⟨rfl, by simp [wt], by simp [PyData.depth]⟩
        -- kept
        refine ⟨_, rfl, _, rfl, (by show 2 ≤ sizeLine; decide), fun pe npe => ?_⟩
        have sgh := same_new (o := .lst [v, .ref pc]) npe
        have sh := sg.trans sgh
        refine ⟨_, pairD d lc, rfl, .lst upd_same ((xc.same sg).ne npe) (.cons (Dq.same sh _ _ dvc) (.cons (.lst (sh _ _ hpc) npcb (dq_strs lc)) .nil)), pok.1, pok.2.1, pok.2.2, ?_⟩
        have hpdh := sgh _ _ hpd
        show gName 7 _ _ (upd Hg pe (.lst [v, .ref pc])) _
        generalize upd Hg pe (.lst [v, .ref pc]) = Hh at sh hpdh ⊢
        -- asked twice
        refine ⟨2, rfl, by decide, by decide, ?_⟩
        refine for_range (n := 2) (fun i σ H5 => ∃ t3 t8, σ = [some (.ref b), some (.ref pp), some v, t3, some (.ref pc), some (.int d5), some (.ref pd), some (.str (pairD d lc).shown), t8, none] ∧ Same Hh H5) ⟨_, _, rfl, fun _ _ z => z⟩ ?_ ?_
        · rintro i σ H5 hi ⟨t3, t8, rfl, s5⟩
          have t5 := sh.trans s5
          refine ⟨_, rfl, b, v, d, rfl, Dq.same t5 _ _ dvc, fv, by omega, by omega, fun J1 a1 => ?_⟩
          have t1 := t5.trans a1
          refine ⟨_, rfl, b, v, d, rfl, Dq.same t1 _ _ dvc, fv, by omega, by omega, fun J2 a2 => ?_⟩
          have t2 := t1.trans a2
          refine ⟨_, rfl, _, rfl, b, v, d, .ref pc, lc, rfl, Dq.same t2 _ _ dvc, fv, by omega, by omega, pvc.same t2, hpar, fun J3 a3 => ⟨(by show 3 ≤ sizeLine; decide), fun pf npf => ?_⟩⟩
          have t3' := t2.trans a3
          have npfb := (xc.same t3').ne npf
          rw [← hg1, ← hg2, ← hg3]
          have a4 := same_new (o := .lst [.bl g1, .bl g2, .bl g3]) npf
          have t4 := t3'.trans a4
          have s54 := (((s5.trans a1).trans a2).trans a3).trans a4
          have hpf : (upd J3 pf (.lst [.bl g1, .bl g2, .bl g3])) pf = some (.lst [.bl g1, .bl g2, .bl g3]) := upd_same
          show gName 8 (.ref pf) _ (upd J3 pf (.lst [.bl g1, .bl g2, .bl g3])) _
          generalize upd J3 pf (.lst [.bl g1, .bl g2, .bl g3]) = J4 at t4 s54 hpf ⊢
          have hpd4 := s54 _ _ hpdh
          refine ⟨_, rfl, _, .list [.bool g1, .bool g2, .bool g3], rfl, .lst hpf npfb (.cons (.bl _) (.cons (.bl _) (.cons (.bl _) .nil))), bok.1, bok.2.1, bok.2.2, _, rfl, _, .list [.bool g1, .bool g2, .bool g3], rfl, .lst hpd4 npdb (.cons (.bl _) (.cons (.bl _) (.cons (.bl _) .nil))), bok.1, bok.2.1, bok.2.2, rfl, _, rfl, ?_⟩
          rw [ne_str]
          refine iteF ⟨_, rfl, _, rfl, (by show 2 ≤ sizeLine; decide), fun pg npg => ?_⟩
          have a5 := same_new (o := .lst [v, .ref pc]) npg
          have t5' := t4.trans a5
          refine ⟨_, pairD d lc, rfl, .lst upd_same ((xc.same t4).ne npg) (.cons (Dq.same t5' _ _ dvc) (.cons (.lst (t5' _ _ hpc) npcb (dq_strs lc)) .nil)), pok.1, pok.2.1, pok.2.2, _, rfl, rfl, _, rfl, ?_⟩
          rw [ne_str]
          refine iteF ?_
          have s55 := s54.trans a5
          generalize upd J4 pg (.lst [v, .ref pc]) = J5 at a5 t5' s55 ⊢
          refine ⟨_, rfl, _, rfl, pc, _, rfl, .inl ⟨SqL.of (t5' _ _ hpc), fun pt npt => ?_⟩⟩
          have a6 := same_new (o := .tup (lc.map V.str)) npt
          have t6 := t5'.trans a6
          refine ⟨b, v, d, .ref pt, lc, rfl, Dq.same t6 _ _ dvc, fv, by omega, by omega, .inr ⟨pt, lc, rfl, rfl, .inr (SqT.of upd_same)⟩, hpar, fun J7 a7 => ?_⟩
          rw [← hg3]
          have s57 := (s55.trans a6).trans a7
          have t7 := t6.trans a7
          refine ⟨_, .bool g3, rfl, .bl g3, (one g3).1, (one g3).2.1, (one g3).2.2, _, rfl, pd, _, _, .bl g3, rfl, rfl, SqL.of (s57 _ _ hpdh), rfl, _, .bool g3, rfl, .bl g3, (one g3).1, (one g3).2.1, (one g3).2.2, rfl, _, rfl, ?_⟩
          rw [ne_str]
          refine iteF ⟨_, rfl, b, v, d, rfl, Dq.same t7 _ _ dvc, fv, by omega, by omega, fun J8 a8 => ?_⟩
          rw [← hg1]
          have s58 := s57.trans a8
          refine ⟨_, .bool g1, rfl, .bl g1, (one g1).1, (one g1).2.1, (one g1).2.2, _, rfl, pd, _, _, .bl g1, rfl, rfl, SqL.of (s58 _ _ hpdh), rfl, _, .bool g1, rfl, .bl g1, (one g1).1, (one g1).2.1, (one g1).2.2, rfl, _, rfl, ?_⟩
          rw [ne_str]
          exact iteF ⟨_, _, rfl, s58⟩
        rintro σ H5 ⟨t3, t8, rfl, s5⟩
        have t5 := sh.trans s5
        refine ⟨_, rfl, Nat.zero_le _, fun pn npn => ?_⟩
        have a1 := same_new (o := .lst []) npn
        have t6 := t5.trans a1
        refine ⟨b, v, d, .ref pn, [], rfl, Dq.same t6 _ _ dvc, fv, by omega, by omega, .inr ⟨pn, [], rfl, rfl, .inl (SqL.of upd_same)⟩, (fun p hp => nomatch hp), fun J1 a2 => ?_⟩
        have t7 := t6.trans a2
        refine ⟨_, .bool _, rfl, .bl _, (one _).1, (one _).2.1, (one _).2.2, ?_⟩
        refine ⟨_, rfl, Nat.zero_le _, fun pm npm => ?_⟩
        have a3 := same_new (o := .lst []) npm
        have t8' := t7.trans a3
        refine ⟨b, v, d, .ref pm, some [], true, rfl, Dq.same t8' _ _ dvc, fv, ⟨by omega, by omega⟩, .inr ⟨pm, [], rfl, rfl, .inl (SqL.of upd_same)⟩, fun J2 a4 => ?_⟩
        refine ⟨_, .bool _, rfl, .bl _, (one _).1, (one _).2.1, (one _).2.2, rfl, ?_⟩
        rw [decide_eq_true rfl]
        exact q _ (k0c.trans (Kp.of_same (t8'.trans a4)))
      rw [show decide (V.str z0 = V.str z1) = false by simpa using ea]
      refine iteF ⟨_, rfl, pp, _, _, .str z2, rfl, rfl, SqL.of plb.at_, rfl, _, rfl, pp, _, _, .str z3, rfl, rfl, SqL.of plb.at_, rfl, rfl, _, rfl, ?_⟩
      by_cases ec : decide (V.str z2 = V.str z3) = true
      · rw [ec]
        refine iteT ?_
        refine ⟨_, rfl, D, _, rfl, SqL.of hD, by rw [List.length_map]; exact hl, fun pc npc => ?_⟩
        have sc := same_new (o := .lst (evens (acc.map V.str))) npc
        have npcb := xb.ne npc
        have xc := xb.same sc
        have k0c := k0b.trans (Kp.of_same sc)
        have dvc := Dq.same sc _ _ dvb
        have hpc : (upd Hb pc (.lst (evens (acc.map V.str)))) pc = some (.lst ((evens acc).map V.str)) := by
          rw [upd_same, evens_map]
        have hlc : (evens acc).length ≤ 4 := Nat.le_trans (evens_len acc) hl
        have hac : ∀ p ∈ evens acc, fine (.str p) = true ∧ parS p = true := fun p hp => hacc p (evens_mem hp)
        show gName 4 (.ref pc) _ (upd Hb pc (.lst (evens (acc.map V.str)))) _
        generalize upd Hb pc (.lst (evens (acc.map V.str))) = Hc at hpc xc k0c dvc ⊢
        generalize evens acc = lc at hpc hlc hac
        -- what is due
        have pvc : PV K Hc (.ref pc) (some lc) := .inr ⟨pc, lc, rfl, rfl, .inl (SqL.of hpc)⟩
        have hpar : ∀ p ∈ lc, parS p = true := fun p m => (hac p m).2
        have hfin : ∀ p ∈ lc, fine (.str p) = true := fun p m => (hac p m).1
        have pok := pair_ok fv wv gv hlc hfin
        refine ⟨_, rfl, b, v, d, .non, none, false, rfl, dvc, fv, ⟨by omega, by omega⟩, .inl ⟨rfl, rfl⟩, fun Hd sd => ?_⟩
        refine ⟨_, rfl, b, v, d, .non, none, true, rfl, Dq.same sd _ _ dvc, fv, ⟨by omega, by omega⟩, .inl ⟨rfl, rfl⟩, fun He se => ?_⟩
        have sde := sd.trans se
        refine ⟨_, rfl, _, rfl, b, v, d, .ref pc, some lc, true, rfl, Dq.same sde _ _ dvc, fv, ⟨by omega, by omega⟩, pvc.same sde, fun Hf sf => ⟨(by show 3 ≤ sizeLine; decide), fun pd npd => ?_⟩⟩
        have scf := sde.trans sf
        have npdb := (xc.same scf).ne npd
        obtain ⟨g1, hg1⟩ : ∃ g, g = goodF (lawPart none false) d := ⟨_, rfl⟩
        obtain ⟨g2, hg2⟩ : ∃ g, g = goodF (lawPart none true) d := ⟨_, rfl⟩
        obtain ⟨g3, hg3⟩ : ∃ g, g = goodF (lawPart (some lc) true) d := ⟨_, rfl⟩
        rw [← hg1, ← hg2, ← hg3]
        have sg := scf.trans (same_new (o := .lst [.bl g1, .bl g2, .bl g3]) npd)
        have hpd : (upd Hf pd (.lst [.bl g1, .bl g2, .bl g3])) pd = some (.lst [.bl g1, .bl g2, .bl g3]) := upd_same
        show gName 6 (.ref pd) _ (upd Hf pd (.lst [.bl g1, .bl g2, .bl g3])) _
        generalize upd Hf pd (.lst [.bl g1, .bl g2, .bl g3]) = Hg at sg hpd ⊢
        have bok := bools_ok g1 g2 g3
        have one : ∀ g : Bool, fine (.bool g) = true ∧ wt (.bool g) ≤ 60000 ∧ (PyData.bool g).depth ≤ 60 := fun g => ⟨rfl, by simp [wt], by simp [PyData.depth]⟩
        -- kept
        refine ⟨_, rfl, _, rfl, (by show 2 ≤ sizeLine; decide), fun pe npe => ?_⟩
        have sgh := same_new (o := .lst [v, .ref pc]) npe
        have sh := sg.trans sgh
        refine ⟨_, pairD d lc, rfl, .lst upd_same ((xc.same sg).ne npe) (.cons (Dq.same sh _ _ dvc) (.cons (.lst (sh _ _ hpc) npcb (dq_strs lc)) .nil)), pok.1, pok.2.1, pok.2.2, ?_⟩
        have hpdh := sgh _ _ hpd
        show gName 7 _ _ (upd Hg pe (.lst [v, .ref pc])) _
        generalize upd Hg pe (.lst [v, .ref pc]) = Hh at sh hpdh ⊢
        -- asked twice
        refine ⟨2, rfl, by decide, by decide, ?_⟩
        refine for_range (n := 2) (fun i σ H5 => ∃ t3 t8, σ = [some (.ref b), some (.ref pp), some v, t3, some (.ref pc), some (.int d5), some (.ref pd), some (.str (pairD d lc).shown), t8, none] ∧ Same Hh H5) ⟨_, _, rfl, fun _ _ z => z⟩ ?_ ?_
        · rintro i σ H5 hi ⟨t3, t8, rfl, s5⟩
          have t5 := sh.trans s5
          refine ⟨_, rfl, b, v, d, rfl, Dq.same t5 _ _ dvc, fv, by omega, by omega, fun J1 a1 => ?_⟩
          have t1 := t5.trans a1
          refine ⟨_, rfl, b, v, d, rfl, Dq.same t1 _ _ dvc, fv, by omega, by omega, fun J2 a2 => ?_⟩
          have t2 := t1.trans a2
          refine ⟨_, rfl, _, rfl, b, v, d, .ref pc, lc, rfl, Dq.same t2 _ _ dvc, fv, by omega, by omega, pvc.same t2, hpar, fun J3 a3 => ⟨(by show 3 ≤ sizeLine; decide), fun pf npf => ?_⟩⟩
          have t3' := t2.trans a3
          have npfb := (xc.same t3').ne npf
          rw [← hg1, ← hg2, ← hg3]
          have a4 := same_new (o := .lst [.bl g1, .bl g2, .bl g3]) npf
          have t4 := t3'.trans a4
          have s54 := (((s5.trans a1).trans a2).trans a3).trans a4
          have hpf : (upd J3 pf (.lst [.bl g1, .bl g2, .bl g3])) pf = some (.lst [.bl g1, .bl g2, .bl g3]) := upd_same
          show gName 8 (.ref pf) _ (upd J3 pf (.lst [.bl g1, .bl g2, .bl g3])) _
          generalize upd J3 pf (.lst [.bl g1, .bl g2, .bl g3]) = J4 at t4 s54 hpf ⊢
          have hpd4 := s54 _ _ hpdh
          refine ⟨_, rfl, _, .list [.bool g1, .bool g2, .bool g3], rfl, .lst hpf npfb (.cons (.bl _) (.cons (.bl _) (.cons (.bl _) .nil))), bok.1, bok.2.1, bok.2.2, _, rfl, _, .list [.bool g1, .bool g2, .bool g3], rfl, .lst hpd4 npdb (.cons (.bl _) (.cons (.bl _) (.cons (.bl _) .nil))), bok.1, bok.2.1, bok.2.2, rfl, _, rfl, ?_⟩
          rw [ne_str]
          refine iteF ⟨_, rfl, _, rfl, (by show 2 ≤ sizeLine; decide), fun pg npg => ?_⟩
          have a5 := same_new (o := .lst [v, .ref pc]) npg
          have t5' := t4.trans a5
          refine ⟨_, pairD d lc, rfl, .lst upd_same ((xc.same t4).ne npg) (.cons (Dq.same t5' _ _ dvc) (.cons (.lst (t5' _ _ hpc) npcb (dq_strs lc)) .nil)), pok.1, pok.2.1, pok.2.2, _, rfl, rfl, _, rfl, ?_⟩
          rw [ne_str]
          refine iteF ?_
          have s55 := s54.trans a5
          generalize upd J4 pg (.lst [v, .ref pc]) = J5 at a5 t5' s55 ⊢
          refine ⟨_, rfl, _, rfl, pc, _, rfl, .inl ⟨SqL.of (t5' _ _ hpc), fun pt npt => ?_⟩⟩
          have a6 := same_new (o := .tup (lc.map V.str)) npt
          have t6 := t5'.trans a6
          refine ⟨b, v, d, .ref pt, lc, rfl, Dq.same t6 _ _ dvc, fv, by omega, by omega, .inr ⟨pt, lc, rfl, rfl, .inr (SqT.of upd_same)⟩, hpar, fun J7 a7 => ?_⟩
          rw [← hg3]
          have s57 := (s55.trans a6).trans a7
          have t7 := t6.trans a7
          refine ⟨_, .bool g3, rfl, .bl g3, (one g3).1, (one g3).2.1, (one g3).2.2, _, rfl, pd, _, _, .bl g3, rfl, rfl, SqL.of (s57 _ _ hpdh), rfl, _, .bool g3, rfl, .bl g3, (one g3).1, (one g3).2.1, (one g3).2.2, rfl, _, rfl, ?_⟩
          rw [ne_str]
          refine iteF ⟨_, rfl, b, v, d, rfl, Dq.same t7 _ _ dvc, fv, by omega, by omega, fun J8 a8 => ?_⟩
          rw [← hg1]
          have s58 := s57.trans a8
          refine ⟨_, .bool g1, rfl, .bl g1, (one g1).1, (one g1).2.1, (one g1).2.2, _, rfl, pd, _, _, .bl g1, rfl, rfl, SqL.of (s58 _ _ hpdh), rfl, _, .bool g1, rfl, .bl g1, (one g1).1, (one g1).2.1, (one g1).2.2, rfl, _, rfl, ?_⟩
          rw [ne_str]
          exact iteF ⟨_, _, rfl, s58⟩
        rintro σ H5 ⟨t3, t8, rfl, s5⟩
        have t5 := sh.trans s5
        refine ⟨_, rfl, Nat.zero_le _, fun pn npn => ?_⟩
        have a1 := same_new (o := .lst []) npn
        have t6 := t5.trans a1
        refine ⟨b, v, d, .ref pn, [], rfl, Dq.same t6 _ _ dvc, fv, by omega, by omega, .inr ⟨pn, [], rfl, rfl, .inl (SqL.of upd_same)⟩, (fun p hp => nomatch hp), fun J1 a2 => ?_⟩
        have t7 := t6.trans a2
        refine ⟨_, .bool _, rfl, .bl _, (one _).1, (one _).2.1, (one _).2.2, ?_⟩
        refine ⟨_, rfl, Nat.zero_le _, fun pm npm => ?_⟩
        have a3 := same_new (o := .lst []) npm
        have t8' := t7.trans a3
        refine ⟨b, v, d, .ref pm, some [], true, rfl, Dq.same t8' _ _ dvc, fv, ⟨by omega, by omega⟩, .inr ⟨pm, [], rfl, rfl, .inl (SqL.of upd_same)⟩, fun J2 a4 => ?_⟩
        refine ⟨_, .bool _, rfl, .bl _, (one _).1, (one _).2.1, (one _).2.2, rfl, ?_⟩
        rw [decide_eq_true rfl]
        exact q _ (k0c.trans (Kp.of_same (t8'.trans a4)))
      rw [show decide (V.str z2 = V.str z3) = false by simpa using ec]
      refine iteF ?_
      obtain ⟨pc, lc, Hc, hpc, npcb, hlc, hac, dvc, xc, k0c⟩ : ∃ pc lc Hc, pc = D ∧ pc ≠ b ∧ lc = acc ∧ Hc = Hb ∧ True ∧ True ∧ True := ⟨_, _, _, rfl, nDb, rfl, rfl, trivial, trivial, trivial⟩
      subst hpc hlc hac
      clear dvc xc k0c
      have hpc := hD
      have hlc := hl
      have hac := hacc
      have dvc := dvb
      have xc := xb
      have k0c := k0b
      -- what is due
      have pvc : PV K Hc (.ref pc) (some lc) := .inr ⟨pc, lc, rfl, rfl, .inl (SqL.of hpc)⟩
      have hpar : ∀ p ∈ lc, parS p = true := fun p m => (hac p m).2
      have hfin : ∀ p ∈ lc, fine (.str p) = true := fun p m => (hac p m).1
      have pok := pair_ok fv wv gv hlc hfin
      refine ⟨_, rfl, b, v, d, .non, none, false, rfl, dvc, fv, ⟨by omega, by omega⟩, .inl ⟨rfl, rfl⟩, fun Hd sd => ?_⟩
      refine ⟨_, rfl, b, v, d, .non, none, true, rfl, Dq.same sd _ _ dvc, fv, ⟨by omega, by omega⟩, .inl ⟨rfl, rfl⟩, fun He se => ?_⟩
      have sde := sd.trans se
      refine ⟨_, rfl, _, rfl, b, v, d, .ref pc, some lc, true, rfl, Dq.same sde _ _ dvc, fv, ⟨by omega, by omega⟩, pvc.same sde, fun Hf sf => ⟨(by show 3 ≤ sizeLine; decide), fun pd npd => ?_⟩⟩
      have scf := sde.trans sf
      have npdb := (xc.same scf).ne npd
      obtain ⟨g1, hg1⟩ : ∃ g, g = goodF (lawPart none false) d := ⟨_, rfl⟩
      obtain ⟨g2, hg2⟩ : ∃ g, g = goodF (lawPart none true) d := ⟨_, rfl⟩
      obtain ⟨g3, hg3⟩ : ∃ g, g = goodF (lawPart (some lc) true) d := ⟨_, rfl⟩
      rw [← hg1, ← hg2, ← hg3]
      have sg := scf.trans (same_new (o := .lst [.bl g1, .bl g2, .bl g3]) npd)
      have hpd : (upd Hf pd (.lst [.bl g1, .bl g2, .bl g3])) pd = some (.lst [.bl g1, .bl g2, .bl g3]) := upd_same
      show gName 6 (.ref pd) _ (upd Hf pd (.lst [.bl g1, .bl g2, .bl g3])) _
      generalize upd Hf pd (.lst [.bl g1, .bl g2, .bl g3]) = Hg at sg hpd ⊢
      have bok := bools_ok g1 g2 g3
      have one : ∀ g : Bool, fine (.bool g) = true ∧ wt (.bool g) ≤ 60000 ∧ (PyData.bool g).depth ≤ 60 := fun g => ⟨rfl, by simp [wt], by simp [PyData.depth]⟩
      -- kept
      refine ⟨_, rfl, _, rfl, (by show 2 ≤ sizeLine; decide), fun pe npe => ?_⟩
      have sgh := same_new (o := .lst [v, .ref pc]) npe
      have sh := sg.trans sgh
      refine ⟨_, pairD d lc, rfl, .lst upd_same ((xc.same sg).ne npe) (.cons (Dq.same sh _ _ dvc) (.cons (.lst (sh _ _ hpc) npcb (dq_strs lc)) .nil)), pok.1, pok.2.1, pok.2.2, ?_⟩
      have hpdh := sgh _ _ hpd
      show gName 7 _ _ (upd Hg pe (.lst [v, .ref pc])) _
      generalize upd Hg pe (.lst [v, .ref pc]) = Hh at sh hpdh ⊢
      -- asked twice
      refine ⟨2, rfl, by decide, by decide, ?_⟩
      refine for_range (n := 2) (fun i σ H5 => ∃ t3 t8, σ = [some (.ref b), some (.ref pp), some v, t3, some (.ref pc), some (.int d5), some (.ref pd), some (.str (pairD d lc).shown), t8, none] ∧ Same Hh H5) ⟨_, _, rfl, fun _ _ z => z⟩ ?_ ?_
      · rintro i σ H5 hi ⟨t3, t8, rfl, s5⟩
        have t5 := sh.trans s5
        refine ⟨_, rfl, b, v, d, rfl, Dq.same t5 _ _ dvc, fv, by omega, by omega, fun J1 a1 => ?_⟩
        have t1 := t5.trans a1
        refine ⟨_, rfl, b, v, d, rfl, Dq.same t1 _ _ dvc, fv, by omega, by omega, fun J2 a2 => ?_⟩
        have t2 := t1.trans a2
        refine ⟨_, rfl, _, rfl, b, v, d, .ref pc, lc, rfl, Dq.same t2 _ _ dvc, fv, by omega, by omega, pvc.same t2, hpar, fun J3 a3 => ⟨(by show 3 ≤ sizeLine; decide), fun pf npf => ?_⟩⟩
        have t3' := t2.trans a3
        have npfb := (xc.same t3').ne npf
        rw [← hg1, ← hg2, ← hg3]
        have a4 := same_new (o := .lst [.bl g1, .bl g2, .bl g3]) npf
        have t4 := t3'.trans a4
        have s54 := (((s5.trans a1).trans a2).trans a3).trans a4
        have hpf : (upd J3 pf (.lst [.bl g1, .bl g2, .bl g3])) pf = some (.lst [.bl g1, .bl g2, .bl g3]) := upd_same
        show gName 8 (.ref pf) _ (upd J3 pf (.lst [.bl g1, .bl g2, .bl g3])) _
        generalize upd J3 pf (.lst [.bl g1, .bl g2, .bl g3]) = J4 at t4 s54 hpf ⊢
        have hpd4 := s54 _ _ hpdh
        refine ⟨_, rfl, _, .list [.bool g1, .bool g2, .bool g3], rfl, .lst hpf npfb (.cons (.bl _) (.cons (.bl _) (.cons (.bl _) .nil))), bok.1, bok.2.1, bok.2.2, _, rfl, _, .list [.bool g1, .bool g2, .bool g3], rfl, .lst hpd4 npdb (.cons (.bl _) (.cons (.bl _) (.cons (.bl _) .nil))), bok.1, bok.2.1, bok.2.2, rfl, _, rfl, ?_⟩
        rw [ne_str]
        refine iteF ⟨_, rfl, _, rfl, (by show 2 ≤ sizeLine; decide), fun pg npg => ?_⟩
        have a5 := same_new (o := .lst [v, .ref pc]) npg
        have t5' := t4.trans a5
        refine ⟨_, pairD d lc, rfl, .lst upd_same ((xc.same t4).ne npg) (.cons (Dq.same t5' _ _ dvc) (.cons (.lst (t5' _ _ hpc) npcb (dq_strs lc)) .nil)), pok.1, pok.2.1, pok.2.2, _, rfl, rfl, _, rfl, ?_⟩
        rw [ne_str]
        refine iteF ?_
        have s55 := s54.trans a5
        generalize upd J4 pg (.lst [v, .ref pc]) = J5 at a5 t5' s55 ⊢
        refine ⟨_, rfl, _, rfl, pc, _, rfl, .inl ⟨SqL.of (t5' _ _ hpc), fun pt npt => ?_⟩⟩
        have a6 := same_new (o := .tup (lc.map V.str)) npt
        have t6 := t5'.trans a6
        refine ⟨b, v, d, .ref pt, lc, rfl, Dq.same t6 _ _ dvc, fv, by omega, by omega, .inr ⟨pt, lc, rfl, rfl, .inr (SqT.of upd_same)⟩, hpar, fun J7 a7 => ?_⟩
        rw [← hg3]
        have s57 := (s55.trans a6).trans a7
        have t7 := t6.trans a7
        refine ⟨_, .bool g3, rfl, .bl g3, (one g3).1, (one g3).2.1, (one g3).2.2, _, rfl, pd, _, _, .bl g3, rfl, rfl, SqL.of (s57 _ _ hpdh), rfl, _, .bool g3, rfl, .bl g3, (one g3).1, (one g3).2.1, (one g3).2.2, rfl, _, rfl, ?_⟩
        rw [ne_str]
        refine iteF ⟨_, rfl, b, v, d, rfl, Dq.same t7 _ _ dvc, fv, by omega, by omega, fun J8 a8 => ?_⟩
        rw [← hg1]
        have s58 := s57.trans a8
        refine ⟨_, .bool g1, rfl, .bl g1, (one g1).1, (one g1).2.1, (one g1).2.2, _, rfl, pd, _, _, .bl g1, rfl, rfl, SqL.of (s58 _ _ hpdh), rfl, _, .bool g1, rfl, .bl g1, (one g1).1, (one g1).2.1, (one g1).2.2, rfl, _, rfl, ?_⟩
        rw [ne_str]
        exact iteF ⟨_, _, rfl, s58⟩
      rintro σ H5 ⟨t3, t8, rfl, s5⟩
      have t5 := sh.trans s5
      refine ⟨_, rfl, Nat.zero_le _, fun pn npn => ?_⟩
      have a1 := same_new (o := .lst []) npn
      have t6 := t5.trans a1
      refine ⟨b, v, d, .ref pn, [], rfl, Dq.same t6 _ _ dvc, fv, by omega, by omega, .inr ⟨pn, [], rfl, rfl, .inl (SqL.of upd_same)⟩, (fun p hp => nomatch hp), fun J1 a2 => ?_⟩
      have t7 := t6.trans a2
      refine ⟨_, .bool _, rfl, .bl _, (one _).1, (one _).2.1, (one _).2.2, ?_⟩
      refine ⟨_, rfl, Nat.zero_le _, fun pm npm => ?_⟩
      have a3 := same_new (o := .lst []) npm
      have t8' := t7.trans a3
      refine ⟨b, v, d, .ref pm, some [], true, rfl, Dq.same t8' _ _ dvc, fv, ⟨by omega, by omega⟩, .inr ⟨pm, [], rfl, rfl, .inl (SqL.of upd_same)⟩, fun J2 a4 => ?_⟩
      refine ⟨_, .bool _, rfl, .bl _, (one _).1, (one _).2.1, (one _).2.2, rfl, ?_⟩
      rw [decide_eq_true rfl]
      exact q _ (k0c.trans (Kp.of_same (t8'.trans a4)))
end
end K11
set_option Elab.async false
set_option linter.all false
set_option maxRecDepth 100000
namespace K11
open PySem PySem.Spec PyProof.Rows L2 CaV CaL CaN CaD CaG
section
variable {P : Program} {w : World} {K : PySem.W.Frag} {mg : Str → Option Value} {base : Heap}
set_option maxHeartbeats 1000000 in
theorem ok_law {f : Addr} {fd : FuncData} (F : Fun K "law" "law" s_law f fd) (T : TP K mg) : FnG P w K mg base 35 f fd ["_law_script"] (spLaw K) := by
  have G_l_cell : FnOk P w K mg base CX0 1 T.d_l_cell.f T.d_l_cell.fd ["_law_script", "_law_k"] (spCell K) := ok_cell T
  have G_l_purse : FnOk P w K mg base CX0 1 T.d_l_purse.f T.d_l_purse.fd ["_law_cell_here"] spBox := ok_purse T
  have G_l_right : FnG P w K mg base 34 T.d_l_right.f T.d_l_right.fd ["_law_purse_here"] spRight := ok_l_right T
  refine FnG.of F sc_law (fun vs H Q E h => ?_) (fun cdv A outer s H vs Q E quiet hr h => ?_)
  · obtain ⟨a, ns, rfl, _⟩ := h
    rfl
  · obtain ⟨a, ns, rfl, hS, hlen, q⟩ := h
    refine ⟨_, (pss_cons (ps_for PassesOwn.never rfl (pi_range1 (by rfl) T.n_range (pa_cons (pe_callB (call_max2 rfl) (by rfl) T.n_max (by decide +kernel) (pa_cons pe_int (pa_cons (pe_callB (call_min2 rfl) (by rfl) T.n_min (by decide +kernel) (pa_cons pe_int (pa_cons (pe_callB call_len_seq (by rfl) T.n_len PySem.boot_len (pa_cons (pv 0) pa_nil)) pa_nil))) pa_nil))) pa_nil)) (pg_name (i := 1) sc_law.nd rfl (.inl rfl))
      (pss_one (ps_if (pt_not (pt_val (pe_callG G_l_right quiet (hr.mono (by omega)) (by rfl) T.d_l_right.g T.d_l_right.F.kp T.d_l_right.b (pa_cons (pe_call G_l_purse (hr.mono (by omega)) (by rfl) T.d_l_purse.g T.d_l_purse.F.kp T.d_l_purse.b .nil pass0 (pa_cons (pe_call G_l_cell (hr.mono (by omega)) (by rfl) T.d_l_cell.g T.d_l_cell.F.kp T.d_l_cell.b .nil pass0 (pa_cons (pv 0) (pa_cons (pv 1) pa_nil))) pa_nil)) pa_nil))))
        (pss_one (ps_ret pe_bl))
        pss_nil)))
    (pss_one (ps_ret pe_bl))), ?_⟩
    have hj : ∀ l : Int, 0 ≤ l → 2 ≤ (if (if l < 20 then l else 20) > 2 then (if l < 20 then l else 20) else 2) ∧ (if (if l < 20 then l else 20) > 2 then (if l < 20 then l else 20) else 2) ≤ 20 := fun l hl => by
      by_cases h1 : l < 20
      · rw [if_pos h1]
        by_cases h2 : l > 2
        · rw [if_pos h2]
          omega
        · rw [if_neg h2]
          omega
      · rw [if_neg h1, if_pos (by decide)]
        omega
    have hk := hj ((ns.map V.int).length : Int) (by omega)
    refine ⟨_, rfl, a, _, rfl, .inl hS, _, _, rfl, _, _, rfl, _, rfl, ?_, ?_, ?_⟩
    · exact Int.le_trans (by decide) hk.1
    · exact Int.lt_of_le_of_lt hk.2 (by decide)
    refine for_range (fun i σ H5 => ∃ t1, σ = [some (.ref a), t1] ∧ SqL K H5 a (ns.map V.int)) ⟨_, rfl, hS⟩ ?_ ?_
    · rintro i σ H5 hi ⟨t1, rfl, hS5⟩
      refine ⟨_, rfl, _, rfl, a, ns, _, rfl, hS5, by omega, fun x => ⟨x, rfl, fun b H6 nb s6 bx => ?_⟩⟩
      refine ⟨b, rfl, bx, fun H7 k7 => ⟨_, rfl, iteF ⟨_, rfl, ?_⟩⟩⟩
      exact (Kp.same s6 k7 nb).seq hS5
    · rintro σ H5 ⟨t1, rfl, hS5⟩
      exact q _
end
end K11
set_option Elab.async false
set_option linter.all false
set_option maxRecDepth 100000
namespace K11
open PySem PySem.Spec PyProof.Rows L2 CaV CaL CaN CaD CaG
theorem all_mk {l : PySem.W.OpenLaw} {w : World} {K : PySem.W.Frag} {h : Heap} {mg : Str → Option Value} {fa f0 f1 f2 f3 f4 f5 f6 f7 f8 f9 f10 f11 f12 f13 f14 f15 f16 f17 f18 f19 f20 f21 f22 f23 : Addr} (X : K.In h) (G : h.Ns mainGlobals mg) (hfa : mg "law" = some (.ref fa))
    {od0 an0 od1 an1 od2 an2 od3 an3 od4 an4 od5 an5 od6 an6 od7 an7 od8 an8 od9 an9 od10 an10 od11 an11 od12 an12 od13 an13 od14 an14 od15 an15 od16 an16 od17 an17 od18 an18 od19 an19 od20 an20 od21 an21 od22 an22 od23 an23 : Option Addr} {sl0 sl1 sl2 sl3 sl4 sl5 sl6 sl7 sl8 sl9 sl10 sl11 sl12 sl13 sl14 sl15 sl16 sl17 sl18 sl19 sl20 sl21 sl22 sl23 : Array (Option Value)} {oc0 kV0 dc0 pm0 cd0 ct0 oc1 kV1 dc1 pm1 cd1 ct1 oc2 kV2 dc2 pm2 cd2 ct2 oc3 kV3 dc3 pm3 cd3 ct3 oc4 kV4 dc4 pm4 cd4 ct4 oc5 kV5 dc5 pm5 cd5 ct5 oc6 kV6 dc6 pm6 cd6 ct6 oc7 kV7 dc7 pm7 cd7 ct7 oc8 kV8 dc8 pm8 cd8 ct8 oc9 kV9 dc9 pm9 cd9 ct9 oc10 kV10 dc10 pm10 cd10 ct10 oc11 kV11 dc11 pm11 cd11 ct11 oc12 kV12 dc12 pm12 cd12 ct12 oc13 kV13 dc13 pm13 cd13 ct13 oc14 kV14 dc14 pm14 cd14 ct14 oc15 kV15 dc15 pm15 cd15 ct15 oc16 kV16 dc16 pm16 cd16 ct16 oc17 kV17 dc17 pm17 cd17 ct17 oc18 kV18 dc18 pm18 cd18 ct18 oc19 kV19 dc19 pm19 cd19 ct19 oc20 kV20 dc20 pm20 cd20 ct20 oc21 kV21 dc21 pm21 cd21 ct21 oc22 kV22 dc22 pm22 cd22 ct22 oc23 kV23 dc23 pm23 cd23 ct23 : Value} {aKW : Addr} {odKW : Option Addr} {nKW : Nat} {slKW : Array (Option Value)} {tKW0 tKW1 tKW2 tKW3 tKW4 : Tok} {aTK : Addr} {odTK : Option Addr} {nTK : Nat} {slTK : Array (Option Value)} {tTK0 tTK1 tTK2 tTK3 : Tok} {aPK : Addr} {odPK : Option Addr} {nPK : Nat} {slPK : Array (Option Value)} {tPK0 tPK1 tPK2 tPK3 tPK4 : Tok} {aBK : Addr} {odBK : Option Addr} {nBK : Nat} {slBK : Array (Option Value)} {tBK0 tBK1 tBK2 tBK3 tBK4 tBK5 tBK6 : Tok} {aNK : Addr} {odNK : Option Addr} {nNK : Nat} {slNK : Array (Option Value)} {tNK0 tNK1 tNK2 : Tok} {tLN : Tok} {tMP : Tok} {tGD : Tok} {tMO : Tok} {tMA : Tok}
    (a0 : PySem.W.nsIn K mainGlobals "is_name" = some (some (.ref f0)))
    (l0 : K.lookup f0 = some ⟨oc0, od0, .func (PySem.W.fnOf "is_name" "is_name" (defArgs s_is_name) (defBody s_is_name) (defScope s_is_name) .none kV0 dc0 pm0 an0 cd0 ct0), sl0⟩)
    (c0 : PySem.W.codeIn K cd0 "is_name" = true)
    (k0 : PySem.W.keepIn K (.ref f0) = true)
    (a1 : PySem.W.nsIn K mainGlobals "is_parameter" = some (some (.ref f1)))
    (l1 : K.lookup f1 = some ⟨oc1, od1, .func (PySem.W.fnOf "is_parameter" "is_parameter" (defArgs s_is_parameter) (defBody s_is_parameter) (defScope s_is_parameter) .none kV1 dc1 pm1 an1 cd1 ct1), sl1⟩)
    (c1 : PySem.W.codeIn K cd1 "is_parameter" = true)
    (k1 : PySem.W.keepIn K (.ref f1) = true)
    (a2 : PySem.W.nsIn K mainGlobals "is_term" = some (some (.ref f2)))
    (l2 : K.lookup f2 = some ⟨oc2, od2, .func (PySem.W.fnOf "is_term" "is_term" (defArgs s_is_term) (defBody s_is_term) (defScope s_is_term) .none kV2 dc2 pm2 an2 cd2 ct2), sl2⟩)
    (c2 : PySem.W.codeIn K cd2 "is_term" = true)
    (k2 : PySem.W.keepIn K (.ref f2) = true)
    (a3 : PySem.W.nsIn K mainGlobals "is_program" = some (some (.ref f3)))
    (l3 : K.lookup f3 = some ⟨oc3, od3, .func (PySem.W.fnOf "is_program" "is_program" (defArgs s_is_program) (defBody s_is_program) (defScope s_is_program) .none kV3 dc3 pm3 an3 cd3 ct3), sl3⟩)
    (c3 : PySem.W.codeIn K cd3 "is_program" = true)
    (k3 : PySem.W.keepIn K (.ref f3) = true)
    (a4 : PySem.W.nsIn K mainGlobals "is_body" = some (some (.ref f4)))
    (l4 : K.lookup f4 = some ⟨oc4, od4, .func (PySem.W.fnOf "is_body" "is_body" (defArgs s_is_body) (defBody s_is_body) (defScope s_is_body) .none kV4 dc4 pm4 an4 cd4 ct4), sl4⟩)
    (c4 : PySem.W.codeIn K cd4 "is_body" = true)
    (k4 : PySem.W.keepIn K (.ref f4) = true)
    (a5 : PySem.W.nsIn K mainGlobals "levelled_parts" = some (some (.ref f5)))
    (l5 : K.lookup f5 = some ⟨oc5, od5, .func (PySem.W.fnOf "levelled_parts" "levelled_parts" (defArgs s_levelled_parts) (defBody s_levelled_parts) (defScope s_levelled_parts) .none kV5 dc5 pm5 an5 cd5 ct5), sl5⟩)
    (c5 : PySem.W.codeIn K cd5 "levelled_parts" = true)
    (k5 : PySem.W.keepIn K (.ref f5) = true)
    (a6 : PySem.W.nsIn K mainGlobals "parts_within" = some (some (.ref f6)))
    (l6 : K.lookup f6 = some ⟨oc6, od6, .func (PySem.W.fnOf "parts_within" "parts_within" (defArgs s_parts_within) (defBody s_parts_within) (defScope s_parts_within) .none kV6 dc6 pm6 an6 cd6 ct6), sl6⟩)
    (c6 : PySem.W.codeIn K cd6 "parts_within" = true)
    (k6 : PySem.W.keepIn K (.ref f6) = true)
    (a7 : PySem.W.nsIn K mainGlobals "is_part" = some (some (.ref f7)))
    (l7 : K.lookup f7 = some ⟨oc7, od7, .func (PySem.W.fnOf "is_part" "is_part" (defArgs s_is_part) (defBody s_is_part) (defScope s_is_part) .none kV7 dc7 pm7 an7 cd7 ct7), sl7⟩)
    (c7 : PySem.W.codeIn K cd7 "is_part" = true)
    (k7 : PySem.W.keepIn K (.ref f7) = true)
    (a8 : PySem.W.nsIn K mainGlobals "has_row" = some (some (.ref f8)))
    (l8 : K.lookup f8 = some ⟨oc8, od8, .func (PySem.W.fnOf "has_row" "has_row" (defArgs s_has_row) (defBody s_has_row) (defScope s_has_row) .none kV8 dc8 pm8 an8 cd8 ct8), sl8⟩)
    (c8 : PySem.W.codeIn K cd8 "has_row" = true)
    (k8 : PySem.W.keepIn K (.ref f8) = true)
    (a9 : PySem.W.nsIn K mainGlobals "is_name_within" = some (some (.ref f9)))
    (l9 : K.lookup f9 = some ⟨oc9, od9, .func (PySem.W.fnOf "is_name_within" "is_name_within" (defArgs s_is_name_within) (defBody s_is_name_within) (defScope s_is_name_within) .none kV9 dc9 pm9 an9 cd9 ct9), sl9⟩)
    (c9 : PySem.W.codeIn K cd9 "is_name_within" = true)
    (k9 : PySem.W.keepIn K (.ref f9) = true)
    (a10 : PySem.W.nsIn K mainGlobals "is_allowed" = some (some (.ref f10)))
    (l10 : K.lookup f10 = some ⟨oc10, od10, .func (PySem.W.fnOf "is_allowed" "is_allowed" (defArgs s_is_allowed) (defBody s_is_allowed) (defScope s_is_allowed) .none kV10 dc10 pm10 an10 cd10 ct10), sl10⟩)
    (c10 : PySem.W.codeIn K cd10 "is_allowed" = true)
    (k10 : PySem.W.keepIn K (.ref f10) = true)
    (a11 : PySem.W.nsIn K mainGlobals "_law_cell" = some (some (.ref f11)))
    (l11 : K.lookup f11 = some ⟨oc11, od11, .func (PySem.W.fnOf "_law_cell" "_law_cell" (defArgs s_l_cell) (defBody s_l_cell) (defScope s_l_cell) .none kV11 dc11 pm11 an11 cd11 ct11), sl11⟩)
    (c11 : PySem.W.codeIn K cd11 "_law_cell" = true)
    (k11 : PySem.W.keepIn K (.ref f11) = true)
    (a12 : PySem.W.nsIn K mainGlobals "_law_purse" = some (some (.ref f12)))
    (l12 : K.lookup f12 = some ⟨oc12, od12, .func (PySem.W.fnOf "_law_purse" "_law_purse" (defArgs s_l_purse) (defBody s_l_purse) (defScope s_l_purse) .none kV12 dc12 pm12 an12 cd12 ct12), sl12⟩)
    (c12 : PySem.W.codeIn K cd12 "_law_purse" = true)
    (k12 : PySem.W.keepIn K (.ref f12) = true)
    (a13 : PySem.W.nsIn K mainGlobals "_law_take" = some (some (.ref f13)))
    (l13 : K.lookup f13 = some ⟨oc13, od13, .func (PySem.W.fnOf "_law_take" "_law_take" (defArgs s_l_take) (defBody s_l_take) (defScope s_l_take) .none kV13 dc13 pm13 an13 cd13 ct13), sl13⟩)
    (c13 : PySem.W.codeIn K cd13 "_law_take" = true)
    (k13 : PySem.W.keepIn K (.ref f13) = true)
    (a14 : PySem.W.nsIn K mainGlobals "_law_pool" = some (some (.ref f14)))
    (l14 : K.lookup f14 = some ⟨oc14, od14, .func (PySem.W.fnOf "_law_pool" "_law_pool" (defArgs s_l_pool) (defBody s_l_pool) (defScope s_l_pool) .none kV14 dc14 pm14 an14 cd14 ct14), sl14⟩)
    (c14 : PySem.W.codeIn K cd14 "_law_pool" = true)
    (k14 : PySem.W.keepIn K (.ref f14) = true)
    (a15 : PySem.W.nsIn K mainGlobals "_law_parts" = some (some (.ref f15)))
    (l15 : K.lookup f15 = some ⟨oc15, od15, .func (PySem.W.fnOf "_law_parts" "_law_parts" (defArgs s_l_parts) (defBody s_l_parts) (defScope s_l_parts) .none kV15 dc15 pm15 an15 cd15 ct15), sl15⟩)
    (c15 : PySem.W.codeIn K cd15 "_law_parts" = true)
    (k15 : PySem.W.keepIn K (.ref f15) = true)
    (a16 : PySem.W.nsIn K mainGlobals "_law_piece" = some (some (.ref f16)))
    (l16 : K.lookup f16 = some ⟨oc16, od16, .func (PySem.W.fnOf "_law_piece" "_law_piece" (defArgs s_l_piece) (defBody s_l_piece) (defScope s_l_piece) .none kV16 dc16 pm16 an16 cd16 ct16), sl16⟩)
    (c16 : PySem.W.codeIn K cd16 "_law_piece" = true)
    (k16 : PySem.W.keepIn K (.ref f16) = true)
    (a17 : PySem.W.nsIn K mainGlobals "_law_is_name" = some (some (.ref f17)))
    (l17 : K.lookup f17 = some ⟨oc17, od17, .func (PySem.W.fnOf "_law_is_name" "_law_is_name" (defArgs s_l_is_name) (defBody s_l_is_name) (defScope s_l_is_name) .none kV17 dc17 pm17 an17 cd17 ct17), sl17⟩)
    (c17 : PySem.W.codeIn K cd17 "_law_is_name" = true)
    (k17 : PySem.W.keepIn K (.ref f17) = true)
    (a18 : PySem.W.nsIn K mainGlobals "_law_is_binder" = some (some (.ref f18)))
    (l18 : K.lookup f18 = some ⟨oc18, od18, .func (PySem.W.fnOf "_law_is_binder" "_law_is_binder" (defArgs s_l_is_binder) (defBody s_l_is_binder) (defScope s_l_is_binder) .none kV18 dc18 pm18 an18 cd18 ct18), sl18⟩)
    (c18 : PySem.W.codeIn K cd18 "_law_is_binder" = true)
    (k18 : PySem.W.keepIn K (.ref f18) = true)
    (a19 : PySem.W.nsIn K mainGlobals "_law_good" = some (some (.ref f19)))
    (l19 : K.lookup f19 = some ⟨oc19, od19, .func (PySem.W.fnOf "_law_good" "_law_good" (defArgs s_l_good) (defBody s_l_good) (defScope s_l_good) .none kV19 dc19 pm19 an19 cd19 ct19), sl19⟩)
    (c19 : PySem.W.codeIn K cd19 "_law_good" = true)
    (k19 : PySem.W.keepIn K (.ref f19) = true)
    (a20 : PySem.W.nsIn K mainGlobals "_law_odd" = some (some (.ref f20)))
    (l20 : K.lookup f20 = some ⟨oc20, od20, .func (PySem.W.fnOf "_law_odd" "_law_odd" (defArgs s_l_odd) (defBody s_l_odd) (defScope s_l_odd) .none kV20 dc20 pm20 an20 cd20 ct20), sl20⟩)
    (c20 : PySem.W.codeIn K cd20 "_law_odd" = true)
    (k20 : PySem.W.keepIn K (.ref f20) = true)
    (a21 : PySem.W.nsIn K mainGlobals "_law_spoilt" = some (some (.ref f21)))
    (l21 : K.lookup f21 = some ⟨oc21, od21, .func (PySem.W.fnOf "_law_spoilt" "_law_spoilt" (defArgs s_l_spoilt) (defBody s_l_spoilt) (defScope s_l_spoilt) .none kV21 dc21 pm21 an21 cd21 ct21), sl21⟩)
    (c21 : PySem.W.codeIn K cd21 "_law_spoilt" = true)
    (k21 : PySem.W.keepIn K (.ref f21) = true)
    (a22 : PySem.W.nsIn K mainGlobals "_law_right" = some (some (.ref f22)))
    (l22 : K.lookup f22 = some ⟨oc22, od22, .func (PySem.W.fnOf "_law_right" "_law_right" (defArgs s_l_right) (defBody s_l_right) (defScope s_l_right) .none kV22 dc22 pm22 an22 cd22 ct22), sl22⟩)
    (c22 : PySem.W.codeIn K cd22 "_law_right" = true)
    (k22 : PySem.W.keepIn K (.ref f22) = true)
    (a23 : PySem.W.nsIn K mainGlobals "law" = some (some (.ref f23)))
    (l23 : K.lookup f23 = some ⟨oc23, od23, .func (PySem.W.fnOf "law" "law" (defArgs s_law) (defBody s_law) (defScope s_law) .none kV23 dc23 pm23 an23 cd23 ct23), sl23⟩)
    (c23 : PySem.W.codeIn K cd23 "law" = true)
    (k23 : PySem.W.keepIn K (.ref f23) = true)
    (z0 : PySem.W.nsIn K mainGlobals "len" = some none)
    (z1 : PySem.W.nsIn K mainGlobals "max" = some none)
    (z2 : PySem.W.nsIn K mainGlobals "min" = some none)
    (z3 : PySem.W.nsIn K mainGlobals "range" = some none)
    (z4 : PySem.W.nsIn K mainGlobals "isinstance" = some none)
    (z5 : PySem.W.nsIn K mainGlobals "int" = some none)
    (z6 : PySem.W.nsIn K mainGlobals "str" = some none)
    (z7 : PySem.W.nsIn K mainGlobals "list" = some none)
    (z8 : PySem.W.nsIn K mainGlobals "tuple" = some none)
    (z9 : PySem.W.nsIn K mainGlobals "repr" = some none)
    (gKW : PySem.W.nsIn K mainGlobals "KEYWORDS" = some (some (.ref aKW)))
    (hKW : K.lookup aKW = some ⟨.type "tuple", odKW, .seq #[.str "let" tKW0, .str "in" tKW1, .str "each" tKW2, .str "of" tKW3, .str "want" tKW4] nKW, slKW⟩)
    (gTK : PySem.W.nsIn K mainGlobals "TERM_KINDS" = some (some (.ref aTK)))
    (hTK : K.lookup aTK = some ⟨.type "tuple", odTK, .seq #[.str "name" tTK0, .str "op" tTK1, .str "let" tTK2, .str "each" tTK3] nTK, slTK⟩)
    (gPK : PySem.W.nsIn K mainGlobals "PROGRAM_KINDS" = some (some (.ref aPK)))
    (hPK : K.lookup aPK = some ⟨.type "tuple", odPK, .seq #[.str "name" tPK0, .str "op" tPK1, .str "let" tPK2, .str "each" tPK3, .str "call" tPK4] nPK, slPK⟩)
    (gBK : PySem.W.nsIn K mainGlobals "BODY_KINDS" = some (some (.ref aBK)))
    (hBK : K.lookup aBK = some ⟨.type "tuple", odBK, .seq #[.str "name" tBK0, .str "op" tBK1, .str "let" tBK2, .str "each" tBK3, .str "call" tBK4, .str "hole" tBK5, .str "want" tBK6] nBK, slBK⟩)
    (gNK : PySem.W.nsIn K mainGlobals "BINDER_KINDS" = some (some (.ref aNK)))
    (hNK : K.lookup aNK = some ⟨.type "tuple", odNK, .seq #[.str "let" tNK0, .str "each" tNK1, .str "want" tNK2] nNK, slNK⟩)
    (gLN : PySem.W.nsIn K mainGlobals "LONGEST_NAME" = some (some (.int 6 tLN)))
    (gMP : PySem.W.nsIn K mainGlobals "MOST_PARTS" = some (some (.int 400 tMP)))
    (gGD : PySem.W.nsIn K mainGlobals "GREATEST_DEPTH" = some (some (.int 60 tGD)))
    (gMO : PySem.W.nsIn K mainGlobals "MOST_OPERANDS" = some (some (.int 3 tMO)))
    (gMA : PySem.W.nsIn K mainGlobals "MOST_ARGUMENTS" = some (some (.int 5 tMA))) :
    ∃ fd : FuncData, (∀ (s : Shared) (v : Value), BindsTo s fd ⟨[v], []⟩ [("_law_script", v)]) ∧ ∀ base : Heap, K.In base → base.Ns mainGlobals mg → CaG.FnG l.prog w K mg base 35 fa fd ["_law_script"] (spLaw K) := by
  have e := hfa.symm.trans (PySem.W.mg_of X G a23)
  cases e
  have F_is_name := fun_mk (st := s_is_name) l0 c0 k0
  have b_is_name := F_is_name.binds (ps := ["value"]) fun _ _ _ _ _ _ us hl => match us, hl with | [_], _ => rfl
  have g_is_name := PySem.W.mg_of X G a0
  have F_is_parameter := fun_mk (st := s_is_parameter) l1 c1 k1
  have b_is_parameter := F_is_parameter.binds (ps := ["value"]) fun _ _ _ _ _ _ us hl => match us, hl with | [_], _ => rfl
  have g_is_parameter := PySem.W.mg_of X G a1
  have F_is_term := fun_mk (st := s_is_term) l2 c2 k2
  have b_is_term := F_is_term.binds (ps := ["value"]) fun _ _ _ _ _ _ us hl => match us, hl with | [_], _ => rfl
  have g_is_term := PySem.W.mg_of X G a2
  have F_is_program := fun_mk (st := s_is_program) l3 c3 k3
  have b_is_program := F_is_program.binds (ps := ["value"]) fun _ _ _ _ _ _ us hl => match us, hl with | [_], _ => rfl
  have g_is_program := PySem.W.mg_of X G a3
  have F_is_body := fun_mk (st := s_is_body) l4 c4 k4
  have b_is_body := F_is_body.binds (ps := ["value", "parameters"]) fun _ _ _ _ _ _ us hl => match us, hl with | [_, _], _ => rfl
  have g_is_body := PySem.W.mg_of X G a4
  have F_levelled_parts := fun_mk (st := s_levelled_parts) l5 c5 k5
  have b_levelled_parts := F_levelled_parts.binds (ps := ["value", "kinds", "parameters"]) fun _ _ _ _ _ _ us hl => match us, hl with | [_, _, _], _ => rfl
  have g_levelled_parts := PySem.W.mg_of X G a5
  have F_parts_within := fun_mk (st := s_parts_within) l6 c6 k6
  have b_parts_within := F_parts_within.binds (ps := ["part"]) fun _ _ _ _ _ _ us hl => match us, hl with | [_], _ => rfl
  have g_parts_within := PySem.W.mg_of X G a6
  have F_is_part := fun_mk (st := s_is_part) l7 c7 k7
  have b_is_part := F_is_part.binds (ps := ["value", "kinds", "parameters"]) fun _ _ _ _ _ _ us hl => match us, hl with | [_, _, _], _ => rfl
  have g_is_part := PySem.W.mg_of X G a7
  have F_has_row := fun_mk (st := s_has_row) l8 c8 k8
  have b_has_row := F_has_row.binds (ps := ["value", "most"]) fun _ _ _ _ _ _ us hl => match us, hl with | [_, _], _ => rfl
  have g_has_row := PySem.W.mg_of X G a8
  have F_is_name_within := fun_mk (st := s_is_name_within) l9 c9 k9
  have b_is_name_within := F_is_name_within.binds (ps := ["value", "parameters"]) fun _ _ _ _ _ _ us hl => match us, hl with | [_, _], _ => rfl
  have g_is_name_within := PySem.W.mg_of X G a9
  have F_is_allowed := fun_mk (st := s_is_allowed) l10 c10 k10
  have b_is_allowed := F_is_allowed.binds (ps := ["parameter", "parameters"]) fun _ _ _ _ _ _ us hl => match us, hl with | [_, _], _ => rfl
  have g_is_allowed := PySem.W.mg_of X G a10
  have F_l_cell := fun_mk (st := s_l_cell) l11 c11 k11
  have b_l_cell := F_l_cell.binds (ps := ["_law_script", "_law_k"]) fun _ _ _ _ _ _ us hl => match us, hl with | [_, _], _ => rfl
  have g_l_cell := PySem.W.mg_of X G a11
  have F_l_purse := fun_mk (st := s_l_purse) l12 c12 k12
  have b_l_purse := F_l_purse.binds (ps := ["_law_cell_here"]) fun _ _ _ _ _ _ us hl => match us, hl with | [_], _ => rfl
  have g_l_purse := PySem.W.mg_of X G a12
  have F_l_take := fun_mk (st := s_l_take) l13 c13 k13
  have b_l_take := F_l_take.binds (ps := ["_law_purse_here", "_law_many"]) fun _ _ _ _ _ _ us hl => match us, hl with | [_, _], _ => rfl
  have g_l_take := PySem.W.mg_of X G a13
  have F_l_pool := fun_mk (st := s_l_pool) l14 c14 k14
  have b_l_pool := F_l_pool.binds (ps := ["_law_purse_here"]) fun _ _ _ _ _ _ us hl => match us, hl with | [_], _ => rfl
  have g_l_pool := PySem.W.mg_of X G a14
  have F_l_parts := fun_mk (st := s_l_parts) l15 c15 k15
  have b_l_parts := F_l_parts.binds (ps := ["_law_purse_here", "_law_pool_here", "_law_room", "_law_deep", "_law_way", "_law_many"]) fun _ _ _ _ _ _ us hl => match us, hl with | [_, _, _, _, _, _], _ => rfl
  have g_l_parts := PySem.W.mg_of X G a15
  have F_l_piece := fun_mk (st := s_l_piece) l16 c16 k16
  have b_l_piece := F_l_piece.binds (ps := ["_law_purse_here", "_law_pool_here", "_law_room", "_law_deep", "_law_way"]) fun _ _ _ _ _ _ us hl => match us, hl with | [_, _, _, _, _], _ => rfl
  have g_l_piece := PySem.W.mg_of X G a16
  have F_l_is_name := fun_mk (st := s_l_is_name) l17 c17 k17
  have b_l_is_name := F_l_is_name.binds (ps := ["_law_value"]) fun _ _ _ _ _ _ us hl => match us, hl with | [_], _ => rfl
  have g_l_is_name := PySem.W.mg_of X G a17
  have F_l_is_binder := fun_mk (st := s_l_is_binder) l18 c18 k18
  have b_l_is_binder := F_l_is_binder.binds (ps := ["_law_value", "_law_form", "_law_parameters"]) fun _ _ _ _ _ _ us hl => match us, hl with | [_, _, _], _ => rfl
  have g_l_is_binder := PySem.W.mg_of X G a18
  have F_l_good := fun_mk (st := s_l_good) l19 c19 k19
  have b_l_good := F_l_good.binds (ps := ["_law_value", "_law_parameters", "_law_can_call"]) fun _ _ _ _ _ _ us hl => match us, hl with | [_, _, _], _ => rfl
  have g_l_good := PySem.W.mg_of X G a19
  have F_l_odd := fun_mk (st := s_l_odd) l20 c20 k20
  have b_l_odd := F_l_odd.binds (ps := ["_law_purse_here", "_law_value"]) fun _ _ _ _ _ _ us hl => match us, hl with | [_, _], _ => rfl
  have g_l_odd := PySem.W.mg_of X G a20
  have F_l_spoilt := fun_mk (st := s_l_spoilt) l21 c21 k21
  have b_l_spoilt := F_l_spoilt.binds (ps := ["_law_purse_here", "_law_value", "_law_deep"]) fun _ _ _ _ _ _ us hl => match us, hl with | [_, _, _], _ => rfl
  have g_l_spoilt := PySem.W.mg_of X G a21
  have F_l_right := fun_mk (st := s_l_right) l22 c22 k22
  have b_l_right := F_l_right.binds (ps := ["_law_purse_here"]) fun _ _ _ _ _ _ us hl => match us, hl with | [_], _ => rfl
  have g_l_right := PySem.W.mg_of X G a22
  have F_law := fun_mk (st := s_law) l23 c23 k23
  have n_len := PySem.W.mg_none_of X G z0
  have n_max := PySem.W.mg_none_of X G z1
  have n_min := PySem.W.mg_none_of X G z2
  have n_range := PySem.W.mg_none_of X G z3
  have n_isinstance := PySem.W.mg_none_of X G z4
  have n_int := PySem.W.mg_none_of X G z5
  have n_str := PySem.W.mg_none_of X G z6
  have n_list := PySem.W.mg_none_of X G z7
  have n_tuple := PySem.W.mg_none_of X G z8
  have n_repr := PySem.W.mg_none_of X G z9
  have T : TP K mg := { n_len := n_len, n_max := n_max, n_min := n_min, n_range := n_range, n_isinstance := n_isinstance, n_int := n_int, n_str := n_str, n_list := n_list, n_tuple := n_tuple, n_repr := n_repr, aKW := aKW, gl_KEYWORDS := PySem.W.mg_of X G gKW, sKW := fun H => .inr ⟨_, _, _, hKW, rfl, rfl, (by show 5 ≤ sizeLine; decide), (.cons ⟨_, rfl⟩ (.cons ⟨_, rfl⟩ (.cons ⟨_, rfl⟩ (.cons ⟨_, rfl⟩ (.cons ⟨_, rfl⟩ .nil)))))⟩, aTK := aTK, gl_TERM_KINDS := PySem.W.mg_of X G gTK, sTK := fun H => .inr ⟨_, _, _, hTK, rfl, rfl, (by show 4 ≤ sizeLine; decide), (.cons ⟨_, rfl⟩ (.cons ⟨_, rfl⟩ (.cons ⟨_, rfl⟩ (.cons ⟨_, rfl⟩ .nil))))⟩, aPK := aPK, gl_PROGRAM_KINDS := PySem.W.mg_of X G gPK, sPK := fun H => .inr ⟨_, _, _, hPK, rfl, rfl, (by show 5 ≤ sizeLine; decide), (.cons ⟨_, rfl⟩ (.cons ⟨_, rfl⟩ (.cons ⟨_, rfl⟩ (.cons ⟨_, rfl⟩ (.cons ⟨_, rfl⟩ .nil)))))⟩, aBK := aBK, gl_BODY_KINDS := PySem.W.mg_of X G gBK, sBK := fun H => .inr ⟨_, _, _, hBK, rfl, rfl, (by show 7 ≤ sizeLine; decide), (.cons ⟨_, rfl⟩ (.cons ⟨_, rfl⟩ (.cons ⟨_, rfl⟩ (.cons ⟨_, rfl⟩ (.cons ⟨_, rfl⟩ (.cons ⟨_, rfl⟩ (.cons ⟨_, rfl⟩ .nil)))))))⟩, aNK := aNK, gl_BINDER_KINDS := PySem.W.mg_of X G gNK, sNK := fun H => .inr ⟨_, _, _, hNK, rfl, rfl, (by show 3 ≤ sizeLine; decide), (.cons ⟨_, rfl⟩ (.cons ⟨_, rfl⟩ (.cons ⟨_, rfl⟩ .nil)))⟩, tLN := tLN, gl_LONGEST_NAME := PySem.W.mg_of X G gLN, tMP := tMP, gl_MOST_PARTS := PySem.W.mg_of X G gMP, tGD := tGD, gl_GREATEST_DEPTH := PySem.W.mg_of X G gGD, tMO := tMO, gl_MOST_OPERANDS := PySem.W.mg_of X G gMO, tMA := tMA, gl_MOST_ARGUMENTS := PySem.W.mg_of X G gMA, d_is_name := ⟨_, _, F_is_name, b_is_name, g_is_name⟩, d_is_parameter := ⟨_, _, F_is_parameter, b_is_parameter, g_is_parameter⟩, d_is_term := ⟨_, _, F_is_term, b_is_term, g_is_term⟩, d_is_program := ⟨_, _, F_is_program, b_is_program, g_is_program⟩, d_is_body := ⟨_, _, F_is_body, b_is_body, g_is_body⟩, d_levelled_parts := ⟨_, _, F_levelled_parts, b_levelled_parts, g_levelled_parts⟩, d_parts_within := ⟨_, _, F_parts_within, b_parts_within, g_parts_within⟩, d_is_part := ⟨_, _, F_is_part, b_is_part, g_is_part⟩, d_has_row := ⟨_, _, F_has_row, b_has_row, g_has_row⟩, d_is_name_within := ⟨_, _, F_is_name_within, b_is_name_within, g_is_name_within⟩, d_is_allowed := ⟨_, _, F_is_allowed, b_is_allowed, g_is_allowed⟩, d_l_cell := ⟨_, _, F_l_cell, b_l_cell, g_l_cell⟩, d_l_purse := ⟨_, _, F_l_purse, b_l_purse, g_l_purse⟩, d_l_take := ⟨_, _, F_l_take, b_l_take, g_l_take⟩, d_l_pool := ⟨_, _, F_l_pool, b_l_pool, g_l_pool⟩, d_l_parts := ⟨_, _, F_l_parts, b_l_parts, g_l_parts⟩, d_l_piece := ⟨_, _, F_l_piece, b_l_piece, g_l_piece⟩, d_l_is_name := ⟨_, _, F_l_is_name, b_l_is_name, g_l_is_name⟩, d_l_is_binder := ⟨_, _, F_l_is_binder, b_l_is_binder, g_l_is_binder⟩, d_l_good := ⟨_, _, F_l_good, b_l_good, g_l_good⟩, d_l_odd := ⟨_, _, F_l_odd, b_l_odd, g_l_odd⟩, d_l_spoilt := ⟨_, _, F_l_spoilt, b_l_spoilt, g_l_spoilt⟩, d_l_right := ⟨_, _, F_l_right, b_l_right, g_l_right⟩ }
  exact ⟨PySem.W.fnOf "law" "law" (defArgs s_law) (defBody s_law) (defScope s_law) .none kV23 dc23 pm23 an23 cd23 ct23, fun s v => .of_eq rfl, fun base _ _ => ok_law F_law T⟩
end K11
open PySem PySem.W PyProof.Rows
set_option maxRecDepth 100000 in
set_option maxHeartbeats 0 in
theorem PySem.Challenge.cw_caughtnames_k11_terms_programs_bodies_holds : PySem.Challenge.rw_caughtnames_k11_terms_programs_bodies.Holds := by
  w_on; o_law; k_head; (case hw => w_witness2)
  k_fill
  refine CaG.walk_G (l := PySem.Challenge.rw_caughtnames_k11_terms_programs_bodies) (n := 63) (k := 35) (x := "_law_script") (sp := CaL.spLaw) rfl (by decide) rfl ⟨rfl, by decide, by decide⟩ (fun w h Y => PySem.W.kIn_of Y) ?F (fun _ _ a ns hl hS => ⟨a, ns, rfl, hS, hl, fun _ => rfl⟩)
  case F =>
    intro w mg fa h KX G hmg
    refine' K11.all_mk KX G hmg ?a0 ?l0 ?c0 ?k0 ?a1 ?l1 ?c1 ?k1 ?a2 ?l2 ?c2 ?k2 ?a3 ?l3 ?c3 ?k3 ?a4 ?l4 ?c4 ?k4 ?a5 ?l5 ?c5 ?k5 ?a6 ?l6 ?c6 ?k6 ?a7 ?l7 ?c7 ?k7 ?a8 ?l8 ?c8 ?k8 ?a9 ?l9 ?c9 ?k9 ?a10 ?l10 ?c10 ?k10 ?a11 ?l11 ?c11 ?k11 ?a12 ?l12 ?c12 ?k12 ?a13 ?l13 ?c13 ?k13 ?a14 ?l14 ?c14 ?k14 ?a15 ?l15 ?c15 ?k15 ?a16 ?l16 ?c16 ?k16 ?a17 ?l17 ?c17 ?k17 ?a18 ?l18 ?c18 ?k18 ?a19 ?l19 ?c19 ?k19 ?a20 ?l20 ?c20 ?k20 ?a21 ?l21 ?c21 ?k21 ?a22 ?l22 ?c22 ?k22 ?a23 ?l23 ?c23 ?k23 ?z0 ?z1 ?z2 ?z3 ?z4 ?z5 ?z6 ?z7 ?z8 ?z9 ?gKW ?hKW ?gTK ?hTK ?gPK ?hPK ?gBK ?hBK ?gNK ?hNK ?gLN ?gMP ?gGD ?gMO ?gMA
    (case a0 => k_is)
    (case l0 => k_is)
    (case c0 => k_is)
    (case k0 => k_is)
    (case a1 => k_is)
    (case l1 => k_is)
    (case c1 => k_is)
    (case k1 => k_is)
    (case a2 => k_is)
    (case l2 => k_is)
    (case c2 => k_is)
    (case k2 => k_is)
    (case a3 => k_is)
    (case l3 => k_is)
    (case c3 => k_is)
    (case k3 => k_is)
    (case a4 => k_is)
    (case l4 => k_is)
    (case c4 => k_is)
    (case k4 => k_is)
    (case a5 => k_is)
    (case l5 => k_is)
    (case c5 => k_is)
    (case k5 => k_is)
    (case a6 => k_is)
    (case l6 => k_is)
    (case c6 => k_is)
    (case k6 => k_is)
    (case a7 => k_is)
    (case l7 => k_is)
    (case c7 => k_is)
    (case k7 => k_is)
    (case a8 => k_is)
    (case l8 => k_is)
    (case c8 => k_is)
    (case k8 => k_is)
    (case a9 => k_is)
    (case l9 => k_is)
    (case c9 => k_is)
    (case k9 => k_is)
    (case a10 => k_is)
    (case l10 => k_is)
    (case c10 => k_is)
    (case k10 => k_is)
    (case a11 => k_is)
    (case l11 => k_is)
    (case c11 => k_is)
    (case k11 => k_is)
    (case a12 => k_is)
    (case l12 => k_is)
    (case c12 => k_is)
    (case k12 => k_is)
    (case a13 => k_is)
    (case l13 => k_is)
    (case c13 => k_is)
    (case k13 => k_is)
    (case a14 => k_is)
    (case l14 => k_is)
    (case c14 => k_is)
    (case k14 => k_is)
    (case a15 => k_is)
    (case l15 => k_is)
    (case c15 => k_is)
    (case k15 => k_is)
    (case a16 => k_is)
    (case l16 => k_is)
    (case c16 => k_is)
    (case k16 => k_is)
    (case a17 => k_is)
    (case l17 => k_is)
    (case c17 => k_is)
    (case k17 => k_is)
    (case a18 => k_is)
    (case l18 => k_is)
    (case c18 => k_is)
    (case k18 => k_is)
    (case a19 => k_is)
    (case l19 => k_is)
    (case c19 => k_is)
    (case k19 => k_is)
    (case a20 => k_is)
    (case l20 => k_is)
    (case c20 => k_is)
    (case k20 => k_is)
    (case a21 => k_is)
    (case l21 => k_is)
    (case c21 => k_is)
    (case k21 => k_is)
    (case a22 => k_is)
    (case l22 => k_is)
    (case c22 => k_is)
    (case k22 => k_is)
    (case a23 => k_is)
    (case l23 => k_is)
    (case c23 => k_is)
    (case k23 => k_is)
    (case z0 => k_is)
    (case z1 => k_is)
    (case z2 => k_is)
    (case z3 => k_is)
    (case z4 => k_is)
    (case z5 => k_is)
    (case z6 => k_is)
    (case z7 => k_is)
    (case z8 => k_is)
    (case z9 => k_is)
    (case gKW => k_is)
    (case hKW => k_is)
    (case gTK => k_is)
    (case hTK => k_is)
    (case gPK => k_is)
    (case hPK => k_is)
    (case gBK => k_is)
    (case hBK => k_is)
    (case gNK => k_is)
    (case hNK => k_is)
    (case gLN => k_is)
    (case gMP => k_is)
    (case gGD => k_is)
    (case gMO => k_is)
    (case gMA => k_is)
