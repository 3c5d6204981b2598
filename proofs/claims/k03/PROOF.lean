import PyProof.Rows.All
import Wide.All
import OpenK.AllK
import Wide.FinOn
import HandS.ForMost
import HandS.Exc
import HandS.ExcOwn
import HandS.ExcValue
import HandS.ExcInit
import HandS.ExcIs
import HandS.IsInst
import HandS.StrMore
import HandS.Wide
import HandS.Flow
import HandS.Deep
import HandS.Walk
import KE.KExcIs
import PyProof.ReprRoads
import PyProof.RowDictHeap
import HandS.Replace
import HandS.MakeKwOnly
import KE.KExcInit
import PyProof.ExcBaseAll.LookupError
import PyProof.RulesRaise
import PyProof.FactsTree
import PySem.Challenge.RW_caughtnames_k03_errors_and_their_fields
import HandS.Small
set_option Elab.async false
set_option linter.all false
set_option maxRecDepth 100000
/-! An exception that is made is held as a value (by the library's rule of its making), and asked by isinstance. -/
namespace CaV
open PySem PySem.Spec L2
/-- at a: an exception object of the class cls, its own dict at d -/
def exq (cls : Value) (d : Option Addr) (a : Addr) : HO := .ext fun h => ∃ (oe : Obj) (vs : Array Value), h.get? a = some oe ∧ oe.cls = cls ∧ oe.dict = d ∧ oe.data = .fields vs
theorem exq_new {P : Program} {w : World} {H : Hp} {h : Heap} {a : Addr} {cls : Value} {d : Option Addr} {oe : Obj} {vs : Array Value} (e : h.get? a = some oe) (z : Zc cls d oe) (hd : oe.data = .fields vs) : ObjOk P w H h a (exq cls d a) :=
  ⟨⟨oe, vs, e, z.1, z.2, hd⟩, ⟨oe, e⟩, fun _ _ ⟨o2, v2, q1, q2⟩ kept => ⟨o2, v2, kept o2 q1, q2⟩⟩
section
variable {X : Cx}
/-- what makes an exception for a raise makes it as a value, too -/
theorem pe_of_mk {e : Expr} {t : St → Hp → XK → Prop} (mk : PMk X e t) : PE X e (fun σ H Q => t σ H fun cls d H1 => ∀ a, H1 a = none → Q (.ref a) (upd H1 a (exq cls d a))) := by
  constructor
  intro pins s σ H Q inv want
  refine thn (mk pins s σ H _ inv want) fun u s2 made => ?_
  obtain ⟨a, oe, vs, sI, H1, cls, d, rfl, J, old, fr, at_, zc, dat, _, na, os, bare, _, told⟩ := made
  refine ⟨.ref a, upd H1 a (exq cls d a), ?_, rfl, told a na⟩
  exact J.call' (ch := []) os (Un.laidN old fr na) (J.hok.laidN old na (exq_new at_ zc dat)) bare fun b hb => absurd hb List.not_mem_nil
/-- an exception of the class C stands at a, with its dict -/
def ExAt (H : Hp) (C a : Addr) : Prop := ∃ (d : Addr) (fs : List (Str × V)), H a = some (exq (.ref C) (some d) a) ∧ H d = some (.xd fs)
/-- a value's type, exceptions too -/
def TyE (K : PySem.W.Frag) (H : Hp) (x : V) (t : Value) : Prop := TyX K H x t ∨ ∃ C a, x = .ref a ∧ t = .ref C ∧ ExcC K C ∧ ExAt H C a
def rIsV (K : PySem.W.Frag) : List V → Hp → VK → Prop := fun xs H Q => ∃ (x c : V) (t u : Value) (b : Bool), xs = [x, c] ∧ ClsV c u ∧ TyE K H x t ∧ PySem.W.kitOne K t u = some b ∧ Q (.bl b) H
theorem call_isV : CallR X (.builtin "isinstance") (rIsV X.K) := by
  intro pins s σ H vs ws Q inv rel told
  obtain ⟨x, c, t, u, b, rfl, cv, ty, ans, q⟩ := told
  rcases ty with ty | ⟨C, a, rfl, rfl, TC, d, fs, ha, hd⟩
  · exact call_isi pins s σ H [x, c] ws Q inv rel ⟨x, c, t, u, b, rfl, cv, ty, ans, q⟩
  · obtain ⟨w1, w2, rfl, rx, rc⟩ := vals2 rel
    obtain rfl := cv.eq rc
    cases rx
    have tr : ∃ (oe : Obj) (vs : Array Value), s.heap.get? a = some oe ∧ oe.cls = .ref C ∧ oe.dict = some d ∧ oe.data = .fields vs := (show ObjOk X.prog X.w H s.heap a (exq (.ref C) (some d) a) from inv.hok a _ ha).1
    obtain ⟨⟨oc, od, dat, sl⟩, vs, ho, rfl, rfl, rfl⟩ := tr
    obtain ⟨mA, ⟨oD, _, _, hoD, _⟩, _⟩ := (show ObjOk X.prog X.w H s.heap d (.xd fs) from inv.hok d _ hd)
    have cls : (PySem.W.clsIn X.K C).isSome = true := by
      obtain ⟨cd, hc, _⟩ := PySem.W.any_some TC.hd
      rw [hc]
      rfl
    exact PySem.W.kia_one (PySem.W.kitx_exc (od := some oD) cls TC.hg TC.hk TC.hs TC.ha TC.hn TC.ht TC.hm) inv.kIn ⟨ho, rfl, rfl, hoD⟩ ans (fun z => nomatch z) fun tk => ⟨.bl b, H, inv.kept (t' := tk) fun _ _ z => z, rfl, q⟩
end
/-- isinstance of such an exception by a built-in class -/
theorem kit_not {K : PySem.W.Frag} {C : Addr} {T : String} {b : Bool} (hm : PySem.W.kitMeta T = true) (h : PySem.W.subIn K (.ref C) (.type T) = some b) : PySem.W.kitOne K (.ref C) (.type T) = some b := by
  have e1 : ((Value.ref C : Value) == Value.type T) = false := rfl
  have e2 : PySem.W.kitCls K (.ref C) (.type T) = PySem.W.subIn K (.ref C) (.type T) := by
    show (if PySem.W.kitMeta T = true then PySem.W.subIn K (.ref C) (.type T) else none) = PySem.W.subIn K (.ref C) (.type T)
    exact if_pos hm
  unfold PySem.W.kitOne
  rw [e1, e2]
  exact h
theorem kit_not_str {K : PySem.W.Frag} {C : Addr} (h : PySem.W.subIn K (.ref C) (.type "str") = some false) : PySem.W.kitOne K (.ref C) (.type "str") = some false := kit_not (by decide +kernel) h
end CaV
set_option Elab.async false
set_option linter.all false
set_option maxRecDepth 100000
/-! A purse of draws: a list of three numbers that a def changes; nothing else changes, new things may come. -/
namespace CaV
open PySem PySem.Spec PyProof.Rows L2
/-- the purse at b: what is left of a great number, a rest, a count of at most n -/
def Bx (H : Hp) (b : Addr) (n : Nat) : Prop := ∃ m r c : Int, H b = some (.lst [.int m, .int r, .int c]) ∧ 0 ≤ m ∧ 0 ≤ r ∧ r < 2147483629 ∧ 0 ≤ c ∧ c ≤ n
/-- all that stood in H stands in H', but what is at b -/
def Kp (b : Addr) (H H' : Hp) : Prop := ∀ a o, H a = some o → a ≠ b → H' a = some o
theorem Kp.refl (b : Addr) (H : Hp) : Kp b H H := fun _ _ h _ => h
theorem Kp.trans {b : Addr} {H H1 H2 : Hp} (x : Kp b H H1) (y : Kp b H1 H2) : Kp b H H2 := fun a o h n => y a o (x a o h n) n
theorem Kp.new {b p : Addr} {H : Hp} {o : HO} (h : H p = none) : Kp b H (upd H p o) := fun a u e _ => by
  rw [upd_ne (ne_of_none e h)]
  exact e
theorem Kp.at {b : Addr} {H : Hp} {o : HO} : Kp b H (upd H b o) := fun a u e n => by
  rw [upd_ne n]
  exact e
theorem Kp.of_same {b : Addr} {H H' : Hp} (s : Same H H') : Kp b H H' := fun a o e _ => s a o e
theorem Bx.mono {H : Hp} {b : Addr} {n k : Nat} (h : Bx H b n) (e : n ≤ k) : Bx H b k := by
  obtain ⟨m, r, c, h1, h2, h3, h4, h5, h6⟩ := h
  exact ⟨m, r, c, h1, h2, h3, h4, h5, by omega⟩
theorem Bx.new {H : Hp} {b p : Addr} {n : Nat} {o : HO} (h : Bx H b n) (hp : H p = none) : Bx (upd H p o) b n := by
  obtain ⟨m, r, c, h1, h⟩ := h
  exact ⟨m, r, c, by rw [upd_ne (ne_of_none h1 hp)]; exact h1, h⟩
theorem Bx.there {H : Hp} {b : Addr} {n : Nat} (h : Bx H b n) : ∃ o, H b = some o := by
  obtain ⟨m, r, c, h1, _⟩ := h
  exact ⟨_, h1⟩
theorem Bx.ne {H : Hp} {b p : Addr} {n : Nat} (h : Bx H b n) (hp : H p = none) : p ≠ b := fun z => by
  obtain ⟨o, e⟩ := h.there
  rw [z, e] at hp
  cases hp
/-- what was free later was free before -/
theorem Kp.free {b p : Addr} {H H' : Hp} {n : Nat} (k : Kp b H H') (x : Bx H' b n) (h : H' p = none) : H p = none := by
  cases e : H p with
  | none => rfl
  | some o =>
    rw [k p o e (x.ne h)] at h
    cases h
theorem Kp.seqL {b a : Addr} {K : PySem.W.Frag} {H H' : Hp} {xs : List V} (k : Kp b H H') (n : a ≠ b) (h : SqL K H a xs) : SqL K H' a xs := by
  rcases h with (h | ⟨o, h⟩) | h
  · exact .inl (.inl (k _ _ h n))
  · exact .inl (.inr ⟨o, k _ _ h n⟩)
  · exact .inr h
/-- a change that leaves all of H but the purse, which is new since H0: H0 stands as it was -/
theorem Kp.same {b : Addr} {H0 H H' : Hp} (s : Same H0 H) (k : Kp b H H') (n : H0 b = none) : Same H0 H' := fun a o e => k a o (s a o e) (ne_of_none e n)
theorem emod_bd {x k : Int} (h : 0 < k) : 0 ≤ x % k ∧ x % k < k := ⟨Int.emod_nonneg x (by omega), Int.emod_lt_of_pos x h⟩
theorem pow_bd {x : Int} (h0 : 0 ≤ x) (h : x < 1000000000000000) : 0 ≤ (5 : Int) ∧ (5 : Int) ≤ 1000000 ∧ x.natAbs < 2 ^ 64 := ⟨by decide, by decide, by omega⟩
theorem pow_bd3 {x : Int} (h0 : 0 ≤ x) (h : x < 1000000000000000) : 0 ≤ (3 : Int) ∧ (3 : Int) ≤ 1000000 ∧ x.natAbs < 2 ^ 64 := ⟨by decide, by decide, by omega⟩
/-- the promise of a draw -/
def spTake : Sp := fun vs H Q _ => ∃ (b : Addr) (many : Int) (n : Nat), vs = [.ref b, .int many] ∧ Bx H b n ∧ n < 1000000 ∧ 0 < many ∧ many < 1073741824 ∧
  ∀ (d : Int) (H' : Hp), 0 ≤ d → d < many → Bx H' b (n + 1) → Kp b H H' → Q (.int d) H'
/-- the promise of a new purse -/
def spBox : Sp := fun vs H Q _ => ∃ (x : Int), vs = [.int x] ∧ ∀ (b : Addr) (H' : Hp), H b = none → Same H H' → Bx H' b 0 → Q (.ref b) H'
/-- the promise of a cell -/
def spCell (K : PySem.W.Frag) : Sp := fun vs H Q _ => ∃ (a : Addr) (ns : List Int) (j : Int), vs = [.ref a, .int j] ∧ SqL K H a (ns.map V.int) ∧ 0 ≤ j ∧ ∀ x : Int, Q (.int x) H
end CaV
set_option Elab.async false
set_option linter.all false
set_option maxRecDepth 100000
/-! Promises of defs that are called where no repr is under way (so that repr of a list is the list's own text). -/
namespace CaG
open PySem PySem.Spec PyProof.Rows L2
/-- the promise of a def, wherever no repr is under way -/
structure FnG (P : Program) (w : World) (K : PySem.W.Frag) (mg : Str → Option Value) (base : Heap) (k : Nat) (f : Addr) (fd : FuncData) (ps : List Str) (sp : Sp) : Prop where
  len : ∀ vs H Q E, sp vs H Q E → vs.length = ps.length
  run : ∀ (A : Around) (outer : List Env) (s : Shared) (H : Hp) (args : Args) (us : List Value) (vs : List V) (Q : VK) (E : XK), A.guards = some [] → Room k A → Env0 P w K mg base A outer s H →
    BindsTo s fd args (ps.zip us) → Vals vs us → sp vs H Q E → codeAny (model P w) A (.call (.ref f) args) (CR CX0 outer P w H s Q E) s
section
variable {P : Program} {w : World} {K : PySem.W.Frag} {mg : Str → Option Value} {base : Heap}
/-- a def by its body, which may use that no repr is under way -/
theorem FnG.of {x qual : Str} {st : Stmt} {f : Addr} {fd : FuncData} {N ps : List Str} {k : Nat} {sp : Sp} (F : Fun K x qual st f fd) (S : FnScope N ps (defScope st)) (len : ∀ vs H Q E, sp vs H Q E → vs.length = ps.length)
    (body : ∀ (cdv : Value) (A : Around) (outer : List Env) (s : Shared) (H : Hp) (vs : List V) (Q : VK) (E : XK), (A.deeper (envOfC qual (defScope st) s.heap.objs.size f cdv)).guards = some [] → Room k (A.deeper (envOfC qual (defScope st) s.heap.objs.size f cdv)) → sp vs H Q E →
      ∃ t, PSs (cxOf CX0 P w K mg base N qual (defScope st) f cdv A outer s H E).nox (defBody st) t ∧ t { nx := fun _ H' => Q .non H', rt := Q } (start N vs) H) : FnG P w K mg base (k + 1) f fd ps sp := by
  obtain ⟨oc, od, kV, doc, pm, an, cdv, ct, osl, rfl, found, code⟩ := F.ex
  constructor
  · exact len
  · intro A outer s H args us vs Q E quiet room entry binds vals want
    obtain ⟨t, ok, done⟩ := body cdv A outer s H vs Q E quiet (room.deeper _) want
    have inK : K.In s.heap := entry.mod.kin.keeps fun b o e => (entry.bs b o e).1
    have params : ∀ y ∈ ps.zip us, (defScope st).names.lookup y.1 = some .local ∨ ((defScope st).names.lookup y.1 = some .cell ∧ ((cellsFrom (s.heap.objs.size + 1) (defScope st).names []).lookup y.1).isSome = true) := by
      rintro ⟨y, v⟩ hy
      cases S.par y (List.of_mem_zip hy).1 with
      | inl z => exact .inl z
      | inr z => exact .inr ⟨z, PySem.W.cellsFrom_some _ _ _ (.inl z)⟩
    apply codeAny_call_function room.depth (inK _ _ found) rfl S.co S.gen rfl (PySem.W.codeRec_of inK code)
    apply binds
    apply wpAny_newFunctionEnv_cells S.kind params
    rintro env rfl s1 frame
    refine ⟨(entry.mod.nolimit.keeps fun b o e => (entry.bs b o e).1).keeps frame.toInCall.keep, codeAny_func ?_⟩
    have begin_ := inv_start (CX := CX0) (E := E) S room.hd entry (len _ _ _ _ want) vals frame
    apply wpAny_mono (ok.nox.run [] s1 (start N vs) H _ begin_ done)
    · intro fl s2 out
      cases fl with
      | ret u =>
        obtain ⟨v, σ2, H2, J, rv, q⟩ := out
        exact ⟨v, H2, J.os, J.bare, J.base, J.hok, rv, q⟩
      | next =>
        obtain ⟨σ2, H2, J, q⟩ := out
        exact ⟨V.non, H2, J.os, J.bare, J.base, J.hok, rfl, q⟩
      | brk =>
        obtain ⟨_, _, _, q⟩ := out
        exact q.elim
      | cont =>
        obtain ⟨_, _, _, q⟩ := out
        exact q.elim
    · intro e s2 out
      exact out
theorem FnG.ofOk {k : Nat} {f : Addr} {fd : FuncData} {ps : List Str} {sp : Sp} (F : FnOk P w K mg base CX0 k f fd ps sp) : FnG P w K mg base k f fd ps sp :=
  ⟨F.len, fun A outer s H args us vs Q E _ r e b v q => F.run A outer s H args us vs Q E r e b v q⟩
end
section
variable {X : Cx} {k : Nat} {f : Addr} {fd : FuncData} {ps : List Str} {sp : Sp} {x : Str} {e : Expr} {es : List Expr} {t : TA} {p pos : Pos}
/-- such a def called from such a body -/
theorem pe_callG (F : FnG X.prog X.w X.K X.mg X.base k f fd ps sp) (quiet : X.A.guards = some []) (hr : Room k X.A) (hg : Gl X x) (hm : X.mg x = some (.ref f)) (hk : PySem.W.keepIn X.K (.ref f) = true) (hb : Binds X.K fd ps [])
    (ha : PA X (e :: es) t) (hdb : (x == ("__debug__" : Str)) = false := by decide) (hs : starEach (e :: es) X.env = (false, eval e X.env) :: starEach es X.env := by rfl) (hp : (backTo pos (starEach es X.env)).any (·.1) = false := by rfl) :
    PE X (.Call (.Name x p) (e :: es) [] pos) (tCall sp [] E0 t) := by
  constructor
  intro pins s σ H Q inv want
  apply wpAny_Call_Name_kw (ld_glob inv hg hm _ hdb)
  apply PySem.W.callWith_K (h₀ := X.base) inv.ok.mod.kin hk _ hs hp
  refine thn (ha.run pos pins s σ H _ inv want) fun us s1 got => ?_
  obtain ⟨vs, H1, inv1, rel, due⟩ := got
  rw [List.append_nil] at due
  refine ⟨inv1.kIn, wpAny_call (codeAny_mono (F.run X.A X.stack s1 H1 ⟨us, []⟩ us vs Q E0 quiet hr inv1.env0 ?_ rel due) fun r s2 out => ?_)⟩
  · have l : (us ++ []).length = ps.length := by
      rw [List.append_nil, ← rel.length]
      exact F.len _ _ _ _ due
    have b := hb s1 us inv1.kIn l
    rwa [List.append_nil] at b
  · match r, out with
    | .ok (.ret u), o => exact inv1.after o
/-- repr of data: None, truths, numbers, texts, lists and tuples of such -/
def rRepr (K : PySem.W.Frag) : List V → Hp → VK → Prop := fun xs H Q => ∃ (x : V) (d : PyData), xs = [x] ∧ Dp K H x d ∧ d.showable = true ∧ d.hasDict = false ∧ d.depth ≤ 60 ∧ d.shown.length ≤ sizeLine ∧ Q (.str d.shown) H
theorem call_reprD {X : Cx} (quiet : X.A.guards = some []) (hu : X.A.units + 64 < cLine) : CallR X (.builtin "repr") (rRepr X.K) := by
  intro pins s σ H xs us Q inv rel told
  obtain ⟨x, d, rfl, dp, hs, hd, depth, size, q⟩ := told
  obtain ⟨u, rfl, rx⟩ := vals1 rel
  have far : ∀ a : Addr, u = .ref a → wpAny (model X.prog X.w) X.A (call (.builtin "repr") [u]) (EP X pins σ Q) X.xe s := by
    rintro a rfl
    obtain ⟨as, rd⟩ := Dp.reads inv d x (.ref a) dp rx
    exact repr_of_reads' rd hs (fun z => by rw [hd] at z; cases z) quiet (by omega) (fun _ _ z => z) (fun h' u tk kept => ⟨.str d.shown, H, inv.kept (t' := tk) kept, ⟨_, rfl⟩, q⟩) size
  cases dp with
  | non =>
    cases rx
    exact PySem.P.repr_of_none ⟨.str PyData.none.shown, H, inv.tok _, ⟨_, rfl⟩, q⟩
  | bl b =>
    cases rx
    exact PySem.P.repr_of_bool ⟨.str (PyData.bool b).shown, H, inv.tok _, ⟨_, by cases b <;> rfl⟩, q⟩
  | int i =>
    obtain ⟨t, rfl⟩ := rx
    exact PySem.P.repr_of_int (of_decide_eq_true hs) ⟨.str (PyData.int i).shown, H, inv.tok _, ⟨_, rfl⟩, q⟩
  | str z =>
    obtain ⟨t, rfl⟩ := rx
    exact PySem.P.repr_of_str ⟨.str (PyData.str z).shown, H, inv.tok _, ⟨_, rfl⟩, q⟩ size
  | lst h1 h2 => exact far _ rx
  | tup h1 h2 => exact far _ rx
end
end CaG
set_option Elab.async false
set_option linter.all false
set_option maxRecDepth 100000
namespace CaG
open PySem PySem.Spec PyProof.Rows L2
section
variable {P : Program} {w : World} {K : PySem.W.Frag} {mg mb : Str → Option Value} {k : Nat} {fa a : Addr} {fd : FuncData} {x : Str} {sp : Sp} {s : Shared} {vs : List Value} {ns : List Int}
/-- the law's call from its promise, the script tracked as it may be (H) -/
theorem law_at {H : Hp} (hH : ∀ b, H b = none ∨ (b = a ∧ K.lookup a = none ∧ H b = some (.frz { cls := .type "list", data := .seq vs.toArray } (.lst (ns.map V.int))))) (inK : K.In s.heap) (names : s.heap.Ns mainGlobals mg) (builtins : s.heap.Ns builtinsNs mb) (boot : ∀ x : Str, x ≠ "__name__" → mb x = bootBuiltins x)
    (free : s.heap.NoLimit) (gens : s.gens = #[]) (script : s.heap.get? a = some { cls := .type "list", data := .seq vs.toArray }) (isInts : IntsAre vs ns) (short : ns.length ≤ sizeLine) (room : Room k callerA) (is : SqL K H a (ns.map V.int))
    (F : ∀ base : Heap, K.In base → base.Ns mainGlobals mg → FnG P w K mg base k fa fd [x] sp) (binds : ∀ (s : Shared) (u : Value), BindsTo s fd ⟨[u], []⟩ [(x, u)])
    (told : sp [.ref a] H (fun v _ => v = .bl true) fun _ _ _ => False) :
    codeAny (model P w) callerA (.call (.ref fa) ⟨[.ref a], []⟩) (fun r s' => r = .ok (.ret (.bool true)) ∧ OldK s.heap s'.heap ∧ s'.os = s.os ∧ AllBare s'.gens) s := by
  have rel := vals_ints isInts
  -- an object that is no list of the script's is not tracked
  have out : ∀ {b : Addr} {o : Obj}, s.heap.get? b = some o → (b = a → False) ∨ K.lookup b = some o → H b = none := fun {b o} e why => by
    cases hH b with
    | inl z => exact z
    | inr z =>
      obtain ⟨z1, z2, _⟩ := z
      cases why with
      | inl n => exact (n z1).elim
      | inr l =>
        rw [z1, z2] at l
        cases l
  have notA : ∀ {b : Addr} {o : Obj} {es : Array DictEntry} {ep : Nat}, s.heap.get? b = some o → o.data = .dict es ep → b = a → False := fun {b o es ep} e d z => by
    rw [z, script] at e
    cases e
    cases d
  have nsH : ∀ {b : Addr} {m : Str → Option Value}, s.heap.Ns b m → (hidT s.heap H).Ns b m := fun {b m} h => by
    obtain ⟨o, es, ep, e, d, r⟩ := h
    exact ⟨o, es, ep, hidT_get e (out e (.inl (notA e d))), d, r⟩
  have inB : K.In (hidT s.heap H) := fun b o l => hidT_get (inK b o l) (out (inK b o l) (.inr l))
  have hok : HOk P w H s.heap := fun b u e => by
    cases hH b with
    | inl z =>
      rw [z] at e
      cases e
    | inr z =>
      obtain ⟨rfl, _, z3⟩ := z
      rw [z3] at e
      cases e
      exact ⟨script, by rw [List.length_map]; exact short, vs, _, rel, script⟩
  have entry : Env0 P w K mg (hidT s.heap H) callerA [] s H :=
    { frames := rfl, mod := ⟨inB, nsH names, ⟨mb, nsH builtins, boot⟩, by obtain ⟨mc, h1, h2⟩ := free; exact ⟨mc, nsH h1, h2⟩⟩, bs := fun b o e => of_hidT e, bsz := by rw [hidT_size]; exact Nat.le_refl _,
      funs := trivial, frf := fun b hb => (List.not_mem_nil hb).elim, hok := hok, bare := .of_eq gens }
  have ran := (F _ inB (nsH names)).run callerA [] s H ⟨[.ref a], []⟩ [.ref a] [.ref a] _ _ rfl room entry (binds s (.ref a)) (.cons rfl .nil) told
  apply codeAny_mono ran
  intro r s2 got
  match r, got with
  | .ok (.ret u), got =>
    obtain ⟨v, H2, os, bare, un, hok2, rv, rfl⟩ := got
    cases rv
    refine ⟨rfl, OldK.of_keep (fun b o e => ?_), os, bare⟩
    cases hH b with
    | inl z => exact un.keep b o e z (fun m => (List.not_mem_nil m).elim) List.not_mem_nil
    | inr z =>
      obtain ⟨rfl, _, z3⟩ := z
      rw [script] at e
      cases e
      exact (hok2 _ _ (un.frzs _ _ _ z3)).1
theorem law_callG (inK : K.In s.heap) (names : s.heap.Ns mainGlobals mg) (builtins : s.heap.Ns builtinsNs mb) (boot : ∀ x : Str, x ≠ "__name__" → mb x = bootBuiltins x)
    (free : s.heap.NoLimit) (gens : s.gens = #[]) (script : s.heap.get? a = some { cls := .type "list", data := .seq vs.toArray }) (isInts : IntsAre vs ns) (short : ns.length ≤ sizeLine) (room : Room k callerA)
    (F : ∀ base : Heap, K.In base → base.Ns mainGlobals mg → FnG P w K mg base k fa fd [x] sp) (binds : ∀ (s : Shared) (u : Value), BindsTo s fd ⟨[u], []⟩ [(x, u)])
    (told : ∀ H : Hp, SqL K H a (ns.map V.int) → sp [.ref a] H (fun v _ => v = .bl true) fun _ _ _ => False) :
    codeAny (model P w) callerA (.call (.ref fa) ⟨[.ref a], []⟩) (fun r s' => r = .ok (.ret (.bool true)) ∧ OldK s.heap s'.heap ∧ s'.os = s.os ∧ AllBare s'.gens) s := by
  cases l : K.lookup a with
  | some o =>
    have o_is := (inK a o l).symm.trans script
    cases o_is
    have is : SqL K (fun _ => none) a (ns.map V.int) := .inr ⟨_, vs.toArray, _, l, rfl, rfl, rfl, by rw [List.size_toArray, isInts.length]; exact short, by simpa using vals_ints isInts⟩
    exact law_at (H := fun _ => none) (fun _ => .inl rfl) inK names builtins boot free gens script isInts short room is F binds (told _ is)
  | none =>
    have at_ : (fun b => if b = a then some (HO.frz { cls := .type "list", data := .seq vs.toArray } (.lst (ns.map V.int))) else none : Hp) a = some (.frz { cls := .type "list", data := .seq vs.toArray } (.lst (ns.map V.int))) := if_pos rfl
    have is : SqL K (fun b => if b = a then some (HO.frz { cls := .type "list", data := .seq vs.toArray } (.lst (ns.map V.int))) else none) a (ns.map V.int) := .inl (.inr ⟨_, at_⟩)
    refine law_at (H := fun b => if b = a then some (HO.frz { cls := .type "list", data := .seq vs.toArray } (.lst (ns.map V.int))) else none) (fun b => ?_) inK names builtins boot free gens script isInts short room is F binds (told _ is)
    by_cases e : b = a
    · exact .inr ⟨e, l, if_pos e⟩
    · exact .inl (if_neg e)
end
/-- the goal that the head leaves, from such a promise -/
theorem walk_G {l : PySem.W.OpenLaw} {n k : Nat} {whole : Program} {loose : List Str} {before : (Str → Option Value) → Heap → Prop} {behind : World → Heap → Prop} {law : DefRec} {written : Params → PySem.W.Frag} {sp : PySem.W.Frag → Sp} {x : Str}
    (most : l.most = some n) (small : n ≤ sizeLine) (plain : law.params.defaults = []) (room : Room k callerA) (kin : ∀ (u : World) (h : Heap), behind u h → (written u.params).In h)
    (F : ∀ (u : World) (names : Str → Option Value) (at_ : Addr) (h : Heap), (written u.params).In h → h.Ns mainGlobals names → names law.name = some (.ref at_) →
      ∃ fd : FuncData, (∀ (s : Shared) (v : Value), BindsTo s fd ⟨[v], []⟩ [(x, v)]) ∧ ∀ base : Heap, (written u.params).In base → base.Ns mainGlobals names → FnG l.prog u (written u.params) names base k at_ fd [x] (sp (written u.params)))
    (told : ∀ (K : PySem.W.Frag) (H : Hp) (a : Addr) (ns : List Int), ns.length ≤ n → SqL K H a (ns.map V.int) → sp K [.ref a] H (fun v _ => v = .bl true) fun _ _ _ => False) :
    PySem.W.WalkO whole loose before behind l.row.toRowW law [] (fun f vs => PySem.call f vs) := by
  apply Att.attach_call most plain
  intro w s0 s mg mb fa o pm cd doc a vs ns G Y ho hd hcd hmg script isInts len gens
  obtain ⟨fd, binds, ok⟩ := F w mg fa _ (kin w _ Y) G.T.g hmg
  exact law_callG (kin w _ Y) G.T.g G.T.b G.T.builtins G.T.nolimit gens script isInts (Nat.le_trans len small) room ok binds fun H is => told _ H a ns len is
end CaG
set_option Elab.async false
set_option linter.all false
set_option maxRecDepth 100000
/-! repr of data, and of dicts of ints and lists of ints, where no repr is under way. -/
namespace CaG
open PySem PySem.Spec PyProof.Rows L2
def encK : Key → PyData
  | .inl i => .int i
  | .inr x => .str x
/-- what a dict may hold here: an int, or a list of ints (no list at the place of sys.modules) -/
def Sv (H : Hp) (v : V) (d : PyData) : Prop := (∃ i, v = .int i ∧ d = .int i) ∨ ∃ (l : Addr) (is : List Int), v = .ref l ∧ l ≠ sysModules ∧ H l = some (.lst (is.map V.int)) ∧ d = .list (is.map PyData.int)
inductive SvAll (H : Hp) : List (Key × V) → List (PyData × PyData) → Prop
  | nil : SvAll H [] []
  | cons {k : Key} {v : V} {d : PyData} {r : List (Key × V)} {ds : List (PyData × PyData)} : Sv H v d → SvAll H r ds → SvAll H ((k, v) :: r) ((encK k, d) :: ds)
section
variable {X : Cx} {pins : List (Addr × Obj)} {σ : L2.St} {H : Hp} {s : Shared}
theorem reads_ints {h : Heap} : ∀ {is : List Int} {us : List Value}, Vals (is.map V.int) us → ReadsAll h us (is.map PyData.int) []
  | [], _, r => by
    cases r
    exact .nil
  | i :: is, _, r => by
    cases r with
    | cons r1 r2 =>
      obtain ⟨t, rfl⟩ := r1
      exact ReadsAll.cons (.int i t) (reads_ints r2)
theorem Sv.reads (I : Inv X pins σ H s) {v : V} {d : PyData} {u : Value} (h : Sv H v d) (r : RelV v u) : ∃ as, Reads s.heap u d as ∧ sysModules ∉ as := by
  rcases h with ⟨i, rfl, rfl⟩ | ⟨l, is, rfl, ne, hl, rfl⟩
  · obtain ⟨t, rfl⟩ := r
    exact ⟨[], .int i t, List.not_mem_nil⟩
  · cases r
    obtain ⟨its, rv, ⟨o, n, ho, hc, _, hd⟩, _⟩ := I.list (SqL.of (K := X.K) hl)
    exact ⟨[l], Reads.list ho hc hd (reads_ints rv), fun m => ne (List.mem_singleton.mp m).symm⟩
theorem SvAll.reads (I : Inv X pins σ H s) : ∀ {kvs : List (Key × V)} {ds : List (PyData × PyData)} {vs : List (Key × Value)}, SvAll H kvs ds → KV kvs vs → ∃ bs, PyProof.V.PairsRead s.heap encK vs ds bs ∧ sysModules ∉ bs
  | _, _, _, .nil, r => by
    cases r
    exact ⟨[], .nil, List.not_mem_nil⟩
  | _, _, _, .cons h1 h2, r => by
    cases r with
    | cons r1 r2 =>
      rename_i q qs
      obtain ⟨k, u⟩ := q
      obtain ⟨e, r1⟩ := r1
      cases e
      obtain ⟨as, a1, a2⟩ := h1.reads I r1
      obtain ⟨bs, b1, b2⟩ := SvAll.reads I h2 r2
      exact ⟨as ++ bs, .cons a1 b1, fun m => (List.mem_append.mp m).elim a2 b2⟩
end
/-- repr of such a dict -/
def rReprM : List V → Hp → VK → Prop := fun xs H Q => ∃ (p : Addr) (kvs : List (Key × V)) (ds : List (PyData × PyData)), xs = [.ref p] ∧ H p = some (.dK kvs) ∧ SvAll H kvs ds ∧ (PyData.dict ds).showable = true ∧ (PyData.dict ds).depth ≤ 60 ∧ (PyData.dict ds).shown.length ≤ sizeLine ∧ Q (.str (PyData.dict ds).shown) H
theorem call_reprM {X : Cx} (quiet : X.A.guards = some []) (hu : X.A.units + 64 < cLine) : CallR X (.builtin "repr") rReprM := by
  intro pins s σ H xs us Q inv rel told
  obtain ⟨p, kvs, ds, rfl, hp, sv, hs, depth, size, q⟩ := told
  obtain ⟨u, rfl, rx⟩ := vals1 rel
  cases rx
  obtain ⟨_, nsm, vs, kv, dof⟩ := dk_of inv.hok hp
  obtain ⟨bs, rd, nb⟩ := sv.reads inv kv
  have whole := PyProof.V.reads_dictOf (knd := mixKind X.prog X.w) (enc := encK) (fun k key hk => by
    rcases keyIs_shape hk with ⟨i, t, rfl, rfl⟩ | ⟨x, t, rfl, rfl⟩
    · exact .int i t
    · exact .str x t) dof rd
  refine repr_of_reads' whole hs (fun _ m => ?_) quiet (by omega) (fun _ _ z => z) (fun h' u tk kept => ⟨.str _, H, inv.kept (t' := tk) kept, ⟨_, rfl⟩, q⟩) size
  rcases List.mem_cons.mp m with z | z
  · rw [← z] at nsm
    exact absurd nsm (by decide)
  · exact nb z
/-- a new list, not at the place of sys.modules -/
def tLstN (t : TA) : TE := fun σ H Q => t σ H fun xs H1 => xs.length ≤ sizeLine ∧ ∀ p, H1 p = none → p ≠ sysModules → Q (.ref p) (upd H1 p (.lst xs))
theorem pe_lstN {X : Cx} {es : List Expr} {t : TA} {pos : Pos} (h : PA X es t) : PE X (.List es pos) (tLstN t) := by
  constructor
  intro pins s σ H Q inv want
  apply wpAny_List_spliced
  refine thn (h.run pos pins s σ H _ inv want) fun us s1 got => ?_
  obtain ⟨xs, H1, J, r, z, q⟩ := got
  have new := J.hok.fresh (Nat.le_refl s1.heap.objs.size)
  refine ⟨by rw [← r.length]; exact z, .ref _, upd H1 s1.heap.objs.size (.lst xs), J.laid (t' := s1.toks) (fun _ _ e => Heap.get?_push_of_some _ e) (Nat.le_refl _) ⟨z, us, 0, r, Heap.get?_push_size _ rfl⟩, rfl, q _ new (Nat.ne_of_gt J.big)⟩
end CaG
set_option Elab.async false
set_option linter.all false
set_option maxRecDepth 100000
/-! Small facts that more than one law wants. -/
namespace CaL
open PySem PySem.Spec PyProof.Rows L2 CaV
theorem atI_in {α : Type} {xs : List α} {i : Int} (h0 : 0 ≤ i) (h1 : i < xs.length) : ∃ v, v ∈ xs ∧ atI xs i = some v := by
  have hj : i.toNat < xs.length := by omega
  refine ⟨xs[i.toNat], List.getElem_mem hj, ?_⟩
  have e := atI_nat (xs := xs) (j := i.toNat) (v := xs[i.toNat]) (List.getElem?_eq_getElem hj)
  rwa [Int.toNat_of_nonneg h0] at e
theorem cut_len (z : Str) (lo hi : Option Int) : (cutS z lo hi).length ≤ z.length := by
  unfold cutS
  show ((z.cps.toList.drop _).take _).toArray.size ≤ z.cps.size
  rw [List.size_toArray, List.length_take, List.length_drop, Array.length_toList]
  omega
theorem app_len (a b : Str) : (a ++ b).length = a.length + b.length := Str.length_append a b
theorem sz100 {n : Nat} (h : n ≤ 1000) : n ≤ sizeLine := Nat.le_trans h (by decide)
theorem atI_strs {zs : List Str} {i : Int} (h0 : 0 ≤ i) (h1 : i < zs.length) : ∃ z, z ∈ zs ∧ atI (zs.map V.str) i = some (.str z) := by
  obtain ⟨v, hv, e⟩ := atI_in (xs := zs.map V.str) h0 (by rw [List.length_map]; exact h1)
  obtain ⟨z, hz, rfl⟩ := List.mem_map.mp hv
  exact ⟨z, hz, e⟩
theorem sum_ones : ∀ {ys : List Str}, (∀ y ∈ ys, y.length = 1) → (ys.map (·.length)).sum = ys.length
  | [], _ => rfl
  | y :: r, h => by
    rw [List.map_cons, List.sum_cons, sum_ones (fun z hz => h z (List.mem_cons_of_mem _ hz)), h y List.mem_cons_self, List.length_cons]
    omega
theorem yes_at {σ : L2.St} {H : Hp} {F G : Hp → Prop} (h : F H) : tYes σ H (fun b H3 => if b = true then F H3 else G H3) := by
  show (if true = true then F H else G H)
  rw [if_pos rfl]
  exact h
/-- all its signs are plain ones -/
def Asc (x : Str) : Prop := ∀ c ∈ x.cps.toList, c < 128
theorem asc_app {a b : Str} (ha : Asc a) (hb : Asc b) : Asc (a ++ b) := fun c hc => by
  have e : (a ++ b).cps.toList = a.cps.toList ++ b.cps.toList := by
    rw [Str.cps_append, Array.toList_append]
  rw [e] at hc
  rcases List.mem_append.mp hc with h | h
  · exact ha c h
  · exact hb c h
theorem asc_cut {z : Str} (lo hi : Option Int) (h : Asc z) : Asc (cutS z lo hi) := fun c hc => by
  unfold cutS at hc
  exact h c (List.mem_of_mem_drop (List.mem_of_mem_take hc))
theorem asc_one {c : Nat} (h : c < 128) : Asc ⟨#[c]⟩ := fun d hd => by
  rw [show d = c from List.mem_singleton.mp hd]
  exact h
theorem empty_list : ("" : Str).cps.toList = [] := by decide +kernel
theorem asc_empty : Asc "" := by
  intro c hc
  rw [empty_list] at hc
  cases hc
theorem asc_joinS : ∀ {ys : List Str}, (∀ y ∈ ys, Asc y) → Asc (Str.join "" ys)
  | [], _ => fun c hc => absurd hc (by show ¬ c ∈ ([] : List Nat); simp)
  | [x], h => h x List.mem_cons_self
  | x :: y :: r, h => by
    show Asc (x ++ "" ++ Str.join "" (y :: r))
    exact asc_app (asc_app (h x List.mem_cons_self) asc_empty) (asc_joinS fun z hz => h z (List.mem_cons_of_mem _ hz))
theorem asc_join {ys : List Str} (h : ∀ y ∈ ys, Asc y) : Asc (Txt.join "" ys) := by
  show Asc (Builtin.Str.glued "" ys)
  rw [StrLaws.glued_eq_join]
  exact asc_joinS h
theorem asc_of {x : Str} (h : (x.cps.toList.all fun c => decide (c < 128)) = true) : Asc x := fun c hc => of_decide_eq_true (List.all_eq_true.mp h c hc)
theorem join_len0 {ys : List Str} (h : ∀ y ∈ ys, y.length = 1) : (Txt.join "" ys).length ≤ ys.length := by
  have e := StrLaws.join_length_le "" ys
  show (Builtin.Str.glued "" ys).length ≤ ys.length
  rw [StrLaws.glued_eq_join]
  rw [sum_ones h] at e
  have e2 : ("" : Str).length = 0 := by decide +kernel
  rw [e2, Nat.mul_zero] at e
  exact e
theorem arr_all {p : Nat → Bool} {x : Str} : x.cps.all p = x.cps.toList.all p := by
  rw [← Array.all_toList]
theorem arr_any {p : Nat → Bool} {x : Str} : x.cps.any p = x.cps.toList.any p := by
  rw [← Array.any_toList]
theorem shaped_strs {ys : List Str} (h : ∀ y ∈ ys, Asc y) : SeqAt.shaped (.list (ys.map PyData.str)) = true := by
  have h1 : ∀ {ys : List Str}, (∀ y ∈ ys, Asc y) → PyData.canLayAll0 (ys.map PyData.str) = true := by
    intro ys
    induction ys with
    | nil =>
      intro _
      simp [PyData.canLayAll0]
    | cons y r ih =>
      intro h
      rw [List.map_cons]
      unfold PyData.canLayAll0
      rw [ih fun z hz => h z (List.mem_cons_of_mem _ hz), Bool.and_true]
      unfold PyData.canLay0 PyData.strOk
      rw [arr_all, List.all_eq_true]
      intro c hc
      have := h y List.mem_cons_self c hc
      exact decide_eq_true (by omega)
  have h2 : ∀ ys : List Str, PyData.depthAll (ys.map PyData.str) = 0 := by
    intro ys
    induction ys with
    | nil => simp [PyData.depthAll]
    | cons y r ih =>
      rw [List.map_cons]
      unfold PyData.depthAll
      rw [ih]
      simp [PyData.depth]
  unfold SeqAt.shaped
  rw [Bool.and_eq_true]
  refine ⟨?_, decide_eq_true ?_⟩
  · unfold PyData.canLay0
    exact h1 h
  · unfold PyData.depth
    rw [h2]
    decide
theorem dp_strs {K : PySem.W.Frag} {H : Hp} : ∀ ys : List Str, DpAll K H (ys.map V.str) (ys.map PyData.str)
  | [] => .nil
  | y :: r => .cons (.str y) (dp_strs r)
theorem eqv_nil (ys : List Str) : PyData.eqv (.list (ys.map PyData.str)) (.list []) = ys.isEmpty := by
  cases ys with
  | nil => simp [PyData.eqv, PyData.eqvAll]
  | cons y r => simp [PyData.eqv, PyData.eqvAll]
/-! ### the promises -/
theorem same_new {H : Hp} {p : Addr} {o : HO} (h : H p = none) : Same H (upd H p o) := fun b x e => by
  rw [upd_ne (ne_of_none e h)]
  exact e
theorem lt_one (a c : Nat) : decide (([a] : List Nat) < [c]) = decide (a < c) := by
  rw [Bool.eq_iff_iff]
  simp [List.cons_lt_cons_iff]
/-- the class of an exception: all that is asked of it -/
structure TX (K : PySem.W.Frag) (mg : Str → Option Value) (C fI : Addr) : Prop where
  ox : OexC K C
  ex : ExcC K C
  no : PySem.W.findIn K (.ref C) "value" = some none
  iC : PySem.W.findIn K (.ref C) "__init__" = some (some (.ref fI))
  tI : PySem.W.typeIn K (.ref fI) = some (.type "function")
  gC : mg "InvalidName" = some (.ref C)
  ks : PySem.W.kitOne K (.ref C) (.type "str") = some false
def spInit (C : Addr) : Sp := fun vs H Q _ => ∃ (a : Addr) (v : V), vs = [.ref a, v] ∧ H a = some (exo a C none) ∧ ∀ dx, H dx = none → dx ≠ a → Q .non (upd (upd H dx (exd dx [("value", v)])) a (exo a C (some dx)))
def spLaw (K : PySem.W.Frag) : Sp := fun vs H Q _ => ∃ (a : Addr) (ns : List Int), vs = [.ref a] ∧ SqL K H a (ns.map V.int) ∧ ns.length ≤ 63 ∧ ∀ H', Q (.bl true) H'
theorem same_put {H : Hp} {p : Addr} {o o' : HO} (h : H p = none) : Same H (upd (upd H p o) p o') := fun b x e => by
  rw [upd_ne (ne_of_none e h), upd_ne (ne_of_none e h)]
  exact e
theorem _root_.CaV.Bx.same {H H' : Hp} {b : Addr} {n : Nat} (h : Bx H b n) (s : Same H H') : Bx H' b n := by
  obtain ⟨m, r, c, h1, h⟩ := h
  exact ⟨m, r, c, s _ _ h1, h⟩
theorem _root_.CaV.ExAt.same {H H' : Hp} {C a : Addr} (h : ExAt H C a) (s : Same H H') : ExAt H' C a := by
  obtain ⟨d, fs, h1, h2⟩ := h
  exact ⟨d, fs, s _ _ h1, s _ _ h2⟩
theorem same_exc {H : Hp} {C e0 dx ea : Addr} {ex ey ez ew eq : HO} (m0 : H e0 = none) (nd : H dx = none) (ma : upd (del (upd (upd (upd H e0 ex) dx ey) e0 ez) e0) dx ew ea = none) : Same H (upd (upd (del (upd (upd (upd H e0 ex) dx ey) e0 ez) e0) dx ew) ea eq) := fun b o e => by
  have n0 : b ≠ e0 := ne_of_none e m0
  have n1 : b ≠ dx := ne_of_none e nd
  have n2 : b ≠ ea := fun z => by
    rw [← z, upd_ne n1, del_ne n0, upd_ne n0, upd_ne n1, upd_ne n0, e] at ma
    cases ma
  rw [upd_ne n2, upd_ne n1, del_ne n0, upd_ne n0, upd_ne n1, upd_ne n0]
  exact e
theorem ifn {b : Bool} {A B : Prop} (e : b = true) (h : B) : if (!b) = true then A else B := by
  rw [e]
  exact iteF h
theorem mem_get {xs : List V} {i : Nat} {y : V} (h : xs[i]? = some y) : y ∈ xs := List.mem_of_getElem? h
end CaL
set_option Elab.async false
set_option linter.all false
set_option maxRecDepth 100000
/-! A value that repr shows as a text, however its parts lie. -/
namespace CaG
open PySem PySem.Spec PyProof.Rows L2 CaV
/-- repr shows v as t -/
def Shown (K : PySem.W.Frag) (H : Hp) (v : V) (t : Str) : Prop :=
  (∃ d, Dp K H v d ∧ d.showable = true ∧ d.hasDict = false ∧ d.depth ≤ 60 ∧ d.shown.length ≤ sizeLine ∧ d.shown = t) ∨
    ∃ (p : Addr) (kvs : List (Key × V)) (ds : List (PyData × PyData)), v = .ref p ∧ H p = some (.dK kvs) ∧ SvAll H kvs ds ∧ (PyData.dict ds).showable = true ∧ (PyData.dict ds).depth ≤ 60 ∧ (PyData.dict ds).shown.length ≤ sizeLine ∧ (PyData.dict ds).shown = t
def rReprX (K : PySem.W.Frag) : List V → Hp → VK → Prop := fun xs H Q => ∃ (x : V) (t : Str), xs = [x] ∧ Shown K H x t ∧ Q (.str t) H
theorem call_reprX {X : Cx} (quiet : X.A.guards = some []) (hu : X.A.units + 64 < cLine) : CallR X (.builtin "repr") (rReprX X.K) := by
  intro pins s σ H xs us Q inv rel told
  obtain ⟨x, t, rfl, sh, q⟩ := told
  rcases sh with ⟨d, h1, h2, h3, h4, h5, rfl⟩ | ⟨p, kvs, ds, rfl, h1, h2, h3, h4, h5, rfl⟩
  · exact call_reprD quiet hu pins s σ H [x] us Q inv rel ⟨x, d, rfl, h1, h2, h3, h4, h5, q⟩
  · exact call_reprM quiet hu pins s σ H [.ref p] us Q inv rel ⟨p, kvs, ds, rfl, h1, h2, h3, h4, h5, q⟩
section
variable {K : PySem.W.Frag} {H H' : Hp}
mutual
theorem dp_same (s : Same H H') : ∀ (d : PyData) (v : V), Dp K H v d → Dp K H' v d
  | .none, _, h => by
    cases h
    exact .non
  | .bool b, _, h => by
    cases h
    exact .bl b
  | .int i, _, h => by
    cases h
    exact .int i
  | .str x, _, h => by
    cases h
    exact .str x
  | .list ds, _, h => by
    cases h with
    | lst h1 h2 => exact .lst (s.seq h1) (dpAll_same s ds _ h2)
  | .tuple ds, _, h => by
    cases h with
    | tup h1 h2 =>
      refine .tup ?_ (dpAll_same s ds _ h2)
      rcases h1 with h1 | h1
      · rcases h1 with h1 | ⟨o, h1⟩
        · exact .inl (.inl (s _ _ h1))
        · exact .inl (.inr ⟨o, s _ _ h1⟩)
      · exact .inr h1
  | .dict _, _, h => by cases h
theorem dpAll_same (s : Same H H') : ∀ (ds : List PyData) (vs : List V), DpAll K H vs ds → DpAll K H' vs ds
  | [], _, h => by
    cases h
    exact .nil
  | d :: ds, _, h => by
    cases h with
    | cons h1 h2 => exact .cons (dp_same s d _ h1) (dpAll_same s ds _ h2)
end
theorem Sv.same (s : Same H H') {v : V} {d : PyData} (h : Sv H v d) : Sv H' v d := by
  rcases h with h | ⟨l, is, h1, h2, h3, h4⟩
  · exact .inl h
  · exact .inr ⟨l, is, h1, h2, s _ _ h3, h4⟩
theorem SvAll.same (s : Same H H') : ∀ {kvs : List (Key × V)} {ds : List (PyData × PyData)}, SvAll H kvs ds → SvAll H' kvs ds
  | _, _, .nil => .nil
  | _, _, .cons h1 h2 => .cons (h1.same s) (SvAll.same s h2)
theorem Shown.same (s : Same H H') {v : V} {t : Str} (h : Shown K H v t) : Shown K H' v t := by
  rcases h with ⟨d, h1, h⟩ | ⟨p, kvs, ds, rfl, h1, h2, h⟩
  · exact .inl ⟨d, dp_same s d v h1, h⟩
  · exact .inr ⟨p, kvs, ds, rfl, s _ _ h1, h2.same s, h⟩
end
end CaG
set_option Elab.async false
set_option linter.all false
set_option maxRecDepth 100000
set_option maxHeartbeats 4000000
/-! Own exceptions over any built-in base, as values: made, stored into, asked by isinstance, read. -/
namespace CaK
open PySem PySem.W
/-- what the maker of exceptions asks of a class's mro -/
structure Due (rest : List Value) (B : String) : Prop where
  isB : rest.contains (.type B) = true
  noA : rest.contains (.type "AttributeError") = false
  noN : rest.contains (.type "NameError") = false
/-- a class of exceptions stands at C: its mro is C and rest -/
def ClsAt (hp : Heap) (C : Addr) (rest : List Value) (maker : String) : Prop :=
  ∃ nm q N bs hd sn sub ab col dd k0 k1 k2 k3 k5, hp.get? C = some (excClassObj nm q C N bs rest hd sn sub ab col dd k0 k1 k2 k3 k5 maker)
/-- the heap behind the maker: the arguments and the exception -/
abbrev pair (hp : Heap) (C : Addr) (us : List Value) : Heap := (hp.push (kdv_tup us)).push (HandSPX.excO C hp.objs.size)
section
variable {prog : Program} {w : World} {A : Around} {hp : Heap} {g : Array GenState} {dr : Drawn} {tk : Nat} {os : OsState} {C : Addr} {rest bmB us : List Value} {B maker initId : String} {R : Result → Shared → Prop} {vI : Value}
theorem made (F : ExcBaseFacts B maker initId bmB) (D : Due rest B) (cls : ClsAt hp C rest maker) (short : us.length ≤ sizeLine) (next : R (.ok (.ret (.ref (hp.objs.size + 1)))) ⟨pair hp C us, g, dr, tk, os⟩) :
    codeAny (model prog w) A (.builtin maker ⟨.ref C :: us, []⟩) R ⟨hp, g, dr, tk, os⟩ := by
  obtain ⟨nm, q, N, bs, hd, sn, sub, ab, col, dd, k0, k1, k2, k3, k5, hC⟩ := cls
  have ends_ := F.ends
  have c1 : (Value.ref C :: rest).contains (.type B) = true := by rw [List.contains_cons, D.isB]; exact Bool.or_true _
  have c2 : (Value.ref C :: rest).contains (.type "AttributeError") = false := by rw [List.contains_cons, D.noA]; rfl
  have c3 : (Value.ref C :: rest).contains (.type "NameError") = false := by rw [List.contains_cons, D.noN]; rfl
  apply codeAny_builtinAt F.entry; unfold Builtin.«BaseException.__new__»
  refine wpAt_bind ?_
  change wpAt _ _ _ (stack >>= _) _ _ _
  refine wpAt_bind ?_
  refine wpAt_stack fun p below => wpAt_of_wpAny ?_
  wp_walk
  apply wpAt_of_wpAny
  rw [F.owner]
  repeat (first
    | with_reducible refine wpAny_madeHere_exc F.canon hC ?_
    | with_reducible refine wpAny_loadPart_at hC ?_
    | (with_reducible refine wpAny_isSubtype_exc hC ?_
       first | rw [c1] | rw [c2] | rw [c3])
    | wp_step)
  show R _ _
  rw [Heap.size_push]
  exact next
theorem asked (F : ExcBaseFacts B maker initId bmB) (D : Due rest B) (cls : ClsAt hp C rest maker) {M : Model} {Q : Unit → Shared → Prop} {E : Value → Shared → Prop} (next : Q () ⟨hp, g, dr, tk, os⟩) :
    wpAny M A (checkBuiltinCall maker ⟨.ref C :: us, []⟩) Q E ⟨hp, g, dr, tk, os⟩ := by
  obtain ⟨nm, q, N, bs, hd, sn, sub, ab, col, dd, k0, k1, k2, k3, k5, hC⟩ := cls
  have c1 : (Value.ref C :: rest).contains (.type B) = true := by rw [List.contains_cons, D.isB]; exact Bool.or_true _
  have noStar_ := F.noStar
  simp only [F.newRow, F.newSplit, F.newKind, checkBuiltinCall]
  repeat (first
    | refine wpAny_loadPart_at hC ?_
    | (refine wpAny_isSubtype_exc hC ?_
       rw [c1])
    | refine wpAny_staticBase_exc hC ?_
    | refine wpAny_madeBy_exc hC ?_
    | simp only [bne_self_eq_false, Bool.false_eq_true, if_false]
    | wp_step)
  exact next
/-- C(us): made, then its __init__, whatever this is -/
theorem callNew (F : ExcBaseFacts B maker initId bmB) (D : Due rest B) (cls : ClsAt hp C rest maker) (short : us.length ≤ sizeLine)
    (hi : Looks (model prog w) hp (typeLookup (.ref C) "__init__") (some vI)) (hb : ∀ self, Looks (model prog w) hp (bindSpecial vI self) (vI, [self]))
    (next : codeAny (model prog w) (A.under (.builtin "type.__call__" ⟨.ref C :: us, []⟩)) (.call vI ⟨.ref (hp.objs.size + 1) :: us, []⟩) (InitBack (hp.objs.size + 1) R) ⟨pair hp C us, g, dr, tk, os⟩) :
    codeAny (model prog w) A (.call (.ref C) ⟨us, []⟩) R ⟨hp, g, dr, tk, os⟩ := by
  have cls0 := cls
  obtain ⟨nm, q, N, bs, hd, sn, sub, ab, col, dd, k0, k1, k2, k3, k5, hC⟩ := cls
  have look_ := tc_lookup
  have bind_ := tc_bind (.ref C)
  have isType : (⟨hp, g, dr, tk, os⟩ : Shared).TypeIs (.ref C) "type" := ⟨_, hC, rfl⟩
  apply codeAny_of_tree
  change wpAny _ _ (callAny (.ref C) _) _ _ _
  repeat (any_goals (first
    | assumption
    | with_reducible refine wpAny_loadPart_at hC ?_
    | wp_step))
  refine ⟨rfl, codeAny_call_builtin_at (Code.quiet_builtin _ (by decide +kernel)) entry_typeCall (wpAny_check_type_call_sub hC ?_)⟩
  repeat (first
    | with_reducible refine wpAny_loadPart_at hC ?_
    | with_reducible refine wpAny_madeBy_exc hC ?_
    | wp_step)
  apply codeAny_call_builtin_code (Code.quiet_builtin _ F.quiet)
  apply asked F D cls0
  apply made F D cls0 short
  show wpAny _ _ _ _ _ _
  have grows : ∀ b o, hp.get? b = some o → (pair hp C us).get? b = some o := fun b o e => Heap.get?_push_of_some _ (Heap.get?_push_of_some _ e)
  have hC2 := grows _ _ hC
  have there : (pair hp C us).get? (hp.objs.size + 1) = some (HandSPX.excO C hp.objs.size) := by heap_get
  have itself : (Value.ref C :: rest).contains (.ref C) = true := by simp
  have hi2 := hi.keeps grows
  have hb2 := (hb (.ref (hp.objs.size + 1))).keeps grows
  unfold isInstance
  repeat (first
    | with_reducible refine wpAny_loadPart_at there ?_
    | (with_reducible refine wpAny_isSubtype_exc hC2 ?_
       rw [itself])
    | wp_step)
  change wpAny _ _ (typeLookup (.ref C) _) _ _ _
  apply hi2.at
  apply wpAny_holding
  apply wpAny_bind
  apply hb2.at
  apply wpAny_bind
  apply wpAny_call
  apply codeAny_mono next
  intro r s' z
  match r, z with
  | .error e, z => exact z
  | .ok (.ret v), z =>
    obtain ⟨rfl, z⟩ := z
    first | exact wpAny_pure (wpAny_pure z) | (wp_walk; exact z)
end
end CaK
namespace CaK
open PySem PySem.Spec PyProof.Rows L2 PySem.W
abbrev keyTail : List Value := [.type "KeyError", .type "LookupError", .type "Exception", .type "BaseException", .type "object"]
abbrev lookTail : List Value := [.type "LookupError", .type "Exception", .type "BaseException", .type "object"]
abbrev valTail : List Value := [.type "ValueError", .type "Exception", .type "BaseException", .type "object"]
theorem keyStore : StoreFacts "KeyError" keyTail "object.__setattr__" "object" :=
  { mro := by kernel_rfl
    slot := by
      apply Slot.of (owner := "object") (n := "__setattr__")
      · rw [typeLookup_type, builtinLookup_eq_fast]; kernel_rfl
      · decide +kernel
      · decide +kernel
      · decide +kernel
      · first | exact .inl (by decide +kernel) | exact .inr (by decide +kernel)
      · rw [isSubtype_type]; kernel_rfl
    entry := PySem.F.store_LookupError.entry, kind := by decide +kernel, split := by decide +kernel, hasOwner := by decide +kernel
    args := PySem.F.store_LookupError.args, passes := fun self => by kernel_rfl }
/-- what the written part says of a class of exceptions over the built-in ones bm -/
structure Kx (K : Frag) (C : Addr) (bm : List Value) (maker : String) : Prop where
  (ini : excInitIn K C bm maker = true)
  (over : excOver K C bm = true)
  (sa : findIn K (.ref C) "__setattr__" = some (some (.builtin "object.__setattr__")))
  (ga : findIn K (.ref C) "__getattribute__" = some (some (.builtin "BaseException.__getattribute__")))
  (gg : findIn K (.ref C) "__getattr__" = some none)
  (exC : subIn K (.ref C) (.type "BaseException") = some true)
  (tyC : typeIn K (.ref C) = some (.type "type"))
  (kC : keepIn K (.ref C) = true)
  (hd : hasDictIn K C = true)
  (hc : findIn K (.ref C) "__class__" = some (some (.builtin "object.__class__")))
  (ho : mroIn K C (.type "object") = some true)
def kxB (K : Frag) (C : Addr) (bm : List Value) (maker : String) : Bool :=
  excInitIn K C bm maker && (excOver K C bm && (decide (findIn K (.ref C) "__setattr__" = some (some (.builtin "object.__setattr__"))) && (decide (findIn K (.ref C) "__getattribute__" = some (some (.builtin "BaseException.__getattribute__"))) &&
    (decide (findIn K (.ref C) "__getattr__" = some none) && (decide (subIn K (.ref C) (.type "BaseException") = some true) && (decide (typeIn K (.ref C) = some (.type "type")) && (keepIn K (.ref C) && (hasDictIn K C &&
      (decide (findIn K (.ref C) "__class__" = some (some (.builtin "object.__class__"))) && decide (mroIn K C (.type "object") = some true))))))))))
theorem kxB_ok {K : Frag} {C : Addr} {bm : List Value} {maker : String} (h : kxB K C bm maker = true) : Kx K C bm maker := by
  unfold kxB at h
  simp only [decide_eq_true_eq, Bool.and_eq_true] at h
  obtain ⟨h1, h2, h3, h4, h5, h6, h7, h8, h9, h10, h11⟩ := h
  exact ⟨h1, h2, h3, h4, h5, h6, h7, h8, h9, h10, h11⟩
/-- the kinds of bases: the tail of the mro, the maker, and the facts of the maker and the stores -/
structure Base (bm : List Value) (maker : String) : Prop where
  mkr : ∃ B initId bmB, ExcBaseFacts B maker initId bmB ∧ ∀ rest : List Value, (∀ T : String, rest.contains (.type T) = bm.contains (.type T)) → Due rest B
  st : ∃ B, StoreFacts B bm "object.__setattr__" "object"
theorem baseV : Base valTail "ValueError.__new__" :=
  ⟨⟨_, _, _, PySem.F.excBase_ValueError, fun rest h => ⟨(h _).trans (by decide +kernel), (h _).trans (by decide +kernel), (h _).trans (by decide +kernel)⟩⟩, _, PySem.F.store_ValueError⟩
theorem baseL : Base lookTail "LookupError.__new__" :=
  ⟨⟨_, _, _, PySem.F.excBase_LookupError, fun rest h => ⟨(h _).trans (by decide +kernel), (h _).trans (by decide +kernel), (h _).trans (by decide +kernel)⟩⟩, _, PySem.F.store_LookupError⟩
theorem baseK : Base keyTail "LookupError.__new__" :=
  ⟨⟨_, _, _, PySem.F.excBase_LookupError, fun rest h => ⟨(h _).trans (by decide +kernel), (h _).trans (by decide +kernel), (h _).trans (by decide +kernel)⟩⟩, _, keyStore⟩
theorem Kx.at {K : Frag} {C : Addr} {bm : List Value} {maker : String} {hp : Heap} (T : Kx K C bm maker) (X : K.In hp) : ∃ rest, ClsAt hp C rest maker ∧ ∀ S : String, rest.contains (.type S) = bm.contains (.type S) := by
  obtain ⟨nm, N, q, bs, rest, hd, sn, sub, ab, col, dd, k0, k1, k2, k3, k5, h1, h2⟩ := excInit_of X T.ini
  exact ⟨rest, ⟨nm, q, N, bs, hd, sn, sub, ab, col, dd, k0, k1, k2, k3, k5, h1⟩, h2⟩
/-- an exception of the class C at a: bare, or with its fields -/
def Exc (H : Hp) (C a : Addr) (fs : Option (List (Str × V))) : Prop := match fs with
  | none => H a = some (exo a C none)
  | some fs => ∃ d, H a = some (exo a C (some d)) ∧ H d = some (exd d fs)
section
variable {X : Cx} {pins : List (Addr × Obj)} {σ : L2.St} {H : Hp} {s : Shared} {C a : Addr} {bm : List Value} {maker : String} {f : Str} {y : V} {u : Value}
theorem inst_of {K : Frag} {fs : Option (List (Str × V))} (hok : HOk X.prog X.w H s.heap) (e : Exc H C a fs) : ∃ ox od, InstAt s.heap a ox C od ∧ (∀ l, fs = some l → ∃ d m, ox.dict = some d ∧ s.heap.Ns1 d m ∧ ∀ g, RelO (l.lookup g) (m g)) := by
  cases fs with
  | none =>
    obtain ⟨t1, ho⟩ := exo_at hok e
    exact ⟨_, none, ⟨ho, rfl, rfl, trivial⟩, fun l h => nomatch h⟩
  | some fs =>
    obtain ⟨d, e1, e2⟩ := e
    obtain ⟨t1, ho⟩ := exo_at hok e1
    obtain ⟨m, ns, rel⟩ := exd_at hok e2
    have ns0 := ns
    obtain ⟨o, es, ep, hd, _⟩ := ns
    refine ⟨_, some o, ⟨ho, rfl, rfl, hd⟩, fun l h => ?_⟩
    cases h
    exact ⟨d, m, rfl, ns0, rel⟩
/-- the first field -/
theorem put_first (Bf : Base bm maker) (T : Kx X.K C bm maker) (I : Inv X pins σ H s) (e : H a = some (exo a C none)) (no : findIn X.K (.ref C) f = some none) (ry : RelV y u) {Q : Unit → Shared → Prop} {E : Value → Shared → Prop} {A : Around}
    (then_ : ∀ dx s', H dx = none → dx ≠ a → Inv X pins σ (upd (upd H dx (exd dx [(f, y)])) a (exo a C (some dx))) s' → Q () s') : wpAny (model X.prog X.w) A (setAttr (.ref a) f u) Q E s := by
  obtain ⟨_, SF⟩ := Bf.st
  obtain ⟨t1, there⟩ := exo_at I.hok e
  obtain ⟨cd, hcd, hh⟩ := any_some T.hd
  have taker : takerIn X.K C f = some none := by
    unfold takerIn
    rw [no]
    rfl
  have ne0 : a ≠ s.heap.objs.size := Nat.ne_of_lt (Heap.lt_size there)
  refine set_plain I.kIn (od := none) ⟨there, rfl, rfl, trivial⟩ T.sa ?_
  refine osa_openX (od := none) SF I.kIn ⟨there, rfl, rfl, trivial⟩ T.over taker fun b => ?_
  refine wpAny_bind (wpAny_pure (wpAny_bind (instanceDict_exc there (looks_clsIn I.kIn hcd) hh ?_)))
  obtain ⟨hp, gs_, dr, tk, os⟩ := s
  refine HandSPX.store_in_new ⟨_, #[], _, (Heap.get?_update_ne _ _ _ _ ne0.symm).trans (Heap.get?_push_at rfl rfl), rfl, fun e he => absurd he (by simp), fun _ => rfl⟩ fun h' tk' ns same => ?_
  have ho2 : (hp.push (dictOf [] 0)).get? a = some _ := Heap.get?_push_of_some _ there
  have new : H hp.objs.size = none := I.hok.fresh (Nat.le_refl _)
  have kept : ∀ b o, b ≠ a → hp.get? b = some o → h'.get? b = some o := fun b o n q =>
    (same.2 b (Nat.ne_of_lt (Heap.lt_size q))).trans ((Heap.get?_update_ne _ _ _ _ n).trans (Heap.get?_push_of_some _ q))
  have ha : h'.get? a = some { cls := .ref C, dict := some hp.objs.size, data := .fields #[.ref t1, .none, .none, .none, .bool false, .none] } :=
    (same.2 a ne0).trans (Heap.get?_update_self _ ho2 rfl)
  have na : ∀ {b : Addr}, H b = none → ¬ b = a := fun {b} n z => by
    rw [z, e] at n
    cases n
  have nd : ∀ {b : Addr} {o : Obj}, hp.get? b = some o → b ≠ hp.objs.size := fun {b o} q => Nat.ne_of_lt (Heap.lt_size q)
  refine then_ hp.objs.size _ new ne0.symm (I.un (t' := tk') ?_ fun b o q => ?_)
  · exact
      { keep := fun b o q n _ _ => kept b o (na n) q
        slot := fun b o q n _ _ => ⟨o.slots, kept b o (na n) q⟩
        free := fun b o q n _ => (upd_ne (na n)).trans ((upd_ne (nd q)).trans n)
        there := fun b o q _ => by
          by_cases z : b = a
          · exact ⟨_, z ▸ ha⟩
          · exact ⟨o, kept b o z q⟩
        tups := fun b xs q => by rw [upd_ne (at_ne e q exo_tup), upd_ne (ne_of_none q new)]; exact q
        frzs := fun b o v q => by rw [upd_ne (at_ne e q exo_frz), upd_ne (ne_of_none q new)]; exact q
        tbls := fun b ps q => ⟨#[], by rw [upd_ne (at_ne e q exo_tbl), upd_ne (ne_of_none q new), q]; simp⟩ }
  · by_cases z : b = a
    · subst z
      rw [upd_same] at q
      cases q
      exact exo_ok ha
    · rw [upd_ne z] at q
      by_cases zd : b = hp.objs.size
      · subst zd
        rw [upd_same] at q
        cases q
        exact exd_ok ns (relO_put (fs := []) ry fun _ => True.intro)
      · rw [upd_ne zd] at q
        refine (I.hok b o q).stay (fun c v hc y => kept c v ?_ y) (fun c hc => ?_) fun c xs hc => ?_
        · cases hc with
          | inl h => exact h ▸ z
          | inr h => exact at_ne e h exo_own
        · rw [upd_ne (at_ne e hc exo_own), upd_ne (ne_of_none hc new)]
          exact hc
        · rw [upd_ne (at_ne e hc exo_tup), upd_ne (ne_of_none hc new)]
          exact hc
end
/-- self.f = e, the first field -/
def tPut (K : Frag) (f : Str) (to te : TE) : TS := fun D σ H => te σ H fun y H1 => to σ H1 fun x H2 => ∃ a C bm maker, x = .ref a ∧ Base bm maker ∧ Kx K C bm maker ∧ findIn K (.ref C) f = some none ∧
  H2 a = some (exo a C none) ∧ ∀ dx, H2 dx = none → dx ≠ a → D.nx σ (upd (upd H2 dx (exd dx [(f, y)])) a (exo a C (some dx)))
/-- a call of the class C, whose own __init__ keeps sp -/
def tNew (C : Addr) (sp : Sp) (ta : TA) : TE := fun σ H Q => ta σ H fun vs H1 => vs.length ≤ 1000 ∧ ∀ a, H1 a = none → sp (.ref a :: vs) (upd H1 a (exo a C none)) (fun v H2 => v = .non ∧ Q (.ref a) H2) E0
/-- x.n, x an exception that stands with its fields -/
def tFld (K : Frag) (n : Str) (te : TE) : TE := fun σ H Q => te σ H fun x H1 => ∃ a C bm maker fs v, x = .ref a ∧ Kx K C bm maker ∧ findIn K (.ref C) n = some none ∧ Exc H1 C a (some fs) ∧ fs.lookup n = some v ∧ Q v H1
/-- a value's type, such exceptions too -/
def TyG (K : Frag) (H : Hp) (x : V) (t : Value) : Prop := TyX K H x t ∨ ∃ C a bm maker fs, x = .ref a ∧ t = .ref C ∧ Kx K C bm maker ∧ Exc H C a fs
def rIsG (K : Frag) : List V → Hp → VK → Prop := fun xs H Q => ∃ (x c : V) (t u : Value) (b : Bool), xs = [x, c] ∧ ClsV c u ∧ TyG K H x t ∧ kitOne K t u = some b ∧ Q (.bl b) H
section
variable {X : Cx} {o e : Expr} {es : List Expr} {to te : TE} {ta : TA} {f x : Str} {p p' pos : Pos}
theorem ps_put (ho : PE X o to) (he : PE X e te) (hs : swapsWith e (some (.Attribute o f p')) pos.line X.env = pure false := by rfl) : PS X (.Assign [.Attribute o f p'] e pos) (tPut X.K f to te) := by
  refine ⟨fun pins s σ H D I h => plainObj_wpAny_Assign_Attribute (thn (he.run pins s σ H _ I h) fun v s1 got => ?_) hs⟩
  obtain ⟨y, H1, I1, r1, q1⟩ := got
  refine thn (ho.run pins s1 σ H1 _ I1 q1) fun u s2 got => ?_
  obtain ⟨_, H2, I2, r2, a, C, bm, maker, rfl, Bf, T, no, ea, q⟩ := got
  cases r2
  exact put_first Bf T I2 ea no r1 fun dx s' n ne J => ⟨σ, _, J, q dx n ne⟩
theorem pe_new {C fI : Addr} {bm : List Value} {maker : String} {k : Nat} {fd : FuncData} {ps : List Str} {sp : Sp} (Bf : Base bm maker) (T : Kx X.K C bm maker) (iC : findIn X.K (.ref C) "__init__" = some (some (.ref fI))) (tI : typeIn X.K (.ref fI) = some (.type "function"))
    (F1 : FnOk X.prog X.w X.K X.mg X.base CX0 k fI fd ps sp) (hr : Room (k + 1) X.A) (hb : Binds X.K fd ps []) (hg : Gl X x) (hm : X.mg x = some (.ref C)) (ha : PA X (e :: es) ta)
    (he : starEach (e :: es) X.env = (false, eval e X.env) :: starEach es X.env := by rfl) (hpl : (backTo pos (starEach es X.env)).any (·.1) = false := by rfl)
    (hdb : (x == ("__debug__" : Str)) = false := by decide) : PE X (.Call (.Name x p) (e :: es) [] pos) (tNew C sp ta) := by
  refine ⟨fun pins s σ H Q I h => wpAny_Call_Name_kw (ld_glob I hg hm ?_ hdb)⟩
  refine callWith_K (h₀ := X.base) I.ok.mod.kin T.kC (thn (ha.run pos pins s σ H _ I h) fun us s1 got => ?_) he hpl
  obtain ⟨vs, H1, I1, r1, hz, q1⟩ := got
  refine ⟨I1.kIn, ?_⟩
  change wpAny _ _ (call (.ref C) us) _ _ _
  obtain ⟨B, initId, bmB, F, D⟩ := Bf.mkr
  obtain ⟨rest, cls, conts⟩ := T.at I1.kIn
  obtain ⟨hp, gs_, dr, tk, os⟩ := s1
  have size : hp.objs.size ≤ hp.objs.size + 1 := Nat.le_succ _
  have due := q1 (hp.objs.size + 1) (I1.hok.fresh size)
  have grows : ∀ b o, hp.get? b = some o → (pair hp C us).get? b = some o := fun b o e => Heap.get?_push_of_some _ (Heap.get?_push_of_some _ e)
  have there : (pair hp C us).get? (hp.objs.size + 1) = some (HandSPX.excO C hp.objs.size) := by heap_get
  have I2 : Inv X pins σ (upd H1 (hp.objs.size + 1) (exo (hp.objs.size + 1) C none)) ⟨pair hp C us, gs_, dr, tk, os⟩ := I1.laid (t' := tk) (a := hp.objs.size + 1) (h' := pair hp C us) grows size (exo_ok there)
  have rel : Vals (V.ref (hp.objs.size + 1) :: vs) (Value.ref (hp.objs.size + 1) :: us) := .cons rfl r1
  have short : us.length ≤ sizeLine := by
    have l := Paired.length r1
    rw [sizeLine_eq]
    omega
  refine wpAny_call (callNew F (D rest conts) cls short (looks_findIn I1.kIn iC) (fun self => bind_fn I1.kIn self tI) (codeAny_mono (F1.run _ X.stack _ _ ⟨Value.ref (hp.objs.size + 1) :: us, []⟩ _ _ _ E0 (hr.make C us []) (I2.env0.make C us []) ?_ rel due) fun r s' got => ?_))
  · have l : (Value.ref (hp.objs.size + 1) :: us ++ []).length = ps.length := by
      rw [List.append_nil, ← rel.length]
      exact F1.len _ _ _ _ due
    have b := hb _ (Value.ref (hp.objs.size + 1) :: us) I2.kIn l
    rwa [List.append_nil] at b
  · match r, got with
    | .ok (.ret u), got =>
      obtain ⟨v, H2, J, rv, ev, q2⟩ := I2.after got
      subst ev
      cases rv
      exact ⟨rfl, .ref _, H2, J, rfl, q2⟩
theorem pe_fld {n : Str} (he : PE X e te) (hb : attributeBase e n X.env (eval e X.env) = eval e X.env := by rfl) : PE X (.Attribute e n pos) (tFld X.K n te) := by
  refine ⟨fun pins s σ H Q I h => attr_of hb (thn (he.run pins s σ H _ I h) fun u s1 got => ?_)⟩
  obtain ⟨_, H1, I1, rx, a, C, bm, maker, fs, v, rfl, T, no, ⟨d, e1, e2⟩, l, q⟩ := got
  cases rx
  obtain ⟨t1, ho⟩ := exo_at I1.hok e1
  obtain ⟨m, ns, rel⟩ := exd_at I1.hok e2
  obtain ⟨od, hd, hl⟩ := lookIn_ns ns
  obtain ⟨u, hu, ru⟩ := RelO.some_of (v := v) (o := m n) (by rw [← l]; exact rel n)
  exact HandSPX.exc_get (od := some od) I1.kIn ⟨ho, rfl, rfl, hd⟩ T.ga T.gg T.exC (findObj_own T.hd no rfl (by rw [hl, hu])) (handed_of ru) ⟨v, H1, I1.tok _, ru, q⟩
theorem call_isG (hn : specialIn X.K (.builtin "object.__class__") "__get__" = some (some (.builtin "getset_descriptor.__get__"))) (ht : takesIn X.K (.builtin "object.__class__") = some true) : CallR X (.builtin "isinstance") (rIsG X.K) := by
  intro pins s σ H vs ws Q inv rel told
  obtain ⟨x, c, t, u, b, rfl, cv, ty, ans, q⟩ := told
  cases ty with
  | inl ty => exact call_isi pins s σ H [x, c] ws Q inv rel ⟨x, c, t, u, b, rfl, cv, ty, ans, q⟩
  | inr ty =>
    obtain ⟨C, a, bm, maker, fs, rfl, rfl, T, ex⟩ := ty
    obtain ⟨w1, w2, rfl, rx, rc⟩ := vals2 rel
    obtain rfl := cv.eq rc
    cases rx
    obtain ⟨ox, od, inst, _⟩ := inst_of (X := X) (K := X.K) inv.hok ex
    have cls : (clsIn X.K C).isSome = true := by
      obtain ⟨cd, hc, _⟩ := any_some T.hd
      rw [hc]
      rfl
    exact kia_one (kitx_exc (od := od) cls T.ga T.gg T.exC T.hc hn ht T.ho) inv.kIn inst ans (fun z => nomatch z) fun tk => ⟨.bl b, H, inv.kept (t' := tk) fun _ _ z => z, rfl, q⟩
end
end CaK
set_option Elab.async false
set_option linter.all false
set_option maxRecDepth 100000
set_option maxHeartbeats 4000000
/-! Own exceptions without an own __init__, as values. -/
namespace CaK
open PySem PySem.W
/-- what the tables say of a built-in class's __init__ -/
structure Ini (B initId : String) : Prop where
  bind : ∀ self, bindSpecial (.builtin initId) self = pure (.builtin initId, [self])
  plain : plainId initId = true
  entry : entryFor table initId = some Builtin.«BaseException.__init__»
  split : splitId initId = some (B, "__init__")
  kind : builtinKind initId = some .slot
  row : Manifest.signature? initId = some ⟨.positional, "*", B, .self, [⟨"args", .varPos, false⟩]⟩
  star : (B != "*") = true
theorem Ini.of {B maker initId : String} (F : ExcCallFacts B maker initId) : Ini B initId := ⟨F.init.bind, F.init.plain, F.initEntry, F.initSplit, F.initKind, F.initRow, F.noStar⟩
theorem iniK : Ini "KeyError" "KeyError.__init__" := by
  have slot : Slot "KeyError" "__init__" "KeyError.__init__" := by
    apply Slot.of (owner := "KeyError") (n := "__init__")
    · rw [typeLookup_type, builtinLookup_eq_fast]; kernel_rfl
    · decide +kernel
    · decide +kernel
    · decide +kernel
    · first | exact .inl (by decide +kernel) | exact .inr (by decide +kernel)
    · rw [isSubtype_type]; kernel_rfl
  refine ⟨slot.bind, slot.plain, ?_, by kernel_rfl, by kernel_rfl, by kernel_rfl, by decide +kernel⟩
  apply entryFor_alias (id' := "BaseException.__init__")
  · rw [fastTable_eq_tree]; kernel_rfl
  · first | rfl | decide +kernel
  · decide +kernel
  · rw [fastTable_eq_tree]; kernel_rfl
section
variable {prog : Program} {w : World} {A : Around} {hp : Heap} {g : Array GenState} {dr : Drawn} {tk : Nat} {os : OsState} {C e t0 : Addr} {rest us : List Value} {B maker initId : String} {R : Result → Shared → Prop}
theorem initBare (F : Ini B initId) (isB : rest.contains (.type B) = true) (cls : ClsAt hp C rest maker) (he : hp.get? e = some (HandSPX.excO C t0)) (short : us.length ≤ sizeLine)
    (next : ∀ h' t1, (∀ b o, b ≠ e → hp.get? b = some o → h'.get? b = some o) → h'.get? e = some (HandSPX.excO C t1) → R (.ok (.ret .none)) ⟨h', g, dr, tk, os⟩) :
    codeAny (model prog w) A (.call (.builtin initId) ⟨.ref e :: us, []⟩) R ⟨hp, g, dr, tk, os⟩ := by
  obtain ⟨nm, q, N, bs, hd, sn, sub, ab, col, dd, k0, k1, k2, k3, k5, hC⟩ := cls
  have c1 : (Value.ref C :: rest).contains (.type B) = true := by rw [List.contains_cons, isB]; exact Bool.or_true _
  have star_ := F.star
  apply codeAny_call_builtin F.plain F.entry
  simp only [F.row, F.split, F.kind, checkBuiltinCall]
  repeat (first
    | (with_reducible refine wpAny_loadPart_at he ?_
       rw [show (HandSPX.excO C t0).cls = Value.ref C from rfl])
    | with_reducible refine wpAny_loadPart_at hC ?_
    | (with_reducible refine wpAny_isSubtype_exc hC ?_
       rw [c1])
    | wp_step)
  apply wpAny_onRaise
  rw [show ∀ (a b : String) (n : Nat), Bind.check ⟨.positional, "*", B, .self, [⟨"args", .varPos, false⟩]⟩ a b n (List.map (fun x => x.fst) ({ pos := Value.ref e :: us } : Args).kw) = pure () from fun a b n => check_star_args _ _ _ _ _ _]
  apply wpAny_pure
  wp_walk
  refine next _ hp.objs.size (fun b o n z => ?_) ?_
  · rw [Heap.get?_update_other _ _ (Ne.symm n)]
    exact Heap.get?_push_of_some _ z
  · exact (Heap.get?_update_self _ (Heap.get?_push_of_some _ he) rfl).trans rfl
end
end CaK
namespace CaK
open PySem PySem.Spec PyProof.Rows L2 PySem.W
/-- the __init__ that a class without an own one finds -/
structure Bare (K : Frag) (C : Addr) (bm : List Value) : Prop where
  ini : ∃ B initId, Ini B initId ∧ bm.contains (.type B) = true ∧ findIn K (.ref C) "__init__" = some (some (.builtin initId))
/-- C(..), C without an own __init__ -/
def tBare (C : Addr) (ta : TA) : TE := fun σ H Q => ta σ H fun vs H1 => vs.length ≤ 1000 ∧ ∀ a, H1 a = none → Q (.ref a) (upd H1 a (exo a C none))
section
variable {X : Cx} {e : Expr} {es : List Expr} {ta : TA} {x : Str} {p pos : Pos} {C : Addr} {bm : List Value} {maker : String}
theorem run_bare (Bf : Base bm maker) (T : Kx X.K C bm maker) (N : Bare X.K C bm) {pins : List (Addr × Obj)} {σ : L2.St} {H1 : Hp} {Q : VK} {s1 : Shared} {vs : List V} {us : List Value} (I1 : Inv X pins σ H1 s1) (r1 : Vals vs us) (hz : vs.length ≤ 1000)
    (q1 : ∀ a, H1 a = none → Q (.ref a) (upd H1 a (exo a C none))) : wpAny (model X.prog X.w) X.A (call (.ref C) us) (EP X pins σ Q) X.xe s1 := by
  obtain ⟨B, initId, bmB, F, D⟩ := Bf.mkr
  obtain ⟨B2, init2, G, isB, hi⟩ := N.ini
  obtain ⟨rest, cls, conts⟩ := T.at I1.kIn
  obtain ⟨hp, gs_, dr, tk, os⟩ := s1
  have size : hp.objs.size ≤ hp.objs.size + 1 := Nat.le_succ _
  have due := q1 (hp.objs.size + 1) (I1.hok.fresh size)
  have grows : ∀ b o, hp.get? b = some o → (pair hp C us).get? b = some o := fun b o e => Heap.get?_push_of_some _ (Heap.get?_push_of_some _ e)
  have there : (pair hp C us).get? (hp.objs.size + 1) = some (HandSPX.excO C hp.objs.size) := by heap_get
  have short : us.length ≤ sizeLine := by
    have l := Paired.length r1
    rw [sizeLine_eq]
    omega
  have cls2 : ClsAt (pair hp C us) C rest maker := by
    obtain ⟨nm, q, N, bs, hd, sn, sub, ab, col, dd, k0, k1, k2, k3, k5, hC⟩ := cls
    exact ⟨nm, q, N, bs, hd, sn, sub, ab, col, dd, k0, k1, k2, k3, k5, grows _ _ hC⟩
  refine wpAny_call (callNew F (D rest conts) cls short (looks_findIn I1.kIn hi) (fun self => ?_) (initBare G ((conts B2).trans isB) cls2 there short fun h' t1 kept ha => ?_))
  · rw [G.bind self]
    exact .now
  · refine ⟨rfl, .ref _, _, I1.laid (t' := tk) (a := hp.objs.size + 1) (h' := h') (fun b o z => kept b o (Nat.ne_of_lt (Nat.lt_of_lt_of_le (Heap.lt_size z) size)) (grows b o z)) size (exo_ok ha), rfl, due⟩
theorem pe_bare (Bf : Base bm maker) (T : Kx X.K C bm maker) (N : Bare X.K C bm) (hg : Gl X x) (hm : X.mg x = some (.ref C)) (ha : PA X (e :: es) ta)
    (he : starEach (e :: es) X.env = (false, eval e X.env) :: starEach es X.env := by rfl) (hpl : (backTo pos (starEach es X.env)).any (·.1) = false := by rfl)
    (hdb : (x == ("__debug__" : Str)) = false := by decide) : PE X (.Call (.Name x p) (e :: es) [] pos) (tBare C ta) := by
  refine ⟨fun pins s σ H Q I h => wpAny_Call_Name_kw (ld_glob I hg hm ?_ hdb)⟩
  refine callWith_K (h₀ := X.base) I.ok.mod.kin T.kC (thn (ha.run pos pins s σ H _ I h) fun us s1 got => ?_) he hpl
  obtain ⟨vs, H1, I1, r1, hz, q1⟩ := got
  exact ⟨I1.kIn, run_bare Bf T N I1 r1 hz q1⟩
theorem pe_bare0 (Bf : Base bm maker) (T : Kx X.K C bm maker) (N : Bare X.K C bm) (hg : Gl X x) (hm : X.mg x = some (.ref C)) (hdb : (x == ("__debug__" : Str)) = false := by decide) : PE X (.Call (.Name x p) [] [] pos) (tBare C tNil) := by
  refine ⟨fun pins s σ H Q I h => wpAny_Call_Name_kw (ld_glob I hg hm ?_ hdb)⟩
  obtain ⟨hz, q1⟩ := h
  exact callWith_K0 I.kIn T.kC (run_bare (us := []) Bf T N I .nil hz q1)
end
end CaK
set_option Elab.async false
set_option linter.all false
set_option maxRecDepth 100000
namespace K03
open PySem PySem.Spec PyProof.Rows L2 CaV CaK
def topS (i : Nat) : Stmt := PySem.Challenge.pw_caughtnames_k03_errors_and_their_fields.main.body.getD i (.Pass ⟨0, 0, 0, 0⟩)
abbrev s_l_cell : Stmt := topS 34
abbrev N_l_cell : List Str := ["_law_script", "_law_k"]
theorem sc_l_cell : FnScope N_l_cell ["_law_script", "_law_k"] (defScope s_l_cell) := ⟨rfl, rfl, rfl, by decide +kernel, rfl, by decide +kernel, by decide +kernel⟩
abbrev s_l_box : Stmt := topS 35
abbrev N_l_box : List Str := ["_law_cell_here"]
theorem sc_l_box : FnScope N_l_box ["_law_cell_here"] (defScope s_l_box) := ⟨rfl, rfl, rfl, by decide +kernel, rfl, by decide +kernel, by decide +kernel⟩
abbrev s_l_take : Stmt := topS 36
abbrev N_l_take : List Str := ["_law_box_here", "_law_many", "_law_digit", "_law_number"]
theorem sc_l_take : FnScope N_l_take ["_law_box_here", "_law_many"] (defScope s_l_take) := ⟨rfl, rfl, rfl, by decide +kernel, rfl, by decide +kernel, by decide +kernel⟩
/-- what the top holds by name -/
structure TB (mg : Str → Option Value) : Prop where
  n_len : mg "len" = none
  n_max : mg "max" = none
section
variable {P : Program} {w : World} {K : PySem.W.Frag} {mg : Str → Option Value} {base : Heap}
theorem ok_cell {f : Addr} {fd : FuncData} {k : Nat} (F : Fun K "_law_cell" "_law_cell" s_l_cell f fd) (T : TB mg) : FnOk P w K mg base CX0 (k + 1) f fd ["_law_script", "_law_k"] (spCell K) := by
  refine F.ok sc_l_cell (fun vs H Q E h => ?_) (fun cdv A outer s H vs Q E hr h => ?_)
  · obtain ⟨a, ns, j, rfl, _⟩ := h
    rfl
  · obtain ⟨a, ns, j, rfl, hS, hj, q⟩ := h
    refine ⟨_, (pss_cons (ps_if (pt_cmpR op_lt (pv 1) (pe_callB call_len_seq (by rfl) T.n_len PySem.boot_len (pa_cons (pv 0) pa_nil)) (nomark _))
      (pss_one (ps_ret (pe_ix ix_list (pv 0) (pv 1) (fun _ _ => rfl))))
      pss_nil)
    (pss_one (ps_ret (pe_op op_add (pe_op op_mul pe_int (pv 1)) pe_int)))), ?_⟩
    refine ⟨_, rfl, _, rfl, a, _, rfl, .inl hS, _, _, rfl, rfl, _, rfl, ite2 (fun e => ?_) (fun e => ?_)⟩
    · have hl : j.toNat < ns.length := by
        have z := of_decide_eq_true e
        rw [List.length_map] at z
        omega
      exact ⟨_, rfl, _, rfl, a, _, _, .int ns[j.toNat], rfl, rfl, hS, (by have e := atI_nat (xs := ns.map V.int) (j := j.toNat) (v := .int ns[j.toNat]) (by rw [List.getElem?_map, List.getElem?_eq_getElem hl]; rfl); rwa [Int.toNat_of_nonneg hj] at e), q _⟩
    · exact ⟨_, rfl, _, _, rfl, rfl, .inl ⟨by decide, by decide⟩, _, _, rfl, rfl, q _⟩
theorem ok_box {f : Addr} {fd : FuncData} {k : Nat} (F : Fun K "_law_box" "_law_box" s_l_box f fd) (T : TB mg) : FnOk P w K mg base CX0 (k + 1) f fd ["_law_cell_here"] spBox := by
  refine F.ok sc_l_box (fun vs H Q E h => ?_) (fun cdv A outer s H vs Q E hr h => ?_)
  · obtain ⟨x, rfl, _⟩ := h
    rfl
  · obtain ⟨x, rfl, q⟩ := h
    refine ⟨_, (pss_one (ps_ret (pe_lst (pa_cons (pe_callB (call_max2 rfl) (by rfl) T.n_max (by decide +kernel) (pa_cons pe_int (pa_cons (pe_op op_sub (pv 0) (pe_op op_pow pe_int pe_int)) pa_nil))) (pa_cons (pe_op op_mod (pv 0) pe_int) (pa_cons pe_int pa_nil)))))), ?_⟩
    refine ⟨_, rfl, _, _, rfl, rfl, ⟨by decide, by decide, by decide⟩, _, _, rfl, rfl, _, _, rfl, _, rfl, _, _, rfl, rfl, (by decide : (0 : Int) < 2147483629), (by show 3 ≤ sizeLine; decide), fun l hl => ?_⟩
    refine q l _ hl (fun c o e => by rw [upd_ne (ne_of_none e hl)]; exact e) ⟨_, _, _, upd_same, ?_, (emod_bd (by decide)).1, (emod_bd (by decide)).2, by decide, by decide⟩
    split <;> omega
theorem ok_take {f : Addr} {fd : FuncData} {k : Nat} (F : Fun K "_law_take" "_law_take" s_l_take f fd) : FnOk P w K mg base CX0 (k + 1) f fd ["_law_box_here", "_law_many"] spTake := by
  refine F.ok sc_l_take (fun vs H Q E h => ?_) (fun cdv A outer s H vs Q E hr h => ?_)
  · obtain ⟨b, many, n, rfl, _⟩ := h
    rfl
  · obtain ⟨b, many, n, rfl, ⟨m, r, c, hb, hm, hr0, hr1, hc0, hc1⟩, hn, hm0, hm1, q⟩ := h
    refine ⟨_, (pss_cons (ps_if (pt_cmpR op_gt (pe_ix ix_list (pv 0) pe_int (fun _ _ => rfl)) pe_int (nomark _))
      (pss_cons (ps_set (i := 2) sc_l_take.nd rfl (.inl rfl) (pe_op op_mod (pe_ix ix_list (pv 0) pe_int (fun _ _ => rfl)) (pv 1)))
      (pss_cons (ps_asg (pe_op op_fdiv (pe_ix ix_list (pv 0) pe_int (fun _ _ => rfl)) (pv 1)) (pg_sub (pv 0) pe_int set_list))
      (pss_one (ps_ret (pv 2)))))
      pss_nil)
    (pss_cons (ps_asg (pe_op op_add (pe_ix ix_list (pv 0) pe_int (fun _ _ => rfl)) pe_int) (pg_sub (pv 0) pe_int set_list))
    (pss_cons (ps_set (i := 3) sc_l_take.nd rfl (.inl rfl) (pe_op op_mod (pe_op op_pow (pe_op op_add (pe_op op_add (pe_ix ix_list (pv 0) pe_int (fun _ _ => rfl)) (pe_op op_mul pe_int (pe_ix ix_list (pv 0) pe_int (fun _ _ => rfl)))) pe_int) pe_int) pe_int))
    (pss_cons (ps_set (i := 3) sc_l_take.nd rfl (.inl rfl) (pe_op op_mod (pe_op op_pow (pe_op op_add (pv 3) (pe_op op_mul pe_int (pe_ix ix_list (pv 0) pe_int (fun _ _ => rfl)))) pe_int) pe_int))
    (pss_one (ps_ret (pe_op op_mod (pe_op op_fdiv (pv 3) pe_int) (pv 1)))))))), ?_⟩
    refine ⟨_, rfl, b, _, _, .int m, rfl, rfl, SqL.of hb, rfl, _, _, rfl, rfl, _, rfl, ite2 (fun e => ?_) (fun e => ?_)⟩
    · refine ⟨_, rfl, b, _, _, .int m, rfl, rfl, SqL.of hb, rfl, _, rfl, _, _, rfl, rfl, hm0, ?_⟩
      refine ⟨_, rfl, b, _, _, .int m, rfl, rfl, SqL.of hb, rfl, _, rfl, _, _, rfl, rfl, ⟨hm0, hm1⟩, _, rfl, b, _, _, 0, rfl, rfl, hb, rfl, ?_⟩
      refine ⟨_, rfl, q _ _ (emod_bd hm0).1 (emod_bd hm0).2 ⟨_, _, _, upd_same, Int.ediv_nonneg hm (by omega), hr0, hr1, hc0, by omega⟩ Kp.at⟩
    · refine ⟨_, rfl, b, _, _, .int c, rfl, rfl, SqL.of hb, rfl, _, _, rfl, rfl, _, rfl, b, _, _, 2, rfl, rfl, hb, rfl, ?_⟩
      have hb2 : (upd H b (.lst [.int m, .int r, .int (c + 1)])) b = some (.lst [.int m, .int r, .int (c + 1)]) := upd_same
      refine ⟨_, rfl, b, _, _, .int r, rfl, rfl, SqL.of hb2, rfl, _, rfl, b, _, _, .int (c + 1), rfl, rfl, SqL.of hb2, rfl, _, _, rfl, rfl, .inl ⟨by decide, by decide⟩, _, _, rfl, rfl, _, _, rfl, rfl, _, _, rfl, rfl, pow_bd (by omega) (by omega), _, _, rfl, rfl, (by decide : (0 : Int) < 2147483647), ?_⟩
      have h1 := emod_bd (x := (r + 7919 * (c + 1) + 43) ^ (5 : Int).toNat) (k := 2147483647) (by decide)
      generalize (r + 7919 * (c + 1) + 43) ^ (5 : Int).toNat % 2147483647 = x1 at h1
      refine ⟨_, rfl, _, rfl, b, _, _, .int (c + 1), rfl, rfl, SqL.of hb2, rfl, _, _, rfl, rfl, .inl ⟨by decide, by decide⟩, _, _, rfl, rfl, _, _, rfl, rfl, pow_bd3 (by omega) (by omega), _, _, rfl, rfl, (by decide : (0 : Int) < 2147483587), ?_⟩
      refine ⟨_, rfl, _, _, rfl, rfl, ⟨by decide, by decide⟩, _, rfl, _, _, rfl, rfl, hm0, q _ _ (emod_bd hm0).1 (emod_bd hm0).2 ⟨m, r, c + 1, hb2, hm, hr0, hr1, by omega, by omega⟩ Kp.at⟩
end
end K03
set_option Elab.async false
set_option linter.all false
set_option maxRecDepth 100000
namespace K03
open PySem PySem.Spec PyProof.Rows L2 CaV CaK
/-- the classes by number: 27 with a field, two without, three bases -/
def nameOf (k : Nat) : Str := ["InvalidName", "InvalidTerm", "InvalidBody", "InvalidProgram", "InvalidParameters", "InvalidTemplate", "InvalidCall", "InvalidBook", "InvalidChoice", "InvalidFillings", "InvalidSite", "InvalidTables", "InvalidMeaning", "InvalidText", "InvalidLine", "InvalidLines", "InvalidMode", "InvalidLetter", "UnlikeParameters", "Duplicate", "Reserved", "TooLarge", "InvalidRow", "UnknownTemplate", "UnknownHole", "UnknownBinder", "StillCalled", "NothingToUndo", "NothingToRedo", "CaughtError", "AbsentError", "StateError"].getD k ""
def fieldOf (k : Nat) : Str := ["value", "value", "value", "value", "value", "value", "value", "value", "value", "value", "value", "value", "value", "value", "value", "value", "value", "value", "value", "name", "name", "count", "index", "name", "name", "number", "name"].getD k ""
def tailOf (k : Nat) : List Value := [valTail, valTail, valTail, valTail, valTail, valTail, valTail, valTail, valTail, valTail, valTail, valTail, valTail, valTail, valTail, valTail, valTail, valTail, valTail, valTail, valTail, valTail, valTail, keyTail, keyTail, keyTail, lookTail, lookTail, lookTail, valTail, keyTail, lookTail].getD k []
def makerOf (k : Nat) : String := ["ValueError.__new__", "ValueError.__new__", "ValueError.__new__", "ValueError.__new__", "ValueError.__new__", "ValueError.__new__", "ValueError.__new__", "ValueError.__new__", "ValueError.__new__", "ValueError.__new__", "ValueError.__new__", "ValueError.__new__", "ValueError.__new__", "ValueError.__new__", "ValueError.__new__", "ValueError.__new__", "ValueError.__new__", "ValueError.__new__", "ValueError.__new__", "ValueError.__new__", "ValueError.__new__", "ValueError.__new__", "ValueError.__new__", "LookupError.__new__", "LookupError.__new__", "LookupError.__new__", "LookupError.__new__", "LookupError.__new__", "LookupError.__new__", "ValueError.__new__", "LookupError.__new__", "LookupError.__new__"].getD k ""
def s_init (k : Nat) : Stmt := inClass (topS (4 + k)) 0
def spInit (C : Addr) (f : Str) : Sp := fun vs H Q _ => ∃ (a : Addr) (v : V), vs = [.ref a, v] ∧ H a = some (exo a C none) ∧ ∀ dx, H dx = none → dx ≠ a → Q .non (upd (upd H dx (exd dx [(f, v)])) a (exo a C (some dx)))

section
variable {P : Program} {w : World} {K : PySem.W.Frag} {mg : Str → Option Value} {base : Heap}
theorem ok_i0 {f C : Addr} {fd : FuncData} {k : Nat} {bm : List Value} {maker : String} (F : Fun K "__init__" "InvalidName.__init__" (s_init 0) f fd) (Bf : Base bm maker) (T : Kx K C bm maker) (no : PySem.W.findIn K (.ref C) "value" = some none) :
    FnOk P w K mg base CX0 (k + 1) f fd ["self", "value"] (spInit C "value") := by
  have sc : FnScope ["self", "value"] ["self", "value"] (defScope (s_init 0)) := ⟨rfl, rfl, rfl, by decide +kernel, rfl, by decide +kernel, by decide +kernel⟩
  refine F.ok sc (fun vs H Q E h => ?_) (fun cdv A outer s H vs Q E hr h => ?_)
  · obtain ⟨a, v, rfl, _⟩ := h
    rfl
  · obtain ⟨a, v, rfl, ha, q⟩ := h
    exact ⟨_, pss_one (ps_put (pv 0) (pv 1)), _, rfl, _, rfl, a, C, bm, maker, rfl, Bf, T, no, ha, q⟩
theorem ok_i1 {f C : Addr} {fd : FuncData} {k : Nat} {bm : List Value} {maker : String} (F : Fun K "__init__" "InvalidTerm.__init__" (s_init 1) f fd) (Bf : Base bm maker) (T : Kx K C bm maker) (no : PySem.W.findIn K (.ref C) "value" = some none) :
    FnOk P w K mg base CX0 (k + 1) f fd ["self", "value"] (spInit C "value") := by
  have sc : FnScope ["self", "value"] ["self", "value"] (defScope (s_init 1)) := ⟨rfl, rfl, rfl, by decide +kernel, rfl, by decide +kernel, by decide +kernel⟩
  refine F.ok sc (fun vs H Q E h => ?_) (fun cdv A outer s H vs Q E hr h => ?_)
  · obtain ⟨a, v, rfl, _⟩ := h
    rfl
  · obtain ⟨a, v, rfl, ha, q⟩ := h
    exact ⟨_, pss_one (ps_put (pv 0) (pv 1)), _, rfl, _, rfl, a, C, bm, maker, rfl, Bf, T, no, ha, q⟩
theorem ok_i2 {f C : Addr} {fd : FuncData} {k : Nat} {bm : List Value} {maker : String} (F : Fun K "__init__" "InvalidBody.__init__" (s_init 2) f fd) (Bf : Base bm maker) (T : Kx K C bm maker) (no : PySem.W.findIn K (.ref C) "value" = some none) :
    FnOk P w K mg base CX0 (k + 1) f fd ["self", "value"] (spInit C "value") := by
  have sc : FnScope ["self", "value"] ["self", "value"] (defScope (s_init 2)) := ⟨rfl, rfl, rfl, by decide +kernel, rfl, by decide +kernel, by decide +kernel⟩
  refine F.ok sc (fun vs H Q E h => ?_) (fun cdv A outer s H vs Q E hr h => ?_)
  · obtain ⟨a, v, rfl, _⟩ := h
    rfl
  · obtain ⟨a, v, rfl, ha, q⟩ := h
    exact ⟨_, pss_one (ps_put (pv 0) (pv 1)), _, rfl, _, rfl, a, C, bm, maker, rfl, Bf, T, no, ha, q⟩
theorem ok_i3 {f C : Addr} {fd : FuncData} {k : Nat} {bm : List Value} {maker : String} (F : Fun K "__init__" "InvalidProgram.__init__" (s_init 3) f fd) (Bf : Base bm maker) (T : Kx K C bm maker) (no : PySem.W.findIn K (.ref C) "value" = some none) :
    FnOk P w K mg base CX0 (k + 1) f fd ["self", "value"] (spInit C "value") := by
  have sc : FnScope ["self", "value"] ["self", "value"] (defScope (s_init 3)) := ⟨rfl, rfl, rfl, by decide +kernel, rfl, by decide +kernel, by decide +kernel⟩
  refine F.ok sc (fun vs H Q E h => ?_) (fun cdv A outer s H vs Q E hr h => ?_)
  · obtain ⟨a, v, rfl, _⟩ := h
    rfl
  · obtain ⟨a, v, rfl, ha, q⟩ := h
    exact ⟨_, pss_one (ps_put (pv 0) (pv 1)), _, rfl, _, rfl, a, C, bm, maker, rfl, Bf, T, no, ha, q⟩
theorem ok_i4 {f C : Addr} {fd : FuncData} {k : Nat} {bm : List Value} {maker : String} (F : Fun K "__init__" "InvalidParameters.__init__" (s_init 4) f fd) (Bf : Base bm maker) (T : Kx K C bm maker) (no : PySem.W.findIn K (.ref C) "value" = some none) :
    FnOk P w K mg base CX0 (k + 1) f fd ["self", "value"] (spInit C "value") := by
  have sc : FnScope ["self", "value"] ["self", "value"] (defScope (s_init 4)) := ⟨rfl, rfl, rfl, by decide +kernel, rfl, by decide +kernel, by decide +kernel⟩
  refine F.ok sc (fun vs H Q E h => ?_) (fun cdv A outer s H vs Q E hr h => ?_)
  · obtain ⟨a, v, rfl, _⟩ := h
    rfl
  · obtain ⟨a, v, rfl, ha, q⟩ := h
    exact ⟨_, pss_one (ps_put (pv 0) (pv 1)), _, rfl, _, rfl, a, C, bm, maker, rfl, Bf, T, no, ha, q⟩
theorem ok_i5 {f C : Addr} {fd : FuncData} {k : Nat} {bm : List Value} {maker : String} (F : Fun K "__init__" "InvalidTemplate.__init__" (s_init 5) f fd) (Bf : Base bm maker) (T : Kx K C bm maker) (no : PySem.W.findIn K (.ref C) "value" = some none) :
    FnOk P w K mg base CX0 (k + 1) f fd ["self", "value"] (spInit C "value") := by
  have sc : FnScope ["self", "value"] ["self", "value"] (defScope (s_init 5)) := ⟨rfl, rfl, rfl, by decide +kernel, rfl, by decide +kernel, by decide +kernel⟩
  refine F.ok sc (fun vs H Q E h => ?_) (fun cdv A outer s H vs Q E hr h => ?_)
  · obtain ⟨a, v, rfl, _⟩ := h
    rfl
  · obtain ⟨a, v, rfl, ha, q⟩ := h
    exact ⟨_, pss_one (ps_put (pv 0) (pv 1)), _, rfl, _, rfl, a, C, bm, maker, rfl, Bf, T, no, ha, q⟩
theorem ok_i6 {f C : Addr} {fd : FuncData} {k : Nat} {bm : List Value} {maker : String} (F : Fun K "__init__" "InvalidCall.__init__" (s_init 6) f fd) (Bf : Base bm maker) (T : Kx K C bm maker) (no : PySem.W.findIn K (.ref C) "value" = some none) :
    FnOk P w K mg base CX0 (k + 1) f fd ["self", "value"] (spInit C "value") := by
  have sc : FnScope ["self", "value"] ["self", "value"] (defScope (s_init 6)) := ⟨rfl, rfl, rfl, by decide +kernel, rfl, by decide +kernel, by decide +kernel⟩
  refine F.ok sc (fun vs H Q E h => ?_) (fun cdv A outer s H vs Q E hr h => ?_)
  · obtain ⟨a, v, rfl, _⟩ := h
    rfl
  · obtain ⟨a, v, rfl, ha, q⟩ := h
    exact ⟨_, pss_one (ps_put (pv 0) (pv 1)), _, rfl, _, rfl, a, C, bm, maker, rfl, Bf, T, no, ha, q⟩
theorem ok_i7 {f C : Addr} {fd : FuncData} {k : Nat} {bm : List Value} {maker : String} (F : Fun K "__init__" "InvalidBook.__init__" (s_init 7) f fd) (Bf : Base bm maker) (T : Kx K C bm maker) (no : PySem.W.findIn K (.ref C) "value" = some none) :
    FnOk P w K mg base CX0 (k + 1) f fd ["self", "value"] (spInit C "value") := by
  have sc : FnScope ["self", "value"] ["self", "value"] (defScope (s_init 7)) := ⟨rfl, rfl, rfl, by decide +kernel, rfl, by decide +kernel, by decide +kernel⟩
  refine F.ok sc (fun vs H Q E h => ?_) (fun cdv A outer s H vs Q E hr h => ?_)
  · obtain ⟨a, v, rfl, _⟩ := h
    rfl
  · obtain ⟨a, v, rfl, ha, q⟩ := h
    exact ⟨_, pss_one (ps_put (pv 0) (pv 1)), _, rfl, _, rfl, a, C, bm, maker, rfl, Bf, T, no, ha, q⟩
theorem ok_i8 {f C : Addr} {fd : FuncData} {k : Nat} {bm : List Value} {maker : String} (F : Fun K "__init__" "InvalidChoice.__init__" (s_init 8) f fd) (Bf : Base bm maker) (T : Kx K C bm maker) (no : PySem.W.findIn K (.ref C) "value" = some none) :
    FnOk P w K mg base CX0 (k + 1) f fd ["self", "value"] (spInit C "value") := by
  have sc : FnScope ["self", "value"] ["self", "value"] (defScope (s_init 8)) := ⟨rfl, rfl, rfl, by decide +kernel, rfl, by decide +kernel, by decide +kernel⟩
  refine F.ok sc (fun vs H Q E h => ?_) (fun cdv A outer s H vs Q E hr h => ?_)
  · obtain ⟨a, v, rfl, _⟩ := h
    rfl
  · obtain ⟨a, v, rfl, ha, q⟩ := h
    exact ⟨_, pss_one (ps_put (pv 0) (pv 1)), _, rfl, _, rfl, a, C, bm, maker, rfl, Bf, T, no, ha, q⟩
theorem ok_i9 {f C : Addr} {fd : FuncData} {k : Nat} {bm : List Value} {maker : String} (F : Fun K "__init__" "InvalidFillings.__init__" (s_init 9) f fd) (Bf : Base bm maker) (T : Kx K C bm maker) (no : PySem.W.findIn K (.ref C) "value" = some none) :
    FnOk P w K mg base CX0 (k + 1) f fd ["self", "value"] (spInit C "value") := by
  have sc : FnScope ["self", "value"] ["self", "value"] (defScope (s_init 9)) := ⟨rfl, rfl, rfl, by decide +kernel, rfl, by decide +kernel, by decide +kernel⟩
  refine F.ok sc (fun vs H Q E h => ?_) (fun cdv A outer s H vs Q E hr h => ?_)
  · obtain ⟨a, v, rfl, _⟩ := h
    rfl
  · obtain ⟨a, v, rfl, ha, q⟩ := h
    exact ⟨_, pss_one (ps_put (pv 0) (pv 1)), _, rfl, _, rfl, a, C, bm, maker, rfl, Bf, T, no, ha, q⟩
theorem ok_i10 {f C : Addr} {fd : FuncData} {k : Nat} {bm : List Value} {maker : String} (F : Fun K "__init__" "InvalidSite.__init__" (s_init 10) f fd) (Bf : Base bm maker) (T : Kx K C bm maker) (no : PySem.W.findIn K (.ref C) "value" = some none) :
    FnOk P w K mg base CX0 (k + 1) f fd ["self", "value"] (spInit C "value") := by
  have sc : FnScope ["self", "value"] ["self", "value"] (defScope (s_init 10)) := ⟨rfl, rfl, rfl, by decide +kernel, rfl, by decide +kernel, by decide +kernel⟩
  refine F.ok sc (fun vs H Q E h => ?_) (fun cdv A outer s H vs Q E hr h => ?_)
  · obtain ⟨a, v, rfl, _⟩ := h
    rfl
  · obtain ⟨a, v, rfl, ha, q⟩ := h
    exact ⟨_, pss_one (ps_put (pv 0) (pv 1)), _, rfl, _, rfl, a, C, bm, maker, rfl, Bf, T, no, ha, q⟩
theorem ok_i11 {f C : Addr} {fd : FuncData} {k : Nat} {bm : List Value} {maker : String} (F : Fun K "__init__" "InvalidTables.__init__" (s_init 11) f fd) (Bf : Base bm maker) (T : Kx K C bm maker) (no : PySem.W.findIn K (.ref C) "value" = some none) :
    FnOk P w K mg base CX0 (k + 1) f fd ["self", "value"] (spInit C "value") := by
  have sc : FnScope ["self", "value"] ["self", "value"] (defScope (s_init 11)) := ⟨rfl, rfl, rfl, by decide +kernel, rfl, by decide +kernel, by decide +kernel⟩
  refine F.ok sc (fun vs H Q E h => ?_) (fun cdv A outer s H vs Q E hr h => ?_)
  · obtain ⟨a, v, rfl, _⟩ := h
    rfl
  · obtain ⟨a, v, rfl, ha, q⟩ := h
    exact ⟨_, pss_one (ps_put (pv 0) (pv 1)), _, rfl, _, rfl, a, C, bm, maker, rfl, Bf, T, no, ha, q⟩
theorem ok_i12 {f C : Addr} {fd : FuncData} {k : Nat} {bm : List Value} {maker : String} (F : Fun K "__init__" "InvalidMeaning.__init__" (s_init 12) f fd) (Bf : Base bm maker) (T : Kx K C bm maker) (no : PySem.W.findIn K (.ref C) "value" = some none) :
    FnOk P w K mg base CX0 (k + 1) f fd ["self", "value"] (spInit C "value") := by
  have sc : FnScope ["self", "value"] ["self", "value"] (defScope (s_init 12)) := ⟨rfl, rfl, rfl, by decide +kernel, rfl, by decide +kernel, by decide +kernel⟩
  refine F.ok sc (fun vs H Q E h => ?_) (fun cdv A outer s H vs Q E hr h => ?_)
  · obtain ⟨a, v, rfl, _⟩ := h
    rfl
  · obtain ⟨a, v, rfl, ha, q⟩ := h
    exact ⟨_, pss_one (ps_put (pv 0) (pv 1)), _, rfl, _, rfl, a, C, bm, maker, rfl, Bf, T, no, ha, q⟩
theorem ok_i13 {f C : Addr} {fd : FuncData} {k : Nat} {bm : List Value} {maker : String} (F : Fun K "__init__" "InvalidText.__init__" (s_init 13) f fd) (Bf : Base bm maker) (T : Kx K C bm maker) (no : PySem.W.findIn K (.ref C) "value" = some none) :
    FnOk P w K mg base CX0 (k + 1) f fd ["self", "value"] (spInit C "value") := by
  have sc : FnScope ["self", "value"] ["self", "value"] (defScope (s_init 13)) := ⟨rfl, rfl, rfl, by decide +kernel, rfl, by decide +kernel, by decide +kernel⟩
  refine F.ok sc (fun vs H Q E h => ?_) (fun cdv A outer s H vs Q E hr h => ?_)
  · obtain ⟨a, v, rfl, _⟩ := h
    rfl
  · obtain ⟨a, v, rfl, ha, q⟩ := h
    exact ⟨_, pss_one (ps_put (pv 0) (pv 1)), _, rfl, _, rfl, a, C, bm, maker, rfl, Bf, T, no, ha, q⟩
theorem ok_i14 {f C : Addr} {fd : FuncData} {k : Nat} {bm : List Value} {maker : String} (F : Fun K "__init__" "InvalidLine.__init__" (s_init 14) f fd) (Bf : Base bm maker) (T : Kx K C bm maker) (no : PySem.W.findIn K (.ref C) "value" = some none) :
    FnOk P w K mg base CX0 (k + 1) f fd ["self", "value"] (spInit C "value") := by
  have sc : FnScope ["self", "value"] ["self", "value"] (defScope (s_init 14)) := ⟨rfl, rfl, rfl, by decide +kernel, rfl, by decide +kernel, by decide +kernel⟩
  refine F.ok sc (fun vs H Q E h => ?_) (fun cdv A outer s H vs Q E hr h => ?_)
  · obtain ⟨a, v, rfl, _⟩ := h
    rfl
  · obtain ⟨a, v, rfl, ha, q⟩ := h
    exact ⟨_, pss_one (ps_put (pv 0) (pv 1)), _, rfl, _, rfl, a, C, bm, maker, rfl, Bf, T, no, ha, q⟩
theorem ok_i15 {f C : Addr} {fd : FuncData} {k : Nat} {bm : List Value} {maker : String} (F : Fun K "__init__" "InvalidLines.__init__" (s_init 15) f fd) (Bf : Base bm maker) (T : Kx K C bm maker) (no : PySem.W.findIn K (.ref C) "value" = some none) :
    FnOk P w K mg base CX0 (k + 1) f fd ["self", "value"] (spInit C "value") := by
  have sc : FnScope ["self", "value"] ["self", "value"] (defScope (s_init 15)) := ⟨rfl, rfl, rfl, by decide +kernel, rfl, by decide +kernel, by decide +kernel⟩
  refine F.ok sc (fun vs H Q E h => ?_) (fun cdv A outer s H vs Q E hr h => ?_)
  · obtain ⟨a, v, rfl, _⟩ := h
    rfl
  · obtain ⟨a, v, rfl, ha, q⟩ := h
    exact ⟨_, pss_one (ps_put (pv 0) (pv 1)), _, rfl, _, rfl, a, C, bm, maker, rfl, Bf, T, no, ha, q⟩
theorem ok_i16 {f C : Addr} {fd : FuncData} {k : Nat} {bm : List Value} {maker : String} (F : Fun K "__init__" "InvalidMode.__init__" (s_init 16) f fd) (Bf : Base bm maker) (T : Kx K C bm maker) (no : PySem.W.findIn K (.ref C) "value" = some none) :
    FnOk P w K mg base CX0 (k + 1) f fd ["self", "value"] (spInit C "value") := by
  have sc : FnScope ["self", "value"] ["self", "value"] (defScope (s_init 16)) := ⟨rfl, rfl, rfl, by decide +kernel, rfl, by decide +kernel, by decide +kernel⟩
  refine F.ok sc (fun vs H Q E h => ?_) (fun cdv A outer s H vs Q E hr h => ?_)
  · obtain ⟨a, v, rfl, _⟩ := h
    rfl
  · obtain ⟨a, v, rfl, ha, q⟩ := h
    exact ⟨_, pss_one (ps_put (pv 0) (pv 1)), _, rfl, _, rfl, a, C, bm, maker, rfl, Bf, T, no, ha, q⟩
theorem ok_i17 {f C : Addr} {fd : FuncData} {k : Nat} {bm : List Value} {maker : String} (F : Fun K "__init__" "InvalidLetter.__init__" (s_init 17) f fd) (Bf : Base bm maker) (T : Kx K C bm maker) (no : PySem.W.findIn K (.ref C) "value" = some none) :
    FnOk P w K mg base CX0 (k + 1) f fd ["self", "value"] (spInit C "value") := by
  have sc : FnScope ["self", "value"] ["self", "value"] (defScope (s_init 17)) := ⟨rfl, rfl, rfl, by decide +kernel, rfl, by decide +kernel, by decide +kernel⟩
  refine F.ok sc (fun vs H Q E h => ?_) (fun cdv A outer s H vs Q E hr h => ?_)
  · obtain ⟨a, v, rfl, _⟩ := h
    rfl
  · obtain ⟨a, v, rfl, ha, q⟩ := h
    exact ⟨_, pss_one (ps_put (pv 0) (pv 1)), _, rfl, _, rfl, a, C, bm, maker, rfl, Bf, T, no, ha, q⟩
theorem ok_i18 {f C : Addr} {fd : FuncData} {k : Nat} {bm : List Value} {maker : String} (F : Fun K "__init__" "UnlikeParameters.__init__" (s_init 18) f fd) (Bf : Base bm maker) (T : Kx K C bm maker) (no : PySem.W.findIn K (.ref C) "value" = some none) :
    FnOk P w K mg base CX0 (k + 1) f fd ["self", "value"] (spInit C "value") := by
  have sc : FnScope ["self", "value"] ["self", "value"] (defScope (s_init 18)) := ⟨rfl, rfl, rfl, by decide +kernel, rfl, by decide +kernel, by decide +kernel⟩
  refine F.ok sc (fun vs H Q E h => ?_) (fun cdv A outer s H vs Q E hr h => ?_)
  · obtain ⟨a, v, rfl, _⟩ := h
    rfl
  · obtain ⟨a, v, rfl, ha, q⟩ := h
    exact ⟨_, pss_one (ps_put (pv 0) (pv 1)), _, rfl, _, rfl, a, C, bm, maker, rfl, Bf, T, no, ha, q⟩
theorem ok_i19 {f C : Addr} {fd : FuncData} {k : Nat} {bm : List Value} {maker : String} (F : Fun K "__init__" "Duplicate.__init__" (s_init 19) f fd) (Bf : Base bm maker) (T : Kx K C bm maker) (no : PySem.W.findIn K (.ref C) "name" = some none) :
    FnOk P w K mg base CX0 (k + 1) f fd ["self", "name"] (spInit C "name") := by
  have sc : FnScope ["self", "name"] ["self", "name"] (defScope (s_init 19)) := ⟨rfl, rfl, rfl, by decide +kernel, rfl, by decide +kernel, by decide +kernel⟩
  refine F.ok sc (fun vs H Q E h => ?_) (fun cdv A outer s H vs Q E hr h => ?_)
  · obtain ⟨a, v, rfl, _⟩ := h
    rfl
  · obtain ⟨a, v, rfl, ha, q⟩ := h
    exact ⟨_, pss_one (ps_put (pv 0) (pv 1)), _, rfl, _, rfl, a, C, bm, maker, rfl, Bf, T, no, ha, q⟩
theorem ok_i20 {f C : Addr} {fd : FuncData} {k : Nat} {bm : List Value} {maker : String} (F : Fun K "__init__" "Reserved.__init__" (s_init 20) f fd) (Bf : Base bm maker) (T : Kx K C bm maker) (no : PySem.W.findIn K (.ref C) "name" = some none) :
    FnOk P w K mg base CX0 (k + 1) f fd ["self", "name"] (spInit C "name") := by
  have sc : FnScope ["self", "name"] ["self", "name"] (defScope (s_init 20)) := ⟨rfl, rfl, rfl, by decide +kernel, rfl, by decide +kernel, by decide +kernel⟩
  refine F.ok sc (fun vs H Q E h => ?_) (fun cdv A outer s H vs Q E hr h => ?_)
  · obtain ⟨a, v, rfl, _⟩ := h
    rfl
  · obtain ⟨a, v, rfl, ha, q⟩ := h
    exact ⟨_, pss_one (ps_put (pv 0) (pv 1)), _, rfl, _, rfl, a, C, bm, maker, rfl, Bf, T, no, ha, q⟩
theorem ok_i21 {f C : Addr} {fd : FuncData} {k : Nat} {bm : List Value} {maker : String} (F : Fun K "__init__" "TooLarge.__init__" (s_init 21) f fd) (Bf : Base bm maker) (T : Kx K C bm maker) (no : PySem.W.findIn K (.ref C) "count" = some none) :
    FnOk P w K mg base CX0 (k + 1) f fd ["self", "count"] (spInit C "count") := by
  have sc : FnScope ["self", "count"] ["self", "count"] (defScope (s_init 21)) := ⟨rfl, rfl, rfl, by decide +kernel, rfl, by decide +kernel, by decide +kernel⟩
  refine F.ok sc (fun vs H Q E h => ?_) (fun cdv A outer s H vs Q E hr h => ?_)
  · obtain ⟨a, v, rfl, _⟩ := h
    rfl
  · obtain ⟨a, v, rfl, ha, q⟩ := h
    exact ⟨_, pss_one (ps_put (pv 0) (pv 1)), _, rfl, _, rfl, a, C, bm, maker, rfl, Bf, T, no, ha, q⟩
theorem ok_i22 {f C : Addr} {fd : FuncData} {k : Nat} {bm : List Value} {maker : String} (F : Fun K "__init__" "InvalidRow.__init__" (s_init 22) f fd) (Bf : Base bm maker) (T : Kx K C bm maker) (no : PySem.W.findIn K (.ref C) "index" = some none) :
    FnOk P w K mg base CX0 (k + 1) f fd ["self", "index"] (spInit C "index") := by
  have sc : FnScope ["self", "index"] ["self", "index"] (defScope (s_init 22)) := ⟨rfl, rfl, rfl, by decide +kernel, rfl, by decide +kernel, by decide +kernel⟩
  refine F.ok sc (fun vs H Q E h => ?_) (fun cdv A outer s H vs Q E hr h => ?_)
  · obtain ⟨a, v, rfl, _⟩ := h
    rfl
  · obtain ⟨a, v, rfl, ha, q⟩ := h
    exact ⟨_, pss_one (ps_put (pv 0) (pv 1)), _, rfl, _, rfl, a, C, bm, maker, rfl, Bf, T, no, ha, q⟩
theorem ok_i23 {f C : Addr} {fd : FuncData} {k : Nat} {bm : List Value} {maker : String} (F : Fun K "__init__" "UnknownTemplate.__init__" (s_init 23) f fd) (Bf : Base bm maker) (T : Kx K C bm maker) (no : PySem.W.findIn K (.ref C) "name" = some none) :
    FnOk P w K mg base CX0 (k + 1) f fd ["self", "name"] (spInit C "name") := by
  have sc : FnScope ["self", "name"] ["self", "name"] (defScope (s_init 23)) := ⟨rfl, rfl, rfl, by decide +kernel, rfl, by decide +kernel, by decide +kernel⟩
  refine F.ok sc (fun vs H Q E h => ?_) (fun cdv A outer s H vs Q E hr h => ?_)
  · obtain ⟨a, v, rfl, _⟩ := h
    rfl
  · obtain ⟨a, v, rfl, ha, q⟩ := h
    exact ⟨_, pss_one (ps_put (pv 0) (pv 1)), _, rfl, _, rfl, a, C, bm, maker, rfl, Bf, T, no, ha, q⟩
theorem ok_i24 {f C : Addr} {fd : FuncData} {k : Nat} {bm : List Value} {maker : String} (F : Fun K "__init__" "UnknownHole.__init__" (s_init 24) f fd) (Bf : Base bm maker) (T : Kx K C bm maker) (no : PySem.W.findIn K (.ref C) "name" = some none) :
    FnOk P w K mg base CX0 (k + 1) f fd ["self", "name"] (spInit C "name") := by
  have sc : FnScope ["self", "name"] ["self", "name"] (defScope (s_init 24)) := ⟨rfl, rfl, rfl, by decide +kernel, rfl, by decide +kernel, by decide +kernel⟩
  refine F.ok sc (fun vs H Q E h => ?_) (fun cdv A outer s H vs Q E hr h => ?_)
  · obtain ⟨a, v, rfl, _⟩ := h
    rfl
  · obtain ⟨a, v, rfl, ha, q⟩ := h
    exact ⟨_, pss_one (ps_put (pv 0) (pv 1)), _, rfl, _, rfl, a, C, bm, maker, rfl, Bf, T, no, ha, q⟩
theorem ok_i25 {f C : Addr} {fd : FuncData} {k : Nat} {bm : List Value} {maker : String} (F : Fun K "__init__" "UnknownBinder.__init__" (s_init 25) f fd) (Bf : Base bm maker) (T : Kx K C bm maker) (no : PySem.W.findIn K (.ref C) "number" = some none) :
    FnOk P w K mg base CX0 (k + 1) f fd ["self", "number"] (spInit C "number") := by
  have sc : FnScope ["self", "number"] ["self", "number"] (defScope (s_init 25)) := ⟨rfl, rfl, rfl, by decide +kernel, rfl, by decide +kernel, by decide +kernel⟩
  refine F.ok sc (fun vs H Q E h => ?_) (fun cdv A outer s H vs Q E hr h => ?_)
  · obtain ⟨a, v, rfl, _⟩ := h
    rfl
  · obtain ⟨a, v, rfl, ha, q⟩ := h
    exact ⟨_, pss_one (ps_put (pv 0) (pv 1)), _, rfl, _, rfl, a, C, bm, maker, rfl, Bf, T, no, ha, q⟩
theorem ok_i26 {f C : Addr} {fd : FuncData} {k : Nat} {bm : List Value} {maker : String} (F : Fun K "__init__" "StillCalled.__init__" (s_init 26) f fd) (Bf : Base bm maker) (T : Kx K C bm maker) (no : PySem.W.findIn K (.ref C) "name" = some none) :
    FnOk P w K mg base CX0 (k + 1) f fd ["self", "name"] (spInit C "name") := by
  have sc : FnScope ["self", "name"] ["self", "name"] (defScope (s_init 26)) := ⟨rfl, rfl, rfl, by decide +kernel, rfl, by decide +kernel, by decide +kernel⟩
  refine F.ok sc (fun vs H Q E h => ?_) (fun cdv A outer s H vs Q E hr h => ?_)
  · obtain ⟨a, v, rfl, _⟩ := h
    rfl
  · obtain ⟨a, v, rfl, ha, q⟩ := h
    exact ⟨_, pss_one (ps_put (pv 0) (pv 1)), _, rfl, _, rfl, a, C, bm, maker, rfl, Bf, T, no, ha, q⟩
end
end K03
set_option Elab.async false
set_option linter.all false
set_option maxRecDepth 100000
namespace K03
open PySem PySem.Spec PyProof.Rows L2 CaV CaK
/-- which class stands under which -/
def isDue (k j : Nat) : Bool := k == j || (j == 29 && decide (k < 23)) || (j == 30 && (decide (23 ≤ k) && decide (k < 26))) || (j == 31 && (decide (26 ≤ k) && decide (k < 29)))
def builtDue (k : Nat) (b : String) : Bool := (b == "ValueError" && (decide (k < 23) || k == 29)) || (b == "KeyError" && ((decide (23 ≤ k) && decide (k < 26)) || k == 30)) || (b == "LookupError" && ((decide (23 ≤ k) && decide (k < 29)) || k == 30 || k == 31))
def qualOf (k : Nat) : Str := ["InvalidName.__init__", "InvalidTerm.__init__", "InvalidBody.__init__", "InvalidProgram.__init__", "InvalidParameters.__init__", "InvalidTemplate.__init__", "InvalidCall.__init__", "InvalidBook.__init__", "InvalidChoice.__init__", "InvalidFillings.__init__", "InvalidSite.__init__", "InvalidTables.__init__", "InvalidMeaning.__init__", "InvalidText.__init__", "InvalidLine.__init__", "InvalidLines.__init__", "InvalidMode.__init__", "InvalidLetter.__init__", "UnlikeParameters.__init__", "Duplicate.__init__", "Reserved.__init__", "TooLarge.__init__", "InvalidRow.__init__", "UnknownTemplate.__init__", "UnknownHole.__init__", "UnknownBinder.__init__", "StillCalled.__init__", "NothingToUndo.__init__", "NothingToRedo.__init__", "CaughtError.__init__", "AbsentError.__init__", "StateError.__init__"].getD k ""
/-- the classes and what is written of them -/
structure TX (K : PySem.W.Frag) (mg : Str → Option Value) (cl fi : Nat → Addr) (fd : Nat → FuncData) : Prop where
  kx : ∀ k, k < 32 → Kx K (cl k) (tailOf k) (makerOf k)
  gl : ∀ k, k < 32 → mg (nameOf k) = some (.ref (cl k))
  no : ∀ k, k < 27 → PySem.W.findIn K (.ref (cl k)) (fieldOf k) = some none
  iC : ∀ k, k < 27 → PySem.W.findIn K (.ref (cl k)) "__init__" = some (some (.ref (fi k)))
  tI : ∀ k, k < 27 → PySem.W.typeIn K (.ref (fi k)) = some (.type "function")
  fn : ∀ k, k < 27 → Fun K "__init__" (qualOf k) (s_init k) (fi k) (fd k)
  bare : ∀ k, 27 ≤ k → k < 32 → Bare K (cl k) (tailOf k)
  is_ : ∀ k, k < 32 → ∀ j, j < 32 → PySem.W.kitOne K (.ref (cl k)) (.ref (cl j)) = some (isDue k j)
  bu : ∀ k, k < 32 → ∀ b, b = "ValueError" ∨ b = "KeyError" ∨ b = "LookupError" → PySem.W.kitOne K (.ref (cl k)) (.type b) = some (builtDue k b)
  hn : PySem.W.specialIn K (.builtin "object.__class__") "__get__" = some (some (.builtin "getset_descriptor.__get__"))
  ht : PySem.W.takesIn K (.builtin "object.__class__") = some true
/-- the built-in names -/
structure TN (mg : Str → Option Value) : Prop where
  n_isinstance : mg "isinstance" = none
  n_len : mg "len" = none
  n_range : mg "range" = none
  n_max : mg "max" = none
  n_min : mg "min" = none
  n_repr : mg "repr" = none
  n_enumerate : mg "enumerate" = none
  n_list : mg "list" = none
  n_dict : mg "dict" = none
  n_ValueError : mg "ValueError" = none
  n_KeyError : mg "KeyError" = none
  n_LookupError : mg "LookupError" = none
theorem Exc.same {H H' : Hp} {C a : Addr} {fs : Option (List (Str × V))} (h : Exc H C a fs) (s : Same H H') : Exc H' C a fs := by
  cases fs with
  | none => exact s _ _ h
  | some fs =>
    obtain ⟨d, e1, e2⟩ := h
    exact ⟨d, s _ _ e1, s _ _ e2⟩
/-- the exceptions as, by number, with v in their fields -/
def Sofar (cl : Nat → Addr) (H : Hp) (v : V) (as : List Addr) : Prop := ∀ k a, as[k]? = some a → Exc H (cl k) a (some [(fieldOf k, v)])
theorem Sofar.nil {cl : Nat → Addr} {H : Hp} {v : V} : Sofar cl H v [] := fun k a h => by
  rw [List.getElem?_nil] at h
  cases h
theorem Sofar.same {cl : Nat → Addr} {H H' : Hp} {v : V} {as : List Addr} (h : Sofar cl H v as) (s : Same H H') : Sofar cl H' v as := fun k a e => Exc.same (h k a e) s
theorem Sofar.snoc {cl : Nat → Addr} {H : Hp} {v : V} {as : List Addr} {a : Addr} (n : Nat) (h : Sofar cl H v as) (hn : as.length = n) (e : Exc H (cl n) a (some [(fieldOf n, v)])) : Sofar cl H v (as ++ [a]) := fun k b hk => by
  by_cases z : k < as.length
  · rw [List.getElem?_append_left z] at hk
    exact h k b hk
  · rw [List.getElem?_append_right (by omega)] at hk
    have z0 : k - as.length = 0 := by
      cases q : k - as.length with
      | zero => rfl
      | succ m =>
        rw [q] at hk
        simp at hk
    rw [z0] at hk
    cases hk
    have : k = n := by omega
    subst this
    exact e
theorem new_step {H : Hp} {C : Addr} {f : Str} {v : V} {Q : Addr → Hp → Prop} (h : ∀ a H', Same H H' → Exc H' C a (some [(f, v)]) → Q a H') : ∀ a, H a = none → spInit C f (.ref a :: [v]) (upd H a (exo a C none)) (fun x H2 => x = .non ∧ Q a H2) E0 := fun a na =>
  ⟨a, v, rfl, upd_same, fun dx nd ne => by
    have nd0 : H dx = none := by
      rw [upd_ne ne] at nd
      exact nd
    refine ⟨rfl, h a _ (fun b o e => ?_) ⟨dx, upd_same, by rw [upd_ne ne]; exact upd_same⟩⟩
    rw [upd_ne (ne_of_none e na), upd_ne (ne_of_none e nd0), upd_ne (ne_of_none e na)]
    exact e⟩
def spMade (cl : Nat → Addr) : Sp := fun vs H Q _ => ∃ v, vs = [v] ∧ ∀ l (as : List Addr) H', Same H H' → H l = none → H' l = some (.lst (as.map V.ref)) → as.length = 27 → Sofar cl H' v as → Q (.ref l) H'
def spField (cl : Nat → Addr) : Sp := fun vs H Q _ => ∃ (a : Addr) (k : Nat) (v : V), vs = [.ref a, .int k] ∧ k < 27 ∧ Exc H (cl k) a (some [(fieldOf k, v)]) ∧ Q v H
abbrev s_l_made : Stmt := topS 38
abbrev N_l_made : List Str := ["_law_value_here", "_law_found"]
theorem sc_l_made : FnScope N_l_made ["_law_value_here"] (defScope s_l_made) := ⟨rfl, rfl, rfl, by decide +kernel, rfl, by decide +kernel, by decide +kernel⟩
abbrev s_l_field : Stmt := topS 39
abbrev N_l_field : List Str := ["_law_error", "_law_k"]
theorem sc_l_field : FnScope N_l_field ["_law_error", "_law_k"] (defScope s_l_field) := ⟨rfl, rfl, rfl, by decide +kernel, rfl, by decide +kernel, by decide +kernel⟩
section
variable {P : Program} {w : World} {K : PySem.W.Frag} {mg : Str → Option Value} {base : Heap} {cl fi : Nat → Addr} {fd : Nat → FuncData}
set_option maxHeartbeats 2000000 in
theorem ok_made {f : Addr} {fd0 : FuncData} {k : Nat} (F : Fun K "_law_made" "_law_made" s_l_made f fd0) (T : TX K mg cl fi fd) : FnOk P w K mg base CX0 (k + 3) f fd0 ["_law_value_here"] (spMade cl) := by
  have b0 := (T.fn 0 (by decide)).binds (ps := ["self", "value"]) fun _ _ _ _ _ _ us hl => match us, hl with | [_, _], _ => rfl
  have b1 := (T.fn 1 (by decide)).binds (ps := ["self", "value"]) fun _ _ _ _ _ _ us hl => match us, hl with | [_, _], _ => rfl
  have b2 := (T.fn 2 (by decide)).binds (ps := ["self", "value"]) fun _ _ _ _ _ _ us hl => match us, hl with | [_, _], _ => rfl
  have b3 := (T.fn 3 (by decide)).binds (ps := ["self", "value"]) fun _ _ _ _ _ _ us hl => match us, hl with | [_, _], _ => rfl
  have b4 := (T.fn 4 (by decide)).binds (ps := ["self", "value"]) fun _ _ _ _ _ _ us hl => match us, hl with | [_, _], _ => rfl
  have b5 := (T.fn 5 (by decide)).binds (ps := ["self", "value"]) fun _ _ _ _ _ _ us hl => match us, hl with | [_, _], _ => rfl
  have b6 := (T.fn 6 (by decide)).binds (ps := ["self", "value"]) fun _ _ _ _ _ _ us hl => match us, hl with | [_, _], _ => rfl
  have b7 := (T.fn 7 (by decide)).binds (ps := ["self", "value"]) fun _ _ _ _ _ _ us hl => match us, hl with | [_, _], _ => rfl
  have b8 := (T.fn 8 (by decide)).binds (ps := ["self", "value"]) fun _ _ _ _ _ _ us hl => match us, hl with | [_, _], _ => rfl
  have b9 := (T.fn 9 (by decide)).binds (ps := ["self", "value"]) fun _ _ _ _ _ _ us hl => match us, hl with | [_, _], _ => rfl
  have b10 := (T.fn 10 (by decide)).binds (ps := ["self", "value"]) fun _ _ _ _ _ _ us hl => match us, hl with | [_, _], _ => rfl
  have b11 := (T.fn 11 (by decide)).binds (ps := ["self", "value"]) fun _ _ _ _ _ _ us hl => match us, hl with | [_, _], _ => rfl
  have b12 := (T.fn 12 (by decide)).binds (ps := ["self", "value"]) fun _ _ _ _ _ _ us hl => match us, hl with | [_, _], _ => rfl
  have b13 := (T.fn 13 (by decide)).binds (ps := ["self", "value"]) fun _ _ _ _ _ _ us hl => match us, hl with | [_, _], _ => rfl
  have b14 := (T.fn 14 (by decide)).binds (ps := ["self", "value"]) fun _ _ _ _ _ _ us hl => match us, hl with | [_, _], _ => rfl
  have b15 := (T.fn 15 (by decide)).binds (ps := ["self", "value"]) fun _ _ _ _ _ _ us hl => match us, hl with | [_, _], _ => rfl
  have b16 := (T.fn 16 (by decide)).binds (ps := ["self", "value"]) fun _ _ _ _ _ _ us hl => match us, hl with | [_, _], _ => rfl
  have b17 := (T.fn 17 (by decide)).binds (ps := ["self", "value"]) fun _ _ _ _ _ _ us hl => match us, hl with | [_, _], _ => rfl
  have b18 := (T.fn 18 (by decide)).binds (ps := ["self", "value"]) fun _ _ _ _ _ _ us hl => match us, hl with | [_, _], _ => rfl
  have b19 := (T.fn 19 (by decide)).binds (ps := ["self", "name"]) fun _ _ _ _ _ _ us hl => match us, hl with | [_, _], _ => rfl
  have b20 := (T.fn 20 (by decide)).binds (ps := ["self", "name"]) fun _ _ _ _ _ _ us hl => match us, hl with | [_, _], _ => rfl
  have b21 := (T.fn 21 (by decide)).binds (ps := ["self", "count"]) fun _ _ _ _ _ _ us hl => match us, hl with | [_, _], _ => rfl
  have b22 := (T.fn 22 (by decide)).binds (ps := ["self", "index"]) fun _ _ _ _ _ _ us hl => match us, hl with | [_, _], _ => rfl
  have b23 := (T.fn 23 (by decide)).binds (ps := ["self", "name"]) fun _ _ _ _ _ _ us hl => match us, hl with | [_, _], _ => rfl
  have b24 := (T.fn 24 (by decide)).binds (ps := ["self", "name"]) fun _ _ _ _ _ _ us hl => match us, hl with | [_, _], _ => rfl
  have b25 := (T.fn 25 (by decide)).binds (ps := ["self", "number"]) fun _ _ _ _ _ _ us hl => match us, hl with | [_, _], _ => rfl
  have b26 := (T.fn 26 (by decide)).binds (ps := ["self", "name"]) fun _ _ _ _ _ _ us hl => match us, hl with | [_, _], _ => rfl
  have kx0 : Kx K (cl 0) valTail "ValueError.__new__" := T.kx 0 (by decide)
  have gl0 : mg "InvalidName" = some (.ref (cl 0)) := T.gl 0 (by decide)
  have G0 : FnOk P w K mg base CX0 1 (fi 0) (fd 0) ["self", "value"] (spInit (cl 0) "value") := ok_i0 (k := 0) (T.fn 0 (by decide)) baseV kx0 (T.no 0 (by decide))
  have kx1 : Kx K (cl 1) valTail "ValueError.__new__" := T.kx 1 (by decide)
  have gl1 : mg "InvalidTerm" = some (.ref (cl 1)) := T.gl 1 (by decide)
  have G1 : FnOk P w K mg base CX0 1 (fi 1) (fd 1) ["self", "value"] (spInit (cl 1) "value") := ok_i1 (k := 0) (T.fn 1 (by decide)) baseV kx1 (T.no 1 (by decide))
  have kx2 : Kx K (cl 2) valTail "ValueError.__new__" := T.kx 2 (by decide)
  have gl2 : mg "InvalidBody" = some (.ref (cl 2)) := T.gl 2 (by decide)
  have G2 : FnOk P w K mg base CX0 1 (fi 2) (fd 2) ["self", "value"] (spInit (cl 2) "value") := ok_i2 (k := 0) (T.fn 2 (by decide)) baseV kx2 (T.no 2 (by decide))
  have kx3 : Kx K (cl 3) valTail "ValueError.__new__" := T.kx 3 (by decide)
  have gl3 : mg "InvalidProgram" = some (.ref (cl 3)) := T.gl 3 (by decide)
  have G3 : FnOk P w K mg base CX0 1 (fi 3) (fd 3) ["self", "value"] (spInit (cl 3) "value") := ok_i3 (k := 0) (T.fn 3 (by decide)) baseV kx3 (T.no 3 (by decide))
  have kx4 : Kx K (cl 4) valTail "ValueError.__new__" := T.kx 4 (by decide)
  have gl4 : mg "InvalidParameters" = some (.ref (cl 4)) := T.gl 4 (by decide)
  have G4 : FnOk P w K mg base CX0 1 (fi 4) (fd 4) ["self", "value"] (spInit (cl 4) "value") := ok_i4 (k := 0) (T.fn 4 (by decide)) baseV kx4 (T.no 4 (by decide))
  have kx5 : Kx K (cl 5) valTail "ValueError.__new__" := T.kx 5 (by decide)
  have gl5 : mg "InvalidTemplate" = some (.ref (cl 5)) := T.gl 5 (by decide)
  have G5 : FnOk P w K mg base CX0 1 (fi 5) (fd 5) ["self", "value"] (spInit (cl 5) "value") := ok_i5 (k := 0) (T.fn 5 (by decide)) baseV kx5 (T.no 5 (by decide))
  have kx6 : Kx K (cl 6) valTail "ValueError.__new__" := T.kx 6 (by decide)
  have gl6 : mg "InvalidCall" = some (.ref (cl 6)) := T.gl 6 (by decide)
  have G6 : FnOk P w K mg base CX0 1 (fi 6) (fd 6) ["self", "value"] (spInit (cl 6) "value") := ok_i6 (k := 0) (T.fn 6 (by decide)) baseV kx6 (T.no 6 (by decide))
  have kx7 : Kx K (cl 7) valTail "ValueError.__new__" := T.kx 7 (by decide)
  have gl7 : mg "InvalidBook" = some (.ref (cl 7)) := T.gl 7 (by decide)
  have G7 : FnOk P w K mg base CX0 1 (fi 7) (fd 7) ["self", "value"] (spInit (cl 7) "value") := ok_i7 (k := 0) (T.fn 7 (by decide)) baseV kx7 (T.no 7 (by decide))
  have kx8 : Kx K (cl 8) valTail "ValueError.__new__" := T.kx 8 (by decide)
  have gl8 : mg "InvalidChoice" = some (.ref (cl 8)) := T.gl 8 (by decide)
  have G8 : FnOk P w K mg base CX0 1 (fi 8) (fd 8) ["self", "value"] (spInit (cl 8) "value") := ok_i8 (k := 0) (T.fn 8 (by decide)) baseV kx8 (T.no 8 (by decide))
  have kx9 : Kx K (cl 9) valTail "ValueError.__new__" := T.kx 9 (by decide)
  have gl9 : mg "InvalidFillings" = some (.ref (cl 9)) := T.gl 9 (by decide)
  have G9 : FnOk P w K mg base CX0 1 (fi 9) (fd 9) ["self", "value"] (spInit (cl 9) "value") := ok_i9 (k := 0) (T.fn 9 (by decide)) baseV kx9 (T.no 9 (by decide))
  have kx10 : Kx K (cl 10) valTail "ValueError.__new__" := T.kx 10 (by decide)
  have gl10 : mg "InvalidSite" = some (.ref (cl 10)) := T.gl 10 (by decide)
  have G10 : FnOk P w K mg base CX0 1 (fi 10) (fd 10) ["self", "value"] (spInit (cl 10) "value") := ok_i10 (k := 0) (T.fn 10 (by decide)) baseV kx10 (T.no 10 (by decide))
  have kx11 : Kx K (cl 11) valTail "ValueError.__new__" := T.kx 11 (by decide)
  have gl11 : mg "InvalidTables" = some (.ref (cl 11)) := T.gl 11 (by decide)
  have G11 : FnOk P w K mg base CX0 1 (fi 11) (fd 11) ["self", "value"] (spInit (cl 11) "value") := ok_i11 (k := 0) (T.fn 11 (by decide)) baseV kx11 (T.no 11 (by decide))
  have kx12 : Kx K (cl 12) valTail "ValueError.__new__" := T.kx 12 (by decide)
  have gl12 : mg "InvalidMeaning" = some (.ref (cl 12)) := T.gl 12 (by decide)
  have G12 : FnOk P w K mg base CX0 1 (fi 12) (fd 12) ["self", "value"] (spInit (cl 12) "value") := ok_i12 (k := 0) (T.fn 12 (by decide)) baseV kx12 (T.no 12 (by decide))
  have kx13 : Kx K (cl 13) valTail "ValueError.__new__" := T.kx 13 (by decide)
  have gl13 : mg "InvalidText" = some (.ref (cl 13)) := T.gl 13 (by decide)
  have G13 : FnOk P w K mg base CX0 1 (fi 13) (fd 13) ["self", "value"] (spInit (cl 13) "value") := ok_i13 (k := 0) (T.fn 13 (by decide)) baseV kx13 (T.no 13 (by decide))
  have kx14 : Kx K (cl 14) valTail "ValueError.__new__" := T.kx 14 (by decide)
  have gl14 : mg "InvalidLine" = some (.ref (cl 14)) := T.gl 14 (by decide)
  have G14 : FnOk P w K mg base CX0 1 (fi 14) (fd 14) ["self", "value"] (spInit (cl 14) "value") := ok_i14 (k := 0) (T.fn 14 (by decide)) baseV kx14 (T.no 14 (by decide))
  have kx15 : Kx K (cl 15) valTail "ValueError.__new__" := T.kx 15 (by decide)
  have gl15 : mg "InvalidLines" = some (.ref (cl 15)) := T.gl 15 (by decide)
  have G15 : FnOk P w K mg base CX0 1 (fi 15) (fd 15) ["self", "value"] (spInit (cl 15) "value") := ok_i15 (k := 0) (T.fn 15 (by decide)) baseV kx15 (T.no 15 (by decide))
  have kx16 : Kx K (cl 16) valTail "ValueError.__new__" := T.kx 16 (by decide)
  have gl16 : mg "InvalidMode" = some (.ref (cl 16)) := T.gl 16 (by decide)
  have G16 : FnOk P w K mg base CX0 1 (fi 16) (fd 16) ["self", "value"] (spInit (cl 16) "value") := ok_i16 (k := 0) (T.fn 16 (by decide)) baseV kx16 (T.no 16 (by decide))
  have kx17 : Kx K (cl 17) valTail "ValueError.__new__" := T.kx 17 (by decide)
  have gl17 : mg "InvalidLetter" = some (.ref (cl 17)) := T.gl 17 (by decide)
  have G17 : FnOk P w K mg base CX0 1 (fi 17) (fd 17) ["self", "value"] (spInit (cl 17) "value") := ok_i17 (k := 0) (T.fn 17 (by decide)) baseV kx17 (T.no 17 (by decide))
  have kx18 : Kx K (cl 18) valTail "ValueError.__new__" := T.kx 18 (by decide)
  have gl18 : mg "UnlikeParameters" = some (.ref (cl 18)) := T.gl 18 (by decide)
  have G18 : FnOk P w K mg base CX0 1 (fi 18) (fd 18) ["self", "value"] (spInit (cl 18) "value") := ok_i18 (k := 0) (T.fn 18 (by decide)) baseV kx18 (T.no 18 (by decide))
  have kx19 : Kx K (cl 19) valTail "ValueError.__new__" := T.kx 19 (by decide)
  have gl19 : mg "Duplicate" = some (.ref (cl 19)) := T.gl 19 (by decide)
  have G19 : FnOk P w K mg base CX0 1 (fi 19) (fd 19) ["self", "name"] (spInit (cl 19) "name") := ok_i19 (k := 0) (T.fn 19 (by decide)) baseV kx19 (T.no 19 (by decide))
  have kx20 : Kx K (cl 20) valTail "ValueError.__new__" := T.kx 20 (by decide)
  have gl20 : mg "Reserved" = some (.ref (cl 20)) := T.gl 20 (by decide)
  have G20 : FnOk P w K mg base CX0 1 (fi 20) (fd 20) ["self", "name"] (spInit (cl 20) "name") := ok_i20 (k := 0) (T.fn 20 (by decide)) baseV kx20 (T.no 20 (by decide))
  have kx21 : Kx K (cl 21) valTail "ValueError.__new__" := T.kx 21 (by decide)
  have gl21 : mg "TooLarge" = some (.ref (cl 21)) := T.gl 21 (by decide)
  have G21 : FnOk P w K mg base CX0 1 (fi 21) (fd 21) ["self", "count"] (spInit (cl 21) "count") := ok_i21 (k := 0) (T.fn 21 (by decide)) baseV kx21 (T.no 21 (by decide))
  have kx22 : Kx K (cl 22) valTail "ValueError.__new__" := T.kx 22 (by decide)
  have gl22 : mg "InvalidRow" = some (.ref (cl 22)) := T.gl 22 (by decide)
  have G22 : FnOk P w K mg base CX0 1 (fi 22) (fd 22) ["self", "index"] (spInit (cl 22) "index") := ok_i22 (k := 0) (T.fn 22 (by decide)) baseV kx22 (T.no 22 (by decide))
  have kx23 : Kx K (cl 23) keyTail "LookupError.__new__" := T.kx 23 (by decide)
  have gl23 : mg "UnknownTemplate" = some (.ref (cl 23)) := T.gl 23 (by decide)
  have G23 : FnOk P w K mg base CX0 1 (fi 23) (fd 23) ["self", "name"] (spInit (cl 23) "name") := ok_i23 (k := 0) (T.fn 23 (by decide)) baseK kx23 (T.no 23 (by decide))
  have kx24 : Kx K (cl 24) keyTail "LookupError.__new__" := T.kx 24 (by decide)
  have gl24 : mg "UnknownHole" = some (.ref (cl 24)) := T.gl 24 (by decide)
  have G24 : FnOk P w K mg base CX0 1 (fi 24) (fd 24) ["self", "name"] (spInit (cl 24) "name") := ok_i24 (k := 0) (T.fn 24 (by decide)) baseK kx24 (T.no 24 (by decide))
  have kx25 : Kx K (cl 25) keyTail "LookupError.__new__" := T.kx 25 (by decide)
  have gl25 : mg "UnknownBinder" = some (.ref (cl 25)) := T.gl 25 (by decide)
  have G25 : FnOk P w K mg base CX0 1 (fi 25) (fd 25) ["self", "number"] (spInit (cl 25) "number") := ok_i25 (k := 0) (T.fn 25 (by decide)) baseK kx25 (T.no 25 (by decide))
  have kx26 : Kx K (cl 26) lookTail "LookupError.__new__" := T.kx 26 (by decide)
  have gl26 : mg "StillCalled" = some (.ref (cl 26)) := T.gl 26 (by decide)
  have G26 : FnOk P w K mg base CX0 1 (fi 26) (fd 26) ["self", "name"] (spInit (cl 26) "name") := ok_i26 (k := 0) (T.fn 26 (by decide)) baseL kx26 (T.no 26 (by decide))
  refine F.ok sc_l_made (fun vs H Q E h => ?_) (fun cdv A outer s H vs Q E hr h => ?_)
  · obtain ⟨v, rfl, _⟩ := h
    rfl
  · obtain ⟨v, rfl, q⟩ := h
    refine ⟨_, (pss_cons (ps_set (i := 1) sc_l_made.nd rfl (.inl rfl) (pe_lst (pa_cons (pe_new baseV kx0 (T.iC 0 (by decide)) (T.tI 0 (by decide)) G0 (hr.mono (by omega)) b0 (by rfl) gl0 (pa_cons (pv 0) pa_nil)) (pa_cons (pe_new baseV kx1 (T.iC 1 (by decide)) (T.tI 1 (by decide)) G1 (hr.mono (by omega)) b1 (by rfl) gl1 (pa_cons (pv 0) pa_nil)) (pa_cons (pe_new baseV kx2 (T.iC 2 (by decide)) (T.tI 2 (by decide)) G2 (hr.mono (by omega)) b2 (by rfl) gl2 (pa_cons (pv 0) pa_nil)) (pa_cons (pe_new baseV kx3 (T.iC 3 (by decide)) (T.tI 3 (by decide)) G3 (hr.mono (by omega)) b3 (by rfl) gl3 (pa_cons (pv 0) pa_nil)) pa_nil))))))
    (pss_cons (ps_set (i := 1) sc_l_made.nd rfl (.inl rfl) (pe_op op_cat (pv 1) (pe_lst (pa_cons (pe_new baseV kx4 (T.iC 4 (by decide)) (T.tI 4 (by decide)) G4 (hr.mono (by omega)) b4 (by rfl) gl4 (pa_cons (pv 0) pa_nil)) (pa_cons (pe_new baseV kx5 (T.iC 5 (by decide)) (T.tI 5 (by decide)) G5 (hr.mono (by omega)) b5 (by rfl) gl5 (pa_cons (pv 0) pa_nil)) (pa_cons (pe_new baseV kx6 (T.iC 6 (by decide)) (T.tI 6 (by decide)) G6 (hr.mono (by omega)) b6 (by rfl) gl6 (pa_cons (pv 0) pa_nil)) (pa_cons (pe_new baseV kx7 (T.iC 7 (by decide)) (T.tI 7 (by decide)) G7 (hr.mono (by omega)) b7 (by rfl) gl7 (pa_cons (pv 0) pa_nil)) pa_nil)))))))
    (pss_cons (ps_set (i := 1) sc_l_made.nd rfl (.inl rfl) (pe_op op_cat (pv 1) (pe_lst (pa_cons (pe_new baseV kx8 (T.iC 8 (by decide)) (T.tI 8 (by decide)) G8 (hr.mono (by omega)) b8 (by rfl) gl8 (pa_cons (pv 0) pa_nil)) (pa_cons (pe_new baseV kx9 (T.iC 9 (by decide)) (T.tI 9 (by decide)) G9 (hr.mono (by omega)) b9 (by rfl) gl9 (pa_cons (pv 0) pa_nil)) (pa_cons (pe_new baseV kx10 (T.iC 10 (by decide)) (T.tI 10 (by decide)) G10 (hr.mono (by omega)) b10 (by rfl) gl10 (pa_cons (pv 0) pa_nil)) (pa_cons (pe_new baseV kx11 (T.iC 11 (by decide)) (T.tI 11 (by decide)) G11 (hr.mono (by omega)) b11 (by rfl) gl11 (pa_cons (pv 0) pa_nil)) pa_nil)))))))
    (pss_cons (ps_set (i := 1) sc_l_made.nd rfl (.inl rfl) (pe_op op_cat (pv 1) (pe_lst (pa_cons (pe_new baseV kx12 (T.iC 12 (by decide)) (T.tI 12 (by decide)) G12 (hr.mono (by omega)) b12 (by rfl) gl12 (pa_cons (pv 0) pa_nil)) (pa_cons (pe_new baseV kx13 (T.iC 13 (by decide)) (T.tI 13 (by decide)) G13 (hr.mono (by omega)) b13 (by rfl) gl13 (pa_cons (pv 0) pa_nil)) (pa_cons (pe_new baseV kx14 (T.iC 14 (by decide)) (T.tI 14 (by decide)) G14 (hr.mono (by omega)) b14 (by rfl) gl14 (pa_cons (pv 0) pa_nil)) (pa_cons (pe_new baseV kx15 (T.iC 15 (by decide)) (T.tI 15 (by decide)) G15 (hr.mono (by omega)) b15 (by rfl) gl15 (pa_cons (pv 0) pa_nil)) pa_nil)))))))
    (pss_cons (ps_set (i := 1) sc_l_made.nd rfl (.inl rfl) (pe_op op_cat (pv 1) (pe_lst (pa_cons (pe_new baseV kx16 (T.iC 16 (by decide)) (T.tI 16 (by decide)) G16 (hr.mono (by omega)) b16 (by rfl) gl16 (pa_cons (pv 0) pa_nil)) (pa_cons (pe_new baseV kx17 (T.iC 17 (by decide)) (T.tI 17 (by decide)) G17 (hr.mono (by omega)) b17 (by rfl) gl17 (pa_cons (pv 0) pa_nil)) (pa_cons (pe_new baseV kx18 (T.iC 18 (by decide)) (T.tI 18 (by decide)) G18 (hr.mono (by omega)) b18 (by rfl) gl18 (pa_cons (pv 0) pa_nil)) (pa_cons (pe_new baseV kx19 (T.iC 19 (by decide)) (T.tI 19 (by decide)) G19 (hr.mono (by omega)) b19 (by rfl) gl19 (pa_cons (pv 0) pa_nil)) pa_nil)))))))
    (pss_cons (ps_set (i := 1) sc_l_made.nd rfl (.inl rfl) (pe_op op_cat (pv 1) (pe_lst (pa_cons (pe_new baseV kx20 (T.iC 20 (by decide)) (T.tI 20 (by decide)) G20 (hr.mono (by omega)) b20 (by rfl) gl20 (pa_cons (pv 0) pa_nil)) (pa_cons (pe_new baseV kx21 (T.iC 21 (by decide)) (T.tI 21 (by decide)) G21 (hr.mono (by omega)) b21 (by rfl) gl21 (pa_cons (pv 0) pa_nil)) (pa_cons (pe_new baseV kx22 (T.iC 22 (by decide)) (T.tI 22 (by decide)) G22 (hr.mono (by omega)) b22 (by rfl) gl22 (pa_cons (pv 0) pa_nil)) (pa_cons (pe_new baseK kx23 (T.iC 23 (by decide)) (T.tI 23 (by decide)) G23 (hr.mono (by omega)) b23 (by rfl) gl23 (pa_cons (pv 0) pa_nil)) pa_nil)))))))
    (pss_cons (ps_set (i := 1) sc_l_made.nd rfl (.inl rfl) (pe_op op_cat (pv 1) (pe_lst (pa_cons (pe_new baseK kx24 (T.iC 24 (by decide)) (T.tI 24 (by decide)) G24 (hr.mono (by omega)) b24 (by rfl) gl24 (pa_cons (pv 0) pa_nil)) (pa_cons (pe_new baseK kx25 (T.iC 25 (by decide)) (T.tI 25 (by decide)) G25 (hr.mono (by omega)) b25 (by rfl) gl25 (pa_cons (pv 0) pa_nil)) (pa_cons (pe_new baseL kx26 (T.iC 26 (by decide)) (T.tI 26 (by decide)) G26 (hr.mono (by omega)) b26 (by rfl) gl26 (pa_cons (pv 0) pa_nil)) pa_nil))))))
    (pss_one (ps_ret (pv 1)))))))))), ?_⟩
    have s_ := Same.refl H
    have g_ : Sofar cl H v [] := Sofar.nil
    refine ⟨_, rfl, (by show 1 ≤ 1000; decide), new_step fun a0 H0 s0 e0 => ?_⟩
    have g_ : Sofar cl H0 v [a0] := (g_.same s0).snoc 0 rfl e0
    have s_ := s_.trans s0
    refine ⟨_, rfl, (by show 1 ≤ 1000; decide), new_step fun a1 H1 s1 e1 => ?_⟩
    have g_ : Sofar cl H1 v [a0, a1] := (g_.same s1).snoc 1 rfl e1
    have s_ := s_.trans s1
    refine ⟨_, rfl, (by show 1 ≤ 1000; decide), new_step fun a2 H2 s2 e2 => ?_⟩
    have g_ : Sofar cl H2 v [a0, a1, a2] := (g_.same s2).snoc 2 rfl e2
    have s_ := s_.trans s2
    refine ⟨_, rfl, (by show 1 ≤ 1000; decide), new_step fun a3 H3 s3 e3 => ?_⟩
    have g_ : Sofar cl H3 v [a0, a1, a2, a3] := (g_.same s3).snoc 3 rfl e3
    have s_ := s_.trans s3
    refine ⟨(by show 4 ≤ sizeLine; decide), fun l0 n0 => ?_⟩
    have z0 := CaL.same_new (o := .lst [V.ref a0, V.ref a1, V.ref a2, V.ref a3]) n0
    have f_ := s_.free n0
    have g_ := g_.same z0
    have s_ := s_.trans z0
    have r_ : upd H3 l0 (.lst [V.ref a0, V.ref a1, V.ref a2, V.ref a3]) l0 = some (.lst [V.ref a0, V.ref a1, V.ref a2, V.ref a3]) := upd_same
    have q_ := r_
    refine ⟨_, rfl, _, rfl, (by show 1 ≤ 1000; decide), new_step fun a4 H4 s4 e4 => ?_⟩
    have g_ : Sofar cl H4 v [a0, a1, a2, a3, a4] := (g_.same s4).snoc 4 rfl e4
    have s_ := s_.trans s4
    have q_ := s4 _ _ q_
    refine ⟨_, rfl, (by show 1 ≤ 1000; decide), new_step fun a5 H5 s5 e5 => ?_⟩
    have g_ : Sofar cl H5 v [a0, a1, a2, a3, a4, a5] := (g_.same s5).snoc 5 rfl e5
    have s_ := s_.trans s5
    have q_ := s5 _ _ q_
    refine ⟨_, rfl, (by show 1 ≤ 1000; decide), new_step fun a6 H6 s6 e6 => ?_⟩
    have g_ : Sofar cl H6 v [a0, a1, a2, a3, a4, a5, a6] := (g_.same s6).snoc 6 rfl e6
    have s_ := s_.trans s6
    have q_ := s6 _ _ q_
    refine ⟨_, rfl, (by show 1 ≤ 1000; decide), new_step fun a7 H7 s7 e7 => ?_⟩
    have g_ : Sofar cl H7 v [a0, a1, a2, a3, a4, a5, a6, a7] := (g_.same s7).snoc 7 rfl e7
    have s_ := s_.trans s7
    have q_ := s7 _ _ q_
    refine ⟨(by show 4 ≤ sizeLine; decide), fun l1 n1 => ?_⟩
    have z1 := CaL.same_new (o := .lst [V.ref a4, V.ref a5, V.ref a6, V.ref a7]) n1
    have f_ := s_.free n1
    have g_ := g_.same z1
    have s_ := s_.trans z1
    have r_ : upd H7 l1 (.lst [V.ref a4, V.ref a5, V.ref a6, V.ref a7]) l1 = some (.lst [V.ref a4, V.ref a5, V.ref a6, V.ref a7]) := upd_same
    have q_ := z1 _ _ q_
    refine ⟨_, _, _, _, rfl, rfl, q_, r_, (by show 4 + 4 ≤ sizeLine; decide), fun p1 m1 => ?_⟩
    have y1 := CaL.same_new (o := .lst [V.ref a0, V.ref a1, V.ref a2, V.ref a3, V.ref a4, V.ref a5, V.ref a6, V.ref a7]) m1
    have f_ := s_.free m1
    have g_ := g_.same y1
    have s_ := s_.trans y1
    have q_ : upd (upd H7 l1 (.lst [V.ref a4, V.ref a5, V.ref a6, V.ref a7])) p1 (.lst [V.ref a0, V.ref a1, V.ref a2, V.ref a3, V.ref a4, V.ref a5, V.ref a6, V.ref a7]) p1 = some (.lst [V.ref a0, V.ref a1, V.ref a2, V.ref a3, V.ref a4, V.ref a5, V.ref a6, V.ref a7]) := upd_same
    refine ⟨_, rfl, _, rfl, (by show 1 ≤ 1000; decide), new_step fun a8 H8 s8 e8 => ?_⟩
    have g_ : Sofar cl H8 v [a0, a1, a2, a3, a4, a5, a6, a7, a8] := (g_.same s8).snoc 8 rfl e8
    have s_ := s_.trans s8
    have q_ := s8 _ _ q_
    refine ⟨_, rfl, (by show 1 ≤ 1000; decide), new_step fun a9 H9 s9 e9 => ?_⟩
    have g_ : Sofar cl H9 v [a0, a1, a2, a3, a4, a5, a6, a7, a8, a9] := (g_.same s9).snoc 9 rfl e9
    have s_ := s_.trans s9
    have q_ := s9 _ _ q_
    refine ⟨_, rfl, (by show 1 ≤ 1000; decide), new_step fun a10 H10 s10 e10 => ?_⟩
    have g_ : Sofar cl H10 v [a0, a1, a2, a3, a4, a5, a6, a7, a8, a9, a10] := (g_.same s10).snoc 10 rfl e10
    have s_ := s_.trans s10
    have q_ := s10 _ _ q_
    refine ⟨_, rfl, (by show 1 ≤ 1000; decide), new_step fun a11 H11 s11 e11 => ?_⟩
    have g_ : Sofar cl H11 v [a0, a1, a2, a3, a4, a5, a6, a7, a8, a9, a10, a11] := (g_.same s11).snoc 11 rfl e11
    have s_ := s_.trans s11
    have q_ := s11 _ _ q_
    refine ⟨(by show 4 ≤ sizeLine; decide), fun l2 n2 => ?_⟩
    have z2 := CaL.same_new (o := .lst [V.ref a8, V.ref a9, V.ref a10, V.ref a11]) n2
    have f_ := s_.free n2
    have g_ := g_.same z2
    have s_ := s_.trans z2
    have r_ : upd H11 l2 (.lst [V.ref a8, V.ref a9, V.ref a10, V.ref a11]) l2 = some (.lst [V.ref a8, V.ref a9, V.ref a10, V.ref a11]) := upd_same
    have q_ := z2 _ _ q_
    refine ⟨_, _, _, _, rfl, rfl, q_, r_, (by show 8 + 4 ≤ sizeLine; decide), fun p2 m2 => ?_⟩
    have y2 := CaL.same_new (o := .lst [V.ref a0, V.ref a1, V.ref a2, V.ref a3, V.ref a4, V.ref a5, V.ref a6, V.ref a7, V.ref a8, V.ref a9, V.ref a10, V.ref a11]) m2
    have f_ := s_.free m2
    have g_ := g_.same y2
    have s_ := s_.trans y2
    have q_ : upd (upd H11 l2 (.lst [V.ref a8, V.ref a9, V.ref a10, V.ref a11])) p2 (.lst [V.ref a0, V.ref a1, V.ref a2, V.ref a3, V.ref a4, V.ref a5, V.ref a6, V.ref a7, V.ref a8, V.ref a9, V.ref a10, V.ref a11]) p2 = some (.lst [V.ref a0, V.ref a1, V.ref a2, V.ref a3, V.ref a4, V.ref a5, V.ref a6, V.ref a7, V.ref a8, V.ref a9, V.ref a10, V.ref a11]) := upd_same
    refine ⟨_, rfl, _, rfl, (by show 1 ≤ 1000; decide), new_step fun a12 H12 s12 e12 => ?_⟩
    have g_ : Sofar cl H12 v [a0, a1, a2, a3, a4, a5, a6, a7, a8, a9, a10, a11, a12] := (g_.same s12).snoc 12 rfl e12
    have s_ := s_.trans s12
    have q_ := s12 _ _ q_
    refine ⟨_, rfl, (by show 1 ≤ 1000; decide), new_step fun a13 H13 s13 e13 => ?_⟩
    have g_ : Sofar cl H13 v [a0, a1, a2, a3, a4, a5, a6, a7, a8, a9, a10, a11, a12, a13] := (g_.same s13).snoc 13 rfl e13
    have s_ := s_.trans s13
    have q_ := s13 _ _ q_
    refine ⟨_, rfl, (by show 1 ≤ 1000; decide), new_step fun a14 H14 s14 e14 => ?_⟩
    have g_ : Sofar cl H14 v [a0, a1, a2, a3, a4, a5, a6, a7, a8, a9, a10, a11, a12, a13, a14] := (g_.same s14).snoc 14 rfl e14
    have s_ := s_.trans s14
    have q_ := s14 _ _ q_
    refine ⟨_, rfl, (by show 1 ≤ 1000; decide), new_step fun a15 H15 s15 e15 => ?_⟩
    have g_ : Sofar cl H15 v [a0, a1, a2, a3, a4, a5, a6, a7, a8, a9, a10, a11, a12, a13, a14, a15] := (g_.same s15).snoc 15 rfl e15
    have s_ := s_.trans s15
    have q_ := s15 _ _ q_
    refine ⟨(by show 4 ≤ sizeLine; decide), fun l3 n3 => ?_⟩
    have z3 := CaL.same_new (o := .lst [V.ref a12, V.ref a13, V.ref a14, V.ref a15]) n3
    have f_ := s_.free n3
    have g_ := g_.same z3
    have s_ := s_.trans z3
    have r_ : upd H15 l3 (.lst [V.ref a12, V.ref a13, V.ref a14, V.ref a15]) l3 = some (.lst [V.ref a12, V.ref a13, V.ref a14, V.ref a15]) := upd_same
    have q_ := z3 _ _ q_
    refine ⟨_, _, _, _, rfl, rfl, q_, r_, (by show 12 + 4 ≤ sizeLine; decide), fun p3 m3 => ?_⟩
    have y3 := CaL.same_new (o := .lst [V.ref a0, V.ref a1, V.ref a2, V.ref a3, V.ref a4, V.ref a5, V.ref a6, V.ref a7, V.ref a8, V.ref a9, V.ref a10, V.ref a11, V.ref a12, V.ref a13, V.ref a14, V.ref a15]) m3
    have f_ := s_.free m3
    have g_ := g_.same y3
    have s_ := s_.trans y3
    have q_ : upd (upd H15 l3 (.lst [V.ref a12, V.ref a13, V.ref a14, V.ref a15])) p3 (.lst [V.ref a0, V.ref a1, V.ref a2, V.ref a3, V.ref a4, V.ref a5, V.ref a6, V.ref a7, V.ref a8, V.ref a9, V.ref a10, V.ref a11, V.ref a12, V.ref a13, V.ref a14, V.ref a15]) p3 = some (.lst [V.ref a0, V.ref a1, V.ref a2, V.ref a3, V.ref a4, V.ref a5, V.ref a6, V.ref a7, V.ref a8, V.ref a9, V.ref a10, V.ref a11, V.ref a12, V.ref a13, V.ref a14, V.ref a15]) := upd_same
    refine ⟨_, rfl, _, rfl, (by show 1 ≤ 1000; decide), new_step fun a16 H16 s16 e16 => ?_⟩
    have g_ : Sofar cl H16 v [a0, a1, a2, a3, a4, a5, a6, a7, a8, a9, a10, a11, a12, a13, a14, a15, a16] := (g_.same s16).snoc 16 rfl e16
    have s_ := s_.trans s16
    have q_ := s16 _ _ q_
    refine ⟨_, rfl, (by show 1 ≤ 1000; decide), new_step fun a17 H17 s17 e17 => ?_⟩
    have g_ : Sofar cl H17 v [a0, a1, a2, a3, a4, a5, a6, a7, a8, a9, a10, a11, a12, a13, a14, a15, a16, a17] := (g_.same s17).snoc 17 rfl e17
    have s_ := s_.trans s17
    have q_ := s17 _ _ q_
    refine ⟨_, rfl, (by show 1 ≤ 1000; decide), new_step fun a18 H18 s18 e18 => ?_⟩
    have g_ : Sofar cl H18 v [a0, a1, a2, a3, a4, a5, a6, a7, a8, a9, a10, a11, a12, a13, a14, a15, a16, a17, a18] := (g_.same s18).snoc 18 rfl e18
    have s_ := s_.trans s18
    have q_ := s18 _ _ q_
    refine ⟨_, rfl, (by show 1 ≤ 1000; decide), new_step fun a19 H19 s19 e19 => ?_⟩
    have g_ : Sofar cl H19 v [a0, a1, a2, a3, a4, a5, a6, a7, a8, a9, a10, a11, a12, a13, a14, a15, a16, a17, a18, a19] := (g_.same s19).snoc 19 rfl e19
    have s_ := s_.trans s19
    have q_ := s19 _ _ q_
    refine ⟨(by show 4 ≤ sizeLine; decide), fun l4 n4 => ?_⟩
    have z4 := CaL.same_new (o := .lst [V.ref a16, V.ref a17, V.ref a18, V.ref a19]) n4
    have f_ := s_.free n4
    have g_ := g_.same z4
    have s_ := s_.trans z4
    have r_ : upd H19 l4 (.lst [V.ref a16, V.ref a17, V.ref a18, V.ref a19]) l4 = some (.lst [V.ref a16, V.ref a17, V.ref a18, V.ref a19]) := upd_same
    have q_ := z4 _ _ q_
    refine ⟨_, _, _, _, rfl, rfl, q_, r_, (by show 16 + 4 ≤ sizeLine; decide), fun p4 m4 => ?_⟩
    have y4 := CaL.same_new (o := .lst [V.ref a0, V.ref a1, V.ref a2, V.ref a3, V.ref a4, V.ref a5, V.ref a6, V.ref a7, V.ref a8, V.ref a9, V.ref a10, V.ref a11, V.ref a12, V.ref a13, V.ref a14, V.ref a15, V.ref a16, V.ref a17, V.ref a18, V.ref a19]) m4
    have f_ := s_.free m4
    have g_ := g_.same y4
    have s_ := s_.trans y4
    have q_ : upd (upd H19 l4 (.lst [V.ref a16, V.ref a17, V.ref a18, V.ref a19])) p4 (.lst [V.ref a0, V.ref a1, V.ref a2, V.ref a3, V.ref a4, V.ref a5, V.ref a6, V.ref a7, V.ref a8, V.ref a9, V.ref a10, V.ref a11, V.ref a12, V.ref a13, V.ref a14, V.ref a15, V.ref a16, V.ref a17, V.ref a18, V.ref a19]) p4 = some (.lst [V.ref a0, V.ref a1, V.ref a2, V.ref a3, V.ref a4, V.ref a5, V.ref a6, V.ref a7, V.ref a8, V.ref a9, V.ref a10, V.ref a11, V.ref a12, V.ref a13, V.ref a14, V.ref a15, V.ref a16, V.ref a17, V.ref a18, V.ref a19]) := upd_same
    refine ⟨_, rfl, _, rfl, (by show 1 ≤ 1000; decide), new_step fun a20 H20 s20 e20 => ?_⟩
    have g_ : Sofar cl H20 v [a0, a1, a2, a3, a4, a5, a6, a7, a8, a9, a10, a11, a12, a13, a14, a15, a16, a17, a18, a19, a20] := (g_.same s20).snoc 20 rfl e20
    have s_ := s_.trans s20
    have q_ := s20 _ _ q_
    refine ⟨_, rfl, (by show 1 ≤ 1000; decide), new_step fun a21 H21 s21 e21 => ?_⟩
    have g_ : Sofar cl H21 v [a0, a1, a2, a3, a4, a5, a6, a7, a8, a9, a10, a11, a12, a13, a14, a15, a16, a17, a18, a19, a20, a21] := (g_.same s21).snoc 21 rfl e21
    have s_ := s_.trans s21
    have q_ := s21 _ _ q_
    refine ⟨_, rfl, (by show 1 ≤ 1000; decide), new_step fun a22 H22 s22 e22 => ?_⟩
    have g_ : Sofar cl H22 v [a0, a1, a2, a3, a4, a5, a6, a7, a8, a9, a10, a11, a12, a13, a14, a15, a16, a17, a18, a19, a20, a21, a22] := (g_.same s22).snoc 22 rfl e22
    have s_ := s_.trans s22
    have q_ := s22 _ _ q_
    refine ⟨_, rfl, (by show 1 ≤ 1000; decide), new_step fun a23 H23 s23 e23 => ?_⟩
    have g_ : Sofar cl H23 v [a0, a1, a2, a3, a4, a5, a6, a7, a8, a9, a10, a11, a12, a13, a14, a15, a16, a17, a18, a19, a20, a21, a22, a23] := (g_.same s23).snoc 23 rfl e23
    have s_ := s_.trans s23
    have q_ := s23 _ _ q_
    refine ⟨(by show 4 ≤ sizeLine; decide), fun l5 n5 => ?_⟩
    have z5 := CaL.same_new (o := .lst [V.ref a20, V.ref a21, V.ref a22, V.ref a23]) n5
    have f_ := s_.free n5
    have g_ := g_.same z5
    have s_ := s_.trans z5
    have r_ : upd H23 l5 (.lst [V.ref a20, V.ref a21, V.ref a22, V.ref a23]) l5 = some (.lst [V.ref a20, V.ref a21, V.ref a22, V.ref a23]) := upd_same
    have q_ := z5 _ _ q_
    refine ⟨_, _, _, _, rfl, rfl, q_, r_, (by show 20 + 4 ≤ sizeLine; decide), fun p5 m5 => ?_⟩
    have y5 := CaL.same_new (o := .lst [V.ref a0, V.ref a1, V.ref a2, V.ref a3, V.ref a4, V.ref a5, V.ref a6, V.ref a7, V.ref a8, V.ref a9, V.ref a10, V.ref a11, V.ref a12, V.ref a13, V.ref a14, V.ref a15, V.ref a16, V.ref a17, V.ref a18, V.ref a19, V.ref a20, V.ref a21, V.ref a22, V.ref a23]) m5
    have f_ := s_.free m5
    have g_ := g_.same y5
    have s_ := s_.trans y5
    have q_ : upd (upd H23 l5 (.lst [V.ref a20, V.ref a21, V.ref a22, V.ref a23])) p5 (.lst [V.ref a0, V.ref a1, V.ref a2, V.ref a3, V.ref a4, V.ref a5, V.ref a6, V.ref a7, V.ref a8, V.ref a9, V.ref a10, V.ref a11, V.ref a12, V.ref a13, V.ref a14, V.ref a15, V.ref a16, V.ref a17, V.ref a18, V.ref a19, V.ref a20, V.ref a21, V.ref a22, V.ref a23]) p5 = some (.lst [V.ref a0, V.ref a1, V.ref a2, V.ref a3, V.ref a4, V.ref a5, V.ref a6, V.ref a7, V.ref a8, V.ref a9, V.ref a10, V.ref a11, V.ref a12, V.ref a13, V.ref a14, V.ref a15, V.ref a16, V.ref a17, V.ref a18, V.ref a19, V.ref a20, V.ref a21, V.ref a22, V.ref a23]) := upd_same
    refine ⟨_, rfl, _, rfl, (by show 1 ≤ 1000; decide), new_step fun a24 H24 s24 e24 => ?_⟩
    have g_ : Sofar cl H24 v [a0, a1, a2, a3, a4, a5, a6, a7, a8, a9, a10, a11, a12, a13, a14, a15, a16, a17, a18, a19, a20, a21, a22, a23, a24] := (g_.same s24).snoc 24 rfl e24
    have s_ := s_.trans s24
    have q_ := s24 _ _ q_
    refine ⟨_, rfl, (by show 1 ≤ 1000; decide), new_step fun a25 H25 s25 e25 => ?_⟩
    have g_ : Sofar cl H25 v [a0, a1, a2, a3, a4, a5, a6, a7, a8, a9, a10, a11, a12, a13, a14, a15, a16, a17, a18, a19, a20, a21, a22, a23, a24, a25] := (g_.same s25).snoc 25 rfl e25
    have s_ := s_.trans s25
    have q_ := s25 _ _ q_
    refine ⟨_, rfl, (by show 1 ≤ 1000; decide), new_step fun a26 H26 s26 e26 => ?_⟩
    have g_ : Sofar cl H26 v [a0, a1, a2, a3, a4, a5, a6, a7, a8, a9, a10, a11, a12, a13, a14, a15, a16, a17, a18, a19, a20, a21, a22, a23, a24, a25, a26] := (g_.same s26).snoc 26 rfl e26
    have s_ := s_.trans s26
    have q_ := s26 _ _ q_
    refine ⟨(by show 3 ≤ sizeLine; decide), fun l6 n6 => ?_⟩
    have z6 := CaL.same_new (o := .lst [V.ref a24, V.ref a25, V.ref a26]) n6
    have f_ := s_.free n6
    have g_ := g_.same z6
    have s_ := s_.trans z6
    have r_ : upd H26 l6 (.lst [V.ref a24, V.ref a25, V.ref a26]) l6 = some (.lst [V.ref a24, V.ref a25, V.ref a26]) := upd_same
    have q_ := z6 _ _ q_
    refine ⟨_, _, _, _, rfl, rfl, q_, r_, (by show 24 + 3 ≤ sizeLine; decide), fun p6 m6 => ?_⟩
    have y6 := CaL.same_new (o := .lst [V.ref a0, V.ref a1, V.ref a2, V.ref a3, V.ref a4, V.ref a5, V.ref a6, V.ref a7, V.ref a8, V.ref a9, V.ref a10, V.ref a11, V.ref a12, V.ref a13, V.ref a14, V.ref a15, V.ref a16, V.ref a17, V.ref a18, V.ref a19, V.ref a20, V.ref a21, V.ref a22, V.ref a23, V.ref a24, V.ref a25, V.ref a26]) m6
    have f_ := s_.free m6
    have g_ := g_.same y6
    have s_ := s_.trans y6
    have q_ : upd (upd H26 l6 (.lst [V.ref a24, V.ref a25, V.ref a26])) p6 (.lst [V.ref a0, V.ref a1, V.ref a2, V.ref a3, V.ref a4, V.ref a5, V.ref a6, V.ref a7, V.ref a8, V.ref a9, V.ref a10, V.ref a11, V.ref a12, V.ref a13, V.ref a14, V.ref a15, V.ref a16, V.ref a17, V.ref a18, V.ref a19, V.ref a20, V.ref a21, V.ref a22, V.ref a23, V.ref a24, V.ref a25, V.ref a26]) p6 = some (.lst [V.ref a0, V.ref a1, V.ref a2, V.ref a3, V.ref a4, V.ref a5, V.ref a6, V.ref a7, V.ref a8, V.ref a9, V.ref a10, V.ref a11, V.ref a12, V.ref a13, V.ref a14, V.ref a15, V.ref a16, V.ref a17, V.ref a18, V.ref a19, V.ref a20, V.ref a21, V.ref a22, V.ref a23, V.ref a24, V.ref a25, V.ref a26]) := upd_same
    exact ⟨_, rfl, q _ [a0, a1, a2, a3, a4, a5, a6, a7, a8, a9, a10, a11, a12, a13, a14, a15, a16, a17, a18, a19, a20, a21, a22, a23, a24, a25, a26] _ s_ f_ q_ rfl g_⟩
end
end K03
set_option Elab.async false
set_option linter.all false
set_option maxRecDepth 100000
set_option maxHeartbeats 2000000
namespace K03
open PySem PySem.Spec PyProof.Rows L2 CaV CaK
abbrev s_l_due : Stmt := topS 42
abbrev N_l_due : List Str := ["_law_k"]
theorem sc_l_due : FnScope N_l_due ["_law_k"] (defScope s_l_due) := ⟨rfl, rfl, rfl, by decide +kernel, rfl, by decide +kernel, by decide +kernel⟩
abbrev s_l_bases : Stmt := topS 41
abbrev N_l_bases : List Str := ["_law_error", "_law_found"]
theorem sc_l_bases : FnScope N_l_bases ["_law_error"] (defScope s_l_bases) := ⟨rfl, rfl, rfl, by decide +kernel, rfl, by decide +kernel, by decide +kernel⟩
abbrev s_l_kinds : Stmt := topS 40
abbrev N_l_kinds : List Str := ["_law_error", "_law_found", "_law_k"]
theorem sc_l_kinds : FnScope N_l_kinds ["_law_error"] (defScope s_l_kinds) := ⟨rfl, rfl, rfl, by decide +kernel, rfl, by decide +kernel, by decide +kernel⟩
theorem f_value : ∀ k, k < 19 → fieldOf k = "value" := by decide +kernel
theorem f_name : ∀ k, k < 27 → ¬ k < 19 → k ≠ 21 → k ≠ 22 → k ≠ 25 → fieldOf k = "name" := by decide +kernel
theorem look1 (f : Str) (v : V) : ([(f, v)] : List (Str × V)).lookup f = some v := by simp [List.lookup]
def dueOf (k : Nat) : List V := if k < 23 then [.bl true, .bl false, .bl false, .bl true, .bl false, .bl false] else if k < 26 then [.bl false, .bl true, .bl false, .bl false, .bl true, .bl true] else [.bl false, .bl false, .bl true, .bl false, .bl false, .bl true]
def spDue : Sp := fun vs H Q _ => ∃ k : Nat, vs = [.int k] ∧ ∀ l H', Same H H' → H l = none → H' l = some (.lst (dueOf k)) → Q (.ref l) H'
/-- the number whose demands a class has -/
def grpOf (k : Nat) : Nat := if k < 27 then k else if k < 29 then 26 else if k == 29 then 0 else if k == 30 then 23 else 26
theorem bases_due : ∀ k, k < 32 → [V.bl (isDue k 29), .bl (isDue k 30), .bl (isDue k 31), .bl (builtDue k "ValueError"), .bl (builtDue k "KeyError"), .bl (builtDue k "LookupError")] = dueOf (grpOf k) := by
  intro k hk
  have z : ∀ k, k < 32 → [isDue k 29, isDue k 30, isDue k 31, builtDue k "ValueError", builtDue k "KeyError", builtDue k "LookupError"] = (if grpOf k < 23 then [true, false, false, true, false, false] else if grpOf k < 26 then [false, true, false, false, true, true] else [false, false, true, false, false, true]) := by decide +kernel
  have e := congrArg (List.map V.bl) (z k hk)
  unfold dueOf
  by_cases h1 : grpOf k < 23
  · rw [if_pos h1] at e ⊢
    exact e
  · rw [if_neg h1] at e ⊢
    by_cases h2 : grpOf k < 26
    · rw [if_pos h2] at e ⊢
      exact e
    · rw [if_neg h2] at e ⊢
      exact e
def spBases (cl : Nat → Addr) : Sp := fun vs H Q _ => ∃ (a : Addr) (k : Nat) (fs : Option (List (Str × V))), vs = [.ref a] ∧ k < 32 ∧ Exc H (cl k) a fs ∧ ∀ l H', Same H H' → H l = none → H' l = some (.lst (dueOf (grpOf k))) → Q (.ref l) H'
section
variable {P : Program} {w : World} {K : PySem.W.Frag} {mg : Str → Option Value} {base : Heap} {cl fi : Nat → Addr} {fd : Nat → FuncData}
theorem ok_field {f : Addr} {fd0 : FuncData} {k : Nat} (F : Fun K "_law_field" "_law_field" s_l_field f fd0) (T : TX K mg cl fi fd) : FnOk P w K mg base CX0 (k + 1) f fd0 ["_law_error", "_law_k"] (spField cl) := by
  refine F.ok sc_l_field (fun vs H Q E h => ?_) (fun cdv A outer s H vs Q E hr h => ?_)
  · obtain ⟨a, k, v, rfl, _⟩ := h
    rfl
  · obtain ⟨a, k, v, rfl, hk, ex, q⟩ := h
    have no := T.no k hk
    have kx := T.kx k (by omega)
    refine ⟨_, (pss_cons (ps_if (pt_cmpR op_lt (pv 1) pe_int (nomark _))
      (pss_one (ps_ret (pe_fld (pv 0))))
      pss_nil)
    (pss_cons (ps_if (pt_cmpR op_eq (pv 1) pe_int (nomark _))
      (pss_one (ps_ret (pe_fld (pv 0))))
      pss_nil)
    (pss_cons (ps_if (pt_cmpR op_eq (pv 1) pe_int (nomark _))
      (pss_one (ps_ret (pe_fld (pv 0))))
      pss_nil)
    (pss_one (ps_ret (pe_ifExp (pt_cmpR op_eq (pv 1) pe_int (nomark _)) (pe_fld (pv 0)) (pe_fld (pv 0)))))))), ?_⟩
    refine ⟨_, rfl, _, _, rfl, rfl, _, rfl, ite2 (fun e => ?_) (fun e => ?_)⟩
    · have z : k < 19 := by
        have z := of_decide_eq_true e
        omega
      rw [f_value k z] at no ex
      exact ⟨_, rfl, a, _, _, _, _, v, rfl, kx, no, ex, look1 _ _, q⟩
    have n1 : ¬ k < 19 := by
      have z := of_decide_eq_false (Bool.eq_false_iff.mpr e)
      omega
    refine ⟨_, rfl, rfl, _, rfl, ite2 (fun e => ?_) (fun e => ?_)⟩
    · have z : k = 21 := by
        have z := V.int.inj (of_decide_eq_true e)
        omega
      subst z
      exact ⟨_, rfl, a, _, _, _, _, v, rfl, kx, no, ex, look1 _ _, q⟩
    have n2 : k ≠ 21 := by
      have z := of_decide_eq_false (Bool.eq_false_iff.mpr e)
      exact fun y => z (by rw [y]; rfl)
    refine ⟨_, rfl, rfl, _, rfl, ite2 (fun e => ?_) (fun e => ?_)⟩
    · have z : k = 22 := by
        have z := V.int.inj (of_decide_eq_true e)
        omega
      subst z
      exact ⟨_, rfl, a, _, _, _, _, v, rfl, kx, no, ex, look1 _ _, q⟩
    have n3 : k ≠ 22 := by
      have z := of_decide_eq_false (Bool.eq_false_iff.mpr e)
      exact fun y => z (by rw [y]; rfl)
    refine ⟨_, rfl, rfl, _, rfl, ite2 (fun e => ?_) (fun e => ?_)⟩
    · have z : k = 25 := by
        have z := V.int.inj (of_decide_eq_true e)
        omega
      subst z
      exact ⟨_, rfl, a, _, _, _, _, v, rfl, kx, no, ex, look1 _ _, q⟩
    · have n4 : k ≠ 25 := by
        have z := of_decide_eq_false (Bool.eq_false_iff.mpr e)
        exact fun y => z (by rw [y]; rfl)
      rw [f_name k hk n1 n2 n3 n4] at no ex
      exact ⟨_, rfl, a, _, _, _, _, v, rfl, kx, no, ex, look1 _ _, q⟩
theorem ok_due {f : Addr} {fd0 : FuncData} {k : Nat} (F : Fun K "_law_due" "_law_due" s_l_due f fd0) : FnOk P w K mg base CX0 (k + 1) f fd0 ["_law_k"] spDue := by
  refine F.ok sc_l_due (fun vs H Q E h => ?_) (fun cdv A outer s H vs Q E hr h => ?_)
  · obtain ⟨k, rfl, _⟩ := h
    rfl
  · obtain ⟨k, rfl, q⟩ := h
    refine ⟨_, (pss_cons (ps_if (pt_cmpR op_lt (pv 0) pe_int (nomark _))
      (pss_one (ps_ret (pe_lst (pa_cons pe_bl (pa_cons pe_bl (pa_cons pe_bl (pa_cons pe_bl (pa_cons pe_bl (pa_cons pe_bl pa_nil)))))))))
      pss_nil)
    (pss_cons (ps_if (pt_cmpR op_lt (pv 0) pe_int (nomark _))
      (pss_one (ps_ret (pe_lst (pa_cons pe_bl (pa_cons pe_bl (pa_cons pe_bl (pa_cons pe_bl (pa_cons pe_bl (pa_cons pe_bl pa_nil)))))))))
      pss_nil)
    (pss_one (ps_ret (pe_lst (pa_cons pe_bl (pa_cons pe_bl (pa_cons pe_bl (pa_cons pe_bl (pa_cons pe_bl (pa_cons pe_bl pa_nil))))))))))), ?_⟩
    unfold dueOf at q
    refine ⟨_, rfl, _, _, rfl, rfl, _, rfl, ite2 (fun e => ?_) (fun e => ?_)⟩
    · have z : k < 23 := by
        have z := of_decide_eq_true e
        omega
      rw [if_pos z] at q
      exact ⟨(by show 6 ≤ sizeLine; decide), fun l n => q l _ (CaL.same_new n) n upd_same⟩
    have n1 : ¬ k < 23 := by
      have z := of_decide_eq_false (Bool.eq_false_iff.mpr e)
      omega
    rw [if_neg n1] at q
    refine ⟨_, rfl, _, _, rfl, rfl, _, rfl, ite2 (fun e => ?_) (fun e => ?_)⟩
    · have z : k < 26 := by
        have z := of_decide_eq_true e
        omega
      rw [if_pos z] at q
      exact ⟨(by show 6 ≤ sizeLine; decide), fun l n => q l _ (CaL.same_new n) n upd_same⟩
    have n2 : ¬ k < 26 := by
      have z := of_decide_eq_false (Bool.eq_false_iff.mpr e)
      omega
    rw [if_neg n2] at q
    exact ⟨(by show 6 ≤ sizeLine; decide), fun l n => q l _ (CaL.same_new n) n upd_same⟩
theorem ok_bases {f : Addr} {fd0 : FuncData} {k : Nat} (F : Fun K "_law_bases" "_law_bases" s_l_bases f fd0) (T : TX K mg cl fi fd) (N : TN mg) : FnOk P w K mg base CX0 (k + 1) f fd0 ["_law_error"] (spBases cl) := by
  have gl29 : mg "CaughtError" = some (.ref (cl 29)) := T.gl 29 (by decide)
  have gl30 : mg "AbsentError" = some (.ref (cl 30)) := T.gl 30 (by decide)
  have gl31 : mg "StateError" = some (.ref (cl 31)) := T.gl 31 (by decide)
  refine F.ok sc_l_bases (fun vs H Q E h => ?_) (fun cdv A outer s H vs Q E hr h => ?_)
  · obtain ⟨a, k, fs, rfl, _⟩ := h
    rfl
  · obtain ⟨a, k, fs, rfl, hk, ex, q⟩ := h
    have kx := T.kx k hk
    rw [← bases_due k hk] at q
    refine ⟨_, (pss_cons (ps_set (i := 1) sc_l_bases.nd rfl (.inl rfl) (pe_lst (pa_cons (pe_callB (call_isG T.hn T.ht) (by rfl) N.n_isinstance (by decide +kernel) (pa_cons (pv 0) (pa_cons (pe_glob (v := .ref (cl 29)) rfl gl29 rfl) pa_nil))) (pa_cons (pe_callB (call_isG T.hn T.ht) (by rfl) N.n_isinstance (by decide +kernel) (pa_cons (pv 0) (pa_cons (pe_glob (v := .ref (cl 30)) rfl gl30 rfl) pa_nil))) (pa_cons (pe_callB (call_isG T.hn T.ht) (by rfl) N.n_isinstance (by decide +kernel) (pa_cons (pv 0) (pa_cons (pe_glob (v := .ref (cl 31)) rfl gl31 rfl) pa_nil))) pa_nil)))))
    (pss_one (ps_ret (pe_op op_cat (pv 1) (pe_lst (pa_cons (pe_callB (call_isG T.hn T.ht) (by rfl) N.n_isinstance (by decide +kernel) (pa_cons (pv 0) (pa_cons (pe_bltn (v := .ty "ValueError") (by rfl) N.n_ValueError (by decide +kernel) rfl) pa_nil))) (pa_cons (pe_callB (call_isG T.hn T.ht) (by rfl) N.n_isinstance (by decide +kernel) (pa_cons (pv 0) (pa_cons (pe_bltn (v := .ty "KeyError") (by rfl) N.n_KeyError (by decide +kernel) rfl) pa_nil))) (pa_cons (pe_callB (call_isG T.hn T.ht) (by rfl) N.n_isinstance (by decide +kernel) (pa_cons (pv 0) (pa_cons (pe_bltn (v := .ty "LookupError") (by rfl) N.n_LookupError (by decide +kernel) rfl) pa_nil))) pa_nil)))))))), ?_⟩
    have ty : ∀ {H' : Hp}, Same H H' → TyG K H' (.ref a) (.ref (cl k)) := fun s => .inr ⟨_, a, _, _, fs, rfl, rfl, kx, Exc.same ex s⟩
    refine ⟨_, rfl, _, _, _, _, _, rfl, .own _, ty (Same.refl H), T.is_ k hk 29 (by decide), ?_⟩
    refine ⟨_, rfl, _, _, _, _, _, rfl, .own _, ty (Same.refl H), T.is_ k hk 30 (by decide), ?_⟩
    refine ⟨_, rfl, _, _, _, _, _, rfl, .own _, ty (Same.refl H), T.is_ k hk 31 (by decide), ?_⟩
    refine ⟨(by show 3 ≤ sizeLine; decide), fun l n => ?_⟩
    have s1 := CaL.same_new (o := .lst [.bl (isDue k 29), .bl (isDue k 30), .bl (isDue k 31)]) n
    have q1 : upd H l (.lst [.bl (isDue k 29), .bl (isDue k 30), .bl (isDue k 31)]) l = some (.lst [.bl (isDue k 29), .bl (isDue k 30), .bl (isDue k 31)]) := upd_same
    refine ⟨_, rfl, _, rfl, _, _, _, _, _, rfl, .ty _, ty s1, T.bu k hk _ (.inl rfl), ?_⟩
    refine ⟨_, rfl, _, _, _, _, _, rfl, .ty _, ty s1, T.bu k hk _ (.inr (.inl rfl)), ?_⟩
    refine ⟨_, rfl, _, _, _, _, _, rfl, .ty _, ty s1, T.bu k hk _ (.inr (.inr rfl)), ?_⟩
    refine ⟨(by show 3 ≤ sizeLine; decide), fun l2 n2 => ?_⟩
    have s2 := CaL.same_new (o := .lst [.bl (builtDue k "ValueError"), .bl (builtDue k "KeyError"), .bl (builtDue k "LookupError")]) n2
    refine ⟨_, _, _, _, rfl, rfl, s2 _ _ q1, upd_same, (by show 3 + 3 ≤ sizeLine; decide), fun p np => ?_⟩
    exact q p _ ((s1.trans s2).trans (CaL.same_new np)) ((s1.trans s2).free np) upd_same
end
end K03
set_option Elab.async false
set_option linter.all false
set_option maxRecDepth 100000
set_option maxHeartbeats 4000000
namespace K03
open PySem PySem.Spec PyProof.Rows L2 CaV CaK
def kindsOf (k : Nat) : List V := if k < 29 then [.int k] else []
def upTo (k i : Nat) : List V := ((List.range i).filter (isDue k)).map fun n : Nat => V.int (n : Int)
theorem upTo_end : ∀ k, k < 32 → upTo k 29 = kindsOf k := by
  intro k hk
  have z : ∀ k, k < 32 → (List.range 29).filter (isDue k) = if k < 29 then [k] else [] := by decide +kernel
  unfold upTo kindsOf
  rw [z k hk]
  split <;> rfl
theorem upTo_succ (k i : Nat) : upTo k (i + 1) = upTo k i ++ (if isDue k i = true then [V.int i] else []) := by
  unfold upTo
  rw [List.range_succ, List.filter_append, List.map_append]
  congr 1
  by_cases h : isDue k i = true
  · rw [if_pos h, List.filter_cons_of_pos h]
    rfl
  · rw [if_neg h, List.filter_cons_of_neg h]
    rfl
theorem upTo_len (k i : Nat) : (upTo k i).length ≤ i := by
  unfold upTo
  rw [List.length_map]
  have z := List.length_filter_le (isDue k) (List.range i)
  rwa [List.length_range] at z
def spKinds (cl : Nat → Addr) : Sp := fun vs H Q _ => ∃ (a : Addr) (k : Nat) (fs : Option (List (Str × V))), vs = [.ref a] ∧ k < 32 ∧ Exc H (cl k) a fs ∧ ∀ l H', Same H H' → H l = none → H' l = some (.lst (kindsOf k)) → Q (.ref l) H'
section
variable {P : Program} {w : World} {K : PySem.W.Frag} {mg : Str → Option Value} {base : Heap} {cl fi : Nat → Addr} {fd : Nat → FuncData}
theorem isi_at {K : PySem.W.Frag} {H : Hp} {σ : L2.St} {a C D : Addr} {b : Bool} {Q : VK} (h0 : σ[0]? = some (some (.ref a))) (ty : TyG K H (.ref a) (.ref C)) (e : PySem.W.kitOne K (.ref C) (.ref D) = some b) (q : Q (.bl b) H) :
    tCB (rIsG K) (tCons (tVar 0) (tCons (tC (.ref D)) tNil)) σ H Q := ⟨_, h0, _, _, _, _, _, rfl, .own _, ty, e, q⟩
theorem two_at {K : PySem.W.Frag} {H : Hp} {σ : L2.St} {a C D D2 : Addr} {b b2 : Bool} {Q : VK} (h0 : σ[0]? = some (some (.ref a))) (ty : TyG K H (.ref a) (.ref C)) (e : PySem.W.kitOne K (.ref C) (.ref D) = some b) (e2 : PySem.W.kitOne K (.ref C) (.ref D2) = some b2)
    (q : ∀ p H', Same H H' → H p = none → H' p = some (.lst [.bl b, .bl b2]) → Q (.ref p) H') :
    tLst (tCons (tCB (rIsG K) (tCons (tVar 0) (tCons (tC (.ref D)) tNil))) (tCons (tCB (rIsG K) (tCons (tVar 0) (tCons (tC (.ref D2)) tNil))) tNil)) σ H Q :=
  isi_at h0 ty e (isi_at h0 ty e2 ⟨(by show 2 ≤ sizeLine; decide), fun p np => q p _ (CaL.same_new np) np upd_same⟩)
theorem one_at {K : PySem.W.Frag} {H : Hp} {σ : L2.St} {a C D : Addr} {b : Bool} {Q : VK} (h0 : σ[0]? = some (some (.ref a))) (ty : TyG K H (.ref a) (.ref C)) (e : PySem.W.kitOne K (.ref C) (.ref D) = some b)
    (q : ∀ p H', Same H H' → H p = none → H' p = some (.lst [.bl b]) → Q (.ref p) H') :
    tLst (tCons (tCB (rIsG K) (tCons (tVar 0) (tCons (tC (.ref D)) tNil))) tNil) σ H Q :=
  isi_at h0 ty e ⟨(by show 1 ≤ sizeLine; decide), fun p np => q p _ (CaL.same_new np) np upd_same⟩
/-- found = found + [..], a list put behind -/
theorem cat_at {H : Hp} {σ : L2.St} {l : Addr} {xs ys : List V} {te : TE} {Q : VK} (h1 : σ[1]? = some (some (.ref l))) (hl : H l = some (.lst xs)) (sz : xs.length + ys.length ≤ sizeLine)
    (step : (∀ p H', Same H H' → H p = none → H' p = some (.lst ys) → rCat (.ref l) (.ref p) H' Q) → te σ H fun y H2 => rCat (.ref l) y H2 Q)
    (q : ∀ p H', Same H H' → H' p = some (.lst (xs ++ ys)) → Q (.ref p) H') : tOp rCat (tVar 1) te σ H Q :=
  ⟨_, h1, step fun p H' s np hp => ⟨l, p, xs, ys, rfl, rfl, s _ _ hl, hp, sz, fun p2 n2 => q p2 _ (s.trans (CaL.same_new n2)) upd_same⟩⟩
theorem set_at {te : TE} {i : Nat} {rest : TS} {D : Ends} {σ : L2.St} {H : Hp} (σ' : V → L2.St) (e : ∀ x, σ.set i (some x) = σ' x) (h : te σ H fun x H1 => rest D (σ' x) H1) : tSeq (tAsg te (gName i)) rest D σ H := by
  have z : (fun x H1 => rest D (σ.set i (some x)) H1) = fun x H1 => rest D (σ' x) H1 := by
    funext x H1
    rw [e x]
  show te σ H fun x H1 => rest D (σ.set i (some x)) H1
  rw [z]
  exact h
theorem ok_kinds {f : Addr} {fd0 : FuncData} {k : Nat} (F : Fun K "_law_kinds" "_law_kinds" s_l_kinds f fd0) (T : TX K mg cl fi fd) (N : TN mg) : FnOk P w K mg base CX0 (k + 1) f fd0 ["_law_error"] (spKinds cl) := by
  have gl0 : mg "InvalidName" = some (.ref (cl 0)) := T.gl 0 (by decide)
  have gl1 : mg "InvalidTerm" = some (.ref (cl 1)) := T.gl 1 (by decide)
  have gl2 : mg "InvalidBody" = some (.ref (cl 2)) := T.gl 2 (by decide)
  have gl3 : mg "InvalidProgram" = some (.ref (cl 3)) := T.gl 3 (by decide)
  have gl4 : mg "InvalidParameters" = some (.ref (cl 4)) := T.gl 4 (by decide)
  have gl5 : mg "InvalidTemplate" = some (.ref (cl 5)) := T.gl 5 (by decide)
  have gl6 : mg "InvalidCall" = some (.ref (cl 6)) := T.gl 6 (by decide)
  have gl7 : mg "InvalidBook" = some (.ref (cl 7)) := T.gl 7 (by decide)
  have gl8 : mg "InvalidChoice" = some (.ref (cl 8)) := T.gl 8 (by decide)
  have gl9 : mg "InvalidFillings" = some (.ref (cl 9)) := T.gl 9 (by decide)
  have gl10 : mg "InvalidSite" = some (.ref (cl 10)) := T.gl 10 (by decide)
  have gl11 : mg "InvalidTables" = some (.ref (cl 11)) := T.gl 11 (by decide)
  have gl12 : mg "InvalidMeaning" = some (.ref (cl 12)) := T.gl 12 (by decide)
  have gl13 : mg "InvalidText" = some (.ref (cl 13)) := T.gl 13 (by decide)
  have gl14 : mg "InvalidLine" = some (.ref (cl 14)) := T.gl 14 (by decide)
  have gl15 : mg "InvalidLines" = some (.ref (cl 15)) := T.gl 15 (by decide)
  have gl16 : mg "InvalidMode" = some (.ref (cl 16)) := T.gl 16 (by decide)
  have gl17 : mg "InvalidLetter" = some (.ref (cl 17)) := T.gl 17 (by decide)
  have gl18 : mg "UnlikeParameters" = some (.ref (cl 18)) := T.gl 18 (by decide)
  have gl19 : mg "Duplicate" = some (.ref (cl 19)) := T.gl 19 (by decide)
  have gl20 : mg "Reserved" = some (.ref (cl 20)) := T.gl 20 (by decide)
  have gl21 : mg "TooLarge" = some (.ref (cl 21)) := T.gl 21 (by decide)
  have gl22 : mg "InvalidRow" = some (.ref (cl 22)) := T.gl 22 (by decide)
  have gl23 : mg "UnknownTemplate" = some (.ref (cl 23)) := T.gl 23 (by decide)
  have gl24 : mg "UnknownHole" = some (.ref (cl 24)) := T.gl 24 (by decide)
  have gl25 : mg "UnknownBinder" = some (.ref (cl 25)) := T.gl 25 (by decide)
  have gl26 : mg "StillCalled" = some (.ref (cl 26)) := T.gl 26 (by decide)
  have gl27 : mg "NothingToUndo" = some (.ref (cl 27)) := T.gl 27 (by decide)
  have gl28 : mg "NothingToRedo" = some (.ref (cl 28)) := T.gl 28 (by decide)
  refine F.ok sc_l_kinds (fun vs H Q E h => ?_) (fun cdv A outer s H vs Q E hr h => ?_)
  · obtain ⟨a, k, fs, rfl, _⟩ := h
    rfl
  · obtain ⟨a, k, fs, rfl, hk, ex, q⟩ := h
    have kx := T.kx k hk
    have ty : ∀ {H' : Hp}, Same H H' → TyG K H' (.ref a) (.ref (cl k)) := fun s => .inr ⟨_, a, _, _, fs, rfl, rfl, kx, Exc.same ex s⟩
    refine ⟨_, (pss_cons (ps_set (i := 1) sc_l_kinds.nd rfl (.inr rfl) (pe_lst (pa_cons (pe_callB (call_isG T.hn T.ht) (by rfl) N.n_isinstance (by decide +kernel) (pa_cons (pv 0) (pa_cons (pe_glob (v := .ref (cl 0)) rfl gl0 rfl) pa_nil))) (pa_cons (pe_callB (call_isG T.hn T.ht) (by rfl) N.n_isinstance (by decide +kernel) (pa_cons (pv 0) (pa_cons (pe_glob (v := .ref (cl 1)) rfl gl1 rfl) pa_nil))) pa_nil))))
    (pss_cons (ps_set (i := 1) sc_l_kinds.nd rfl (.inr rfl) (pe_op op_cat (pv 1) (pe_lst (pa_cons (pe_callB (call_isG T.hn T.ht) (by rfl) N.n_isinstance (by decide +kernel) (pa_cons (pv 0) (pa_cons (pe_glob (v := .ref (cl 2)) rfl gl2 rfl) pa_nil))) (pa_cons (pe_callB (call_isG T.hn T.ht) (by rfl) N.n_isinstance (by decide +kernel) (pa_cons (pv 0) (pa_cons (pe_glob (v := .ref (cl 3)) rfl gl3 rfl) pa_nil))) pa_nil)))))
    (pss_cons (ps_set (i := 1) sc_l_kinds.nd rfl (.inr rfl) (pe_op op_cat (pv 1) (pe_lst (pa_cons (pe_callB (call_isG T.hn T.ht) (by rfl) N.n_isinstance (by decide +kernel) (pa_cons (pv 0) (pa_cons (pe_glob (v := .ref (cl 4)) rfl gl4 rfl) pa_nil))) (pa_cons (pe_callB (call_isG T.hn T.ht) (by rfl) N.n_isinstance (by decide +kernel) (pa_cons (pv 0) (pa_cons (pe_glob (v := .ref (cl 5)) rfl gl5 rfl) pa_nil))) pa_nil)))))
    (pss_cons (ps_set (i := 1) sc_l_kinds.nd rfl (.inr rfl) (pe_op op_cat (pv 1) (pe_lst (pa_cons (pe_callB (call_isG T.hn T.ht) (by rfl) N.n_isinstance (by decide +kernel) (pa_cons (pv 0) (pa_cons (pe_glob (v := .ref (cl 6)) rfl gl6 rfl) pa_nil))) (pa_cons (pe_callB (call_isG T.hn T.ht) (by rfl) N.n_isinstance (by decide +kernel) (pa_cons (pv 0) (pa_cons (pe_glob (v := .ref (cl 7)) rfl gl7 rfl) pa_nil))) pa_nil)))))
    (pss_cons (ps_set (i := 1) sc_l_kinds.nd rfl (.inr rfl) (pe_op op_cat (pv 1) (pe_lst (pa_cons (pe_callB (call_isG T.hn T.ht) (by rfl) N.n_isinstance (by decide +kernel) (pa_cons (pv 0) (pa_cons (pe_glob (v := .ref (cl 8)) rfl gl8 rfl) pa_nil))) (pa_cons (pe_callB (call_isG T.hn T.ht) (by rfl) N.n_isinstance (by decide +kernel) (pa_cons (pv 0) (pa_cons (pe_glob (v := .ref (cl 9)) rfl gl9 rfl) pa_nil))) pa_nil)))))
    (pss_cons (ps_set (i := 1) sc_l_kinds.nd rfl (.inr rfl) (pe_op op_cat (pv 1) (pe_lst (pa_cons (pe_callB (call_isG T.hn T.ht) (by rfl) N.n_isinstance (by decide +kernel) (pa_cons (pv 0) (pa_cons (pe_glob (v := .ref (cl 10)) rfl gl10 rfl) pa_nil))) (pa_cons (pe_callB (call_isG T.hn T.ht) (by rfl) N.n_isinstance (by decide +kernel) (pa_cons (pv 0) (pa_cons (pe_glob (v := .ref (cl 11)) rfl gl11 rfl) pa_nil))) pa_nil)))))
    (pss_cons (ps_set (i := 1) sc_l_kinds.nd rfl (.inr rfl) (pe_op op_cat (pv 1) (pe_lst (pa_cons (pe_callB (call_isG T.hn T.ht) (by rfl) N.n_isinstance (by decide +kernel) (pa_cons (pv 0) (pa_cons (pe_glob (v := .ref (cl 12)) rfl gl12 rfl) pa_nil))) (pa_cons (pe_callB (call_isG T.hn T.ht) (by rfl) N.n_isinstance (by decide +kernel) (pa_cons (pv 0) (pa_cons (pe_glob (v := .ref (cl 13)) rfl gl13 rfl) pa_nil))) pa_nil)))))
    (pss_cons (ps_set (i := 1) sc_l_kinds.nd rfl (.inr rfl) (pe_op op_cat (pv 1) (pe_lst (pa_cons (pe_callB (call_isG T.hn T.ht) (by rfl) N.n_isinstance (by decide +kernel) (pa_cons (pv 0) (pa_cons (pe_glob (v := .ref (cl 14)) rfl gl14 rfl) pa_nil))) (pa_cons (pe_callB (call_isG T.hn T.ht) (by rfl) N.n_isinstance (by decide +kernel) (pa_cons (pv 0) (pa_cons (pe_glob (v := .ref (cl 15)) rfl gl15 rfl) pa_nil))) pa_nil)))))
    (pss_cons (ps_set (i := 1) sc_l_kinds.nd rfl (.inr rfl) (pe_op op_cat (pv 1) (pe_lst (pa_cons (pe_callB (call_isG T.hn T.ht) (by rfl) N.n_isinstance (by decide +kernel) (pa_cons (pv 0) (pa_cons (pe_glob (v := .ref (cl 16)) rfl gl16 rfl) pa_nil))) (pa_cons (pe_callB (call_isG T.hn T.ht) (by rfl) N.n_isinstance (by decide +kernel) (pa_cons (pv 0) (pa_cons (pe_glob (v := .ref (cl 17)) rfl gl17 rfl) pa_nil))) pa_nil)))))
    (pss_cons (ps_set (i := 1) sc_l_kinds.nd rfl (.inr rfl) (pe_op op_cat (pv 1) (pe_lst (pa_cons (pe_callB (call_isG T.hn T.ht) (by rfl) N.n_isinstance (by decide +kernel) (pa_cons (pv 0) (pa_cons (pe_glob (v := .ref (cl 18)) rfl gl18 rfl) pa_nil))) (pa_cons (pe_callB (call_isG T.hn T.ht) (by rfl) N.n_isinstance (by decide +kernel) (pa_cons (pv 0) (pa_cons (pe_glob (v := .ref (cl 19)) rfl gl19 rfl) pa_nil))) pa_nil)))))
    (pss_cons (ps_set (i := 1) sc_l_kinds.nd rfl (.inr rfl) (pe_op op_cat (pv 1) (pe_lst (pa_cons (pe_callB (call_isG T.hn T.ht) (by rfl) N.n_isinstance (by decide +kernel) (pa_cons (pv 0) (pa_cons (pe_glob (v := .ref (cl 20)) rfl gl20 rfl) pa_nil))) (pa_cons (pe_callB (call_isG T.hn T.ht) (by rfl) N.n_isinstance (by decide +kernel) (pa_cons (pv 0) (pa_cons (pe_glob (v := .ref (cl 21)) rfl gl21 rfl) pa_nil))) pa_nil)))))
    (pss_cons (ps_set (i := 1) sc_l_kinds.nd rfl (.inr rfl) (pe_op op_cat (pv 1) (pe_lst (pa_cons (pe_callB (call_isG T.hn T.ht) (by rfl) N.n_isinstance (by decide +kernel) (pa_cons (pv 0) (pa_cons (pe_glob (v := .ref (cl 22)) rfl gl22 rfl) pa_nil))) (pa_cons (pe_callB (call_isG T.hn T.ht) (by rfl) N.n_isinstance (by decide +kernel) (pa_cons (pv 0) (pa_cons (pe_glob (v := .ref (cl 23)) rfl gl23 rfl) pa_nil))) pa_nil)))))
    (pss_cons (ps_set (i := 1) sc_l_kinds.nd rfl (.inr rfl) (pe_op op_cat (pv 1) (pe_lst (pa_cons (pe_callB (call_isG T.hn T.ht) (by rfl) N.n_isinstance (by decide +kernel) (pa_cons (pv 0) (pa_cons (pe_glob (v := .ref (cl 24)) rfl gl24 rfl) pa_nil))) (pa_cons (pe_callB (call_isG T.hn T.ht) (by rfl) N.n_isinstance (by decide +kernel) (pa_cons (pv 0) (pa_cons (pe_glob (v := .ref (cl 25)) rfl gl25 rfl) pa_nil))) pa_nil)))))
    (pss_cons (ps_set (i := 1) sc_l_kinds.nd rfl (.inr rfl) (pe_op op_cat (pv 1) (pe_lst (pa_cons (pe_callB (call_isG T.hn T.ht) (by rfl) N.n_isinstance (by decide +kernel) (pa_cons (pv 0) (pa_cons (pe_glob (v := .ref (cl 26)) rfl gl26 rfl) pa_nil))) (pa_cons (pe_callB (call_isG T.hn T.ht) (by rfl) N.n_isinstance (by decide +kernel) (pa_cons (pv 0) (pa_cons (pe_glob (v := .ref (cl 27)) rfl gl27 rfl) pa_nil))) pa_nil)))))
    (pss_cons (ps_set (i := 1) sc_l_kinds.nd rfl (.inr rfl) (pe_op op_cat (pv 1) (pe_lst (pa_cons (pe_callB (call_isG T.hn T.ht) (by rfl) N.n_isinstance (by decide +kernel) (pa_cons (pv 0) (pa_cons (pe_glob (v := .ref (cl 28)) rfl gl28 rfl) pa_nil))) pa_nil))))
    (pss_one (ps_ret (pe_lc (own := [("_law_k", 2)]) (g := gName 2) (by rfl) sc_l_kinds.nd (pi_range1 (by rfl) N.n_range (pa_cons (pe_callB call_len_seq (by rfl) N.n_len PySem.boot_len (pa_cons (pv 1) pa_nil)) pa_nil)) (blkOk_by (own := [("_law_k", 2)]) (N := N_l_kinds) (sc := defScope s_l_kinds) (by decide +kernel)) (fun _ _ _ _ _ => pg_name (i := 2) sc_l_kinds.nd rfl (Or.inl rfl)) (fun _ _ _ _ _ => (pts_one (pt_val (pe_ix (r := rIxL K) ix_list (pv 1) (pv 2) (fun _ _ => rfl))))) (fun _ _ _ _ _ => (pv 2)))))))))))))))))))), ?_⟩
    have s_ := Same.refl H
    refine set_at (fun x => [some (.ref a), some x, none]) (fun _ => rfl) (two_at rfl (ty s_) (T.is_ k hk 0 (by decide)) (T.is_ k hk 1 (by decide)) fun p0 G0 s0 _ q_ => ?_)
    have s_ := s_.trans s0
    refine set_at (fun x => [some (.ref a), some x, none]) (fun _ => rfl) (cat_at (ys := [.bl (isDue k 2), .bl (isDue k 3)]) rfl q_ (by show 2 + 2 ≤ sizeLine; decide) (fun go => two_at rfl (ty s_) (T.is_ k hk 2 (by decide)) (T.is_ k hk 3 (by decide)) go) fun p1 G1 s1 q_ => ?_)
    have s_ := s_.trans s1
    replace q_ : G1 p1 = some (.lst [.bl (isDue k 0), .bl (isDue k 1), .bl (isDue k 2), .bl (isDue k 3)]) := q_
    refine set_at (fun x => [some (.ref a), some x, none]) (fun _ => rfl) (cat_at (ys := [.bl (isDue k 4), .bl (isDue k 5)]) rfl q_ (by show 4 + 2 ≤ sizeLine; decide) (fun go => two_at rfl (ty s_) (T.is_ k hk 4 (by decide)) (T.is_ k hk 5 (by decide)) go) fun p2 G2 s2 q_ => ?_)
    have s_ := s_.trans s2
    replace q_ : G2 p2 = some (.lst [.bl (isDue k 0), .bl (isDue k 1), .bl (isDue k 2), .bl (isDue k 3), .bl (isDue k 4), .bl (isDue k 5)]) := q_
    refine set_at (fun x => [some (.ref a), some x, none]) (fun _ => rfl) (cat_at (ys := [.bl (isDue k 6), .bl (isDue k 7)]) rfl q_ (by show 6 + 2 ≤ sizeLine; decide) (fun go => two_at rfl (ty s_) (T.is_ k hk 6 (by decide)) (T.is_ k hk 7 (by decide)) go) fun p3 G3 s3 q_ => ?_)
    have s_ := s_.trans s3
    replace q_ : G3 p3 = some (.lst [.bl (isDue k 0), .bl (isDue k 1), .bl (isDue k 2), .bl (isDue k 3), .bl (isDue k 4), .bl (isDue k 5), .bl (isDue k 6), .bl (isDue k 7)]) := q_
    refine set_at (fun x => [some (.ref a), some x, none]) (fun _ => rfl) (cat_at (ys := [.bl (isDue k 8), .bl (isDue k 9)]) rfl q_ (by show 8 + 2 ≤ sizeLine; decide) (fun go => two_at rfl (ty s_) (T.is_ k hk 8 (by decide)) (T.is_ k hk 9 (by decide)) go) fun p4 G4 s4 q_ => ?_)
    have s_ := s_.trans s4
    replace q_ : G4 p4 = some (.lst [.bl (isDue k 0), .bl (isDue k 1), .bl (isDue k 2), .bl (isDue k 3), .bl (isDue k 4), .bl (isDue k 5), .bl (isDue k 6), .bl (isDue k 7), .bl (isDue k 8), .bl (isDue k 9)]) := q_
    refine set_at (fun x => [some (.ref a), some x, none]) (fun _ => rfl) (cat_at (ys := [.bl (isDue k 10), .bl (isDue k 11)]) rfl q_ (by show 10 + 2 ≤ sizeLine; decide) (fun go => two_at rfl (ty s_) (T.is_ k hk 10 (by decide)) (T.is_ k hk 11 (by decide)) go) fun p5 G5 s5 q_ => ?_)
    have s_ := s_.trans s5
    replace q_ : G5 p5 = some (.lst [.bl (isDue k 0), .bl (isDue k 1), .bl (isDue k 2), .bl (isDue k 3), .bl (isDue k 4), .bl (isDue k 5), .bl (isDue k 6), .bl (isDue k 7), .bl (isDue k 8), .bl (isDue k 9), .bl (isDue k 10), .bl (isDue k 11)]) := q_
    refine set_at (fun x => [some (.ref a), some x, none]) (fun _ => rfl) (cat_at (ys := [.bl (isDue k 12), .bl (isDue k 13)]) rfl q_ (by show 12 + 2 ≤ sizeLine; decide) (fun go => two_at rfl (ty s_) (T.is_ k hk 12 (by decide)) (T.is_ k hk 13 (by decide)) go) fun p6 G6 s6 q_ => ?_)
    have s_ := s_.trans s6
    replace q_ : G6 p6 = some (.lst [.bl (isDue k 0), .bl (isDue k 1), .bl (isDue k 2), .bl (isDue k 3), .bl (isDue k 4), .bl (isDue k 5), .bl (isDue k 6), .bl (isDue k 7), .bl (isDue k 8), .bl (isDue k 9), .bl (isDue k 10), .bl (isDue k 11), .bl (isDue k 12), .bl (isDue k 13)]) := q_
    refine set_at (fun x => [some (.ref a), some x, none]) (fun _ => rfl) (cat_at (ys := [.bl (isDue k 14), .bl (isDue k 15)]) rfl q_ (by show 14 + 2 ≤ sizeLine; decide) (fun go => two_at rfl (ty s_) (T.is_ k hk 14 (by decide)) (T.is_ k hk 15 (by decide)) go) fun p7 G7 s7 q_ => ?_)
    have s_ := s_.trans s7
    replace q_ : G7 p7 = some (.lst [.bl (isDue k 0), .bl (isDue k 1), .bl (isDue k 2), .bl (isDue k 3), .bl (isDue k 4), .bl (isDue k 5), .bl (isDue k 6), .bl (isDue k 7), .bl (isDue k 8), .bl (isDue k 9), .bl (isDue k 10), .bl (isDue k 11), .bl (isDue k 12), .bl (isDue k 13), .bl (isDue k 14), .bl (isDue k 15)]) := q_
    refine set_at (fun x => [some (.ref a), some x, none]) (fun _ => rfl) (cat_at (ys := [.bl (isDue k 16), .bl (isDue k 17)]) rfl q_ (by show 16 + 2 ≤ sizeLine; decide) (fun go => two_at rfl (ty s_) (T.is_ k hk 16 (by decide)) (T.is_ k hk 17 (by decide)) go) fun p8 G8 s8 q_ => ?_)
    have s_ := s_.trans s8
    replace q_ : G8 p8 = some (.lst [.bl (isDue k 0), .bl (isDue k 1), .bl (isDue k 2), .bl (isDue k 3), .bl (isDue k 4), .bl (isDue k 5), .bl (isDue k 6), .bl (isDue k 7), .bl (isDue k 8), .bl (isDue k 9), .bl (isDue k 10), .bl (isDue k 11), .bl (isDue k 12), .bl (isDue k 13), .bl (isDue k 14), .bl (isDue k 15), .bl (isDue k 16), .bl (isDue k 17)]) := q_
    refine set_at (fun x => [some (.ref a), some x, none]) (fun _ => rfl) (cat_at (ys := [.bl (isDue k 18), .bl (isDue k 19)]) rfl q_ (by show 18 + 2 ≤ sizeLine; decide) (fun go => two_at rfl (ty s_) (T.is_ k hk 18 (by decide)) (T.is_ k hk 19 (by decide)) go) fun p9 G9 s9 q_ => ?_)
    have s_ := s_.trans s9
    replace q_ : G9 p9 = some (.lst [.bl (isDue k 0), .bl (isDue k 1), .bl (isDue k 2), .bl (isDue k 3), .bl (isDue k 4), .bl (isDue k 5), .bl (isDue k 6), .bl (isDue k 7), .bl (isDue k 8), .bl (isDue k 9), .bl (isDue k 10), .bl (isDue k 11), .bl (isDue k 12), .bl (isDue k 13), .bl (isDue k 14), .bl (isDue k 15), .bl (isDue k 16), .bl (isDue k 17), .bl (isDue k 18), .bl (isDue k 19)]) := q_
    refine set_at (fun x => [some (.ref a), some x, none]) (fun _ => rfl) (cat_at (ys := [.bl (isDue k 20), .bl (isDue k 21)]) rfl q_ (by show 20 + 2 ≤ sizeLine; decide) (fun go => two_at rfl (ty s_) (T.is_ k hk 20 (by decide)) (T.is_ k hk 21 (by decide)) go) fun p10 G10 s10 q_ => ?_)
    have s_ := s_.trans s10
    replace q_ : G10 p10 = some (.lst [.bl (isDue k 0), .bl (isDue k 1), .bl (isDue k 2), .bl (isDue k 3), .bl (isDue k 4), .bl (isDue k 5), .bl (isDue k 6), .bl (isDue k 7), .bl (isDue k 8), .bl (isDue k 9), .bl (isDue k 10), .bl (isDue k 11), .bl (isDue k 12), .bl (isDue k 13), .bl (isDue k 14), .bl (isDue k 15), .bl (isDue k 16), .bl (isDue k 17), .bl (isDue k 18), .bl (isDue k 19), .bl (isDue k 20), .bl (isDue k 21)]) := q_
    refine set_at (fun x => [some (.ref a), some x, none]) (fun _ => rfl) (cat_at (ys := [.bl (isDue k 22), .bl (isDue k 23)]) rfl q_ (by show 22 + 2 ≤ sizeLine; decide) (fun go => two_at rfl (ty s_) (T.is_ k hk 22 (by decide)) (T.is_ k hk 23 (by decide)) go) fun p11 G11 s11 q_ => ?_)
    have s_ := s_.trans s11
    replace q_ : G11 p11 = some (.lst [.bl (isDue k 0), .bl (isDue k 1), .bl (isDue k 2), .bl (isDue k 3), .bl (isDue k 4), .bl (isDue k 5), .bl (isDue k 6), .bl (isDue k 7), .bl (isDue k 8), .bl (isDue k 9), .bl (isDue k 10), .bl (isDue k 11), .bl (isDue k 12), .bl (isDue k 13), .bl (isDue k 14), .bl (isDue k 15), .bl (isDue k 16), .bl (isDue k 17), .bl (isDue k 18), .bl (isDue k 19), .bl (isDue k 20), .bl (isDue k 21), .bl (isDue k 22), .bl (isDue k 23)]) := q_
    refine set_at (fun x => [some (.ref a), some x, none]) (fun _ => rfl) (cat_at (ys := [.bl (isDue k 24), .bl (isDue k 25)]) rfl q_ (by show 24 + 2 ≤ sizeLine; decide) (fun go => two_at rfl (ty s_) (T.is_ k hk 24 (by decide)) (T.is_ k hk 25 (by decide)) go) fun p12 G12 s12 q_ => ?_)
    have s_ := s_.trans s12
    replace q_ : G12 p12 = some (.lst [.bl (isDue k 0), .bl (isDue k 1), .bl (isDue k 2), .bl (isDue k 3), .bl (isDue k 4), .bl (isDue k 5), .bl (isDue k 6), .bl (isDue k 7), .bl (isDue k 8), .bl (isDue k 9), .bl (isDue k 10), .bl (isDue k 11), .bl (isDue k 12), .bl (isDue k 13), .bl (isDue k 14), .bl (isDue k 15), .bl (isDue k 16), .bl (isDue k 17), .bl (isDue k 18), .bl (isDue k 19), .bl (isDue k 20), .bl (isDue k 21), .bl (isDue k 22), .bl (isDue k 23), .bl (isDue k 24), .bl (isDue k 25)]) := q_
    refine set_at (fun x => [some (.ref a), some x, none]) (fun _ => rfl) (cat_at (ys := [.bl (isDue k 26), .bl (isDue k 27)]) rfl q_ (by show 26 + 2 ≤ sizeLine; decide) (fun go => two_at rfl (ty s_) (T.is_ k hk 26 (by decide)) (T.is_ k hk 27 (by decide)) go) fun p13 G13 s13 q_ => ?_)
    have s_ := s_.trans s13
    replace q_ : G13 p13 = some (.lst [.bl (isDue k 0), .bl (isDue k 1), .bl (isDue k 2), .bl (isDue k 3), .bl (isDue k 4), .bl (isDue k 5), .bl (isDue k 6), .bl (isDue k 7), .bl (isDue k 8), .bl (isDue k 9), .bl (isDue k 10), .bl (isDue k 11), .bl (isDue k 12), .bl (isDue k 13), .bl (isDue k 14), .bl (isDue k 15), .bl (isDue k 16), .bl (isDue k 17), .bl (isDue k 18), .bl (isDue k 19), .bl (isDue k 20), .bl (isDue k 21), .bl (isDue k 22), .bl (isDue k 23), .bl (isDue k 24), .bl (isDue k 25), .bl (isDue k 26), .bl (isDue k 27)]) := q_
    refine set_at (fun x => [some (.ref a), some x, none]) (fun _ => rfl) (cat_at (ys := [.bl (isDue k 28)]) rfl q_ (by show 28 + 1 ≤ sizeLine; decide) (fun go => one_at rfl (ty s_) (T.is_ k hk 28 (by decide)) go) fun p14 G14 s14 q_ => ?_)
    have s_ := s_.trans s14
    replace q_ : G14 p14 = some (.lst [.bl (isDue k 0), .bl (isDue k 1), .bl (isDue k 2), .bl (isDue k 3), .bl (isDue k 4), .bl (isDue k 5), .bl (isDue k 6), .bl (isDue k 7), .bl (isDue k 8), .bl (isDue k 9), .bl (isDue k 10), .bl (isDue k 11), .bl (isDue k 12), .bl (isDue k 13), .bl (isDue k 14), .bl (isDue k 15), .bl (isDue k 16), .bl (isDue k 17), .bl (isDue k 18), .bl (isDue k 19), .bl (isDue k 20), .bl (isDue k 21), .bl (isDue k 22), .bl (isDue k 23), .bl (isDue k 24), .bl (isDue k 25), .bl (isDue k 26), .bl (isDue k 27), .bl (isDue k 28)]) := q_
    refine ⟨_, rfl, _, _, rfl, .inl (SqL.of q_), 29, rfl, by decide, by decide, fun D hD => ?_⟩
    have nD := s_.free hD
    have q_ : G14 p14 = some (.lst ((List.range 29).map fun j => V.bl (isDue k j))) := q_
    refine lc_range (lo := 0) (n := 29) (fun i H5 => H5 D = some (.lst (upTo k i)) ∧ Same G14 H5) ⟨upd_same, CaL.same_new hD⟩ ?_ ?_
    · rintro i H5 hi ⟨hD5, s5⟩
      have ix : atI ((List.range 29).map fun j => V.bl (isDue k j)) (0 + (i : Int)) = some (.bl (isDue k i)) := by
        rw [Int.zero_add]
        exact atI_nat (by rw [List.getElem?_map, List.getElem?_range hi]; rfl)
      have ul := upTo_len k i
      have us := upTo_succ k i
      refine ⟨rfl, _, rfl, _, rfl, _, _, _, _, rfl, rfl, SqL.of (s5 _ _ q_), ix, ?_⟩
      refine ⟨_, rfl, ?_⟩
      show if isDue k i = true then _ else _
      by_cases hd : isDue k i = true
      · rw [if_pos hd] at us ⊢
        refine ⟨_, rfl, _, hD5, Nat.lt_of_le_of_lt (show (upTo k i).length ≤ 1000 by omega) (by decide), ?_, fun b o e => ?_⟩
        · rw [upd_same, us, Int.zero_add]
        · rw [upd_ne (ne_of_none e hD)]
          exact s5 b o e
      · rw [if_neg hd] at us ⊢
        rw [List.append_nil] at us
        exact ⟨by rw [us]; exact hD5, s5⟩
    · rintro H5 ⟨hD5, s5⟩
      rw [upTo_end k hk] at hD5
      exact q D H5 (s_.trans s5) nD hD5
end
end K03
set_option Elab.async false
set_option linter.all false
set_option maxRecDepth 100000
set_option maxHeartbeats 4000000
namespace K03
open PySem PySem.Spec PyProof.Rows L2 CaV CaK CaG
/-- a drawn value: repr shows it; and behind the late change of the law, if it is one that can be changed -/
def Val (K : PySem.W.Frag) (H : Hp) (v : V) : Prop := (∃ t, Shown K H v t) ∧
  ((∃ ty, (∀ H', Same H H' → TyX K H' v ty) ∧ PySem.W.kitOne K ty (.type "list") = some false ∧ PySem.W.kitOne K ty (.type "dict") = some false) ∨
  (∃ p xs, v = .ref p ∧ H p = some (.lst xs) ∧ xs.length ≤ 5 ∧ ∀ H', Kp p H H' → H' p = some (.lst (xs ++ [.str "late"])) → ∃ t, Shown K H' v t) ∨
  (∃ p kvs, v = .ref p ∧ H p = some (.dK kvs) ∧ kvs.length ≤ 5 ∧ ∀ H', Kp p H H' → H' p = some (.dK (putK kvs (.inr "late") (.int 1))) → ∃ t, Shown K H' v t))
theorem val_flat {K : PySem.W.Frag} {H : Hp} {v : V} {d : PyData} {ty : String} (h : Dp K H v d) (t : ∀ H', Same H H' → TyX K H' v (.type ty)) (a : kitB ty "list" = some false) (b : kitB ty "dict" = some false)
    (s : (d.showable && !d.hasDict && decide (d.depth ≤ 60) && decide (d.shown.length ≤ sizeLine)) = true) : Val K H v := by
  simp only [Bool.and_eq_true, Bool.not_eq_true', decide_eq_true_eq] at s
  exact ⟨⟨_, .inl ⟨d, h, s.1.1.1, s.1.1.2, s.1.2, s.2, rfl⟩⟩, .inl ⟨_, t, kit_ty a, kit_ty b⟩⟩
theorem shown_dp {K : PySem.W.Frag} {H : Hp} {v : V} {d : PyData} (h : Dp K H v d) (s : (d.showable && !d.hasDict && decide (d.depth ≤ 60) && decide (d.shown.length ≤ sizeLine)) = true) : ∃ t, Shown K H v t := by
  simp only [Bool.and_eq_true, Bool.not_eq_true', decide_eq_true_eq] at s
  exact ⟨_, .inl ⟨d, h, s.1.1.1, s.1.1.2, s.1.2, s.2, rfl⟩⟩
theorem shown_dict {K : PySem.W.Frag} {H : Hp} {p : Addr} {kvs : List (Key × V)} {ds : List (PyData × PyData)} (e : H p = some (.dK kvs)) (h : SvAll H kvs ds) (s : ((PyData.dict ds).showable && decide ((PyData.dict ds).depth ≤ 60) && decide ((PyData.dict ds).shown.length ≤ sizeLine)) = true) : ∃ t, Shown K H (.ref p) t := by
  simp only [Bool.and_eq_true, decide_eq_true_eq] at s
  exact ⟨_, .inr ⟨p, kvs, ds, rfl, e, h, s.1.1, s.1.2, s.2, rfl⟩⟩
def spValue (K : PySem.W.Frag) : Sp := fun vs H Q _ => ∃ (b : Addr) (n : Nat), vs = [.ref b] ∧ Bx H b n ∧ n < 900000 ∧ ∀ (v : V) (H' : Hp), Val K H' v → (∀ p, v = .ref p → H p = none) → Bx H' b (n + 1) → Kp b H H' → Q v H'
abbrev s_l_value : Stmt := topS 37
abbrev N_l_value : List Str := ["_law_box_here", "_law_some"]
theorem sc_l_value : FnScope N_l_value ["_law_box_here"] (defScope s_l_value) := ⟨rfl, rfl, rfl, by decide +kernel, rfl, by decide +kernel, by decide +kernel⟩
section
variable {P : Program} {w : World} {K : PySem.W.Frag} {mg : Str → Option Value} {base : Heap}
theorem ok_value {f f_l_take : Addr} {fd fd_l_take : FuncData} {k : Nat} (F : Fun K "_law_value" "_law_value" s_l_value f fd) (F_l_take : Fun K "_law_take" "_law_take" s_l_take f_l_take fd_l_take) (b_l_take : Binds K fd_l_take ["_law_box_here", "_law_many"] []) (gl_l_take : mg "_law_take" = some (.ref f_l_take)) :
    FnOk P w K mg base CX0 (k + 2) f fd ["_law_box_here"] (spValue K) := by
  have G_l_take : FnOk P w K mg base CX0 1 f_l_take fd_l_take ["_law_box_here", "_law_many"] spTake := ok_take F_l_take
  refine F.ok sc_l_value (fun vs H Q E h => ?_) (fun cdv A outer s H vs Q E hr h => ?_)
  · obtain ⟨b, n, rfl, _⟩ := h
    rfl
  · obtain ⟨b, n, rfl, bx, hn, q⟩ := h
    refine ⟨_, (pss_cons (ps_set (i := 1) sc_l_value.nd rfl (.inl rfl) (pe_lst (pa_cons pe_non (pa_cons pe_bl (pa_cons pe_bl (pa_cons pe_int (pa_cons (pe_un un_neg pe_int) (pa_cons (pe_op op_pow pe_int pe_int) (pa_cons pe_str (pa_cons pe_str (pa_cons pe_str (pa_cons (pe_lst pa_nil) (pa_cons (pe_lst (pa_cons pe_int (pa_cons (pe_lst (pa_cons pe_int pa_nil)) pa_nil))) (pa_cons pe_dnewK (pa_cons (pe_disp (pps_cons pe_str (pe_lstN (pa_cons pe_int pa_nil)) pps_nil) (by rfl) (by rfl) (fun z => by cases z) (by decide)) (pa_cons (pe_tup pa_nil) (pa_cons (pe_tup (pa_cons pe_str (pa_cons pe_str pa_nil))) (pa_cons (pe_lst (pa_cons pe_str pa_nil)) pa_nil))))))))))))))))))
    (pss_one (ps_ret (pe_ix ix_list (pv 1) (pe_call G_l_take (hr.mono (by omega)) (by rfl) gl_l_take F_l_take.kp b_l_take .nil pass0 (pa_cons (pv 0) (pa_cons pe_int pa_nil))) (fun _ _ => rfl))))), ?_⟩
    refine ⟨_, rfl, _, _, rfl, rfl, ⟨by decide, by decide, by decide⟩, ?_⟩
    refine ⟨(by show 0 ≤ sizeLine; decide), fun l1 n1 => ?_⟩
    have z1 := CaL.same_new (o := .lst []) n1
    have e1 : (upd H l1 (.lst [])) l1 = some (.lst []) := upd_same
    generalize upd H l1 (.lst []) = G1 at z1 e1 ⊢
    refine ⟨(by show 1 ≤ sizeLine; decide), fun l2 n2 => ?_⟩
    have z2 := CaL.same_new (o := .lst [.int 2]) n2
    have e2 : (upd G1 l2 (.lst [.int 2])) l2 = some (.lst [.int 2]) := upd_same
    generalize upd G1 l2 (.lst [.int 2]) = G2 at z2 e2 ⊢
    refine ⟨(by show 2 ≤ sizeLine; decide), fun l3 n3 => ?_⟩
    have z3 := CaL.same_new (o := .lst [.int 1, .ref l2]) n3
    have e3 : (upd G2 l3 (.lst [.int 1, .ref l2])) l3 = some (.lst [.int 1, .ref l2]) := upd_same
    generalize upd G2 l3 (.lst [.int 1, .ref l2]) = G3 at z3 e3 ⊢
    refine fun p4 n4 => ?_
    have z4 := CaL.same_new (o := .dK []) n4
    have e4 : (upd G3 p4 (.dK [])) p4 = some (.dK []) := upd_same
    generalize upd G3 p4 (.dK []) = G4 at z4 e4 ⊢
    refine fun p5 n5 => ?_
    refine ⟨(by show 1 ≤ sizeLine; decide), fun l6 n6 d6 => ?_⟩
    have a5 := CaL.same_new (o := .dK []) n5
    have b5 : (upd G4 p5 (.dK [])) p5 = some (.dK []) := upd_same
    have a6 := CaL.same_new (o := .lst [.int 1]) n6
    have b6 : (upd (upd G4 p5 (.dK [])) l6 (.lst [.int 1])) l6 = some (.lst [.int 1]) := upd_same
    have c6 : l6 ≠ p5 := fun z => by
      rw [z, b5] at n6
      cases n6
    refine ⟨a6 _ _ b5, [(.inr "a", .ref l6)], rfl, (by show 1 ≤ 15; decide), ?_⟩
    have z5 : Same G4 (upd (upd (upd G4 p5 (.dK [])) l6 (.lst [.int 1])) p5 (.dK (mergeK [] [(.inr "a", .ref l6)]))) := Kp.same (a5.trans a6) Kp.at n5
    have e5 : (upd (upd (upd G4 p5 (.dK [])) l6 (.lst [.int 1])) p5 (.dK (mergeK [] [(.inr "a", .ref l6)]))) p5 = some (.dK [(.inr "a", .ref l6)]) := upd_same
    have e6 : (upd (upd (upd G4 p5 (.dK [])) l6 (.lst [.int 1])) p5 (.dK (mergeK [] [(.inr "a", .ref l6)]))) l6 = some (.lst [.int 1]) := Kp.at l6 _ b6 c6
    have f6 : G4 l6 = none := a5.free n6
    generalize upd (upd (upd G4 p5 (.dK [])) l6 (.lst [.int 1])) p5 (.dK (mergeK [] [(.inr "a", .ref l6)])) = G5 at z5 e5 e6 ⊢
    refine ⟨(by show 0 ≤ sizeLine; decide), fun t7 n7 => ?_⟩
    have z7 := CaL.same_new (o := .tup []) n7
    have e7 : (upd G5 t7 (.tup [])) t7 = some (.tup []) := upd_same
    generalize upd G5 t7 (.tup []) = G7 at z7 e7 ⊢
    refine ⟨(by show 2 ≤ sizeLine; decide), fun t8 n8 => ?_⟩
    have z8 := CaL.same_new (o := .tup [.str "name", .str "a"]) n8
    have e8 : (upd G7 t8 (.tup [.str "name", .str "a"])) t8 = some (.tup [.str "name", .str "a"]) := upd_same
    generalize upd G7 t8 (.tup [.str "name", .str "a"]) = G8 at z8 e8 ⊢
    refine ⟨(by show 1 ≤ sizeLine; decide), fun l9 n9 => ?_⟩
    have z9 := CaL.same_new (o := .lst [.str "a"]) n9
    have e9 : (upd G8 l9 (.lst [.str "a"])) l9 = some (.lst [.str "a"]) := upd_same
    generalize upd G8 l9 (.lst [.str "a"]) = G9 at z9 e9 ⊢
    refine ⟨(by show 16 ≤ sizeLine; decide), fun l n0 => ?_⟩
    have z0 := CaL.same_new (o := .lst [.non, .bl true, .bl false, .int 0, .int (-1), .int (10 ^ (29 : Int).toNat), .str "", .str "a", .str "let", .ref l1, .ref l3, .ref p4, .ref p5, .ref t7, .ref t8, .ref l9]) n0
    have e0 : (upd G9 l (.lst [.non, .bl true, .bl false, .int 0, .int (-1), .int (10 ^ (29 : Int).toNat), .str "", .str "a", .str "let", .ref l1, .ref l3, .ref p4, .ref p5, .ref t7, .ref t8, .ref l9])) l = some (.lst [.non, .bl true, .bl false, .int 0, .int (-1), .int (10 ^ (29 : Int).toNat), .str "", .str "a", .str "let", .ref l1, .ref l3, .ref p4, .ref p5, .ref t7, .ref t8, .ref l9]) := upd_same
    refine ⟨_, rfl, _, rfl, b, _, n, rfl, ?_, by omega, by decide, by decide, fun d H' d0 d1 x k => ?_⟩
    · exact bx.same (((((((((z1.trans z2).trans z3).trans z4).trans z5).trans z7).trans z8).trans z9).trans z0))
    have y9 := z0
    have y8 := z9.trans y9
    have y7 := z8.trans y8
    have y5 := z7.trans y7
    have y4 := z5.trans y5
    have y3 := z4.trans y4
    have y2 := z3.trans y3
    have y1 := z2.trans y2
    have y0 := z1.trans y1
    have ne : ∀ {p : Addr}, H p = none → p ≠ b := fun hp => bx.ne hp
    have h1 := n1
    have h2 := z1.free n2
    have h3 := (z1.trans z2).free n3
    have h4 := ((z1.trans z2).trans z3).free n4
    have h5 := (((z1.trans z2).trans z3).trans z4).free n5
    have h6 := (((z1.trans z2).trans z3).trans z4).free f6
    have h7 := ((((z1.trans z2).trans z3).trans z4).trans z5).free n7
    have h8 := (((((z1.trans z2).trans z3).trans z4).trans z5).trans z7).free n8
    have h9 := ((((((z1.trans z2).trans z3).trans z4).trans z5).trans z7).trans z8).free n9
    have h0 := (((((((z1.trans z2).trans z3).trans z4).trans z5).trans z7).trans z8).trans z9).free n0
    have e1 := k _ _ (y1 _ _ e1) (ne h1)
    have e2 := k _ _ (y2 _ _ e2) (ne h2)
    have e3 := k _ _ (y3 _ _ e3) (ne h3)
    have e4 := k _ _ (y4 _ _ e4) (ne h4)
    have e5 := k _ _ (y5 _ _ e5) (ne h5)
    have e6 := k _ _ (y5 _ _ e6) (ne h6)
    have e7 := k _ _ (y7 _ _ e7) (ne h7)
    have e8 := k _ _ (y8 _ _ e8) (ne h8)
    have e9 := k _ _ (y9 _ _ e9) (ne h9)
    have e0 := k _ _ e0 (ne h0)
    have kk : Kp b H H' := (Kp.of_same y0).trans k
    obtain ⟨v, hv, ev⟩ := CaL.atI_in (xs := [V.non, .bl true, .bl false, .int 0, .int (-1), .int (10 ^ (29 : Int).toNat), .str "", .str "a", .str "let", .ref l1, .ref l3, .ref p4, .ref p5, .ref t7, .ref t8, .ref l9]) (i := d) d0 (by simpa using d1)
    refine ⟨l, _, _, v, rfl, rfl, SqL.of e0, ev, ?_⟩
    have go : Val K H' v → (∀ p, v = .ref p → H p = none) → Q v H' := fun hv hn => q v H' hv hn x kk
    have flat : ∀ {u : V}, (∀ p, u ≠ .ref p) → ∀ p, u = .ref p → H p = none := fun hu p e => absurd e (hu p)
    have ref : ∀ {r : Addr}, H r = none → ∀ p, V.ref r = .ref p → H p = none := fun hr p e => by
      cases e
      exact hr
    simp only [List.mem_cons, List.not_mem_nil, or_false] at hv
    rcases hv with rfl | rfl | rfl | rfl | rfl | rfl | rfl | rfl | rfl | rfl | rfl | rfl | rfl | rfl | rfl | rfl
    · exact go (val_flat .non (fun _ _ => .base .non) (by decide +kernel) (by decide +kernel) (by decide +kernel)) (flat nofun)
    · exact go (val_flat (.bl _) (fun _ _ => .base (.bl _)) (by decide +kernel) (by decide +kernel) (by decide +kernel)) (flat nofun)
    · exact go (val_flat (.bl _) (fun _ _ => .base (.bl _)) (by decide +kernel) (by decide +kernel) (by decide +kernel)) (flat nofun)
    · exact go (val_flat (.int _) (fun _ _ => .base (.int _)) (by decide +kernel) (by decide +kernel) (by decide +kernel)) (flat nofun)
    · exact go (val_flat (.int _) (fun _ _ => .base (.int _)) (by decide +kernel) (by decide +kernel) (by decide +kernel)) (flat nofun)
    · exact go (val_flat (.int _) (fun _ _ => .base (.int _)) (by decide +kernel) (by decide +kernel) (by decide +kernel)) (flat nofun)
    · exact go (val_flat (.str _) (fun _ _ => .base (.str _)) (by decide +kernel) (by decide +kernel) (by decide +kernel)) (flat nofun)
    · exact go (val_flat (.str _) (fun _ _ => .base (.str _)) (by decide +kernel) (by decide +kernel) (by decide +kernel)) (flat nofun)
    · exact go (val_flat (.str _) (fun _ _ => .base (.str _)) (by decide +kernel) (by decide +kernel) (by decide +kernel)) (flat nofun)
    · refine go ⟨shown_dp (.lst (SqL.of e1) .nil) (by decide +kernel), .inr (.inl ⟨l1, _, rfl, e1, by decide, fun H2 k2 q2 => ?_⟩)⟩ (ref h1)
      exact shown_dp (.lst (SqL.of q2) (.cons (.str _) .nil)) (by decide +kernel)
    · have c : l2 ≠ l3 := fun z => by
        rw [← z, e2] at e3
        cases e3
      refine go ⟨shown_dp (.lst (SqL.of e3) (.cons (.int _) (.cons (.lst (SqL.of e2) (.cons (.int _) .nil)) .nil))) (by decide +kernel), .inr (.inl ⟨l3, _, rfl, e3, (by show 2 ≤ 5; decide), fun H2 k2 q2 => ?_⟩)⟩ (ref h3)
      exact shown_dp (.lst (SqL.of q2) (.cons (.int _) (.cons (.lst (SqL.of (k2 _ _ e2 c)) (.cons (.int _) .nil)) (.cons (.str _) .nil)))) (by decide +kernel)
    · refine go ⟨shown_dict e4 .nil (by decide +kernel), .inr (.inr ⟨p4, _, rfl, e4, by decide, fun H2 k2 q2 => ?_⟩)⟩ (ref h4)
      exact shown_dict (show H2 p4 = some (.dK [(.inr "late", .int 1)]) from q2) (.cons (.inl ⟨1, rfl, rfl⟩) .nil) (by decide +kernel)
    · refine go ⟨shown_dict e5 (.cons (.inr ⟨l6, [1], rfl, d6, e6, rfl⟩) .nil) (by decide +kernel), .inr (.inr ⟨p5, _, rfl, e5, (by show 1 ≤ 5; decide), fun H2 k2 q2 => ?_⟩)⟩ (ref h5)
      exact shown_dict (show H2 p5 = some (.dK [(.inr "a", .ref l6), (.inr "late", .int 1)]) from q2) (.cons (.inr ⟨l6, [1], rfl, d6, k2 _ _ e6 c6, rfl⟩) (.cons (.inl ⟨1, rfl, rfl⟩) .nil)) (by decide +kernel)
    · exact go (val_flat (.tup (SqT.of e7) .nil) (fun _ s => .base (.tup (s _ _ e7))) (by decide +kernel) (by decide +kernel) (by decide +kernel)) (ref h7)
    · exact go (val_flat (.tup (SqT.of e8) (.cons (.str _) (.cons (.str _) .nil))) (fun _ s => .base (.tup (s _ _ e8))) (by decide +kernel) (by decide +kernel) (by decide +kernel)) (ref h8)
    · refine go ⟨shown_dp (.lst (SqL.of e9) (.cons (.str _) .nil)) (by decide +kernel), .inr (.inl ⟨l9, _, rfl, e9, by decide, fun H2 k2 q2 => ?_⟩)⟩ (ref h9)
      exact shown_dp (.lst (SqL.of q2) (.cons (.str _) (.cons (.str _) .nil))) (by decide +kernel)
end
end K03
set_option Elab.async false
set_option linter.all false
set_option maxRecDepth 100000
set_option maxHeartbeats 4000000
set_option pp.maxSteps 500
namespace K03
open PySem PySem.Spec PyProof.Rows L2 CaV CaK CaG
theorem hu1 {a c : Nat} (h : a + 64 < c) : a + 1 < c := by omega
abbrev s_law : Stmt := topS 43
abbrev N_law : List Str := ["_law_script", "_law_k", "_law_box_here", "_law_value_here", "_law_at", "_law_error", "_law_errors"]
theorem sc_law : FnScope N_law ["_law_script"] (defScope s_law) := ⟨rfl, rfl, rfl, by decide +kernel, rfl, by decide +kernel, by decide +kernel⟩
section
variable {P : Program} {w : World} {K : PySem.W.Frag} {mg : Str → Option Value} {base : Heap} {cl fi : Nat → Addr} {fd : Nat → FuncData}
theorem due_ne {K : PySem.W.Frag} {H : Hp} {p1 p2 : Addr} {g : Nat} {Q : VK} (h1 : H p1 = some (.lst (dueOf g))) (h2 : H p2 = some (.lst (dueOf g))) (q : Q (.bl false) H) : rNeD K (.ref p1) (.ref p2) H Q := by
  unfold dueOf at h1 h2
  by_cases z : g < 23
  · rw [if_pos z] at h1 h2
    exact ⟨.list [.bool true, .bool false, .bool false, .bool true, .bool false, .bool false], _, .lst (SqL.of h1) (.cons (.bl _) (.cons (.bl _) (.cons (.bl _) (.cons (.bl _) (.cons (.bl _) (.cons (.bl _) .nil)))))), .lst (SqL.of h2) (.cons (.bl _) (.cons (.bl _) (.cons (.bl _) (.cons (.bl _) (.cons (.bl _) (.cons (.bl _) .nil)))))), by decide +kernel, by decide +kernel, q⟩
  · rw [if_neg z] at h1 h2
    by_cases z : g < 26
    · rw [if_pos z] at h1 h2
      exact ⟨.list [.bool false, .bool true, .bool false, .bool false, .bool true, .bool true], _, .lst (SqL.of h1) (.cons (.bl _) (.cons (.bl _) (.cons (.bl _) (.cons (.bl _) (.cons (.bl _) (.cons (.bl _) .nil)))))), .lst (SqL.of h2) (.cons (.bl _) (.cons (.bl _) (.cons (.bl _) (.cons (.bl _) (.cons (.bl _) (.cons (.bl _) .nil)))))), by decide +kernel, by decide +kernel, q⟩
    · rw [if_neg z] at h1 h2
      exact ⟨.list [.bool false, .bool false, .bool true, .bool false, .bool false, .bool true], _, .lst (SqL.of h1) (.cons (.bl _) (.cons (.bl _) (.cons (.bl _) (.cons (.bl _) (.cons (.bl _) (.cons (.bl _) .nil)))))), .lst (SqL.of h2) (.cons (.bl _) (.cons (.bl _) (.cons (.bl _) (.cons (.bl _) (.cons (.bl _) (.cons (.bl _) .nil)))))), by decide +kernel, by decide +kernel, q⟩
theorem one_shape : ∀ k, k < 32 → (SeqAt.shaped (.list [.int ((k : Nat) : Int)]) && PyData.eqv (.list [.int (k : Int)]) (.list [.int (k : Int)])) = true := by decide +kernel
theorem kinds_ne {K : PySem.W.Frag} {H : Hp} {p1 p2 : Addr} {k : Nat} {Q : VK} (hk : k < 29) (h1 : H p1 = some (.lst (kindsOf k))) (h2 : H p2 = some (.lst [.int (k : Int)])) (q : Q (.bl false) H) : rNeD K (.ref p1) (.ref p2) H Q := by
  unfold kindsOf at h1
  rw [if_pos hk] at h1
  obtain ⟨s1, s2⟩ := Bool.and_eq_true_iff.mp (one_shape k (by omega))
  exact ⟨_, _, .lst (SqL.of h1) (.cons (.int _) .nil), .lst (SqL.of h2) (.cons (.int _) .nil), s1, s1, by rw [s2]; exact q⟩
theorem nil_ne {K : PySem.W.Frag} {H : Hp} {p1 p2 : Addr} {Q : VK} (h1 : H p1 = some (.lst [])) (h2 : H p2 = some (.lst [])) (q : Q (.bl false) H) : rNeD K (.ref p1) (.ref p2) H Q :=
  ⟨.list [], .list [], .lst (SqL.of h1) .nil, .lst (SqL.of h2) .nil, by decide +kernel, by decide +kernel, q⟩
def Plain (o : HO) : Prop := (∃ xs, o = .lst xs) ∨ ∃ kvs, o = .dK kvs
theorem plain_exo {o : HO} {a C : Addr} {d : Option Addr} (h : Plain o) : exo a C d ≠ o := fun z => by
  have z : HO.ext _ = o := z
  rcases h with ⟨xs, rfl⟩ | ⟨kvs, rfl⟩ <;> cases z
theorem plain_exd {o : HO} {a : Addr} {fs : List (Str × V)} (h : Plain o) : exd a fs ≠ o := fun z => by
  have z : HO.ext _ = o := z
  rcases h with ⟨xs, rfl⟩ | ⟨kvs, rfl⟩ <;> cases z
theorem exc_kp {H H' : Hp} {C a p : Addr} {o : HO} {fs : Option (List (Str × V))} (h : Exc H C a fs) (k : Kp p H H') (e : H p = some o) (pl : Plain o) : Exc H' C a fs := by
  have ne : ∀ {b : Addr} {u : HO}, H b = some u → u ≠ o → b ≠ p := fun {b u} hb hu z => by
    rw [z, e] at hb
    exact hu (Option.some.inj hb).symm
  cases fs with
  | none => exact k _ _ h (ne h (plain_exo pl))
  | some fs =>
    obtain ⟨d, e1, e2⟩ := h
    exact ⟨d, k _ _ e1 (ne e1 (plain_exo pl)), k _ _ e2 (ne e2 (plain_exd pl))⟩
/-- the law's late change of the value -/
theorem late_at {K : PySem.W.Frag} {last : TS} {D : Ends} {σ : L2.St} {H2 H5 : Hp} {v : V} (h3 : σ[3]? = some (some v)) (val : Val K H2 v) (s : Same H2 H5)
    (h : ∀ H7, (Same H5 H7 ∨ ∃ p o, v = .ref p ∧ H2 p = some o ∧ Plain o ∧ Kp p H5 H7) → (∃ t, Shown K H7 v t) → last D σ H7) :
    tSeq (tIfS (tB (tCB (rIsV K) (tCons (tVar 3) (tCons (tC (V.ty "list")) tNil)))) (tDrop (tBM K "list" rAppend (tVar 3) (tCons (tC (V.str "late")) tNil))) tNext)
      (tSeq (tIfS (tB (tCB (rIsV K) (tCons (tVar 3) (tCons (tC (V.ty "dict")) tNil)))) (tAsg (tC (V.int 1)) (gSub (tVar 3) (tC (V.str "late")) rSetD)) tNext) last) D σ H5 := by
  obtain ⟨⟨t, sh⟩, kind⟩ := val
  rcases kind with ⟨ty, tyx, k1, k2⟩ | ⟨p, xs, rfl, hp, hl, k⟩ | ⟨p, kvs, rfl, hp, hl, k⟩
  · refine ⟨_, h3, _, _, _, _, false, rfl, .ty "list", .inl (tyx _ s), k1, false, rfl, iteF ?_⟩
    refine ⟨_, h3, _, _, _, _, false, rfl, .ty "dict", .inl (tyx _ s), k2, false, rfl, iteF ?_⟩
    exact h _ (.inl (Same.refl H5)) ⟨t, sh.same s⟩
  · have hp5 := s _ _ hp
    refine ⟨_, h3, _, _, _, _, true, rfl, .ty "list", .inl (.base (.lst hp5)), kit_ty (by decide +kernel), true, rfl, iteT ?_⟩
    refine ⟨_, h3, .inl ⟨rfl, _, SqL.of hp5⟩, p, xs, _, rfl, rfl, hp5, Nat.lt_of_le_of_lt (show xs.length ≤ 1000 by omega) (by decide), ?_⟩
    refine ⟨_, h3, _, _, _, _, false, rfl, .ty "dict", .inl (.base (.lst upd_same)), kit_ty (by decide +kernel), false, rfl, iteF ?_⟩
    exact h _ (.inr ⟨p, _, rfl, hp, .inl ⟨_, rfl⟩, Kp.at⟩) (k _ ((Kp.of_same s).trans Kp.at) upd_same)
  · have hp5 := s _ _ hp
    refine ⟨_, h3, _, _, _, _, false, rfl, .ty "list", .inl (.base (.dK hp5)), kit_ty (by decide +kernel), false, rfl, iteF ?_⟩
    refine ⟨_, h3, _, _, _, _, true, rfl, .ty "dict", .inl (.base (.dK hp5)), kit_ty (by decide +kernel), true, rfl, iteT ?_⟩
    refine ⟨_, h3, p, _, rfl, .inl ⟨kvs, .inr "late", hp5, rfl, Nat.lt_of_le_of_lt (show kvs.length ≤ 1000 by omega) (by decide), rfl⟩, ?_⟩
    exact h _ (.inr ⟨p, _, rfl, hp, .inr ⟨_, rfl⟩, Kp.at⟩) (k _ ((Kp.of_same s).trans Kp.at) upd_same)
theorem grp_lt {k : Nat} (h : k < 27) : grpOf k = k := by
  unfold grpOf
  rw [if_pos h]
theorem get_ref {as : List Addr} {i : Nat} {y : V} (h : (as.map V.ref)[i]? = some y) : ∃ a, y = .ref a ∧ as[i]? = some a := by
  rw [List.getElem?_map] at h
  obtain ⟨a, h1, h2⟩ := Option.map_eq_some_iff.mp h
  exact ⟨a, h2.symm, h1⟩
theorem pick3 : ∀ i, i < 3 → ∃ g : Nat, atI [V.int 0, .int 23, .int 26] ((i : Nat) : Int) = some (.int (g : Int)) ∧ grpOf (29 + i) = g ∧ kindsOf (29 + i) = [] := fun i hi => by
  match i, hi with
  | 0, _ => exact ⟨0, rfl, rfl, rfl⟩
  | 1, _ => exact ⟨23, rfl, rfl, rfl⟩
  | 2, _ => exact ⟨26, rfl, rfl, rfl⟩
theorem due_two {k : Nat} (h : k = 27 ∨ k = 28) : dueOf (grpOf k) = dueOf k := by
  rcases h with rfl | rfl <;> rfl
theorem ok_law {f f_l_cell f_l_box f_l_take f_l_value f_l_made f_l_field f_l_kinds f_l_bases f_l_due : Addr} {fd0 fd_l_cell fd_l_box fd_l_take fd_l_value fd_l_made fd_l_field fd_l_kinds fd_l_bases fd_l_due : FuncData} {k : Nat} (F : Fun K "law" "law" s_law f fd0) (T : TX K mg cl fi fd) (N : TN mg) (TBc : TB mg) (F_l_cell : Fun K "_law_cell" "_law_cell" s_l_cell f_l_cell fd_l_cell) (b_l_cell : Binds K fd_l_cell ["_law_script", "_law_k"] []) (gl_l_cell : mg "_law_cell" = some (.ref f_l_cell)) (F_l_box : Fun K "_law_box" "_law_box" s_l_box f_l_box fd_l_box) (b_l_box : Binds K fd_l_box ["_law_cell_here"] []) (gl_l_box : mg "_law_box" = some (.ref f_l_box)) (F_l_take : Fun K "_law_take" "_law_take" s_l_take f_l_take fd_l_take) (b_l_take : Binds K fd_l_take ["_law_box_here", "_law_many"] []) (gl_l_take : mg "_law_take" = some (.ref f_l_take)) (F_l_value : Fun K "_law_value" "_law_value" s_l_value f_l_value fd_l_value) (b_l_value : Binds K fd_l_value ["_law_box_here"] []) (gl_l_value : mg "_law_value" = some (.ref f_l_value)) (F_l_made : Fun K "_law_made" "_law_made" s_l_made f_l_made fd_l_made) (b_l_made : Binds K fd_l_made ["_law_value_here"] []) (gl_l_made : mg "_law_made" = some (.ref f_l_made)) (F_l_field : Fun K "_law_field" "_law_field" s_l_field f_l_field fd_l_field) (b_l_field : Binds K fd_l_field ["_law_error", "_law_k"] []) (gl_l_field : mg "_law_field" = some (.ref f_l_field)) (F_l_kinds : Fun K "_law_kinds" "_law_kinds" s_l_kinds f_l_kinds fd_l_kinds) (b_l_kinds : Binds K fd_l_kinds ["_law_error"] []) (gl_l_kinds : mg "_law_kinds" = some (.ref f_l_kinds)) (F_l_bases : Fun K "_law_bases" "_law_bases" s_l_bases f_l_bases fd_l_bases) (b_l_bases : Binds K fd_l_bases ["_law_error"] []) (gl_l_bases : mg "_law_bases" = some (.ref f_l_bases)) (F_l_due : Fun K "_law_due" "_law_due" s_l_due f_l_due fd_l_due) (b_l_due : Binds K fd_l_due ["_law_k"] []) (gl_l_due : mg "_law_due" = some (.ref f_l_due)) :
    FnG P w K mg base (k + 4) f fd0 ["_law_script"] (CaL.spLaw K) := by
  have G_l_cell : FnOk P w K mg base CX0 1 f_l_cell fd_l_cell ["_law_script", "_law_k"] (spCell K) := ok_cell F_l_cell TBc
  have G_l_box : FnOk P w K mg base CX0 1 f_l_box fd_l_box ["_law_cell_here"] (spBox) := ok_box F_l_box TBc
  have G_l_value : FnOk P w K mg base CX0 2 f_l_value fd_l_value ["_law_box_here"] (spValue K) := ok_value F_l_value F_l_take b_l_take gl_l_take
  have G_l_made : FnOk P w K mg base CX0 3 f_l_made fd_l_made ["_law_value_here"] (spMade cl) := ok_made F_l_made T
  have G_l_field : FnOk P w K mg base CX0 1 f_l_field fd_l_field ["_law_error", "_law_k"] (spField cl) := ok_field F_l_field T
  have G_l_kinds : FnOk P w K mg base CX0 1 f_l_kinds fd_l_kinds ["_law_error"] (spKinds cl) := ok_kinds F_l_kinds T N
  have G_l_bases : FnOk P w K mg base CX0 1 f_l_bases fd_l_bases ["_law_error"] (spBases cl) := ok_bases F_l_bases T N
  have G_l_due : FnOk P w K mg base CX0 1 f_l_due fd_l_due ["_law_k"] (spDue) := ok_due F_l_due
  have kx27 : Kx K (cl 27) lookTail "LookupError.__new__" := T.kx 27 (by decide)
  have br27 : Bare K (cl 27) lookTail := T.bare 27 (by decide) (by decide)
  have gl27 : mg "NothingToUndo" = some (.ref (cl 27)) := T.gl 27 (by decide)
  have kx28 : Kx K (cl 28) lookTail "LookupError.__new__" := T.kx 28 (by decide)
  have br28 : Bare K (cl 28) lookTail := T.bare 28 (by decide) (by decide)
  have gl28 : mg "NothingToRedo" = some (.ref (cl 28)) := T.gl 28 (by decide)
  have kx29 : Kx K (cl 29) valTail "ValueError.__new__" := T.kx 29 (by decide)
  have br29 : Bare K (cl 29) valTail := T.bare 29 (by decide) (by decide)
  have gl29 : mg "CaughtError" = some (.ref (cl 29)) := T.gl 29 (by decide)
  have kx30 : Kx K (cl 30) keyTail "LookupError.__new__" := T.kx 30 (by decide)
  have br30 : Bare K (cl 30) keyTail := T.bare 30 (by decide) (by decide)
  have gl30 : mg "AbsentError" = some (.ref (cl 30)) := T.gl 30 (by decide)
  have kx31 : Kx K (cl 31) lookTail "LookupError.__new__" := T.kx 31 (by decide)
  have br31 : Bare K (cl 31) lookTail := T.bare 31 (by decide) (by decide)
  have gl31 : mg "StateError" = some (.ref (cl 31)) := T.gl 31 (by decide)
  refine FnG.of F sc_law (fun vs H Q E h => ?_) (fun cdv A outer s H vs Q E quiet hr h => ?_)
  · obtain ⟨a, ns, rfl, _⟩ := h
    rfl
  · obtain ⟨a, ns, rfl, hS, hlen, q⟩ := h
    refine ⟨_, (pss_cons (ps_for PassesOwn.never rfl (pi_range1 (by rfl) N.n_range (pa_cons (pe_callB (call_max2 rfl) (by rfl) N.n_max (by decide +kernel) (pa_cons pe_int (pa_cons (pe_callB (call_min2 rfl) (by rfl) N.n_min (by decide +kernel) (pa_cons pe_int (pa_cons (pe_callB call_len_seq (by rfl) N.n_len PySem.boot_len (pa_cons (pv 0) pa_nil)) pa_nil))) pa_nil))) pa_nil)) (pg_name (i := 1) sc_law.nd rfl (.inl rfl))
      (pss_cons (ps_set (i := 2) sc_law.nd rfl (.inl rfl) (pe_call G_l_box (hr.mono (by omega)) (by rfl) gl_l_box F_l_box.kp b_l_box .nil pass0 (pa_cons (pe_call G_l_cell (hr.mono (by omega)) (by rfl) gl_l_cell F_l_cell.kp b_l_cell .nil pass0 (pa_cons (pv 0) (pa_cons (pv 1) pa_nil))) pa_nil)))
      (pss_cons (ps_set (i := 3) sc_law.nd rfl (.inr rfl) (pe_call G_l_value (hr.mono (by omega)) (by rfl) gl_l_value F_l_value.kp b_l_value .nil pass0 (pa_cons (pv 2) pa_nil)))
      (pss_cons (ps_for PassesOwn.never rfl (pi_enum (by rfl) N.n_enumerate (pa_cons (pe_call G_l_made (hr.mono (by omega)) (by rfl) gl_l_made F_l_made.kp b_l_made .nil pass0 (pa_cons (pv 3) pa_nil)) pa_nil)) (pg_tup rfl (pgs_cons (pg_name (i := 4) sc_law.nd rfl (.inl rfl)) (pgs_cons (pg_name (i := 5) sc_law.nd rfl (.inl rfl)) pgs_nil)))
        (pss_cons (ps_if (PW.pt (pw_or (pt_cmpR (op_neD hr.units) (pe_call G_l_kinds (hr.mono (by omega)) (by rfl) gl_l_kinds F_l_kinds.kp b_l_kinds .nil pass0 (pa_cons (pv 5) pa_nil)) (pe_lst (pa_cons (pv 4) pa_nil)) (nomark _)) (pw_or1 (pt_cmpR (op_neD hr.units) (pe_call G_l_bases (hr.mono (by omega)) (by rfl) gl_l_bases F_l_bases.kp b_l_bases .nil pass0 (pa_cons (pv 5) pa_nil)) (pe_call G_l_due (hr.mono (by omega)) (by rfl) gl_l_due F_l_due.kp b_l_due .nil pass0 (pa_cons (pv 4) pa_nil)) (nomark _)))))
          (pss_one (ps_ret pe_bl))
          pss_nil)
        (pss_one (ps_if (pt_cmpR op_ne (pe_callB (call_reprX quiet hr.units) (by rfl) N.n_repr (by decide +kernel) (pa_cons (pe_call G_l_field (hr.mono (by omega)) (by rfl) gl_l_field F_l_field.kp b_l_field .nil pass0 (pa_cons (pv 5) (pa_cons (pv 4) pa_nil))) pa_nil)) (pe_callB (call_reprX quiet hr.units) (by rfl) N.n_repr (by decide +kernel) (pa_cons (pv 3) pa_nil)) (nomark _))
          (pss_one (ps_ret pe_bl))
          pss_nil))))
      (pss_cons (ps_set (i := 6) sc_law.nd rfl (.inl rfl) (pe_call G_l_made (hr.mono (by omega)) (by rfl) gl_l_made F_l_made.kp b_l_made .nil pass0 (pa_cons (pv 3) pa_nil)))
      (pss_cons (ps_if (pt_val (pe_callB CaV.call_isV (by rfl) N.n_isinstance (by decide +kernel) (pa_cons (pv 3) (pa_cons (pe_bltn (v := .ty "list") (by rfl) N.n_list (by decide +kernel) rfl) pa_nil))))
        (pss_one (ps_expr (pe_bm PySem.F.plainAttrs_list PySem.F.slot_list_append PySem.F.type_list_append mt_append (pv 3) (pa_cons pe_str pa_nil))))
        pss_nil)
      (pss_cons (ps_if (pt_val (pe_callB CaV.call_isV (by rfl) N.n_isinstance (by decide +kernel) (pa_cons (pv 3) (pa_cons (pe_bltn (v := .ty "dict") (by rfl) N.n_dict (by decide +kernel) rfl) pa_nil))))
        (pss_one (ps_asg pe_int (pg_sub (pv 3) pe_str (set_dict (hu1 hr.units)))))
        pss_nil)
      (pss_one (ps_if (pt_cmpR (op_neD hr.units) (pe_lc (own := [("_law_at", 4), ("_law_error", 5)]) (g := (gTup K 2 (gCons (gName 4) (gCons (gName 5) gNil)))) (by rfl) sc_law.nd (pi_enum (by rfl) N.n_enumerate (pa_cons (pv 6) pa_nil)) (blkOk_by (own := [("_law_at", 4), ("_law_error", 5)]) (N := N_law) (sc := defScope s_law) (by decide +kernel)) (fun _ _ _ _ _ => (pg_tup rfl (pgs_cons (pg_name (i := 4) sc_law.nd rfl (.inl rfl)) (pgs_cons (pg_name (i := 5) sc_law.nd rfl (.inl rfl)) pgs_nil)))) (fun _ _ _ _ _ => (pts_one (pt_cmpR op_ne (pe_callB (id := "repr") (r := rReprX K) (call_reprX quiet hr.units) (by rfl) N.n_repr (by decide +kernel) (pa_cons (pe_call G_l_field (hr.mono (by omega)) (by rfl) gl_l_field F_l_field.kp b_l_field .nil pass0 (pa_cons (pv 5) (pa_cons (pv 4) pa_nil))) pa_nil)) (pe_callB (id := "repr") (r := rReprX K) (call_reprX quiet hr.units) (by rfl) N.n_repr (by decide +kernel) (pa_cons (pv 3) pa_nil)) (nomark _)))) (fun _ _ _ _ _ => (pv 4))) (pe_lst pa_nil) (nomark _))
        (pss_one (ps_ret pe_bl))
        pss_nil)))))))))
    (pss_cons (ps_for PassesOwn.never rfl (pi_list (pe_lst (pa_cons (pe_tup (pa_cons pe_int (pa_cons (pe_bare0 baseL kx27 br27 (by rfl) gl27) pa_nil))) (pa_cons (pe_tup (pa_cons pe_int (pa_cons (pe_bare0 baseL kx28 br28 (by rfl) gl28) pa_nil))) pa_nil)))) (pg_tup rfl (pgs_cons (pg_name (i := 4) sc_law.nd rfl (.inl rfl)) (pgs_cons (pg_name (i := 5) sc_law.nd rfl (.inl rfl)) pgs_nil)))
      (pss_one (ps_if (PW.pt (pw_or (pt_cmpR (op_neD hr.units) (pe_call G_l_kinds (hr.mono (by omega)) (by rfl) gl_l_kinds F_l_kinds.kp b_l_kinds .nil pass0 (pa_cons (pv 5) pa_nil)) (pe_lst (pa_cons (pv 4) pa_nil)) (nomark _)) (pw_or1 (pt_cmpR (op_neD hr.units) (pe_call G_l_bases (hr.mono (by omega)) (by rfl) gl_l_bases F_l_bases.kp b_l_bases .nil pass0 (pa_cons (pv 5) pa_nil)) (pe_call G_l_due (hr.mono (by omega)) (by rfl) gl_l_due F_l_due.kp b_l_due .nil pass0 (pa_cons (pv 4) pa_nil)) (nomark _)))))
        (pss_one (ps_ret pe_bl))
        pss_nil)))
    (pss_cons (ps_for PassesOwn.never rfl (pi_enum (by rfl) N.n_enumerate (pa_cons (pe_lst (pa_cons (pe_bare baseV kx29 br29 (by rfl) gl29 (pa_cons pe_str pa_nil)) (pa_cons (pe_bare baseK kx30 br30 (by rfl) gl30 (pa_cons pe_str pa_nil)) (pa_cons (pe_bare baseL kx31 br31 (by rfl) gl31 (pa_cons pe_str pa_nil)) pa_nil)))) pa_nil)) (pg_tup rfl (pgs_cons (pg_name (i := 4) sc_law.nd rfl (.inl rfl)) (pgs_cons (pg_name (i := 5) sc_law.nd rfl (.inl rfl)) pgs_nil)))
      (pss_one (ps_if (PW.pt (pw_or (pt_cmpR (op_neD hr.units) (pe_call G_l_kinds (hr.mono (by omega)) (by rfl) gl_l_kinds F_l_kinds.kp b_l_kinds .nil pass0 (pa_cons (pv 5) pa_nil)) (pe_lst pa_nil) (nomark _)) (pw_or1 (pt_cmpR (op_neD hr.units) (pe_call G_l_bases (hr.mono (by omega)) (by rfl) gl_l_bases F_l_bases.kp b_l_bases .nil pass0 (pa_cons (pv 5) pa_nil)) (pe_call G_l_due (hr.mono (by omega)) (by rfl) gl_l_due F_l_due.kp b_l_due .nil pass0 (pa_cons (pe_ix ix_list (pe_lst (pa_cons pe_int (pa_cons pe_int (pa_cons pe_int pa_nil)))) (pv 4) (fun _ _ => rfl)) pa_nil)) (nomark _)))))
        (pss_one (ps_ret pe_bl))
        pss_nil)))
    (pss_one (ps_ret pe_bl))))), ?_⟩
    refine ⟨_, rfl, a, _, rfl, .inl hS, _, _, rfl, _, _, rfl, ?_⟩
    generalize hj : (if (if ((List.map V.int ns).length : Int) < 12 then ((List.map V.int ns).length : Int) else 12) > 1 then (if ((List.map V.int ns).length : Int) < 12 then ((List.map V.int ns).length : Int) else 12) else 1) = j
    have hj1 : 1 ≤ j ∧ j ≤ 12 := by
      rw [← hj]
      split <;> (try split) <;> omega
    refine ⟨j, rfl, by omega, by omega, ?_⟩
    refine for_range (lo := 0) (n := j.toNat) (fun i σ H1 => ∃ v1 v2 v3 v4 v5 v6, σ = [some (.ref a), v1, v2, v3, v4, v5, v6] ∧ Same H H1) ⟨none, none, none, none, none, none, rfl, Same.refl H⟩ ?_ ?_
    · rintro i σ H0 hi ⟨v1, v2, v3, v4, v5, v6, rfl, s0⟩
      refine ⟨_, rfl, _, rfl, a, ns, 0 + (i : Int), rfl, s0.seq hS, by omega, fun x => ?_⟩
      refine ⟨x, rfl, fun b H1 nb s1 bx => ?_⟩
      have S1 : Same H H1 := s0.trans s1
      have nbH : H b = none := s0.free nb
      refine ⟨_, rfl, b, 0, rfl, bx, by decide, fun v H2 val new bx2 k2 => ?_⟩
      have S2 : Same H H2 := k2.same S1 nbH
      have val0 := val
      obtain ⟨⟨t, sh⟩, kind⟩ := val
      refine ⟨_, rfl, v, rfl, fun l as H3 s3 nl hl las sof => ?_⟩
      refine ⟨l, _, rfl, SqL.of hl, ?_⟩
      refine for_it (walk_enum (K := K) (a := l) (xs := as.map V.ref)) (fun _ σ H' => ∃ v4 v5, σ = [some (.ref a), some (.int (0 + (i : Int))), some (.ref b), some v, v4, v5, v6] ∧ Same H3 H') ⟨v4, v5, rfl, Same.refl H3⟩ (fun i σ H' _ hp => ?_) ?_ ?_
      · obtain ⟨_, _, _, s⟩ := hp
        exact s.seq (SqL.of hl)
      · rintro at_ y σ H4 H5 hat ⟨v4, v5, rfl, s4⟩ ⟨T_, x_, y_, rfl, nT, rfl, ex, ey⟩
        cases ex
        obtain ⟨ea, rfl, hea⟩ := get_ref ey
        have h27 : at_ < 27 := by
          rw [List.length_map] at hat
          omega
        have S5 := s4.trans (CaL.same_new (o := .tup [.int (at_ : Nat), .ref ea]) nT)
        have exc := sof at_ ea hea
        refine ⟨T_, _, rfl, SqT.of upd_same, rfl, _, _, rfl, _, _, rfl, rfl, ?_⟩
        generalize upd H4 T_ (.tup [.int (at_ : Nat), .ref ea]) = H5 at S5 ⊢
        refine ⟨_, rfl, ea, at_, _, rfl, by omega, Exc.same exc S5, fun p1 H6 s6 n6 q6 => ?_⟩
        refine ⟨_, rfl, (by show 1 ≤ sizeLine; decide), fun p2 n2 => ?_⟩
        have z2 := CaL.same_new (o := .lst [.int (at_ : Nat)]) n2
        refine kinds_ne (by omega) (z2 _ _ q6) upd_same ⟨false, rfl, iteF ?_⟩
        have S7 := (S5.trans s6).trans z2
        generalize upd H6 p2 (.lst [.int (at_ : Nat)]) = H7 at S7 ⊢
        refine ⟨_, rfl, ea, at_, _, rfl, by omega, Exc.same exc S7, fun p3 H8 s8 n8 q8 => ?_⟩
        refine ⟨_, rfl, at_, rfl, fun p4 H9 s9 n9 q9 => ?_⟩
        rw [grp_lt h27] at q8
        refine due_ne (s9 _ _ q8) q9 ⟨false, rfl, iteF ?_⟩
        have S9 := (S7.trans s8).trans s9
        refine ⟨_, rfl, _, rfl, ea, at_, v, rfl, h27, Exc.same exc S9, ?_⟩
        have sh9 := sh.same (s3.trans S9)
        refine ⟨v, t, rfl, sh9, _, rfl, v, t, rfl, sh9, rfl, _, rfl, CaL.ifn (decide_eq_true rfl) ?_⟩
        exact ⟨_, _, rfl, S9⟩
      · rintro σ H4 ⟨v4, v5, rfl, s4⟩
        refine ⟨_, rfl, v, rfl, fun l2 as2 H5 s5 nl2 hl2 las2 sof2 => ?_⟩
        refine late_at (H2 := H2) rfl val0 ((s3.trans s4).trans s5) fun H7 how sh7 => ?_
        obtain ⟨t7, sh7⟩ := sh7
        have facts : H7 l2 = some (.lst (as2.map V.ref)) ∧ Sofar cl H7 v as2 ∧ Same H H7 := by
          rcases how with how | ⟨p, o, rfl, hp, pl, kp⟩
          · exact ⟨how _ _ hl2, sof2.same how, (((S2.trans s3).trans s4).trans s5).trans how⟩
          · have hp4 := s4 _ _ (s3 _ _ hp)
            have ne : l2 ≠ p := fun z => by
              rw [z, hp4] at nl2
              cases nl2
            exact ⟨kp _ _ hl2 ne, fun k a e => exc_kp (sof2 k a e) kp (s5 _ _ hp4) pl, Kp.same (((S2.trans s3).trans s4).trans s5) kp (S1.free (new p rfl))⟩
        obtain ⟨hl7, sof7, S7⟩ := facts
        refine ⟨_, rfl, l2, _, rfl, SqL.of hl7, fun D hD => ?_⟩
        have zD := CaL.same_new (o := .lst []) hD
        have dD : (upd H7 D (.lst [])) D = some (.lst []) := upd_same
        refine lc_it (walk_enum (K := K) (a := l2) (xs := as2.map V.ref)) (fun _ H' => Same (upd H7 D (.lst [])) H') (Same.refl _) (fun _ _ _ s => SqL.of (s _ _ (zD _ _ hl7))) ?_ ?_
        · rintro at_ y H8 H9 hat s8 ⟨T_, x_, y_, rfl, nT, rfl, ex, ey⟩
          cases ex
          obtain ⟨ea, rfl, hea⟩ := get_ref ey
          have h27 : at_ < 27 := by
            rw [List.length_map] at hat
            omega
          have S9 := s8.trans (CaL.same_new (o := .tup [.int (at_ : Nat), .ref ea]) nT)
          refine ⟨T_, _, rfl, SqT.of upd_same, rfl, _, _, rfl, _, _, rfl, rfl, rfl, ?_⟩
          have sh9 := sh7.same (zD.trans S9)
          refine ⟨_, rfl, _, rfl, ea, at_, v, rfl, h27, Exc.same (sof7 at_ ea hea) (zD.trans S9), ?_⟩
          refine ⟨v, t7, rfl, sh9, _, rfl, v, t7, rfl, sh9, rfl, _, rfl, CaL.ifn (decide_eq_true rfl) S9⟩
        · intro H8 s8
          refine ⟨Nat.zero_le _, fun p np => ?_⟩
          have zp := CaL.same_new (o := .lst []) np
          refine nil_ne (zp _ _ (s8 _ _ dD)) upd_same ⟨false, rfl, iteF ?_⟩
          exact ⟨_, _, _, _, _, _, rfl, ((S7.trans zD).trans s8).trans zp⟩
    · rintro σ H1 ⟨v1, v2, v3, v4, v5, v6, rfl, s1⟩
      refine ⟨by decide, fun e1 n1 => ?_⟩
      have x1 : Exc (upd H1 e1 (exo e1 (cl 27) none)) (cl 27) e1 none := upd_same
      generalize upd H1 e1 (exo e1 (cl 27) none) = G1 at x1 ⊢
      refine ⟨(by show 2 ≤ sizeLine; decide), fun t1 m1 => ?_⟩
      have y1 : (upd G1 t1 (.tup [.int 27, .ref e1])) t1 = some (.tup [.int 27, .ref e1]) := upd_same
      have x1 := Exc.same x1 (CaL.same_new (o := .tup [.int 27, .ref e1]) m1)
      generalize upd G1 t1 (.tup [.int 27, .ref e1]) = G2 at x1 y1 ⊢
      refine ⟨by decide, fun e2 n2 => ?_⟩
      have z2 := CaL.same_new (o := exo e2 (cl 28) none) n2
      have x1 := Exc.same x1 z2
      have y1 := z2 _ _ y1
      have x2 : Exc (upd G2 e2 (exo e2 (cl 28) none)) (cl 28) e2 none := upd_same
      clear z2
      generalize upd G2 e2 (exo e2 (cl 28) none) = G3 at x1 y1 x2 ⊢
      refine ⟨(by show 2 ≤ sizeLine; decide), fun t2 m2 => ?_⟩
      have z3 := CaL.same_new (o := .tup [.int 28, .ref e2]) m2
      have x1 := Exc.same x1 z3
      have x2 := Exc.same x2 z3
      have y1 := z3 _ _ y1
      have y2 : (upd G3 t2 (.tup [.int 28, .ref e2])) t2 = some (.tup [.int 28, .ref e2]) := upd_same
      clear z3
      generalize upd G3 t2 (.tup [.int 28, .ref e2]) = G4 at x1 y1 x2 y2 ⊢
      refine ⟨(by show 2 ≤ sizeLine; decide), fun l nl => ?_⟩
      have z4 := CaL.same_new (o := .lst [.ref t1, .ref t2]) nl
      have x1 := Exc.same x1 z4
      have x2 := Exc.same x2 z4
      have y1 := z4 _ _ y1
      have y2 := z4 _ _ y2
      have yl : (upd G4 l (.lst [.ref t1, .ref t2])) l = some (.lst [.ref t1, .ref t2]) := upd_same
      clear z4
      generalize upd G4 l (.lst [.ref t1, .ref t2]) = G5 at x1 y1 x2 y2 yl ⊢
      refine ⟨l, rfl, ⟨_, SqL.of yl⟩, for_list (K := K) (a := l) (xs := [.ref t1, .ref t2]) (fun _ σ H' => ∃ v4 v5, σ = [some (.ref a), v1, v2, v3, v4, v5, v6] ∧ Same G5 H') ⟨v4, v5, rfl, Same.refl G5⟩ (fun i σ H' _ hp => ?_) ?_ ?_⟩
      · obtain ⟨_, _, _, s⟩ := hp
        exact SqL.of (s _ _ yl)
      · rintro i x σ H5 hx ⟨v4, v5, rfl, s5⟩
        obtain ⟨tt, ee, kk, rfl, ht, hx, hk⟩ : ∃ tt ee kk, x = V.ref tt ∧ G5 tt = some (.tup [.int ((kk : Nat) : Int), .ref ee]) ∧ Exc G5 (cl kk) ee none ∧ (kk = 27 ∨ kk = 28) := by
          have hx := CaL.mem_get hx
          simp only [List.mem_cons, List.not_mem_nil, or_false] at hx
          rcases hx with rfl | rfl
          · exact ⟨t1, e1, 27, rfl, y1, x1, .inl rfl⟩
          · exact ⟨t2, e2, 28, rfl, y2, x2, .inr rfl⟩
        refine ⟨tt, _, rfl, SqT.of (s5 _ _ ht), rfl, _, _, rfl, _, _, rfl, rfl, ?_⟩
        refine ⟨_, rfl, ee, kk, none, rfl, by omega, Exc.same hx s5, fun p1 H6 s6 n6 q6 => ?_⟩
        refine ⟨_, rfl, (by show 1 ≤ sizeLine; decide), fun p2 n2 => ?_⟩
        have z2 := CaL.same_new (o := .lst [.int (kk : Nat)]) n2
        refine kinds_ne (by omega) (z2 _ _ q6) upd_same ⟨false, rfl, iteF ?_⟩
        have S7 := (s5.trans s6).trans z2
        generalize upd H6 p2 (.lst [.int (kk : Nat)]) = H7 at S7 ⊢
        refine ⟨_, rfl, ee, kk, none, rfl, by omega, Exc.same hx S7, fun p3 H8 s8 n8 q8 => ?_⟩
        refine ⟨_, rfl, kk, rfl, fun p4 H9 s9 n9 q9 => ?_⟩
        rw [due_two hk] at q8
        exact due_ne (s9 _ _ q8) q9 ⟨false, rfl, iteF ⟨_, _, rfl, (S7.trans s8).trans s9⟩⟩
      · rintro σ H5 ⟨v4, v5, rfl, s5⟩
        refine ⟨(by show 1 ≤ 1000; decide), fun e1 n1 => ?_⟩
        have x1 : Exc (upd H5 e1 (exo e1 (cl 29) none)) (cl 29) e1 none := upd_same
        generalize upd H5 e1 (exo e1 (cl 29) none) = G1 at x1 ⊢
        refine ⟨(by show 1 ≤ 1000; decide), fun e2 n2 => ?_⟩
        have z2 := CaL.same_new (o := exo e2 (cl 30) none) n2
        have x1 := Exc.same x1 z2
        have x2 : Exc (upd G1 e2 (exo e2 (cl 30) none)) (cl 30) e2 none := upd_same
        clear z2
        generalize upd G1 e2 (exo e2 (cl 30) none) = G2 at x1 x2 ⊢
        refine ⟨(by show 1 ≤ 1000; decide), fun e3 n3 => ?_⟩
        have z3 := CaL.same_new (o := exo e3 (cl 31) none) n3
        have x1 := Exc.same x1 z3
        have x2 := Exc.same x2 z3
        have x3 : Exc (upd G2 e3 (exo e3 (cl 31) none)) (cl 31) e3 none := upd_same
        clear z3
        generalize upd G2 e3 (exo e3 (cl 31) none) = G3 at x1 x2 x3 ⊢
        refine ⟨(by show 3 ≤ sizeLine; decide), fun l nl => ?_⟩
        have z4 := CaL.same_new (o := .lst [.ref e1, .ref e2, .ref e3]) nl
        have x1 := Exc.same x1 z4
        have x2 := Exc.same x2 z4
        have x3 := Exc.same x3 z4
        have yl : (upd G3 l (.lst [.ref e1, .ref e2, .ref e3])) l = some (.lst [.ref e1, .ref e2, .ref e3]) := upd_same
        clear z4
        generalize upd G3 l (.lst [.ref e1, .ref e2, .ref e3]) = G4 at x1 x2 x3 yl ⊢
        refine ⟨l, _, rfl, SqL.of yl, for_it (walk_enum (K := K) (a := l) (xs := [.ref e1, .ref e2, .ref e3])) (fun _ σ H' => ∃ v4 v5, σ = [some (.ref a), v1, v2, v3, v4, v5, v6] ∧ Same G4 H') ⟨v4, v5, rfl, Same.refl G4⟩ (fun i σ H' _ hp => ?_) ?_ ?_⟩
        · obtain ⟨_, _, _, s⟩ := hp
          exact SqL.of (s _ _ yl)
        · rintro at_ y σ H6 H7 hat ⟨v4, v5, rfl, s6⟩ ⟨T_, x_, y_, rfl, nT, rfl, ex, ey⟩
          cases ex
          have h3 : at_ < 3 := hat
          obtain ⟨ee, rfl, hx⟩ : ∃ ee, y_ = V.ref ee ∧ Exc G4 (cl (29 + at_)) ee none := by
            match at_, h3, ey with
            | 0, _, ey =>
              cases ey
              exact ⟨e1, rfl, x1⟩
            | 1, _, ey =>
              cases ey
              exact ⟨e2, rfl, x2⟩
            | 2, _, ey =>
              cases ey
              exact ⟨e3, rfl, x3⟩
          obtain ⟨g, hg, gg, ks⟩ := pick3 at_ h3
          have S7 := s6.trans (CaL.same_new (o := .tup [.int (at_ : Nat), .ref ee]) nT)
          refine ⟨T_, _, rfl, SqT.of upd_same, rfl, _, _, rfl, _, _, rfl, rfl, ?_⟩
          generalize upd H6 T_ (.tup [.int (at_ : Nat), .ref ee]) = H7 at S7 ⊢
          refine ⟨_, rfl, ee, 29 + at_, none, rfl, by omega, Exc.same hx S7, fun p1 H8 s8 n8 q8 => ?_⟩
          rw [ks] at q8
          refine ⟨Nat.zero_le _, fun p2 n2 => ?_⟩
          have z2 := CaL.same_new (o := .lst []) n2
          refine nil_ne (z2 _ _ q8) upd_same ⟨false, rfl, iteF ?_⟩
          have S9 := (S7.trans s8).trans z2
          generalize upd H8 p2 (.lst []) = H9 at S9 ⊢
          refine ⟨_, rfl, ee, 29 + at_, none, rfl, by omega, Exc.same hx S9, fun p3 H10 s10 n10 q10 => ?_⟩
          refine ⟨(by show 3 ≤ sizeLine; decide), fun p4 n4 => ?_⟩
          have z4 := CaL.same_new (o := .lst [.int 0, .int 23, .int 26]) n4
          refine ⟨_, rfl, p4, _, _, _, rfl, rfl, SqL.of upd_same, hg, g, rfl, fun p5 H11 s11 n11 q11 => ?_⟩
          rw [gg] at q10
          exact due_ne (s11 _ _ (z4 _ _ q10)) q11 ⟨false, rfl, iteF ⟨_, _, rfl, ((S9.trans s10).trans z4).trans s11⟩⟩
        · rintro σ H6 ⟨v4, v5, rfl, s6⟩
          exact q _
end
end K03
set_option Elab.async false
set_option linter.all false
set_option maxRecDepth 100000
set_option maxHeartbeats 4000000
set_option pp.maxSteps 500
namespace K03
open PySem PySem.Spec PyProof.Rows L2 CaV CaK
def initOf (k : Nat) : String := if k == 29 then "ValueError.__init__" else if k == 30 then "KeyError.__init__" else "LookupError.__init__"
theorem bare_mk {K : PySem.W.Frag} {C : Addr} {k : Nat} (h1 : 27 ≤ k) (h2 : k < 32) (hb : PySem.W.findIn K (.ref C) "__init__" = some (some (.builtin (initOf k)))) : Bare K C (tailOf k) := by
  have z : k = 27 ∨ k = 28 ∨ k = 29 ∨ k = 30 ∨ k = 31 := by omega
  rcases z with rfl | rfl | rfl | rfl | rfl
  · exact ⟨"LookupError", "LookupError.__init__", Ini.of PySem.F.excBase_LookupError.toExcCallFacts, by decide +kernel, hb⟩
  · exact ⟨"LookupError", "LookupError.__init__", Ini.of PySem.F.excBase_LookupError.toExcCallFacts, by decide +kernel, hb⟩
  · exact ⟨"ValueError", "ValueError.__init__", Ini.of PySem.F.excBase_ValueError.toExcCallFacts, by decide +kernel, hb⟩
  · exact ⟨"KeyError", "KeyError.__init__", iniK, by decide +kernel, hb⟩
  · exact ⟨"LookupError", "LookupError.__init__", Ini.of PySem.F.excBase_LookupError.toExcCallFacts, by decide +kernel, hb⟩
theorem all_mk {l : PySem.W.OpenLaw} {w : World} {K : PySem.W.Frag} {h : Heap} {mg : Str → Option Value} {fa f0 f1 f2 f3 f4 f5 f6 f7 f8 f9 : Addr} (X : K.In h) (G : h.Ns mainGlobals mg) (hfa : mg "law" = some (.ref fa))
    {od0 an0 od1 an1 od2 an2 od3 an3 od4 an4 od5 an5 od6 an6 od7 an7 od8 an8 od9 an9 : Option Addr} {sl0 sl1 sl2 sl3 sl4 sl5 sl6 sl7 sl8 sl9 : Array (Option Value)} {oc0 kV0 dc0 pm0 cd0 ct0 oc1 kV1 dc1 pm1 cd1 ct1 oc2 kV2 dc2 pm2 cd2 ct2 oc3 kV3 dc3 pm3 cd3 ct3 oc4 kV4 dc4 pm4 cd4 ct4 oc5 kV5 dc5 pm5 cd5 ct5 oc6 kV6 dc6 pm6 cd6 ct6 oc7 kV7 dc7 pm7 cd7 ct7 oc8 kV8 dc8 pm8 cd8 ct8 oc9 kV9 dc9 pm9 cd9 ct9 : Value} {ac0 ac1 ac2 ac3 ac4 ac5 ac6 ac7 ac8 ac9 ac10 ac11 ac12 ac13 ac14 ac15 ac16 ac17 ac18 ac19 ac20 ac21 ac22 ac23 ac24 ac25 ac26 ac27 ac28 ac29 ac30 ac31 : Addr} {fi0 fi1 fi2 fi3 fi4 fi5 fi6 fi7 fi8 fi9 fi10 fi11 fi12 fi13 fi14 fi15 fi16 fi17 fi18 fi19 fi20 fi21 fi22 fi23 fi24 fi25 fi26 : Addr} {od_0 an_0 od_1 an_1 od_2 an_2 od_3 an_3 od_4 an_4 od_5 an_5 od_6 an_6 od_7 an_7 od_8 an_8 od_9 an_9 od_10 an_10 od_11 an_11 od_12 an_12 od_13 an_13 od_14 an_14 od_15 an_15 od_16 an_16 od_17 an_17 od_18 an_18 od_19 an_19 od_20 an_20 od_21 an_21 od_22 an_22 od_23 an_23 od_24 an_24 od_25 an_25 od_26 an_26 : Option Addr} {sl_0 sl_1 sl_2 sl_3 sl_4 sl_5 sl_6 sl_7 sl_8 sl_9 sl_10 sl_11 sl_12 sl_13 sl_14 sl_15 sl_16 sl_17 sl_18 sl_19 sl_20 sl_21 sl_22 sl_23 sl_24 sl_25 sl_26 : Array (Option Value)} {oc_0 kV_0 dc_0 pm_0 cd_0 ct_0 oc_1 kV_1 dc_1 pm_1 cd_1 ct_1 oc_2 kV_2 dc_2 pm_2 cd_2 ct_2 oc_3 kV_3 dc_3 pm_3 cd_3 ct_3 oc_4 kV_4 dc_4 pm_4 cd_4 ct_4 oc_5 kV_5 dc_5 pm_5 cd_5 ct_5 oc_6 kV_6 dc_6 pm_6 cd_6 ct_6 oc_7 kV_7 dc_7 pm_7 cd_7 ct_7 oc_8 kV_8 dc_8 pm_8 cd_8 ct_8 oc_9 kV_9 dc_9 pm_9 cd_9 ct_9 oc_10 kV_10 dc_10 pm_10 cd_10 ct_10 oc_11 kV_11 dc_11 pm_11 cd_11 ct_11 oc_12 kV_12 dc_12 pm_12 cd_12 ct_12 oc_13 kV_13 dc_13 pm_13 cd_13 ct_13 oc_14 kV_14 dc_14 pm_14 cd_14 ct_14 oc_15 kV_15 dc_15 pm_15 cd_15 ct_15 oc_16 kV_16 dc_16 pm_16 cd_16 ct_16 oc_17 kV_17 dc_17 pm_17 cd_17 ct_17 oc_18 kV_18 dc_18 pm_18 cd_18 ct_18 oc_19 kV_19 dc_19 pm_19 cd_19 ct_19 oc_20 kV_20 dc_20 pm_20 cd_20 ct_20 oc_21 kV_21 dc_21 pm_21 cd_21 ct_21 oc_22 kV_22 dc_22 pm_22 cd_22 ct_22 oc_23 kV_23 dc_23 pm_23 cd_23 ct_23 oc_24 kV_24 dc_24 pm_24 cd_24 ct_24 oc_25 kV_25 dc_25 pm_25 cd_25 ct_25 oc_26 kV_26 dc_26 pm_26 cd_26 ct_26 : Value}
    (a0 : PySem.W.nsIn K mainGlobals "_law_cell" = some (some (.ref f0)))
    (l0 : K.lookup f0 = some ⟨oc0, od0, .func (PySem.W.fnOf "_law_cell" "_law_cell" (defArgs s_l_cell) (defBody s_l_cell) (defScope s_l_cell) .none kV0 dc0 pm0 an0 cd0 ct0), sl0⟩)
    (c0 : PySem.W.codeIn K cd0 "_law_cell" = true)
    (k0 : PySem.W.keepIn K (.ref f0) = true)
    (a1 : PySem.W.nsIn K mainGlobals "_law_box" = some (some (.ref f1)))
    (l1 : K.lookup f1 = some ⟨oc1, od1, .func (PySem.W.fnOf "_law_box" "_law_box" (defArgs s_l_box) (defBody s_l_box) (defScope s_l_box) .none kV1 dc1 pm1 an1 cd1 ct1), sl1⟩)
    (c1 : PySem.W.codeIn K cd1 "_law_box" = true)
    (k1 : PySem.W.keepIn K (.ref f1) = true)
    (a2 : PySem.W.nsIn K mainGlobals "_law_take" = some (some (.ref f2)))
    (l2 : K.lookup f2 = some ⟨oc2, od2, .func (PySem.W.fnOf "_law_take" "_law_take" (defArgs s_l_take) (defBody s_l_take) (defScope s_l_take) .none kV2 dc2 pm2 an2 cd2 ct2), sl2⟩)
    (c2 : PySem.W.codeIn K cd2 "_law_take" = true)
    (k2 : PySem.W.keepIn K (.ref f2) = true)
    (a3 : PySem.W.nsIn K mainGlobals "_law_value" = some (some (.ref f3)))
    (l3 : K.lookup f3 = some ⟨oc3, od3, .func (PySem.W.fnOf "_law_value" "_law_value" (defArgs s_l_value) (defBody s_l_value) (defScope s_l_value) .none kV3 dc3 pm3 an3 cd3 ct3), sl3⟩)
    (c3 : PySem.W.codeIn K cd3 "_law_value" = true)
    (k3 : PySem.W.keepIn K (.ref f3) = true)
    (a4 : PySem.W.nsIn K mainGlobals "_law_made" = some (some (.ref f4)))
    (l4 : K.lookup f4 = some ⟨oc4, od4, .func (PySem.W.fnOf "_law_made" "_law_made" (defArgs s_l_made) (defBody s_l_made) (defScope s_l_made) .none kV4 dc4 pm4 an4 cd4 ct4), sl4⟩)
    (c4 : PySem.W.codeIn K cd4 "_law_made" = true)
    (k4 : PySem.W.keepIn K (.ref f4) = true)
    (a5 : PySem.W.nsIn K mainGlobals "_law_field" = some (some (.ref f5)))
    (l5 : K.lookup f5 = some ⟨oc5, od5, .func (PySem.W.fnOf "_law_field" "_law_field" (defArgs s_l_field) (defBody s_l_field) (defScope s_l_field) .none kV5 dc5 pm5 an5 cd5 ct5), sl5⟩)
    (c5 : PySem.W.codeIn K cd5 "_law_field" = true)
    (k5 : PySem.W.keepIn K (.ref f5) = true)
    (a6 : PySem.W.nsIn K mainGlobals "_law_kinds" = some (some (.ref f6)))
    (l6 : K.lookup f6 = some ⟨oc6, od6, .func (PySem.W.fnOf "_law_kinds" "_law_kinds" (defArgs s_l_kinds) (defBody s_l_kinds) (defScope s_l_kinds) .none kV6 dc6 pm6 an6 cd6 ct6), sl6⟩)
    (c6 : PySem.W.codeIn K cd6 "_law_kinds" = true)
    (k6 : PySem.W.keepIn K (.ref f6) = true)
    (a7 : PySem.W.nsIn K mainGlobals "_law_bases" = some (some (.ref f7)))
    (l7 : K.lookup f7 = some ⟨oc7, od7, .func (PySem.W.fnOf "_law_bases" "_law_bases" (defArgs s_l_bases) (defBody s_l_bases) (defScope s_l_bases) .none kV7 dc7 pm7 an7 cd7 ct7), sl7⟩)
    (c7 : PySem.W.codeIn K cd7 "_law_bases" = true)
    (k7 : PySem.W.keepIn K (.ref f7) = true)
    (a8 : PySem.W.nsIn K mainGlobals "_law_due" = some (some (.ref f8)))
    (l8 : K.lookup f8 = some ⟨oc8, od8, .func (PySem.W.fnOf "_law_due" "_law_due" (defArgs s_l_due) (defBody s_l_due) (defScope s_l_due) .none kV8 dc8 pm8 an8 cd8 ct8), sl8⟩)
    (c8 : PySem.W.codeIn K cd8 "_law_due" = true)
    (k8 : PySem.W.keepIn K (.ref f8) = true)
    (a9 : PySem.W.nsIn K mainGlobals "law" = some (some (.ref f9)))
    (l9 : K.lookup f9 = some ⟨oc9, od9, .func (PySem.W.fnOf "law" "law" (defArgs s_law) (defBody s_law) (defScope s_law) .none kV9 dc9 pm9 an9 cd9 ct9), sl9⟩)
    (c9 : PySem.W.codeIn K cd9 "law" = true)
    (k9 : PySem.W.keepIn K (.ref f9) = true)
    (z0 : PySem.W.nsIn K mainGlobals "len" = some none)
    (z1 : PySem.W.nsIn K mainGlobals "max" = some none)
    (z2 : PySem.W.nsIn K mainGlobals "min" = some none)
    (z3 : PySem.W.nsIn K mainGlobals "range" = some none)
    (z4 : PySem.W.nsIn K mainGlobals "isinstance" = some none)
    (z5 : PySem.W.nsIn K mainGlobals "repr" = some none)
    (z6 : PySem.W.nsIn K mainGlobals "enumerate" = some none)
    (z7 : PySem.W.nsIn K mainGlobals "list" = some none)
    (z8 : PySem.W.nsIn K mainGlobals "dict" = some none)
    (z9 : PySem.W.nsIn K mainGlobals "ValueError" = some none)
    (z10 : PySem.W.nsIn K mainGlobals "KeyError" = some none)
    (z11 : PySem.W.nsIn K mainGlobals "LookupError" = some none)
    (ng0 : PySem.W.nsIn K mainGlobals "InvalidName" = some (some (.ref ac0)))
    (ng1 : PySem.W.nsIn K mainGlobals "InvalidTerm" = some (some (.ref ac1)))
    (ng2 : PySem.W.nsIn K mainGlobals "InvalidBody" = some (some (.ref ac2)))
    (ng3 : PySem.W.nsIn K mainGlobals "InvalidProgram" = some (some (.ref ac3)))
    (ng4 : PySem.W.nsIn K mainGlobals "InvalidParameters" = some (some (.ref ac4)))
    (ng5 : PySem.W.nsIn K mainGlobals "InvalidTemplate" = some (some (.ref ac5)))
    (ng6 : PySem.W.nsIn K mainGlobals "InvalidCall" = some (some (.ref ac6)))
    (ng7 : PySem.W.nsIn K mainGlobals "InvalidBook" = some (some (.ref ac7)))
    (ng8 : PySem.W.nsIn K mainGlobals "InvalidChoice" = some (some (.ref ac8)))
    (ng9 : PySem.W.nsIn K mainGlobals "InvalidFillings" = some (some (.ref ac9)))
    (ng10 : PySem.W.nsIn K mainGlobals "InvalidSite" = some (some (.ref ac10)))
    (ng11 : PySem.W.nsIn K mainGlobals "InvalidTables" = some (some (.ref ac11)))
    (ng12 : PySem.W.nsIn K mainGlobals "InvalidMeaning" = some (some (.ref ac12)))
    (ng13 : PySem.W.nsIn K mainGlobals "InvalidText" = some (some (.ref ac13)))
    (ng14 : PySem.W.nsIn K mainGlobals "InvalidLine" = some (some (.ref ac14)))
    (ng15 : PySem.W.nsIn K mainGlobals "InvalidLines" = some (some (.ref ac15)))
    (ng16 : PySem.W.nsIn K mainGlobals "InvalidMode" = some (some (.ref ac16)))
    (ng17 : PySem.W.nsIn K mainGlobals "InvalidLetter" = some (some (.ref ac17)))
    (ng18 : PySem.W.nsIn K mainGlobals "UnlikeParameters" = some (some (.ref ac18)))
    (ng19 : PySem.W.nsIn K mainGlobals "Duplicate" = some (some (.ref ac19)))
    (ng20 : PySem.W.nsIn K mainGlobals "Reserved" = some (some (.ref ac20)))
    (ng21 : PySem.W.nsIn K mainGlobals "TooLarge" = some (some (.ref ac21)))
    (ng22 : PySem.W.nsIn K mainGlobals "InvalidRow" = some (some (.ref ac22)))
    (ng23 : PySem.W.nsIn K mainGlobals "UnknownTemplate" = some (some (.ref ac23)))
    (ng24 : PySem.W.nsIn K mainGlobals "UnknownHole" = some (some (.ref ac24)))
    (ng25 : PySem.W.nsIn K mainGlobals "UnknownBinder" = some (some (.ref ac25)))
    (ng26 : PySem.W.nsIn K mainGlobals "StillCalled" = some (some (.ref ac26)))
    (ng27 : PySem.W.nsIn K mainGlobals "NothingToUndo" = some (some (.ref ac27)))
    (ng28 : PySem.W.nsIn K mainGlobals "NothingToRedo" = some (some (.ref ac28)))
    (ng29 : PySem.W.nsIn K mainGlobals "CaughtError" = some (some (.ref ac29)))
    (ng30 : PySem.W.nsIn K mainGlobals "AbsentError" = some (some (.ref ac30)))
    (ng31 : PySem.W.nsIn K mainGlobals "StateError" = some (some (.ref ac31)))
    (ni0 : PySem.W.findIn K (.ref ac0) "__init__" = some (some (.ref fi0)))
    (nl0 : K.lookup fi0 = some ⟨oc_0, od_0, .func (PySem.W.fnOf "__init__" "InvalidName.__init__" (defArgs (s_init 0)) (defBody (s_init 0)) (defScope (s_init 0)) .none kV_0 dc_0 pm_0 an_0 cd_0 ct_0), sl_0⟩)
    (nc0 : PySem.W.codeIn K cd_0 "InvalidName.__init__" = true)
    (nk0 : PySem.W.keepIn K (.ref fi0) = true)
    (ni1 : PySem.W.findIn K (.ref ac1) "__init__" = some (some (.ref fi1)))
    (nl1 : K.lookup fi1 = some ⟨oc_1, od_1, .func (PySem.W.fnOf "__init__" "InvalidTerm.__init__" (defArgs (s_init 1)) (defBody (s_init 1)) (defScope (s_init 1)) .none kV_1 dc_1 pm_1 an_1 cd_1 ct_1), sl_1⟩)
    (nc1 : PySem.W.codeIn K cd_1 "InvalidTerm.__init__" = true)
    (nk1 : PySem.W.keepIn K (.ref fi1) = true)
    (ni2 : PySem.W.findIn K (.ref ac2) "__init__" = some (some (.ref fi2)))
    (nl2 : K.lookup fi2 = some ⟨oc_2, od_2, .func (PySem.W.fnOf "__init__" "InvalidBody.__init__" (defArgs (s_init 2)) (defBody (s_init 2)) (defScope (s_init 2)) .none kV_2 dc_2 pm_2 an_2 cd_2 ct_2), sl_2⟩)
    (nc2 : PySem.W.codeIn K cd_2 "InvalidBody.__init__" = true)
    (nk2 : PySem.W.keepIn K (.ref fi2) = true)
    (ni3 : PySem.W.findIn K (.ref ac3) "__init__" = some (some (.ref fi3)))
    (nl3 : K.lookup fi3 = some ⟨oc_3, od_3, .func (PySem.W.fnOf "__init__" "InvalidProgram.__init__" (defArgs (s_init 3)) (defBody (s_init 3)) (defScope (s_init 3)) .none kV_3 dc_3 pm_3 an_3 cd_3 ct_3), sl_3⟩)
    (nc3 : PySem.W.codeIn K cd_3 "InvalidProgram.__init__" = true)
    (nk3 : PySem.W.keepIn K (.ref fi3) = true)
    (ni4 : PySem.W.findIn K (.ref ac4) "__init__" = some (some (.ref fi4)))
    (nl4 : K.lookup fi4 = some ⟨oc_4, od_4, .func (PySem.W.fnOf "__init__" "InvalidParameters.__init__" (defArgs (s_init 4)) (defBody (s_init 4)) (defScope (s_init 4)) .none kV_4 dc_4 pm_4 an_4 cd_4 ct_4), sl_4⟩)
    (nc4 : PySem.W.codeIn K cd_4 "InvalidParameters.__init__" = true)
    (nk4 : PySem.W.keepIn K (.ref fi4) = true)
    (ni5 : PySem.W.findIn K (.ref ac5) "__init__" = some (some (.ref fi5)))
    (nl5 : K.lookup fi5 = some ⟨oc_5, od_5, .func (PySem.W.fnOf "__init__" "InvalidTemplate.__init__" (defArgs (s_init 5)) (defBody (s_init 5)) (defScope (s_init 5)) .none kV_5 dc_5 pm_5 an_5 cd_5 ct_5), sl_5⟩)
    (nc5 : PySem.W.codeIn K cd_5 "InvalidTemplate.__init__" = true)
    (nk5 : PySem.W.keepIn K (.ref fi5) = true)
    (ni6 : PySem.W.findIn K (.ref ac6) "__init__" = some (some (.ref fi6)))
    (nl6 : K.lookup fi6 = some ⟨oc_6, od_6, .func (PySem.W.fnOf "__init__" "InvalidCall.__init__" (defArgs (s_init 6)) (defBody (s_init 6)) (defScope (s_init 6)) .none kV_6 dc_6 pm_6 an_6 cd_6 ct_6), sl_6⟩)
    (nc6 : PySem.W.codeIn K cd_6 "InvalidCall.__init__" = true)
    (nk6 : PySem.W.keepIn K (.ref fi6) = true)
    (ni7 : PySem.W.findIn K (.ref ac7) "__init__" = some (some (.ref fi7)))
    (nl7 : K.lookup fi7 = some ⟨oc_7, od_7, .func (PySem.W.fnOf "__init__" "InvalidBook.__init__" (defArgs (s_init 7)) (defBody (s_init 7)) (defScope (s_init 7)) .none kV_7 dc_7 pm_7 an_7 cd_7 ct_7), sl_7⟩)
    (nc7 : PySem.W.codeIn K cd_7 "InvalidBook.__init__" = true)
    (nk7 : PySem.W.keepIn K (.ref fi7) = true)
    (ni8 : PySem.W.findIn K (.ref ac8) "__init__" = some (some (.ref fi8)))
    (nl8 : K.lookup fi8 = some ⟨oc_8, od_8, .func (PySem.W.fnOf "__init__" "InvalidChoice.__init__" (defArgs (s_init 8)) (defBody (s_init 8)) (defScope (s_init 8)) .none kV_8 dc_8 pm_8 an_8 cd_8 ct_8), sl_8⟩)
    (nc8 : PySem.W.codeIn K cd_8 "InvalidChoice.__init__" = true)
    (nk8 : PySem.W.keepIn K (.ref fi8) = true)
    (ni9 : PySem.W.findIn K (.ref ac9) "__init__" = some (some (.ref fi9)))
    (nl9 : K.lookup fi9 = some ⟨oc_9, od_9, .func (PySem.W.fnOf "__init__" "InvalidFillings.__init__" (defArgs (s_init 9)) (defBody (s_init 9)) (defScope (s_init 9)) .none kV_9 dc_9 pm_9 an_9 cd_9 ct_9), sl_9⟩)
    (nc9 : PySem.W.codeIn K cd_9 "InvalidFillings.__init__" = true)
    (nk9 : PySem.W.keepIn K (.ref fi9) = true)
    (ni10 : PySem.W.findIn K (.ref ac10) "__init__" = some (some (.ref fi10)))
    (nl10 : K.lookup fi10 = some ⟨oc_10, od_10, .func (PySem.W.fnOf "__init__" "InvalidSite.__init__" (defArgs (s_init 10)) (defBody (s_init 10)) (defScope (s_init 10)) .none kV_10 dc_10 pm_10 an_10 cd_10 ct_10), sl_10⟩)
    (nc10 : PySem.W.codeIn K cd_10 "InvalidSite.__init__" = true)
    (nk10 : PySem.W.keepIn K (.ref fi10) = true)
    (ni11 : PySem.W.findIn K (.ref ac11) "__init__" = some (some (.ref fi11)))
    (nl11 : K.lookup fi11 = some ⟨oc_11, od_11, .func (PySem.W.fnOf "__init__" "InvalidTables.__init__" (defArgs (s_init 11)) (defBody (s_init 11)) (defScope (s_init 11)) .none kV_11 dc_11 pm_11 an_11 cd_11 ct_11), sl_11⟩)
    (nc11 : PySem.W.codeIn K cd_11 "InvalidTables.__init__" = true)
    (nk11 : PySem.W.keepIn K (.ref fi11) = true)
    (ni12 : PySem.W.findIn K (.ref ac12) "__init__" = some (some (.ref fi12)))
    (nl12 : K.lookup fi12 = some ⟨oc_12, od_12, .func (PySem.W.fnOf "__init__" "InvalidMeaning.__init__" (defArgs (s_init 12)) (defBody (s_init 12)) (defScope (s_init 12)) .none kV_12 dc_12 pm_12 an_12 cd_12 ct_12), sl_12⟩)
    (nc12 : PySem.W.codeIn K cd_12 "InvalidMeaning.__init__" = true)
    (nk12 : PySem.W.keepIn K (.ref fi12) = true)
    (ni13 : PySem.W.findIn K (.ref ac13) "__init__" = some (some (.ref fi13)))
    (nl13 : K.lookup fi13 = some ⟨oc_13, od_13, .func (PySem.W.fnOf "__init__" "InvalidText.__init__" (defArgs (s_init 13)) (defBody (s_init 13)) (defScope (s_init 13)) .none kV_13 dc_13 pm_13 an_13 cd_13 ct_13), sl_13⟩)
    (nc13 : PySem.W.codeIn K cd_13 "InvalidText.__init__" = true)
    (nk13 : PySem.W.keepIn K (.ref fi13) = true)
    (ni14 : PySem.W.findIn K (.ref ac14) "__init__" = some (some (.ref fi14)))
    (nl14 : K.lookup fi14 = some ⟨oc_14, od_14, .func (PySem.W.fnOf "__init__" "InvalidLine.__init__" (defArgs (s_init 14)) (defBody (s_init 14)) (defScope (s_init 14)) .none kV_14 dc_14 pm_14 an_14 cd_14 ct_14), sl_14⟩)
    (nc14 : PySem.W.codeIn K cd_14 "InvalidLine.__init__" = true)
    (nk14 : PySem.W.keepIn K (.ref fi14) = true)
    (ni15 : PySem.W.findIn K (.ref ac15) "__init__" = some (some (.ref fi15)))
    (nl15 : K.lookup fi15 = some ⟨oc_15, od_15, .func (PySem.W.fnOf "__init__" "InvalidLines.__init__" (defArgs (s_init 15)) (defBody (s_init 15)) (defScope (s_init 15)) .none kV_15 dc_15 pm_15 an_15 cd_15 ct_15), sl_15⟩)
    (nc15 : PySem.W.codeIn K cd_15 "InvalidLines.__init__" = true)
    (nk15 : PySem.W.keepIn K (.ref fi15) = true)
    (ni16 : PySem.W.findIn K (.ref ac16) "__init__" = some (some (.ref fi16)))
    (nl16 : K.lookup fi16 = some ⟨oc_16, od_16, .func (PySem.W.fnOf "__init__" "InvalidMode.__init__" (defArgs (s_init 16)) (defBody (s_init 16)) (defScope (s_init 16)) .none kV_16 dc_16 pm_16 an_16 cd_16 ct_16), sl_16⟩)
    (nc16 : PySem.W.codeIn K cd_16 "InvalidMode.__init__" = true)
    (nk16 : PySem.W.keepIn K (.ref fi16) = true)
    (ni17 : PySem.W.findIn K (.ref ac17) "__init__" = some (some (.ref fi17)))
    (nl17 : K.lookup fi17 = some ⟨oc_17, od_17, .func (PySem.W.fnOf "__init__" "InvalidLetter.__init__" (defArgs (s_init 17)) (defBody (s_init 17)) (defScope (s_init 17)) .none kV_17 dc_17 pm_17 an_17 cd_17 ct_17), sl_17⟩)
    (nc17 : PySem.W.codeIn K cd_17 "InvalidLetter.__init__" = true)
    (nk17 : PySem.W.keepIn K (.ref fi17) = true)
    (ni18 : PySem.W.findIn K (.ref ac18) "__init__" = some (some (.ref fi18)))
    (nl18 : K.lookup fi18 = some ⟨oc_18, od_18, .func (PySem.W.fnOf "__init__" "UnlikeParameters.__init__" (defArgs (s_init 18)) (defBody (s_init 18)) (defScope (s_init 18)) .none kV_18 dc_18 pm_18 an_18 cd_18 ct_18), sl_18⟩)
    (nc18 : PySem.W.codeIn K cd_18 "UnlikeParameters.__init__" = true)
    (nk18 : PySem.W.keepIn K (.ref fi18) = true)
    (ni19 : PySem.W.findIn K (.ref ac19) "__init__" = some (some (.ref fi19)))
    (nl19 : K.lookup fi19 = some ⟨oc_19, od_19, .func (PySem.W.fnOf "__init__" "Duplicate.__init__" (defArgs (s_init 19)) (defBody (s_init 19)) (defScope (s_init 19)) .none kV_19 dc_19 pm_19 an_19 cd_19 ct_19), sl_19⟩)
    (nc19 : PySem.W.codeIn K cd_19 "Duplicate.__init__" = true)
    (nk19 : PySem.W.keepIn K (.ref fi19) = true)
    (ni20 : PySem.W.findIn K (.ref ac20) "__init__" = some (some (.ref fi20)))
    (nl20 : K.lookup fi20 = some ⟨oc_20, od_20, .func (PySem.W.fnOf "__init__" "Reserved.__init__" (defArgs (s_init 20)) (defBody (s_init 20)) (defScope (s_init 20)) .none kV_20 dc_20 pm_20 an_20 cd_20 ct_20), sl_20⟩)
    (nc20 : PySem.W.codeIn K cd_20 "Reserved.__init__" = true)
    (nk20 : PySem.W.keepIn K (.ref fi20) = true)
    (ni21 : PySem.W.findIn K (.ref ac21) "__init__" = some (some (.ref fi21)))
    (nl21 : K.lookup fi21 = some ⟨oc_21, od_21, .func (PySem.W.fnOf "__init__" "TooLarge.__init__" (defArgs (s_init 21)) (defBody (s_init 21)) (defScope (s_init 21)) .none kV_21 dc_21 pm_21 an_21 cd_21 ct_21), sl_21⟩)
    (nc21 : PySem.W.codeIn K cd_21 "TooLarge.__init__" = true)
    (nk21 : PySem.W.keepIn K (.ref fi21) = true)
    (ni22 : PySem.W.findIn K (.ref ac22) "__init__" = some (some (.ref fi22)))
    (nl22 : K.lookup fi22 = some ⟨oc_22, od_22, .func (PySem.W.fnOf "__init__" "InvalidRow.__init__" (defArgs (s_init 22)) (defBody (s_init 22)) (defScope (s_init 22)) .none kV_22 dc_22 pm_22 an_22 cd_22 ct_22), sl_22⟩)
    (nc22 : PySem.W.codeIn K cd_22 "InvalidRow.__init__" = true)
    (nk22 : PySem.W.keepIn K (.ref fi22) = true)
    (ni23 : PySem.W.findIn K (.ref ac23) "__init__" = some (some (.ref fi23)))
    (nl23 : K.lookup fi23 = some ⟨oc_23, od_23, .func (PySem.W.fnOf "__init__" "UnknownTemplate.__init__" (defArgs (s_init 23)) (defBody (s_init 23)) (defScope (s_init 23)) .none kV_23 dc_23 pm_23 an_23 cd_23 ct_23), sl_23⟩)
    (nc23 : PySem.W.codeIn K cd_23 "UnknownTemplate.__init__" = true)
    (nk23 : PySem.W.keepIn K (.ref fi23) = true)
    (ni24 : PySem.W.findIn K (.ref ac24) "__init__" = some (some (.ref fi24)))
    (nl24 : K.lookup fi24 = some ⟨oc_24, od_24, .func (PySem.W.fnOf "__init__" "UnknownHole.__init__" (defArgs (s_init 24)) (defBody (s_init 24)) (defScope (s_init 24)) .none kV_24 dc_24 pm_24 an_24 cd_24 ct_24), sl_24⟩)
    (nc24 : PySem.W.codeIn K cd_24 "UnknownHole.__init__" = true)
    (nk24 : PySem.W.keepIn K (.ref fi24) = true)
    (ni25 : PySem.W.findIn K (.ref ac25) "__init__" = some (some (.ref fi25)))
    (nl25 : K.lookup fi25 = some ⟨oc_25, od_25, .func (PySem.W.fnOf "__init__" "UnknownBinder.__init__" (defArgs (s_init 25)) (defBody (s_init 25)) (defScope (s_init 25)) .none kV_25 dc_25 pm_25 an_25 cd_25 ct_25), sl_25⟩)
    (nc25 : PySem.W.codeIn K cd_25 "UnknownBinder.__init__" = true)
    (nk25 : PySem.W.keepIn K (.ref fi25) = true)
    (ni26 : PySem.W.findIn K (.ref ac26) "__init__" = some (some (.ref fi26)))
    (nl26 : K.lookup fi26 = some ⟨oc_26, od_26, .func (PySem.W.fnOf "__init__" "StillCalled.__init__" (defArgs (s_init 26)) (defBody (s_init 26)) (defScope (s_init 26)) .none kV_26 dc_26 pm_26 an_26 cd_26 ct_26), sl_26⟩)
    (nc26 : PySem.W.codeIn K cd_26 "StillCalled.__init__" = true)
    (nk26 : PySem.W.keepIn K (.ref fi26) = true)
    (hsp : PySem.W.specialIn K (.builtin "object.__class__") "__get__" = some (some (.builtin "getset_descriptor.__get__")))
    (htk : PySem.W.takesIn K (.builtin "object.__class__") = some true)
    (nbk : (List.range 32).all (fun k => kxB K ((fun k : Nat => [ac0, ac1, ac2, ac3, ac4, ac5, ac6, ac7, ac8, ac9, ac10, ac11, ac12, ac13, ac14, ac15, ac16, ac17, ac18, ac19, ac20, ac21, ac22, ac23, ac24, ac25, ac26, ac27, ac28, ac29, ac30, ac31].getD k 0) k) (tailOf k) (makerOf k)) = true)
    (nbn : (List.range 27).all (fun k => decide (PySem.W.findIn K (.ref ((fun k : Nat => [ac0, ac1, ac2, ac3, ac4, ac5, ac6, ac7, ac8, ac9, ac10, ac11, ac12, ac13, ac14, ac15, ac16, ac17, ac18, ac19, ac20, ac21, ac22, ac23, ac24, ac25, ac26, ac27, ac28, ac29, ac30, ac31].getD k 0) k)) (fieldOf k) = some none)) = true)
    (nbt : (List.range 27).all (fun k => decide (PySem.W.typeIn K (.ref ((fun k : Nat => [fi0, fi1, fi2, fi3, fi4, fi5, fi6, fi7, fi8, fi9, fi10, fi11, fi12, fi13, fi14, fi15, fi16, fi17, fi18, fi19, fi20, fi21, fi22, fi23, fi24, fi25, fi26].getD k 0) k)) = some (.type "function"))) = true)
    (nbb : [27, 28, 29, 30, 31].all (fun k => decide (PySem.W.findIn K (.ref ((fun k : Nat => [ac0, ac1, ac2, ac3, ac4, ac5, ac6, ac7, ac8, ac9, ac10, ac11, ac12, ac13, ac14, ac15, ac16, ac17, ac18, ac19, ac20, ac21, ac22, ac23, ac24, ac25, ac26, ac27, ac28, ac29, ac30, ac31].getD k 0) k)) "__init__" = some (some (.builtin (initOf k))))) = true)
    (nbm : (List.range 32).all (fun k => (List.range 32).all fun j => decide (PySem.W.kitOne K (.ref ((fun k : Nat => [ac0, ac1, ac2, ac3, ac4, ac5, ac6, ac7, ac8, ac9, ac10, ac11, ac12, ac13, ac14, ac15, ac16, ac17, ac18, ac19, ac20, ac21, ac22, ac23, ac24, ac25, ac26, ac27, ac28, ac29, ac30, ac31].getD k 0) k)) (.ref ((fun k : Nat => [ac0, ac1, ac2, ac3, ac4, ac5, ac6, ac7, ac8, ac9, ac10, ac11, ac12, ac13, ac14, ac15, ac16, ac17, ac18, ac19, ac20, ac21, ac22, ac23, ac24, ac25, ac26, ac27, ac28, ac29, ac30, ac31].getD k 0) j)) = some (isDue k j))) = true)
    (nbu : (List.range 32).all (fun k => ["ValueError", "KeyError", "LookupError"].all fun b => decide (PySem.W.kitOne K (.ref ((fun k : Nat => [ac0, ac1, ac2, ac3, ac4, ac5, ac6, ac7, ac8, ac9, ac10, ac11, ac12, ac13, ac14, ac15, ac16, ac17, ac18, ac19, ac20, ac21, ac22, ac23, ac24, ac25, ac26, ac27, ac28, ac29, ac30, ac31].getD k 0) k)) (.type b) = some (builtDue k b))) = true) :
    ∃ fd : FuncData, (∀ (s : Shared) (v : Value), BindsTo s fd ⟨[v], []⟩ [("_law_script", v)]) ∧ ∀ base : Heap, K.In base → base.Ns mainGlobals mg → CaG.FnG l.prog w K mg base 4 fa fd ["_law_script"] (CaL.spLaw K) := by
  have e := hfa.symm.trans (PySem.W.mg_of X G a9)
  cases e
  have F_l_cell := fun_mk (st := s_l_cell) l0 c0 k0
  have b_l_cell := F_l_cell.binds (ps := ["_law_script", "_law_k"]) fun _ _ _ _ _ _ us hl => match us, hl with | [_, _], _ => rfl
  have g_l_cell := PySem.W.mg_of X G a0
  have F_l_box := fun_mk (st := s_l_box) l1 c1 k1
  have b_l_box := F_l_box.binds (ps := ["_law_cell_here"]) fun _ _ _ _ _ _ us hl => match us, hl with | [_], _ => rfl
  have g_l_box := PySem.W.mg_of X G a1
  have F_l_take := fun_mk (st := s_l_take) l2 c2 k2
  have b_l_take := F_l_take.binds (ps := ["_law_box_here", "_law_many"]) fun _ _ _ _ _ _ us hl => match us, hl with | [_, _], _ => rfl
  have g_l_take := PySem.W.mg_of X G a2
  have F_l_value := fun_mk (st := s_l_value) l3 c3 k3
  have b_l_value := F_l_value.binds (ps := ["_law_box_here"]) fun _ _ _ _ _ _ us hl => match us, hl with | [_], _ => rfl
  have g_l_value := PySem.W.mg_of X G a3
  have F_l_made := fun_mk (st := s_l_made) l4 c4 k4
  have b_l_made := F_l_made.binds (ps := ["_law_value_here"]) fun _ _ _ _ _ _ us hl => match us, hl with | [_], _ => rfl
  have g_l_made := PySem.W.mg_of X G a4
  have F_l_field := fun_mk (st := s_l_field) l5 c5 k5
  have b_l_field := F_l_field.binds (ps := ["_law_error", "_law_k"]) fun _ _ _ _ _ _ us hl => match us, hl with | [_, _], _ => rfl
  have g_l_field := PySem.W.mg_of X G a5
  have F_l_kinds := fun_mk (st := s_l_kinds) l6 c6 k6
  have b_l_kinds := F_l_kinds.binds (ps := ["_law_error"]) fun _ _ _ _ _ _ us hl => match us, hl with | [_], _ => rfl
  have g_l_kinds := PySem.W.mg_of X G a6
  have F_l_bases := fun_mk (st := s_l_bases) l7 c7 k7
  have b_l_bases := F_l_bases.binds (ps := ["_law_error"]) fun _ _ _ _ _ _ us hl => match us, hl with | [_], _ => rfl
  have g_l_bases := PySem.W.mg_of X G a7
  have F_l_due := fun_mk (st := s_l_due) l8 c8 k8
  have b_l_due := F_l_due.binds (ps := ["_law_k"]) fun _ _ _ _ _ _ us hl => match us, hl with | [_], _ => rfl
  have g_l_due := PySem.W.mg_of X G a8
  have F_law := fun_mk (st := s_law) l9 c9 k9
  have n_len := PySem.W.mg_none_of X G z0
  have n_max := PySem.W.mg_none_of X G z1
  have n_min := PySem.W.mg_none_of X G z2
  have n_range := PySem.W.mg_none_of X G z3
  have n_isinstance := PySem.W.mg_none_of X G z4
  have n_repr := PySem.W.mg_none_of X G z5
  have n_enumerate := PySem.W.mg_none_of X G z6
  have n_list := PySem.W.mg_none_of X G z7
  have n_dict := PySem.W.mg_none_of X G z8
  have n_ValueError := PySem.W.mg_none_of X G z9
  have n_KeyError := PySem.W.mg_none_of X G z10
  have n_LookupError := PySem.W.mg_none_of X G z11
  have N : TN mg := ⟨n_isinstance, n_len, n_range, n_max, n_min, n_repr, n_enumerate, n_list, n_dict, n_ValueError, n_KeyError, n_LookupError⟩
  have TBc : TB mg := ⟨n_len, n_max⟩
  have FI0 := fun_mk (st := s_init 0) nl0 nc0 nk0
  have FI1 := fun_mk (st := s_init 1) nl1 nc1 nk1
  have FI2 := fun_mk (st := s_init 2) nl2 nc2 nk2
  have FI3 := fun_mk (st := s_init 3) nl3 nc3 nk3
  have FI4 := fun_mk (st := s_init 4) nl4 nc4 nk4
  have FI5 := fun_mk (st := s_init 5) nl5 nc5 nk5
  have FI6 := fun_mk (st := s_init 6) nl6 nc6 nk6
  have FI7 := fun_mk (st := s_init 7) nl7 nc7 nk7
  have FI8 := fun_mk (st := s_init 8) nl8 nc8 nk8
  have FI9 := fun_mk (st := s_init 9) nl9 nc9 nk9
  have FI10 := fun_mk (st := s_init 10) nl10 nc10 nk10
  have FI11 := fun_mk (st := s_init 11) nl11 nc11 nk11
  have FI12 := fun_mk (st := s_init 12) nl12 nc12 nk12
  have FI13 := fun_mk (st := s_init 13) nl13 nc13 nk13
  have FI14 := fun_mk (st := s_init 14) nl14 nc14 nk14
  have FI15 := fun_mk (st := s_init 15) nl15 nc15 nk15
  have FI16 := fun_mk (st := s_init 16) nl16 nc16 nk16
  have FI17 := fun_mk (st := s_init 17) nl17 nc17 nk17
  have FI18 := fun_mk (st := s_init 18) nl18 nc18 nk18
  have FI19 := fun_mk (st := s_init 19) nl19 nc19 nk19
  have FI20 := fun_mk (st := s_init 20) nl20 nc20 nk20
  have FI21 := fun_mk (st := s_init 21) nl21 nc21 nk21
  have FI22 := fun_mk (st := s_init 22) nl22 nc22 nk22
  have FI23 := fun_mk (st := s_init 23) nl23 nc23 nk23
  have FI24 := fun_mk (st := s_init 24) nl24 nc24 nk24
  have FI25 := fun_mk (st := s_init 25) nl25 nc25 nk25
  have FI26 := fun_mk (st := s_init 26) nl26 nc26 nk26
  have T : TX K mg (fun k : Nat => [ac0, ac1, ac2, ac3, ac4, ac5, ac6, ac7, ac8, ac9, ac10, ac11, ac12, ac13, ac14, ac15, ac16, ac17, ac18, ac19, ac20, ac21, ac22, ac23, ac24, ac25, ac26, ac27, ac28, ac29, ac30, ac31].getD k 0) (fun k : Nat => [fi0, fi1, fi2, fi3, fi4, fi5, fi6, fi7, fi8, fi9, fi10, fi11, fi12, fi13, fi14, fi15, fi16, fi17, fi18, fi19, fi20, fi21, fi22, fi23, fi24, fi25, fi26].getD k 0) (fun k : Nat => [(PySem.W.fnOf "__init__" "InvalidName.__init__" (defArgs (s_init 0)) (defBody (s_init 0)) (defScope (s_init 0)) .none kV_0 dc_0 pm_0 an_0 cd_0 ct_0), (PySem.W.fnOf "__init__" "InvalidTerm.__init__" (defArgs (s_init 1)) (defBody (s_init 1)) (defScope (s_init 1)) .none kV_1 dc_1 pm_1 an_1 cd_1 ct_1), (PySem.W.fnOf "__init__" "InvalidBody.__init__" (defArgs (s_init 2)) (defBody (s_init 2)) (defScope (s_init 2)) .none kV_2 dc_2 pm_2 an_2 cd_2 ct_2), (PySem.W.fnOf "__init__" "InvalidProgram.__init__" (defArgs (s_init 3)) (defBody (s_init 3)) (defScope (s_init 3)) .none kV_3 dc_3 pm_3 an_3 cd_3 ct_3), (PySem.W.fnOf "__init__" "InvalidParameters.__init__" (defArgs (s_init 4)) (defBody (s_init 4)) (defScope (s_init 4)) .none kV_4 dc_4 pm_4 an_4 cd_4 ct_4), (PySem.W.fnOf "__init__" "InvalidTemplate.__init__" (defArgs (s_init 5)) (defBody (s_init 5)) (defScope (s_init 5)) .none kV_5 dc_5 pm_5 an_5 cd_5 ct_5), (PySem.W.fnOf "__init__" "InvalidCall.__init__" (defArgs (s_init 6)) (defBody (s_init 6)) (defScope (s_init 6)) .none kV_6 dc_6 pm_6 an_6 cd_6 ct_6), (PySem.W.fnOf "__init__" "InvalidBook.__init__" (defArgs (s_init 7)) (defBody (s_init 7)) (defScope (s_init 7)) .none kV_7 dc_7 pm_7 an_7 cd_7 ct_7), (PySem.W.fnOf "__init__" "InvalidChoice.__init__" (defArgs (s_init 8)) (defBody (s_init 8)) (defScope (s_init 8)) .none kV_8 dc_8 pm_8 an_8 cd_8 ct_8), (PySem.W.fnOf "__init__" "InvalidFillings.__init__" (defArgs (s_init 9)) (defBody (s_init 9)) (defScope (s_init 9)) .none kV_9 dc_9 pm_9 an_9 cd_9 ct_9), (PySem.W.fnOf "__init__" "InvalidSite.__init__" (defArgs (s_init 10)) (defBody (s_init 10)) (defScope (s_init 10)) .none kV_10 dc_10 pm_10 an_10 cd_10 ct_10), (PySem.W.fnOf "__init__" "InvalidTables.__init__" (defArgs (s_init 11)) (defBody (s_init 11)) (defScope (s_init 11)) .none kV_11 dc_11 pm_11 an_11 cd_11 ct_11), (PySem.W.fnOf "__init__" "InvalidMeaning.__init__" (defArgs (s_init 12)) (defBody (s_init 12)) (defScope (s_init 12)) .none kV_12 dc_12 pm_12 an_12 cd_12 ct_12), (PySem.W.fnOf "__init__" "InvalidText.__init__" (defArgs (s_init 13)) (defBody (s_init 13)) (defScope (s_init 13)) .none kV_13 dc_13 pm_13 an_13 cd_13 ct_13), (PySem.W.fnOf "__init__" "InvalidLine.__init__" (defArgs (s_init 14)) (defBody (s_init 14)) (defScope (s_init 14)) .none kV_14 dc_14 pm_14 an_14 cd_14 ct_14), (PySem.W.fnOf "__init__" "InvalidLines.__init__" (defArgs (s_init 15)) (defBody (s_init 15)) (defScope (s_init 15)) .none kV_15 dc_15 pm_15 an_15 cd_15 ct_15), (PySem.W.fnOf "__init__" "InvalidMode.__init__" (defArgs (s_init 16)) (defBody (s_init 16)) (defScope (s_init 16)) .none kV_16 dc_16 pm_16 an_16 cd_16 ct_16), (PySem.W.fnOf "__init__" "InvalidLetter.__init__" (defArgs (s_init 17)) (defBody (s_init 17)) (defScope (s_init 17)) .none kV_17 dc_17 pm_17 an_17 cd_17 ct_17), (PySem.W.fnOf "__init__" "UnlikeParameters.__init__" (defArgs (s_init 18)) (defBody (s_init 18)) (defScope (s_init 18)) .none kV_18 dc_18 pm_18 an_18 cd_18 ct_18), (PySem.W.fnOf "__init__" "Duplicate.__init__" (defArgs (s_init 19)) (defBody (s_init 19)) (defScope (s_init 19)) .none kV_19 dc_19 pm_19 an_19 cd_19 ct_19), (PySem.W.fnOf "__init__" "Reserved.__init__" (defArgs (s_init 20)) (defBody (s_init 20)) (defScope (s_init 20)) .none kV_20 dc_20 pm_20 an_20 cd_20 ct_20), (PySem.W.fnOf "__init__" "TooLarge.__init__" (defArgs (s_init 21)) (defBody (s_init 21)) (defScope (s_init 21)) .none kV_21 dc_21 pm_21 an_21 cd_21 ct_21), (PySem.W.fnOf "__init__" "InvalidRow.__init__" (defArgs (s_init 22)) (defBody (s_init 22)) (defScope (s_init 22)) .none kV_22 dc_22 pm_22 an_22 cd_22 ct_22), (PySem.W.fnOf "__init__" "UnknownTemplate.__init__" (defArgs (s_init 23)) (defBody (s_init 23)) (defScope (s_init 23)) .none kV_23 dc_23 pm_23 an_23 cd_23 ct_23), (PySem.W.fnOf "__init__" "UnknownHole.__init__" (defArgs (s_init 24)) (defBody (s_init 24)) (defScope (s_init 24)) .none kV_24 dc_24 pm_24 an_24 cd_24 ct_24), (PySem.W.fnOf "__init__" "UnknownBinder.__init__" (defArgs (s_init 25)) (defBody (s_init 25)) (defScope (s_init 25)) .none kV_25 dc_25 pm_25 an_25 cd_25 ct_25), (PySem.W.fnOf "__init__" "StillCalled.__init__" (defArgs (s_init 26)) (defBody (s_init 26)) (defScope (s_init 26)) .none kV_26 dc_26 pm_26 an_26 cd_26 ct_26)].getD k (PySem.W.fnOf "__init__" "InvalidName.__init__" (defArgs (s_init 0)) (defBody (s_init 0)) (defScope (s_init 0)) .none kV_0 dc_0 pm_0 an_0 cd_0 ct_0)) := {
    kx := fun k hk => kxB_ok (List.all_eq_true.mp nbk k (List.mem_range.mpr hk))
    gl := fun k hk => match k, hk with
      | 0, _ => PySem.W.mg_of X G ng0
      | 1, _ => PySem.W.mg_of X G ng1
      | 2, _ => PySem.W.mg_of X G ng2
      | 3, _ => PySem.W.mg_of X G ng3
      | 4, _ => PySem.W.mg_of X G ng4
      | 5, _ => PySem.W.mg_of X G ng5
      | 6, _ => PySem.W.mg_of X G ng6
      | 7, _ => PySem.W.mg_of X G ng7
      | 8, _ => PySem.W.mg_of X G ng8
      | 9, _ => PySem.W.mg_of X G ng9
      | 10, _ => PySem.W.mg_of X G ng10
      | 11, _ => PySem.W.mg_of X G ng11
      | 12, _ => PySem.W.mg_of X G ng12
      | 13, _ => PySem.W.mg_of X G ng13
      | 14, _ => PySem.W.mg_of X G ng14
      | 15, _ => PySem.W.mg_of X G ng15
      | 16, _ => PySem.W.mg_of X G ng16
      | 17, _ => PySem.W.mg_of X G ng17
      | 18, _ => PySem.W.mg_of X G ng18
      | 19, _ => PySem.W.mg_of X G ng19
      | 20, _ => PySem.W.mg_of X G ng20
      | 21, _ => PySem.W.mg_of X G ng21
      | 22, _ => PySem.W.mg_of X G ng22
      | 23, _ => PySem.W.mg_of X G ng23
      | 24, _ => PySem.W.mg_of X G ng24
      | 25, _ => PySem.W.mg_of X G ng25
      | 26, _ => PySem.W.mg_of X G ng26
      | 27, _ => PySem.W.mg_of X G ng27
      | 28, _ => PySem.W.mg_of X G ng28
      | 29, _ => PySem.W.mg_of X G ng29
      | 30, _ => PySem.W.mg_of X G ng30
      | 31, _ => PySem.W.mg_of X G ng31
      | k + 32, h => absurd h (by omega)
    no := fun k hk => of_decide_eq_true (List.all_eq_true.mp nbn k (List.mem_range.mpr hk))
    iC := fun k hk => match k, hk with
      | 0, _ => ni0
      | 1, _ => ni1
      | 2, _ => ni2
      | 3, _ => ni3
      | 4, _ => ni4
      | 5, _ => ni5
      | 6, _ => ni6
      | 7, _ => ni7
      | 8, _ => ni8
      | 9, _ => ni9
      | 10, _ => ni10
      | 11, _ => ni11
      | 12, _ => ni12
      | 13, _ => ni13
      | 14, _ => ni14
      | 15, _ => ni15
      | 16, _ => ni16
      | 17, _ => ni17
      | 18, _ => ni18
      | 19, _ => ni19
      | 20, _ => ni20
      | 21, _ => ni21
      | 22, _ => ni22
      | 23, _ => ni23
      | 24, _ => ni24
      | 25, _ => ni25
      | 26, _ => ni26
      | k + 27, h => absurd h (by omega)
    tI := fun k hk => of_decide_eq_true (List.all_eq_true.mp nbt k (List.mem_range.mpr hk))
    fn := fun k hk => match k, hk with
      | 0, _ => FI0
      | 1, _ => FI1
      | 2, _ => FI2
      | 3, _ => FI3
      | 4, _ => FI4
      | 5, _ => FI5
      | 6, _ => FI6
      | 7, _ => FI7
      | 8, _ => FI8
      | 9, _ => FI9
      | 10, _ => FI10
      | 11, _ => FI11
      | 12, _ => FI12
      | 13, _ => FI13
      | 14, _ => FI14
      | 15, _ => FI15
      | 16, _ => FI16
      | 17, _ => FI17
      | 18, _ => FI18
      | 19, _ => FI19
      | 20, _ => FI20
      | 21, _ => FI21
      | 22, _ => FI22
      | 23, _ => FI23
      | 24, _ => FI24
      | 25, _ => FI25
      | 26, _ => FI26
      | k + 27, h => absurd h (by omega)
    bare := fun k h1 h2 => by
      have hb : PySem.W.findIn K (.ref ((fun k : Nat => [ac0, ac1, ac2, ac3, ac4, ac5, ac6, ac7, ac8, ac9, ac10, ac11, ac12, ac13, ac14, ac15, ac16, ac17, ac18, ac19, ac20, ac21, ac22, ac23, ac24, ac25, ac26, ac27, ac28, ac29, ac30, ac31].getD k 0) k)) "__init__" = some (some (.builtin (initOf k))) := of_decide_eq_true (List.all_eq_true.mp nbb k (by
        have z : k = 27 ∨ k = 28 ∨ k = 29 ∨ k = 30 ∨ k = 31 := by omega
        rcases z with rfl | rfl | rfl | rfl | rfl <;> decide))
      exact bare_mk h1 h2 hb
    is_ := fun k hk j hj => of_decide_eq_true (List.all_eq_true.mp (List.all_eq_true.mp nbm k (List.mem_range.mpr hk)) j (List.mem_range.mpr hj))
    bu := fun k hk b hb => of_decide_eq_true (List.all_eq_true.mp (List.all_eq_true.mp nbu k (List.mem_range.mpr hk)) b (by rcases hb with rfl | rfl | rfl <;> decide))
    hn := hsp
    ht := htk }
  exact ⟨PySem.W.fnOf "law" "law" (defArgs s_law) (defBody s_law) (defScope s_law) .none kV9 dc9 pm9 an9 cd9 ct9, fun s v => .of_eq rfl, fun base _ _ => ok_law F_law T N TBc F_l_cell b_l_cell g_l_cell F_l_box b_l_box g_l_box F_l_take b_l_take g_l_take F_l_value b_l_value g_l_value F_l_made b_l_made g_l_made F_l_field b_l_field g_l_field F_l_kinds b_l_kinds g_l_kinds F_l_bases b_l_bases g_l_bases F_l_due b_l_due g_l_due⟩
end K03
set_option Elab.async false
set_option linter.all false
set_option pp.maxSteps 500
open PySem PySem.W PyProof.Rows
set_option maxRecDepth 100000 in
set_option maxHeartbeats 0 in
theorem PySem.Challenge.cw_caughtnames_k03_errors_and_their_fields_holds : PySem.Challenge.rw_caughtnames_k03_errors_and_their_fields.Holds := by
  w_on; o_law; k_head; (case hw => w_witness2)
  k_fill
  refine CaG.walk_G (l := PySem.Challenge.rw_caughtnames_k03_errors_and_their_fields) (n := 63) (k := 4) (x := "_law_script") (sp := CaL.spLaw) rfl (by decide) rfl ⟨rfl, by decide, by decide⟩ (fun w h Y => PySem.W.kIn_of Y) ?F (fun _ _ a ns hl hS => ⟨a, ns, rfl, hS, hl, fun _ => rfl⟩)
  case F =>
    intro w mg fa h KX G hmg
    refine' K03.all_mk KX G hmg ?a0 ?l0 ?c0 ?k0 ?a1 ?l1 ?c1 ?k1 ?a2 ?l2 ?c2 ?k2 ?a3 ?l3 ?c3 ?k3 ?a4 ?l4 ?c4 ?k4 ?a5 ?l5 ?c5 ?k5 ?a6 ?l6 ?c6 ?k6 ?a7 ?l7 ?c7 ?k7 ?a8 ?l8 ?c8 ?k8 ?a9 ?l9 ?c9 ?k9 ?z0 ?z1 ?z2 ?z3 ?z4 ?z5 ?z6 ?z7 ?z8 ?z9 ?z10 ?z11 ?ng0 ?ng1 ?ng2 ?ng3 ?ng4 ?ng5 ?ng6 ?ng7 ?ng8 ?ng9 ?ng10 ?ng11 ?ng12 ?ng13 ?ng14 ?ng15 ?ng16 ?ng17 ?ng18 ?ng19 ?ng20 ?ng21 ?ng22 ?ng23 ?ng24 ?ng25 ?ng26 ?ng27 ?ng28 ?ng29 ?ng30 ?ng31 ?ni0 ?nl0 ?nc0 ?nk0 ?ni1 ?nl1 ?nc1 ?nk1 ?ni2 ?nl2 ?nc2 ?nk2 ?ni3 ?nl3 ?nc3 ?nk3 ?ni4 ?nl4 ?nc4 ?nk4 ?ni5 ?nl5 ?nc5 ?nk5 ?ni6 ?nl6 ?nc6 ?nk6 ?ni7 ?nl7 ?nc7 ?nk7 ?ni8 ?nl8 ?nc8 ?nk8 ?ni9 ?nl9 ?nc9 ?nk9 ?ni10 ?nl10 ?nc10 ?nk10 ?ni11 ?nl11 ?nc11 ?nk11 ?ni12 ?nl12 ?nc12 ?nk12 ?ni13 ?nl13 ?nc13 ?nk13 ?ni14 ?nl14 ?nc14 ?nk14 ?ni15 ?nl15 ?nc15 ?nk15 ?ni16 ?nl16 ?nc16 ?nk16 ?ni17 ?nl17 ?nc17 ?nk17 ?ni18 ?nl18 ?nc18 ?nk18 ?ni19 ?nl19 ?nc19 ?nk19 ?ni20 ?nl20 ?nc20 ?nk20 ?ni21 ?nl21 ?nc21 ?nk21 ?ni22 ?nl22 ?nc22 ?nk22 ?ni23 ?nl23 ?nc23 ?nk23 ?ni24 ?nl24 ?nc24 ?nk24 ?ni25 ?nl25 ?nc25 ?nk25 ?ni26 ?nl26 ?nc26 ?nk26 ?hsp ?htk ?nbk ?nbn ?nbt ?nbb ?nbm ?nbu
    (case a0 => k_is)
    (case l0 => k_is)
    (case c0 => k_is)
    (case k0 => k_is)
    (case a1 => k_is)
    (case l1 => k_is)
    (case c1 => k_is)
    (case k1 => k_is)
    (case a2 => k_is)
    (case l2 => k_is)
    (case c2 => k_is)
    (case k2 => k_is)
    (case a3 => k_is)
    (case l3 => k_is)
    (case c3 => k_is)
    (case k3 => k_is)
    (case a4 => k_is)
    (case l4 => k_is)
    (case c4 => k_is)
    (case k4 => k_is)
    (case a5 => k_is)
    (case l5 => k_is)
    (case c5 => k_is)
    (case k5 => k_is)
    (case a6 => k_is)
    (case l6 => k_is)
    (case c6 => k_is)
    (case k6 => k_is)
    (case a7 => k_is)
    (case l7 => k_is)
    (case c7 => k_is)
    (case k7 => k_is)
    (case a8 => k_is)
    (case l8 => k_is)
    (case c8 => k_is)
    (case k8 => k_is)
    (case a9 => k_is)
    (case l9 => k_is)
    (case c9 => k_is)
    (case k9 => k_is)
    (case z0 => k_is)
    (case z1 => k_is)
    (case z2 => k_is)
    (case z3 => k_is)
    (case z4 => k_is)
    (case z5 => k_is)
    (case z6 => k_is)
    (case z7 => k_is)
    (case z8 => k_is)
    (case z9 => k_is)
    (case z10 => k_is)
    (case z11 => k_is)
    (case ng0 => k_is)
    (case ng1 => k_is)
    (case ng2 => k_is)
    (case ng3 => k_is)
    (case ng4 => k_is)
    (case ng5 => k_is)
    (case ng6 => k_is)
    (case ng7 => k_is)
    (case ng8 => k_is)
    (case ng9 => k_is)
    (case ng10 => k_is)
    (case ng11 => k_is)
    (case ng12 => k_is)
    (case ng13 => k_is)
    (case ng14 => k_is)
    (case ng15 => k_is)
    (case ng16 => k_is)
    (case ng17 => k_is)
    (case ng18 => k_is)
    (case ng19 => k_is)
    (case ng20 => k_is)
    (case ng21 => k_is)
    (case ng22 => k_is)
    (case ng23 => k_is)
    (case ng24 => k_is)
    (case ng25 => k_is)
    (case ng26 => k_is)
    (case ng27 => k_is)
    (case ng28 => k_is)
    (case ng29 => k_is)
    (case ng30 => k_is)
    (case ng31 => k_is)
    (case ni0 => k_is)
    (case nl0 => k_is)
    (case nc0 => k_is)
    (case nk0 => k_is)
    (case ni1 => k_is)
    (case nl1 => k_is)
    (case nc1 => k_is)
    (case nk1 => k_is)
    (case ni2 => k_is)
    (case nl2 => k_is)
    (case nc2 => k_is)
    (case nk2 => k_is)
    (case ni3 => k_is)
    (case nl3 => k_is)
    (case nc3 => k_is)
    (case nk3 => k_is)
    (case ni4 => k_is)
    (case nl4 => k_is)
    (case nc4 => k_is)
    (case nk4 => k_is)
    (case ni5 => k_is)
    (case nl5 => k_is)
    (case nc5 => k_is)
    (case nk5 => k_is)
    (case ni6 => k_is)
    (case nl6 => k_is)
    (case nc6 => k_is)
    (case nk6 => k_is)
    (case ni7 => k_is)
    (case nl7 => k_is)
    (case nc7 => k_is)
    (case nk7 => k_is)
    (case ni8 => k_is)
    (case nl8 => k_is)
    (case nc8 => k_is)
    (case nk8 => k_is)
    (case ni9 => k_is)
    (case nl9 => k_is)
    (case nc9 => k_is)
    (case nk9 => k_is)
    (case ni10 => k_is)
    (case nl10 => k_is)
    (case nc10 => k_is)
    (case nk10 => k_is)
    (case ni11 => k_is)
    (case nl11 => k_is)
    (case nc11 => k_is)
    (case nk11 => k_is)
    (case ni12 => k_is)
    (case nl12 => k_is)
    (case nc12 => k_is)
    (case nk12 => k_is)
    (case ni13 => k_is)
    (case nl13 => k_is)
    (case nc13 => k_is)
    (case nk13 => k_is)
    (case ni14 => k_is)
    (case nl14 => k_is)
    (case nc14 => k_is)
    (case nk14 => k_is)
    (case ni15 => k_is)
    (case nl15 => k_is)
    (case nc15 => k_is)
    (case nk15 => k_is)
    (case ni16 => k_is)
    (case nl16 => k_is)
    (case nc16 => k_is)
    (case nk16 => k_is)
    (case ni17 => k_is)
    (case nl17 => k_is)
    (case nc17 => k_is)
    (case nk17 => k_is)
    (case ni18 => k_is)
    (case nl18 => k_is)
    (case nc18 => k_is)
    (case nk18 => k_is)
    (case ni19 => k_is)
    (case nl19 => k_is)
    (case nc19 => k_is)
    (case nk19 => k_is)
    (case ni20 => k_is)
    (case nl20 => k_is)
    (case nc20 => k_is)
    (case nk20 => k_is)
    (case ni21 => k_is)
    (case nl21 => k_is)
    (case nc21 => k_is)
    (case nk21 => k_is)
    (case ni22 => k_is)
    (case nl22 => k_is)
    (case nc22 => k_is)
    (case nk22 => k_is)
    (case ni23 => k_is)
    (case nl23 => k_is)
    (case nc23 => k_is)
    (case nk23 => k_is)
    (case ni24 => k_is)
    (case nl24 => k_is)
    (case nc24 => k_is)
    (case nk24 => k_is)
    (case ni25 => k_is)
    (case nl25 => k_is)
    (case nc25 => k_is)
    (case nk25 => k_is)
    (case ni26 => k_is)
    (case nl26 => k_is)
    (case nc26 => k_is)
    (case nk26 => k_is)
    (case hsp => k_is)
    (case htk => k_is)
    (case nbk => kernel_rfl)
    (case nbn => kernel_rfl)
    (case nbt => kernel_rfl)
    (case nbb => kernel_rfl)
    (case nbm => kernel_rfl)
    (case nbu => kernel_rfl)
