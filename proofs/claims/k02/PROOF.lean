import PyProof.Rows.All
import Wide.All
import OpenK.AllK
import Wide.FinOn
import HandS.ForMost
import HandS.Exc
import HandS.ExcOwn
import HandS.ExcValue
import HandS.ExcInit
import HandS.ExcIs
import HandS.IsInst
import HandS.StrMore
import HandS.Wide
import HandS.Flow
import HandS.Deep
import HandS.Walk
import KE.KExcIs
import PyProof.ReprRoads
import HandS.Replace
import HandS.MakeKwOnly
import PySem.Challenge.RW_caughtnames_k02_numbers_and_words_of_tex
set_option Elab.async false
set_option linter.all false
set_option maxRecDepth 100000
/-! An exception that is made is held as a value (by the library's rule of its making), and asked by isinstance. -/
namespace CaV
open PySem PySem.Spec L2
/-- at a: an exception object of the class cls, its own dict at d -/
def exq (cls : Value) (d : Option Addr) (a : Addr) : HO := .ext fun h => ∃ (oe : Obj) (vs : Array Value), h.get? a = some oe ∧ oe.cls = cls ∧ oe.dict = d ∧ oe.data = .fields vs
theorem exq_new {P : Program} {w : World} {H : Hp} {h : Heap} {a : Addr} {cls : Value} {d : Option Addr} {oe : Obj} {vs : Array Value} (e : h.get? a = some oe) (z : Zc cls d oe) (hd : oe.data = .fields vs) : ObjOk P w H h a (exq cls d a) :=
  ⟨⟨oe, vs, e, z.1, z.2, hd⟩, ⟨oe, e⟩, fun _ _ ⟨o2, v2, q1, q2⟩ kept => ⟨o2, v2, kept o2 q1, q2⟩⟩
section
variable {X : Cx}
/-- what makes an exception for a raise makes it as a value, too -/
theorem pe_of_mk {e : Expr} {t : St → Hp → XK → Prop} (mk : PMk X e t) : PE X e (fun σ H Q => t σ H fun cls d H1 => ∀ a, H1 a = none → Q (.ref a) (upd H1 a (exq cls d a))) := by
  constructor
  intro pins s σ H Q inv want
  refine thn (mk pins s σ H _ inv want) fun u s2 made => ?_
  obtain ⟨a, oe, vs, sI, H1, cls, d, rfl, J, old, fr, at_, zc, dat, _, na, os, bare, _, told⟩ := made
  refine ⟨.ref a, upd H1 a (exq cls d a), ?_, rfl, told a na⟩
  exact J.call' (ch := []) os (Un.laidN old fr na) (J.hok.laidN old na (exq_new at_ zc dat)) bare fun b hb => absurd hb List.not_mem_nil
/-- an exception of the class C stands at a, with its dict -/
def ExAt (H : Hp) (C a : Addr) : Prop := ∃ (d : Addr) (fs : List (Str × V)), H a = some (exq (.ref C) (some d) a) ∧ H d = some (.xd fs)
/-- a value's type, exceptions too -/
def TyE (K : PySem.W.Frag) (H : Hp) (x : V) (t : Value) : Prop := TyX K H x t ∨ ∃ C a, x = .ref a ∧ t = .ref C ∧ ExcC K C ∧ ExAt H C a
def rIsV (K : PySem.W.Frag) : List V → Hp → VK → Prop := fun xs H Q => ∃ (x c : V) (t u : Value) (b : Bool), xs = [x, c] ∧ ClsV c u ∧ TyE K H x t ∧ PySem.W.kitOne K t u = some b ∧ Q (.bl b) H
theorem call_isV : CallR X (.builtin "isinstance") (rIsV X.K) := by
  intro pins s σ H vs ws Q inv rel told
  obtain ⟨x, c, t, u, b, rfl, cv, ty, ans, q⟩ := told
  rcases ty with ty | ⟨C, a, rfl, rfl, TC, d, fs, ha, hd⟩
  · exact call_isi pins s σ H [x, c] ws Q inv rel ⟨x, c, t, u, b, rfl, cv, ty, ans, q⟩
  · obtain ⟨w1, w2, rfl, rx, rc⟩ := vals2 rel
    obtain rfl := cv.eq rc
    cases rx
    have tr : ∃ (oe : Obj) (vs : Array Value), s.heap.get? a = some oe ∧ oe.cls = .ref C ∧ oe.dict = some d ∧ oe.data = .fields vs := (show ObjOk X.prog X.w H s.heap a (exq (.ref C) (some d) a) from inv.hok a _ ha).1
    obtain ⟨⟨oc, od, dat, sl⟩, vs, ho, rfl, rfl, rfl⟩ := tr
    obtain ⟨mA, ⟨oD, _, _, hoD, _⟩, _⟩ := (show ObjOk X.prog X.w H s.heap d (.xd fs) from inv.hok d _ hd)
    have cls : (PySem.W.clsIn X.K C).isSome = true := by
      obtain ⟨cd, hc, _⟩ := PySem.W.any_some TC.hd
      rw [hc]
      rfl
    exact PySem.W.kia_one (PySem.W.kitx_exc (od := some oD) cls TC.hg TC.hk TC.hs TC.ha TC.hn TC.ht TC.hm) inv.kIn ⟨ho, rfl, rfl, hoD⟩ ans (fun z => nomatch z) fun tk => ⟨.bl b, H, inv.kept (t' := tk) fun _ _ z => z, rfl, q⟩
end
/-- isinstance of such an exception by a built-in class -/
theorem kit_not {K : PySem.W.Frag} {C : Addr} {T : String} {b : Bool} (hm : PySem.W.kitMeta T = true) (h : PySem.W.subIn K (.ref C) (.type T) = some b) : PySem.W.kitOne K (.ref C) (.type T) = some b := by
  have e1 : ((Value.ref C : Value) == Value.type T) = false := rfl
  have e2 : PySem.W.kitCls K (.ref C) (.type T) = PySem.W.subIn K (.ref C) (.type T) := by
    show (if PySem.W.kitMeta T = true then PySem.W.subIn K (.ref C) (.type T) else none) = PySem.W.subIn K (.ref C) (.type T)
    exact if_pos hm
  unfold PySem.W.kitOne
  rw [e1, e2]
  exact h
theorem kit_not_str {K : PySem.W.Frag} {C : Addr} (h : PySem.W.subIn K (.ref C) (.type "str") = some false) : PySem.W.kitOne K (.ref C) (.type "str") = some false := kit_not (by decide +kernel) h
end CaV
set_option Elab.async false
set_option linter.all false
set_option maxRecDepth 100000
/-! A purse of draws: a list of three numbers that a def changes; nothing else changes, new things may come. -/
namespace CaV
open PySem PySem.Spec PyProof.Rows L2
/-- the purse at b: what is left of a great number, a rest, a count of at most n -/
def Bx (H : Hp) (b : Addr) (n : Nat) : Prop := ∃ m r c : Int, H b = some (.lst [.int m, .int r, .int c]) ∧ 0 ≤ m ∧ 0 ≤ r ∧ r < 2147483629 ∧ 0 ≤ c ∧ c ≤ n
/-- all that stood in H stands in H', but what is at b -/
def Kp (b : Addr) (H H' : Hp) : Prop := ∀ a o, H a = some o → a ≠ b → H' a = some o
theorem Kp.refl (b : Addr) (H : Hp) : Kp b H H := fun _ _ h _ => h
theorem Kp.trans {b : Addr} {H H1 H2 : Hp} (x : Kp b H H1) (y : Kp b H1 H2) : Kp b H H2 := fun a o h n => y a o (x a o h n) n
theorem Kp.new {b p : Addr} {H : Hp} {o : HO} (h : H p = none) : Kp b H (upd H p o) := fun a u e _ => by
  rw [upd_ne (ne_of_none e h)]
  exact e
theorem Kp.at {b : Addr} {H : Hp} {o : HO} : Kp b H (upd H b o) := fun a u e n => by
  rw [upd_ne n]
  exact e
theorem Kp.of_same {b : Addr} {H H' : Hp} (s : Same H H') : Kp b H H' := fun a o e _ => s a o e
theorem Bx.mono {H : Hp} {b : Addr} {n k : Nat} (h : Bx H b n) (e : n ≤ k) : Bx H b k := by
  obtain ⟨m, r, c, h1, h2, h3, h4, h5, h6⟩ := h
  exact ⟨m, r, c, h1, h2, h3, h4, h5, by omega⟩
theorem Bx.new {H : Hp} {b p : Addr} {n : Nat} {o : HO} (h : Bx H b n) (hp : H p = none) : Bx (upd H p o) b n := by
  obtain ⟨m, r, c, h1, h⟩ := h
  exact ⟨m, r, c, by rw [upd_ne (ne_of_none h1 hp)]; exact h1, h⟩
theorem Bx.there {H : Hp} {b : Addr} {n : Nat} (h : Bx H b n) : ∃ o, H b = some o := by
  obtain ⟨m, r, c, h1, _⟩ := h
  exact ⟨_, h1⟩
theorem Bx.ne {H : Hp} {b p : Addr} {n : Nat} (h : Bx H b n) (hp : H p = none) : p ≠ b := fun z => by
  obtain ⟨o, e⟩ := h.there
  rw [z, e] at hp
  cases hp
/-- what was free later was free before -/
theorem Kp.free {b p : Addr} {H H' : Hp} {n : Nat} (k : Kp b H H') (x : Bx H' b n) (h : H' p = none) : H p = none := by
  cases e : H p with
  | none => rfl
  | some o =>
    rw [k p o e (x.ne h)] at h
    cases h
theorem Kp.seqL {b a : Addr} {K : PySem.W.Frag} {H H' : Hp} {xs : List V} (k : Kp b H H') (n : a ≠ b) (h : SqL K H a xs) : SqL K H' a xs := by
  rcases h with (h | ⟨o, h⟩) | h
  · exact .inl (.inl (k _ _ h n))
  · exact .inl (.inr ⟨o, k _ _ h n⟩)
  · exact .inr h
/-- a change that leaves all of H but the purse, which is new since H0: H0 stands as it was -/
theorem Kp.same {b : Addr} {H0 H H' : Hp} (s : Same H0 H) (k : Kp b H H') (n : H0 b = none) : Same H0 H' := fun a o e => k a o (s a o e) (ne_of_none e n)
theorem emod_bd {x k : Int} (h : 0 < k) : 0 ≤ x % k ∧ x % k < k := ⟨Int.emod_nonneg x (by omega), Int.emod_lt_of_pos x h⟩
theorem pow_bd {x : Int} (h0 : 0 ≤ x) (h : x < 1000000000000000) : 0 ≤ (5 : Int) ∧ (5 : Int) ≤ 1000000 ∧ x.natAbs < 2 ^ 64 := ⟨by decide, by decide, by omega⟩
theorem pow_bd3 {x : Int} (h0 : 0 ≤ x) (h : x < 1000000000000000) : 0 ≤ (3 : Int) ∧ (3 : Int) ≤ 1000000 ∧ x.natAbs < 2 ^ 64 := ⟨by decide, by decide, by omega⟩
/-- the promise of a draw -/
def spTake : Sp := fun vs H Q _ => ∃ (b : Addr) (many : Int) (n : Nat), vs = [.ref b, .int many] ∧ Bx H b n ∧ n < 1000000 ∧ 0 < many ∧ many < 1073741824 ∧
  ∀ (d : Int) (H' : Hp), 0 ≤ d → d < many → Bx H' b (n + 1) → Kp b H H' → Q (.int d) H'
/-- the promise of a new purse -/
def spBox : Sp := fun vs H Q _ => ∃ (x : Int), vs = [.int x] ∧ ∀ (b : Addr) (H' : Hp), H b = none → Same H H' → Bx H' b 0 → Q (.ref b) H'
/-- the promise of a cell -/
def spCell (K : PySem.W.Frag) : Sp := fun vs H Q _ => ∃ (a : Addr) (ns : List Int) (j : Int), vs = [.ref a, .int j] ∧ SqL K H a (ns.map V.int) ∧ 0 ≤ j ∧ ∀ x : Int, Q (.int x) H
end CaV
set_option Elab.async false
set_option linter.all false
set_option maxRecDepth 100000
/-! Promises of defs that are called where no repr is under way (so that repr of a list is the list's own text). -/
namespace CaG
open PySem PySem.Spec PyProof.Rows L2
/-- the promise of a def, wherever no repr is under way -/
structure FnG (P : Program) (w : World) (K : PySem.W.Frag) (mg : Str → Option Value) (base : Heap) (k : Nat) (f : Addr) (fd : FuncData) (ps : List Str) (sp : Sp) : Prop where
  len : ∀ vs H Q E, sp vs H Q E → vs.length = ps.length
  run : ∀ (A : Around) (outer : List Env) (s : Shared) (H : Hp) (args : Args) (us : List Value) (vs : List V) (Q : VK) (E : XK), A.guards = some [] → Room k A → Env0 P w K mg base A outer s H →
    BindsTo s fd args (ps.zip us) → Vals vs us → sp vs H Q E → codeAny (model P w) A (.call (.ref f) args) (CR CX0 outer P w H s Q E) s
section
variable {P : Program} {w : World} {K : PySem.W.Frag} {mg : Str → Option Value} {base : Heap}
/-- a def by its body, which may use that no repr is under way -/
theorem FnG.of {x qual : Str} {st : Stmt} {f : Addr} {fd : FuncData} {N ps : List Str} {k : Nat} {sp : Sp} (F : Fun K x qual st f fd) (S : FnScope N ps (defScope st)) (len : ∀ vs H Q E, sp vs H Q E → vs.length = ps.length)
    (body : ∀ (cdv : Value) (A : Around) (outer : List Env) (s : Shared) (H : Hp) (vs : List V) (Q : VK) (E : XK), (A.deeper (envOfC qual (defScope st) s.heap.objs.size f cdv)).guards = some [] → Room k (A.deeper (envOfC qual (defScope st) s.heap.objs.size f cdv)) → sp vs H Q E →
      ∃ t, PSs (cxOf CX0 P w K mg base N qual (defScope st) f cdv A outer s H E).nox (defBody st) t ∧ t { nx := fun _ H' => Q .non H', rt := Q } (start N vs) H) : FnG P w K mg base (k + 1) f fd ps sp := by
  obtain ⟨oc, od, kV, doc, pm, an, cdv, ct, osl, rfl, found, code⟩ := F.ex
  constructor
  · exact len
  · intro A outer s H args us vs Q E quiet room entry binds vals want
    obtain ⟨t, ok, done⟩ := body cdv A outer s H vs Q E quiet (room.deeper _) want
    have inK : K.In s.heap := entry.mod.kin.keeps fun b o e => (entry.bs b o e).1
    have params : ∀ y ∈ ps.zip us, (defScope st).names.lookup y.1 = some .local ∨ ((defScope st).names.lookup y.1 = some .cell ∧ ((cellsFrom (s.heap.objs.size + 1) (defScope st).names []).lookup y.1).isSome = true) := by
      rintro ⟨y, v⟩ hy
      cases S.par y (List.of_mem_zip hy).1 with
      | inl z => exact .inl z
      | inr z => exact .inr ⟨z, PySem.W.cellsFrom_some _ _ _ (.inl z)⟩
    apply codeAny_call_function room.depth (inK _ _ found) rfl S.co S.gen rfl (PySem.W.codeRec_of inK code)
    apply binds
    apply wpAny_newFunctionEnv_cells S.kind params
    rintro env rfl s1 frame
    refine ⟨(entry.mod.nolimit.keeps fun b o e => (entry.bs b o e).1).keeps frame.toInCall.keep, codeAny_func ?_⟩
    have begin_ := inv_start (CX := CX0) (E := E) S room.hd entry (len _ _ _ _ want) vals frame
    apply wpAny_mono (ok.nox.run [] s1 (start N vs) H _ begin_ done)
    · intro fl s2 out
      cases fl with
      | ret u =>
        obtain ⟨v, σ2, H2, J, rv, q⟩ := out
        exact ⟨v, H2, J.os, J.bare, J.base, J.hok, rv, q⟩
      | next =>
        obtain ⟨σ2, H2, J, q⟩ := out
        exact ⟨V.non, H2, J.os, J.bare, J.base, J.hok, rfl, q⟩
      | brk =>
        obtain ⟨_, _, _, q⟩ := out
        exact q.elim
      | cont =>
        obtain ⟨_, _, _, q⟩ := out
        exact q.elim
    · intro e s2 out
      exact out
theorem FnG.ofOk {k : Nat} {f : Addr} {fd : FuncData} {ps : List Str} {sp : Sp} (F : FnOk P w K mg base CX0 k f fd ps sp) : FnG P w K mg base k f fd ps sp :=
  ⟨F.len, fun A outer s H args us vs Q E _ r e b v q => F.run A outer s H args us vs Q E r e b v q⟩
end
section
variable {X : Cx} {k : Nat} {f : Addr} {fd : FuncData} {ps : List Str} {sp : Sp} {x : Str} {e : Expr} {es : List Expr} {t : TA} {p pos : Pos}
/-- such a def called from such a body -/
theorem pe_callG (F : FnG X.prog X.w X.K X.mg X.base k f fd ps sp) (quiet : X.A.guards = some []) (hr : Room k X.A) (hg : Gl X x) (hm : X.mg x = some (.ref f)) (hk : PySem.W.keepIn X.K (.ref f) = true) (hb : Binds X.K fd ps [])
    (ha : PA X (e :: es) t) (hdb : (x == ("__debug__" : Str)) = false := by decide) (hs : starEach (e :: es) X.env = (false, eval e X.env) :: starEach es X.env := by rfl) (hp : (backTo pos (starEach es X.env)).any (·.1) = false := by rfl) :
    PE X (.Call (.Name x p) (e :: es) [] pos) (tCall sp [] E0 t) := by
  constructor
  intro pins s σ H Q inv want
  apply wpAny_Call_Name_kw (ld_glob inv hg hm _ hdb)
  apply PySem.W.callWith_K (h₀ := X.base) inv.ok.mod.kin hk _ hs hp
  refine thn (ha.run pos pins s σ H _ inv want) fun us s1 got => ?_
  obtain ⟨vs, H1, inv1, rel, due⟩ := got
  rw [List.append_nil] at due
  refine ⟨inv1.kIn, wpAny_call (codeAny_mono (F.run X.A X.stack s1 H1 ⟨us, []⟩ us vs Q E0 quiet hr inv1.env0 ?_ rel due) fun r s2 out => ?_)⟩
  · have l : (us ++ []).length = ps.length := by
      rw [List.append_nil, ← rel.length]
      exact F.len _ _ _ _ due
    have b := hb s1 us inv1.kIn l
    rwa [List.append_nil] at b
  · match r, out with
    | .ok (.ret u), o => exact inv1.after o
/-- repr of data: None, truths, numbers, texts, lists and tuples of such -/
def rRepr (K : PySem.W.Frag) : List V → Hp → VK → Prop := fun xs H Q => ∃ (x : V) (d : PyData), xs = [x] ∧ Dp K H x d ∧ d.showable = true ∧ d.hasDict = false ∧ d.depth ≤ 60 ∧ d.shown.length ≤ sizeLine ∧ Q (.str d.shown) H
theorem call_reprD {X : Cx} (quiet : X.A.guards = some []) (hu : X.A.units + 64 < cLine) : CallR X (.builtin "repr") (rRepr X.K) := by
  intro pins s σ H xs us Q inv rel told
  obtain ⟨x, d, rfl, dp, hs, hd, depth, size, q⟩ := told
  obtain ⟨u, rfl, rx⟩ := vals1 rel
  have far : ∀ a : Addr, u = .ref a → wpAny (model X.prog X.w) X.A (call (.builtin "repr") [u]) (EP X pins σ Q) X.xe s := by
    rintro a rfl
    obtain ⟨as, rd⟩ := Dp.reads inv d x (.ref a) dp rx
    exact repr_of_reads' rd hs (fun z => by rw [hd] at z; cases z) quiet (by omega) (fun _ _ z => z) (fun h' u tk kept => ⟨.str d.shown, H, inv.kept (t' := tk) kept, ⟨_, rfl⟩, q⟩) size
  cases dp with
  | non =>
    cases rx
    exact PySem.P.repr_of_none ⟨.str PyData.none.shown, H, inv.tok _, ⟨_, rfl⟩, q⟩
  | bl b =>
    cases rx
    exact PySem.P.repr_of_bool ⟨.str (PyData.bool b).shown, H, inv.tok _, ⟨_, by cases b <;> rfl⟩, q⟩
  | int i =>
    obtain ⟨t, rfl⟩ := rx
    exact PySem.P.repr_of_int (of_decide_eq_true hs) ⟨.str (PyData.int i).shown, H, inv.tok _, ⟨_, rfl⟩, q⟩
  | str z =>
    obtain ⟨t, rfl⟩ := rx
    exact PySem.P.repr_of_str ⟨.str (PyData.str z).shown, H, inv.tok _, ⟨_, rfl⟩, q⟩ size
  | lst h1 h2 => exact far _ rx
  | tup h1 h2 => exact far _ rx
end
end CaG
set_option Elab.async false
set_option linter.all false
set_option maxRecDepth 100000
namespace CaG
open PySem PySem.Spec PyProof.Rows L2
section
variable {P : Program} {w : World} {K : PySem.W.Frag} {mg mb : Str → Option Value} {k : Nat} {fa a : Addr} {fd : FuncData} {x : Str} {sp : Sp} {s : Shared} {vs : List Value} {ns : List Int}
/-- the law's call from its promise, the script tracked as it may be (H) -/
theorem law_at {H : Hp} (hH : ∀ b, H b = none ∨ (b = a ∧ K.lookup a = none ∧ H b = some (.frz { cls := .type "list", data := .seq vs.toArray } (.lst (ns.map V.int))))) (inK : K.In s.heap) (names : s.heap.Ns mainGlobals mg) (builtins : s.heap.Ns builtinsNs mb) (boot : ∀ x : Str, x ≠ "__name__" → mb x = bootBuiltins x)
    (free : s.heap.NoLimit) (gens : s.gens = #[]) (script : s.heap.get? a = some { cls := .type "list", data := .seq vs.toArray }) (isInts : IntsAre vs ns) (short : ns.length ≤ sizeLine) (room : Room k callerA) (is : SqL K H a (ns.map V.int))
    (F : ∀ base : Heap, K.In base → base.Ns mainGlobals mg → FnG P w K mg base k fa fd [x] sp) (binds : ∀ (s : Shared) (u : Value), BindsTo s fd ⟨[u], []⟩ [(x, u)])
    (told : sp [.ref a] H (fun v _ => v = .bl true) fun _ _ _ => False) :
    codeAny (model P w) callerA (.call (.ref fa) ⟨[.ref a], []⟩) (fun r s' => r = .ok (.ret (.bool true)) ∧ OldK s.heap s'.heap ∧ s'.os = s.os ∧ AllBare s'.gens) s := by
  have rel := vals_ints isInts
  -- an object that is no list of the script's is not tracked
  have out : ∀ {b : Addr} {o : Obj}, s.heap.get? b = some o → (b = a → False) ∨ K.lookup b = some o → H b = none := fun {b o} e why => by
    cases hH b with
    | inl z => exact z
    | inr z =>
      obtain ⟨z1, z2, _⟩ := z
      cases why with
      | inl n => exact (n z1).elim
      | inr l =>
        rw [z1, z2] at l
        cases l
  have notA : ∀ {b : Addr} {o : Obj} {es : Array DictEntry} {ep : Nat}, s.heap.get? b = some o → o.data = .dict es ep → b = a → False := fun {b o es ep} e d z => by
    rw [z, script] at e
    cases e
    cases d
  have nsH : ∀ {b : Addr} {m : Str → Option Value}, s.heap.Ns b m → (hidT s.heap H).Ns b m := fun {b m} h => by
    obtain ⟨o, es, ep, e, d, r⟩ := h
    exact ⟨o, es, ep, hidT_get e (out e (.inl (notA e d))), d, r⟩
  have inB : K.In (hidT s.heap H) := fun b o l => hidT_get (inK b o l) (out (inK b o l) (.inr l))
  have hok : HOk P w H s.heap := fun b u e => by
    cases hH b with
    | inl z =>
      rw [z] at e
      cases e
    | inr z =>
      obtain ⟨rfl, _, z3⟩ := z
      rw [z3] at e
      cases e
      exact ⟨script, by rw [List.length_map]; exact short, vs, _, rel, script⟩
  have entry : Env0 P w K mg (hidT s.heap H) callerA [] s H :=
    { frames := rfl, mod := ⟨inB, nsH names, ⟨mb, nsH builtins, boot⟩, by obtain ⟨mc, h1, h2⟩ := free; exact ⟨mc, nsH h1, h2⟩⟩, bs := fun b o e => of_hidT e, bsz := by rw [hidT_size]; exact Nat.le_refl _,
      funs := trivial, frf := fun b hb => (List.not_mem_nil hb).elim, hok := hok, bare := .of_eq gens }
  have ran := (F _ inB (nsH names)).run callerA [] s H ⟨[.ref a], []⟩ [.ref a] [.ref a] _ _ rfl room entry (binds s (.ref a)) (.cons rfl .nil) told
  apply codeAny_mono ran
  intro r s2 got
  match r, got with
  | .ok (.ret u), got =>
    obtain ⟨v, H2, os, bare, un, hok2, rv, rfl⟩ := got
    cases rv
    refine ⟨rfl, OldK.of_keep (fun b o e => ?_), os, bare⟩
    cases hH b with
    | inl z => exact un.keep b o e z (fun m => (List.not_mem_nil m).elim) List.not_mem_nil
    | inr z =>
      obtain ⟨rfl, _, z3⟩ := z
      rw [script] at e
      cases e
      exact (hok2 _ _ (un.frzs _ _ _ z3)).1
theorem law_callG (inK : K.In s.heap) (names : s.heap.Ns mainGlobals mg) (builtins : s.heap.Ns builtinsNs mb) (boot : ∀ x : Str, x ≠ "__name__" → mb x = bootBuiltins x)
    (free : s.heap.NoLimit) (gens : s.gens = #[]) (script : s.heap.get? a = some { cls := .type "list", data := .seq vs.toArray }) (isInts : IntsAre vs ns) (short : ns.length ≤ sizeLine) (room : Room k callerA)
    (F : ∀ base : Heap, K.In base → base.Ns mainGlobals mg → FnG P w K mg base k fa fd [x] sp) (binds : ∀ (s : Shared) (u : Value), BindsTo s fd ⟨[u], []⟩ [(x, u)])
    (told : ∀ H : Hp, SqL K H a (ns.map V.int) → sp [.ref a] H (fun v _ => v = .bl true) fun _ _ _ => False) :
    codeAny (model P w) callerA (.call (.ref fa) ⟨[.ref a], []⟩) (fun r s' => r = .ok (.ret (.bool true)) ∧ OldK s.heap s'.heap ∧ s'.os = s.os ∧ AllBare s'.gens) s := by
  cases l : K.lookup a with
  | some o =>
    have o_is := (inK a o l).symm.trans script
    cases o_is
    have is : SqL K (fun _ => none) a (ns.map V.int) := .inr ⟨_, vs.toArray, _, l, rfl, rfl, rfl, by rw [List.size_toArray, isInts.length]; exact short, by simpa using vals_ints isInts⟩
    exact law_at (H := fun _ => none) (fun _ => .inl rfl) inK names builtins boot free gens script isInts short room is F binds (told _ is)
  | none =>
    have at_ : (fun b => if b = a then some (HO.frz { cls := .type "list", data := .seq vs.toArray } (.lst (ns.map V.int))) else none : Hp) a = some (.frz { cls := .type "list", data := .seq vs.toArray } (.lst (ns.map V.int))) := if_pos rfl
    have is : SqL K (fun b => if b = a then some (HO.frz { cls := .type "list", data := .seq vs.toArray } (.lst (ns.map V.int))) else none) a (ns.map V.int) := .inl (.inr ⟨_, at_⟩)
    refine law_at (H := fun b => if b = a then some (HO.frz { cls := .type "list", data := .seq vs.toArray } (.lst (ns.map V.int))) else none) (fun b => ?_) inK names builtins boot free gens script isInts short room is F binds (told _ is)
    by_cases e : b = a
    · exact .inr ⟨e, l, if_pos e⟩
    · exact .inl (if_neg e)
end
/-- the goal that the head leaves, from such a promise -/
theorem walk_G {l : PySem.W.OpenLaw} {n k : Nat} {whole : Program} {loose : List Str} {before : (Str → Option Value) → Heap → Prop} {behind : World → Heap → Prop} {law : DefRec} {written : Params → PySem.W.Frag} {sp : PySem.W.Frag → Sp} {x : Str}
    (most : l.most = some n) (small : n ≤ sizeLine) (plain : law.params.defaults = []) (room : Room k callerA) (kin : ∀ (u : World) (h : Heap), behind u h → (written u.params).In h)
    (F : ∀ (u : World) (names : Str → Option Value) (at_ : Addr) (h : Heap), (written u.params).In h → h.Ns mainGlobals names → names law.name = some (.ref at_) →
      ∃ fd : FuncData, (∀ (s : Shared) (v : Value), BindsTo s fd ⟨[v], []⟩ [(x, v)]) ∧ ∀ base : Heap, (written u.params).In base → base.Ns mainGlobals names → FnG l.prog u (written u.params) names base k at_ fd [x] (sp (written u.params)))
    (told : ∀ (K : PySem.W.Frag) (H : Hp) (a : Addr) (ns : List Int), ns.length ≤ n → SqL K H a (ns.map V.int) → sp K [.ref a] H (fun v _ => v = .bl true) fun _ _ _ => False) :
    PySem.W.WalkO whole loose before behind l.row.toRowW law [] (fun f vs => PySem.call f vs) := by
  apply Att.attach_call most plain
  intro w s0 s mg mb fa o pm cd doc a vs ns G Y ho hd hcd hmg script isInts len gens
  obtain ⟨fd, binds, ok⟩ := F w mg fa _ (kin w _ Y) G.T.g hmg
  exact law_callG (kin w _ Y) G.T.g G.T.b G.T.builtins G.T.nolimit gens script isInts (Nat.le_trans len small) room ok binds fun H is => told _ H a ns len is
end CaG
set_option Elab.async false
set_option linter.all false
set_option maxRecDepth 100000
/-! Small facts that more than one law wants. -/
namespace CaL
open PySem PySem.Spec PyProof.Rows L2 CaV
theorem atI_in {α : Type} {xs : List α} {i : Int} (h0 : 0 ≤ i) (h1 : i < xs.length) : ∃ v, v ∈ xs ∧ atI xs i = some v := by
  have hj : i.toNat < xs.length := by omega
  refine ⟨xs[i.toNat], List.getElem_mem hj, ?_⟩
  have e := atI_nat (xs := xs) (j := i.toNat) (v := xs[i.toNat]) (List.getElem?_eq_getElem hj)
  rwa [Int.toNat_of_nonneg h0] at e
theorem cut_len (z : Str) (lo hi : Option Int) : (cutS z lo hi).length ≤ z.length := by
  unfold cutS
  show ((z.cps.toList.drop _).take _).toArray.size ≤ z.cps.size
  rw [List.size_toArray, List.length_take, List.length_drop, Array.length_toList]
  omega
theorem app_len (a b : Str) : (a ++ b).length = a.length + b.length := Str.length_append a b
theorem sz100 {n : Nat} (h : n ≤ 1000) : n ≤ sizeLine := Nat.le_trans h (by decide)
theorem atI_strs {zs : List Str} {i : Int} (h0 : 0 ≤ i) (h1 : i < zs.length) : ∃ z, z ∈ zs ∧ atI (zs.map V.str) i = some (.str z) := by
  obtain ⟨v, hv, e⟩ := atI_in (xs := zs.map V.str) h0 (by rw [List.length_map]; exact h1)
  obtain ⟨z, hz, rfl⟩ := List.mem_map.mp hv
  exact ⟨z, hz, e⟩
theorem sum_ones : ∀ {ys : List Str}, (∀ y ∈ ys, y.length = 1) → (ys.map (·.length)).sum = ys.length
  | [], _ => rfl
  | y :: r, h => by
    rw [List.map_cons, List.sum_cons, sum_ones (fun z hz => h z (List.mem_cons_of_mem _ hz)), h y List.mem_cons_self, List.length_cons]
    omega
theorem yes_at {σ : L2.St} {H : Hp} {F G : Hp → Prop} (h : F H) : tYes σ H (fun b H3 => if b = true then F H3 else G H3) := by
  show (if true = true then F H else G H)
  rw [if_pos rfl]
  exact h
/-- all its signs are plain ones -/
def Asc (x : Str) : Prop := ∀ c ∈ x.cps.toList, c < 128
theorem asc_app {a b : Str} (ha : Asc a) (hb : Asc b) : Asc (a ++ b) := fun c hc => by
  have e : (a ++ b).cps.toList = a.cps.toList ++ b.cps.toList := by
    rw [Str.cps_append, Array.toList_append]
  rw [e] at hc
  rcases List.mem_append.mp hc with h | h
  · exact ha c h
  · exact hb c h
theorem asc_cut {z : Str} (lo hi : Option Int) (h : Asc z) : Asc (cutS z lo hi) := fun c hc => by
  unfold cutS at hc
  exact h c (List.mem_of_mem_drop (List.mem_of_mem_take hc))
theorem asc_one {c : Nat} (h : c < 128) : Asc ⟨#[c]⟩ := fun d hd => by
  rw [show d = c from List.mem_singleton.mp hd]
  exact h
theorem empty_list : ("" : Str).cps.toList = [] := by decide +kernel
theorem asc_empty : Asc "" := by
  intro c hc
  rw [empty_list] at hc
  cases hc
theorem asc_joinS : ∀ {ys : List Str}, (∀ y ∈ ys, Asc y) → Asc (Str.join "" ys)
  | [], _ => fun c hc => absurd hc (by show ¬ c ∈ ([] : List Nat); simp)
  | [x], h => h x List.mem_cons_self
  | x :: y :: r, h => by
    show Asc (x ++ "" ++ Str.join "" (y :: r))
    exact asc_app (asc_app (h x List.mem_cons_self) asc_empty) (asc_joinS fun z hz => h z (List.mem_cons_of_mem _ hz))
theorem asc_join {ys : List Str} (h : ∀ y ∈ ys, Asc y) : Asc (Txt.join "" ys) := by
  show Asc (Builtin.Str.glued "" ys)
  rw [StrLaws.glued_eq_join]
  exact asc_joinS h
theorem asc_of {x : Str} (h : (x.cps.toList.all fun c => decide (c < 128)) = true) : Asc x := fun c hc => of_decide_eq_true (List.all_eq_true.mp h c hc)
theorem join_len0 {ys : List Str} (h : ∀ y ∈ ys, y.length = 1) : (Txt.join "" ys).length ≤ ys.length := by
  have e := StrLaws.join_length_le "" ys
  show (Builtin.Str.glued "" ys).length ≤ ys.length
  rw [StrLaws.glued_eq_join]
  rw [sum_ones h] at e
  have e2 : ("" : Str).length = 0 := by decide +kernel
  rw [e2, Nat.mul_zero] at e
  exact e
theorem arr_all {p : Nat → Bool} {x : Str} : x.cps.all p = x.cps.toList.all p := by
  rw [← Array.all_toList]
theorem arr_any {p : Nat → Bool} {x : Str} : x.cps.any p = x.cps.toList.any p := by
  rw [← Array.any_toList]
theorem shaped_strs {ys : List Str} (h : ∀ y ∈ ys, Asc y) : SeqAt.shaped (.list (ys.map PyData.str)) = true := by
  have h1 : ∀ {ys : List Str}, (∀ y ∈ ys, Asc y) → PyData.canLayAll0 (ys.map PyData.str) = true := by
    intro ys
    induction ys with
    | nil =>
      intro _
      simp [PyData.canLayAll0]
    | cons y r ih =>
      intro h
      rw [List.map_cons]
      unfold PyData.canLayAll0
      rw [ih fun z hz => h z (List.mem_cons_of_mem _ hz), Bool.and_true]
      unfold PyData.canLay0 PyData.strOk
      rw [arr_all, List.all_eq_true]
      intro c hc
      have := h y List.mem_cons_self c hc
      exact decide_eq_true (by omega)
  have h2 : ∀ ys : List Str, PyData.depthAll (ys.map PyData.str) = 0 := by
    intro ys
    induction ys with
    | nil => simp [PyData.depthAll]
    | cons y r ih =>
      rw [List.map_cons]
      unfold PyData.depthAll
      rw [ih]
      simp [PyData.depth]
  unfold SeqAt.shaped
  rw [Bool.and_eq_true]
  refine ⟨?_, decide_eq_true ?_⟩
  · unfold PyData.canLay0
    exact h1 h
  · unfold PyData.depth
    rw [h2]
    decide
theorem dp_strs {K : PySem.W.Frag} {H : Hp} : ∀ ys : List Str, DpAll K H (ys.map V.str) (ys.map PyData.str)
  | [] => .nil
  | y :: r => .cons (.str y) (dp_strs r)
theorem eqv_nil (ys : List Str) : PyData.eqv (.list (ys.map PyData.str)) (.list []) = ys.isEmpty := by
  cases ys with
  | nil => simp [PyData.eqv, PyData.eqvAll]
  | cons y r => simp [PyData.eqv, PyData.eqvAll]
/-! ### the promises -/
theorem same_new {H : Hp} {p : Addr} {o : HO} (h : H p = none) : Same H (upd H p o) := fun b x e => by
  rw [upd_ne (ne_of_none e h)]
  exact e
theorem lt_one (a c : Nat) : decide (([a] : List Nat) < [c]) = decide (a < c) := by
  rw [Bool.eq_iff_iff]
  simp [List.cons_lt_cons_iff]
/-- the class of an exception: all that is asked of it -/
structure TX (K : PySem.W.Frag) (mg : Str → Option Value) (C fI : Addr) : Prop where
  ox : OexC K C
  ex : ExcC K C
  no : PySem.W.findIn K (.ref C) "value" = some none
  iC : PySem.W.findIn K (.ref C) "__init__" = some (some (.ref fI))
  tI : PySem.W.typeIn K (.ref fI) = some (.type "function")
  gC : mg "InvalidName" = some (.ref C)
  ks : PySem.W.kitOne K (.ref C) (.type "str") = some false
def spInit (C : Addr) : Sp := fun vs H Q _ => ∃ (a : Addr) (v : V), vs = [.ref a, v] ∧ H a = some (exo a C none) ∧ ∀ dx, H dx = none → dx ≠ a → Q .non (upd (upd H dx (exd dx [("value", v)])) a (exo a C (some dx)))
def spLaw (K : PySem.W.Frag) : Sp := fun vs H Q _ => ∃ (a : Addr) (ns : List Int), vs = [.ref a] ∧ SqL K H a (ns.map V.int) ∧ ns.length ≤ 63 ∧ ∀ H', Q (.bl true) H'
theorem same_put {H : Hp} {p : Addr} {o o' : HO} (h : H p = none) : Same H (upd (upd H p o) p o') := fun b x e => by
  rw [upd_ne (ne_of_none e h), upd_ne (ne_of_none e h)]
  exact e
theorem _root_.CaV.Bx.same {H H' : Hp} {b : Addr} {n : Nat} (h : Bx H b n) (s : Same H H') : Bx H' b n := by
  obtain ⟨m, r, c, h1, h⟩ := h
  exact ⟨m, r, c, s _ _ h1, h⟩
theorem _root_.CaV.ExAt.same {H H' : Hp} {C a : Addr} (h : ExAt H C a) (s : Same H H') : ExAt H' C a := by
  obtain ⟨d, fs, h1, h2⟩ := h
  exact ⟨d, fs, s _ _ h1, s _ _ h2⟩
theorem same_exc {H : Hp} {C e0 dx ea : Addr} {ex ey ez ew eq : HO} (m0 : H e0 = none) (nd : H dx = none) (ma : upd (del (upd (upd (upd H e0 ex) dx ey) e0 ez) e0) dx ew ea = none) : Same H (upd (upd (del (upd (upd (upd H e0 ex) dx ey) e0 ez) e0) dx ew) ea eq) := fun b o e => by
  have n0 : b ≠ e0 := ne_of_none e m0
  have n1 : b ≠ dx := ne_of_none e nd
  have n2 : b ≠ ea := fun z => by
    rw [← z, upd_ne n1, del_ne n0, upd_ne n0, upd_ne n1, upd_ne n0, e] at ma
    cases ma
  rw [upd_ne n2, upd_ne n1, del_ne n0, upd_ne n0, upd_ne n1, upd_ne n0]
  exact e
theorem ifn {b : Bool} {A B : Prop} (e : b = true) (h : B) : if (!b) = true then A else B := by
  rw [e]
  exact iteF h
theorem mem_get {xs : List V} {i : Nat} {y : V} (h : xs[i]? = some y) : y ∈ xs := List.mem_of_getElem? h
end CaL
set_option Elab.async false
set_option linter.all false
set_option maxRecDepth 100000
namespace K02
open PySem PySem.Spec PyProof.Rows L2 CaV CaL
def topS (i : Nat) : Stmt := PySem.Challenge.pw_caughtnames_k02_numbers_and_words_of_tex.main.body.getD i (.Pass ⟨0, 0, 0, 0⟩)
abbrev s_l_cell : Stmt := topS 7
abbrev N_l_cell : List Str := ["_law_script", "_law_k"]
theorem sc_l_cell : FnScope N_l_cell ["_law_script", "_law_k"] (defScope s_l_cell) := ⟨rfl, rfl, rfl, by decide +kernel, rfl, by decide +kernel, by decide +kernel⟩
abbrev s_l_box : Stmt := topS 8
abbrev N_l_box : List Str := ["_law_cell_here"]
theorem sc_l_box : FnScope N_l_box ["_law_cell_here"] (defScope s_l_box) := ⟨rfl, rfl, rfl, by decide +kernel, rfl, by decide +kernel, by decide +kernel⟩
abbrev s_l_take : Stmt := topS 9
abbrev N_l_take : List Str := ["_law_box_here", "_law_many", "_law_digit", "_law_number"]
theorem sc_l_take : FnScope N_l_take ["_law_box_here", "_law_many"] (defScope s_l_take) := ⟨rfl, rfl, rfl, by decide +kernel, rfl, by decide +kernel, by decide +kernel⟩
/-- what the top holds by name -/
structure TB (mg : Str → Option Value) : Prop where
  n_len : mg "len" = none
  n_max : mg "max" = none
section
variable {P : Program} {w : World} {K : PySem.W.Frag} {mg : Str → Option Value} {base : Heap}
theorem ok_cell {f : Addr} {fd : FuncData} {k : Nat} (F : Fun K "_law_cell" "_law_cell" s_l_cell f fd) (T : TB mg) : FnOk P w K mg base CX0 (k + 1) f fd ["_law_script", "_law_k"] (spCell K) := by
  refine F.ok sc_l_cell (fun vs H Q E h => ?_) (fun cdv A outer s H vs Q E hr h => ?_)
  · obtain ⟨a, ns, j, rfl, _⟩ := h
    rfl
  · obtain ⟨a, ns, j, rfl, hS, hj, q⟩ := h
    refine ⟨_, (pss_cons (ps_if (pt_cmpR op_lt (pv 1) (pe_callB call_len_seq (by rfl) T.n_len PySem.boot_len (pa_cons (pv 0) pa_nil)) (nomark _))
      (pss_one (ps_ret (pe_ix ix_list (pv 0) (pv 1) (fun _ _ => rfl))))
      pss_nil)
    (pss_one (ps_ret (pe_op op_add (pe_op op_mul pe_int (pv 1)) pe_int)))), ?_⟩
    refine ⟨_, rfl, _, rfl, a, _, rfl, .inl hS, _, _, rfl, rfl, _, rfl, ite2 (fun e => ?_) (fun e => ?_)⟩
    · have hl : j.toNat < ns.length := by
        have z := of_decide_eq_true e
        rw [List.length_map] at z
        omega
      exact ⟨_, rfl, _, rfl, a, _, _, .int ns[j.toNat], rfl, rfl, hS, (by have e := atI_nat (xs := ns.map V.int) (j := j.toNat) (v := .int ns[j.toNat]) (by rw [List.getElem?_map, List.getElem?_eq_getElem hl]; rfl); rwa [Int.toNat_of_nonneg hj] at e), q _⟩
    · exact ⟨_, rfl, _, _, rfl, rfl, .inl ⟨by decide, by decide⟩, _, _, rfl, rfl, q _⟩
theorem ok_box {f : Addr} {fd : FuncData} {k : Nat} (F : Fun K "_law_box" "_law_box" s_l_box f fd) (T : TB mg) : FnOk P w K mg base CX0 (k + 1) f fd ["_law_cell_here"] spBox := by
  refine F.ok sc_l_box (fun vs H Q E h => ?_) (fun cdv A outer s H vs Q E hr h => ?_)
  · obtain ⟨x, rfl, _⟩ := h
    rfl
  · obtain ⟨x, rfl, q⟩ := h
    refine ⟨_, (pss_one (ps_ret (pe_lst (pa_cons (pe_callB (call_max2 rfl) (by rfl) T.n_max (by decide +kernel) (pa_cons pe_int (pa_cons (pe_op op_sub (pv 0) (pe_op op_pow pe_int pe_int)) pa_nil))) (pa_cons (pe_op op_mod (pv 0) pe_int) (pa_cons pe_int pa_nil)))))), ?_⟩
    refine ⟨_, rfl, _, _, rfl, rfl, ⟨by decide, by decide, by decide⟩, _, _, rfl, rfl, _, _, rfl, _, rfl, _, _, rfl, rfl, (by decide : (0 : Int) < 2147483629), (by show 3 ≤ sizeLine; decide), fun l hl => ?_⟩
    refine q l _ hl (fun c o e => by rw [upd_ne (ne_of_none e hl)]; exact e) ⟨_, _, _, upd_same, ?_, (emod_bd (by decide)).1, (emod_bd (by decide)).2, by decide, by decide⟩
    split <;> omega
theorem ok_take {f : Addr} {fd : FuncData} {k : Nat} (F : Fun K "_law_take" "_law_take" s_l_take f fd) : FnOk P w K mg base CX0 (k + 1) f fd ["_law_box_here", "_law_many"] spTake := by
  refine F.ok sc_l_take (fun vs H Q E h => ?_) (fun cdv A outer s H vs Q E hr h => ?_)
  · obtain ⟨b, many, n, rfl, _⟩ := h
    rfl
  · obtain ⟨b, many, n, rfl, ⟨m, r, c, hb, hm, hr0, hr1, hc0, hc1⟩, hn, hm0, hm1, q⟩ := h
    refine ⟨_, (pss_cons (ps_if (pt_cmpR op_gt (pe_ix ix_list (pv 0) pe_int (fun _ _ => rfl)) pe_int (nomark _))
      (pss_cons (ps_set (i := 2) sc_l_take.nd rfl (.inl rfl) (pe_op op_mod (pe_ix ix_list (pv 0) pe_int (fun _ _ => rfl)) (pv 1)))
      (pss_cons (ps_asg (pe_op op_fdiv (pe_ix ix_list (pv 0) pe_int (fun _ _ => rfl)) (pv 1)) (pg_sub (pv 0) pe_int set_list))
      (pss_one (ps_ret (pv 2)))))
      pss_nil)
    (pss_cons (ps_asg (pe_op op_add (pe_ix ix_list (pv 0) pe_int (fun _ _ => rfl)) pe_int) (pg_sub (pv 0) pe_int set_list))
    (pss_cons (ps_set (i := 3) sc_l_take.nd rfl (.inl rfl) (pe_op op_mod (pe_op op_pow (pe_op op_add (pe_op op_add (pe_ix ix_list (pv 0) pe_int (fun _ _ => rfl)) (pe_op op_mul pe_int (pe_ix ix_list (pv 0) pe_int (fun _ _ => rfl)))) pe_int) pe_int) pe_int))
    (pss_cons (ps_set (i := 3) sc_l_take.nd rfl (.inl rfl) (pe_op op_mod (pe_op op_pow (pe_op op_add (pv 3) (pe_op op_mul pe_int (pe_ix ix_list (pv 0) pe_int (fun _ _ => rfl)))) pe_int) pe_int))
    (pss_one (ps_ret (pe_op op_mod (pe_op op_fdiv (pv 3) pe_int) (pv 1)))))))), ?_⟩
    refine ⟨_, rfl, b, _, _, .int m, rfl, rfl, SqL.of hb, rfl, _, _, rfl, rfl, _, rfl, ite2 (fun e => ?_) (fun e => ?_)⟩
    · refine ⟨_, rfl, b, _, _, .int m, rfl, rfl, SqL.of hb, rfl, _, rfl, _, _, rfl, rfl, hm0, ?_⟩
      refine ⟨_, rfl, b, _, _, .int m, rfl, rfl, SqL.of hb, rfl, _, rfl, _, _, rfl, rfl, ⟨hm0, hm1⟩, _, rfl, b, _, _, 0, rfl, rfl, hb, rfl, ?_⟩
      refine ⟨_, rfl, q _ _ (emod_bd hm0).1 (emod_bd hm0).2 ⟨_, _, _, upd_same, Int.ediv_nonneg hm (by omega), hr0, hr1, hc0, by omega⟩ Kp.at⟩
    · refine ⟨_, rfl, b, _, _, .int c, rfl, rfl, SqL.of hb, rfl, _, _, rfl, rfl, _, rfl, b, _, _, 2, rfl, rfl, hb, rfl, ?_⟩
      have hb2 : (upd H b (.lst [.int m, .int r, .int (c + 1)])) b = some (.lst [.int m, .int r, .int (c + 1)]) := upd_same
      refine ⟨_, rfl, b, _, _, .int r, rfl, rfl, SqL.of hb2, rfl, _, rfl, b, _, _, .int (c + 1), rfl, rfl, SqL.of hb2, rfl, _, _, rfl, rfl, .inl ⟨by decide, by decide⟩, _, _, rfl, rfl, _, _, rfl, rfl, _, _, rfl, rfl, pow_bd (by omega) (by omega), _, _, rfl, rfl, (by decide : (0 : Int) < 2147483647), ?_⟩
      have h1 := emod_bd (x := (r + 7919 * (c + 1) + 43) ^ (5 : Int).toNat) (k := 2147483647) (by decide)
      generalize (r + 7919 * (c + 1) + 43) ^ (5 : Int).toNat % 2147483647 = x1 at h1
      refine ⟨_, rfl, _, rfl, b, _, _, .int (c + 1), rfl, rfl, SqL.of hb2, rfl, _, _, rfl, rfl, .inl ⟨by decide, by decide⟩, _, _, rfl, rfl, _, _, rfl, rfl, pow_bd3 (by omega) (by omega), _, _, rfl, rfl, (by decide : (0 : Int) < 2147483587), ?_⟩
      refine ⟨_, rfl, _, _, rfl, rfl, ⟨by decide, by decide⟩, _, rfl, _, _, rfl, rfl, hm0, q _ _ (emod_bd hm0).1 (emod_bd hm0).2 ⟨m, r, c + 1, hb2, hm, hr0, hr1, by omega, by omega⟩ Kp.at⟩
end
end K02
set_option Elab.async false
set_option linter.all false
set_option maxRecDepth 100000
namespace K02
open PySem PySem.Spec PyProof.Rows L2 CaV CaL TL
/-! ### numbers -/
def dig (c : Nat) : Bool := decide (48 ≤ c) && decide (c ≤ 57)
/-- a number as its digits: some, no zero ahead -/
def valL (l : List Nat) : Option Nat := if (l.all dig && !l.isEmpty && (!(l.head? == some 48) || l == [48])) = true then some (NumText.digitsVal l) else none
def parseL (l : List Nat) (lo hi : Int) : Option Int := match valL l with
  | some v => if (decide (lo ≤ v) && decide ((v : Int) ≤ hi)) = true then some v else none
  | none => none
def optV : Option Int → V
  | some i => .int i
  | none => .non
theorem all_dig {l : List Nat} (h : l.all dig = true) : NumText.AllDigits l := fun c hc => by
  have z := List.all_eq_true.mp h c hc
  unfold dig at z
  simpa using z
theorem fold_ge : ∀ (l : List Nat) (a : Nat), a * 10 ^ l.length ≤ l.foldl (fun acc c => acc * 10 + (c - 48)) a
  | [], a => by simp
  | c :: r, a => by
    have h := fold_ge r (a * 10 + (c - 48))
    rw [List.foldl_cons, List.length_cons]
    refine Nat.le_trans ?_ h
    rw [Nat.pow_succ, Nat.mul_comm (10 ^ r.length) 10, ← Nat.mul_assoc]
    exact Nat.mul_le_mul_right _ (Nat.le_add_right _ _)
theorem fold_lt : ∀ (l : List Nat) (a : Nat), NumText.AllDigits l → l.foldl (fun acc c => acc * 10 + (c - 48)) a < (a + 1) * 10 ^ l.length
  | [], a, _ => by simp
  | c :: r, a, h => by
    have z := fold_lt r (a * 10 + (c - 48)) (fun d hd => h d (List.mem_cons_of_mem _ hd))
    have hc := h c List.mem_cons_self
    rw [List.foldl_cons, List.length_cons]
    refine Nat.lt_of_lt_of_le z ?_
    rw [Nat.pow_succ, Nat.mul_comm (10 ^ r.length) 10, ← Nat.mul_assoc]
    exact Nat.mul_le_mul_right _ (by omega)
theorem val_lt {l : List Nat} (h : NumText.AllDigits l) : NumText.digitsVal l < 10 ^ l.length := by
  have z := fold_lt l 0 h
  rw [Nat.zero_add, Nat.one_mul] at z
  exact z
theorem num_lt : ∀ n : Nat, n < 10 ^ (numL n).length := by
  intro n
  induction n using Nat.strongRecOn with
  | ind n ih =>
    by_cases h : n < 10
    · rw [numL_lt h]
      exact h
    · have z := ih (n / 10) (by omega)
      rw [numL_step (by omega), List.length_append]
      show n < 10 ^ ((numL (n / 10)).length + 1)
      rw [Nat.pow_succ]
      omega
/-- a text of more digits than the bound's text is more than the bound -/
theorem longer {l : List Nat} {v : Nat} (hv : valL l = some v) {hi : Int} (h : (Str.ofString (toString hi)).length < l.length) : hi < v := by
  unfold valL at hv
  split at hv
  · rename_i c
    simp only [Bool.and_eq_true, Bool.or_eq_true, Bool.not_eq_true', beq_eq_false_iff_ne, beq_iff_eq] at c
    obtain ⟨⟨c1, c2⟩, c3⟩ := c
    have hv := Option.some.inj hv
    subst hv
    by_cases h0 : 0 ≤ hi
    · obtain ⟨n, rfl⟩ : ∃ n : Nat, hi = (n : Int) := ⟨hi.toNat, by omega⟩
      have e : (Str.ofString (toString ((n : Nat) : Int))).length = (numL n).length := by
        rw [len_tl, tl_num]
      rw [e] at h
      have hn : numL n ≠ [] := numL_ne n
      have hp : 0 < (numL n).length := List.length_pos_iff.mpr hn
      cases l with
      | nil => simp at h
      | cons c r =>
        have hc : 49 ≤ c := by
          have hd := all_dig c1 c List.mem_cons_self
          rcases c3 with z | z
          · have : c ≠ 48 := fun w => z (by rw [w]; rfl)
            omega
          · rw [z] at h
            simp only [List.length_cons, List.length_nil] at h
            omega
        have g := fold_ge r (c - 48)
        have e2 : NumText.digitsVal (c :: r) = r.foldl (fun acc c => acc * 10 + (c - 48)) (0 * 10 + (c - 48)) := rfl
        rw [e2, Nat.zero_mul, Nat.zero_add]
        have g2 : 10 ^ r.length ≤ (c - 48) * 10 ^ r.length := Nat.le_mul_of_pos_left _ (by omega)
        have g3 := num_lt n
        have g4 : 10 ^ (numL n).length ≤ 10 ^ r.length := Nat.pow_le_pow_right (by decide) (by rw [List.length_cons] at h; omega)
        omega
    · omega
  · cases hv
theorem val_small {l : List Nat} {v : Nat} (hv : valL l = some v) (h : l.length ≤ 200) : ((v : Int)).natAbs.log2 < 1900 := by
  unfold valL at hv
  split at hv
  · rename_i c
    simp only [Bool.and_eq_true] at c
    have hv := Option.some.inj hv
    subst hv
    have z := val_lt (all_dig c.1.1)
    have z2 : NumText.digitsVal l < 2 ^ 800 := Nat.lt_of_lt_of_le z (Nat.le_trans (Nat.pow_le_pow_right (by decide) h) (by decide +kernel))
    have z3 : (((NumText.digitsVal l : Nat) : Int)).natAbs.log2 < 800 := PySem.Flt.log2_lt_of (k := 800) (by decide) (by rw [Int.natAbs_natCast]; exact z2)
    exact Nat.lt_of_lt_of_le z3 (by decide)
  · cases hv
theorem digit_tab : ((List.range 128).all fun c => Unicode.isDigit c == dig c) = true := by decide +kernel
theorem digits_same (x : Str) : (Txt.isascii x && Txt.isdigit x) = (x.cps.toList.all dig && !x.cps.toList.isEmpty) := by
  have hl : x.length = x.cps.toList.length := by simp [Str.length]
  unfold Txt.isascii Txt.isdigit
  rw [arr_all, arr_all, hl]
  generalize x.cps.toList = l
  have key : ∀ c, c < 128 → Unicode.isDigit c = dig c := fun c hc => beq_iff_eq.mp (List.all_eq_true.mp digit_tab c (List.mem_range.mpr hc))
  rw [Bool.eq_iff_iff]
  simp only [Bool.and_eq_true, List.all_eq_true, decide_eq_true_eq, Bool.not_eq_true', List.isEmpty_eq_false_iff]
  constructor
  · rintro ⟨h1, h2, h3⟩
    exact ⟨fun c hc => by rw [← key c (h1 c hc)]; exact h3 c hc, fun e => by rw [e] at h2; exact absurd h2 (by decide)⟩
  · rintro ⟨h1, h2⟩
    have lo : ∀ c ∈ l, c < 128 := fun c hc => by
      have z := h1 c hc
      unfold dig at z
      simp only [Bool.and_eq_true, decide_eq_true_eq] at z
      omega
    exact ⟨lo, List.length_pos_iff.mpr h2, fun c hc => by rw [key c (lo c hc)]; exact h1 c hc⟩
theorem starts0 (x : Str) : Txt.startswith x "0" = (x.cps.toList.head? == some 48) := by
  have h1 : ("0" : Str).cps = #[48] := by decide +kernel
  obtain ⟨a⟩ := x
  obtain ⟨l⟩ := a
  unfold Txt.startswith Builtin.Str.subAt Str.length
  rw [h1]
  cases l with
  | nil => rfl
  | cons c r =>
    show (decide (0 + 1 ≤ (c :: r).toArray.size) && ((c :: r).toArray.extract 0 (0 + 1) == #[48])) = (some c == some 48)
    have e : (c :: r).toArray.extract 0 (0 + 1) = #[c] := by simp
    rw [e]
    by_cases hc : c = 48
    · subst hc
      simp
    · have : (#[c] == #[48]) = false := by simp [hc]
      rw [this, Bool.and_false]
      symm
      simp [hc]
theorem is0 (x : Str) : decide (V.str x = V.str "0") = (x.cps.toList == [48]) := by
  have h1 : ("0" : Str).cps = #[48] := by decide +kernel
  rw [Bool.eq_iff_iff]
  simp only [decide_eq_true_eq, beq_iff_eq]
  constructor
  · intro e
    have e := V.str.inj e
    rw [e, h1]
  · intro e
    refine congrArg V.str (Str.ext' ?_)
    rw [h1]
    exact Array.toList_inj.mp e
end K02
set_option Elab.async false
set_option linter.all false
set_option maxRecDepth 100000
set_option pp.maxSteps 1500
namespace K02
open PySem PySem.Spec PyProof.Rows L2 CaV CaL TL
abbrev s_parse_integer : Stmt := topS 1
abbrev N_parse_integer : List Str := ["text", "low", "high", "number"]
theorem sc_parse_integer : FnScope N_parse_integer ["text", "low", "high"] (defScope s_parse_integer) := ⟨rfl, rfl, rfl, by decide +kernel, rfl, by decide +kernel, by decide +kernel⟩
abbrev s_split_words : Stmt := topS 2
abbrev N_split_words : List Str := ["text", "words"]
theorem sc_split_words : FnScope N_split_words ["text"] (defScope s_split_words) := ⟨rfl, rfl, rfl, by decide +kernel, rfl, by decide +kernel, by decide +kernel⟩
/-- no text -/
def OddN (K : PySem.W.Frag) (H : Hp) (x : V) : Prop := ∃ t, TyE K H x t ∧ PySem.W.kitOne K t (.type "str") = some false
def spParse (K : PySem.W.Frag) : Sp := fun vs H Q _ => ∃ (x : V) (lo hi : Int), vs = [x, .int lo, .int hi] ∧
  ((∃ s, x = .str s ∧ s.length ≤ 100 ∧ hi.natAbs.log2 < 1900 ∧ Q (optV (parseL (tl s) lo hi)) H) ∨ (OddN K H x ∧ Q .non H))
/-- the words of a text -/
def wordsS (s : Str) : Option (List Str) := if decide (10 ∈ s.cps.toList) = true then none else if inV (.str "") ((Txt.split s " ").map V.str) = true then none else some (Txt.split s " ")
def spWords : Sp := fun vs H Q _ => ∃ (s : Str), vs = [.str s] ∧ s.length ≤ 1000 ∧ (wordsS s = none → ∀ H', Same H H' → Q .non H') ∧
  ∀ ws, wordsS s = some ws → ∀ p H', H p = none → Same H H' → H' p = some (.lst (ws.map V.str)) → Q (.ref p) H'
def spSplit (K : PySem.W.Frag) : Sp := fun vs H Q E => spWords vs H Q E ∨ ∃ x, vs = [x] ∧ OddN K H x ∧ Q .non H
structure TC (mg : Str → Option Value) : Prop where
  n_isinstance : mg "isinstance" = none
  n_int : mg "int" = none
  n_str : mg "str" = none
  n_len : mg "len" = none
section
variable {P : Program} {w : World} {K : PySem.W.Frag} {mg : Str → Option Value} {base : Heap}
theorem ok_parse {f : Addr} {fd : FuncData} {k : Nat} {kws : List (Str × V)} (F : FunD K "parse_integer" "parse_integer" (defArgs s_parse_integer) (defBody s_parse_integer) (defScope s_parse_integer) [] kws f fd) (T : TC mg) : FnOk P w K mg base CX0 (k + 1) f fd ["text", "low", "high"] (spParse K) := by
  refine F.ok sc_parse_integer (fun vs H Q E h => ?_) (fun cdv A outer s H vs Q E hr h => ?_)
  · obtain ⟨x, lo, hi, rfl, _⟩ := h
    rfl
  · obtain ⟨x, lo, hi, rfl, q⟩ := h
    refine ⟨_, (pss_cons (ps_if (PW.pt (pw_or (pt_not (pt_val (pe_callB CaV.call_isV (by rfl) T.n_isinstance (by decide +kernel) (pa_cons (pv 0) (pa_cons (pe_bltn (v := .ty "str") (by rfl) T.n_str (by decide +kernel) rfl) pa_nil))))) (pw_or (pt_not (pt_val (pe_bm0 PySem.F.plainAttrs_str PySem.F.slot_str_isascii PySem.F.type_str_isascii mt_isascii (pv 0)))) (pw_or1 (pt_not (pt_val (pe_bm0 PySem.F.plainAttrs_str PySem.F.slot_str_isdigit PySem.F.type_str_isdigit mt_isdigit (pv 0))))))))
      (pss_one (ps_ret pe_non))
      pss_nil)
    (pss_cons (ps_if (PW.pt (pw_and (pt_val (pe_m1 PySem.F.slot_str_startswith PySem.F.type_str_startswith mt_startswith (pv 0) pe_str)) (pw_and1 (pt_cmpR op_ne (pv 0) pe_str (nomark _)))))
      (pss_one (ps_ret pe_non))
      pss_nil)
    (pss_cons (ps_if (pt_cmpR op_gt (pe_callB call_len_str (by rfl) T.n_len PySem.boot_len (pa_cons (pv 0) pa_nil)) (pe_callB call_len_str (by rfl) T.n_len PySem.boot_len (pa_cons (pe_callTy call_str_int (by rfl) T.n_str (by decide +kernel) (pa_cons (pv 2) pa_nil)) pa_nil)) (nomark _))
      (pss_one (ps_ret pe_non))
      pss_nil)
    (pss_cons (ps_set (i := 3) sc_parse_integer.nd rfl (.inl rfl) (pe_callTy call_int_str (by rfl) T.n_int (by decide +kernel) (pa_cons (pv 0) pa_nil)))
    (pss_one (ps_ret (pe_ifExp (pt_chain op_le op_le (pv 1) (pv 3) (pv 2)) (pv 3) pe_non))))))), ?_⟩
    rcases q with ⟨z, rfl, hz, hlog, q⟩ | ⟨⟨t, ty, hk⟩, q⟩
    · refine ⟨_, rfl, _, _, _, _, true, rfl, .ty "str", .inl (.base (.str z)), kit_ty (by decide +kernel), _, rfl, iteF ?_⟩
      have bad : (Txt.isascii z && Txt.isdigit z) = false → parseL (tl z) lo hi = none := fun e => by
        rw [digits_same] at e
        unfold parseL valL
        rw [if_neg (by show ¬ ((z.cps.toList.all dig && !z.cps.toList.isEmpty && _) = true); rw [e]; simp)]
      refine ⟨_, rfl, rfl, _, rfl, rfl, trivial, _, rfl, ?_⟩
      cases ea : Txt.isascii z with
      | false =>
        rw [bad (by rw [ea]; rfl)] at q
        exact iteT (iteT q)
      | true =>
        refine iteF ?_
        refine ⟨_, rfl, rfl, _, rfl, rfl, trivial, _, rfl, ?_⟩
        cases ed : Txt.isdigit z with
        | false =>
          rw [bad (by rw [ed, Bool.and_false])] at q
          exact iteT q
        | true =>
          refine iteF ?_
          have good : (z.cps.toList.all dig && !z.cps.toList.isEmpty) = true := by
            rw [← digits_same, ea, ed]
            rfl
          refine ⟨_, rfl, ⟨_, rfl⟩, _, _, rfl, rfl, _, rfl, ?_⟩
          rw [starts0]
          have zero : (z.cps.toList.head? == some 48) = true → (z.cps.toList == [48]) = false → parseL (tl z) lo hi = none := fun e1 e2 => by
            unfold parseL valL
            rw [if_neg (by show ¬ ((z.cps.toList.all dig && !z.cps.toList.isEmpty && (!(z.cps.toList.head? == some 48) || z.cps.toList == [48])) = true); rw [good, e1, e2]; simp)]
          have fine : ((!(z.cps.toList.head? == some 48) || z.cps.toList == [48]) = true) → ∃ v : Nat, valL (tl z) = some v ∧ v = NumText.digitsVal (tl z) := fun e => by
            refine ⟨_, ?_, rfl⟩
            unfold valL
            exact if_pos (by show (z.cps.toList.all dig && !z.cps.toList.isEmpty && (!(z.cps.toList.head? == some 48) || z.cps.toList == [48])) = true; rw [good, e]; rfl)
          cases e1 : (z.cps.toList.head? == some 48)
          case' false => refine iteF (iteF ?_)
          case' true =>
            refine iteT ⟨_, rfl, rfl, _, rfl, ?_⟩
            rw [is0]
            cases e2 : (z.cps.toList == [48])
            case' false =>
              rw [zero e1 e2] at q
              exact iteT q
            case' true => refine iteF ?_
          all_goals
            obtain ⟨v, hv, hvd⟩ := fine (by simp_all)
            refine ⟨_, rfl, _, rfl, sz100 (by omega), _, rfl, _, rfl, by omega, _, rfl, int_text_fits (by omega), _, _, rfl, rfl, _, rfl, ?_⟩
            by_cases hlen : ((Str.ofString (toString hi)).length : Int) < (z.length : Int)
            · rw [decide_eq_true hlen]
              have big := longer hv (hi := hi) (by rw [← len_tl]; omega)
              have none_ : parseL (tl z) lo hi = none := by
                unfold parseL
                rw [hv]
                exact if_neg (by simp; omega)
              rw [none_] at q
              exact iteT q
            · rw [decide_eq_false hlen]
              refine iteF ?_
              have gd := Bool.and_eq_true_iff.mp good
              have it : intText? z = some ((v : Nat) : Int) := by
                rw [hvd]
                exact PySem.intText_digits (all_dig gd.1) (by simpa using gd.2) (by omega)
              refine ⟨_, rfl, z, ((v : Nat) : Int), rfl, it, by omega, ?_⟩
              refine ⟨_, rfl, _, rfl, _, _, rfl, rfl, _, rfl, ?_⟩
              unfold parseL at q
              rw [hv] at q
              cases e3 : decide (lo ≤ (v : Int)) with
              | false =>
                have q : Q (optV (if (decide (lo ≤ (v : Int)) && decide ((v : Int) ≤ hi)) = true then some (v : Int) else none)) H := q
                rw [e3, Bool.false_and, if_neg Bool.false_ne_true] at q
                exact iteF ⟨_, rfl, iteF q⟩
              | true =>
                refine iteT ⟨_, rfl, _, _, rfl, rfl, _, rfl, ?_⟩
                have q : Q (optV (if (decide (lo ≤ (v : Int)) && decide ((v : Int) ≤ hi)) = true then some (v : Int) else none)) H := q
                rw [e3, Bool.true_and] at q
                cases e4 : decide ((v : Int) ≤ hi) with
                | false =>
                  rw [e4, if_neg Bool.false_ne_true] at q
                  exact iteF q
                | true =>
                  rw [e4, if_pos rfl] at q
                  exact iteT ⟨_, rfl, q⟩
    · exact ⟨_, rfl, _, _, _, _, false, rfl, .ty "str", ty, hk, _, rfl, iteT (iteT q)⟩
theorem ok_split {f : Addr} {fd : FuncData} {k : Nat} (F : Fun K "split_words" "split_words" s_split_words f fd) (T : TC mg) : FnOk P w K mg base CX0 (k + 1) f fd ["text"] (spSplit K) := by
  refine F.ok sc_split_words (fun vs H Q E h => ?_) (fun cdv A outer s H vs Q E hr h => ?_)
  · rcases h with ⟨z, rfl, _⟩ | ⟨x, rfl, _⟩ <;> rfl
  · refine ⟨_, (pss_cons (ps_if (PW.pt (pw_or (pt_not (pt_val (pe_callB CaV.call_isV (by rfl) T.n_isinstance (by decide +kernel) (pa_cons (pv 0) (pa_cons (pe_bltn (v := .ty "str") (by rfl) T.n_str (by decide +kernel) rfl) pa_nil))))) (pw_or1 (pt_cmpR op_in_sign pe_str (pv 0) (by with_unfolding_all rfl)))))
      (pss_one (ps_ret pe_non))
      pss_nil)
    (pss_cons (ps_set (i := 1) sc_split_words.nd rfl (.inl rfl) (pe_split (pv 0) pe_str))
    (pss_one (ps_ret (pe_ifExp (pt_cmpR op_in_seq pe_str (pv 1) (by with_unfolding_all rfl)) pe_non (pv 1)))))), ?_⟩
    rcases h with ⟨z, rfl, hz, q1, q2⟩ | ⟨x, rfl, ⟨t, ty, hk⟩, q⟩
    · refine ⟨_, rfl, _, _, _, _, true, rfl, .ty "str", .inl (.base (.str z)), kit_ty (by decide +kernel), _, rfl, iteF ?_⟩
      refine ⟨_, rfl, 10, z, rfl, rfl, _, rfl, ?_⟩
      unfold wordsS at q1 q2
      cases e : decide (10 ∈ z.cps.toList) with
      | true =>
        rw [e, if_pos rfl] at q1
        refine iteT ?_
        exact iteT (B := True) (q1 rfl H (Same.refl H))
      | false =>
        rw [e, if_neg Bool.false_ne_true] at q1 q2
        refine iteF ?_
        refine iteF (A := True) ?_
        refine ⟨_, rfl, ⟨_, rfl⟩, z, " ", rfl, rfl, by decide +kernel, Nat.le_trans (show z.length + 2 ≤ 1002 by omega) (by decide), fun p np => ?_⟩
        refine ⟨_, rfl, p, _, rfl, .inl (SqL.of upd_same), rfl, (by rw [List.all_map]; exact List.all_eq_true.mpr fun _ _ => rfl), _, rfl, ?_⟩
        cases e2 : inV (.str "") ((Txt.split z " ").map V.str) with
        | true =>
          rw [e2, if_pos rfl] at q1
          exact iteT (q1 rfl _ (same_new np))
        | false =>
          rw [e2, if_neg Bool.false_ne_true] at q2
          exact iteF ⟨_, rfl, q2 _ rfl p _ np (same_new np) upd_same⟩
    · exact ⟨_, rfl, _, _, _, _, false, rfl, .ty "str", ty, hk, _, rfl, iteT (iteT q)⟩
end
end K02
set_option Elab.async false
set_option linter.all false
set_option maxRecDepth 100000
set_option pp.maxSteps 1500
namespace K02
open PySem PySem.Spec PyProof.Rows L2 CaV CaL TL
abbrev s_l_value : Stmt := topS 11
abbrev N_l_value : List Str := ["_law_text_here", "_law_sign", "_law_value_here"]
theorem sc_l_value : FnScope N_l_value ["_law_text_here"] (defScope s_l_value) := ⟨rfl, rfl, rfl, by decide +kernel, rfl, by decide +kernel, by decide +kernel⟩
abbrev s_l_words : Stmt := topS 13
abbrev N_l_words : List Str := ["_law_text_here", "_law_found", "_law_word", "_law_sign"]
theorem sc_l_words : FnScope N_l_words ["_law_text_here"] (defScope s_l_words) := ⟨rfl, rfl, rfl, by decide +kernel, rfl, by decide +kernel, by decide +kernel⟩
/-- the signs among the first i that are no digits -/
def badD (x : Str) (i : Nat) : List Str := ((x.cps.toList.take i).filter fun c => !dig c).map fun c => (⟨#[c]⟩ : Str)
theorem badD_succ {x : Str} {i c : Nat} (h : x.cps.toList[i]? = some c) : badD x (i + 1) = badD x i ++ (if dig c then [] else [⟨#[c]⟩]) := by
  unfold badD
  rw [List.take_add_one, h, List.filter_append, List.map_append]
  cases e : dig c with
  | true => simp [e]
  | false => simp [e]
theorem badD_all (x : Str) : (badD x x.cps.size).isEmpty = x.cps.toList.all dig := by
  unfold badD
  rw [List.take_of_length_le (by simp)]
  generalize x.cps.toList = l
  rw [Bool.eq_iff_iff]
  simp [List.isEmpty_iff, List.filter_eq_nil_iff]
theorem badD_len (x : Str) (i : Nat) : (badD x i).length ≤ i := by
  unfold badD
  rw [List.length_map]
  exact Nat.le_trans (List.length_filter_le _ _) (by rw [List.length_take]; omega)
theorem badD_asc {x : Str} (h : Asc x) (i : Nat) : ∀ y ∈ badD x i, Asc y := by
  intro y hy
  unfold badD at hy
  obtain ⟨c, hc, rfl⟩ := List.mem_map.mp hy
  exact asc_one (h c (List.mem_of_mem_take (List.mem_filter.mp hc).1))
theorem digs_list : ("0123456789" : Str).cps.toList = [48, 49, 50, 51, 52, 53, 54, 55, 56, 57] := by decide +kernel
theorem in_digs (c : Nat) : decide (c ∈ ("0123456789" : Str).cps.toList) = dig c := by
  rw [digs_list]
  unfold dig
  rw [Bool.eq_iff_iff]
  simp only [List.mem_cons, List.not_mem_nil, or_false, decide_eq_true_eq, Bool.and_eq_true]
  omega
theorem occ_dig {c : Nat} (h : dig c = true) : ∃ rest, Builtin.Str.occurrences "0123456789" ⟨#[c]⟩ 0 ("0123456789" : Str).length 1 = (c - 48) :: rest := by
  unfold dig at h
  simp only [Bool.and_eq_true, decide_eq_true_eq] at h
  have e : c = 48 ∨ c = 49 ∨ c = 50 ∨ c = 51 ∨ c = 52 ∨ c = 53 ∨ c = 54 ∨ c = 55 ∨ c = 56 ∨ c = 57 := by omega
  rcases e with rfl | rfl | rfl | rfl | rfl | rfl | rfl | rfl | rfl | rfl <;> exact ⟨[], by decide +kernel⟩
theorem one_is {c d : Nat} {y : Str} (e : y.cps = #[d]) : decide (V.str ⟨#[c]⟩ = V.str y) = decide (c = d) := by
  rw [Bool.eq_iff_iff]
  simp only [decide_eq_true_eq]
  constructor
  · intro z
    have z := V.str.inj z
    have z := congrArg Str.cps z
    rw [e] at z
    have z := congrArg Array.toList z
    simpa using z
  · rintro rfl
    exact congrArg V.str (Str.ext' e.symm)
theorem is_empty (x : Str) : decide (V.str x = V.str "") = x.cps.toList.isEmpty := by
  rw [Bool.eq_iff_iff]
  simp only [decide_eq_true_eq, List.isEmpty_iff]
  constructor
  · intro z
    have z := V.str.inj z
    rw [z]
    exact empty_list
  · intro z
    refine congrArg V.str (Str.ext' ?_)
    exact Array.toList_inj.mp (z.trans empty_list.symm)
theorem val_take {l : List Nat} {i c : Nat} (h : l[i]? = some c) : NumText.digitsVal (l.take (i + 1)) = NumText.digitsVal (l.take i) * 10 + (c - 48) := by
  unfold NumText.digitsVal
  rw [List.take_add_one, h, List.foldl_append]
  rfl
/-- the number as a whole number, or none -/
def valI (l : List Nat) : Option Int := match valL l with
  | some v => some (v : Int)
  | none => none
theorem valI_none {l : List Nat} (h : valL l = none) : valI l = none := by
  unfold valI
  rw [h]
theorem valI_some {l : List Nat} {v : Nat} (h : valL l = some v) : valI l = some (v : Int) := by
  unfold valI
  rw [h]
def spValue : Sp := fun vs H Q _ => ∃ (s : Str), vs = [.str s] ∧ s.length ≤ 100 ∧ Asc s ∧ ∀ H', Same H H' → Q (optV (valI (tl s))) H'
theorem valL_none {l : List Nat} (h : (l.all dig && !l.isEmpty && (!(l.head? == some 48) || l == [48])) = false) : valL l = none := by
  unfold valL
  rw [h]
  rfl
theorem valL_some {l : List Nat} (h : (l.all dig && !l.isEmpty && (!(l.head? == some 48) || l == [48])) = true) : valL l = some (NumText.digitsVal l) := by
  unfold valL
  rw [h]
  rfl
section
variable {P : Program} {w : World} {K : PySem.W.Frag} {mg : Str → Option Value} {base : Heap}
theorem ok_value {f : Addr} {fd : FuncData} {k : Nat} (F : Fun K "_law_value" "_law_value" s_l_value f fd) : FnOk P w K mg base CX0 (k + 1) f fd ["_law_text_here"] spValue := by
  refine F.ok sc_l_value (fun vs H Q E h => ?_) (fun cdv A outer s H vs Q E hr h => ?_)
  · obtain ⟨x, rfl, _⟩ := h
    rfl
  · obtain ⟨z, rfl, hz, hasc, q⟩ := h
    refine ⟨_, (pss_cons (ps_if (PW.pt (pw_or (pt_cmpR op_eq (pv 0) pe_str (nomark _)) (pw_or1 (pt_cmpR (op_neD hr.units) (pe_lc (own := [("_law_sign", 1)]) (g := gName 1) (by rfl) sc_l_value.nd (pi_str (pv 0)) (blkOk_by (own := [("_law_sign", 1)]) (N := N_l_value) (sc := defScope s_l_value) (by decide +kernel)) (fun _ _ _ _ _ => pg_name (i := 1) sc_l_value.nd rfl (Or.inl rfl)) (fun _ _ _ _ _ => (pts_one (pt_cmpR op_notIn_sign (pv 1) pe_str (by with_unfolding_all rfl)))) (fun _ _ _ _ _ => (pv 1))) (pe_lst pa_nil) (nomark _)))))
      (pss_one (ps_ret pe_non))
      pss_nil)
    (pss_cons (ps_if (PW.pt (pw_and (pt_cmpR op_eq (pe_ix ix_str (pv 0) pe_int (fun _ _ => rfl)) pe_str (nomark _)) (pw_and1 (pt_cmpR op_ne (pv 0) pe_str (nomark _)))))
      (pss_one (ps_ret pe_non))
      pss_nil)
    (pss_cons (ps_set (i := 2) sc_l_value.nd rfl (.inl rfl) pe_int)
    (pss_cons (ps_for PassesOwn.never rfl (pi_str (pv 0)) (pg_name (i := 1) sc_l_value.nd rfl (.inl rfl))
      (pss_one (ps_set (i := 2) sc_l_value.nd rfl (.inl rfl) (pe_op op_add (pe_op op_mul pe_int (pv 2)) (pe_m1 PySem.F.slot_str_index PySem.F.type_str_index mt_sindex pe_str (pv 1))))))
    (pss_one (ps_ret (pv 2))))))), ?_⟩
    have hsz : z.cps.size = z.length := rfl
    have hll : z.cps.toList.length = z.length := by simp [Str.length]
    refine ⟨_, rfl, rfl, _, rfl, ?_⟩
    rw [is_empty]
    cases e0 : z.cps.toList.isEmpty with
    | true =>
      have q := q H (Same.refl H)
      rw [valI_none (valL_none (by show (z.cps.toList.all dig && !z.cps.toList.isEmpty && _) = false; rw [e0]; simp))] at q
      exact iteT (iteT q)
    | false =>
      refine iteF ?_
      refine ⟨_, rfl, _, rfl, fun D hD => ?_⟩
      refine lc_it walk_str (fun i H5 => H5 D = some (.lst ((badD z i).map V.str)) ∧ Same H H5) ⟨upd_same, same_new hD⟩ (fun _ _ _ _ => trivial) ?_ ?_
      · rintro i x H5 H6 hi ⟨hD5, s5⟩ ⟨rfl, c, hc, rfl⟩
        have hcl : z.cps.toList[i]? = some c := by
          rw [Array.getElem?_toList]
          exact hc
        have bs := badD_succ hcl
        refine ⟨rfl, _, rfl, c, _, rfl, rfl, _, rfl, ?_⟩
        rw [in_digs]
        cases e : dig c with
        | false =>
          refine iteT ⟨_, rfl, _, hD5, ?_, ?_, fun b o h => ?_⟩
          · rw [List.length_map]
            have := badD_len z i
            exact Nat.lt_of_le_of_lt (show (badD z i).length ≤ 1000 by omega) (by decide)
          · rw [upd_same, bs, e, List.map_append]
            rfl
          · rw [upd_ne (ne_of_none h hD)]
            exact s5 b o h
        | true =>
          refine iteF ⟨?_, s5⟩
          rw [bs, e, if_pos rfl, List.append_nil]
          exact hD5
      · rintro H5 ⟨hD5, s5⟩
        refine ⟨Nat.zero_le _, fun p np => ?_⟩
        have hDp : (upd H5 p (.lst [])) D = some (.lst ((badD z z.cps.size).map V.str)) := by
          rw [upd_ne (ne_of_none hD5 np)]
          exact hD5
        refine ⟨_, _, .lst (SqL.of hDp) (dp_strs _), .lst (SqL.of upd_same) .nil, shaped_strs (badD_asc hasc _), by decide +kernel, _, rfl, ?_⟩
        rw [eqv_nil, badD_all]
        have s6 : Same H (upd H5 p (.lst [])) := s5.trans (same_new np)
        generalize upd H5 p (.lst []) = H6 at s6 ⊢
        cases ea : z.cps.toList.all dig with
        | false =>
          have q := q _ s6
          rw [valI_none (valL_none (by show (z.cps.toList.all dig && _ && _) = false; rw [ea]; rfl))] at q
          refine iteT ?_
          exact iteT (B := True) q
        | true =>
          refine iteF ?_
          refine iteF (A := True) ?_
          obtain ⟨c, r, ecr⟩ : ∃ c r, z.cps.toList = c :: r := by
            cases h : z.cps.toList with
            | nil =>
              rw [h] at e0
              cases e0
            | cons c r => exact ⟨c, r, rfl⟩
          have ehd : (z.cps.toList.head? == some 48) = decide (c = 48) := by
            rw [ecr, Bool.eq_iff_iff]
            simp
          refine ⟨_, rfl, z, 0, c, rfl, rfl, sz100 (by omega), (by rw [ecr]; exact atI_nat (j := 0) rfl), rfl, _, rfl, ?_⟩
          rw [one_is (d := 48) (by decide +kernel)]
          cases e1 : decide (c = 48)
          case' false => refine iteF (iteF ?_)
          case' true =>
            refine iteT ⟨_, rfl, rfl, _, rfl, ?_⟩
            rw [is0]
            cases e2 : (z.cps.toList == [48])
            case' false =>
              have q := q _ s6
              rw [valI_none (valL_none (by show (z.cps.toList.all dig && !z.cps.toList.isEmpty && (!(z.cps.toList.head? == some 48) || z.cps.toList == [48])) = false; rw [ehd, e1, e2]; simp))] at q
              exact iteT q
            case' true => refine iteF ?_
          all_goals
            have q := q _ s6
            rw [valI_some (valL_some (by show (z.cps.toList.all dig && !z.cps.toList.isEmpty && (!(z.cps.toList.head? == some 48) || z.cps.toList == [48])) = true; rw [ehd, ea, e0]; simp_all))] at q
            refine ⟨_, rfl, _, rfl, for_it walk_str (fun i σ H7 => ∃ v1, σ = [some (.str z), v1, some (.int ((NumText.digitsVal (z.cps.toList.take i) : Nat) : Int))] ∧ H7 = H6) ⟨none, rfl, rfl⟩ (fun _ _ _ _ _ => trivial) ?_ ?_⟩
            · rintro i x σ H7 H8 hi ⟨v1, rfl, rfl⟩ ⟨rfl, c2, hc2, rfl⟩
              have hcl : z.cps.toList[i]? = some c2 := by
                rw [Array.getElem?_toList]
                exact hc2
              have hdg : dig c2 = true := List.all_eq_true.mp ea c2 (List.mem_of_getElem? hcl)
              obtain ⟨rest, ho⟩ := occ_dig hdg
              refine ⟨_, rfl, _, _, rfl, rfl, .inl ⟨by decide, by decide⟩, ⟨_, rfl⟩, _, rfl, _, _, c2 - 48, rest, rfl, rfl, ho, _, _, rfl, rfl, some (.str ⟨#[c2]⟩), ?_, rfl⟩
              have ev : (10 * ((NumText.digitsVal (z.cps.toList.take i) : Nat) : Int) + ((c2 - 48 : Nat) : Int)) = ((NumText.digitsVal (z.cps.toList.take (i + 1)) : Nat) : Int) := by
                rw [val_take hcl]
                omega
              rw [← ev]
              rfl
            · rintro σ H7 ⟨v1, rfl, rfl⟩
              refine ⟨_, rfl, ?_⟩
              rw [List.take_of_length_le (by simp)]
              exact q
end
end K02
set_option Elab.async false
set_option linter.all false
set_option maxRecDepth 100000
set_option pp.maxSteps 1500
namespace K02
open PySem PySem.Spec PyProof.Rows L2 CaV CaL TL
theorem inV_str (a : Str) : ∀ l : List Str, inV (.str a) (l.map V.str) = decide (a ∈ l)
  | [] => by simp [inV]
  | b :: r => by
    have ih := inV_str a r
    unfold inV at ih ⊢
    rw [List.map_cons, List.any_cons, ih]
    show ((b == a) || decide (a ∈ r)) = _
    rw [Bool.eq_iff_iff]
    simp only [Bool.or_eq_true, beq_iff_eq, decide_eq_true_eq, List.mem_cons]
    constructor
    · rintro (h | h)
      · exact .inl h.symm
      · exact .inr h
    · rintro (h | h)
      · exact .inl h.symm
      · exact .inr h
theorem tl_blank : tl (" " : Str) = [32] := by decide +kernel
theorem split_tl (z : Str) : (Txt.split z " ").map tl = spl [32] 0 [] (tl z) := by
  have e := split_spl z " " (by rw [tl_blank]; simp) (kind_ok (by decide +kernel))
  rw [tl_blank] at e
  exact e
theorem tl_empty : tl ("" : Str) = [] := by decide +kernel
/-- where the words of a text stand after its first i signs -/
structure Mid (z : Str) (i : Nat) (ws : List Str) (u : Str) : Prop where
  nl : 10 ∉ (tl z).take i
  full : ∀ y ∈ ws, y ≠ ""
  way : spl [32] 0 [] (tl z) = ws.map tl ++ spl [32] 0 (tl u) ((tl z).drop i)
  le : ws.length ≤ i ∧ u.length ≤ i
theorem mid_start (z : Str) : Mid z 0 [] "" := ⟨by simp, fun y hy => (List.not_mem_nil hy).elim, by rw [tl_empty]; rfl, Nat.le_refl _, by decide +kernel⟩
theorem drop_at {l : List Nat} {i c : Nat} (h : l[i]? = some c) : l.drop i = c :: l.drop (i + 1) := by
  obtain ⟨hi, e⟩ := List.getElem?_eq_some_iff.mp h
  rw [List.drop_eq_getElem_cons hi, e]
theorem nl_next {l : List Nat} {i c : Nat} (h : l[i]? = some c) (n : 10 ∉ l.take i) (hc : c ≠ 10) : 10 ∉ l.take (i + 1) := by
  rw [List.take_add_one, h]
  intro z
  rcases List.mem_append.mp z with z | z
  · exact n z
  · exact hc (List.mem_singleton.mp z).symm
theorem mid_blank {z : Str} {i : Nat} {ws : List Str} {u : Str} (m : Mid z i ws u) (h : (tl z)[i]? = some 32) (hu : u ≠ "") : Mid z (i + 1) (ws ++ [u]) "" := by
  refine ⟨nl_next h m.nl (by decide), fun y hy => ?_, ?_, by rw [List.length_append]; exact Nat.succ_le_succ m.le.1, by have : ("" : Str).length = 0 := (by decide +kernel); omega⟩
  · rcases List.mem_append.mp hy with hy | hy
    · exact m.full y hy
    · rw [List.mem_singleton.mp hy]
      exact hu
  · rw [m.way, drop_at h, spl_hit (by rfl), tl_empty, List.map_append, List.append_assoc]
    rfl
theorem mid_sign {z : Str} {i c : Nat} {ws : List Str} {u : Str} (m : Mid z i ws u) (h : (tl z)[i]? = some c) (h1 : c ≠ 10) (h2 : c ≠ 32) : Mid z (i + 1) ws (u ++ ⟨#[c]⟩) := by
  refine ⟨nl_next h m.nl h1, m.full, ?_, Nat.le_succ_of_le m.le.1, ?_⟩
  · rw [m.way, drop_at h, spl_miss (pre_of_head [] _ h2), tl_append]
  · have e := app_len u ⟨#[c]⟩
    have e1 : (⟨#[c]⟩ : Str).length = 1 := rfl
    have := m.le.2
    omega
theorem mid_nl {z : Str} {i : Nat} (h : (tl z)[i]? = some 10) : wordsS z = none := by
  unfold wordsS
  rw [if_pos (decide_eq_true (show 10 ∈ z.cps.toList from List.mem_of_getElem? h))]
theorem mid_gap {z : Str} {i : Nat} {ws : List Str} (m : Mid z i ws "") (h : (tl z)[i]? = some 32) : wordsS z = none := by
  unfold wordsS
  have e : inV (.str "") ((Txt.split z " ").map V.str) = true := by
    rw [inV_str]
    refine decide_eq_true ?_
    have hm : ([] : List Nat) ∈ (Txt.split z " ").map tl := by
      rw [split_tl, m.way, drop_at h, spl_hit (by rfl), tl_empty]
      exact List.mem_append.mpr (.inr List.mem_cons_self)
    obtain ⟨y, hy, ey⟩ := List.mem_map.mp hm
    have : y = "" := ext_tl (ey.trans tl_empty.symm)
    rwa [this] at hy
  rw [e]
  split <;> rfl
theorem mid_end {z : Str} {ws : List Str} {u : Str} (m : Mid z z.cps.size ws u) : wordsS z = if u = "" then none else some (ws ++ [u]) := by
  have hl : (tl z).length = z.cps.size := by simp [tl]
  have e : Txt.split z " " = ws ++ [u] := by
    refine map_tl_inj ?_
    rw [split_tl, m.way, ← hl, List.drop_length, spl_nil, List.map_append]
    rfl
  have n : ¬ 10 ∈ z.cps.toList := by
    have q := m.nl
    rw [List.take_of_length_le (Nat.le_of_eq hl)] at q
    exact q
  unfold wordsS
  rw [decide_eq_false n, if_neg Bool.false_ne_true, inV_str, e]
  by_cases hu : u = ""
  · rw [if_pos hu, if_pos (decide_eq_true (List.mem_append.mpr (.inr (List.mem_singleton.mpr hu.symm))))]
  · rw [if_neg hu, if_neg]
    intro q
    rcases List.mem_append.mp (of_decide_eq_true q) with q | q
    · exact m.full _ q rfl
    · exact hu (List.mem_singleton.mp q).symm
/-! ### repr of a number or None -/
def shownO : Option Int → Str
  | some i => Str.ofString (toString i)
  | none => "None"
def rReprO : List V → Hp → VK → Prop := fun xs H Q => ∃ o : Option Int, xs = [optV o] ∧ (∀ i, o = some i → i.natAbs.log2 < 1920) ∧ Q (.str (shownO o)) H
theorem call_reprO {X : Cx} : CallR X (.builtin "repr") rReprO := by
  intro pins s σ H xs us Q inv rel told
  obtain ⟨o, rfl, small, q⟩ := told
  obtain ⟨u, rfl, rx⟩ := vals1 rel
  cases o with
  | none =>
    cases (show u = Value.none from rx)
    exact PySem.P.repr_of_none ⟨.str (shownO none), H, inv.tok _, ⟨_, rfl⟩, q⟩
  | some i =>
    obtain ⟨t, rfl⟩ := (show ∃ t, u = Value.int i t from rx)
    exact PySem.P.repr_of_int (small i rfl) ⟨.str (shownO (some i)), H, inv.tok _, ⟨_, rfl⟩, q⟩
abbrev s_l_number_right : Stmt := topS 12
abbrev N_l_number_right : List Str := ["_law_text_here", "_law_least", "_law_most", "_law_value_here", "_law_due"]
theorem sc_l_number_right : FnScope N_l_number_right ["_law_text_here", "_law_least", "_law_most"] (defScope s_l_number_right) := ⟨rfl, rfl, rfl, by decide +kernel, rfl, by decide +kernel, by decide +kernel⟩
def spRight : Sp := fun vs H Q _ => ∃ (s : Str) (lo hi : Int), vs = [.str s, .int lo, .int hi] ∧ s.length ≤ 100 ∧ Asc s ∧ hi.natAbs.log2 < 1900 ∧ ∀ H', Same H H' → Q (.bl true) H'
theorem parse_val (l : List Nat) (lo hi : Int) : parseL l lo hi = match valI l with
    | some v => if (decide (lo ≤ v) && decide (v ≤ hi)) = true then some v else none
    | none => none := by
  unfold parseL valI
  cases valL l <;> rfl
theorem parse_small {l : List Nat} (hl : l.length ≤ 100) (lo hi i : Int) (h : parseL l lo hi = some i) : i.natAbs.log2 < 1920 := by
  unfold parseL at h
  cases e : valL l with
  | none =>
    rw [e] at h
    cases h
  | some v =>
    rw [e] at h
    have h : (if (decide (lo ≤ (v : Int)) && decide ((v : Int) ≤ hi)) = true then some (v : Int) else none) = some i := h
    split at h
    · have h := Option.some.inj h
      rw [← h]
      exact Nat.lt_trans (val_small e (by omega)) (by decide)
    · cases h
/-- v if v is not None and lo <= v <= hi else None -/
theorem due_two {σ : L2.St} {H : Hp} {Q : VK} {l : List Nat} {i3 i1 : Nat} {lo hi : Int} {th : TE} (h3 : σ[i3]? = some (some (optV (valI l)))) (h1 : σ[i1]? = some (some (.int lo))) (h2 : ∀ Q : VK, Q (.int hi) H → th σ H Q) (q : Q (optV (parseL l lo hi)) H) :
    tIf (tAnd (tTest (tOp (fun x y H Q => y = .non ∧ Q (.bl (!decide (x = .non))) H) (tVar i3) (tC .non))) (tTest (tChain (rI0 fun i j => .bl (decide (i ≤ j))) (rI0 fun i j => .bl (decide (i ≤ j))) (tVar i1) (tVar i3) th))) (tVar i3) (tC .non) σ H Q := by
  rw [parse_val] at q
  cases e : valI l with
  | none =>
    rw [e] at q h3
    exact ⟨_, h3, rfl, _, rfl, iteF (iteF q)⟩
  | some v =>
    rw [e] at q h3
    refine ⟨_, h3, rfl, _, rfl, iteT ⟨_, h1, _, h3, _, _, rfl, rfl, _, rfl, ?_⟩⟩
    have q : Q (optV (if (decide (lo ≤ v) && decide (v ≤ hi)) = true then some v else none)) H := q
    cases e3 : decide (lo ≤ v) with
    | false =>
      rw [e3, Bool.false_and, if_neg Bool.false_ne_true] at q
      exact iteF ⟨_, rfl, iteF q⟩
    | true =>
      rw [e3, Bool.true_and] at q
      refine iteT (h2 _ ⟨_, _, rfl, rfl, _, rfl, ?_⟩)
      cases e4 : decide (v ≤ hi) with
      | false =>
        rw [e4, if_neg Bool.false_ne_true] at q
        exact iteF q
      | true =>
        rw [e4, if_pos rfl] at q
        exact iteT ⟨_, h3, q⟩
/-- v if v is not None and v <= hi else None -/
theorem due_one {σ : L2.St} {H : Hp} {Q : VK} {l : List Nat} {i3 : Nat} {hi : Int} (h3 : σ[i3]? = some (some (optV (valI l)))) (q : Q (optV (parseL l 0 hi)) H) :
    tIf (tAnd (tTest (tOp (fun x y H Q => y = .non ∧ Q (.bl (!decide (x = .non))) H) (tVar i3) (tC .non))) (tTest (tOp (rI0 fun i j => .bl (decide (i ≤ j))) (tVar i3) (tC (.int hi))))) (tVar i3) (tC .non) σ H Q := by
  have e0 : valI l = none ∨ ∃ v : Nat, valI l = some (v : Int) := by
    unfold valI
    cases valL l with
    | none => exact .inl rfl
    | some v => exact .inr ⟨v, rfl⟩
  rw [parse_val] at q
  rcases e0 with e | ⟨v, e⟩
  · rw [e] at q h3
    exact ⟨_, h3, rfl, _, rfl, iteF (iteF q)⟩
  · rw [e] at q h3
    have q : Q (optV (if (decide ((0 : Int) ≤ v) && decide ((v : Int) ≤ hi)) = true then some (v : Int) else none)) H := q
    rw [decide_eq_true (show (0 : Int) ≤ v by omega), Bool.true_and] at q
    refine ⟨_, h3, rfl, _, rfl, iteT ⟨_, h3, _, _, rfl, rfl, _, rfl, ?_⟩⟩
    cases e4 : decide ((v : Int) ≤ hi) with
    | false =>
      rw [e4, if_neg Bool.false_ne_true] at q
      exact iteF q
    | true =>
      rw [e4, if_pos rfl] at q
      exact iteT ⟨_, h3, q⟩
section
variable {P : Program} {w : World} {K : PySem.W.Frag} {mg : Str → Option Value} {base : Heap}
theorem ok_words {f : Addr} {fd : FuncData} {k : Nat} (F : Fun K "_law_words" "_law_words" s_l_words f fd) : FnOk P w K mg base CX0 (k + 1) f fd ["_law_text_here"] spWords := by
  refine F.ok sc_l_words (fun vs H Q E h => ?_) (fun cdv A outer s H vs Q E hr h => ?_)
  · obtain ⟨z, rfl, _⟩ := h
    rfl
  · obtain ⟨z, rfl, hz, q1, q2⟩ := h
    refine ⟨_, (pss_cons (ps_par (i := 1) (j := 2) (by rfl) sc_l_words.nd rfl rfl (by decide) rfl rfl (pa_cons (pe_lst pa_nil) (pa_cons pe_str pa_nil)) (by rfl))
    (pss_cons (ps_for PassesOwn.never rfl (pi_str (pv 0)) (pg_name (i := 3) sc_l_words.nd rfl (.inl rfl))
      (pss_cons (ps_if (PW.pt (pw_or (pt_cmpR op_eq (pv 3) pe_str (nomark _)) (pw_or1 (PW.pt (pw_and (pt_cmpR op_eq (pv 3) pe_str (nomark _)) (pw_and1 (pt_cmpR op_eq (pv 2) pe_str (nomark _))))))))
        (pss_one (ps_ret pe_non))
        pss_nil)
      (pss_one (ps_if (pt_cmpR op_eq (pv 3) pe_str (nomark _))
        (pss_cons (ps_expr (pe_bm PySem.F.plainAttrs_list PySem.F.slot_list_append PySem.F.type_list_append mt_append (pv 1) (pa_cons (pv 2) pa_nil)))
        (pss_one (ps_set (i := 2) sc_l_words.nd rfl (.inl rfl) pe_str)))
        (pss_one (ps_set (i := 2) sc_l_words.nd rfl (.inl rfl) (pe_op op_add_str (pv 2) (pv 3))))))))
    (pss_one (ps_ret (pe_ifExp (pt_cmpR op_eq (pv 2) pe_str (nomark _)) pe_non (pe_op op_cat (pv 1) (pe_lst (pa_cons (pv 2) pa_nil)))))))), ?_⟩
    refine ⟨Nat.zero_le _, fun p np => ⟨_, _, rfl, ?_⟩⟩
    have hsz : z.cps.size = z.length := rfl
    refine ⟨_, rfl, _, rfl, for_it walk_str (fun i σ H' => ∃ ws u v3, σ = [some (.str z), some (.ref p), some (.str u), v3] ∧ H' p = some (.lst (ws.map V.str)) ∧ Same H H' ∧ Mid z i ws u) ⟨[], "", none, rfl, upd_same, same_new np, mid_start z⟩ (fun _ _ _ _ _ => trivial) ?_ ?_⟩
    · rintro i x σ H5 H6 hi ⟨ws, u, v3, rfl, hp, s5, m⟩ ⟨rfl, c, hc, rfl⟩
      have hcl : (tl z)[i]? = some c := by
        show z.cps.toList[i]? = some c
        rw [Array.getElem?_toList]
        exact hc
      refine ⟨_, rfl, rfl, _, rfl, ?_⟩
      rw [one_is (d := 10) (by decide +kernel)]
      cases e1 : decide (c = 10) with
      | true =>
        obtain rfl := of_decide_eq_true e1
        refine iteT ?_
        exact iteT (B := True) (q1 (mid_nl hcl) _ s5)
      | false =>
        refine iteF ?_
        refine ⟨_, rfl, rfl, _, rfl, ?_⟩
        rw [one_is (d := 32) (by decide +kernel)]
        cases e2 : decide (c = 32) with
        | true =>
          obtain rfl := of_decide_eq_true e2
          refine iteT ⟨_, rfl, rfl, _, rfl, ?_⟩
          by_cases e3 : u = ""
          · subst e3
            rw [decide_eq_true rfl]
            refine iteT (B := True) ?_
            exact q1 (mid_gap m hcl) _ s5
          · rw [decide_eq_false (fun w => e3 (V.str.inj w))]
            refine iteF (A := True) ?_
            refine ⟨_, rfl, rfl, _, rfl, ?_⟩
            rw [one_is (d := 32) (by decide +kernel)]
            refine iteT ?_
            refine ⟨_, rfl, .inl ⟨rfl, _, SqL.of hp⟩, _, rfl, p, _, _, rfl, rfl, hp, ?_, ?_⟩
            · rw [List.length_map]
              exact Nat.lt_of_le_of_lt (show ws.length ≤ 2000 by have := m.le.1; omega) (by decide)
            · refine ⟨ws ++ [u], "", _, rfl, ?_, fun b o e => ?_, mid_blank m hcl e3⟩
              · rw [upd_same, List.map_append]
                rfl
              · rw [upd_ne (ne_of_none e np)]
                exact s5 b o e
        | false =>
          refine iteF (A := True) ?_
          refine iteF (A := True) ?_
          refine ⟨_, rfl, rfl, _, rfl, ?_⟩
          rw [one_is (d := 32) (by decide +kernel), e2]
          refine iteF ?_
          have e1 := of_decide_eq_false e1
          have e2 := of_decide_eq_false e2
          have ml := m.le.2
          have s1 : (⟨#[c]⟩ : Str).length = 1 := rfl
          refine ⟨_, rfl, _, rfl, _, _, rfl, rfl, Nat.le_trans (show u.length + (⟨#[c]⟩ : Str).length ≤ 2000 by omega) (by decide), ?_⟩
          exact ⟨ws, _, _, rfl, hp, s5, mid_sign m hcl e1 e2⟩
    · rintro σ H5 ⟨ws, u, v3, rfl, hp, s5, m⟩
      have me := mid_end m
      refine ⟨_, rfl, rfl, _, rfl, ?_⟩
      by_cases hu : u = ""
      · subst hu
        rw [decide_eq_true rfl]
        rw [if_pos rfl] at me
        exact iteT (q1 me _ s5)
      · rw [decide_eq_false (fun w => hu (V.str.inj w))]
        rw [if_neg hu] at me
        refine iteF ?_
        refine ⟨_, rfl, _, rfl, (by show 1 ≤ sizeLine; decide), fun p2 np2 => ?_⟩
        have ml := m.le.1
        refine ⟨p, p2, ws.map V.str, [.str u], rfl, rfl, (by rw [upd_ne (ne_of_none hp np2)]; exact hp), upd_same, ?_, fun p3 np3 => ?_⟩
        · rw [List.length_map]
          exact Nat.le_trans (show ws.length + 1 ≤ 2000 by omega) (by decide)
        · have s6 : Same H (upd H5 p2 (.lst [.str u])) := s5.trans (same_new np2)
          exact q2 _ me p3 _ (s6.free np3) (s6.trans (same_new np3)) (by rw [upd_same, List.map_append]; rfl)
theorem ok_right {f f_l_value f_parse_integer : Addr} {fd fd_l_value fd_parse_integer : FuncData} {k : Nat} {kws : List (Str × V)} {ds : List Value} (F : Fun K "_law_number_right" "_law_number_right" s_l_number_right f fd) (T : TC mg) (n_repr : mg "repr" = none)
    (F_l_value : Fun K "_law_value" "_law_value" s_l_value f_l_value fd_l_value) (b_l_value : Binds K fd_l_value ["_law_text_here"] []) (gl_l_value : mg "_law_value" = some (.ref f_l_value))
    (F_parse_integer : FunD K "parse_integer" "parse_integer" (defArgs s_parse_integer) (defBody s_parse_integer) (defScope s_parse_integer) [] kws f_parse_integer fd_parse_integer) (gl_parse_integer : mg "parse_integer" = some (.ref f_parse_integer))
    {mv1 mv2 : List Value} (kb_parse_integer_low_high : KBn K fd_parse_integer ["text", "low", "high"] 1 ["low", "high"] (fun us ws => us ++ (ws ++ mv1)) (fun vs zs => vs ++ (zs ++ [])))
    (kb_parse_integer_low : KBn K fd_parse_integer ["text", "low", "high"] 1 ["low"] (fun us ws => us ++ (ws ++ mv2)) (fun vs zs => vs ++ (zs ++ [.int 999]))) (vd : Vals [.int 0, .int 999] ds) (b_parse_integer : Binds K fd_parse_integer ["text", "low", "high"] ds) :
    FnOk P w K mg base CX0 (k + 2) f fd ["_law_text_here", "_law_least", "_law_most"] spRight := by
  have G_l_value : FnOk P w K mg base CX0 1 f_l_value fd_l_value ["_law_text_here"] spValue := ok_value F_l_value
  have G_parse_integer : FnOk P w K mg base CX0 1 f_parse_integer fd_parse_integer ["text", "low", "high"] (spParse K) := ok_parse F_parse_integer T
  refine F.ok sc_l_number_right (fun vs H Q E h => ?_) (fun cdv A outer s H vs Q E hr h => ?_)
  · obtain ⟨z, lo, hi, rfl, _⟩ := h
    rfl
  · obtain ⟨z, lo, hi, rfl, hz, ha, hlog, q⟩ := h
    refine ⟨_, (pss_cons (ps_set (i := 3) sc_l_number_right.nd rfl (.inl rfl) (pe_call G_l_value (hr.mono (by omega)) (by rfl) gl_l_value F_l_value.kp b_l_value .nil pass0 (pa_cons (pv 0) pa_nil)))
    (pss_cons (ps_set (i := 4) sc_l_number_right.nd rfl (.inl rfl) (pe_ifExp (PW.pt (pw_and (pt_cmpR op_notN (pv 3) pe_non (nomark _)) (pw_and1 (pt_chain op_le op_le (pv 1) (pv 3) (pv 2))))) (pv 3) pe_non))
    (pss_cons (ps_if (pt_cmpR op_ne (pe_callB call_reprO (by rfl) n_repr (by decide +kernel) (pa_cons (pe_callN G_parse_integer (hr.mono (by omega)) (by rfl) gl_parse_integer F_parse_integer.kp kb_parse_integer_low_high pass0 (pa_cons (pv 0) pa_nil) (pk_cons (pv 1) (pk_cons (pv 2) pk_nil))) pa_nil)) (pe_callB call_reprO (by rfl) n_repr (by decide +kernel) (pa_cons (pv 4) pa_nil)) (nomark _))
      (pss_one (ps_ret pe_bl))
      pss_nil)
    (pss_cons (ps_set (i := 4) sc_l_number_right.nd rfl (.inl rfl) (pe_ifExp (PW.pt (pw_and (pt_cmpR op_notN (pv 3) pe_non (nomark _)) (pw_and1 (pt_cmpR op_le (pv 3) pe_int (nomark _))))) (pv 3) pe_non))
    (pss_cons (ps_if (pt_cmpR op_ne (pe_callB call_reprO (by rfl) n_repr (by decide +kernel) (pa_cons (pe_call G_parse_integer (hr.mono (by omega)) (by rfl) gl_parse_integer F_parse_integer.kp b_parse_integer vd pass0 (pa_cons (pv 0) pa_nil)) pa_nil)) (pe_callB call_reprO (by rfl) n_repr (by decide +kernel) (pa_cons (pv 4) pa_nil)) (nomark _))
      (pss_one (ps_ret pe_bl))
      pss_nil)
    (pss_cons (ps_set (i := 4) sc_l_number_right.nd rfl (.inl rfl) (pe_ifExp (PW.pt (pw_and (pt_cmpR op_notN (pv 3) pe_non (nomark _)) (pw_and1 (pt_chain op_le op_le (pv 1) (pv 3) pe_int)))) (pv 3) pe_non))
    (pss_one (ps_ret (pe_cmpR op_eq (pe_callB call_reprO (by rfl) n_repr (by decide +kernel) (pa_cons (pe_callN G_parse_integer (hr.mono (by omega)) (by rfl) gl_parse_integer F_parse_integer.kp kb_parse_integer_low pass0 (pa_cons (pv 0) pa_nil) (pk_cons (pv 1) pk_nil)) pa_nil)) (pe_callB call_reprO (by rfl) n_repr (by decide +kernel) (pa_cons (pv 4) pa_nil)) (nomark _)))))))))), ?_⟩
    have hll : (tl z).length ≤ 100 := by
      rw [← len_tl]
      exact hz
    refine ⟨_, rfl, z, rfl, hz, ha, fun H1 s1 => ?_⟩
    refine due_two rfl rfl (fun Q q => ⟨_, rfl, q⟩) ?_
    refine ⟨_, rfl, _, rfl, _, rfl, rfl, rfl, _, lo, hi, rfl, .inl ⟨z, rfl, hz, hlog, ?_⟩⟩
    refine ⟨_, rfl, parse_small hll _ _, _, rfl, _, rfl, parse_small hll _ _, rfl, _, rfl, ?_⟩
    rw [decide_eq_true rfl]
    refine iteF ?_
    refine due_one rfl ?_
    refine ⟨_, rfl, _, 0, 999, rfl, .inl ⟨z, rfl, hz, by decide +kernel, ?_⟩⟩
    refine ⟨_, rfl, parse_small hll _ _, _, rfl, _, rfl, parse_small hll _ _, rfl, _, rfl, ?_⟩
    rw [decide_eq_true rfl]
    refine iteF ?_
    refine due_two rfl rfl (fun Q q => q) ?_
    refine ⟨_, rfl, _, rfl, rfl, rfl, _, lo, 999, rfl, .inl ⟨z, rfl, hz, by decide +kernel, ?_⟩⟩
    refine ⟨_, rfl, parse_small hll _ _, _, rfl, _, rfl, parse_small hll _ _, rfl, ?_⟩
    rw [decide_eq_true rfl]
    exact q _ s1
end
end K02
set_option Elab.async false
set_option linter.all false
set_option maxRecDepth 100000
set_option pp.maxSteps 1500
namespace K02
open PySem PySem.Spec PyProof.Rows L2 CaV CaL TL
abbrev s_l_text : Stmt := topS 10
abbrev N_l_text : List Str := ["_law_box_here", "_law_number", "_law_text_here", "_law_at", "_law_sign", "_law_some"]
theorem sc_l_text : FnScope N_l_text ["_law_box_here"] (defScope s_l_text) := ⟨rfl, rfl, rfl, by decide +kernel, rfl, by decide +kernel, by decide +kernel⟩
abbrev s_l_line : Stmt := topS 14
abbrev N_l_line : List Str := ["_law_box_here", "_law_signs", "_law_words_here", "_law_k", "_law_line_here", "_law_at", "_law_some", "_law_j"]
theorem sc_l_line : FnScope N_l_line ["_law_box_here"] (defScope s_l_line) := ⟨rfl, rfl, rfl, by decide +kernel, rfl, by decide +kernel, by decide +kernel⟩
def spText : Sp := fun vs H Q _ => ∃ (b : Addr) (n : Nat), vs = [.ref b] ∧ Bx H b n ∧ n < 900000 ∧
  ∀ (x : Str) (H' : Hp), x.length ≤ 90 → Asc x → Bx H' b (n + 60) → Kp b H H' → Q (.str x) H'
theorem signs17_len : ("0123456789-+ ._a\n" : Str).cps.toList.length = 17 := by decide +kernel
theorem signs17_asc : ∀ c ∈ ("0123456789-+ ._a\n" : Str).cps.toList, c < 128 := by decide +kernel
theorem num_text {v : Int} (h0 : 0 ≤ v) (h1 : v < 1000000000000000000000000000000) : (Str.ofString (toString v)).length ≤ 30 ∧ Asc (Str.ofString (toString v)) := by
  obtain ⟨n, rfl⟩ : ∃ n : Nat, v = (n : Int) := ⟨v.toNat, by omega⟩
  have e := tl_num n
  constructor
  · rw [len_tl, e]
    exact numL_len (by decide) (by have : (10 : Nat) ^ 30 = 1000000000000000000000000000000 := by decide +kernel
                                   omega)
  · intro c hc
    have hc : c ∈ numL n := by
      rw [← e]
      exact hc
    have := numL_digits n c hc
    omega
theorem asc_minus : Asc "-" := asc_of (by decide +kernel)
theorem asc_zero : Asc "0" := asc_of (by decide +kernel)
theorem asc_blank : Asc " " := asc_of (by decide +kernel)
theorem asc_nl : Asc "\n" := asc_of (by decide +kernel)
section
variable {P : Program} {w : World} {K : PySem.W.Frag} {mg : Str → Option Value} {base : Heap}
theorem ok_text {f f_l_take : Addr} {fd fd_l_take : FuncData} {k : Nat} (F : Fun K "_law_text" "_law_text" s_l_text f fd) (F_l_take : Fun K "_law_take" "_law_take" s_l_take f_l_take fd_l_take) (b_l_take : Binds K fd_l_take ["_law_box_here", "_law_many"] []) (gl_l_take : mg "_law_take" = some (.ref f_l_take))
    (n_str : mg "str" = none) (n_len : mg "len" = none) : FnOk P w K mg base CX0 (k + 2) f fd ["_law_box_here"] spText := by
  have G_l_take : FnOk P w K mg base CX0 1 f_l_take fd_l_take ["_law_box_here", "_law_many"] spTake := ok_take F_l_take
  refine F.ok sc_l_text (fun vs H Q E h => ?_) (fun cdv A outer s H vs Q E hr h => ?_)
  · obtain ⟨b, n, rfl, _⟩ := h
    rfl
  · obtain ⟨b, n, rfl, bx, hn, q⟩ := h
    refine ⟨_, (pss_cons (ps_set (i := 1) sc_l_text.nd rfl (.inl rfl) (pe_lst (pa_cons (pe_call G_l_take (hr.mono (by omega)) (by rfl) gl_l_take F_l_take.kp b_l_take .nil pass0 (pa_cons (pv 0) (pa_cons pe_int pa_nil))) (pa_cons (pe_call G_l_take (hr.mono (by omega)) (by rfl) gl_l_take F_l_take.kp b_l_take .nil pass0 (pa_cons (pv 0) (pa_cons pe_int pa_nil))) (pa_cons (pe_op op_add (pe_op op_mul (pe_call G_l_take (hr.mono (by omega)) (by rfl) gl_l_take F_l_take.kp b_l_take .nil pass0 (pa_cons (pv 0) (pa_cons (pe_op op_pow pe_int pe_int) pa_nil))) (pe_op op_pow pe_int pe_int)) (pe_call G_l_take (hr.mono (by omega)) (by rfl) gl_l_take F_l_take.kp b_l_take .nil pass0 (pa_cons (pv 0) (pa_cons (pe_op op_pow pe_int pe_int) pa_nil)))) pa_nil)))))
    (pss_cons (ps_set (i := 2) sc_l_text.nd rfl (.inl rfl) (pe_callTy call_str_int (by rfl) n_str (by decide +kernel) (pa_cons (pe_ix ix_list (pv 1) (pe_call G_l_take (hr.mono (by omega)) (by rfl) gl_l_take F_l_take.kp b_l_take .nil pass0 (pa_cons (pv 0) (pa_cons pe_int pa_nil))) (fun _ _ => rfl)) pa_nil)))
    (pss_cons (ps_set (i := 3) sc_l_text.nd rfl (.inl rfl) (pe_call G_l_take (hr.mono (by omega)) (by rfl) gl_l_take F_l_take.kp b_l_take .nil pass0 (pa_cons (pv 0) (pa_cons (pe_op op_add (pe_callB call_len_str (by rfl) n_len PySem.boot_len (pa_cons (pv 2) pa_nil)) pe_int) pa_nil))))
    (pss_cons (ps_set (i := 4) sc_l_text.nd rfl (.inl rfl) (pe_ix ix_str pe_str (pe_call G_l_take (hr.mono (by omega)) (by rfl) gl_l_take F_l_take.kp b_l_take .nil pass0 (pa_cons (pv 0) (pa_cons pe_int pa_nil))) (fun _ _ => rfl)))
    (pss_cons (ps_set (i := 5) sc_l_text.nd rfl (.inl rfl) (pe_lst (pa_cons (pv 2) (pa_cons (pv 2) (pa_cons (pe_op op_add_str (pe_op op_add_str (pe_slice sl_str (pv 2) po_none (po_some (pv 3))) (pv 4)) (pe_slice sl_str (pv 2) (po_some (pv 3)) po_none)) (pa_cons (pe_op op_add_str (pe_op op_add_str (pe_slice sl_str (pv 2) po_none (po_some (pv 3))) (pv 4)) (pe_slice sl_str (pv 2) (po_some (pe_op op_add (pv 3) pe_int)) po_none)) (pa_cons (pe_op op_add_str pe_str (pv 2)) (pa_cons (pe_op op_add_str pe_str (pv 2)) (pa_cons pe_str pa_nil)))))))))
    (pss_one (ps_ret (pe_ix ix_list (pv 5) (pe_call G_l_take (hr.mono (by omega)) (by rfl) gl_l_take F_l_take.kp b_l_take .nil pass0 (pa_cons (pv 0) (pa_cons pe_int pa_nil))) (fun _ _ => rfl))))))))), ?_⟩
    refine ⟨_, rfl, b, _, n, rfl, bx, by omega, by decide, by decide, fun d1 H1 l1 u1 x1 k1 => ?_⟩
    refine ⟨_, rfl, b, _, n + 1, rfl, x1, by omega, by decide, by decide, fun d2 H2 l2 u2 x2 k2 => ?_⟩
    refine ⟨_, rfl, _, _, rfl, rfl, ⟨by decide, by decide, by decide⟩, b, _, n + 2, rfl, x2, by omega, by decide, by decide, fun d3 H3 l3 u3 x3 k3 => ?_⟩
    have u3 : d3 < 100000000 := u3
    refine ⟨_, _, rfl, rfl, ⟨by decide, by decide, by decide⟩, _, _, rfl, rfl, .inl ⟨by omega, by omega⟩, _, rfl, _, _, rfl, rfl, ⟨by decide, by decide, by decide⟩, b, _, n + 3, rfl, x3, by omega, by decide, by decide, fun d4 H4 l4 u4 x4 k4 => ?_⟩
    have u4 : d4 < 100000000 := u4
    refine ⟨_, _, rfl, rfl, (by show 3 ≤ sizeLine; decide), fun p np => ?_⟩
    have e21 : (10 : Int) ^ (21 : Int).toNat = 1000000000000000000000 := by decide +kernel
    refine ⟨_, rfl, _, rfl, b, _, n + 4, rfl, x4.new np, by omega, by decide, by decide, fun d5 H5 l5 u5 x5 k5 => ?_⟩
    obtain ⟨v, hv, e5⟩ := atI_in (xs := [V.int d1, .int d2, .int (d3 * 10 ^ (21 : Int).toNat + d4)]) (i := d5) l5 (by simpa using u5)
    obtain ⟨x, rfl, hx0, hx1⟩ : ∃ x : Int, v = .int x ∧ 0 ≤ x ∧ x < 1000000000000000000000000000000 := by
      simp only [List.mem_cons, List.not_mem_nil, or_false] at hv
      rcases hv with rfl | rfl | rfl
      · exact ⟨_, rfl, by omega, by omega⟩
      · exact ⟨_, rfl, by omega, by omega⟩
      · exact ⟨_, rfl, by rw [e21]; omega, by rw [e21]; omega⟩
    have hp5 : H5 p = some (.lst [V.int d1, .int d2, .int (d3 * 10 ^ (21 : Int).toNat + d4)]) := k5 p _ upd_same (x4.ne np)
    refine ⟨p, _, _, .int x, rfl, rfl, SqL.of hp5, e5, x, rfl, Nat.lt_of_lt_of_le (PySem.Flt.log2_lt_of (k := 110) (by decide) (by omega)) (by decide), ?_⟩
    obtain ⟨ht, ha⟩ := num_text hx0 hx1
    show tSeq _ _ _ _ _
    generalize Str.ofString (toString x) = t at ht ha ⊢
    have k05 : Kp b H H5 := ((((k1.trans k2).trans k3).trans k4).trans (Kp.new np)).trans k5
    refine ⟨_, rfl, _, rfl, _, rfl, sz100 (by omega), _, _, rfl, rfl, b, _, n + 5, rfl, x5, by omega, by omega, by omega, fun d6 H6 l6 u6 x6 k6 => ?_⟩
    refine ⟨_, rfl, b, _, n + 6, rfl, x6, by omega, by decide, by decide, fun d7 H7 l7 u7 x7 k7 => ?_⟩
    obtain ⟨c, hc, ec⟩ := atI_in (xs := ("0123456789-+ ._a\n" : Str).cps.toList) (i := d7) l7 (by rw [signs17_len]; exact u7)
    refine ⟨_, _, c, rfl, rfl, by decide +kernel, ec, ?_⟩
    have c1 := cut_len t none (some d6)
    have c2 := cut_len t (some (d6 + 1)) none
    have c3 := cut_len t (some d6) none
    have s1 : (⟨#[c]⟩ : Str).length = 1 := rfl
    have s2 : ("0" : Str).length = 1 := by decide +kernel
    have s3 : ("-" : Str).length = 1 := by decide +kernel
    have a1 := app_len (cutS t none (some d6)) ⟨#[c]⟩
    have a2 := app_len (cutS t none (some d6) ++ ⟨#[c]⟩) (cutS t (some (d6 + 1)) none)
    have a3 := app_len (cutS t none (some d6) ++ ⟨#[c]⟩) (cutS t (some d6) none)
    have a4 := app_len "0" t
    have a5 := app_len "-" t
    refine ⟨_, rfl, _, rfl, ?_⟩
    refine ⟨_, rfl, _, rfl, _, rfl, _, rfl, sz100 (by omega), _, rfl, _, _, rfl, rfl, sz100 (by omega), _, rfl, _, rfl, _, rfl, _, rfl, sz100 (by omega), _, _, rfl, rfl, sz100 (by omega), ?_⟩
    refine ⟨_, rfl, _, rfl, _, rfl, _, rfl, sz100 (by omega), _, rfl, _, _, rfl, rfl, sz100 (by omega), _, rfl, _, rfl, _, _, rfl, rfl, _, rfl, _, rfl, sz100 (by omega), _, _, rfl, rfl, sz100 (by omega), ?_⟩
    refine ⟨_, rfl, _, _, rfl, rfl, sz100 (by omega), _, rfl, _, _, rfl, rfl, sz100 (by omega), (by show 7 ≤ sizeLine; decide), fun p2 np2 => ?_⟩
    refine ⟨_, rfl, _, rfl, b, _, n + 7, rfl, x7.new np2, by omega, by decide, by decide, fun d8 H8 l8 u8 x8 k8 => ?_⟩
    obtain ⟨y, hy, ey⟩ := atI_strs (zs := [t, t, (cutS t none (some d6) ++ ⟨#[c]⟩) ++ cutS t (some d6) none, (cutS t none (some d6) ++ ⟨#[c]⟩) ++ cutS t (some (d6 + 1)) none, "0" ++ t, "-" ++ t, ""]) (i := d8) l8 u8
    have hc1 := asc_one (signs17_asc c hc)
    obtain ⟨hy1, hy2⟩ : y.length ≤ 90 ∧ Asc y := by
      simp only [List.mem_cons, List.not_mem_nil, or_false] at hy
      rcases hy with rfl | rfl | rfl | rfl | rfl | rfl | rfl
      · exact ⟨by omega, ha⟩
      · exact ⟨by omega, ha⟩
      · exact ⟨by omega, asc_app (asc_app (asc_cut _ _ ha) hc1) (asc_cut _ _ ha)⟩
      · exact ⟨by omega, asc_app (asc_app (asc_cut _ _ ha) hc1) (asc_cut _ _ ha)⟩
      · exact ⟨by omega, asc_app asc_zero ha⟩
      · exact ⟨by omega, asc_app asc_minus ha⟩
      · exact ⟨by decide +kernel, asc_empty⟩
    have hp8 : H8 p2 = some (.lst ([t, t, (cutS t none (some d6) ++ ⟨#[c]⟩) ++ cutS t (some d6) none, (cutS t none (some d6) ++ ⟨#[c]⟩) ++ cutS t (some (d6 + 1)) none, "0" ++ t, "-" ++ t, ""].map V.str)) := k8 p2 _ upd_same (x7.ne np2)
    exact ⟨p2, _, _, .str y, rfl, rfl, SqL.of hp8, ey, q _ _ hy1 hy2 (x8.mono (by omega)) ((((k05.trans k6).trans k7).trans (Kp.new np2)).trans k8)⟩
end
end K02
set_option Elab.async false
set_option linter.all false
set_option maxRecDepth 100000
set_option pp.maxSteps 1500
namespace K02
open PySem PySem.Spec PyProof.Rows L2 CaV CaL TL
def sigA : Str := "abcdefghijklmnopqrstuvwxyz0123456789ABCDEFGHIJKLMNOPQRSTUVWXYZ!#$&()*+,-./:;<=>?\x40[]^_{|}~'"
def sig : Str := ((sigA ++ "`") ++ "\"") ++ "\\"
theorem sig_len : 0 < sig.length ∧ sig.length ≤ 200 ∧ sigA.length ≤ 200 := by decide +kernel
theorem sig_asc : ∀ c ∈ sig.cps.toList, c < 128 := by decide +kernel
theorem join_sum : ∀ {ys : List Str} {m : Nat}, (∀ y ∈ ys, y.length ≤ m) → (ys.map (·.length)).sum ≤ ys.length * m
  | [], _, _ => by simp
  | y :: r, m, h => by
    have z := join_sum (fun x hx => h x (List.mem_cons_of_mem _ hx))
    have z2 := h y List.mem_cons_self
    rw [List.map_cons, List.sum_cons, List.length_cons, Nat.succ_mul]
    omega
theorem join_len {sep : Str} {ys : List Str} {m : Nat} (h : ∀ y ∈ ys, y.length ≤ m) : (Txt.join sep ys).length ≤ ys.length * m + ys.length * sep.length := by
  have e := StrLaws.join_length_le sep ys
  have z := join_sum h
  show (Builtin.Str.glued sep ys).length ≤ _
  rw [StrLaws.glued_eq_join]
  omega
theorem asc_joinT {sep : Str} (hs : Asc sep) : ∀ {ys : List Str}, (∀ y ∈ ys, Asc y) → Asc (Str.join sep ys)
  | [], _ => fun c hc => absurd hc (by show ¬ c ∈ ([] : List Nat); simp)
  | [x], h => h x List.mem_cons_self
  | x :: y :: r, h => by
    show Asc (x ++ sep ++ Str.join sep (y :: r))
    exact asc_app (asc_app (h x List.mem_cons_self) hs) (asc_joinT hs fun z hz => h z (List.mem_cons_of_mem _ hz))
theorem asc_joinU {sep : Str} (hs : Asc sep) {ys : List Str} (h : ∀ y ∈ ys, Asc y) : Asc (Txt.join sep ys) := by
  show Asc (Builtin.Str.glued sep ys)
  rw [StrLaws.glued_eq_join]
  exact asc_joinT hs h
section
variable {P : Program} {w : World} {K : PySem.W.Frag} {mg : Str → Option Value} {base : Heap}
theorem ok_line {f f_l_take : Addr} {fd fd_l_take : FuncData} {k : Nat} (F : Fun K "_law_line" "_law_line" s_l_line f fd) (F_l_take : Fun K "_law_take" "_law_take" s_l_take f_l_take fd_l_take) (b_l_take : Binds K fd_l_take ["_law_box_here", "_law_many"] []) (gl_l_take : mg "_law_take" = some (.ref f_l_take))
    (n_range : mg "range" = none) (n_len : mg "len" = none) : FnOk P w K mg base CX0 (k + 2) f fd ["_law_box_here"] spText := by
  have G_l_take : FnOk P w K mg base CX0 1 f_l_take fd_l_take ["_law_box_here", "_law_many"] spTake := ok_take F_l_take
  refine F.ok sc_l_line (fun vs H Q E h => ?_) (fun cdv A outer s H vs Q E hr h => ?_)
  · obtain ⟨b, n, rfl, _⟩ := h
    rfl
  · obtain ⟨b, n, rfl, bx, hn, q⟩ := h
    refine ⟨_, (pss_cons (ps_set (i := 1) sc_l_line.nd rfl (.inr rfl) pe_str)
    (pss_cons (ps_set (i := 1) sc_l_line.nd rfl (.inr rfl) (pe_op op_add_str (pe_op op_add_str (pe_op op_add_str (pv 1) pe_str) pe_str) pe_str))
    (pss_cons (ps_set (i := 2) sc_l_line.nd rfl (.inl rfl) (pe_lst pa_nil))
    (pss_cons (ps_for PassesOwn.never rfl (pi_range1 (by rfl) n_range (pa_cons (pe_op op_add pe_int (pe_call G_l_take (hr.mono (by omega)) (by rfl) gl_l_take F_l_take.kp b_l_take .nil pass0 (pa_cons (pv 0) (pa_cons pe_int pa_nil)))) pa_nil)) (pg_name (i := 3) sc_l_line.nd rfl (.inl rfl))
      (pss_one (ps_expr (pe_bm PySem.F.plainAttrs_list PySem.F.slot_list_append PySem.F.type_list_append mt_append (pv 2) (pa_cons (pe_join pe_str (pe_lc (own := [("_law_j", 7)]) (g := gName 7) (tt := tYes) (by rfl) sc_l_line.nd (pi_range1 (by rfl) n_range (pa_cons (pe_op op_add pe_int (pe_call G_l_take (hr.mono (by omega)) (by rfl) gl_l_take F_l_take.kp b_l_take .nil pass0 (pa_cons (pv 0) (pa_cons pe_int pa_nil)))) pa_nil)) (blkOk_by (own := [("_law_j", 7)]) (N := N_l_line) (sc := defScope s_l_line) (by decide +kernel)) (fun _ _ _ _ _ => pg_name (i := 7) sc_l_line.nd rfl (Or.inl rfl)) (fun _ _ _ _ _ => pts_nil) (fun _ _ _ _ _ => (pe_ix ix_str (pv 1) (pe_call G_l_take (hr.mono (by omega)) (by rfl) gl_l_take F_l_take.kp b_l_take .nil pass0 (pa_cons (pv 0) (pa_cons (pe_callB call_len_str (by rfl) n_len PySem.boot_len (pa_cons (pv 1) pa_nil)) pa_nil))) (fun _ _ => rfl))))) pa_nil)))))
    (pss_cons (ps_set (i := 4) sc_l_line.nd rfl (.inl rfl) (pe_join pe_str (pv 2)))
    (pss_cons (ps_set (i := 5) sc_l_line.nd rfl (.inl rfl) (pe_call G_l_take (hr.mono (by omega)) (by rfl) gl_l_take F_l_take.kp b_l_take .nil pass0 (pa_cons (pv 0) (pa_cons (pe_op op_add (pe_callB call_len_str (by rfl) n_len PySem.boot_len (pa_cons (pv 4) pa_nil)) pe_int) pa_nil))))
    (pss_cons (ps_set (i := 6) sc_l_line.nd rfl (.inl rfl) (pe_lst (pa_cons (pv 4) (pa_cons (pv 4) (pa_cons (pv 4) (pa_cons (pe_op op_add_str pe_str (pv 4)) (pa_cons (pe_op op_add_str (pv 4) pe_str) (pa_cons (pe_op op_add_str (pe_op op_add_str (pe_slice sl_str (pv 4) po_none (po_some (pv 5))) pe_str) (pe_slice sl_str (pv 4) (po_some (pv 5)) po_none)) (pa_cons (pe_op op_add_str (pe_op op_add_str (pe_slice sl_str (pv 4) po_none (po_some (pv 5))) pe_str) (pe_slice sl_str (pv 4) (po_some (pv 5)) po_none)) (pa_cons pe_str pa_nil))))))))))
    (pss_one (ps_ret (pe_ix ix_list (pv 6) (pe_call G_l_take (hr.mono (by omega)) (by rfl) gl_l_take F_l_take.kp b_l_take .nil pass0 (pa_cons (pv 0) (pa_cons pe_int pa_nil))) (fun _ _ => rfl))))))))))), ?_⟩
    have sl := sig_len
    have g1 := app_len sigA "`"
    have g2 := app_len (sigA ++ "`") "\""
    have g3 := app_len ((sigA ++ "`") ++ "\"") "\\"
    have g4 : ("`" : Str).length = 1 := by decide +kernel
    have g5 : ("\"" : Str).length = 1 := by decide +kernel
    have g6 : ("\\" : Str).length = 1 := by decide +kernel
    refine ⟨.str sigA, rfl, sigA, "`", rfl, rfl, sz100 (by omega), _, _, rfl, rfl, sz100 (by omega), _, _, rfl, rfl, sz100 (by omega), ?_⟩
    refine ⟨Nat.zero_le _, fun p np => ?_⟩
    have npb : p ≠ b := bx.ne np
    have y0 := bx.new (o := .lst []) np
    have z0 : Kp b H (upd H p (.lst [])) := Kp.new np
    have w0 : (upd H p (.lst [])) p = some (.lst (([] : List Str).map V.str)) := upd_same
    generalize upd H p (.lst []) = H0 at y0 z0 w0 ⊢
    refine ⟨_, rfl, b, _, n, rfl, y0, by omega, by decide, by decide, fun d1 H1 l1 u1 x1 k1 => ⟨_, _, rfl, rfl, 1 + d1, rfl, by omega, by omega, ?_⟩⟩
    refine for_range (lo := 0) (n := (1 + d1).toNat) (fun i σ H2 => ∃ ws v3, σ = [some (.ref b), some (.str sig), some (.ref p), v3, none, none, none, none] ∧ H2 p = some (.lst ((ws : List Str).map V.str)) ∧ ws.length = i ∧ (∀ y ∈ ws, y.length ≤ 4 ∧ Asc y) ∧ Bx H2 b (n + 1 + 6 * i) ∧ Kp b H H2) ⟨[], none, rfl, k1 p _ w0 npb, rfl, (fun y hy => nomatch hy), x1, z0.trans k1⟩ ?_ ?_
    · rintro i σ H2 hi ⟨ws, v3, rfl, hp, hl, hw, x2, k2⟩
      refine ⟨_, rfl, .inl ⟨rfl, _, SqL.of hp⟩, ⟨_, rfl⟩, _, rfl, b, _, _, rfl, x2, by omega, by decide, by decide, fun d2 H3 l2 u2 x3 k3 => ⟨_, _, rfl, rfl, 1 + d2, rfl, by omega, by omega, fun D hD => ?_⟩⟩
      have hp3 := k3 p _ hp npb
      have nD := x3.ne hD
      have npD : p ≠ D := ne_of_none hp3 hD
      refine lc_range (lo := 0) (n := (1 + d2).toNat) (fun i2 H5 => ∃ ys : List Str, H5 D = some (.lst (ys.map V.str)) ∧ ys.length = i2 ∧ (∀ y ∈ ys, y.length = 1 ∧ Asc y) ∧ Bx H5 b (n + 2 + 6 * i + i2) ∧ Kp b H3 H5) ⟨[], upd_same, rfl, (fun y hy => nomatch hy), (x3.new hD).mono (by omega), Kp.new hD⟩ ?_ ?_
      · rintro i2 H5 hi2 ⟨ys, hys, hly, h1, x5, k5⟩
        refine ⟨rfl, ?_⟩
        refine yes_at ?_
        refine ⟨_, rfl, _, rfl, _, rfl, sig, rfl, sz100 (show sig.length ≤ 1000 by omega), b, _, _, rfl, x5, by omega, (by show (0 : Int) < (sig.length : Int); omega), (by show (sig.length : Int) < 1073741824; omega), fun d3 H6 l3 u3 x6 k6 => ?_⟩
        have u3 : d3 < (sig.length : Int) := u3
        have sll : sig.cps.toList.length = sig.length := by simp [Str.length]
        obtain ⟨c, hc, ec⟩ := atI_in (xs := sig.cps.toList) (i := d3) l3 (by omega)
        refine ⟨sig, _, c, rfl, rfl, sz100 (by omega), ec, ys.map V.str, k6 D _ hys nD, by rw [List.length_map]; exact Nat.lt_of_le_of_lt (show ys.length ≤ 9 by omega) (by decide), ys ++ [⟨#[c]⟩], by rw [upd_same, List.map_append]; rfl, by rw [List.length_append, hly]; rfl, fun y hy => ?_, ?_, fun a o e na => ?_⟩
        · rcases List.mem_append.mp hy with hy | hy
          · exact h1 y hy
          · rw [List.mem_singleton.mp hy]
            exact ⟨rfl, asc_one (sig_asc c hc)⟩
        · obtain ⟨m, r, c', e1, e2⟩ := x6.mono (k := n + 2 + 6 * i + (i2 + 1)) (by omega)
          exact ⟨m, r, c', by rw [upd_ne nD.symm]; exact e1, e2⟩
        · rw [upd_ne (ne_of_none e hD)]
          exact k6 a o (k5 a o e na) na
      · rintro H5 ⟨ys, hys, hly, h1, x5, k5⟩
        have hd2 : (1 + d2).toNat ≤ 4 := by omega
        have ha := asc_joinU asc_empty (fun y hy => (h1 y hy).2)
        have hj := join_len (sep := "") (m := 1) (fun y hy => Nat.le_of_eq (h1 y hy).1)
        have e0 : ("" : Str).length = 0 := by decide +kernel
        rw [e0] at hj
        refine ⟨_, D, ys, rfl, rfl, .inl (SqL.of hys), by rw [sum_ones (fun y hy => (h1 y hy).1), hly, e0]; omega, ?_⟩
        generalize Txt.join "" ys = word at ha hj ⊢
        have hp5 := k5 p _ hp3 npb
        refine ⟨p, _, _, rfl, rfl, hp5, ?_, ?_⟩
        · rw [List.length_map]
          exact Nat.lt_of_le_of_lt (show ws.length ≤ 100 by omega) (by decide)
        · refine ⟨ws ++ [word], _, rfl, by rw [upd_same, List.map_append]; rfl, by rw [List.length_append, hl]; rfl, fun y hy => ?_, ?_, fun a o e na => ?_⟩
          · rcases List.mem_append.mp hy with hy | hy
            · exact hw y hy
            · rw [List.mem_singleton.mp hy]
              exact ⟨by omega, ha⟩
          · obtain ⟨m, r, c', e1, e2⟩ := x5.mono (k := n + 1 + 6 * (i + 1)) (by omega)
            exact ⟨m, r, c', by rw [upd_ne npb.symm]; exact e1, e2⟩
          · rw [upd_ne (ne_of_none e np)]
            exact k5 a o (k3 a o (k2 a o e na) na) na
    · rintro σ H2 ⟨ws, v3, rfl, hp, hl, hw, x2, k2⟩
      have hd1 : (1 + d1).toNat ≤ 5 := by omega
      have x2 := x2.mono (k := n + 31) (by omega)
      have ha := asc_joinU asc_blank (fun y hy => (hw y hy).2)
      have hj := join_len (sep := " ") (m := 4) (fun y hy => (hw y hy).1)
      have hs := join_sum (m := 4) (fun y hy => (hw y hy).1)
      have e1 : (" " : Str).length = 1 := by decide +kernel
      have e2 : ("\n" : Str).length = 1 := by decide +kernel
      rw [e1] at hj
      refine ⟨⟨_, rfl⟩, _, rfl, _, p, ws, rfl, rfl, .inl (SqL.of hp), by rw [e1]; omega, ?_⟩
      generalize Txt.join " " ws = t at ha hj ⊢
      have ht : t.length ≤ 30 := by omega
      refine ⟨_, rfl, _, rfl, _, rfl, sz100 (by omega), _, _, rfl, rfl, b, _, n + 31, rfl, x2, by omega, by omega, by omega, fun d6 H6 l6 u6 x6 k6 => ?_⟩
      have c1 := cut_len t none (some d6)
      have c3 := cut_len t (some d6) none
      have a1 := app_len (cutS t none (some d6)) " "
      have a2 := app_len (cutS t none (some d6) ++ " ") (cutS t (some d6) none)
      have a3 := app_len (cutS t none (some d6)) "\n"
      have a4 := app_len (cutS t none (some d6) ++ "\n") (cutS t (some d6) none)
      have a5 := app_len " " t
      have a6 := app_len t " "
      refine ⟨_, rfl, _, rfl, _, rfl, _, rfl, _, _, rfl, rfl, sz100 (by omega), _, rfl, _, _, rfl, rfl, sz100 (by omega), ?_⟩
      refine ⟨_, rfl, _, rfl, _, rfl, _, rfl, sz100 (by omega), _, _, rfl, rfl, sz100 (by omega), _, rfl, _, rfl, _, rfl, _, rfl, sz100 (by omega), _, _, rfl, rfl, sz100 (by omega), ?_⟩
      refine ⟨_, rfl, _, rfl, _, rfl, _, rfl, sz100 (by omega), _, _, rfl, rfl, sz100 (by omega), _, rfl, _, rfl, _, rfl, _, rfl, sz100 (by omega), _, _, rfl, rfl, sz100 (by omega), ?_⟩
      refine ⟨(by show 8 ≤ sizeLine; decide), fun p2 np2 => ?_⟩
      refine ⟨_, rfl, _, rfl, b, _, n + 32, rfl, x6.new np2, by omega, by decide, by decide, fun d8 H8 l8 u8 x8 k8 => ?_⟩
      obtain ⟨y, hy, ey⟩ := atI_strs (zs := [t, t, t, " " ++ t, t ++ " ", (cutS t none (some d6) ++ " ") ++ cutS t (some d6) none, (cutS t none (some d6) ++ "\n") ++ cutS t (some d6) none, ""]) (i := d8) l8 u8
      obtain ⟨hy1, hy2⟩ : y.length ≤ 90 ∧ Asc y := by
        simp only [List.mem_cons, List.not_mem_nil, or_false] at hy
        rcases hy with rfl | rfl | rfl | rfl | rfl | rfl | rfl | rfl
        · exact ⟨by omega, ha⟩
        · exact ⟨by omega, ha⟩
        · exact ⟨by omega, ha⟩
        · exact ⟨by omega, asc_app asc_blank ha⟩
        · exact ⟨by omega, asc_app ha asc_blank⟩
        · exact ⟨by omega, asc_app (asc_app (asc_cut _ _ ha) asc_blank) (asc_cut _ _ ha)⟩
        · exact ⟨by omega, asc_app (asc_app (asc_cut _ _ ha) asc_nl) (asc_cut _ _ ha)⟩
        · exact ⟨by decide +kernel, asc_empty⟩
      have hp8 : H8 p2 = some (.lst ([t, t, t, " " ++ t, t ++ " ", (cutS t none (some d6) ++ " ") ++ cutS t (some d6) none, (cutS t none (some d6) ++ "\n") ++ cutS t (some d6) none, ""].map V.str)) := k8 p2 _ upd_same (x6.ne np2)
      exact ⟨p2, _, _, .str y, rfl, rfl, SqL.of hp8, ey, q _ _ hy1 hy2 (x8.mono (by omega)) (((k2.trans k6).trans (Kp.new np2)).trans k8)⟩
end
end K02
set_option Elab.async false
set_option linter.all false
set_option maxRecDepth 100000
set_option pp.maxSteps 1500
namespace K02
open PySem PySem.Spec PyProof.Rows L2 CaV CaL TL
abbrev s_init : Stmt := inClass (topS 5) 0
abbrev N_init : List Str := ["self", "value"]
theorem sc_init : FnScope N_init ["self", "value"] (defScope s_init) := ⟨rfl, rfl, rfl, by decide +kernel, rfl, by decide +kernel, by decide +kernel⟩
abbrev s_law : Stmt := topS 15
abbrev N_law : List Str := ["_law_script", "_law_k", "_law_box_here", "_law_turn", "_law_text_here", "_law_value_here", "_law_near", "_law_least", "_law_most", "_law_line_here", "_law_again", "_law_found", "_law_odd"]
theorem sc_law : FnScope N_law ["_law_script"] (defScope s_law) := ⟨rfl, rfl, rfl, by decide +kernel, rfl, by decide +kernel, by decide +kernel⟩
theorem joinL_mem {S p : List Nat} : ∀ {ps : List (List Nat)}, p ∈ ps → p.length ≤ (joinL S ps).length ∧ ∀ c ∈ p, c ∈ joinL S ps
  | [], h => (List.not_mem_nil h).elim
  | [q], h => by
    rw [List.mem_singleton.mp h]
    exact ⟨Nat.le_refl _, fun c hc => hc⟩
  | q :: r :: t, h => by
    show p.length ≤ (q ++ (S ++ joinL S (r :: t))).length ∧ ∀ c ∈ p, c ∈ q ++ (S ++ joinL S (r :: t))
    rw [List.length_append, List.length_append]
    rcases List.mem_cons.mp h with rfl | h
    · exact ⟨by omega, fun c hc => List.mem_append.mpr (.inl hc)⟩
    · obtain ⟨i1, i2⟩ := joinL_mem (S := S) h
      exact ⟨by omega, fun c hc => List.mem_append.mpr (.inr (List.mem_append.mpr (.inr (i2 c hc))))⟩
theorem words_ok {z : Str} {ws : List Str} (h : wordsS z = some ws) (hz : z.length ≤ 90) (ha : Asc z) : ws.length ≤ 92 ∧ ∀ y ∈ ws, y.length ≤ 90 ∧ Asc y := by
  have e : ws = Txt.split z " " := by
    unfold wordsS at h
    split at h
    · cases h
    · split at h
      · cases h
      · exact (Option.some.inj h).symm
  subst e
  have j : tl z = joinL (tl " ") ((Txt.split z " ").map tl) := by
    rw [← tl_join, PySem.StrLaws.join_split]
  refine ⟨Nat.le_trans (PyProof.Rows.split_le z " ") (by omega), fun y hy => ?_⟩
  obtain ⟨i1, i2⟩ := joinL_mem (S := tl " ") (List.mem_map_of_mem (f := tl) hy)
  rw [← j] at i1 i2
  rw [← len_tl, ← len_tl] at i1
  exact ⟨by omega, fun c hc => ha c (i2 c hc)⟩
theorem shown_all : ∀ ws : List Str, PyData.shownAll (ws.map PyData.str) = ws.map reprText
  | [] => by simp [PyData.shownAll]
  | w :: r => by
    rw [List.map_cons, List.map_cons]
    unfold PyData.shownAll
    rw [shown_all r]
    rfl
theorem showable_all : ∀ ws : List Str, PyData.showableAll (ws.map PyData.str) = true ∧ PyData.hasDictAll (ws.map PyData.str) = false ∧ PyData.depthAll (ws.map PyData.str) = 0
  | [] => by simp [PyData.showableAll, PyData.hasDictAll, PyData.depthAll]
  | w :: r => by
    obtain ⟨h1, h2, h3⟩ := showable_all r
    rw [List.map_cons]
    unfold PyData.showableAll PyData.hasDictAll PyData.depthAll
    rw [h1, h2, h3]
    simp [PyData.showable, PyData.hasDict, PyData.depth]
theorem sum_le {m : Nat} : ∀ {l : List Str}, (∀ y ∈ l, y.length ≤ m) → (l.map (·.length)).sum ≤ l.length * m
  | [], _ => by simp
  | y :: r, h => by
    have z := sum_le (fun x hx => h x (List.mem_cons_of_mem _ hx))
    have z2 := h y List.mem_cons_self
    rw [List.map_cons, List.sum_cons, List.length_cons, Nat.succ_mul]
    omega
theorem shown_words {ws : List Str} (h : ws.length ≤ 92 ∧ ∀ y ∈ ws, y.length ≤ 90 ∧ Asc y) : (PyData.list (ws.map PyData.str)).showable = true ∧ (PyData.list (ws.map PyData.str)).hasDict = false ∧ (PyData.list (ws.map PyData.str)).depth ≤ 60 ∧ (PyData.list (ws.map PyData.str)).shown.length ≤ sizeLine := by
  obtain ⟨h1, h2, h3⟩ := showable_all ws
  refine ⟨by unfold PyData.showable; exact h1, by unfold PyData.hasDict; exact h2, by unfold PyData.depth; rw [h3]; decide, ?_⟩
  unfold PyData.shown
  rw [shown_all]
  refine Nat.le_trans (listText_len_le _) ?_
  have z := sum_le (m := 1000) (l := ws.map reprText) (fun y hy => by
    obtain ⟨x, hx, rfl⟩ := List.mem_map.mp hy
    obtain ⟨a1, a2⟩ := h.2 x hx
    have r := StrLaws.reprText_len x (fun c hc => Nat.lt_trans (a2 c hc) (by decide))
    omega)
  rw [List.length_map] at z ⊢
  have := h.1
  exact Nat.le_trans (show _ ≤ 100000 by omega) (by decide)
/-- 5 if v is None else v -/
theorem near_two {σ : L2.St} {H : Hp} {Q : VK} {l : List Nat} (hl : l.length ≤ 100) (h5 : σ[5]? = some (some (optV (valI l)))) (q : ∀ near : Int, near.natAbs < 2 ^ 800 → Q (.int near) H) :
    tIf (tTest (tOp (fun x y H Q => y = .non ∧ Q (.bl (decide (x = .non))) H) (tVar 5) (tC .non))) (tC (.int 5)) (tVar 5) σ H Q := by
  unfold valI at h5
  cases e : valL l with
  | none =>
    rw [e] at h5
    exact ⟨_, h5, rfl, _, rfl, iteT (q 5 (by decide +kernel))⟩
  | some v =>
    rw [e] at h5
    refine ⟨_, h5, rfl, _, rfl, iteF ⟨_, h5, q v ?_⟩⟩
    unfold valL at e
    split at e
    · rename_i c
      simp only [Bool.and_eq_true] at c
      have e := Option.some.inj e
      subst e
      rw [Int.natAbs_natCast]
      exact Nat.lt_of_lt_of_le (val_lt (all_dig c.1.1)) (Nat.le_trans (Nat.pow_le_pow_right (by decide) hl) (by decide +kernel))
    · cases e
theorem oddN_at {K : PySem.W.Frag} {H : Hp} {x : V} {t : String} (h : TyX K H x (.type t)) (e : kitB t "str" = some false) : OddN K H x := ⟨_, .inl h, kit_ty e⟩
section
variable {P : Program} {w : World} {K : PySem.W.Frag} {mg : Str → Option Value} {base : Heap}
theorem ok_init {f C fI : Addr} {fd : FuncData} {k : Nat} (F : Fun K "__init__" "InvalidName.__init__" s_init f fd) (X : TX K mg C fI) : FnOk P w K mg base CX0 (k + 1) f fd ["self", "value"] (spInit C) := by
  refine F.ok sc_init (fun vs H Q E h => ?_) (fun cdv A outer s H vs Q E hr h => ?_)
  · obtain ⟨a, v, rfl, _⟩ := h
    rfl
  · obtain ⟨a, v, rfl, ha, q⟩ := h
    exact ⟨_, pss_one (ps_ost (pv 0) (pv 1)), _, rfl, _, rfl, a, C, rfl, X.ox, X.no, .inl ⟨ha, q⟩⟩
theorem ok_law {f C fI f_parse_integer f_split_words f_l_cell f_l_box f_l_take f_l_text f_l_value f_l_number_right f_l_words f_l_line : Addr} {fd fdI fd_parse_integer fd_split_words fd_l_cell fd_l_box fd_l_take fd_l_text fd_l_value fd_l_number_right fd_l_words fd_l_line : FuncData} {kws : List (Str × V)} {ds mv1 mv2 : List Value}
    (F : Fun K "law" "law" s_law f fd) (T : TC mg) (n_max : mg "max" = none) (n_min : mg "min" = none) (n_range : mg "range" = none) (n_repr : mg "repr" = none) (X : TX K mg C fI) (FI : Fun K "__init__" "InvalidName.__init__" s_init fI fdI) (bI : Binds K fdI ["self", "value"] [])
    (F_parse_integer : FunD K "parse_integer" "parse_integer" (defArgs s_parse_integer) (defBody s_parse_integer) (defScope s_parse_integer) [] kws f_parse_integer fd_parse_integer) (gl_parse_integer : mg "parse_integer" = some (.ref f_parse_integer))
    (kb_parse_integer_low_high : KBn K fd_parse_integer ["text", "low", "high"] 1 ["low", "high"] (fun us ws => us ++ (ws ++ mv1)) (fun vs zs => vs ++ (zs ++ [])))
    (kb_parse_integer_low : KBn K fd_parse_integer ["text", "low", "high"] 1 ["low"] (fun us ws => us ++ (ws ++ mv2)) (fun vs zs => vs ++ (zs ++ [.int 999]))) (vd : Vals [.int 0, .int 999] ds) (b_parse_integer : Binds K fd_parse_integer ["text", "low", "high"] ds)
    (F_split_words : Fun K "split_words" "split_words" s_split_words f_split_words fd_split_words) (b_split_words : Binds K fd_split_words ["text"] []) (gl_split_words : mg "split_words" = some (.ref f_split_words))
    (F_l_cell : Fun K "_law_cell" "_law_cell" s_l_cell f_l_cell fd_l_cell) (b_l_cell : Binds K fd_l_cell ["_law_script", "_law_k"] []) (gl_l_cell : mg "_law_cell" = some (.ref f_l_cell))
    (F_l_box : Fun K "_law_box" "_law_box" s_l_box f_l_box fd_l_box) (b_l_box : Binds K fd_l_box ["_law_cell_here"] []) (gl_l_box : mg "_law_box" = some (.ref f_l_box))
    (F_l_take : Fun K "_law_take" "_law_take" s_l_take f_l_take fd_l_take) (b_l_take : Binds K fd_l_take ["_law_box_here", "_law_many"] []) (gl_l_take : mg "_law_take" = some (.ref f_l_take))
    (F_l_text : Fun K "_law_text" "_law_text" s_l_text f_l_text fd_l_text) (b_l_text : Binds K fd_l_text ["_law_box_here"] []) (gl_l_text : mg "_law_text" = some (.ref f_l_text))
    (F_l_value : Fun K "_law_value" "_law_value" s_l_value f_l_value fd_l_value) (b_l_value : Binds K fd_l_value ["_law_text_here"] []) (gl_l_value : mg "_law_value" = some (.ref f_l_value))
    (F_l_number_right : Fun K "_law_number_right" "_law_number_right" s_l_number_right f_l_number_right fd_l_number_right) (b_l_number_right : Binds K fd_l_number_right ["_law_text_here", "_law_least", "_law_most"] []) (gl_l_number_right : mg "_law_number_right" = some (.ref f_l_number_right))
    (F_l_words : Fun K "_law_words" "_law_words" s_l_words f_l_words fd_l_words) (b_l_words : Binds K fd_l_words ["_law_text_here"] []) (gl_l_words : mg "_law_words" = some (.ref f_l_words))
    (F_l_line : Fun K "_law_line" "_law_line" s_l_line f_l_line fd_l_line) (b_l_line : Binds K fd_l_line ["_law_box_here"] []) (gl_l_line : mg "_law_line" = some (.ref f_l_line)) :
    CaG.FnG P w K mg base 4 f fd ["_law_script"] (spLaw K) := by
  have n_len := T.n_len
  have TBx : TB mg := ⟨T.n_len, n_max⟩
  have GI : FnOk P w K mg base CX0 1 fI fdI ["self", "value"] (spInit C) := ok_init FI X
  have G_parse_integer : FnOk P w K mg base CX0 1 f_parse_integer fd_parse_integer ["text", "low", "high"] (spParse K) := ok_parse F_parse_integer T
  have G_split_words : FnOk P w K mg base CX0 1 f_split_words fd_split_words ["text"] (spSplit K) := ok_split F_split_words T
  have G_l_cell : FnOk P w K mg base CX0 1 f_l_cell fd_l_cell ["_law_script", "_law_k"] (spCell K) := ok_cell F_l_cell TBx
  have G_l_box : FnOk P w K mg base CX0 1 f_l_box fd_l_box ["_law_cell_here"] spBox := ok_box F_l_box TBx
  have G_l_take : FnOk P w K mg base CX0 1 f_l_take fd_l_take ["_law_box_here", "_law_many"] spTake := ok_take F_l_take
  have G_l_text : FnOk P w K mg base CX0 2 f_l_text fd_l_text ["_law_box_here"] spText := ok_text F_l_text F_l_take b_l_take gl_l_take T.n_str T.n_len
  have G_l_value : FnOk P w K mg base CX0 1 f_l_value fd_l_value ["_law_text_here"] spValue := ok_value F_l_value
  have G_l_number_right : FnOk P w K mg base CX0 2 f_l_number_right fd_l_number_right ["_law_text_here", "_law_least", "_law_most"] spRight := ok_right F_l_number_right T n_repr F_l_value b_l_value gl_l_value F_parse_integer gl_parse_integer kb_parse_integer_low_high kb_parse_integer_low vd b_parse_integer
  have G_l_words : FnOk P w K mg base CX0 1 f_l_words fd_l_words ["_law_text_here"] spWords := ok_words F_l_words
  have G_l_line : FnOk P w K mg base CX0 2 f_l_line fd_l_line ["_law_box_here"] spText := ok_line F_l_line F_l_take b_l_take gl_l_take n_range T.n_len
  refine CaG.FnG.of F sc_law (fun vs H Q E h => ?_) (fun cdv A outer s H vs Q E quiet hr h => ?_)
  · obtain ⟨a, ns, rfl, _⟩ := h
    rfl
  · obtain ⟨a, ns, rfl, hS, hlen, q⟩ := h
    refine ⟨_, (pss_cons (ps_for PassesOwn.never rfl (pi_range1 (by rfl) n_range (pa_cons (pe_callB (call_max2 rfl) (by rfl) n_max (by decide +kernel) (pa_cons pe_int (pa_cons (pe_callB (call_min2 rfl) (by rfl) n_min (by decide +kernel) (pa_cons pe_int (pa_cons (pe_callB call_len_seq (by rfl) n_len PySem.boot_len (pa_cons (pv 0) pa_nil)) pa_nil))) pa_nil))) pa_nil)) (pg_name (i := 1) sc_law.nd rfl (.inl rfl))
      (pss_cons (ps_set (i := 2) sc_law.nd rfl (.inl rfl) (pe_call G_l_box (hr.mono (by omega)) (by rfl) gl_l_box F_l_box.kp b_l_box .nil pass0 (pa_cons (pe_call G_l_cell (hr.mono (by omega)) (by rfl) gl_l_cell F_l_cell.kp b_l_cell .nil pass0 (pa_cons (pv 0) (pa_cons (pv 1) pa_nil))) pa_nil)))
      (pss_cons (ps_for PassesOwn.never rfl (pi_range1 (by rfl) n_range (pa_cons pe_int pa_nil)) (pg_name (i := 3) sc_law.nd rfl (.inl rfl))
        (pss_cons (ps_set (i := 4) sc_law.nd rfl (.inl rfl) (pe_call G_l_text (hr.mono (by omega)) (by rfl) gl_l_text F_l_text.kp b_l_text .nil pass0 (pa_cons (pv 2) pa_nil)))
        (pss_cons (ps_set (i := 5) sc_law.nd rfl (.inl rfl) (pe_call G_l_value (hr.mono (by omega)) (by rfl) gl_l_value F_l_value.kp b_l_value .nil pass0 (pa_cons (pv 4) pa_nil)))
        (pss_cons (ps_set (i := 6) sc_law.nd rfl (.inl rfl) (pe_ifExp (pt_cmpR op_isN (pv 5) pe_non (nomark _)) pe_int (pv 5)))
        (pss_cons (ps_set (i := 7) sc_law.nd rfl (.inl rfl) (pe_ix ix_list (pe_lst (pa_cons pe_int (pa_cons (pe_op op_sub (pv 6) pe_int) (pa_cons (pv 6) (pa_cons (pe_op op_add (pv 6) pe_int) (pa_cons (pe_un un_neg pe_int) pa_nil)))))) (pe_call G_l_take (hr.mono (by omega)) (by rfl) gl_l_take F_l_take.kp b_l_take .nil pass0 (pa_cons (pv 2) (pa_cons pe_int pa_nil))) (fun _ _ => rfl)))
        (pss_cons (ps_set (i := 8) sc_law.nd rfl (.inl rfl) (pe_ix ix_list (pe_lst (pa_cons (pv 6) (pa_cons (pe_op op_sub (pv 6) pe_int) (pa_cons (pe_op op_add (pv 6) pe_int) (pa_cons (pe_op op_pow pe_int pe_int) (pa_cons pe_int pa_nil)))))) (pe_call G_l_take (hr.mono (by omega)) (by rfl) gl_l_take F_l_take.kp b_l_take .nil pass0 (pa_cons (pv 2) (pa_cons pe_int pa_nil))) (fun _ _ => rfl)))
        (pss_cons (ps_if (pt_not (pt_val (pe_call G_l_number_right (hr.mono (by omega)) (by rfl) gl_l_number_right F_l_number_right.kp b_l_number_right .nil pass0 (pa_cons (pv 4) (pa_cons (pv 7) (pa_cons (pv 8) pa_nil))))))
          (pss_one (ps_ret pe_bl))
          pss_nil)
        (pss_cons (ps_set (i := 9) sc_law.nd rfl (.inl rfl) (pe_call G_l_line (hr.mono (by omega)) (by rfl) gl_l_line F_l_line.kp b_l_line .nil pass0 (pa_cons (pv 2) pa_nil)))
        (pss_one (ps_for PassesOwn.never rfl (pi_range1 (by rfl) n_range (pa_cons pe_int pa_nil)) (pg_name (i := 10) sc_law.nd rfl (.inl rfl))
          (pss_cons (ps_set (i := 11) sc_law.nd rfl (.inl rfl) (pe_call G_split_words (hr.mono (by omega)) (by rfl) gl_split_words F_split_words.kp b_split_words .nil pass0 (pa_cons (pv 9) pa_nil)))
          (pss_cons (ps_if (pt_cmpR op_ne (pe_callB (CaG.call_reprD quiet hr.units) (by rfl) n_repr (by decide +kernel) (pa_cons (pv 11) pa_nil)) (pe_callB (CaG.call_reprD quiet hr.units) (by rfl) n_repr (by decide +kernel) (pa_cons (pe_call G_l_words (hr.mono (by omega)) (by rfl) gl_l_words F_l_words.kp b_l_words .nil pass0 (pa_cons (pv 9) pa_nil)) pa_nil)) (nomark _))
            (pss_one (ps_ret pe_bl))
            pss_nil)
          (pss_one (ps_if (pt_cmpR op_notN (pv 11) pe_non (nomark _))
            (pss_one (ps_expr (pe_bm PySem.F.plainAttrs_list PySem.F.slot_list_append PySem.F.type_list_append mt_append (pv 11) (pa_cons pe_str pa_nil))))
            pss_nil))))))))))))))
      (pss_one (ps_for PassesOwn.never rfl (pi_list (pe_lst (pa_cons pe_non (pa_cons pe_int (pa_cons pe_bl (pa_cons (pe_lst (pa_cons pe_str pa_nil)) (pa_cons (pe_tup (pa_cons pe_str pa_nil)) (pa_cons pe_dnewK (pa_cons (pe_disp (pps_cons pe_str pe_int pps_nil) (by rfl) (by rfl) (fun z => by cases z) (by decide)) (pa_cons (pe_lst (pa_cons pe_str (pa_cons pe_str pa_nil))) (pa_cons (pe_of_mk (pmk_oex X.ox X.iC X.tI GI (hr.mono (by omega)) bI .nil pass0 (by rfl) X.gC (pa_cons pe_str pa_nil))) pa_nil))))))))))) (pg_name (i := 12) sc_law.nd rfl (.inl rfl))
        (pss_one (ps_if (PW.pt (pw_or (pt_cmpR op_notN (pe_callN G_parse_integer (hr.mono (by omega)) (by rfl) gl_parse_integer F_parse_integer.kp kb_parse_integer_low_high pass0 (pa_cons (pv 12) pa_nil) (pk_cons pe_int (pk_cons pe_int pk_nil))) pe_non (nomark _)) (pw_or1 (pt_cmpR op_notN (pe_call G_split_words (hr.mono (by omega)) (by rfl) gl_split_words F_split_words.kp b_split_words .nil pass0 (pa_cons (pv 12) pa_nil)) pe_non (nomark _)))))
          (pss_one (ps_ret pe_bl))
          pss_nil)))))))
    (pss_one (ps_ret pe_bl))), ?_⟩
    refine ⟨_, rfl, a, _, rfl, .inl hS, _, _, rfl, _, _, rfl, ?_⟩
    generalize hj : (if (if ((List.map V.int ns).length : Int) < 20 then ((List.map V.int ns).length : Int) else 20) > 1 then (if ((List.map V.int ns).length : Int) < 20 then ((List.map V.int ns).length : Int) else 20) else 1) = j
    have hj1 : 1 ≤ j ∧ j ≤ 30 := by
      rw [← hj]
      split <;> (try split) <;> omega
    refine ⟨j, rfl, by omega, by omega, ?_⟩
    refine for_range (lo := 0) (n := j.toNat) (fun i σ H1 => ∃ v1 v2 v3 v4 v5 v6 v7 v8 v9 v10 v11 v12, σ = [some (.ref a), v1, v2, v3, v4, v5, v6, v7, v8, v9, v10, v11, v12] ∧ Same H H1) ⟨none, none, none, none, none, none, none, none, none, none, none, none, rfl, Same.refl H⟩ ?_ ?_
    · rintro i σ H0 hi ⟨v1, v2, v3, v4, v5, v6, v7, v8, v9, v10, v11, v12, rfl, s0⟩
      refine ⟨_, rfl, _, rfl, a, ns, 0 + (i : Int), rfl, s0.seq hS, by omega, fun x => ?_⟩
      refine ⟨x, rfl, fun b H1 nb s1 bx => ?_⟩
      have S1 : Same H H1 := s0.trans s1
      have nbH : H b = none := s0.free nb
      -- three turns
      refine ⟨3, rfl, by decide, by decide, for_range (lo := 0) (n := 3) (fun i3 σ H2 => ∃ v3 v4 v5 v6 v7 v8 v9 v10 v11, σ = [some (.ref a), some (.int (0 + (i : Int))), some (.ref b), v3, v4, v5, v6, v7, v8, v9, v10, v11, v12] ∧ Same H H2 ∧ Bx H2 b (200 * i3)) ⟨v3, v4, v5, v6, v7, v8, v9, v10, v11, rfl, S1, bx⟩ ?_ ?_⟩
      · rintro i3 σ H2 hi3 ⟨v3, v4, v5, v6, v7, v8, v9, v10, v11, rfl, S2, bx2⟩
        refine ⟨_, rfl, b, _, rfl, bx2, by omega, fun t H3 ht ha bx3 k3 => ?_⟩
        have S3 := k3.same S2 nbH
        have hll : (tl t).length ≤ 100 := by
          rw [← len_tl]
          omega
        refine ⟨_, rfl, t, rfl, by omega, ha, fun H4 s4 => ?_⟩
        refine near_two hll rfl fun near hnear => ?_
        have S4 := S3.trans s4
        have bx4 := bx3.same s4
        have lim : (2 : Nat) ^ 801 = 2 ^ 800 * 2 := by decide +kernel
        have big : (100000000000000000000000000000 : Nat) < 2 ^ 800 := by decide +kernel
        have one : (2 : Nat) ≤ 2 ^ 800 := by decide +kernel
        -- least
        refine ⟨_, rfl, _, _, rfl, rfl, _, rfl, _, rfl, _, _, rfl, rfl, _, rfl, (by show 5 ≤ sizeLine; decide), fun p np => ?_⟩
        refine ⟨_, rfl, b, _, _, rfl, bx4.new np, by omega, by decide, by decide, fun d1 H5 l1 u1 bx5 k5 => ?_⟩
        obtain ⟨v, hv, e1⟩ := atI_in (xs := [V.int 0, .int (near - 1), .int near, .int (near + 1), .int (-3)]) (i := d1) l1 (by simpa using u1)
        obtain ⟨least, rfl⟩ : ∃ least : Int, v = .int least := by
          simp only [List.mem_cons, List.not_mem_nil, or_false] at hv
          rcases hv with rfl | rfl | rfl | rfl | rfl <;> exact ⟨_, rfl⟩
        have hp5 : H5 p = some (.lst [V.int 0, .int (near - 1), .int near, .int (near + 1), .int (-3)]) := k5 p _ upd_same (bx4.ne np)
        have S5 := ((Kp.new np).trans k5).same S4 nbH
        refine ⟨p, _, _, .int least, rfl, rfl, SqL.of hp5, e1, ?_⟩
        -- most
        refine ⟨_, rfl, _, rfl, _, _, rfl, rfl, _, rfl, _, _, rfl, rfl, _, _, rfl, rfl, ⟨by decide, by decide, by decide⟩, (by show 5 ≤ sizeLine; decide), fun p2 np2 => ?_⟩
        refine ⟨_, rfl, b, _, _, rfl, bx5.new np2, by omega, by decide, by decide, fun d2 H6 l2 u2 bx6 k6 => ?_⟩
        obtain ⟨v', hv', e2⟩ := atI_in (xs := [V.int near, .int (near - 1), .int (near + 1), .int (10 ^ (29 : Int).toNat), .int 0]) (i := d2) l2 (by simpa using u2)
        have e29 : (10 : Int) ^ (29 : Int).toNat = 100000000000000000000000000000 := by decide +kernel
        obtain ⟨most, rfl, hmost⟩ : ∃ most : Int, v' = .int most ∧ most.natAbs < 2 ^ 801 := by
          simp only [List.mem_cons, List.not_mem_nil, or_false] at hv'
          rw [lim]
          generalize (2 : Nat) ^ 800 = M at hnear big one ⊢
          rcases hv' with rfl | rfl | rfl | rfl | rfl
          · exact ⟨_, rfl, by omega⟩
          · exact ⟨_, rfl, by omega⟩
          · exact ⟨_, rfl, by omega⟩
          · exact ⟨_, rfl, by rw [e29]; omega⟩
          · exact ⟨_, rfl, by omega⟩
        have hp6 : H6 p2 = some (.lst [V.int near, .int (near - 1), .int (near + 1), .int (10 ^ (29 : Int).toNat), .int 0]) := k6 p2 _ upd_same (bx5.ne np2)
        have S6 := ((Kp.new np2).trans k6).same S5 nbH
        refine ⟨p2, _, _, .int most, rfl, rfl, SqL.of hp6, e2, ?_⟩
        have hml : most.natAbs.log2 < 1900 := Nat.lt_of_lt_of_le (PySem.Flt.log2_lt_of (k := 801) (by decide) hmost) (by decide)
        -- the number is right
        refine ⟨_, rfl, _, rfl, _, rfl, t, least, most, rfl, by omega, ha, hml, fun H7 s7 => ⟨_, rfl, ifn rfl ?_⟩⟩
        have S7 := S6.trans s7
        have bx7 := bx6.same s7
        -- the line
        refine ⟨_, rfl, b, _, rfl, bx7, by omega, fun z H8 hz hza bx8 k8 => ?_⟩
        have S8 := k8.same S7 nbH
        have bx8 := bx8.mono (k := 200 * (i3 + 1)) (by omega)
        refine ⟨2, rfl, by decide, by decide, for_range (lo := 0) (n := 2) (fun i4 σ H9 => ∃ v10 v11, σ = [some (.ref a), some (.int (0 + (i : Int))), some (.ref b), some (.int (0 + (i3 : Int))), some (.str t), some (optV (valI (tl t))), some (.int near), some (.int least), some (.int most), some (.str z), v10, v11, v12] ∧ Same H H9 ∧ Bx H9 b (200 * (i3 + 1))) ⟨v10, v11, rfl, S8, bx8⟩ ?_ ?_⟩
        · rintro i4 σ H9 hi4 ⟨v10, v11, rfl, S9, bx9⟩
          refine ⟨_, rfl, .inl ⟨z, rfl, by omega, fun en H10 s10 => ?_, fun ws ew p3 H10 np3 s10 hp3 => ?_⟩⟩
          · -- no words
            have S10 := S9.trans s10
            have bx10 := bx9.same s10
            refine ⟨_, rfl, _, .none, rfl, .non, rfl, rfl, by decide, by decide +kernel, ?_⟩
            refine ⟨_, rfl, z, rfl, by omega, fun _ H11 s11 => ?_, fun ws ew => by rw [en] at ew; cases ew⟩
            refine ⟨_, .none, rfl, .non, rfl, rfl, by decide, by decide +kernel, rfl, _, rfl, ?_⟩
            rw [decide_eq_true rfl]
            refine iteF ?_
            refine ⟨_, rfl, rfl, _, rfl, ?_⟩
            rw [decide_eq_true rfl]
            refine iteF ?_
            exact ⟨_, _, rfl, S10.trans s11, bx10.same s11⟩
          · -- words
            have S10 := S9.trans s10
            have bx10 := bx9.same s10
            have hw := words_ok ew (by omega) hza
            obtain ⟨w1, w2, w3, w4⟩ := shown_words hw
            refine ⟨_, rfl, _, _, rfl, .lst (SqL.of hp3) (dp_strs ws), w1, w2, w3, w4, ?_⟩
            refine ⟨_, rfl, z, rfl, by omega, (fun en => by rw [en] at ew; cases ew), fun ws2 ew2 p4 H11 np4 s11 hp4 => ?_⟩
            have ee : ws2 = ws := by
              rw [ew] at ew2
              exact (Option.some.inj ew2).symm
            subst ee
            refine ⟨_, _, rfl, .lst (SqL.of hp4) (dp_strs ws2), w1, w2, w3, w4, rfl, _, rfl, ?_⟩
            rw [decide_eq_true rfl]
            refine iteF ?_
            have S11 := S10.trans s11
            have bx11 := bx10.same s11
            have hp3' := s11 _ _ hp3
            refine ⟨_, rfl, rfl, _, rfl, ?_⟩
            refine iteT ?_
            refine ⟨_, rfl, .inl ⟨rfl, _, SqL.of hp3'⟩, p3, _, _, rfl, rfl, hp3', ?_, ?_⟩
            · rw [List.length_map]
              exact Nat.lt_of_le_of_lt (show ws2.length ≤ 1000 by have := hw.1; omega) (by decide)
            · have n3 : H p3 = none := S9.free np3
              have n3b : p3 ≠ b := bx9.ne np3
              refine ⟨_, _, rfl, fun c o e => ?_, ?_⟩
              · rw [upd_ne (ne_of_none e n3)]
                exact S11 c o e
              · obtain ⟨m, r, c', f1, f2⟩ := bx11
                exact ⟨m, r, c', by rw [upd_ne n3b.symm]; exact f1, f2⟩
        · rintro σ H9 ⟨v10, v11, rfl, S9, bx9⟩
          exact ⟨_, _, _, _, _, _, _, _, _, rfl, S9, bx9⟩
      · rintro σ H2 ⟨v3, v4, v5, v6, v7, v8, v9, v10, v11, rfl, S2, bx2⟩
        -- odd things
        refine ⟨(by show 1 ≤ sizeLine; decide), fun q1 n1 => ?_⟩
        have a1 : (upd H2 q1 (.lst [V.str "5"])) q1 = some (.lst [V.str "5"]) := upd_same
        have S2 := S2.trans (same_new (o := .lst [V.str "5"]) n1)
        generalize upd H2 q1 (.lst [V.str "5"]) = A1 at a1 S2 ⊢
        refine ⟨(by show 1 ≤ sizeLine; decide), fun q2 n2 => ?_⟩
        have a2 : (upd A1 q2 (.tup [V.str "5"])) q2 = some (.tup [V.str "5"]) := upd_same
        have c2 := same_new (o := .tup [V.str "5"]) n2
        have a1 := c2 _ _ a1
        have S2 := S2.trans c2
        generalize upd A1 q2 (.tup [V.str "5"]) = A2 at a1 a2 S2 ⊢
        clear c2
        refine fun q3 n3 => ?_
        have a3 : (upd A2 q3 (.dK [])) q3 = some (.dK []) := upd_same
        have c3 := same_new (o := .dK []) n3
        have a1 := c3 _ _ a1
        have a2 := c3 _ _ a2
        have S2 := S2.trans c3
        generalize upd A2 q3 (.dK []) = A3 at a1 a2 a3 S2 ⊢
        clear c3
        refine fun q4 n4 => ⟨upd_same, [(Sum.inr "5", .int 5)], rfl, (by show 1 ≤ 15; decide), ?_⟩
        have a4 : (upd (upd A3 q4 (.dK [])) q4 (.dK (mergeK [] [(Sum.inr "5", .int 5)]))) q4 = some (.dK (mergeK [] [(Sum.inr "5", .int 5)])) := upd_same
        have c4 := same_put (o := .dK []) (o' := .dK (mergeK [] [(Sum.inr "5", .int 5)])) n4
        have a1 := c4 _ _ a1
        have a2 := c4 _ _ a2
        have a3 := c4 _ _ a3
        have S2 := S2.trans c4
        generalize upd (upd A3 q4 (.dK [])) q4 (.dK (mergeK [] [(Sum.inr "5", .int 5)])) = A4 at a1 a2 a3 a4 S2 ⊢
        clear c4
        refine ⟨(by show 2 ≤ sizeLine; decide), fun q5 n5 => ?_⟩
        have a5 : (upd A4 q5 (.lst [V.str "a", .str "b"])) q5 = some (.lst [V.str "a", .str "b"]) := upd_same
        have c5 := same_new (o := .lst [V.str "a", .str "b"]) n5
        have a1 := c5 _ _ a1
        have a2 := c5 _ _ a2
        have a3 := c5 _ _ a3
        have a4 := c5 _ _ a4
        have S2 := S2.trans c5
        generalize upd A4 q5 (.lst [V.str "a", .str "b"]) = A6 at a1 a2 a3 a4 a5 S2 ⊢
        clear c5
        refine ⟨by decide, fun e0 m0 => ⟨e0, _, rfl, upd_same, fun dx ndx nex => ⟨rfl, dx, [("value", .str "5")], upd_same, (by rw [upd_ne nex]; exact upd_same), (by rw [upd_ne nex] at ndx; exact ndx), fun ea mea => ?_⟩⟩⟩
        have ndx6 : A6 dx = none := by
          rw [upd_ne nex] at ndx
          exact ndx
        have c7 := same_exc (C := C) (ex := exo e0 C none) (ey := exd dx [("value", .str "5")]) (ez := exo e0 C (some dx)) (ew := .xd [("value", .str "5")]) (eq := exq (.ref C) (some dx) ea) m0 ndx6 mea
        have a7 : ExAt (upd (upd (del (upd (upd (upd A6 e0 (exo e0 C none)) dx (exd dx [("value", .str "5")])) e0 (exo e0 C (some dx))) e0) dx (.xd [("value", .str "5")])) ea (exq (.ref C) (some dx) ea)) C ea := ⟨dx, _, upd_same, by rw [upd_ne (fun z => by rw [z, upd_same] at mea; cases mea)]; exact upd_same⟩
        have a1 := c7 _ _ a1
        have a2 := c7 _ _ a2
        have a3 := c7 _ _ a3
        have a4 := c7 _ _ a4
        have a5 := c7 _ _ a5
        have S2 := S2.trans c7
        generalize (upd (upd (del (upd (upd (upd A6 e0 (exo e0 C none)) dx (exd dx [("value", .str "5")])) e0 (exo e0 C (some dx))) e0) dx (.xd [("value", .str "5")])) ea (exq (.ref C) (some dx) ea)) = A7 at a1 a2 a3 a4 a5 a7 S2 ⊢
        clear c7
        refine ⟨(by show 9 ≤ sizeLine; decide), fun l4 nl4 => ?_⟩
        have e8 : (upd A7 l4 (.lst [V.non, .int 5, .bl true, .ref q1, .ref q2, .ref q3, .ref q4, .ref q5, .ref ea])) l4 = some (.lst [V.non, .int 5, .bl true, .ref q1, .ref q2, .ref q3, .ref q4, .ref q5, .ref ea]) := upd_same
        have c8 := same_new (o := .lst [V.non, .int 5, .bl true, .ref q1, .ref q2, .ref q3, .ref q4, .ref q5, .ref ea]) nl4
        have a1 := c8 _ _ a1
        have a2 := c8 _ _ a2
        have a3 := c8 _ _ a3
        have a4 := c8 _ _ a4
        have a5 := c8 _ _ a5
        have a7 := a7.same c8
        have S2 := S2.trans c8
        generalize upd A7 l4 (.lst [V.non, .int 5, .bl true, .ref q1, .ref q2, .ref q3, .ref q4, .ref q5, .ref ea]) = A8 at a1 a2 a3 a4 a5 a7 e8 S2 ⊢
        clear c8
        refine ⟨l4, rfl, ⟨_, SqL.of e8⟩, for_list (K := K) (a := l4) (xs := [V.non, .int 5, .bl true, .ref q1, .ref q2, .ref q3, .ref q4, .ref q5, .ref ea]) (fun _ σ H' => ∃ v12, σ = [some (.ref a), some (.int (0 + (i : Int))), some (.ref b), v3, v4, v5, v6, v7, v8, v9, v10, v11, v12] ∧ H' = A8) ⟨v12, rfl, rfl⟩ (fun _ σ H' _ ⟨_, _, e⟩ => by rw [e]; exact SqL.of e8) ?_ ?_⟩
        · rintro i2 y σ H' hy ⟨v12', rfl, rfl⟩
          have odd : OddN K H' y := by
            have hm := mem_get hy
            simp only [List.mem_cons, List.not_mem_nil, or_false] at hm
            rcases hm with rfl | rfl | rfl | rfl | rfl | rfl | rfl | rfl | rfl
            · exact oddN_at (.base .non) (by decide +kernel)
            · exact oddN_at (.base (.int _)) (by decide +kernel)
            · exact oddN_at (.base (.bl _)) (by decide +kernel)
            · exact oddN_at (.base (.lst a1)) (by decide +kernel)
            · exact oddN_at (.base (.tup a2)) (by decide +kernel)
            · exact oddN_at (.base (.dK a3)) (by decide +kernel)
            · exact oddN_at (.base (.dK a4)) (by decide +kernel)
            · exact oddN_at (.base (.lst a5)) (by decide +kernel)
            · exact ⟨_, .inr ⟨C, _, rfl, rfl, X.ex, a7⟩, X.ks⟩
          refine ⟨_, rfl, rfl, rfl, _, 0, 9, rfl, .inr ⟨odd, ?_⟩⟩
          refine ⟨rfl, _, rfl, ?_⟩
          rw [decide_eq_true rfl]
          refine iteF ?_
          refine ⟨_, rfl, .inr ⟨_, rfl, odd, ?_⟩⟩
          refine ⟨rfl, _, rfl, ?_⟩
          rw [decide_eq_true rfl]
          refine iteF (A := True) ?_
          exact ⟨_, rfl, rfl⟩
        · rintro σ H' ⟨v12', rfl, rfl⟩
          exact ⟨_, _, _, _, _, _, _, _, _, _, _, _, rfl, S2⟩
    · rintro σ H1 ⟨v1, v2, v3, v4, v5, v6, v7, v8, v9, v10, v11, v12, rfl, s0⟩
      exact q H1
end
end K02
set_option Elab.async false
set_option linter.all false
set_option maxRecDepth 100000
set_option pp.maxSteps 3000
namespace K02
open PySem PySem.Spec PyProof.Rows L2 CaV CaL TL
def kws2 : List (Str × V) := [("low", .int 0), ("high", .int 999)]
section
variable {K : PySem.W.Frag} {f : Addr} {fd : FuncData}
theorem kb_both (F : FunD K "parse_integer" "parse_integer" (defArgs s_parse_integer) (defBody s_parse_integer) (defScope s_parse_integer) [] kws2 f fd) :
    ∃ mv, KBn K fd ["text", "low", "high"] 1 ["low", "high"] (fun us ws => us ++ (ws ++ mv)) (fun vs zs => vs ++ (zs ++ [])) :=
  F.kbinds0 1 ["low", "high"] [] (fun us mv ws => us ++ (ws ++ mv)) (by intro z; cases z) (fun q hq => (List.not_mem_nil hq).elim) (fun r1 r2 r3 => r1.append (r3.append r2))
    fun D doc pm an cdv ct us mv ws l1 l2 l3 => match us, mv, ws, l1, l2, l3 with
      | [_], [], [_, _], _, _, _ => rfl
theorem kb_low (F : FunD K "parse_integer" "parse_integer" (defArgs s_parse_integer) (defBody s_parse_integer) (defScope s_parse_integer) [] kws2 f fd) :
    ∃ mv, KBn K fd ["text", "low", "high"] 1 ["low"] (fun us ws => us ++ (ws ++ mv)) (fun vs zs => vs ++ (zs ++ [.int 999])) :=
  F.kbinds0 1 ["low"] [("high", .int 999)] (fun us mv ws => us ++ (ws ++ mv)) (by intro z; cases z) (fun q hq => by rw [List.mem_singleton.mp hq]; exact List.mem_cons_of_mem _ List.mem_cons_self) (fun r1 r2 r3 => r1.append (r3.append r2))
    fun D doc pm an cdv ct us mv ws l1 l2 l3 => match us, mv, ws, l1, l2, l3 with
      | [_], [_], [_], _, _, _ => ⟨_, _, _, _, _, _, rfl, rfl, rfl⟩
theorem b_plain (F : FunD K "parse_integer" "parse_integer" (defArgs s_parse_integer) (defBody s_parse_integer) (defScope s_parse_integer) [] kws2 f fd) :
    ∃ ds, Vals [.int 0, .int 999] ds ∧ Binds K fd ["text", "low", "high"] ds :=
  F.binds0 1 (by intro z; cases z) rfl
    fun D doc pm an cdv ct us ks l1 l2 => match us, ks, l1, l2 with
      | [_], [_, _], _, _ => ⟨_, _, _, _, _, _, rfl, rfl, ⟨_, _, _, _, _, _, rfl, rfl, rfl⟩⟩
end
end K02
set_option Elab.async false
set_option linter.all false
set_option maxRecDepth 100000
set_option pp.maxSteps 3000
namespace K02
open PySem PySem.Spec PyProof.Rows L2 CaV CaL TL
theorem all_mk {l : PySem.W.OpenLaw} {w : World} {K : PySem.W.Frag} {h : Heap} {mg : Str → Option Value} {fa f0 f1 f2 f3 f4 f5 f6 f7 f8 f9 f10 : Addr} (X : K.In h) (G : h.Ns mainGlobals mg) (hfa : mg "law" = some (.ref fa))
    {od0 an0 od1 an1 od2 an2 od3 an3 od4 an4 od5 an5 od6 an6 od7 an7 od8 an8 od9 an9 od10 an10 : Option Addr} {sl0 sl1 sl2 sl3 sl4 sl5 sl6 sl7 sl8 sl9 sl10 : Array (Option Value)} {oc0 dc0 pm0 cd0 ct0 oc1 kV1 dc1 pm1 cd1 ct1 oc2 kV2 dc2 pm2 cd2 ct2 oc3 kV3 dc3 pm3 cd3 ct3 oc4 kV4 dc4 pm4 cd4 ct4 oc5 kV5 dc5 pm5 cd5 ct5 oc6 kV6 dc6 pm6 cd6 ct6 oc7 kV7 dc7 pm7 cd7 ct7 oc8 kV8 dc8 pm8 cd8 ct8 oc9 kV9 dc9 pm9 cd9 ct9 oc10 kV10 dc10 pm10 cd10 ct10 : Value} {kD C CE fI : Addr} {odI anI : Option Addr} {slI : Array (Option Value)} {tlo thi : Tok} {nm q : Str} {N : Addr} {bs : List Value} {sn : List Str} {sub : List Value} {ab : Bool} {col : Option Bool} {dd : Option Addr} {m0 m1 m2 m3 m5 : Option Value} {ocI kVI dcI pmI cdI ctI : Value}
    (a0 : PySem.W.nsIn K mainGlobals "parse_integer" = some (some (.ref f0)))
    (l0 : K.lookup f0 = some ⟨oc0, od0, .func (PySem.W.fnOf "parse_integer" "parse_integer" (defArgs s_parse_integer) (defBody s_parse_integer) (defScope s_parse_integer) .none (.ref kD) dc0 pm0 an0 cd0 ct0), sl0⟩)
    (c0 : PySem.W.codeIn K cd0 "parse_integer" = true)
    (k0 : PySem.W.keepIn K (.ref f0) = true)
    (a1 : PySem.W.nsIn K mainGlobals "split_words" = some (some (.ref f1)))
    (l1 : K.lookup f1 = some ⟨oc1, od1, .func (PySem.W.fnOf "split_words" "split_words" (defArgs s_split_words) (defBody s_split_words) (defScope s_split_words) .none kV1 dc1 pm1 an1 cd1 ct1), sl1⟩)
    (c1 : PySem.W.codeIn K cd1 "split_words" = true)
    (k1 : PySem.W.keepIn K (.ref f1) = true)
    (a2 : PySem.W.nsIn K mainGlobals "_law_cell" = some (some (.ref f2)))
    (l2 : K.lookup f2 = some ⟨oc2, od2, .func (PySem.W.fnOf "_law_cell" "_law_cell" (defArgs s_l_cell) (defBody s_l_cell) (defScope s_l_cell) .none kV2 dc2 pm2 an2 cd2 ct2), sl2⟩)
    (c2 : PySem.W.codeIn K cd2 "_law_cell" = true)
    (k2 : PySem.W.keepIn K (.ref f2) = true)
    (a3 : PySem.W.nsIn K mainGlobals "_law_box" = some (some (.ref f3)))
    (l3 : K.lookup f3 = some ⟨oc3, od3, .func (PySem.W.fnOf "_law_box" "_law_box" (defArgs s_l_box) (defBody s_l_box) (defScope s_l_box) .none kV3 dc3 pm3 an3 cd3 ct3), sl3⟩)
    (c3 : PySem.W.codeIn K cd3 "_law_box" = true)
    (k3 : PySem.W.keepIn K (.ref f3) = true)
    (a4 : PySem.W.nsIn K mainGlobals "_law_take" = some (some (.ref f4)))
    (l4 : K.lookup f4 = some ⟨oc4, od4, .func (PySem.W.fnOf "_law_take" "_law_take" (defArgs s_l_take) (defBody s_l_take) (defScope s_l_take) .none kV4 dc4 pm4 an4 cd4 ct4), sl4⟩)
    (c4 : PySem.W.codeIn K cd4 "_law_take" = true)
    (k4 : PySem.W.keepIn K (.ref f4) = true)
    (a5 : PySem.W.nsIn K mainGlobals "_law_text" = some (some (.ref f5)))
    (l5 : K.lookup f5 = some ⟨oc5, od5, .func (PySem.W.fnOf "_law_text" "_law_text" (defArgs s_l_text) (defBody s_l_text) (defScope s_l_text) .none kV5 dc5 pm5 an5 cd5 ct5), sl5⟩)
    (c5 : PySem.W.codeIn K cd5 "_law_text" = true)
    (k5 : PySem.W.keepIn K (.ref f5) = true)
    (a6 : PySem.W.nsIn K mainGlobals "_law_value" = some (some (.ref f6)))
    (l6 : K.lookup f6 = some ⟨oc6, od6, .func (PySem.W.fnOf "_law_value" "_law_value" (defArgs s_l_value) (defBody s_l_value) (defScope s_l_value) .none kV6 dc6 pm6 an6 cd6 ct6), sl6⟩)
    (c6 : PySem.W.codeIn K cd6 "_law_value" = true)
    (k6 : PySem.W.keepIn K (.ref f6) = true)
    (a7 : PySem.W.nsIn K mainGlobals "_law_number_right" = some (some (.ref f7)))
    (l7 : K.lookup f7 = some ⟨oc7, od7, .func (PySem.W.fnOf "_law_number_right" "_law_number_right" (defArgs s_l_number_right) (defBody s_l_number_right) (defScope s_l_number_right) .none kV7 dc7 pm7 an7 cd7 ct7), sl7⟩)
    (c7 : PySem.W.codeIn K cd7 "_law_number_right" = true)
    (k7 : PySem.W.keepIn K (.ref f7) = true)
    (a8 : PySem.W.nsIn K mainGlobals "_law_words" = some (some (.ref f8)))
    (l8 : K.lookup f8 = some ⟨oc8, od8, .func (PySem.W.fnOf "_law_words" "_law_words" (defArgs s_l_words) (defBody s_l_words) (defScope s_l_words) .none kV8 dc8 pm8 an8 cd8 ct8), sl8⟩)
    (c8 : PySem.W.codeIn K cd8 "_law_words" = true)
    (k8 : PySem.W.keepIn K (.ref f8) = true)
    (a9 : PySem.W.nsIn K mainGlobals "_law_line" = some (some (.ref f9)))
    (l9 : K.lookup f9 = some ⟨oc9, od9, .func (PySem.W.fnOf "_law_line" "_law_line" (defArgs s_l_line) (defBody s_l_line) (defScope s_l_line) .none kV9 dc9 pm9 an9 cd9 ct9), sl9⟩)
    (c9 : PySem.W.codeIn K cd9 "_law_line" = true)
    (k9 : PySem.W.keepIn K (.ref f9) = true)
    (a10 : PySem.W.nsIn K mainGlobals "law" = some (some (.ref f10)))
    (l10 : K.lookup f10 = some ⟨oc10, od10, .func (PySem.W.fnOf "law" "law" (defArgs s_law) (defBody s_law) (defScope s_law) .none kV10 dc10 pm10 an10 cd10 ct10), sl10⟩)
    (c10 : PySem.W.codeIn K cd10 "law" = true)
    (k10 : PySem.W.keepIn K (.ref f10) = true)
    (z0 : PySem.W.nsIn K mainGlobals "len" = some none)
    (z1 : PySem.W.nsIn K mainGlobals "max" = some none)
    (z2 : PySem.W.nsIn K mainGlobals "min" = some none)
    (z3 : PySem.W.nsIn K mainGlobals "range" = some none)
    (z4 : PySem.W.nsIn K mainGlobals "isinstance" = some none)
    (z5 : PySem.W.nsIn K mainGlobals "int" = some none)
    (z6 : PySem.W.nsIn K mainGlobals "str" = some none)
    (z7 : PySem.W.nsIn K mainGlobals "repr" = some none)
    (klo : PySem.W.nsIn K kD "low" = some (some (.int 0 tlo)))
    (khi : PySem.W.nsIn K kD "high" = some (some (.int 999 thi)))
    (aC : PySem.W.nsIn K mainGlobals "InvalidName" = some (some (.ref C)))
    (xL : K.lookup C = some (excClassObj nm q C N bs [.ref CE, .type "ValueError", .type "Exception", .type "BaseException", .type "object"] true sn sub ab col dd m0 m1 m2 m3 m5 "ValueError.__new__"))
    (sa : PySem.W.findIn K (.ref C) "__setattr__" = some (some (.builtin "object.__setattr__")))
    (ga : PySem.W.findIn K (.ref C) "__getattribute__" = some (some (.builtin "BaseException.__getattribute__")))
    (gg : PySem.W.findIn K (.ref C) "__getattr__" = some none)
    (nv : PySem.W.findIn K (.ref C) "value" = some none)
    (iC : PySem.W.findIn K (.ref C) "__init__" = some (some (.ref fI)))
    (tI : PySem.W.typeIn K (.ref fI) = some (.type "function"))
    (lI : K.lookup fI = some ⟨ocI, odI, .func (PySem.W.fnOf "__init__" "InvalidName.__init__" (defArgs s_init) (defBody s_init) (defScope s_init) .none kVI dcI pmI anI cdI ctI), slI⟩)
    (cI : PySem.W.codeIn K cdI "InvalidName.__init__" = true)
    (kI : PySem.W.keepIn K (.ref fI) = true)
    (kC : PySem.W.keepIn K (.ref C) = true)
    (eC : PySem.W.subIn K (.ref C) (.type "BaseException") = some true)
    (tC : PySem.W.typeIn K (.ref C) = some (.type "type"))
    (hC : PySem.W.hasDictIn K C = true)
    (hcl : PySem.W.findIn K (.ref C) "__class__" = some (some (.builtin "object.__class__")))
    (hsp : PySem.W.specialIn K (.builtin "object.__class__") "__get__" = some (some (.builtin "getset_descriptor.__get__")))
    (htk : PySem.W.takesIn K (.builtin "object.__class__") = some true)
    (hmo : PySem.W.mroIn K C (.type "object") = some true)
    (ks : PySem.W.subIn K (.ref C) (.type "str") = some false) :
    ∃ fd : FuncData, (∀ (s : Shared) (v : Value), BindsTo s fd ⟨[v], []⟩ [("_law_script", v)]) ∧ ∀ base : Heap, K.In base → base.Ns mainGlobals mg → CaG.FnG l.prog w K mg base 4 fa fd ["_law_script"] (spLaw K) := by
  have e := hfa.symm.trans (PySem.W.mg_of X G a10)
  cases e
  have g_parse_integer := PySem.W.mg_of X G a0
  have F_split_words := fun_mk (st := s_split_words) l1 c1 k1
  have b_split_words := F_split_words.binds (ps := ["text"]) fun _ _ _ _ _ _ us hl => match us, hl with | [_], _ => rfl
  have g_split_words := PySem.W.mg_of X G a1
  have F_l_cell := fun_mk (st := s_l_cell) l2 c2 k2
  have b_l_cell := F_l_cell.binds (ps := ["_law_script", "_law_k"]) fun _ _ _ _ _ _ us hl => match us, hl with | [_, _], _ => rfl
  have g_l_cell := PySem.W.mg_of X G a2
  have F_l_box := fun_mk (st := s_l_box) l3 c3 k3
  have b_l_box := F_l_box.binds (ps := ["_law_cell_here"]) fun _ _ _ _ _ _ us hl => match us, hl with | [_], _ => rfl
  have g_l_box := PySem.W.mg_of X G a3
  have F_l_take := fun_mk (st := s_l_take) l4 c4 k4
  have b_l_take := F_l_take.binds (ps := ["_law_box_here", "_law_many"]) fun _ _ _ _ _ _ us hl => match us, hl with | [_, _], _ => rfl
  have g_l_take := PySem.W.mg_of X G a4
  have F_l_text := fun_mk (st := s_l_text) l5 c5 k5
  have b_l_text := F_l_text.binds (ps := ["_law_box_here"]) fun _ _ _ _ _ _ us hl => match us, hl with | [_], _ => rfl
  have g_l_text := PySem.W.mg_of X G a5
  have F_l_value := fun_mk (st := s_l_value) l6 c6 k6
  have b_l_value := F_l_value.binds (ps := ["_law_text_here"]) fun _ _ _ _ _ _ us hl => match us, hl with | [_], _ => rfl
  have g_l_value := PySem.W.mg_of X G a6
  have F_l_number_right := fun_mk (st := s_l_number_right) l7 c7 k7
  have b_l_number_right := F_l_number_right.binds (ps := ["_law_text_here", "_law_least", "_law_most"]) fun _ _ _ _ _ _ us hl => match us, hl with | [_, _, _], _ => rfl
  have g_l_number_right := PySem.W.mg_of X G a7
  have F_l_words := fun_mk (st := s_l_words) l8 c8 k8
  have b_l_words := F_l_words.binds (ps := ["_law_text_here"]) fun _ _ _ _ _ _ us hl => match us, hl with | [_], _ => rfl
  have g_l_words := PySem.W.mg_of X G a8
  have F_l_line := fun_mk (st := s_l_line) l9 c9 k9
  have b_l_line := F_l_line.binds (ps := ["_law_box_here"]) fun _ _ _ _ _ _ us hl => match us, hl with | [_], _ => rfl
  have g_l_line := PySem.W.mg_of X G a9
  have F_law := fun_mk (st := s_law) l10 c10 k10
  have n_len := PySem.W.mg_none_of X G z0
  have n_max := PySem.W.mg_none_of X G z1
  have n_min := PySem.W.mg_none_of X G z2
  have n_range := PySem.W.mg_none_of X G z3
  have n_isinstance := PySem.W.mg_none_of X G z4
  have n_int := PySem.W.mg_none_of X G z5
  have n_str := PySem.W.mg_none_of X G z6
  have n_repr := PySem.W.mg_none_of X G z7
  have T : TC mg := ⟨n_isinstance, n_int, n_str, n_len⟩
  have TXc : TX K mg C fI := ⟨⟨⟨nm, q, N, bs, _, sn, sub, ab, col, dd, m0, m1, m2, m3, m5, xL, (show PySem.HandSPX.refsVE [.type "ValueError", .type "Exception", .type "BaseException", .type "object"] = true by decide +kernel)⟩, sa, eC, tC, kC⟩, ⟨ga, gg, eC, hC, hcl, hsp, htk, hmo⟩, nv, iC, tI, PySem.W.mg_of X G aC, CaV.kit_not_str ks⟩
  have FI := fun_mk (st := s_init) lI cI kI
  have bI := FI.binds (ps := ["self", "value"]) fun _ _ _ _ _ _ us hl => match us, hl with | [_, _], _ => rfl
  have FP : FunD K "parse_integer" "parse_integer" (defArgs s_parse_integer) (defBody s_parse_integer) (defScope s_parse_integer) [] kws2 f0 _ := ⟨⟨oc0, od0, .none, .ref kD, dc0, pm0, an0, cd0, ct0, sl0, rfl, l0, c0, .inl ⟨rfl, rfl⟩, .inr ⟨kD, rfl, fun q hq => by
      rcases List.mem_cons.mp hq with rfl | hq
      · exact ⟨_, klo, ⟨_, rfl⟩⟩
      · rw [List.mem_singleton.mp hq]
        exact ⟨_, khi, ⟨_, rfl⟩⟩⟩⟩, k0⟩
  obtain ⟨mv1, kb1⟩ := kb_both FP
  obtain ⟨mv2, kb2⟩ := kb_low FP
  obtain ⟨ds, vd, bP⟩ := b_plain FP
  exact ⟨PySem.W.fnOf "law" "law" (defArgs s_law) (defBody s_law) (defScope s_law) .none kV10 dc10 pm10 an10 cd10 ct10, fun s v => .of_eq rfl, fun base _ _ => ok_law F_law T n_max n_min n_range n_repr TXc FI bI FP g_parse_integer kb1 kb2 vd bP F_split_words b_split_words g_split_words F_l_cell b_l_cell g_l_cell F_l_box b_l_box g_l_box F_l_take b_l_take g_l_take F_l_text b_l_text g_l_text F_l_value b_l_value g_l_value F_l_number_right b_l_number_right g_l_number_right F_l_words b_l_words g_l_words F_l_line b_l_line g_l_line⟩
end K02
open PySem PySem.W PyProof.Rows
set_option maxRecDepth 100000 in
set_option maxHeartbeats 0 in
theorem PySem.Challenge.cw_caughtnames_k02_numbers_and_words_of_tex_holds : PySem.Challenge.rw_caughtnames_k02_numbers_and_words_of_tex.Holds := by
  w_on; o_law; k_head; (case hw => w_witness2)
  k_fill
  refine CaG.walk_G (l := PySem.Challenge.rw_caughtnames_k02_numbers_and_words_of_tex) (n := 63) (k := 4) (x := "_law_script") (sp := CaL.spLaw) rfl (by decide) rfl ⟨rfl, by decide, by decide⟩ (fun w h Y => PySem.W.kIn_of Y) ?F (fun _ _ a ns hl hS => ⟨a, ns, rfl, hS, hl, fun _ => rfl⟩)
  case F =>
    intro w mg fa h KX G hmg
    refine' K02.all_mk KX G hmg ?a0 ?l0 ?c0 ?k0 ?a1 ?l1 ?c1 ?k1 ?a2 ?l2 ?c2 ?k2 ?a3 ?l3 ?c3 ?k3 ?a4 ?l4 ?c4 ?k4 ?a5 ?l5 ?c5 ?k5 ?a6 ?l6 ?c6 ?k6 ?a7 ?l7 ?c7 ?k7 ?a8 ?l8 ?c8 ?k8 ?a9 ?l9 ?c9 ?k9 ?a10 ?l10 ?c10 ?k10 ?z0 ?z1 ?z2 ?z3 ?z4 ?z5 ?z6 ?z7 ?klo ?khi ?aC ?xL ?sa ?ga ?gg ?nv ?iC ?tI ?lI ?cI ?kI ?kC ?eC ?tC ?hC ?hcl ?hsp ?htk ?hmo ?ks
    (case a0 => k_is)
    (case l0 => k_is)
    (case c0 => k_is)
    (case k0 => k_is)
    (case a1 => k_is)
    (case l1 => k_is)
    (case c1 => k_is)
    (case k1 => k_is)
    (case a2 => k_is)
    (case l2 => k_is)
    (case c2 => k_is)
    (case k2 => k_is)
    (case a3 => k_is)
    (case l3 => k_is)
    (case c3 => k_is)
    (case k3 => k_is)
    (case a4 => k_is)
    (case l4 => k_is)
    (case c4 => k_is)
    (case k4 => k_is)
    (case a5 => k_is)
    (case l5 => k_is)
    (case c5 => k_is)
    (case k5 => k_is)
    (case a6 => k_is)
    (case l6 => k_is)
    (case c6 => k_is)
    (case k6 => k_is)
    (case a7 => k_is)
    (case l7 => k_is)
    (case c7 => k_is)
    (case k7 => k_is)
    (case a8 => k_is)
    (case l8 => k_is)
    (case c8 => k_is)
    (case k8 => k_is)
    (case a9 => k_is)
    (case l9 => k_is)
    (case c9 => k_is)
    (case k9 => k_is)
    (case a10 => k_is)
    (case l10 => k_is)
    (case c10 => k_is)
    (case k10 => k_is)
    (case z0 => k_is)
    (case z1 => k_is)
    (case z2 => k_is)
    (case z3 => k_is)
    (case z4 => k_is)
    (case z5 => k_is)
    (case z6 => k_is)
    (case z7 => k_is)
    (case klo => k_is)
    (case khi => k_is)
    (case aC => k_is)
    (case xL => k_is)
    (case sa => k_is)
    (case ga => k_is)
    (case gg => k_is)
    (case nv => k_is)
    (case iC => k_is)
    (case tI => k_is)
    (case lI => k_is)
    (case cI => k_is)
    (case kI => k_is)
    (case kC => k_is)
    (case eC => k_is)
    (case tC => k_is)
    (case hC => k_is)
    (case hcl => k_is)
    (case hsp => k_is)
    (case htk => k_is)
    (case hmo => k_is)
    (case ks => k_is)
