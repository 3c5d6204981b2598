import PyProof.Rows.All
import Wide.All
import OpenK.AllK
import Wide.FinOn
import HandS.ForMost
import HandS.Exc
import HandS.ExcOwn
import HandS.ExcValue
import HandS.ExcInit
import HandS.ExcIs
import HandS.IsInst
import HandS.StrMore
import HandS.Wide
import HandS.Flow
import HandS.Deep
import HandS.Walk
import KE.KExcIs
import PyProof.RowDictHeap
import PyProof.ReprLen
import PyProof.Rows.ReprShort
import PyProof.ReprRoads
import HandS.Replace
import HandS.MakeKwOnly
import PyProof.FactsAll.dict_1
import PyProof.FactsAll.subtypes_4
import HandS.TupAny
import HandS.TupMul
import HandS.Style
import HandS.List
import HandS.Text
import PyProof.StrOps2
import HandS.SetIn
import HandS.ExcField
import PySem.Challenge.RW_caughtnames_k12_parts_listed
import HandS.WordsExc
set_option Elab.async false
set_option linter.all false
set_option maxRecDepth 100000
/-! An exception that is made is held as a value (by the library's rule of its making), and asked by isinstance. -/
namespace CaV
open PySem PySem.Spec L2
/-- at a: an exception object of the class cls, its own dict at d -/
def exq (cls : Value) (d : Option Addr) (a : Addr) : HO := .ext fun h => ∃ (oe : Obj) (vs : Array Value), h.get? a = some oe ∧ oe.cls = cls ∧ oe.dict = d ∧ oe.data = .fields vs
theorem exq_new {P : Program} {w : World} {H : Hp} {h : Heap} {a : Addr} {cls : Value} {d : Option Addr} {oe : Obj} {vs : Array Value} (e : h.get? a = some oe) (z : Zc cls d oe) (hd : oe.data = .fields vs) : ObjOk P w H h a (exq cls d a) :=
  ⟨⟨oe, vs, e, z.1, z.2, hd⟩, ⟨oe, e⟩, fun _ _ ⟨o2, v2, q1, q2⟩ kept => ⟨o2, v2, kept o2 q1, q2⟩⟩
section
variable {X : Cx}
/-- what makes an exception for a raise makes it as a value, too -/
theorem pe_of_mk {e : Expr} {t : St → Hp → XK → Prop} (mk : PMk X e t) : PE X e (fun σ H Q => t σ H fun cls d H1 => ∀ a, H1 a = none → Q (.ref a) (upd H1 a (exq cls d a))) := by
  constructor
  intro pins s σ H Q inv want
  refine thn (mk pins s σ H _ inv want) fun u s2 made => ?_
  obtain ⟨a, oe, vs, sI, H1, cls, d, rfl, J, old, fr, at_, zc, dat, _, na, os, bare, _, told⟩ := made
  refine ⟨.ref a, upd H1 a (exq cls d a), ?_, rfl, told a na⟩
  exact J.call' (ch := []) os (Un.laidN old fr na) (J.hok.laidN old na (exq_new at_ zc dat)) bare fun b hb => absurd hb List.not_mem_nil
/-- an exception of the class C stands at a, with its dict -/
def ExAt (H : Hp) (C a : Addr) : Prop := ∃ (d : Addr) (fs : List (Str × V)), H a = some (exq (.ref C) (some d) a) ∧ H d = some (.xd fs)
/-- a value's type, exceptions too -/
def TyE (K : PySem.W.Frag) (H : Hp) (x : V) (t : Value) : Prop := TyX K H x t ∨ ∃ C a, x = .ref a ∧ t = .ref C ∧ ExcC K C ∧ ExAt H C a
def rIsV (K : PySem.W.Frag) : List V → Hp → VK → Prop := fun xs H Q => ∃ (x c : V) (t u : Value) (b : Bool), xs = [x, c] ∧ ClsV c u ∧ TyE K H x t ∧ PySem.W.kitOne K t u = some b ∧ Q (.bl b) H
theorem call_isV : CallR X (.builtin "isinstance") (rIsV X.K) := by
  intro pins s σ H vs ws Q inv rel told
  obtain ⟨x, c, t, u, b, rfl, cv, ty, ans, q⟩ := told
  rcases ty with ty | ⟨C, a, rfl, rfl, TC, d, fs, ha, hd⟩
  · exact call_isi pins s σ H [x, c] ws Q inv rel ⟨x, c, t, u, b, rfl, cv, ty, ans, q⟩
  · obtain ⟨w1, w2, rfl, rx, rc⟩ := vals2 rel
    obtain rfl := cv.eq rc
    cases rx
    have tr : ∃ (oe : Obj) (vs : Array Value), s.heap.get? a = some oe ∧ oe.cls = .ref C ∧ oe.dict = some d ∧ oe.data = .fields vs := (show ObjOk X.prog X.w H s.heap a (exq (.ref C) (some d) a) from inv.hok a _ ha).1
    obtain ⟨⟨oc, od, dat, sl⟩, vs, ho, rfl, rfl, rfl⟩ := tr
    obtain ⟨mA, ⟨oD, _, _, hoD, _⟩, _⟩ := (show ObjOk X.prog X.w H s.heap d (.xd fs) from inv.hok d _ hd)
    have cls : (PySem.W.clsIn X.K C).isSome = true := by
      obtain ⟨cd, hc, _⟩ := PySem.W.any_some TC.hd
      rw [hc]
      rfl
    exact PySem.W.kia_one (PySem.W.kitx_exc (od := some oD) cls TC.hg TC.hk TC.hs TC.ha TC.hn TC.ht TC.hm) inv.kIn ⟨ho, rfl, rfl, hoD⟩ ans (fun z => nomatch z) fun tk => ⟨.bl b, H, inv.kept (t' := tk) fun _ _ z => z, rfl, q⟩
end
/-- isinstance of such an exception by a built-in class -/
theorem kit_not {K : PySem.W.Frag} {C : Addr} {T : String} {b : Bool} (hm : PySem.W.kitMeta T = true) (h : PySem.W.subIn K (.ref C) (.type T) = some b) : PySem.W.kitOne K (.ref C) (.type T) = some b := by
  have e1 : ((Value.ref C : Value) == Value.type T) = false := rfl
  have e2 : PySem.W.kitCls K (.ref C) (.type T) = PySem.W.subIn K (.ref C) (.type T) := by
    show (if PySem.W.kitMeta T = true then PySem.W.subIn K (.ref C) (.type T) else none) = PySem.W.subIn K (.ref C) (.type T)
    exact if_pos hm
  unfold PySem.W.kitOne
  rw [e1, e2]
  exact h
theorem kit_not_str {K : PySem.W.Frag} {C : Addr} (h : PySem.W.subIn K (.ref C) (.type "str") = some false) : PySem.W.kitOne K (.ref C) (.type "str") = some false := kit_not (by decide +kernel) h
end CaV
set_option Elab.async false
set_option linter.all false
set_option maxRecDepth 100000
/-! Data of any depth that may hold an empty dict: None, truths, small numbers, short plain texts, lists, tuples, {}: its measures. -/
namespace CaD
open PySem PySem.Spec PyProof.Rows
mutual
/-- small numbers, short plain texts, dicts without entries -/
def fine : PyData → Bool
  | .none => true
  | .bool _ => true
  | .int i => decide (0 ≤ i ∧ i ≤ 1000)
  | .str x => decide (x.length ≤ 10) && x.cps.toList.all fun c => decide (c < 128)
  | .list xs => fineAll xs
  | .tuple xs => fineAll xs
  | .dict kvs => kvs.isEmpty
def fineAll : List PyData → Bool
  | [] => true
  | x :: xs => fine x && fineAll xs
end
mutual
/-- how many things, itself included -/
def wt : PyData → Nat
  | .list xs => wtAll xs + 1
  | .tuple xs => wtAll xs + 1
  | .none => 1
  | .bool _ => 1
  | .int _ => 1
  | .str _ => 1
  | .dict _ => 1
def wtAll : List PyData → Nat
  | [] => 0
  | x :: xs => wt x + wtAll xs
end
theorem wt_pos (d : PyData) : 1 ≤ wt d := by
  cases d <;> simp [wt]
theorem wtAll_append : ∀ (xs ys : List PyData), wtAll (xs ++ ys) = wtAll xs + wtAll ys
  | [], ys => by simp [wtAll]
  | x :: xs, ys => by
    rw [List.cons_append]
    simp only [wtAll]
    rw [wtAll_append xs ys]
    omega
theorem wtAll_reverse : ∀ (xs : List PyData), wtAll xs.reverse = wtAll xs
  | [] => rfl
  | x :: xs => by
    rw [List.reverse_cons, wtAll_append, wtAll_reverse xs]
    simp only [wtAll]
    omega
theorem wt_mem : ∀ {xs : List PyData} {x : PyData}, x ∈ xs → wt x ≤ wtAll xs
  | y :: ys, x, h => by
    simp only [wtAll]
    rcases List.mem_cons.mp h with rfl | h
    · omega
    · have := wt_mem h
      omega
theorem wtAll_len : ∀ (xs : List PyData), xs.length ≤ wtAll xs
  | [] => Nat.le_refl _
  | x :: xs => by
    have := wtAll_len xs
    have := wt_pos x
    simp only [wtAll, List.length_cons]
    omega
theorem fineAll_iff : ∀ {xs : List PyData}, fineAll xs = true ↔ ∀ x ∈ xs, fine x = true
  | [] => ⟨fun _ x h => (nomatch h), fun _ => rfl⟩
  | y :: ys => by
    simp only [fineAll, Bool.and_eq_true, List.mem_cons]
    rw [fineAll_iff (xs := ys)]
    exact ⟨fun h x m => m.elim (fun e => e ▸ h.1) (h.2 x), fun h => ⟨h y (.inl rfl), fun x m => h x (.inr m)⟩⟩
theorem depthAll_le {n : Nat} : ∀ {xs : List PyData}, PyData.depthAll xs ≤ n ↔ ∀ x ∈ xs, x.depth ≤ n
  | [] => ⟨fun _ x h => (nomatch h), fun _ => by simp [PyData.depthAll]⟩
  | y :: ys => by
    simp only [PyData.depthAll, List.mem_cons]
    rw [Nat.max_le, depthAll_le (xs := ys)]
    exact ⟨fun h x m => m.elim (fun e => e ▸ h.1) (h.2 x), fun h => ⟨h y (.inl rfl), fun x m => h x (.inr m)⟩⟩
mutual
theorem fine_show : ∀ d : PyData, fine d = true → d.showable = true
  | .none, _ => by simp [PyData.showable]
  | .bool _, _ => by simp [PyData.showable]
  | .int i, h => by
    have h := of_decide_eq_true h
    simp only [PyData.showable]
    refine decide_eq_true ?_
    have : i.natAbs < 2 ^ 10 := by omega
    by_cases z : i.natAbs = 0
    · rw [z]
      decide
    · exact Nat.lt_of_lt_of_le ((Nat.log2_lt z).mpr this) (by decide)
  | .str _, _ => by simp [PyData.showable]
  | .list xs, h => by
    simp only [PyData.showable]
    exact fine_showAll xs h
  | .tuple xs, h => by
    simp only [PyData.showable]
    exact fine_showAll xs h
  | .dict kvs, h => by
    cases kvs with
    | nil => simp [PyData.showable, PyData.showableKv]
    | cons a r => cases h
theorem fine_showAll : ∀ xs : List PyData, fineAll xs = true → PyData.showableAll xs = true
  | [], _ => by simp [PyData.showableAll]
  | x :: xs, h => by
    simp only [fineAll, Bool.and_eq_true] at h
    simp only [PyData.showableAll, Bool.and_eq_true]
    exact ⟨fine_show x h.1, fine_showAll xs h.2⟩
end
mutual
theorem fine_short : ∀ d : PyData, fine d = true → d.leavesShort 13 = true
  | .none, _ => by simp [PyData.leavesShort]
  | .bool _, _ => by simp [PyData.leavesShort]
  | .int i, h => by
    have h := of_decide_eq_true h
    simp only [PyData.leavesShort]
    exact decide_eq_true (PyData.shown_int_le2 (by omega) (by omega))
  | .str x, h => by
    simp only [fine, Bool.and_eq_true] at h
    simp only [PyData.leavesShort]
    rw [List.all_eq_true]
    intro c hc
    have := of_decide_eq_true (List.all_eq_true.mp h.2 c hc)
    exact decide_eq_true (Nat.lt_trans this (by decide))
  | .list xs, h => by
    simp only [PyData.leavesShort]
    exact fine_shortAll xs h
  | .tuple xs, h => by
    simp only [PyData.leavesShort]
    exact fine_shortAll xs h
  | .dict kvs, h => by
    cases kvs with
    | nil => simp [PyData.leavesShort, PyData.leavesShortKv]
    | cons a r => cases h
theorem fine_shortAll : ∀ xs : List PyData, fineAll xs = true → PyData.leavesShortAll 13 xs = true
  | [], _ => by simp [PyData.leavesShortAll]
  | x :: xs, h => by
    simp only [fineAll, Bool.and_eq_true] at h
    simp only [PyData.leavesShortAll, Bool.and_eq_true]
    exact ⟨fine_short x h.1, fine_shortAll xs h.2⟩
end
mutual
theorem fine_weight : ∀ d : PyData, fine d = true → d.weight + 1 ≤ 13 * wt d
  | .none, _ => by simp [PyData.weight, wt]
  | .bool _, _ => by simp [PyData.weight, wt]
  | .int i, h => by
    have h := of_decide_eq_true h
    simp only [PyData.weight, wt]
    split
    · omega
    · rename_i ne
      have z : i.natAbs ≠ 0 := fun e => ne (by
        have : i = 0 := by omega
        rw [this]
        rfl)
      have : i.natAbs.log2 < 10 := (Nat.log2_lt z).mpr (by omega)
      omega
  | .str x, h => by
    simp only [fine, Bool.and_eq_true] at h
    have := of_decide_eq_true h.1
    simp only [PyData.weight, wt]
    have : x.cps.size ≤ 10 := this
    omega
  | .list xs, h => by
    simp only [PyData.weight, wt]
    have := fine_weightAll xs h
    omega
  | .tuple xs, h => by
    simp only [PyData.weight, wt]
    have := fine_weightAll xs h
    omega
  | .dict kvs, h => by
    cases kvs with
    | nil => simp [PyData.weight, PyData.weightKv, wt]
    | cons a r => cases h
theorem fine_weightAll : ∀ xs : List PyData, fineAll xs = true → PyData.weightAll xs ≤ 13 * wtAll xs
  | [], _ => by simp [PyData.weightAll, wtAll]
  | x :: xs, h => by
    simp only [fineAll, Bool.and_eq_true] at h
    simp only [PyData.weightAll, wtAll]
    have := fine_weight x h.1
    have := fine_weightAll xs h.2
    have := wt_pos x
    omega
end
end CaD
set_option Elab.async false
set_option linter.all false
set_option maxRecDepth 100000
/-! Promises of defs that are called where no repr is under way (so that repr of a list is the list's own text). -/
namespace CaG
open PySem PySem.Spec PyProof.Rows L2
/-- the promise of a def, wherever no repr is under way -/
structure FnG (P : Program) (w : World) (K : PySem.W.Frag) (mg : Str → Option Value) (base : Heap) (k : Nat) (f : Addr) (fd : FuncData) (ps : List Str) (sp : Sp) : Prop where
  len : ∀ vs H Q E, sp vs H Q E → vs.length = ps.length
  run : ∀ (A : Around) (outer : List Env) (s : Shared) (H : Hp) (args : Args) (us : List Value) (vs : List V) (Q : VK) (E : XK), A.guards = some [] → Room k A → Env0 P w K mg base A outer s H →
    BindsTo s fd args (ps.zip us) → Vals vs us → sp vs H Q E → codeAny (model P w) A (.call (.ref f) args) (CR CX0 outer P w H s Q E) s
section
variable {P : Program} {w : World} {K : PySem.W.Frag} {mg : Str → Option Value} {base : Heap}
/-- a def by its body, which may use that no repr is under way -/
theorem FnG.of {x qual : Str} {st : Stmt} {f : Addr} {fd : FuncData} {N ps : List Str} {k : Nat} {sp : Sp} (F : Fun K x qual st f fd) (S : FnScope N ps (defScope st)) (len : ∀ vs H Q E, sp vs H Q E → vs.length = ps.length)
    (body : ∀ (cdv : Value) (A : Around) (outer : List Env) (s : Shared) (H : Hp) (vs : List V) (Q : VK) (E : XK), (A.deeper (envOfC qual (defScope st) s.heap.objs.size f cdv)).guards = some [] → Room k (A.deeper (envOfC qual (defScope st) s.heap.objs.size f cdv)) → sp vs H Q E →
      ∃ t, PSs (cxOf CX0 P w K mg base N qual (defScope st) f cdv A outer s H E).nox (defBody st) t ∧ t { nx := fun _ H' => Q .non H', rt := Q } (start N vs) H) : FnG P w K mg base (k + 1) f fd ps sp := by
  obtain ⟨oc, od, kV, doc, pm, an, cdv, ct, osl, rfl, found, code⟩ := F.ex
  constructor
  · exact len
  · intro A outer s H args us vs Q E quiet room entry binds vals want
    obtain ⟨t, ok, done⟩ := body cdv A outer s H vs Q E quiet (room.deeper _) want
    have inK : K.In s.heap := entry.mod.kin.keeps fun b o e => (entry.bs b o e).1
    have params : ∀ y ∈ ps.zip us, (defScope st).names.lookup y.1 = some .local ∨ ((defScope st).names.lookup y.1 = some .cell ∧ ((cellsFrom (s.heap.objs.size + 1) (defScope st).names []).lookup y.1).isSome = true) := by
      rintro ⟨y, v⟩ hy
      cases S.par y (List.of_mem_zip hy).1 with
      | inl z => exact .inl z
      | inr z => exact .inr ⟨z, PySem.W.cellsFrom_some _ _ _ (.inl z)⟩
    apply codeAny_call_function room.depth (inK _ _ found) rfl S.co S.gen rfl (PySem.W.codeRec_of inK code)
    apply binds
    apply wpAny_newFunctionEnv_cells S.kind params
    rintro env rfl s1 frame
    refine ⟨(entry.mod.nolimit.keeps fun b o e => (entry.bs b o e).1).keeps frame.toInCall.keep, codeAny_func ?_⟩
    have begin_ := inv_start (CX := CX0) (E := E) S room.hd entry (len _ _ _ _ want) vals frame
    apply wpAny_mono (ok.nox.run [] s1 (start N vs) H _ begin_ done)
    · intro fl s2 out
      cases fl with
      | ret u =>
        obtain ⟨v, σ2, H2, J, rv, q⟩ := out
        exact ⟨v, H2, J.os, J.bare, J.base, J.hok, rv, q⟩
      | next =>
        obtain ⟨σ2, H2, J, q⟩ := out
        exact ⟨V.non, H2, J.os, J.bare, J.base, J.hok, rfl, q⟩
      | brk =>
        obtain ⟨_, _, _, q⟩ := out
        exact q.elim
      | cont =>
        obtain ⟨_, _, _, q⟩ := out
        exact q.elim
    · intro e s2 out
      exact out
theorem FnG.ofOk {k : Nat} {f : Addr} {fd : FuncData} {ps : List Str} {sp : Sp} (F : FnOk P w K mg base CX0 k f fd ps sp) : FnG P w K mg base k f fd ps sp :=
  ⟨F.len, fun A outer s H args us vs Q E _ r e b v q => F.run A outer s H args us vs Q E r e b v q⟩
end
section
variable {X : Cx} {k : Nat} {f : Addr} {fd : FuncData} {ps : List Str} {sp : Sp} {x : Str} {e : Expr} {es : List Expr} {t : TA} {p pos : Pos}
/-- such a def called from such a body -/
theorem pe_callG (F : FnG X.prog X.w X.K X.mg X.base k f fd ps sp) (quiet : X.A.guards = some []) (hr : Room k X.A) (hg : Gl X x) (hm : X.mg x = some (.ref f)) (hk : PySem.W.keepIn X.K (.ref f) = true) (hb : Binds X.K fd ps [])
    (ha : PA X (e :: es) t) (hdb : (x == ("__debug__" : Str)) = false := by decide) (hs : starEach (e :: es) X.env = (false, eval e X.env) :: starEach es X.env := by rfl) (hp : (backTo pos (starEach es X.env)).any (·.1) = false := by rfl) :
    PE X (.Call (.Name x p) (e :: es) [] pos) (tCall sp [] E0 t) := by
  constructor
  intro pins s σ H Q inv want
  apply wpAny_Call_Name_kw (ld_glob inv hg hm _ hdb)
  apply PySem.W.callWith_K (h₀ := X.base) inv.ok.mod.kin hk _ hs hp
  refine thn (ha.run pos pins s σ H _ inv want) fun us s1 got => ?_
  obtain ⟨vs, H1, inv1, rel, due⟩ := got
  rw [List.append_nil] at due
  refine ⟨inv1.kIn, wpAny_call (codeAny_mono (F.run X.A X.stack s1 H1 ⟨us, []⟩ us vs Q E0 quiet hr inv1.env0 ?_ rel due) fun r s2 out => ?_)⟩
  · have l : (us ++ []).length = ps.length := by
      rw [List.append_nil, ← rel.length]
      exact F.len _ _ _ _ due
    have b := hb s1 us inv1.kIn l
    rwa [List.append_nil] at b
  · match r, out with
    | .ok (.ret u), o => exact inv1.after o
/-- repr of data: None, truths, numbers, texts, lists and tuples of such -/
def rRepr (K : PySem.W.Frag) : List V → Hp → VK → Prop := fun xs H Q => ∃ (x : V) (d : PyData), xs = [x] ∧ Dp K H x d ∧ d.showable = true ∧ d.hasDict = false ∧ d.depth ≤ 60 ∧ d.shown.length ≤ sizeLine ∧ Q (.str d.shown) H
theorem call_reprD {X : Cx} (quiet : X.A.guards = some []) (hu : X.A.units + 64 < cLine) : CallR X (.builtin "repr") (rRepr X.K) := by
  intro pins s σ H xs us Q inv rel told
  obtain ⟨x, d, rfl, dp, hs, hd, depth, size, q⟩ := told
  obtain ⟨u, rfl, rx⟩ := vals1 rel
  have far : ∀ a : Addr, u = .ref a → wpAny (model X.prog X.w) X.A (call (.builtin "repr") [u]) (EP X pins σ Q) X.xe s := by
    rintro a rfl
    obtain ⟨as, rd⟩ := Dp.reads inv d x (.ref a) dp rx
    exact repr_of_reads' rd hs (fun z => by rw [hd] at z; cases z) quiet (by omega) (fun _ _ z => z) (fun h' u tk kept => ⟨.str d.shown, H, inv.kept (t' := tk) kept, ⟨_, rfl⟩, q⟩) size
  cases dp with
  | non =>
    cases rx
    exact PySem.P.repr_of_none ⟨.str PyData.none.shown, H, inv.tok _, ⟨_, rfl⟩, q⟩
  | bl b =>
    cases rx
    exact PySem.P.repr_of_bool ⟨.str (PyData.bool b).shown, H, inv.tok _, ⟨_, by cases b <;> rfl⟩, q⟩
  | int i =>
    obtain ⟨t, rfl⟩ := rx
    exact PySem.P.repr_of_int (of_decide_eq_true hs) ⟨.str (PyData.int i).shown, H, inv.tok _, ⟨_, rfl⟩, q⟩
  | str z =>
    obtain ⟨t, rfl⟩ := rx
    exact PySem.P.repr_of_str ⟨.str (PyData.str z).shown, H, inv.tok _, ⟨_, rfl⟩, q⟩ size
  | lst h1 h2 => exact far _ rx
  | tup h1 h2 => exact far _ rx
end
end CaG
set_option Elab.async false
set_option linter.all false
set_option maxRecDepth 100000
namespace CaG
open PySem PySem.Spec PyProof.Rows L2
section
variable {P : Program} {w : World} {K : PySem.W.Frag} {mg mb : Str → Option Value} {k : Nat} {fa a : Addr} {fd : FuncData} {x : Str} {sp : Sp} {s : Shared} {vs : List Value} {ns : List Int}
/-- the law's call from its promise, the script tracked as it may be (H) -/
theorem law_at {H : Hp} (hH : ∀ b, H b = none ∨ (b = a ∧ K.lookup a = none ∧ H b = some (.frz { cls := .type "list", data := .seq vs.toArray } (.lst (ns.map V.int))))) (inK : K.In s.heap) (names : s.heap.Ns mainGlobals mg) (builtins : s.heap.Ns builtinsNs mb) (boot : ∀ x : Str, x ≠ "__name__" → mb x = bootBuiltins x)
    (free : s.heap.NoLimit) (gens : s.gens = #[]) (script : s.heap.get? a = some { cls := .type "list", data := .seq vs.toArray }) (isInts : IntsAre vs ns) (short : ns.length ≤ sizeLine) (room : Room k callerA) (is : SqL K H a (ns.map V.int))
    (F : ∀ base : Heap, K.In base → base.Ns mainGlobals mg → FnG P w K mg base k fa fd [x] sp) (binds : ∀ (s : Shared) (u : Value), BindsTo s fd ⟨[u], []⟩ [(x, u)])
    (told : sp [.ref a] H (fun v _ => v = .bl true) fun _ _ _ => False) :
    codeAny (model P w) callerA (.call (.ref fa) ⟨[.ref a], []⟩) (fun r s' => r = .ok (.ret (.bool true)) ∧ OldK s.heap s'.heap ∧ s'.os = s.os ∧ AllBare s'.gens) s := by
  have rel := vals_ints isInts
  -- an object that is no list of the script's is not tracked
  have out : ∀ {b : Addr} {o : Obj}, s.heap.get? b = some o → (b = a → False) ∨ K.lookup b = some o → H b = none := fun {b o} e why => by
    cases hH b with
    | inl z => exact z
    | inr z =>
      obtain ⟨z1, z2, _⟩ := z
      cases why with
      | inl n => exact (n z1).elim
      | inr l =>
        rw [z1, z2] at l
        cases l
  have notA : ∀ {b : Addr} {o : Obj} {es : Array DictEntry} {ep : Nat}, s.heap.get? b = some o → o.data = .dict es ep → b = a → False := fun {b o es ep} e d z => by
    rw [z, script] at e
    cases e
    cases d
  have nsH : ∀ {b : Addr} {m : Str → Option Value}, s.heap.Ns b m → (hidT s.heap H).Ns b m := fun {b m} h => by
    obtain ⟨o, es, ep, e, d, r⟩ := h
    exact ⟨o, es, ep, hidT_get e (out e (.inl (notA e d))), d, r⟩
  have inB : K.In (hidT s.heap H) := fun b o l => hidT_get (inK b o l) (out (inK b o l) (.inr l))
  have hok : HOk P w H s.heap := fun b u e => by
    cases hH b with
    | inl z =>
      rw [z] at e
      cases e
    | inr z =>
      obtain ⟨rfl, _, z3⟩ := z
      rw [z3] at e
      cases e
      exact ⟨script, by rw [List.length_map]; exact short, vs, _, rel, script⟩
  have entry : Env0 P w K mg (hidT s.heap H) callerA [] s H :=
    { frames := rfl, mod := ⟨inB, nsH names, ⟨mb, nsH builtins, boot⟩, by obtain ⟨mc, h1, h2⟩ := free; exact ⟨mc, nsH h1, h2⟩⟩, bs := fun b o e => of_hidT e, bsz := by rw [hidT_size]; exact Nat.le_refl _,
      funs := trivial, frf := fun b hb => (List.not_mem_nil hb).elim, hok := hok, bare := .of_eq gens }
  have ran := (F _ inB (nsH names)).run callerA [] s H ⟨[.ref a], []⟩ [.ref a] [.ref a] _ _ rfl room entry (binds s (.ref a)) (.cons rfl .nil) told
  apply codeAny_mono ran
  intro r s2 got
  match r, got with
  | .ok (.ret u), got =>
    obtain ⟨v, H2, os, bare, un, hok2, rv, rfl⟩ := got
    cases rv
    refine ⟨rfl, OldK.of_keep (fun b o e => ?_), os, bare⟩
    cases hH b with
    | inl z => exact un.keep b o e z (fun m => (List.not_mem_nil m).elim) List.not_mem_nil
    | inr z =>
      obtain ⟨rfl, _, z3⟩ := z
      rw [script] at e
      cases e
      exact (hok2 _ _ (un.frzs _ _ _ z3)).1
theorem law_callG (inK : K.In s.heap) (names : s.heap.Ns mainGlobals mg) (builtins : s.heap.Ns builtinsNs mb) (boot : ∀ x : Str, x ≠ "__name__" → mb x = bootBuiltins x)
    (free : s.heap.NoLimit) (gens : s.gens = #[]) (script : s.heap.get? a = some { cls := .type "list", data := .seq vs.toArray }) (isInts : IntsAre vs ns) (short : ns.length ≤ sizeLine) (room : Room k callerA)
    (F : ∀ base : Heap, K.In base → base.Ns mainGlobals mg → FnG P w K mg base k fa fd [x] sp) (binds : ∀ (s : Shared) (u : Value), BindsTo s fd ⟨[u], []⟩ [(x, u)])
    (told : ∀ H : Hp, SqL K H a (ns.map V.int) → sp [.ref a] H (fun v _ => v = .bl true) fun _ _ _ => False) :
    codeAny (model P w) callerA (.call (.ref fa) ⟨[.ref a], []⟩) (fun r s' => r = .ok (.ret (.bool true)) ∧ OldK s.heap s'.heap ∧ s'.os = s.os ∧ AllBare s'.gens) s := by
  cases l : K.lookup a with
  | some o =>
    have o_is := (inK a o l).symm.trans script
    cases o_is
    have is : SqL K (fun _ => none) a (ns.map V.int) := .inr ⟨_, vs.toArray, _, l, rfl, rfl, rfl, by rw [List.size_toArray, isInts.length]; exact short, by simpa using vals_ints isInts⟩
    exact law_at (H := fun _ => none) (fun _ => .inl rfl) inK names builtins boot free gens script isInts short room is F binds (told _ is)
  | none =>
    have at_ : (fun b => if b = a then some (HO.frz { cls := .type "list", data := .seq vs.toArray } (.lst (ns.map V.int))) else none : Hp) a = some (.frz { cls := .type "list", data := .seq vs.toArray } (.lst (ns.map V.int))) := if_pos rfl
    have is : SqL K (fun b => if b = a then some (HO.frz { cls := .type "list", data := .seq vs.toArray } (.lst (ns.map V.int))) else none) a (ns.map V.int) := .inl (.inr ⟨_, at_⟩)
    refine law_at (H := fun b => if b = a then some (HO.frz { cls := .type "list", data := .seq vs.toArray } (.lst (ns.map V.int))) else none) (fun b => ?_) inK names builtins boot free gens script isInts short room is F binds (told _ is)
    by_cases e : b = a
    · exact .inr ⟨e, l, if_pos e⟩
    · exact .inl (if_neg e)
end
/-- the goal that the head leaves, from such a promise -/
theorem walk_G {l : PySem.W.OpenLaw} {n k : Nat} {whole : Program} {loose : List Str} {before : (Str → Option Value) → Heap → Prop} {behind : World → Heap → Prop} {law : DefRec} {written : Params → PySem.W.Frag} {sp : PySem.W.Frag → Sp} {x : Str}
    (most : l.most = some n) (small : n ≤ sizeLine) (plain : law.params.defaults = []) (room : Room k callerA) (kin : ∀ (u : World) (h : Heap), behind u h → (written u.params).In h)
    (F : ∀ (u : World) (names : Str → Option Value) (at_ : Addr) (h : Heap), (written u.params).In h → h.Ns mainGlobals names → names law.name = some (.ref at_) →
      ∃ fd : FuncData, (∀ (s : Shared) (v : Value), BindsTo s fd ⟨[v], []⟩ [(x, v)]) ∧ ∀ base : Heap, (written u.params).In base → base.Ns mainGlobals names → FnG l.prog u (written u.params) names base k at_ fd [x] (sp (written u.params)))
    (told : ∀ (K : PySem.W.Frag) (H : Hp) (a : Addr) (ns : List Int), ns.length ≤ n → SqL K H a (ns.map V.int) → sp K [.ref a] H (fun v _ => v = .bl true) fun _ _ _ => False) :
    PySem.W.WalkO whole loose before behind l.row.toRowW law [] (fun f vs => PySem.call f vs) := by
  apply Att.attach_call most plain
  intro w s0 s mg mb fa o pm cd doc a vs ns G Y ho hd hcd hmg script isInts len gens
  obtain ⟨fd, binds, ok⟩ := F w mg fa _ (kin w _ Y) G.T.g hmg
  exact law_callG (kin w _ Y) G.T.g G.T.b G.T.builtins G.T.nolimit gens script isInts (Nat.le_trans len small) room ok binds fun H is => told _ H a ns len is
end CaG
set_option Elab.async false
set_option linter.all false
set_option maxRecDepth 100000
/-! A purse of draws: a list of three numbers that a def changes; nothing else changes, new things may come. -/
namespace CaV
open PySem PySem.Spec PyProof.Rows L2
/-- the purse at b: what is left of a great number, a rest, a count of at most n -/
def Bx (H : Hp) (b : Addr) (n : Nat) : Prop := ∃ m r c : Int, H b = some (.lst [.int m, .int r, .int c]) ∧ 0 ≤ m ∧ 0 ≤ r ∧ r < 2147483629 ∧ 0 ≤ c ∧ c ≤ n
/-- all that stood in H stands in H', but what is at b -/
def Kp (b : Addr) (H H' : Hp) : Prop := ∀ a o, H a = some o → a ≠ b → H' a = some o
theorem Kp.refl (b : Addr) (H : Hp) : Kp b H H := fun _ _ h _ => h
theorem Kp.trans {b : Addr} {H H1 H2 : Hp} (x : Kp b H H1) (y : Kp b H1 H2) : Kp b H H2 := fun a o h n => y a o (x a o h n) n
theorem Kp.new {b p : Addr} {H : Hp} {o : HO} (h : H p = none) : Kp b H (upd H p o) := fun a u e _ => by
  rw [upd_ne (ne_of_none e h)]
  exact e
theorem Kp.at {b : Addr} {H : Hp} {o : HO} : Kp b H (upd H b o) := fun a u e n => by
  rw [upd_ne n]
  exact e
theorem Kp.of_same {b : Addr} {H H' : Hp} (s : Same H H') : Kp b H H' := fun a o e _ => s a o e
theorem Bx.mono {H : Hp} {b : Addr} {n k : Nat} (h : Bx H b n) (e : n ≤ k) : Bx H b k := by
  obtain ⟨m, r, c, h1, h2, h3, h4, h5, h6⟩ := h
  exact ⟨m, r, c, h1, h2, h3, h4, h5, by omega⟩
theorem Bx.new {H : Hp} {b p : Addr} {n : Nat} {o : HO} (h : Bx H b n) (hp : H p = none) : Bx (upd H p o) b n := by
  obtain ⟨m, r, c, h1, h⟩ := h
  exact ⟨m, r, c, by rw [upd_ne (ne_of_none h1 hp)]; exact h1, h⟩
theorem Bx.there {H : Hp} {b : Addr} {n : Nat} (h : Bx H b n) : ∃ o, H b = some o := by
  obtain ⟨m, r, c, h1, _⟩ := h
  exact ⟨_, h1⟩
theorem Bx.ne {H : Hp} {b p : Addr} {n : Nat} (h : Bx H b n) (hp : H p = none) : p ≠ b := fun z => by
  obtain ⟨o, e⟩ := h.there
  rw [z, e] at hp
  cases hp
/-- what was free later was free before -/
theorem Kp.free {b p : Addr} {H H' : Hp} {n : Nat} (k : Kp b H H') (x : Bx H' b n) (h : H' p = none) : H p = none := by
  cases e : H p with
  | none => rfl
  | some o =>
    rw [k p o e (x.ne h)] at h
    cases h
theorem Kp.seqL {b a : Addr} {K : PySem.W.Frag} {H H' : Hp} {xs : List V} (k : Kp b H H') (n : a ≠ b) (h : SqL K H a xs) : SqL K H' a xs := by
  rcases h with (h | ⟨o, h⟩) | h
  · exact .inl (.inl (k _ _ h n))
  · exact .inl (.inr ⟨o, k _ _ h n⟩)
  · exact .inr h
/-- a change that leaves all of H but the purse, which is new since H0: H0 stands as it was -/
theorem Kp.same {b : Addr} {H0 H H' : Hp} (s : Same H0 H) (k : Kp b H H') (n : H0 b = none) : Same H0 H' := fun a o e => k a o (s a o e) (ne_of_none e n)
theorem emod_bd {x k : Int} (h : 0 < k) : 0 ≤ x % k ∧ x % k < k := ⟨Int.emod_nonneg x (by omega), Int.emod_lt_of_pos x h⟩
theorem pow_bd {x : Int} (h0 : 0 ≤ x) (h : x < 1000000000000000) : 0 ≤ (5 : Int) ∧ (5 : Int) ≤ 1000000 ∧ x.natAbs < 2 ^ 64 := ⟨by decide, by decide, by omega⟩
theorem pow_bd3 {x : Int} (h0 : 0 ≤ x) (h : x < 1000000000000000) : 0 ≤ (3 : Int) ∧ (3 : Int) ≤ 1000000 ∧ x.natAbs < 2 ^ 64 := ⟨by decide, by decide, by omega⟩
/-- the promise of a draw -/
def spTake : Sp := fun vs H Q _ => ∃ (b : Addr) (many : Int) (n : Nat), vs = [.ref b, .int many] ∧ Bx H b n ∧ n < 1000000 ∧ 0 < many ∧ many < 1073741824 ∧
  ∀ (d : Int) (H' : Hp), 0 ≤ d → d < many → Bx H' b (n + 1) → Kp b H H' → Q (.int d) H'
/-- the promise of a new purse -/
def spBox : Sp := fun vs H Q _ => ∃ (x : Int), vs = [.int x] ∧ ∀ (b : Addr) (H' : Hp), H b = none → Same H H' → Bx H' b 0 → Q (.ref b) H'
/-- the promise of a cell -/
def spCell (K : PySem.W.Frag) : Sp := fun vs H Q _ => ∃ (a : Addr) (ns : List Int) (j : Int), vs = [.ref a, .int j] ∧ SqL K H a (ns.map V.int) ∧ 0 ≤ j ∧ ∀ x : Int, Q (.int x) H
end CaV
set_option Elab.async false
set_option linter.all false
set_option maxRecDepth 100000
/-! Small facts that more than one law wants. -/
namespace CaL
open PySem PySem.Spec PyProof.Rows L2 CaV
theorem atI_in {α : Type} {xs : List α} {i : Int} (h0 : 0 ≤ i) (h1 : i < xs.length) : ∃ v, v ∈ xs ∧ atI xs i = some v := by
  have hj : i.toNat < xs.length := by omega
  refine ⟨xs[i.toNat], List.getElem_mem hj, ?_⟩
  have e := atI_nat (xs := xs) (j := i.toNat) (v := xs[i.toNat]) (List.getElem?_eq_getElem hj)
  rwa [Int.toNat_of_nonneg h0] at e
theorem cut_len (z : Str) (lo hi : Option Int) : (cutS z lo hi).length ≤ z.length := by
  unfold cutS
  show ((z.cps.toList.drop _).take _).toArray.size ≤ z.cps.size
  rw [List.size_toArray, List.length_take, List.length_drop, Array.length_toList]
  omega
theorem app_len (a b : Str) : (a ++ b).length = a.length + b.length := Str.length_append a b
theorem sz100 {n : Nat} (h : n ≤ 1000) : n ≤ sizeLine := Nat.le_trans h (by decide)
theorem atI_strs {zs : List Str} {i : Int} (h0 : 0 ≤ i) (h1 : i < zs.length) : ∃ z, z ∈ zs ∧ atI (zs.map V.str) i = some (.str z) := by
  obtain ⟨v, hv, e⟩ := atI_in (xs := zs.map V.str) h0 (by rw [List.length_map]; exact h1)
  obtain ⟨z, hz, rfl⟩ := List.mem_map.mp hv
  exact ⟨z, hz, e⟩
theorem sum_ones : ∀ {ys : List Str}, (∀ y ∈ ys, y.length = 1) → (ys.map (·.length)).sum = ys.length
  | [], _ => rfl
  | y :: r, h => by
    rw [List.map_cons, List.sum_cons, sum_ones (fun z hz => h z (List.mem_cons_of_mem _ hz)), h y List.mem_cons_self, List.length_cons]
    omega
theorem yes_at {σ : L2.St} {H : Hp} {F G : Hp → Prop} (h : F H) : tYes σ H (fun b H3 => if b = true then F H3 else G H3) := by
  show (if true = true then F H else G H)
  rw [if_pos rfl]
  exact h
/-- all its signs are plain ones -/
def Asc (x : Str) : Prop := ∀ c ∈ x.cps.toList, c < 128
theorem asc_app {a b : Str} (ha : Asc a) (hb : Asc b) : Asc (a ++ b) := fun c hc => by
  have e : (a ++ b).cps.toList = a.cps.toList ++ b.cps.toList := by
    rw [Str.cps_append, Array.toList_append]
  rw [e] at hc
  rcases List.mem_append.mp hc with h | h
  · exact ha c h
  · exact hb c h
theorem asc_cut {z : Str} (lo hi : Option Int) (h : Asc z) : Asc (cutS z lo hi) := fun c hc => by
  unfold cutS at hc
  exact h c (List.mem_of_mem_drop (List.mem_of_mem_take hc))
theorem asc_one {c : Nat} (h : c < 128) : Asc ⟨#[c]⟩ := fun d hd => by
  rw [show d = c from List.mem_singleton.mp hd]
  exact h
theorem empty_list : ("" : Str).cps.toList = [] := by decide +kernel
theorem asc_empty : Asc "" := by
  intro c hc
  rw [empty_list] at hc
  cases hc
theorem asc_joinS : ∀ {ys : List Str}, (∀ y ∈ ys, Asc y) → Asc (Str.join "" ys)
  | [], _ => fun c hc => absurd hc (by show ¬ c ∈ ([] : List Nat); simp)
  | [x], h => h x List.mem_cons_self
  | x :: y :: r, h => by
    show Asc (x ++ "" ++ Str.join "" (y :: r))
    exact asc_app (asc_app (h x List.mem_cons_self) asc_empty) (asc_joinS fun z hz => h z (List.mem_cons_of_mem _ hz))
theorem asc_join {ys : List Str} (h : ∀ y ∈ ys, Asc y) : Asc (Txt.join "" ys) := by
  show Asc (Builtin.Str.glued "" ys)
  rw [StrLaws.glued_eq_join]
  exact asc_joinS h
theorem asc_of {x : Str} (h : (x.cps.toList.all fun c => decide (c < 128)) = true) : Asc x := fun c hc => of_decide_eq_true (List.all_eq_true.mp h c hc)
theorem join_len0 {ys : List Str} (h : ∀ y ∈ ys, y.length = 1) : (Txt.join "" ys).length ≤ ys.length := by
  have e := StrLaws.join_length_le "" ys
  show (Builtin.Str.glued "" ys).length ≤ ys.length
  rw [StrLaws.glued_eq_join]
  rw [sum_ones h] at e
  have e2 : ("" : Str).length = 0 := by decide +kernel
  rw [e2, Nat.mul_zero] at e
  exact e
theorem arr_all {p : Nat → Bool} {x : Str} : x.cps.all p = x.cps.toList.all p := by
  rw [← Array.all_toList]
theorem arr_any {p : Nat → Bool} {x : Str} : x.cps.any p = x.cps.toList.any p := by
  rw [← Array.any_toList]
theorem shaped_strs {ys : List Str} (h : ∀ y ∈ ys, Asc y) : SeqAt.shaped (.list (ys.map PyData.str)) = true := by
  have h1 : ∀ {ys : List Str}, (∀ y ∈ ys, Asc y) → PyData.canLayAll0 (ys.map PyData.str) = true := by
    intro ys
    induction ys with
    | nil =>
      intro _
      simp [PyData.canLayAll0]
    | cons y r ih =>
      intro h
      rw [List.map_cons]
      unfold PyData.canLayAll0
      rw [ih fun z hz => h z (List.mem_cons_of_mem _ hz), Bool.and_true]
      unfold PyData.canLay0 PyData.strOk
      rw [arr_all, List.all_eq_true]
      intro c hc
      have := h y List.mem_cons_self c hc
      exact decide_eq_true (by omega)
  have h2 : ∀ ys : List Str, PyData.depthAll (ys.map PyData.str) = 0 := by
    intro ys
    induction ys with
    | nil => simp [PyData.depthAll]
    | cons y r ih =>
      rw [List.map_cons]
      unfold PyData.depthAll
      rw [ih]
      simp [PyData.depth]
  unfold SeqAt.shaped
  rw [Bool.and_eq_true]
  refine ⟨?_, decide_eq_true ?_⟩
  · unfold PyData.canLay0
    exact h1 h
  · unfold PyData.depth
    rw [h2]
    decide
theorem dp_strs {K : PySem.W.Frag} {H : Hp} : ∀ ys : List Str, DpAll K H (ys.map V.str) (ys.map PyData.str)
  | [] => .nil
  | y :: r => .cons (.str y) (dp_strs r)
theorem eqv_nil (ys : List Str) : PyData.eqv (.list (ys.map PyData.str)) (.list []) = ys.isEmpty := by
  cases ys with
  | nil => simp [PyData.eqv, PyData.eqvAll]
  | cons y r => simp [PyData.eqv, PyData.eqvAll]
/-! ### the promises -/
theorem same_new {H : Hp} {p : Addr} {o : HO} (h : H p = none) : Same H (upd H p o) := fun b x e => by
  rw [upd_ne (ne_of_none e h)]
  exact e
theorem lt_one (a c : Nat) : decide (([a] : List Nat) < [c]) = decide (a < c) := by
  rw [Bool.eq_iff_iff]
  simp [List.cons_lt_cons_iff]
/-- the class of an exception: all that is asked of it -/
structure TX (K : PySem.W.Frag) (mg : Str → Option Value) (C fI : Addr) : Prop where
  ox : OexC K C
  ex : ExcC K C
  no : PySem.W.findIn K (.ref C) "value" = some none
  iC : PySem.W.findIn K (.ref C) "__init__" = some (some (.ref fI))
  tI : PySem.W.typeIn K (.ref fI) = some (.type "function")
  gC : mg "InvalidName" = some (.ref C)
  ks : PySem.W.kitOne K (.ref C) (.type "str") = some false
def spInit (C : Addr) : Sp := fun vs H Q _ => ∃ (a : Addr) (v : V), vs = [.ref a, v] ∧ H a = some (exo a C none) ∧ ∀ dx, H dx = none → dx ≠ a → Q .non (upd (upd H dx (exd dx [("value", v)])) a (exo a C (some dx)))
def spLaw (K : PySem.W.Frag) : Sp := fun vs H Q _ => ∃ (a : Addr) (ns : List Int), vs = [.ref a] ∧ SqL K H a (ns.map V.int) ∧ ns.length ≤ 63 ∧ ∀ H', Q (.bl true) H'
theorem same_put {H : Hp} {p : Addr} {o o' : HO} (h : H p = none) : Same H (upd (upd H p o) p o') := fun b x e => by
  rw [upd_ne (ne_of_none e h), upd_ne (ne_of_none e h)]
  exact e
theorem _root_.CaV.Bx.same {H H' : Hp} {b : Addr} {n : Nat} (h : Bx H b n) (s : Same H H') : Bx H' b n := by
  obtain ⟨m, r, c, h1, h⟩ := h
  exact ⟨m, r, c, s _ _ h1, h⟩
theorem _root_.CaV.ExAt.same {H H' : Hp} {C a : Addr} (h : ExAt H C a) (s : Same H H') : ExAt H' C a := by
  obtain ⟨d, fs, h1, h2⟩ := h
  exact ⟨d, fs, s _ _ h1, s _ _ h2⟩
theorem same_exc {H : Hp} {C e0 dx ea : Addr} {ex ey ez ew eq : HO} (m0 : H e0 = none) (nd : H dx = none) (ma : upd (del (upd (upd (upd H e0 ex) dx ey) e0 ez) e0) dx ew ea = none) : Same H (upd (upd (del (upd (upd (upd H e0 ex) dx ey) e0 ez) e0) dx ew) ea eq) := fun b o e => by
  have n0 : b ≠ e0 := ne_of_none e m0
  have n1 : b ≠ dx := ne_of_none e nd
  have n2 : b ≠ ea := fun z => by
    rw [← z, upd_ne n1, del_ne n0, upd_ne n0, upd_ne n1, upd_ne n0, e] at ma
    cases ma
  rw [upd_ne n2, upd_ne n1, del_ne n0, upd_ne n0, upd_ne n1, upd_ne n0]
  exact e
theorem ifn {b : Bool} {A B : Prop} (e : b = true) (h : B) : if (!b) = true then A else B := by
  rw [e]
  exact iteF h
theorem mem_get {xs : List V} {i : Nat} {y : V} (h : xs[i]? = some y) : y ∈ xs := List.mem_of_getElem? h
end CaL
set_option Elab.async false
set_option linter.all false
set_option maxRecDepth 100000
/-! repr of data, and of dicts of ints and lists of ints, where no repr is under way. -/
namespace CaG
open PySem PySem.Spec PyProof.Rows L2
def encK : Key → PyData
  | .inl i => .int i
  | .inr x => .str x
/-- what a dict may hold here: an int, or a list of ints (no list at the place of sys.modules) -/
def Sv (H : Hp) (v : V) (d : PyData) : Prop := (∃ i, v = .int i ∧ d = .int i) ∨ ∃ (l : Addr) (is : List Int), v = .ref l ∧ l ≠ sysModules ∧ H l = some (.lst (is.map V.int)) ∧ d = .list (is.map PyData.int)
inductive SvAll (H : Hp) : List (Key × V) → List (PyData × PyData) → Prop
  | nil : SvAll H [] []
  | cons {k : Key} {v : V} {d : PyData} {r : List (Key × V)} {ds : List (PyData × PyData)} : Sv H v d → SvAll H r ds → SvAll H ((k, v) :: r) ((encK k, d) :: ds)
section
variable {X : Cx} {pins : List (Addr × Obj)} {σ : L2.St} {H : Hp} {s : Shared}
theorem reads_ints {h : Heap} : ∀ {is : List Int} {us : List Value}, Vals (is.map V.int) us → ReadsAll h us (is.map PyData.int) []
  | [], _, r => by
    cases r
    exact .nil
  | i :: is, _, r => by
    cases r with
    | cons r1 r2 =>
      obtain ⟨t, rfl⟩ := r1
      exact ReadsAll.cons (.int i t) (reads_ints r2)
theorem Sv.reads (I : Inv X pins σ H s) {v : V} {d : PyData} {u : Value} (h : Sv H v d) (r : RelV v u) : ∃ as, Reads s.heap u d as ∧ sysModules ∉ as := by
  rcases h with ⟨i, rfl, rfl⟩ | ⟨l, is, rfl, ne, hl, rfl⟩
  · obtain ⟨t, rfl⟩ := r
    exact ⟨[], .int i t, List.not_mem_nil⟩
  · cases r
    obtain ⟨its, rv, ⟨o, n, ho, hc, _, hd⟩, _⟩ := I.list (SqL.of (K := X.K) hl)
    exact ⟨[l], Reads.list ho hc hd (reads_ints rv), fun m => ne (List.mem_singleton.mp m).symm⟩
theorem SvAll.reads (I : Inv X pins σ H s) : ∀ {kvs : List (Key × V)} {ds : List (PyData × PyData)} {vs : List (Key × Value)}, SvAll H kvs ds → KV kvs vs → ∃ bs, PyProof.V.PairsRead s.heap encK vs ds bs ∧ sysModules ∉ bs
  | _, _, _, .nil, r => by
    cases r
    exact ⟨[], .nil, List.not_mem_nil⟩
  | _, _, _, .cons h1 h2, r => by
    cases r with
    | cons r1 r2 =>
      rename_i q qs
      obtain ⟨k, u⟩ := q
      obtain ⟨e, r1⟩ := r1
      cases e
      obtain ⟨as, a1, a2⟩ := h1.reads I r1
      obtain ⟨bs, b1, b2⟩ := SvAll.reads I h2 r2
      exact ⟨as ++ bs, .cons a1 b1, fun m => (List.mem_append.mp m).elim a2 b2⟩
end
/-- repr of such a dict -/
def rReprM : List V → Hp → VK → Prop := fun xs H Q => ∃ (p : Addr) (kvs : List (Key × V)) (ds : List (PyData × PyData)), xs = [.ref p] ∧ H p = some (.dK kvs) ∧ SvAll H kvs ds ∧ (PyData.dict ds).showable = true ∧ (PyData.dict ds).depth ≤ 60 ∧ (PyData.dict ds).shown.length ≤ sizeLine ∧ Q (.str (PyData.dict ds).shown) H
theorem call_reprM {X : Cx} (quiet : X.A.guards = some []) (hu : X.A.units + 64 < cLine) : CallR X (.builtin "repr") rReprM := by
  intro pins s σ H xs us Q inv rel told
  obtain ⟨p, kvs, ds, rfl, hp, sv, hs, depth, size, q⟩ := told
  obtain ⟨u, rfl, rx⟩ := vals1 rel
  cases rx
  obtain ⟨_, nsm, vs, kv, dof⟩ := dk_of inv.hok hp
  obtain ⟨bs, rd, nb⟩ := sv.reads inv kv
  have whole := PyProof.V.reads_dictOf (knd := mixKind X.prog X.w) (enc := encK) (fun k key hk => by
    rcases keyIs_shape hk with ⟨i, t, rfl, rfl⟩ | ⟨x, t, rfl, rfl⟩
    · exact .int i t
    · exact .str x t) dof rd
  refine repr_of_reads' whole hs (fun _ m => ?_) quiet (by omega) (fun _ _ z => z) (fun h' u tk kept => ⟨.str _, H, inv.kept (t' := tk) kept, ⟨_, rfl⟩, q⟩) size
  rcases List.mem_cons.mp m with z | z
  · rw [← z] at nsm
    exact absurd nsm (by decide)
  · exact nb z
/-- a new list, not at the place of sys.modules -/
def tLstN (t : TA) : TE := fun σ H Q => t σ H fun xs H1 => xs.length ≤ sizeLine ∧ ∀ p, H1 p = none → p ≠ sysModules → Q (.ref p) (upd H1 p (.lst xs))
theorem pe_lstN {X : Cx} {es : List Expr} {t : TA} {pos : Pos} (h : PA X es t) : PE X (.List es pos) (tLstN t) := by
  constructor
  intro pins s σ H Q inv want
  apply wpAny_List_spliced
  refine thn (h.run pos pins s σ H _ inv want) fun us s1 got => ?_
  obtain ⟨xs, H1, J, r, z, q⟩ := got
  have new := J.hok.fresh (Nat.le_refl s1.heap.objs.size)
  refine ⟨by rw [← r.length]; exact z, .ref _, upd H1 s1.heap.objs.size (.lst xs), J.laid (t' := s1.toks) (fun _ _ e => Heap.get?_push_of_some _ e) (Nat.le_refl _) ⟨z, us, 0, r, Heap.get?_push_size _ rfl⟩, rfl, q _ new (Nat.ne_of_gt J.big)⟩
end CaG
set_option Elab.async false
set_option linter.all false
set_option maxRecDepth 100000
/-! Such data in the heap: repr, isinstance. -/
namespace CaD
open PySem PySem.Spec PyProof.Rows L2 CaV CaL
mutual
/-- v is the data d; the purse at b is no part of it -/
inductive Dq (b : Addr) (H : Hp) : V → PyData → Prop
  | non : Dq b H .non .none
  | bl (x : Bool) : Dq b H (.bl x) (.bool x)
  | int (i : Int) : Dq b H (.int i) (.int i)
  | str (x : Str) : Dq b H (.str x) (.str x)
  | lst {a : Addr} {xs : List V} {ds : List PyData} : H a = some (.lst xs) → a ≠ b → DqAll b H xs ds → Dq b H (.ref a) (.list ds)
  | tup {a : Addr} {xs : List V} {ds : List PyData} : H a = some (.tup xs) → DqAll b H xs ds → Dq b H (.ref a) (.tuple ds)
  | emp {a : Addr} : H a = some (.dK []) → Dq b H (.ref a) (.dict [])
inductive DqAll (b : Addr) (H : Hp) : List V → List PyData → Prop
  | nil : DqAll b H [] []
  | cons {v : V} {vs : List V} {d : PyData} {ds : List PyData} : Dq b H v d → DqAll b H vs ds → DqAll b H (v :: vs) (d :: ds)
end
section
variable {b : Addr} {H H' : Hp}
mutual
theorem Dq.kp {n : Nat} (x : Bx H b n) (k : Kp b H H') : ∀ (d : PyData) (v : V), Dq b H v d → Dq b H' v d
  | .none, _, h => by
    cases h
    exact .non
  | .bool y, _, h => by
    cases h
    exact .bl y
  | .int i, _, h => by
    cases h
    exact .int i
  | .str z, _, h => by
    cases h
    exact .str z
  | .list ds, _, h => by
    cases h with
    | lst h1 h2 h4 => exact .lst (k _ _ h1 h2) h2 (DqAll.kp x k ds _ h4)
  | .tuple ds, _, h => by
    cases h with
    | tup h1 h2 =>
      obtain ⟨m, r, c, e, _⟩ := x
      exact .tup (k _ _ h1 (ne_of h1 e (fun z => nomatch z))) (DqAll.kp ⟨m, r, c, e, by assumption⟩ k ds _ h2)
  | .dict _, _, h => by
    cases h with
    | emp h1 =>
      obtain ⟨m, r, c, e, _⟩ := x
      exact .emp (k _ _ h1 (ne_of h1 e (fun z => nomatch z)))
theorem DqAll.kp {n : Nat} (x : Bx H b n) (k : Kp b H H') : ∀ (ds : List PyData) (vs : List V), DqAll b H vs ds → DqAll b H' vs ds
  | [], _, h => by
    cases h
    exact .nil
  | d :: ds, _, h => by
    cases h with
    | cons h1 h2 => exact .cons (Dq.kp x k d _ h1) (DqAll.kp x k ds _ h2)
end
mutual
theorem Dq.same (s : Same H H') : ∀ (d : PyData) (v : V), Dq b H v d → Dq b H' v d
  | .none, _, h => by
    cases h
    exact .non
  | .bool y, _, h => by
    cases h
    exact .bl y
  | .int i, _, h => by
    cases h
    exact .int i
  | .str z, _, h => by
    cases h
    exact .str z
  | .list ds, _, h => by
    cases h with
    | lst h1 h2 h4 => exact .lst (s _ _ h1) h2 (DqAll.same s ds _ h4)
  | .tuple ds, _, h => by
    cases h with
    | tup h1 h2 => exact .tup (s _ _ h1) (DqAll.same s ds _ h2)
  | .dict _, _, h => by
    cases h with
    | emp h1 => exact .emp (s _ _ h1)
theorem DqAll.same (s : Same H H') : ∀ (ds : List PyData) (vs : List V), DqAll b H vs ds → DqAll b H' vs ds
  | [], _, h => by
    cases h
    exact .nil
  | d :: ds, _, h => by
    cases h with
    | cons h1 h2 => exact .cons (Dq.same s d _ h1) (DqAll.same s ds _ h2)
end
theorem DqAll.len : ∀ {vs : List V} {ds : List PyData}, DqAll b H vs ds → vs.length = ds.length
  | _, _, .nil => rfl
  | _, _, .cons _ t => by
    rw [List.length_cons, List.length_cons, t.len]
theorem DqAll.append : ∀ {vs ws : List V} {ds es : List PyData}, DqAll b H vs ds → DqAll b H ws es → DqAll b H (vs ++ ws) (ds ++ es)
  | _, _, _, _, .nil, h => h
  | _, _, _, _, .cons x t, h => .cons x (t.append h)
theorem DqAll.get : ∀ {vs : List V} {ds : List PyData} {i : Nat} {d : PyData}, DqAll b H vs ds → ds[i]? = some d → ∃ v, vs[i]? = some v ∧ Dq b H v d
  | _, _, _, _, .nil, e => by simp at e
  | _, _, 0, _, .cons x _, e => by
    simp at e
    subst e
    exact ⟨_, rfl, x⟩
  | _, _, i + 1, _, .cons _ t, e => by
    obtain ⟨v, h1, h2⟩ := DqAll.get (i := i) t (by simpa using e)
    exact ⟨v, by simpa using h1, h2⟩
theorem DqAll.take : ∀ {vs : List V} {ds : List PyData} (n : Nat), DqAll b H vs ds → DqAll b H (vs.take n) (ds.take n)
  | _, _, 0, _ => .nil
  | _, _, _ + 1, .nil => .nil
  | _, _, n + 1, .cons x t => .cons x (t.take n)
theorem DqAll.drop : ∀ {vs : List V} {ds : List PyData} (n : Nat), DqAll b H vs ds → DqAll b H (vs.drop n) (ds.drop n)
  | _, _, 0, h => h
  | _, _, _ + 1, .nil => .nil
  | _, _, n + 1, .cons _ t => t.drop n
theorem DqAll.reverse : ∀ {vs : List V} {ds : List PyData}, DqAll b H vs ds → DqAll b H vs.reverse ds.reverse
  | _, _, .nil => .nil
  | _, _, .cons x t => by
    rw [List.reverse_cons, List.reverse_cons]
    exact t.reverse.append (.cons x .nil)
theorem DqAll.cut {vs : List V} {ds : List PyData} (lo hi : Option Int) (h : DqAll b H vs ds) : DqAll b H (cutV vs lo hi) ((ds.drop (HT.sIx ds.length 0 lo)).take (HT.sIx ds.length ds.length hi - HT.sIx ds.length 0 lo)) := by
  have e := h.len
  show DqAll b H ((vs.drop (HT.sIx vs.length 0 lo)).take (HT.sIx vs.length vs.length hi - HT.sIx vs.length 0 lo)) _
  rw [e]
  exact (h.drop _).take _
end
/-! ### repr -/
section
variable {X : Cx} {pins : List (Addr × Obj)} {σ : L2.St} {H : Hp} {s : Shared} {b : Addr}
theorem emp_reads (I : Inv X pins σ H s) {a : Addr} (h1 : H a = some (.dK [])) : ∃ as, Reads s.heap (.ref a) (.dict []) as ∧ sysModules ∉ as := by
  obtain ⟨_, nsm, vs, kv, dof⟩ := dk_of I.hok h1
  cases kv
  have whole := PyProof.V.reads_dictOf (knd := mixKind X.prog X.w) (enc := CaG.encK) (fun k key hk => by
    rcases keyIs_shape hk with ⟨i, t, rfl, rfl⟩ | ⟨x, t, rfl, rfl⟩
    · exact .int i t
    · exact .str x t) dof .nil
  refine ⟨_, whole, fun m => ?_⟩
  rcases List.mem_cons.mp m with z | z
  · rw [← z] at nsm
    exact absurd nsm (by decide)
  · cases z
mutual
theorem Dq.reads (I : Inv X pins σ H s) : ∀ (d : PyData) (v : V) (u : Value), Dq b H v d → RelV v u → ∃ as, Reads s.heap u d as
  | .none, _, _, h, r => by
    cases h
    cases r
    exact ⟨[], Reads.none⟩
  | .bool y, _, _, h, r => by
    cases h
    cases r
    exact ⟨[], Reads.bool y⟩
  | .int i, _, _, h, r => by
    cases h
    obtain ⟨t, rfl⟩ := r
    exact ⟨[], Reads.int i t⟩
  | .str x, _, _, h, r => by
    cases h
    obtain ⟨t, rfl⟩ := r
    exact ⟨[], Reads.str x t⟩
  | .list ds, _, _, h, r => by
    cases h with
    | lst h1 h2 h4 =>
      cases r
      obtain ⟨its, rv, ⟨o, n, ho, hc, _, hd⟩, _⟩ := I.list (SqL.of (K := X.K) h1)
      obtain ⟨as, q1⟩ := Dq.readsAll I ds _ its h4 rv
      exact ⟨_, Reads.list ho hc hd q1⟩
  | .tuple ds, _, _, h, r => by
    cases h with
    | tup h1 h2 =>
      cases r
      obtain ⟨its, rv, ⟨o, ho, hc, n, hd⟩, _⟩ := I.tuple (SqT.of (K := X.K) h1)
      obtain ⟨as, q1⟩ := Dq.readsAll I ds _ its h2 rv
      exact ⟨_, Reads.tuple ho hc hd q1⟩
  | .dict _, _, _, h, r => by
    cases h with
    | emp h1 =>
      cases r
      obtain ⟨as, q, _⟩ := emp_reads I h1
      exact ⟨as, q⟩
theorem Dq.readsAll (I : Inv X pins σ H s) : ∀ (ds : List PyData) (vs : List V) (us : List Value), DqAll b H vs ds → Vals vs us → ∃ as, ReadsAll s.heap us ds as
  | [], _, _, h, r => by
    cases h
    cases r
    exact ⟨[], ReadsAll.nil⟩
  | d :: ds, _, _, h, r => by
    cases h with
    | cons h1 h2 =>
      cases r with
      | cons r1 r2 =>
        obtain ⟨as, q1⟩ := Dq.reads I d _ _ h1 r1
        obtain ⟨bs, q2⟩ := Dq.readsAll I ds _ _ h2 r2
        exact ⟨_, ReadsAll.cons q1 q2⟩
end
theorem low_list {n : Nat} {xs : List PyData} (h : (PyData.shown (.list xs)).length ≤ n) : ∀ t ∈ PyData.shownAll xs, t.length ≤ n := fun t ht => Nat.le_trans (listText_mem_le ht) (by simpa only [PyData.shown] using h)
theorem low_tup {n : Nat} {xs : List PyData} (h : (PyData.shown (.tuple xs)).length ≤ n) : ∀ t ∈ PyData.shownAll xs, t.length ≤ n := fun t ht => Nat.le_trans (tupleText_mem_le ht) (by simpa only [PyData.shown] using h)
mutual
/-- how the library's repr shows it, within whatever is being shown -/
theorem Dq.repK (I : Inv X pins σ H s) : ∀ (d : PyData) (v : V) (u : Value), Dq b H v d → RelV v u → d.showable = true → d.shown.length ≤ sizeLine → ∃ bs, ReadAtMost s.heap d.depth bs ∧ ReprK X.prog X.w bs s.heap d.depth u d.shown
  | .none, _, _, h, r, hs, hz => by
    obtain ⟨as, q⟩ := Dq.reads I _ _ _ h r
    exact ReprK.of_reads q hs (fun z => by simp [PyData.hasDict] at z) hz
  | .bool y, _, _, h, r, hs, hz => by
    obtain ⟨as, q⟩ := Dq.reads I _ _ _ h r
    exact ReprK.of_reads q hs (fun z => by simp [PyData.hasDict] at z) hz
  | .int i, _, _, h, r, hs, hz => by
    obtain ⟨as, q⟩ := Dq.reads I _ _ _ h r
    exact ReprK.of_reads q hs (fun z => by simp [PyData.hasDict] at z) hz
  | .str x, _, _, h, r, hs, hz => by
    obtain ⟨as, q⟩ := Dq.reads I _ _ _ h r
    exact ReprK.of_reads q hs (fun z => by simp [PyData.hasDict] at z) hz
  | .list ds, _, _, h, r, hs, hz => by
    obtain ⟨as, rd⟩ := Dq.reads I _ _ _ h r
    cases h with
    | lst h1 h2 h4 =>
      cases r
      obtain ⟨its, rv, ⟨o, n, ho, hc, _, hd⟩, _⟩ := I.list (SqL.of (K := X.K) h1)
      obtain ⟨bs, hb, hk⟩ := Dq.repAll I ds _ its h4 rv (by simpa [PyData.showable] using hs) (low_list hz)
      have far := not_mem_of_deeper rd (by simp only [PyData.depth]; omega) hb
      refine ⟨_, ReadAtMost.cons rd (by simp only [PyData.depth]; omega) hb, ?_⟩
      simp only [PyData.depth, PyData.shown]
      cases its with
      | nil =>
        cases rv
        cases h4
        simp only [PyData.shownAll, listText_nil]
        exact ReprK.listEmpty ho hc hd
      | cons x l => exact ReprK.list ho hc hd far (by simpa using hk.length_eq) (fun i y e => hk.item i y (by simpa using e))
  | .tuple ds, _, _, h, r, hs, hz => by
    obtain ⟨as, rd⟩ := Dq.reads I _ _ _ h r
    cases h with
    | tup h1 h2 =>
      cases r
      obtain ⟨its, rv, ⟨o, ho, hc, n, hd⟩, _⟩ := I.tuple (SqT.of (K := X.K) h1)
      obtain ⟨bs, hb, hk⟩ := Dq.repAll I ds _ its h2 rv (by simpa [PyData.showable] using hs) (low_tup hz)
      have far := not_mem_of_deeper rd (by simp only [PyData.depth]; omega) hb
      refine ⟨_, ReadAtMost.cons rd (by simp only [PyData.depth]; omega) hb, ?_⟩
      simp only [PyData.depth, PyData.shown]
      exact ReprK.tuple ho hc hd far hk
  | .dict _, _, _, h, r, hs, hz => by
    cases h with
    | emp h1 =>
      cases r
      obtain ⟨as, q, n⟩ := emp_reads I h1
      exact ReprK.of_reads q hs (fun _ => n) hz
theorem Dq.repAll (I : Inv X pins σ H s) : ∀ (ds : List PyData) (vs : List V) (us : List Value), DqAll b H vs ds → Vals vs us → PyData.showableAll ds = true → (∀ t ∈ PyData.shownAll ds, t.length ≤ sizeLine) → ∃ bs, ReadAtMost s.heap (PyData.depthAll ds) bs ∧ ReprAllK X.prog X.w bs s.heap (PyData.depthAll ds) us (PyData.shownAll ds)
  | [], _, _, h, r, _, _ => by
    cases h
    cases r
    refine ⟨[], (fun _ z => (nomatch z)), ?_⟩
    simp only [PyData.shownAll]
    exact .nil
  | d :: ds, _, _, h, r, hs, hz => by
    have hs : d.showable = true ∧ PyData.showableAll ds = true := by simpa [PyData.showableAll] using hs
    have hz : ∀ t, t = d.shown ∨ t ∈ PyData.shownAll ds → t.length ≤ sizeLine := fun t ht => hz t (by
      simp only [PyData.shownAll]
      exact List.mem_cons.mpr ht)
    cases h with
    | cons h1 h2 =>
      cases r with
      | cons r1 r2 =>
        obtain ⟨b1, m1, k1⟩ := Dq.repK I d _ _ h1 r1 hs.1 (hz _ (.inl rfl))
        obtain ⟨b2, m2, k2⟩ := Dq.repAll I ds _ _ h2 r2 hs.2 (fun t ht => hz t (.inr ht))
        simp only [PyData.depthAll, PyData.shownAll]
        refine ⟨b1 ++ b2, fun c m => ?_, .cons ((k1.more fun c m => List.mem_append_left _ m).level_le (Nat.le_max_left _ _)) (k2.more_le (fun c m => List.mem_append_right _ m) (Nat.le_max_right _ _))⟩
        rcases List.mem_append.mp m with m | m
        · obtain ⟨e, es, re, le⟩ := m1 c m
          exact ⟨e, es, re, Nat.le_trans le (Nat.le_max_left _ _)⟩
        · obtain ⟨e, es, re, le⟩ := m2 c m
          exact ⟨e, es, re, Nat.le_trans le (Nat.le_max_right _ _)⟩
end
/-- repr of such data -/
def rReprQ (b : Addr) : List V → Hp → VK → Prop := fun xs H Q => ∃ (x : V) (d : PyData), xs = [x] ∧ Dq b H x d ∧ fine d = true ∧ wt d ≤ 60000 ∧ d.depth ≤ 60 ∧ Q (.str d.shown) H
theorem fine_fits {d : PyData} (f : fine d = true) (h : wt d ≤ 60000) : d.shown.length ≤ sizeLine := by
  have := fine_weight d f
  exact PyData.shown_fits (by decide) (by decide) (fine_short d f) (by
    have e : (2 : Nat) ^ 20 = 1048576 := by decide
    omega)
theorem call_reprQ (quiet : X.A.guards = some []) (hu : X.A.units + 64 < cLine) : CallR X (.builtin "repr") (rReprQ b) := by
  intro pins s σ H xs us Q inv rel told
  obtain ⟨x, d, rfl, dq, hf, hw, depth, q⟩ := told
  have size := fine_fits hf hw
  have hs := fine_show d hf
  obtain ⟨u, rfl, rx⟩ := vals1 rel
  have fin : ∀ (h' : Heap) (u : Tok) (tk : Nat), (∀ c o, s.heap.get? c = some o → h'.get? c = some o) → EP X pins σ Q (.str d.shown u) { s with heap := h', toks := tk } := fun h' u tk kept => ⟨.str d.shown, H, inv.kept (t' := tk) kept, ⟨_, rfl⟩, q⟩
  cases d with
  | none =>
    cases dq
    cases rx
    exact PySem.P.repr_of_none ⟨.str PyData.none.shown, H, inv.tok _, ⟨_, rfl⟩, q⟩
  | bool y =>
    cases dq
    cases rx
    exact PySem.P.repr_of_bool ⟨.str (PyData.bool y).shown, H, inv.tok _, ⟨_, by cases y <;> rfl⟩, q⟩
  | int i =>
    cases dq
    obtain ⟨t, rfl⟩ := rx
    exact PySem.P.repr_of_int (of_decide_eq_true hs) ⟨.str (PyData.int i).shown, H, inv.tok _, ⟨_, rfl⟩, q⟩
  | str z =>
    cases dq
    obtain ⟨t, rfl⟩ := rx
    exact PySem.P.repr_of_str ⟨.str (PyData.str z).shown, H, inv.tok _, ⟨_, rfl⟩, q⟩ size
  | list ds =>
    obtain ⟨as, rd⟩ := Dq.reads inv _ _ _ dq rx
    cases dq with
    | lst h1 h2 h4 =>
      cases rx
      obtain ⟨its, rv, ⟨o, n, ho, hc, _, hd⟩, _⟩ := inv.list (SqL.of (K := X.K) h1)
      obtain ⟨bs, hb, hk⟩ := Dq.repAll inv ds _ its h4 rv (by simpa [PyData.showable] using hs) (low_list size)
      have far := not_mem_of_deeper rd (by simp only [PyData.depth]; omega) hb
      simp only [PyData.depth] at depth
      simp only [PyData.shown] at fin size
      refine call_repr_slot (by omega) ⟨o, ho, hc⟩ PySem.F.slot_list_repr.toG ?_
      cases its with
      | nil =>
        cases rv
        cases h4
        simp only [PyData.shownAll, listText_nil] at fin
        exact call_list_repr_empty ⟨o, ho, hc⟩ ho hd ⟨_, _, rfl, fin s.heap _ _ fun _ _ e => e⟩
      | cons x l =>
        exact call_list_reprK ho hc hd far (by simpa using hk.length_eq) (fun i y e => hk.item i y (by simpa using e)) quiet (fun c _ => Clear.nil c) (by show X.A.units + 1 + _ < cLine; omega) (fun _ _ e => e) (fun h' u tk kept => ⟨_, _, rfl, fin h' u tk kept⟩) size
  | tuple ds =>
    obtain ⟨as, rd⟩ := Dq.reads inv _ _ _ dq rx
    cases dq with
    | tup h1 h2 =>
      cases rx
      obtain ⟨its, rv, ⟨o, ho, hc, n, hd⟩, _⟩ := inv.tuple (SqT.of (K := X.K) h1)
      obtain ⟨bs, hb, hk⟩ := Dq.repAll inv ds _ its h2 rv (by simpa [PyData.showable] using hs) (low_tup size)
      have far := not_mem_of_deeper rd (by simp only [PyData.depth]; omega) hb
      simp only [PyData.depth] at depth
      simp only [PyData.shown] at fin size
      exact call_repr_slot (by omega) ⟨o, ho, hc⟩ PySem.F.slot_tuple_repr (call_tuple_reprK ho hc hd far hk quiet (fun c _ => Clear.nil c) (by show X.A.units + 1 + _ < cLine; omega) (fun _ _ e => e) (fun h' u tk kept => ⟨_, _, rfl, fin h' u tk kept⟩) size)
  | dict kvs =>
    cases dq with
    | emp h1 =>
      cases rx
      obtain ⟨as, rd, nb⟩ := emp_reads inv h1
      exact repr_of_reads' rd hs (fun _ => nb) quiet (by omega) (fun _ _ z => z) (fun h' u tk kept => fin h' u tk kept) size
end
/-! ### isinstance -/
def tyOf : PyData → String
  | .none => "NoneType"
  | .bool _ => "bool"
  | .int _ => "int"
  | .str _ => "str"
  | .list _ => "list"
  | .tuple _ => "tuple"
  | .dict _ => "dict"
def isTup : PyData → Bool
  | .tuple _ => true
  | _ => false
def isStr : PyData → Bool
  | .str _ => true
  | _ => false
section
variable {b : Addr} {K : PySem.W.Frag} {H : Hp} {x : V} {d : PyData} {Q : VK}
theorem Dq.ty (h : Dq b H x d) : TyX K H x (.type (tyOf d)) := by
  cases h with
  | non => exact .base .non
  | bl y => exact .base (.bl y)
  | int i => exact .base (.int i)
  | str z => exact .base (.str z)
  | lst h1 _ _ => exact .base (.lst h1)
  | tup h1 _ => exact .base (.tup h1)
  | emp h1 => exact .base (.dK h1)
theorem kit_tup (d : PyData) : kitB (tyOf d) "tuple" = some (isTup d) := by
  have e1 : kitB "NoneType" "tuple" = some false ∧ kitB "bool" "tuple" = some false ∧ kitB "int" "tuple" = some false ∧ kitB "str" "tuple" = some false ∧ kitB "list" "tuple" = some false ∧ kitB "tuple" "tuple" = some true ∧ kitB "dict" "tuple" = some false := by decide +kernel
  obtain ⟨h1, h2, h3, h4, h5, h6, h7⟩ := e1
  cases d <;> assumption
theorem kit_str (d : PyData) : kitB (tyOf d) "str" = some (isStr d) := by
  have e1 : kitB "NoneType" "str" = some false ∧ kitB "bool" "str" = some false ∧ kitB "int" "str" = some false ∧ kitB "str" "str" = some true ∧ kitB "list" "str" = some false ∧ kitB "tuple" "str" = some false ∧ kitB "dict" "str" = some false := by decide +kernel
  obtain ⟨h1, h2, h3, h4, h5, h6, h7⟩ := e1
  cases d <;> assumption
theorem Dq.isi_tup (h : Dq b H x d) (q : Q (.bl (isTup d)) H) : rIsV K [x, .ty "tuple"] H Q := by
  refine ⟨x, _, _, _, isTup d, rfl, .ty _, .inl h.ty, kit_ty (kit_tup d), q⟩
theorem Dq.isi_str (h : Dq b H x d) (q : Q (.bl (isStr d)) H) : rIsV K [x, .ty "str"] H Q := by
  refine ⟨x, _, _, _, isStr d, rfl, .ty _, .inl h.ty, kit_ty (kit_str d), q⟩
end
end CaD
set_option Elab.async false
set_option linter.all false
set_option maxRecDepth 100000
namespace CaN
open PySem PySem.Spec PyProof.Rows L2
theorem arr_all {p : Nat → Bool} {x : Str} : x.cps.all p = x.cps.toList.all p := by
  rw [← Array.all_toList]
theorem arr_any {p : Nat → Bool} {x : Str} : x.cps.any p = x.cps.toList.any p := by
  rw [← Array.any_toList]
/-! ### what a name is -/
def kws : List Str := ["let", "in", "each", "of", "want"]
def low (c : Nat) : Bool := decide (97 ≤ c) && decide (c ≤ 122)
/-- small letters alone, one to six, no word of its own -/
def nameS (x : Str) : Bool := x.cps.toList.all low && (decide (0 < x.length) && decide (x.length < 7)) && !inV (.str x) (kws.map V.str)
theorem ascii_tab : ((List.range 128).all fun c => decide ((Unicode.isAlpha c = true → ((Unicode.isUpper c || Unicode.isTitle c) = false → low c = true)) ∧ (low c = true → Unicode.isAlpha c = true ∧ Unicode.isLower c = true ∧ (Unicode.isUpper c || Unicode.isTitle c) = false))) = true := by decide +kernel
theorem ascii_at {c : Nat} (h : c < 128) : (Unicode.isAlpha c = true → ((Unicode.isUpper c || Unicode.isTitle c) = false → low c = true)) ∧ (low c = true → Unicode.isAlpha c = true ∧ Unicode.isLower c = true ∧ (Unicode.isUpper c || Unicode.isTitle c) = false) :=
  of_decide_eq_true (List.all_eq_true.mp ascii_tab c (List.mem_range.mpr h))
theorem low_128 {c : Nat} (h : low c = true) : c < 128 := by
  unfold low at h
  simp only [Bool.and_eq_true, decide_eq_true_eq] at h
  omega
/-- what the package asks of the signs is what the law asks -/
theorem signs_same (x : Str) (h0 : 0 < x.length) : (Txt.isascii x && (Txt.isalpha x && Txt.islower x)) = x.cps.toList.all low := by
  have hl : x.cps.toList.length = x.length := by simp [Str.length]
  rw [Bool.eq_iff_iff]
  unfold Txt.isascii Txt.isalpha Txt.islower
  rw [arr_all, arr_all, arr_any, arr_any]
  simp only [Bool.and_eq_true, List.all_eq_true, List.any_eq_true, decide_eq_true_eq, Bool.not_eq_true', List.any_eq_false]
  constructor
  · rintro ⟨h1, ⟨_, h2⟩, _, h4⟩ c hc
    have z := h4 c hc
    exact (ascii_at (h1 c hc)).1 (h2 c hc) (by simpa using z)
  · intro h
    refine ⟨fun c hc => low_128 (h c hc), ⟨by simpa using h0, fun c hc => ((ascii_at (low_128 (h c hc))).2 (h c hc)).1⟩, ?_, fun c hc => ?_⟩
    · cases e : x.cps.toList with
      | nil =>
        rw [e] at hl
        simp at hl
        omega
      | cons c r =>
        have hc : c ∈ x.cps.toList := by
          rw [e]
          exact List.mem_cons_self
        exact ⟨c, List.mem_cons_self, ((ascii_at (low_128 (h c hc))).2 (h c hc)).2.1⟩
    · have z := ((ascii_at (low_128 (h c hc))).2 (h c hc)).2.2
      rw [z]
      decide
/-- the signs among the first i that are no small letters -/
def badS (x : Str) (i : Nat) : List Str := ((x.cps.toList.take i).filter fun c => !low c).map fun c => (⟨#[c]⟩ : Str)
theorem bad_succ {x : Str} {i c : Nat} (h : x.cps.toList[i]? = some c) : badS x (i + 1) = badS x i ++ (if low c then [] else [⟨#[c]⟩]) := by
  unfold badS
  rw [List.take_add_one, h, List.filter_append, List.map_append]
  cases e : low c with
  | true => simp [e]
  | false => simp [e]
theorem bad_all (x : Str) : (badS x x.cps.size).isEmpty = x.cps.toList.all low := by
  unfold badS
  rw [List.take_of_length_le (by simp)]
  generalize x.cps.toList = l
  rw [Bool.eq_iff_iff]
  simp [List.isEmpty_iff, List.filter_eq_nil_iff]
theorem bad_len (x : Str) (i : Nat) : (badS x i).length ≤ i := by
  unfold badS
  rw [List.length_map]
  exact Nat.le_trans (List.length_filter_le _ _) (by rw [List.length_take]; omega)

def parS (x : Str) : Bool := inV (.str (cutS x none (some 1))) [.str "?", .str "$"] && nameS (cutS x (some 1) none)
/-- it begins with the sign of a name parameter -/
def doll (x : Str) : Bool := Txt.startswith x "$"
theorem take1_len (l : List Nat) : (l.drop 0).take (min (1 : Int).toNat l.length - 0) = l.take 1 := by
  cases l with
  | nil => rfl
  | cons a r =>
    have : min (1 : Int).toNat (a :: r).length = 1 := by
      simp
    rw [this]
    rfl
theorem cut1 (x : Str) : cutS x none (some 1) = ⟨(x.cps.toList.take 1).toArray⟩ := by
  have e : x.length = x.cps.toList.length := by
    rw [Array.length_toList]
    rfl
  show (⟨((x.cps.toList.drop 0).take (min (1 : Int).toNat x.length - 0)).toArray⟩ : Str) = _
  rw [e, take1_len]
theorem str_ext {a b : List Nat} : ((⟨a.toArray⟩ : Str) = ⟨b.toArray⟩) ↔ a = b := by
  constructor
  · intro h
    have := congrArg (fun s : Str => s.cps.toList) h
    simpa using this
  · rintro rfl
    rfl
theorem dollar : ("$" : Str) = ⟨[36].toArray⟩ := by decide +kernel
theorem doll_head (x : Str) : doll x = decide (x.cps.toList.take 1 = [36]) := by
  have e : x.length = x.cps.toList.length := by
    rw [Array.length_toList]
    rfl
  have hl : ("$" : Str).length = 1 := by decide +kernel
  unfold doll Txt.startswith Builtin.Str.subAt
  rw [hl, e]
  have hx : x.cps.extract 0 (0 + 1) = (x.cps.toList.take 1).toArray := by
    rw [← Array.toList_inj]
    simp
  rw [hx, dollar]
  cases x.cps.toList with
  | nil => decide
  | cons a r =>
    rw [Bool.eq_iff_iff]
    simp
theorem doll_cut (x : Str) : doll x = decide (cutS x none (some 1) = "$") := by
  rw [doll_head, cut1, dollar]
  rw [Bool.eq_iff_iff, decide_eq_true_eq, decide_eq_true_eq, str_ext]
theorem name_no_doll {x : Str} (h : nameS x = true) : doll x = false := by
  rw [doll_head]
  refine decide_eq_false fun z => ?_
  unfold nameS at h
  simp only [Bool.and_eq_true] at h
  have h := h.1.1
  cases e : x.cps.toList with
  | nil =>
    rw [e] at z
    cases z
  | cons a r =>
    rw [e] at z h
    have z : a = 36 := by simpa using z
    subst z
    simp [low] at h
/-! ### the parts of a body, by the program's clauses and by the law's -/
def sOf : PyData → Str
  | .str x => x
  | _ => ""
def nameD : PyData → Bool
  | .str x => nameS x
  | _ => false
def parD : PyData → Bool
  | .str x => parS x
  | _ => false
/-- the parameters are any ones, or those of a list -/
def allowS (ps : Option (List Str)) (x : Str) : Bool :=
  match ps with
  | none => true
  | some l => inV (.str x) (l.map V.str)
def withinD (ps : Option (List Str)) (d : PyData) : Bool := nameD d || (parD d && (doll (sOf d) && allowS ps (sOf d)))
def rowD (most : Nat) (d1 : PyData) (r : List PyData) : Bool := decide (r.length = 1) && (nameD d1 && (match r with | .tuple zs :: _ => decide (zs.length ≤ most) | _ => false))
def bodyD (ps : Option (List Str)) (k : Str) (d1 : PyData) (r : List PyData) : Bool :=
  if k = "name" then decide (r.length = 0) && withinD ps d1
  else if k = "hole" then decide (r.length = 0) && (nameD d1 && allowS ps ("?" ++ sOf d1))
  else if k = "op" then rowD 3 d1 r
  else if k = "call" then rowD 5 d1 r
  else if k = "want" then decide (r.length = 2) && nameD d1
  else decide (r.length = 2) && withinD ps d1
/-- by the program -/
def isPart (kinds : List Str) (ps : Option (List Str)) : PyData → Bool
  | .tuple (.str k :: d1 :: r) => kinds.contains k && bodyD ps k d1 r
  | _ => false
def rowOf : List PyData → List PyData
  | .tuple zs :: _ => zs
  | _ => []
/-- the parts right within -/
def inner : PyData → List PyData
  | .tuple (.str k :: _ :: r) => if k = "op" ∨ k = "call" then rowOf r else if k = "let" ∨ k = "each" ∨ k = "want" then r else []
  | _ => []
def bindD (ps : Option (List Str)) (k : Str) (d : PyData) : Bool :=
  match ps, d with
  | some l, .str x => if k ≠ "want" ∧ doll x = true then inV (.str x) (l.map V.str) else nameS x
  | _, d => nameD d
/-- by the law -/
def lawPart (ps : Option (List Str)) (cc : Bool) : PyData → Bool
  | .tuple (.str k :: d1 :: r) =>
    if k = "hole" then decide (r.length = 0) && (ps.isSome && (nameD d1 && allowS ps ("?" ++ sOf d1)))
    else if k = "name" then decide (r.length = 0) && bindD ps k d1
    else if k = "op" then rowD 3 d1 r
    else if k = "call" ∧ cc = true then rowD 5 d1 r
    else if ((k ≠ "let" ∧ k ≠ "each") ∧ (k ≠ "want" ∨ ps = none)) ∨ r.length ≠ 2 then false
    else bindD ps k d1
  | _ => false
def termK : List Str := ["name", "op", "let", "each"]
def progK : List Str := ["name", "op", "let", "each", "call"]
def bodyK : List Str := ["name", "op", "let", "each", "call", "hole", "want"]
theorem inV_str (x : Str) (l : List Str) : inV (.str x) (l.map V.str) = l.contains x := by
  unfold inV
  induction l with
  | nil => rfl
  | cons a r ih =>
    rw [List.map_cons, List.any_cons, List.contains_cons, ih]
    show ((a == x) || r.contains x) = ((x == a) || r.contains x)
    rw [BEq.comm]
theorem z_name_hole : (("name" : Str) = "hole") = False := eq_false (by decide +kernel)
theorem z_name_op : (("name" : Str) = "op") = False := eq_false (by decide +kernel)
theorem z_name_call : (("name" : Str) = "call") = False := eq_false (by decide +kernel)
theorem z_name_want : (("name" : Str) = "want") = False := eq_false (by decide +kernel)
theorem z_name_let : (("name" : Str) = "let") = False := eq_false (by decide +kernel)
theorem z_name_each : (("name" : Str) = "each") = False := eq_false (by decide +kernel)
theorem z_hole_name : (("hole" : Str) = "name") = False := eq_false (by decide +kernel)
theorem z_hole_op : (("hole" : Str) = "op") = False := eq_false (by decide +kernel)
theorem z_hole_call : (("hole" : Str) = "call") = False := eq_false (by decide +kernel)
theorem z_hole_want : (("hole" : Str) = "want") = False := eq_false (by decide +kernel)
theorem z_hole_let : (("hole" : Str) = "let") = False := eq_false (by decide +kernel)
theorem z_hole_each : (("hole" : Str) = "each") = False := eq_false (by decide +kernel)
theorem z_op_name : (("op" : Str) = "name") = False := eq_false (by decide +kernel)
theorem z_op_hole : (("op" : Str) = "hole") = False := eq_false (by decide +kernel)
theorem z_op_call : (("op" : Str) = "call") = False := eq_false (by decide +kernel)
theorem z_op_want : (("op" : Str) = "want") = False := eq_false (by decide +kernel)
theorem z_op_let : (("op" : Str) = "let") = False := eq_false (by decide +kernel)
theorem z_op_each : (("op" : Str) = "each") = False := eq_false (by decide +kernel)
theorem z_call_name : (("call" : Str) = "name") = False := eq_false (by decide +kernel)
theorem z_call_hole : (("call" : Str) = "hole") = False := eq_false (by decide +kernel)
theorem z_call_op : (("call" : Str) = "op") = False := eq_false (by decide +kernel)
theorem z_call_want : (("call" : Str) = "want") = False := eq_false (by decide +kernel)
theorem z_call_let : (("call" : Str) = "let") = False := eq_false (by decide +kernel)
theorem z_call_each : (("call" : Str) = "each") = False := eq_false (by decide +kernel)
theorem z_want_name : (("want" : Str) = "name") = False := eq_false (by decide +kernel)
theorem z_want_hole : (("want" : Str) = "hole") = False := eq_false (by decide +kernel)
theorem z_want_op : (("want" : Str) = "op") = False := eq_false (by decide +kernel)
theorem z_want_call : (("want" : Str) = "call") = False := eq_false (by decide +kernel)
theorem z_want_let : (("want" : Str) = "let") = False := eq_false (by decide +kernel)
theorem z_want_each : (("want" : Str) = "each") = False := eq_false (by decide +kernel)
theorem z_let_name : (("let" : Str) = "name") = False := eq_false (by decide +kernel)
theorem z_let_hole : (("let" : Str) = "hole") = False := eq_false (by decide +kernel)
theorem z_let_op : (("let" : Str) = "op") = False := eq_false (by decide +kernel)
theorem z_let_call : (("let" : Str) = "call") = False := eq_false (by decide +kernel)
theorem z_let_want : (("let" : Str) = "want") = False := eq_false (by decide +kernel)
theorem z_let_each : (("let" : Str) = "each") = False := eq_false (by decide +kernel)
theorem z_each_name : (("each" : Str) = "name") = False := eq_false (by decide +kernel)
theorem z_each_hole : (("each" : Str) = "hole") = False := eq_false (by decide +kernel)
theorem z_each_op : (("each" : Str) = "op") = False := eq_false (by decide +kernel)
theorem z_each_call : (("each" : Str) = "call") = False := eq_false (by decide +kernel)
theorem z_each_want : (("each" : Str) = "want") = False := eq_false (by decide +kernel)
theorem z_each_let : (("each" : Str) = "let") = False := eq_false (by decide +kernel)
theorem within_none (d : PyData) : withinD (some []) d = nameD d := by
  have : allowS (some []) (sOf d) = false := rfl
  unfold withinD
  rw [this, Bool.and_false, Bool.and_false, Bool.or_false]
theorem within_some {l : List Str} (hl : ∀ p ∈ l, parS p = true) (k : Str) (hk : k ≠ "want") (d : PyData) : withinD (some l) d = bindD (some l) k d := by
  cases d with
  | str x =>
    show (nameS x || (parS x && (doll x && inV (.str x) (l.map V.str)))) = if k ≠ "want" ∧ doll x = true then inV (.str x) (l.map V.str) else nameS x
    cases e : doll x with
    | false => simp
    | true =>
      rw [if_pos ⟨hk, rfl⟩]
      have hn : nameS x = false := by
        cases z : nameS x with
        | false => rfl
        | true =>
          rw [name_no_doll z] at e
          cases e
      rw [hn]
      cases z : inV (.str x) (l.map V.str) with
      | false => simp
      | true =>
        rw [inV_str] at z
        have := hl x (List.contains_iff_mem.mp z)
        rw [this]
        rfl
  | _ => rfl
theorem part_term (d : PyData) : isPart termK (some []) d = lawPart none false d := by
  unfold isPart lawPart
  split
  · rename_i k d1 r
    unfold bodyD
    rw [within_none]
    by_cases h1 : k = "name"
    · subst h1
      simp [termK, bindD, z_name_hole, z_name_op, z_name_call, z_name_want, z_name_let, z_name_each, z_hole_name, z_hole_op, z_hole_call, z_hole_want, z_hole_let, z_hole_each, z_op_name, z_op_hole, z_op_call, z_op_want, z_op_let, z_op_each, z_call_name, z_call_hole, z_call_op, z_call_want, z_call_let, z_call_each, z_want_name, z_want_hole, z_want_op, z_want_call, z_want_let, z_want_each, z_let_name, z_let_hole, z_let_op, z_let_call, z_let_want, z_let_each, z_each_name, z_each_hole, z_each_op, z_each_call, z_each_want, z_each_let]
    · by_cases h2 : k = "hole"
      · subst h2
        simp [termK, z_name_hole, z_name_op, z_name_call, z_name_want, z_name_let, z_name_each, z_hole_name, z_hole_op, z_hole_call, z_hole_want, z_hole_let, z_hole_each, z_op_name, z_op_hole, z_op_call, z_op_want, z_op_let, z_op_each, z_call_name, z_call_hole, z_call_op, z_call_want, z_call_let, z_call_each, z_want_name, z_want_hole, z_want_op, z_want_call, z_want_let, z_want_each, z_let_name, z_let_hole, z_let_op, z_let_call, z_let_want, z_let_each, z_each_name, z_each_hole, z_each_op, z_each_call, z_each_want, z_each_let]
      · by_cases h3 : k = "op"
        · subst h3
          simp [termK, z_name_hole, z_name_op, z_name_call, z_name_want, z_name_let, z_name_each, z_hole_name, z_hole_op, z_hole_call, z_hole_want, z_hole_let, z_hole_each, z_op_name, z_op_hole, z_op_call, z_op_want, z_op_let, z_op_each, z_call_name, z_call_hole, z_call_op, z_call_want, z_call_let, z_call_each, z_want_name, z_want_hole, z_want_op, z_want_call, z_want_let, z_want_each, z_let_name, z_let_hole, z_let_op, z_let_call, z_let_want, z_let_each, z_each_name, z_each_hole, z_each_op, z_each_call, z_each_want, z_each_let]
        · by_cases h4 : k = "let"
          · subst h4
            simp [termK, bindD, z_name_hole, z_name_op, z_name_call, z_name_want, z_name_let, z_name_each, z_hole_name, z_hole_op, z_hole_call, z_hole_want, z_hole_let, z_hole_each, z_op_name, z_op_hole, z_op_call, z_op_want, z_op_let, z_op_each, z_call_name, z_call_hole, z_call_op, z_call_want, z_call_let, z_call_each, z_want_name, z_want_hole, z_want_op, z_want_call, z_want_let, z_want_each, z_let_name, z_let_hole, z_let_op, z_let_call, z_let_want, z_let_each, z_each_name, z_each_hole, z_each_op, z_each_call, z_each_want, z_each_let]
          · by_cases h5 : k = "each"
            · subst h5
              simp [termK, bindD, z_name_hole, z_name_op, z_name_call, z_name_want, z_name_let, z_name_each, z_hole_name, z_hole_op, z_hole_call, z_hole_want, z_hole_let, z_hole_each, z_op_name, z_op_hole, z_op_call, z_op_want, z_op_let, z_op_each, z_call_name, z_call_hole, z_call_op, z_call_want, z_call_let, z_call_each, z_want_name, z_want_hole, z_want_op, z_want_call, z_want_let, z_want_each, z_let_name, z_let_hole, z_let_op, z_let_call, z_let_want, z_let_each, z_each_name, z_each_hole, z_each_op, z_each_call, z_each_want, z_each_let]
            · simp [termK, h1, h2, h3, h4, h5]
  · rfl
theorem part_prog (d : PyData) : isPart progK (some []) d = lawPart none true d := by
  unfold isPart lawPart
  split
  · rename_i k d1 r
    unfold bodyD
    rw [within_none]
    by_cases h1 : k = "name"
    · subst h1
      simp [progK, bindD, z_name_hole, z_name_op, z_name_call, z_name_want, z_name_let, z_name_each, z_hole_name, z_hole_op, z_hole_call, z_hole_want, z_hole_let, z_hole_each, z_op_name, z_op_hole, z_op_call, z_op_want, z_op_let, z_op_each, z_call_name, z_call_hole, z_call_op, z_call_want, z_call_let, z_call_each, z_want_name, z_want_hole, z_want_op, z_want_call, z_want_let, z_want_each, z_let_name, z_let_hole, z_let_op, z_let_call, z_let_want, z_let_each, z_each_name, z_each_hole, z_each_op, z_each_call, z_each_want, z_each_let]
    · by_cases h2 : k = "hole"
      · subst h2
        simp [progK, z_name_hole, z_name_op, z_name_call, z_name_want, z_name_let, z_name_each, z_hole_name, z_hole_op, z_hole_call, z_hole_want, z_hole_let, z_hole_each, z_op_name, z_op_hole, z_op_call, z_op_want, z_op_let, z_op_each, z_call_name, z_call_hole, z_call_op, z_call_want, z_call_let, z_call_each, z_want_name, z_want_hole, z_want_op, z_want_call, z_want_let, z_want_each, z_let_name, z_let_hole, z_let_op, z_let_call, z_let_want, z_let_each, z_each_name, z_each_hole, z_each_op, z_each_call, z_each_want, z_each_let]
      · by_cases h3 : k = "op"
        · subst h3
          simp [progK, z_name_hole, z_name_op, z_name_call, z_name_want, z_name_let, z_name_each, z_hole_name, z_hole_op, z_hole_call, z_hole_want, z_hole_let, z_hole_each, z_op_name, z_op_hole, z_op_call, z_op_want, z_op_let, z_op_each, z_call_name, z_call_hole, z_call_op, z_call_want, z_call_let, z_call_each, z_want_name, z_want_hole, z_want_op, z_want_call, z_want_let, z_want_each, z_let_name, z_let_hole, z_let_op, z_let_call, z_let_want, z_let_each, z_each_name, z_each_hole, z_each_op, z_each_call, z_each_want, z_each_let]
        · by_cases h4 : k = "let"
          · subst h4
            simp [progK, bindD, z_name_hole, z_name_op, z_name_call, z_name_want, z_name_let, z_name_each, z_hole_name, z_hole_op, z_hole_call, z_hole_want, z_hole_let, z_hole_each, z_op_name, z_op_hole, z_op_call, z_op_want, z_op_let, z_op_each, z_call_name, z_call_hole, z_call_op, z_call_want, z_call_let, z_call_each, z_want_name, z_want_hole, z_want_op, z_want_call, z_want_let, z_want_each, z_let_name, z_let_hole, z_let_op, z_let_call, z_let_want, z_let_each, z_each_name, z_each_hole, z_each_op, z_each_call, z_each_want, z_each_let]
          · by_cases h5 : k = "each"
            · subst h5
              simp [progK, bindD, z_name_hole, z_name_op, z_name_call, z_name_want, z_name_let, z_name_each, z_hole_name, z_hole_op, z_hole_call, z_hole_want, z_hole_let, z_hole_each, z_op_name, z_op_hole, z_op_call, z_op_want, z_op_let, z_op_each, z_call_name, z_call_hole, z_call_op, z_call_want, z_call_let, z_call_each, z_want_name, z_want_hole, z_want_op, z_want_call, z_want_let, z_want_each, z_let_name, z_let_hole, z_let_op, z_let_call, z_let_want, z_let_each, z_each_name, z_each_hole, z_each_op, z_each_call, z_each_want, z_each_let]
            · by_cases h6 : k = "call"
              · subst h6
                simp [progK, z_name_hole, z_name_op, z_name_call, z_name_want, z_name_let, z_name_each, z_hole_name, z_hole_op, z_hole_call, z_hole_want, z_hole_let, z_hole_each, z_op_name, z_op_hole, z_op_call, z_op_want, z_op_let, z_op_each, z_call_name, z_call_hole, z_call_op, z_call_want, z_call_let, z_call_each, z_want_name, z_want_hole, z_want_op, z_want_call, z_want_let, z_want_each, z_let_name, z_let_hole, z_let_op, z_let_call, z_let_want, z_let_each, z_each_name, z_each_hole, z_each_op, z_each_call, z_each_want, z_each_let]
              · simp [progK, h1, h2, h3, h4, h5, h6]
  · rfl
theorem part_body {l : List Str} (hl : ∀ p ∈ l, parS p = true) (d : PyData) : isPart bodyK (some l) d = lawPart (some l) true d := by
  unfold isPart lawPart
  split
  · rename_i k d1 r
    unfold bodyD
    by_cases h1 : k = "name"
    · subst h1
      rw [within_some hl "name" (by decide +kernel)]
      simp [bodyK, z_name_hole, z_name_op, z_name_call, z_name_want, z_name_let, z_name_each, z_hole_name, z_hole_op, z_hole_call, z_hole_want, z_hole_let, z_hole_each, z_op_name, z_op_hole, z_op_call, z_op_want, z_op_let, z_op_each, z_call_name, z_call_hole, z_call_op, z_call_want, z_call_let, z_call_each, z_want_name, z_want_hole, z_want_op, z_want_call, z_want_let, z_want_each, z_let_name, z_let_hole, z_let_op, z_let_call, z_let_want, z_let_each, z_each_name, z_each_hole, z_each_op, z_each_call, z_each_want, z_each_let]
    · by_cases h2 : k = "hole"
      · subst h2
        simp [bodyK, z_name_hole, z_name_op, z_name_call, z_name_want, z_name_let, z_name_each, z_hole_name, z_hole_op, z_hole_call, z_hole_want, z_hole_let, z_hole_each, z_op_name, z_op_hole, z_op_call, z_op_want, z_op_let, z_op_each, z_call_name, z_call_hole, z_call_op, z_call_want, z_call_let, z_call_each, z_want_name, z_want_hole, z_want_op, z_want_call, z_want_let, z_want_each, z_let_name, z_let_hole, z_let_op, z_let_call, z_let_want, z_let_each, z_each_name, z_each_hole, z_each_op, z_each_call, z_each_want, z_each_let]
      · by_cases h3 : k = "op"
        · subst h3
          simp [bodyK, z_name_hole, z_name_op, z_name_call, z_name_want, z_name_let, z_name_each, z_hole_name, z_hole_op, z_hole_call, z_hole_want, z_hole_let, z_hole_each, z_op_name, z_op_hole, z_op_call, z_op_want, z_op_let, z_op_each, z_call_name, z_call_hole, z_call_op, z_call_want, z_call_let, z_call_each, z_want_name, z_want_hole, z_want_op, z_want_call, z_want_let, z_want_each, z_let_name, z_let_hole, z_let_op, z_let_call, z_let_want, z_let_each, z_each_name, z_each_hole, z_each_op, z_each_call, z_each_want, z_each_let]
        · by_cases h4 : k = "let"
          · subst h4
            rw [within_some hl "let" (by decide +kernel)]
            simp [bodyK, z_name_hole, z_name_op, z_name_call, z_name_want, z_name_let, z_name_each, z_hole_name, z_hole_op, z_hole_call, z_hole_want, z_hole_let, z_hole_each, z_op_name, z_op_hole, z_op_call, z_op_want, z_op_let, z_op_each, z_call_name, z_call_hole, z_call_op, z_call_want, z_call_let, z_call_each, z_want_name, z_want_hole, z_want_op, z_want_call, z_want_let, z_want_each, z_let_name, z_let_hole, z_let_op, z_let_call, z_let_want, z_let_each, z_each_name, z_each_hole, z_each_op, z_each_call, z_each_want, z_each_let]
          · by_cases h5 : k = "each"
            · subst h5
              rw [within_some hl "each" (by decide +kernel)]
              simp [bodyK, z_name_hole, z_name_op, z_name_call, z_name_want, z_name_let, z_name_each, z_hole_name, z_hole_op, z_hole_call, z_hole_want, z_hole_let, z_hole_each, z_op_name, z_op_hole, z_op_call, z_op_want, z_op_let, z_op_each, z_call_name, z_call_hole, z_call_op, z_call_want, z_call_let, z_call_each, z_want_name, z_want_hole, z_want_op, z_want_call, z_want_let, z_want_each, z_let_name, z_let_hole, z_let_op, z_let_call, z_let_want, z_let_each, z_each_name, z_each_hole, z_each_op, z_each_call, z_each_want, z_each_let]
            · by_cases h6 : k = "call"
              · subst h6
                simp [bodyK, z_name_hole, z_name_op, z_name_call, z_name_want, z_name_let, z_name_each, z_hole_name, z_hole_op, z_hole_call, z_hole_want, z_hole_let, z_hole_each, z_op_name, z_op_hole, z_op_call, z_op_want, z_op_let, z_op_each, z_call_name, z_call_hole, z_call_op, z_call_want, z_call_let, z_call_each, z_want_name, z_want_hole, z_want_op, z_want_call, z_want_let, z_want_each, z_let_name, z_let_hole, z_let_op, z_let_call, z_let_want, z_let_each, z_each_name, z_each_hole, z_each_op, z_each_call, z_each_want, z_each_let]
              · by_cases h7 : k = "want"
                · subst h7
                  have e : bindD (some l) "want" d1 = nameD d1 := by
                    cases d1 <;> simp [bindD, nameD, z_name_hole, z_name_op, z_name_call, z_name_want, z_name_let, z_name_each, z_hole_name, z_hole_op, z_hole_call, z_hole_want, z_hole_let, z_hole_each, z_op_name, z_op_hole, z_op_call, z_op_want, z_op_let, z_op_each, z_call_name, z_call_hole, z_call_op, z_call_want, z_call_let, z_call_each, z_want_name, z_want_hole, z_want_op, z_want_call, z_want_let, z_want_each, z_let_name, z_let_hole, z_let_op, z_let_call, z_let_want, z_let_each, z_each_name, z_each_hole, z_each_op, z_each_call, z_each_want, z_each_let]
                  rw [e]
                  simp [bodyK, z_name_hole, z_name_op, z_name_call, z_name_want, z_name_let, z_name_each, z_hole_name, z_hole_op, z_hole_call, z_hole_want, z_hole_let, z_hole_each, z_op_name, z_op_hole, z_op_call, z_op_want, z_op_let, z_op_each, z_call_name, z_call_hole, z_call_op, z_call_want, z_call_let, z_call_each, z_want_name, z_want_hole, z_want_op, z_want_call, z_want_let, z_want_each, z_let_name, z_let_hole, z_let_op, z_let_call, z_let_want, z_let_each, z_each_name, z_each_hole, z_each_op, z_each_call, z_each_want, z_each_let]
                · simp [bodyK, h1, h2, h3, h4, h5, h6, h7]
  · rfl
end CaN
set_option Elab.async false
set_option linter.all false
set_option maxRecDepth 100000
/-! The walk through the parts by a stack, and by the parts within one another. -/
namespace CaN
open PySem PySem.Spec PyProof.Rows L2 CaD
/-- what the walk finds, the top of the stack first, if so many parts may still be found -/
def run (P : PyData → Bool) : Nat → List (PyData × Nat) → Option (List (PyData × Nat))
  | _, [] => some []
  | 0, _ :: _ => none
  | n + 1, (d, l) :: S => if l > 60 then none else if P d = true then (run P n ((inner d).map (fun c => (c, l + 1)) ++ S)).map fun ys => (d, l) :: ys else none
def good (P : PyData → Bool) : Nat → PyData → Bool
  | 0, _ => false
  | n + 1, d => P d && (inner d).all (good P n)
def goodF (P : PyData → Bool) (d : PyData) : Bool := good P (d.depth + 1) d
theorem depth_mem {xs : List PyData} {x : PyData} (h : x ∈ xs) : x.depth ≤ PyData.depthAll xs := depthAll_le.mp (Nat.le_refl _) x h
theorem inner_sub (d : PyData) : (inner d).length ≤ wt d ∧ wtAll (inner d) < wt d ∧ ∀ c ∈ inner d, c.depth < d.depth := by
  have key : wtAll (inner d) < wt d ∧ ∀ c ∈ inner d, c.depth < d.depth := by
    unfold inner
    split
    · rename_i k d1 r
      have e : PyData.depth (.tuple (.str k :: d1 :: r)) = PyData.depthAll (.str k :: d1 :: r) + 1 := by simp only [PyData.depth]
      have ew : wt (.tuple (.str k :: d1 :: r)) = 1 + (wt d1 + wtAll r) + 1 := by simp only [wt, wtAll]
      have em : ∀ c ∈ r, c.depth ≤ PyData.depthAll (.str k :: d1 :: r) := fun c h => depth_mem (List.mem_cons_of_mem _ (List.mem_cons_of_mem _ h))
      rw [e, ew]
      split
      · unfold rowOf
        split
        · rename_i zs r2
          have z := em (.tuple zs) List.mem_cons_self
          have z2 : PyData.depth (.tuple zs) = PyData.depthAll zs + 1 := by simp only [PyData.depth]
          refine ⟨?_, fun c h => ?_⟩
          · simp only [wtAll, wt]
            omega
          · have := depth_mem h
            omega
        · refine ⟨?_, fun c h => (nomatch h)⟩
          simp only [wtAll]
          omega
      · split
        · refine ⟨by omega, fun c h => ?_⟩
          have := em c h
          omega
        · refine ⟨?_, fun c h => (nomatch h)⟩
          simp only [wtAll]
          omega
    · refine ⟨?_, fun c h => (nomatch h)⟩
      have := wt_pos d
      simp only [wtAll]
      omega
  refine ⟨?_, key⟩
  have := wtAll_len (inner d)
  omega
theorem all_congr {α : Type} {f g : α → Bool} : ∀ {xs : List α}, (∀ x ∈ xs, f x = g x) → xs.all f = xs.all g
  | [], _ => rfl
  | x :: xs, h => by
    rw [List.all_cons, List.all_cons, h x List.mem_cons_self, all_congr fun y m => h y (List.mem_cons_of_mem _ m)]
theorem good_of (P : PyData → Bool) : ∀ (n : Nat) (d : PyData), d.depth < n → good P n d = goodF P d := by
  intro n
  induction n with
  | zero =>
    intro d h
    omega
  | succ n ih =>
    intro d h
    unfold goodF
    show (P d && (inner d).all (good P n)) = (P d && (inner d).all (good P d.depth))
    congr 1
    refine all_congr fun c hc => ?_
    have := (inner_sub d).2.2 c hc
    rw [ih c (by omega)]
    -- the same at the depth itself
    have far : ∀ (m : Nat) (c : PyData), c.depth < m → m ≤ n → good P m c = goodF P c := by
      intro m c h1 h2
      have up : ∀ (j m : Nat) (c : PyData), c.depth < m → good P (m + j) c = good P m c := by
        intro j
        induction j with
        | zero =>
          intro m c _
          rfl
        | succ j ihj =>
          intro m c hm
          rw [← ihj m c hm]
          have step : ∀ (m : Nat) (c : PyData), c.depth < m → good P (m + 1) c = good P m c := by
            intro m
            induction m with
            | zero =>
              intro c h
              omega
            | succ m ihm =>
              intro c h
              show (P c && (inner c).all (good P (m + 1))) = (P c && (inner c).all (good P m))
              congr 1
              refine all_congr fun e he => ?_
              have := (inner_sub c).2.2 e he
              exact ihm e (by omega)
          exact step (m + j) c (by omega)
      have e : m = (c.depth + 1) + (m - (c.depth + 1)) := by omega
      rw [e, up _ _ _ (by omega)]
      rfl
    rw [far d.depth c this (by omega)]
theorem goodF_eq (P : PyData → Bool) (d : PyData) : goodF P d = (P d && (inner d).all (goodF P)) := by
  show (P d && (inner d).all (good P d.depth)) = _
  congr 1
  exact all_congr fun c hc => good_of P _ c ((inner_sub d).2.2 c hc)
def wsum (S : List (PyData × Nat)) : Nat := wtAll (S.map (·.1))
theorem run_good (P : PyData → Bool) : ∀ (n : Nat) (S : List (PyData × Nat)), wsum S ≤ n → (∀ x ∈ S, x.2 + x.1.depth ≤ 60) → (run P n S).isSome = S.all fun x => goodF P x.1 := by
  intro n
  induction n with
  | zero =>
    intro S h _
    cases S with
    | nil => rfl
    | cons x S =>
      have := wt_pos x.1
      simp only [wsum, List.map_cons, wtAll] at h
      omega
  | succ n ih =>
    intro S h hd
    cases S with
    | nil => rfl
    | cons x S =>
      obtain ⟨d, l⟩ := x
      have h0 := hd (d, l) List.mem_cons_self
      have h0 : l + d.depth ≤ 60 := h0
      have sub := inner_sub d
      simp only [wsum, List.map_cons, wtAll] at h
      rw [List.all_cons]
      show (if l > 60 then none else if P d = true then (run P n ((inner d).map (fun c => (c, l + 1)) ++ S)).map fun ys => (d, l) :: ys else none).isSome = _
      rw [if_neg (by omega)]
      show _ = (goodF P d && S.all fun x => goodF P x.1)
      rw [goodF_eq]
      cases e : P d with
      | false =>
        rw [if_neg (by decide)]
        rfl
      | true =>
        rw [if_pos rfl, Option.isSome_map, ih]
        · rw [List.all_append, List.all_map]
          rfl
        · show wtAll (((inner d).map (fun c => (c, l + 1)) ++ S).map (·.1)) ≤ n
          rw [List.map_append, wtAll_append, List.map_map]
          have : (inner d).map ((fun x : PyData × Nat => x.1) ∘ fun c => (c, l + 1)) = inner d := by
            rw [show ((fun x : PyData × Nat => x.1) ∘ fun c => (c, l + 1)) = id from rfl, List.map_id]
          rw [this]
          omega
        · intro y hy
          rcases List.mem_append.mp hy with hy | hy
          · obtain ⟨c, hc, rfl⟩ := List.mem_map.mp hy
            have := sub.2.2 c hc
            show l + 1 + c.depth ≤ 60
            omega
          · exact hd y (List.mem_cons_of_mem _ hy)
theorem run_one (P : PyData → Bool) (d : PyData) (hw : wt d ≤ 400) (hd : d.depth ≤ 59) : (run P 400 [(d, 1)]).isSome = goodF P d := by
  rw [run_good P 400 [(d, 1)] (by simp only [wsum, List.map_cons, List.map_nil, wtAll]; omega) (fun x hx => by
    rw [List.mem_singleton.mp hx]
    show 1 + d.depth ≤ 60
    omega)]
  simp
end CaN
set_option Elab.async false
set_option linter.all false
set_option maxRecDepth 100000
set_option maxHeartbeats 2000000
/-! Rules that such data want: a text beside {}, not in a tuple of texts, t[::-1], xs[::2], text * 0 or 1. -/
namespace PySem.SeqAt
open PySem PySem.Spec PyProof.Rows
theorem dict_no_str (l : Addr) (es : Array DictEntry) (n : Nat) (dd : Option Addr) (sl : Array (Option Value)) (y : Str) (u : Tok) :
    Meets (Builtin.«dict.__eq__» ⟨[.ref l, .str y u], []⟩) (fun _ R st => st.heap.get? l = some { cls := .type "dict", dict := dd, data := .dict es n, slots := sl } ∧ R (.ok (.ret .notImplemented)) st) := by
  refine .of_wp fun prog w A R st z => ?_
  obtain ⟨hp, g, d, tk, os⟩ := st
  obtain ⟨at_, z⟩ := z
  have f1 := PySem.F.sub_str_dict
  wp_walk using wpAny_loadPart' at_
  exact ⟨_, rfl, z⟩
theorem str_no_dict (y : Str) (u : Tok) (l : Addr) (es : Array DictEntry) (n : Nat) (dd : Option Addr) (sl : Array (Option Value)) :
    Meets (Builtin.«str.__eq__» ⟨[.str y u, .ref l], []⟩) (fun _ R st => st.heap.get? l = some { cls := .type "dict", dict := dd, data := .dict es n, slots := sl } ∧ R (.ok (.ret .notImplemented)) st) := by
  refine .of_wp fun prog w A R st z => ?_
  obtain ⟨hp, g, d, tk, os⟩ := st
  obtain ⟨at_, z⟩ := z
  wp_walk using wpAny_loadPart' at_, wpAny_load at_
  exact ⟨_, rfl, z⟩
end PySem.SeqAt
namespace PySem.SeqAt
open PySem PySem.Spec PyProof.Rows
variable {A : Around} {s : Shared}
theorem str_dict_at {l : Addr} {o : Obj} {es : Array DictEntry} {n : Nat} (y : Str) (u : Tok) (ho : s.heap.get? l = some o) (hc : o.cls = .type "dict") (hd : o.data = .dict es n) (room : A.units < cLine) : EqAt A s (.str y u) (.ref l) false := fun prog w E Q z => by
  obtain ⟨cls, dd, data, sl⟩ := o
  simp only at hc hd
  subst hc hd
  unfold eqBool
  refine wpAny_holding (wpAny_ite_split (fun same => absurd (eq_of_beq same) nofun) fun _ => wpAny_bind ?_)
  refine rc_eq_decline_or (k := false) (typeIs_str s y u) ⟨_, ho, rfl⟩ (by decide) PySem.F.sub_dict_str PySem.F.slot_str_eq PySem.F.slot_dict_eq_refl (fun _ q => ?_) (fun _ q => ?_) (fun _ q => wpAny_of_eq (rfl : isSame (.str y u) (.ref l) = pure false) q) (.inr room) (wpAny_truthy_bool z)
  · exact call_meets PySem.F.slot_str_eq (typeIs_str s y u) PySem.F.entry_str_eq (PySem.F.args_str_eq_2 _ _) (str_no_dict y u l es n dd sl) ⟨ho, q⟩
  · exact call_meets PySem.F.slot_dict_eq_refl ⟨_, ho, rfl⟩ PySem.F.entry_dict_eq (PySem.F.args_dict_eq_2 _ _) (dict_no_str l es n dd sl y u) ⟨ho, q⟩
end PySem.SeqAt
namespace CaD
open PySem PySem.Spec PyProof.Rows L2 CaV CaL CaN
section
variable {X : Cx}
/-- which of the texts the thing is -/
def eqK (d : PyData) (u : Value) : Bool :=
  match u, d with
  | .str z _, .str t => z == t
  | _, _ => false
def inK (d : PyData) (ss : List Str) : Bool :=
  match d with
  | .str t => ss.contains t
  | _ => false
theorem any_eqK (d : PyData) : ∀ {ss : List Str} {us : List Value}, Vals (ss.map V.str) us → us.any (eqK d) = inK d ss
  | [], _, r => by
    cases r
    cases d <;> rfl
  | z :: ss, _, r => by
    cases r with
    | cons r1 r2 =>
      obtain ⟨t, rfl⟩ := r1
      rw [List.any_cons, any_eqK d r2]
      cases d with
      | str x =>
        show ((z == x) || ss.contains x) = (z :: ss).contains x
        rw [List.contains_cons, BEq.comm]
      | _ => rfl
theorem strs_mem {c : Value} : ∀ {ss : List Str} {us : List Value}, Vals (ss.map V.str) us → c ∈ us → ∃ z t, c = Value.str z t
  | [], _, r, h => by
    cases r
    cases h
  | e :: es, _, r, h => by
    cases r with
    | cons r1 r2 =>
      rcases List.mem_cons.mp h with rfl | h
      · obtain ⟨t, rfl⟩ := r1
        exact ⟨e, t, rfl⟩
      · exact strs_mem r2 h
/-- x not in a tuple of texts, x any such data -/
def rNotInK (b : Addr) (K : PySem.W.Frag) : R2 := fun x y H Q => ∃ d p ss, y = .ref p ∧ SqT K H p (ss.map V.str) ∧ Dq b H x d ∧ Q (.bl (!inK d ss)) H
theorem op_notInK {b : Addr} (hu : X.A.units + 1 < cLine) : OpR X (compareOp .NotIn) (rNotInK b X.K) := by
  intro pins s σ H x y v u Q I rx ry told
  obtain ⟨d, p, ss, rfl, sq, dq, q⟩ := told
  cases ry
  obtain ⟨its, r, pl, hz⟩ := I.tuple sq
  refine SeqAt.notIn_tupleAt (eqK d) pl (fun c hc => ?_) ⟨.bl _, H, I, rfl, ?_⟩
  · have hr : X.A.in1.units < cLine := hu
    obtain ⟨z, t, rfl⟩ := strs_mem r (by simpa using hc)
    cases dq with
    | non =>
      cases rx
      exact SeqAt.EqAt.str_none z t
    | bl y =>
      cases rx
      exact SeqAt.EqAt.str_bool z t y
    | int i =>
      obtain ⟨w, rfl⟩ := rx
      exact SeqAt.EqAt.str_int z t i w
    | str y =>
      obtain ⟨w, rfl⟩ := rx
      exact SeqAt.EqAt.str_str z t y w
    | lst h1 _ _ =>
      cases rx
      obtain ⟨is, _, h, _⟩ := I.list (SqL.of (K := X.K) h1)
      exact SeqAt.EqAt.str_list z t h.isList hr
    | tup h1 _ =>
      cases rx
      obtain ⟨is, _, h, _⟩ := I.tuple (SqT.of (K := X.K) h1)
      exact SeqAt.EqAt.str_tuple z t h hr
    | emp h1 =>
      cases rx
      obtain ⟨_, _, vs, kv, o, es, ep, ho, hc, hd, _⟩ := dk_of I.hok h1
      exact SeqAt.str_dict_at z t ho hc.1 hd hr
  · rw [show its.toArray.any (eqK d) = its.any (eqK d) by simp, any_eqK d r]
    exact q
/-- text * n, n 0 or 1 -/
def rMul01 : R2 := fun x y H Q => ∃ z k, x = .str z ∧ y = .int k ∧ ((k = 0 ∧ Q (.str "") H) ∨ (k = 1 ∧ Q (.str z) H))
theorem op_mul01 : OpR X (binaryOp .Mult) rMul01 := by
  intro pins s σ H x y v u Q I rx ry told
  obtain ⟨z, k, rfl, rfl, q⟩ := told
  obtain ⟨t, rfl⟩ := rx
  obtain ⟨t2, rfl⟩ := ry
  rcases q with ⟨rfl, q⟩ | ⟨rfl, q⟩
  · exact PySem.P.mul_str_none (by decide) (by decide) ⟨.str "", H, I.tok _, ⟨_, rfl⟩, q⟩
  · refine PySem.P.mul_str (by decide) (fun _ z => by simp at z) (fun _ z => by simp at z) ?_
    rw [if_neg (by decide), if_pos (by simp)]
    exact ⟨.str z, H, I, ⟨_, rfl⟩, q⟩
theorem tup_back (xs : Array Value) : ((List.range xs.size).filterMap fun (k : Nat) => xs[(((xs.size : Nat) : Int) - 1 + (k : Int) * -1).toNat]?).toArray = xs.toList.reverse.toArray := by
  have e : (fun (k : Nat) => xs[(((xs.size : Nat) : Int) - 1 + (k : Int) * -1).toNat]?) = fun k => xs[xs.size - 1 - k]? := by
    funext k
    have : (((xs.size : Nat) : Int) - 1 + (k : Int) * -1).toNat = xs.size - 1 - k := by omega
    rw [this]
  rw [e]
  have h := PySem.W.krv_range xs.size
  have g := PySem.W.krv_all xs
  rw [← g, ← List.filterMap_reverse, ← h, List.filterMap_map]
  rfl
theorem places_back (n : Nat) : Builtin.Slice.slicePlaces ((n : Int) - 1) (-1) (-1) = n := by
  unfold Builtin.Slice.slicePlaces
  rw [if_neg (by decide)]
  split
  · have : ((n : Int) - 1 - -1 - 1) / (- -1) = (n : Int) - 1 := by
      rw [show (- -1 : Int) = 1 by decide, Int.ediv_one]
      omega
    rw [this]
    omega
  · omega
def tRevT (K : PySem.W.Frag) (te : TE) : TE := fun σ H Q => te σ H fun x H1 => ∃ a xs, x = .ref a ∧ SqT K H1 a xs ∧ ∀ p, H1 p = none → Q (.ref p) (upd H1 p (.tup xs.reverse))
end
section
variable {prog : Program} {w : World} {A : Around} {E : Value → Shared → Prop} {s : Shared}
theorem getItem_tup_back {t sl : Addr} {items : Array Value} {vl vu vs : Value} {Q : Value → Shared → Prop} (ht : IsTup s.heap t items) (hs : s.heap.IsSliceOf sl vl vu vs) (pl : IsPart vl none) (pu : IsPart vu none) (ps : IsPart vs (some (-1)))
    (q : Q (.ref s.heap.objs.size) { s with heap := s.heap.push { cls := .type "tuple", data := .seq items.toList.reverse.toArray } }) (hsz : items.size ≤ sizeLine) : wpAny (model prog w) A (getItem (.ref t) (.ref sl)) Q E s := by
  have size : sizeOk (.seq items.toList.reverse.toArray) := by
    show items.toList.reverse.toArray.size ≤ sizeLine
    simpa using hsz
  obtain ⟨os, hos, hcs, hds⟩ := id hs
  unfold getItem
  try with_reducible refine wpAny_holding ?_
  first | refine wpAny_bind (wpAny_pure ?_) | skip
  refine wpAny_bind (wpAny_sequenceKey ht.typeIs (by decide) ?_)
  refine wpAny_bind (wpAny_callSpecial?_slot (name := Str.ofString "__getitem__") ht.typeIs PyProof.Rows.slot_tuple_getitem (wpAny_call_entry PyProof.Rows.slot_tuple_getitem ht.typeIs entry_tuple_getitem ?_ (args_tuple_getitem _ _)))
  show wpAny _ _ (Builtin.Tuple.tupleItemsOf (.ref t) >>= _) _ _ s
  refine wpAny_bind (tupleItemsOf_ ht (wpAny_bind (wpAny_typeOf (s := s) ⟨os, hos, hcs⟩ ?_)))
  rw [if_pos (by decide)]
  have applied : ∀ {R : Int × Int × Nat → Shared → Prop} {A : Around} {E : Value → Shared → Prop}, R (((items.size : Nat) : Int) - 1, -1, items.size) s → wpAny (model prog w) A (Builtin.Slice.sliceApplied (.ref sl) (pure ((items.size : Nat) : Int))) R E s := fun {R A E} r => by
    unfold Builtin.Slice.sliceApplied Builtin.Slice.sliceFields
    refine wpAny_bind (wpAny_bind (wpAny_field hos hds (x := vl) rfl (wpAny_bind (wpAny_field hos hds (x := vu) rfl (wpAny_bind (wpAny_field hos hds (x := vs) rfl (wpAny_pure ?_)))))))
    refine wpAny_bind (HT.slicePart_ ps ?_)
    show wpAny _ _ (if ((-1 : Int) == 0) = true then _ else _) _ _ s
    rw [if_neg (by decide)]
    refine wpAny_bind (HT.slicePart_ pl (wpAny_bind (HT.slicePart_ pu (wpAny_bind (wpAny_pure ?_)))))
    show wpAny _ _ (pure (((items.size : Nat) : Int) - 1, (-1 : Int), Builtin.Slice.slicePlaces (((items.size : Nat) : Int) - 1) (-1) (-1))) _ _ s
    rw [places_back]
    exact wpAny_pure r
  refine wpAny_bind (applied ?_)
  have no : ¬ ((((items.size : Nat) : Int) - 1 == 0 && (-1 : Int) == 1 && items.size == items.size) = true) := by
    intro z
    rw [Bool.and_eq_true, Bool.and_eq_true] at z
    exact absurd z.1.2 (by decide)
  show wpAny _ _ (if (((items.size : Nat) : Int) - 1 == 0 && (-1 : Int) == 1 && items.size == items.size) = true then _ else _) _ _ s
  rw [if_neg no, tup_back]
  first
    | exact wpAny_bind (m := Builtin.Tuple.tupleExact _) (wpAny_newObj_type (wpAny_pure ⟨_, rfl, wpAny_pure q⟩) size)
    | exact wpAny_bind (m := Builtin.Tuple.tupleExact _) (wpAny_newObj_type (wpAny_bind (wpAny_pure (wpAny_pure ⟨_, rfl, wpAny_pure q⟩))) size)
    | exact wpAny_bind (wpAny_bind (m := Builtin.Tuple.tupleExact _) (wpAny_newObj_type (wpAny_pure (wpAny_pure ⟨_, rfl, wpAny_pure q⟩)) size))
    | exact wpAny_bind (wpAny_bind (m := Builtin.Tuple.tupleExact _) (wpAny_newObj_type (wpAny_pure ⟨_, rfl, wpAny_pure q⟩) size))
end
section
variable {X : Cx}
/-- t[::-1] of a tuple -/
theorem pe_revT {e : Expr} {te : TE} {k : Nat} {p1 p2 p3 pos : Pos} (he : PE X e te) : PE X (.Subscript e (.Slice none none (some (.UnaryOp .USub (.Constant (.int 1) k p1) p2)) p3) pos) (tRevT X.K te) := by
  constructor
  intro pins s σ H Q I told
  refine Subscript_ (thn (he.run pins s σ H _ I told) fun v s1 got => ?_)
  obtain ⟨x, H1, I1, r1, a, xs, rfl, hx, q⟩ := got
  cases r1
  have step : PO X (some (.UnaryOp .USub (.Constant (.int 1) k p1) p2)) (tPart (tUn (rU fun i => .int (-i)) (tC (.int 1)))) := po_some (pe_un un_neg pe_int)
  refine wpAny_Slice (thn (po_none.run pins s1 σ H1 (fun o G => o = none ∧ G = H1) I1 ⟨rfl, rfl⟩) fun vl s2 g2 => ?_)
  obtain ⟨l, H2, I2, pl, rfl, rfl⟩ := g2
  refine thn (po_none.run pins s2 σ _ (fun o G => o = none ∧ G = _) I2 ⟨rfl, rfl⟩) fun vu s3 g3 => ?_
  obtain ⟨l, H3, I3, pu, rfl, rfl⟩ := g3
  refine thn (step.run pins s3 σ _ (fun o G => o = some (-1) ∧ G = _) I3 ⟨1, rfl, -1, rfl, rfl, rfl⟩) fun vs s4 g4 => ?_
  obtain ⟨l, H4, I4, ps, rfl, rfl⟩ := g4
  have I5 : Inv X pins σ _ { s4 with heap := s4.heap.push { cls := .type "slice", data := .fields #[vl, vu, vs] } } := I4.kept (t' := s4.toks) fun c o z => Heap.get?_push_of_some _ z
  obtain ⟨its, r, ht, hz⟩ := I5.tuple hx
  have hlen := r.length
  show wpAny (model X.prog X.w) X.A (subscriptTail e (.Slice none none (some (.UnaryOp .USub (.Constant (.int 1) k p1) p2)) p3) (.ref a) (.ref s4.heap.objs.size)) (EP X pins σ Q) X.xe { s4 with heap := s4.heap.push { cls := .type "slice", data := .fields #[vl, vu, vs] } }
  refine tail_any (ops := [.ref a, .ref s4.heap.objs.size]) ht.typeIs PyProof.Rows.slot_tuple_getitem.lookup ?_ (by with_unfolding_all rfl)
  refine getItem_tup_back ht (Heap.IsSliceOf.new _ vl vu vs) pl pu ps ?_ (by rw [List.size_toArray]; omega)
  refine ⟨.ref _, _, I5.laid (t' := s4.toks) (o := .tup xs.reverse) (fun c o z => Heap.get?_push_of_some _ z) (Nat.le_refl _) ?_, rfl, q _ (I5.hok.fresh (Nat.le_refl _))⟩
  exact ⟨by rw [List.length_reverse]; exact hz, _, r.reverse, IsTup.new _ _⟩
end
section
variable {X : Cx}
/-- every second of the things -/
def evens {α : Type} : List α → List α
  | [] => []
  | [x] => [x]
  | x :: _ :: r => x :: evens r
theorem evens_len {α : Type} : ∀ (xs : List α), (evens xs).length ≤ xs.length
  | [] => Nat.le_refl _
  | [_] => Nat.le_refl _
  | _ :: _ :: r => by
    have := evens_len r
    simp only [evens, List.length_cons]
    omega
theorem evens_mem {α : Type} {x : α} : ∀ {xs : List α}, x ∈ evens xs → x ∈ xs
  | [], h => h
  | [_], h => h
  | a :: _ :: r, h => by
    rcases List.mem_cons.mp h with rfl | h
    · exact List.mem_cons_self
    · exact List.mem_cons_of_mem _ (List.mem_cons_of_mem _ (evens_mem h))
theorem evens_map {α β : Type} (f : α → β) : ∀ (xs : List α), evens (xs.map f) = (evens xs).map f
  | [] => rfl
  | [_] => rfl
  | _ :: _ :: r => by
    simp only [List.map_cons, evens, evens_map f r]
theorem evens_vals : ∀ {xs : List V} {us : List Value}, Vals xs us → Vals (evens xs) (evens us)
  | _, _, .nil => .nil
  | _, _, .cons r .nil => .cons r .nil
  | _, _, .cons r (.cons _ t) => .cons r (evens_vals t)
theorem range4 : sliceRange 0 4 2 = [0, 2] := by decide +kernel
theorem bounds4 : sliceBounds none none (some 2) 4 = (0, 4, 2) := by decide +kernel
theorem pick4 (a b c d : Value) : slicePick #[a, b, c, d] none none (some 2) = #[a, c] := by
  unfold slicePick
  show (match sliceBounds none none (some 2) 4 with | (lo, hi, st) => ((sliceRange lo hi st).filterMap (#[a, b, c, d][·]?)).toArray) = _
  rw [bounds4]
  show ((sliceRange 0 4 2).filterMap (#[a, b, c, d][·]?)).toArray = _
  rw [range4]
  rfl
theorem range3 : sliceRange 0 3 2 = [0, 2] := by decide +kernel
theorem bounds3 : sliceBounds none none (some 2) 3 = (0, 3, 2) := by decide +kernel
theorem pick3 (a b c : Value) : slicePick #[a, b, c] none none (some 2) = #[a, c] := by
  unfold slicePick
  show (match sliceBounds none none (some 2) 3 with | (lo, hi, st) => ((sliceRange lo hi st).filterMap (#[a, b, c][·]?)).toArray) = _
  rw [bounds3]
  show ((sliceRange 0 3 2).filterMap (#[a, b, c][·]?)).toArray = _
  rw [range3]
  rfl
theorem range2 : sliceRange 0 2 2 = [0] := by decide +kernel
theorem bounds2 : sliceBounds none none (some 2) 2 = (0, 2, 2) := by decide +kernel
theorem pick2 (a b : Value) : slicePick #[a, b] none none (some 2) = #[a] := by
  unfold slicePick
  show (match sliceBounds none none (some 2) 2 with | (lo, hi, st) => ((sliceRange lo hi st).filterMap (#[a, b][·]?)).toArray) = _
  rw [bounds2]
  show ((sliceRange 0 2 2).filterMap (#[a, b][·]?)).toArray = _
  rw [range2]
  rfl
theorem range1 : sliceRange 0 1 2 = [0] := by decide +kernel
theorem bounds1 : sliceBounds none none (some 2) 1 = (0, 1, 2) := by decide +kernel
theorem pick1 (a : Value) : slicePick #[a] none none (some 2) = #[a] := by
  unfold slicePick
  show (match sliceBounds none none (some 2) 1 with | (lo, hi, st) => ((sliceRange lo hi st).filterMap (#[a][·]?)).toArray) = _
  rw [bounds1]
  show ((sliceRange 0 1 2).filterMap (#[a][·]?)).toArray = _
  rw [range1]
  rfl
theorem pick_small : ∀ (xs : List Value), xs.length ≤ 4 → slicePick xs.toArray none none (some 2) = (evens xs).toArray
  | [], _ => rfl
  | [a], _ => pick1 a
  | [a, b], _ => pick2 a b
  | [a, b, c], _ => pick3 a b c
  | [a, b, c, d], _ => pick4 a b c d
  | _ :: _ :: _ :: _ :: _ :: _, h => by
    simp only [List.length_cons] at h
    omega
def tTwo (K : PySem.W.Frag) (te : TE) : TE := fun σ H Q => te σ H fun x H1 => ∃ a xs, x = .ref a ∧ SqL K H1 a xs ∧ xs.length ≤ 4 ∧ ∀ p, H1 p = none → Q (.ref p) (upd H1 p (.lst (evens xs)))
/-- xs[::2] of a list of at most four things -/
theorem pe_two {e : Expr} {te : TE} {k : Nat} {p1 p3 pos : Pos} (he : PE X e te) : PE X (.Subscript e (.Slice none none (some (.Constant (.int 2) k p1)) p3) pos) (tTwo X.K te) := by
  constructor
  intro pins s σ H Q I told
  refine Subscript_ (thn (he.run pins s σ H _ I told) fun v s1 got => ?_)
  obtain ⟨x, H1, I1, r1, a, xs, rfl, hx, h4, q⟩ := got
  cases r1
  have step : PO X (some (.Constant (.int 2) k p1)) (tPart (tC (.int 2))) := po_some pe_int
  refine wpAny_Slice (thn (po_none.run pins s1 σ H1 (fun o G => o = none ∧ G = H1) I1 ⟨rfl, rfl⟩) fun vl s2 g2 => ?_)
  obtain ⟨l, H2, I2, pl, rfl, rfl⟩ := g2
  refine thn (po_none.run pins s2 σ _ (fun o G => o = none ∧ G = _) I2 ⟨rfl, rfl⟩) fun vu s3 g3 => ?_
  obtain ⟨l, H3, I3, pu, rfl, rfl⟩ := g3
  refine thn (step.run pins s3 σ _ (fun o G => o = some 2 ∧ G = _) I3 ⟨2, rfl, rfl, rfl⟩) fun vs s4 g4 => ?_
  obtain ⟨l, H4, I4, ps, rfl, rfl⟩ := g4
  have I5 : Inv X pins σ _ { s4 with heap := s4.heap.push { cls := .type "slice", data := .fields #[vl, vu, vs] } } := I4.kept (t' := s4.toks) fun c o z => Heap.get?_push_of_some _ z
  obtain ⟨its, r, ht, hz⟩ := I5.list hx
  have hlen := r.length
  show wpAny (model X.prog X.w) X.A (subscriptTail e (.Slice none none (some (.Constant (.int 2) k p1)) p3) (.ref a) (.ref s4.heap.objs.size)) (EP X pins σ Q) X.xe { s4 with heap := s4.heap.push { cls := .type "slice", data := .fields #[vl, vu, vs] } }
  refine tail_any (ops := [.ref a, .ref s4.heap.objs.size]) ht.isList.typeIs (PySem.slot_list_getitem.lookup) ?_ (by with_unfolding_all rfl)
  refine wpAny_getItem_list_slice ht.isList (Heap.IsSliceOf.new _ vl vu vs) pl pu ps (by decide) ?_ (by rw [List.size_toArray]; omega)
  rw [pick_small its (by omega)]
  refine ⟨.ref _, _, I5.laid (t' := s4.toks) (o := .lst (evens xs)) (fun c o z => Heap.get?_push_of_some _ z) (Nat.le_refl _) ?_, rfl, q _ (I5.hok.fresh (Nat.le_refl _))⟩
  exact ⟨Nat.le_trans (evens_len xs) hz, _, 0, evens_vals r, Heap.get?_push_size _ rfl⟩
end
end CaD
set_option Elab.async false
set_option linter.all false
set_option maxRecDepth 100000
/-! The parts in the order of text, with their levels. -/
namespace CaN
open PySem PySem.Spec PyProof.Rows L2 CaD
mutual
def preL : PyData → Nat → List (PyData × Nat)
  | .tuple (.str k :: d1 :: r), l => (.tuple (.str k :: d1 :: r), l) :: (if k = "op" ∨ k = "call" then preRow r (l + 1) else if k = "let" ∨ k = "each" ∨ k = "want" then preAll r (l + 1) else [])
  | d, l => [(d, l)]
def preRow : List PyData → Nat → List (PyData × Nat)
  | .tuple zs :: _, l => preAll zs l
  | _, _ => []
def preAll : List PyData → Nat → List (PyData × Nat)
  | [], _ => []
  | x :: xs, l => preL x l ++ preAll xs l
end
theorem preAll_eq : ∀ (xs : List PyData) (l : Nat), preAll xs l = xs.flatMap fun c => preL c l
  | [], _ => by simp [preAll]
  | x :: xs, l => by
    simp only [preAll, List.flatMap_cons]
    rw [preAll_eq xs l]
theorem preRow_eq (r : List PyData) (l : Nat) : preRow r l = (rowOf r).flatMap fun c => preL c l := by
  unfold rowOf
  split
  · simp only [preRow]
    exact preAll_eq _ _
  · rename_i h
    unfold preRow
    split
    · rename_i zs r
      exact absurd rfl (h zs r)
    · rfl
theorem preL_eq (d : PyData) (l : Nat) : preL d l = (d, l) :: (inner d).flatMap fun c => preL c (l + 1) := by
  unfold inner
  split
  · rename_i k d1 r
    simp only [preL]
    congr 1
    split
    · exact preRow_eq _ _
    · split
      · exact preAll_eq _ _
      · rfl
  · rename_i h
    unfold preL
    split
    · rename_i k d1 r
      exact absurd rfl (h k d1 r)
    · rfl
def pre (d : PyData) : List PyData := (preL d 1).map (·.1)
theorem lt_inner {d c : PyData} (h : c ∈ inner d) : c.depth < d.depth := (inner_sub d).2.2 c h
theorem by_depth {Q : PyData → Prop} (h : ∀ d, (∀ c ∈ inner d, Q c) → Q d) (d : PyData) : Q d := by
  have key : ∀ n (d : PyData), d.depth ≤ n → Q d := by
    intro n
    induction n with
    | zero =>
      intro d hd
      exact h d fun c hc => by
        have := lt_inner hc
        omega
    | succ n ih =>
      intro d hd
      exact h d fun c hc => ih c (by
        have := lt_inner hc
        omega)
  exact key _ d (Nat.le_refl _)
theorem flat_congr {α β : Type} {f g : α → List β} : ∀ {xs : List α}, (∀ x ∈ xs, f x = g x) → xs.flatMap f = xs.flatMap g
  | [], _ => rfl
  | x :: xs, h => by
    rw [List.flatMap_cons, List.flatMap_cons, h x List.mem_cons_self, flat_congr fun y m => h y (List.mem_cons_of_mem _ m)]
theorem map_flat {α β γ : Type} (f : β → γ) (g : α → List β) (xs : List α) : (xs.flatMap g).map f = xs.flatMap fun x => (g x).map f := by
  induction xs with
  | nil => rfl
  | cons x xs ih => rw [List.flatMap_cons, List.map_append, ih, List.flatMap_cons]
theorem preL_shift (d : PyData) : ∀ l, preL d (l + 1) = (preL d l).map fun x => (x.1, x.2 + 1) := by
  refine by_depth (Q := fun d => ∀ l, preL d (l + 1) = (preL d l).map fun x => (x.1, x.2 + 1)) (fun d ih l => ?_) d
  rw [preL_eq d (l + 1), preL_eq d l, List.map_cons, map_flat]
  congr 1
  exact flat_congr fun c hc => ih c hc (l + 1)
theorem preL_fst (d : PyData) : ∀ l, (preL d l).map (·.1) = pre d := by
  have step : ∀ l, (preL d (l + 1)).map (·.1) = (preL d l).map (·.1) := fun l => by
    rw [preL_shift, List.map_map]
    rfl
  have zero : ∀ l, (preL d l).map (·.1) = (preL d 0).map (·.1) := by
    intro l
    induction l with
    | zero => rfl
    | succ l ih => rw [step, ih]
  intro l
  unfold pre
  rw [zero l, zero 1]
theorem pre_eq (d : PyData) : pre d = d :: (inner d).flatMap pre := by
  unfold pre
  rw [preL_eq, List.map_cons, map_flat]
  congr 1
  exact flat_congr fun c _ => preL_fst c 2
theorem pre_mem {R : PyData → Prop} (h : ∀ d, R d → ∀ c ∈ inner d, R c) (d : PyData) : R d → ∀ x ∈ pre d, R x := by
  refine by_depth (Q := fun d => R d → ∀ x ∈ pre d, R x) (fun d ih hd x hx => ?_) d
  rw [pre_eq] at hx
  rcases List.mem_cons.mp hx with rfl | hx
  · exact hd
  · obtain ⟨c, hc, hx⟩ := List.mem_flatMap.mp hx
    exact ih c hc (h d hd c hc) x hx
theorem pre_len (d : PyData) : (pre d).length ≤ wt d := by
  refine by_depth (Q := fun d => (pre d).length ≤ wt d) (fun d ih => ?_) d
  have sub := (inner_sub d).2.1
  rw [pre_eq, List.length_cons]
  have : ((inner d).flatMap pre).length ≤ wtAll (inner d) := by
    generalize inner d = xs at ih
    induction xs with
    | nil => simp
    | cons x xs ihx =>
      rw [List.flatMap_cons, List.length_append]
      simp only [wtAll]
      have h1 := ih x List.mem_cons_self
      have h2 := ihx fun c hc => ih c (List.mem_cons_of_mem _ hc)
      omega
  omega
theorem pre_wt (d : PyData) : wtAll (pre d) ≤ wt d * (d.depth + 1) := by
  refine by_depth (Q := fun d => wtAll (pre d) ≤ wt d * (d.depth + 1)) (fun d ih => ?_) d
  have sub := inner_sub d
  rw [pre_eq]
  simp only [wtAll]
  have : wtAll ((inner d).flatMap pre) ≤ wtAll (inner d) * d.depth := by
    have hd := sub.2.2
    generalize inner d = xs at ih hd
    induction xs with
    | nil => simp [wtAll]
    | cons x xs ihx =>
      rw [List.flatMap_cons, wtAll_append]
      simp only [wtAll]
      have h1 := ih x List.mem_cons_self
      have h2 := ihx (fun c hc => ih c (List.mem_cons_of_mem _ hc)) fun c hc => hd c (List.mem_cons_of_mem _ hc)
      have h3 : wt x * (x.depth + 1) ≤ wt x * d.depth := Nat.mul_le_mul_left _ (hd x List.mem_cons_self)
      rw [Nat.add_mul]
      omega
  have h4 : wtAll (inner d) * d.depth ≤ wt d * d.depth := Nat.mul_le_mul_right _ (Nat.le_of_lt sub.2.1)
  rw [Nat.mul_add, Nat.mul_one]
  omega
/-- the greatest of some numbers -/
def maxL (xs : List Nat) : Nat := xs.foldr max 0
theorem maxL_le {xs : List Nat} {n : Nat} : maxL xs ≤ n ↔ ∀ x ∈ xs, x ≤ n := by
  induction xs with
  | nil => simp [maxL]
  | cons x xs ih =>
    show max x (maxL xs) ≤ n ↔ _
    rw [Nat.max_le, ih]
    simp
theorem maxL_app (xs ys : List Nat) : maxL (xs ++ ys) = max (maxL xs) (maxL ys) := by
  refine Nat.le_antisymm (maxL_le.mpr fun x hx => ?_) (Nat.max_le.mpr ⟨maxL_le.mpr fun x hx => ?_, maxL_le.mpr fun x hx => ?_⟩)
  · rcases List.mem_append.mp hx with h | h
    · exact Nat.le_trans (maxL_le.mp (Nat.le_refl _) x h) (Nat.le_max_left _ _)
    · exact Nat.le_trans (maxL_le.mp (Nat.le_refl _) x h) (Nat.le_max_right _ _)
  · exact maxL_le.mp (Nat.le_refl _) x (List.mem_append_left _ hx)
  · exact maxL_le.mp (Nat.le_refl _) x (List.mem_append_right _ hx)
theorem maxL_is {xs : List Nat} {m : Nat} (h : m ∈ xs) (g : ∀ x ∈ xs, x ≤ m) : maxL xs = m := Nat.le_antisymm (maxL_le.mpr g) (maxL_le.mp (Nat.le_refl _) m h)
theorem maxL_up : ∀ (xs : List Nat), xs ≠ [] → maxL (xs.map (· + 1)) = maxL xs + 1
  | [], h => absurd rfl h
  | [x], _ => by
    show max (x + 1) 0 = max x 0 + 1
    omega
  | x :: y :: r, _ => by
    have := maxL_up (y :: r) (by simp)
    show max (x + 1) (maxL ((y :: r).map (· + 1))) = max x (maxL (y :: r)) + 1
    rw [this]
    omega
/-- how deep the parts stand within one another -/
def dep (d : PyData) : Nat := maxL ((preL d 1).map (·.2))
theorem dep_eq (d : PyData) : dep d = 1 + maxL ((inner d).map dep) := by
  unfold dep
  rw [preL_eq, List.map_cons, map_flat]
  show max 1 (maxL ((inner d).flatMap fun c => (preL c 2).map (·.2))) = _
  have e : ∀ c, (preL c 2).map (·.2) = ((preL c 1).map (·.2)).map (· + 1) := fun c => by
    rw [preL_shift, List.map_map, List.map_map]
    rfl
  generalize inner d = xs
  have key : maxL (xs.flatMap fun c => (preL c 2).map (·.2)) = if xs = [] then 0 else 1 + maxL (xs.map dep) := by
    induction xs with
    | nil => rfl
    | cons x xs ih =>
      rw [List.flatMap_cons, maxL_app, ih, e x, maxL_up _ (fun z => by rw [preL_eq] at z; cases z), if_neg (List.cons_ne_nil x xs), List.map_cons]
      show max (dep x + 1) _ = 1 + max (dep x) (maxL (xs.map dep))
      split
      · rename_i h
        rw [h]
        show max (dep x + 1) 0 = 1 + max (dep x) 0
        omega
      · omega
  rw [key]
  split
  · rename_i h
    rw [h]
    rfl
  · show max 1 (1 + maxL (xs.map dep)) = 1 + maxL (xs.map dep)
    omega
theorem dep_le (d : PyData) : dep d ≤ d.depth + 1 := by
  refine by_depth (Q := fun d => dep d ≤ d.depth + 1) (fun d ih => ?_) d
  rw [dep_eq]
  have : maxL ((inner d).map dep) ≤ d.depth := maxL_le.mpr fun x hx => by
    obtain ⟨c, hc, rfl⟩ := List.mem_map.mp hx
    have := ih c hc
    have := lt_inner hc
    omega
  omega
/-! ### the walk with the stack -/
theorem run_some_good (P : PyData → Bool) : ∀ (n : Nat) (S ys : List (PyData × Nat)), run P n S = some ys → ∀ x ∈ S, goodF P x.1 = true := by
  intro n
  induction n with
  | zero =>
    intro S ys h x hx
    cases S with
    | nil => cases hx
    | cons y S => cases h
  | succ n ih =>
    intro S ys h x hx
    cases S with
    | nil => cases hx
    | cons y S =>
      obtain ⟨d, l⟩ := y
      have h : (if l > 60 then none else if P d = true then (run P n ((inner d).map (fun c => (c, l + 1)) ++ S)).map fun ys => (d, l) :: ys else none) = some ys := h
      split at h
      · cases h
      · split at h
        · rename_i hp
          cases e : run P n ((inner d).map (fun c => (c, l + 1)) ++ S) with
          | none =>
            rw [e] at h
            cases h
          | some zs =>
            have z := ih _ _ e
            rcases List.mem_cons.mp hx with rfl | hx
            · show goodF P d = true
              rw [goodF_eq, hp, Bool.true_and, List.all_eq_true]
              intro c hc
              exact z (c, l + 1) (List.mem_append_left _ (List.mem_map.mpr ⟨c, hc, rfl⟩))
            · exact z x (List.mem_append_right _ hx)
        · cases h
theorem run_bad {P : PyData → Bool} {n l : Nat} {d : PyData} (h : goodF P d = false) : run P n [(d, l)] = none := by
  cases e : run P n [(d, l)] with
  | none => rfl
  | some ys =>
    have z : goodF P d = true := run_some_good P n _ ys e (d, l) List.mem_cons_self
    rw [h] at z
    cases z
theorem run_pre (P : PyData → Bool) (hP : ∀ d, P d = true → wtAll (inner d) + 3 ≤ wt d) : ∀ (n : Nat) (S : List (PyData × Nat)), wsum S ≤ 3 * n → (∀ x ∈ S, goodF P x.1 = true ∧ x.2 + x.1.depth ≤ 60) → run P n S = some (S.flatMap fun x => preL x.1 x.2) := by
  intro n
  induction n with
  | zero =>
    intro S h _
    cases S with
    | nil => simp [run]
    | cons x S =>
      have := wt_pos x.1
      simp only [wsum, List.map_cons, wtAll] at h
      omega
  | succ n ih =>
    intro S h hg
    cases S with
    | nil => simp [run]
    | cons x S =>
      obtain ⟨d, l⟩ := x
      have g := hg (d, l) List.mem_cons_self
      have g1 : goodF P d = true := g.1
      have g2 : l + d.depth ≤ 60 := g.2
      rw [goodF_eq, Bool.and_eq_true, List.all_eq_true] at g1
      have sub := inner_sub d
      have h3 := hP d g1.1
      simp only [wsum, List.map_cons, wtAll] at h
      show (if l > 60 then none else if P d = true then (run P n ((inner d).map (fun c => (c, l + 1)) ++ S)).map fun ys => (d, l) :: ys else none) = _
      rw [if_neg (by omega), if_pos g1.1, ih]
      · rw [List.flatMap_cons, preL_eq d l, List.flatMap_append, List.flatMap_map]
        rfl
      · have e : wsum ((inner d).map (fun c => (c, l + 1)) ++ S) = wtAll (inner d) + wsum S := by
          unfold wsum
          rw [List.map_append, wtAll_append, List.map_map, show ((fun x : PyData × Nat => x.1) ∘ fun c => (c, l + 1)) = id from rfl, List.map_id]
        rw [e]
        have : wsum S = wtAll (S.map (·.1)) := rfl
        omega
      · intro y hy
        rcases List.mem_append.mp hy with hy | hy
        · obtain ⟨c, hc, rfl⟩ := List.mem_map.mp hy
          have := sub.2.2 c hc
          exact ⟨g1.2 c hc, by show l + 1 + c.depth ≤ 60; omega⟩
        · exact hg y (List.mem_cons_of_mem _ hy)
theorem part_wt {ks : List Str} {ps : Option (List Str)} (d : PyData) (h : isPart ks ps d = true) : wtAll (inner d) + 3 ≤ wt d := by
  unfold isPart at h
  split at h
  · rename_i kd d1 r
    have e : inner (.tuple (.str kd :: d1 :: r)) = if kd = "op" ∨ kd = "call" then rowOf r else if kd = "let" ∨ kd = "each" ∨ kd = "want" then r else [] := rfl
    have ew : wt (.tuple (.str kd :: d1 :: r)) = 1 + (wt d1 + wtAll r) + 1 := by simp only [wt, wtAll]
    have p1 := wt_pos d1
    rw [e, ew]
    split
    · unfold rowOf
      split
      · simp only [wtAll, wt]
        omega
      · simp only [wtAll]
        omega
    · split
      · omega
      · simp only [wtAll]
        omega
  · cases h
theorem run_body {ks : List Str} {ps : Option (List Str)} {d : PyData} (g : goodF (isPart ks ps) d = true) (hw : wt d ≤ 1200) (hd : d.depth ≤ 59) : run (isPart ks ps) 400 [(d, 1)] = some (preL d 1) := by
  rw [run_pre (isPart ks ps) (fun d h => part_wt d h) 400 [(d, 1)] (by simp only [wsum, List.map_cons, List.map_nil, wtAll]; omega) (fun x hx => by
    rw [List.mem_singleton.mp hx]
    exact ⟨g, by show 1 + d.depth ≤ 60; omega⟩)]
  simp
end CaN
set_option Elab.async false
set_option linter.all false
set_option maxRecDepth 100000
namespace K12
open PySem PySem.Spec PyProof.Rows L2 CaV CaL CaN CaD
def topS (i : Nat) : Stmt := PySem.Challenge.pw_caughtnames_k12_parts_listed.main.body.getD i (.Pass ⟨0, 0, 0, 0⟩)
abbrev s_is_name : Stmt := topS 7
abbrev N_is_name : List Str := ["value"]
theorem sc_is_name : FnScope N_is_name ["value"] (defScope s_is_name) := ⟨rfl, rfl, rfl, by decide +kernel, rfl, by decide +kernel, by decide +kernel⟩
abbrev s_is_parameter : Stmt := topS 8
abbrev N_is_parameter : List Str := ["value"]
theorem sc_is_parameter : FnScope N_is_parameter ["value"] (defScope s_is_parameter) := ⟨rfl, rfl, rfl, by decide +kernel, rfl, by decide +kernel, by decide +kernel⟩
abbrev s_size : Stmt := topS 16
abbrev N_size : List Str := ["body"]
theorem sc_size : FnScope N_size ["body"] (defScope s_size) := ⟨rfl, rfl, rfl, by decide +kernel, rfl, by decide +kernel, by decide +kernel⟩
abbrev s_depth : Stmt := topS 17
abbrev N_depth : List Str := ["body", "part", "level"]
theorem sc_depth : FnScope N_depth ["body"] (defScope s_depth) := ⟨rfl, rfl, rfl, by decide +kernel, rfl, by decide +kernel, by decide +kernel⟩
abbrev s_uses : Stmt := topS 18
abbrev N_uses : List Str := ["body", "part", "level"]
theorem sc_uses : FnScope N_uses ["body"] (defScope s_uses) := ⟨rfl, rfl, rfl, by decide +kernel, rfl, by decide +kernel, by decide +kernel⟩
abbrev s_binders : Stmt := topS 19
abbrev N_binders : List Str := ["body", "part", "level"]
theorem sc_binders : FnScope N_binders ["body"] (defScope s_binders) := ⟨rfl, rfl, rfl, by decide +kernel, rfl, by decide +kernel, by decide +kernel⟩
abbrev s_calls : Stmt := topS 20
abbrev N_calls : List Str := ["body", "part", "level"]
theorem sc_calls : FnScope N_calls ["body"] (defScope s_calls) := ⟨rfl, rfl, rfl, by decide +kernel, rfl, by decide +kernel, by decide +kernel⟩
abbrev s_parts_of_body : Stmt := topS 21
abbrev N_parts_of_body : List Str := ["body", "parts"]
theorem sc_parts_of_body : FnScope N_parts_of_body ["body"] (defScope s_parts_of_body) := ⟨rfl, rfl, rfl, by decide +kernel, rfl, by decide +kernel, by decide +kernel⟩
abbrev s_levelled_parts : Stmt := topS 22
abbrev N_levelled_parts : List Str := ["value", "kinds", "parameters", "found", "waiting", "part", "level", "inner"]
theorem sc_levelled_parts : FnScope N_levelled_parts ["value", "kinds", "parameters"] (defScope s_levelled_parts) := ⟨rfl, rfl, rfl, by decide +kernel, rfl, by decide +kernel, by decide +kernel⟩
abbrev s_parts_within : Stmt := topS 23
abbrev N_parts_within : List Str := ["part"]
theorem sc_parts_within : FnScope N_parts_within ["part"] (defScope s_parts_within) := ⟨rfl, rfl, rfl, by decide +kernel, rfl, by decide +kernel, by decide +kernel⟩
abbrev s_is_part : Stmt := topS 24
abbrev N_is_part : List Str := ["value", "kinds", "parameters", "kind"]
theorem sc_is_part : FnScope N_is_part ["value", "kinds", "parameters"] (defScope s_is_part) := ⟨rfl, rfl, rfl, by decide +kernel, rfl, by decide +kernel, by decide +kernel⟩
abbrev s_has_row : Stmt := topS 25
abbrev N_has_row : List Str := ["value", "most"]
theorem sc_has_row : FnScope N_has_row ["value", "most"] (defScope s_has_row) := ⟨rfl, rfl, rfl, by decide +kernel, rfl, by decide +kernel, by decide +kernel⟩
abbrev s_is_name_within : Stmt := topS 26
abbrev N_is_name_within : List Str := ["value", "parameters"]
theorem sc_is_name_within : FnScope N_is_name_within ["value", "parameters"] (defScope s_is_name_within) := ⟨rfl, rfl, rfl, by decide +kernel, rfl, by decide +kernel, by decide +kernel⟩
abbrev s_is_allowed : Stmt := topS 27
abbrev N_is_allowed : List Str := ["parameter", "parameters"]
theorem sc_is_allowed : FnScope N_is_allowed ["parameter", "parameters"] (defScope s_is_allowed) := ⟨rfl, rfl, rfl, by decide +kernel, rfl, by decide +kernel, by decide +kernel⟩
abbrev s_term_text : Stmt := topS 32
abbrev N_term_text : List Str := ["body"]
theorem sc_term_text : FnScope N_term_text ["body"] (defScope s_term_text) := ⟨rfl, rfl, rfl, by decide +kernel, rfl, by decide +kernel, by decide +kernel⟩
abbrev s_l_cell : Stmt := topS 35
abbrev N_l_cell : List Str := ["_law_script", "_law_k"]
theorem sc_l_cell : FnScope N_l_cell ["_law_script", "_law_k"] (defScope s_l_cell) := ⟨rfl, rfl, rfl, by decide +kernel, rfl, by decide +kernel, by decide +kernel⟩
abbrev s_l_purse : Stmt := topS 36
abbrev N_l_purse : List Str := ["_law_cell_here"]
theorem sc_l_purse : FnScope N_l_purse ["_law_cell_here"] (defScope s_l_purse) := ⟨rfl, rfl, rfl, by decide +kernel, rfl, by decide +kernel, by decide +kernel⟩
abbrev s_l_take : Stmt := topS 37
abbrev N_l_take : List Str := ["_law_purse_here", "_law_many", "_law_digit", "_law_number"]
theorem sc_l_take : FnScope N_l_take ["_law_purse_here", "_law_many"] (defScope s_l_take) := ⟨rfl, rfl, rfl, by decide +kernel, rfl, by decide +kernel, by decide +kernel⟩
abbrev s_l_pool : Stmt := topS 38
abbrev N_l_pool : List Str := ["_law_purse_here", "_law_letters", "_law_way", "_law_first", "_law_at", "_law_stem", "_law_turned", "_law_found", "_law_own", "_law_k", "_law_letter", "_law_name"]
theorem sc_l_pool : FnScope N_l_pool ["_law_purse_here"] (defScope s_l_pool) := ⟨rfl, rfl, rfl, by decide +kernel, rfl, by decide +kernel, by decide +kernel⟩
abbrev s_l_parts : Stmt := topS 39
abbrev N_l_parts : List Str := ["_law_purse_here", "_law_pool_here", "_law_room", "_law_deep_here", "_law_way", "_law_many", "_law_found", "_law_k", "_law_share"]
theorem sc_l_parts : FnScope N_l_parts ["_law_purse_here", "_law_pool_here", "_law_room", "_law_deep_here", "_law_way", "_law_many"] (defScope s_l_parts) := ⟨rfl, rfl, rfl, by decide +kernel, rfl, by decide +kernel, by decide +kernel⟩
abbrev s_l_piece : Stmt := topS 40
abbrev N_l_piece : List Str := ["_law_purse_here", "_law_pool_here", "_law_room", "_law_deep_here", "_law_way", "_law_kind", "_law_many", "_law_head", "_law_parts_here", "_law_word", "_law_name"]
theorem sc_l_piece : FnScope N_l_piece ["_law_purse_here", "_law_pool_here", "_law_room", "_law_deep_here", "_law_way"] (defScope s_l_piece) := ⟨rfl, rfl, rfl, by decide +kernel, rfl, by decide +kernel, by decide +kernel⟩
abbrev s_l_bad : Stmt := topS 41
abbrev N_l_bad : List Str := ["_law_purse_here", "_law_value", "_law_parts_here", "_law_at", "_law_inner", "_law_one", "_law_some"]
theorem sc_l_bad : FnScope N_l_bad ["_law_purse_here", "_law_value"] (defScope s_l_bad) := ⟨rfl, rfl, rfl, by decide +kernel, rfl, by decide +kernel, by decide +kernel⟩
abbrev s_l_within : Stmt := topS 42
abbrev N_l_within : List Str := ["_law_value"]
theorem sc_l_within : FnScope N_l_within ["_law_value"] (defScope s_l_within) := ⟨rfl, rfl, rfl, by decide +kernel, rfl, by decide +kernel, by decide +kernel⟩
abbrev s_l_all : Stmt := topS 43
abbrev N_l_all : List Str := ["_law_value", "_law_found", "_law_part"]
theorem sc_l_all : FnScope N_l_all ["_law_value"] (defScope s_l_all) := ⟨rfl, rfl, rfl, by decide +kernel, rfl, by decide +kernel, by decide +kernel⟩
abbrev s_l_deep : Stmt := topS 44
abbrev N_l_deep : List Str := ["_law_value", "_law_part"]
theorem sc_l_deep : FnScope N_l_deep ["_law_value"] (defScope s_l_deep) := ⟨rfl, rfl, rfl, by decide +kernel, rfl, by decide +kernel, by decide +kernel⟩
abbrev s_l_told : Stmt := topS 45
abbrev N_l_told : List Str := ["_law_way", "_law_value"]
theorem sc_l_told : FnScope N_l_told ["_law_way", "_law_value"] (defScope s_l_told) := ⟨rfl, rfl, rfl, by decide +kernel, rfl, by decide +kernel, by decide +kernel⟩
abbrev s_l_refused : Stmt := topS 46
abbrev N_l_refused : List Str := ["_law_way", "_law_value", "_law_found", "e"]
theorem sc_l_refused : FnScope N_l_refused ["_law_way", "_law_value"] (defScope s_l_refused) := ⟨rfl, rfl, rfl, by decide +kernel, rfl, by decide +kernel, by decide +kernel⟩
abbrev s_l_right : Stmt := topS 47
abbrev N_l_right : List Str := ["_law_purse_here", "_law_pool_here", "_law_room", "_law_value", "_law_parts_here", "_law_due", "_law_first", "_law_way", "_law_found", "_law_some", "_law_odd", "_law_part"]
theorem sc_l_right : FnScope N_l_right ["_law_purse_here"] (defScope s_l_right) := ⟨rfl, rfl, rfl, by decide +kernel, rfl, by decide +kernel, by decide +kernel⟩
abbrev s_law : Stmt := topS 48
abbrev N_law : List Str := ["_law_script", "_law_k"]
theorem sc_law : FnScope N_law ["_law_script"] (defScope s_law) := ⟨rfl, rfl, rfl, by decide +kernel, rfl, by decide +kernel, by decide +kernel⟩
abbrev s_init : Stmt := inClass (topS 3) 0
abbrev N_init : List Str := ["self", "value"]
theorem sc_init : FnScope N_init ["self", "value"] (defScope s_init) := ⟨rfl, rfl, rfl, by decide +kernel, rfl, by decide +kernel, by decide +kernel⟩
/-- the class of an exception: all that is asked of it -/
structure TXB (K : PySem.W.Frag) (mg : Str → Option Value) (C fI : Addr) : Prop where
  ox : OexC K C
  ex : ExcC K C
  xf : XfC K C
  no : PySem.W.findIn K (.ref C) "value" = some none
  iC : PySem.W.findIn K (.ref C) "__init__" = some (some (.ref fI))
  tI : PySem.W.typeIn K (.ref fI) = some (.type "function")
  gC : mg "InvalidBody" = some (.ref C)
def bindK : List Str := ["let", "each", "want"]
/-- a def of the text where it stands -/
structure Df (K : PySem.W.Frag) (mg : Str → Option Value) (x : Str) (st : Stmt) (ps : List Str) where
  f : Addr
  fd : FuncData
  F : Fun K x x st f fd
  b : Binds K fd ps []
  g : mg x = some (.ref f)
/-- what the top holds by name -/
structure TP (K : PySem.W.Frag) (mg : Str → Option Value) where
  n_len : mg "len" = none
  n_max : mg "max" = none
  n_min : mg "min" = none
  n_range : mg "range" = none
  n_isinstance : mg "isinstance" = none
  n_int : mg "int" = none
  n_str : mg "str" = none
  n_list : mg "list" = none
  n_tuple : mg "tuple" = none
  n_repr : mg "repr" = none
  aKW : Addr
  gl_KEYWORDS : mg "KEYWORDS" = some (.ref aKW)
  sKW : ∀ H, SqT K H aKW (kws.map V.str)
  aBK : Addr
  gl_BODY_KINDS : mg "BODY_KINDS" = some (.ref aBK)
  sBK : ∀ H, SqT K H aBK (bodyK.map V.str)
  aNK : Addr
  gl_BINDER_KINDS : mg "BINDER_KINDS" = some (.ref aNK)
  sNK : ∀ H, SqT K H aNK (bindK.map V.str)
  tLN : Tok
  gl_LONGEST_NAME : mg "LONGEST_NAME" = some (.int 6 tLN)
  tMP : Tok
  gl_MOST_PARTS : mg "MOST_PARTS" = some (.int 400 tMP)
  tGD : Tok
  gl_GREATEST_DEPTH : mg "GREATEST_DEPTH" = some (.int 60 tGD)
  tMO : Tok
  gl_MOST_OPERANDS : mg "MOST_OPERANDS" = some (.int 3 tMO)
  tMA : Tok
  gl_MOST_ARGUMENTS : mg "MOST_ARGUMENTS" = some (.int 5 tMA)
  d_is_name : Df K mg "is_name" s_is_name ["value"]
  d_is_parameter : Df K mg "is_parameter" s_is_parameter ["value"]
  d_size : Df K mg "size" s_size ["body"]
  d_depth : Df K mg "depth" s_depth ["body"]
  d_uses : Df K mg "uses" s_uses ["body"]
  d_binders : Df K mg "binders" s_binders ["body"]
  d_calls : Df K mg "calls" s_calls ["body"]
  d_parts_of_body : Df K mg "parts_of_body" s_parts_of_body ["body"]
  d_levelled_parts : Df K mg "levelled_parts" s_levelled_parts ["value", "kinds", "parameters"]
  d_parts_within : Df K mg "parts_within" s_parts_within ["part"]
  d_is_part : Df K mg "is_part" s_is_part ["value", "kinds", "parameters"]
  d_has_row : Df K mg "has_row" s_has_row ["value", "most"]
  d_is_name_within : Df K mg "is_name_within" s_is_name_within ["value", "parameters"]
  d_is_allowed : Df K mg "is_allowed" s_is_allowed ["parameter", "parameters"]
  d_term_text : Df K mg "term_text" s_term_text ["body"]
  d_l_cell : Df K mg "_law_cell" s_l_cell ["_law_script", "_law_k"]
  d_l_purse : Df K mg "_law_purse" s_l_purse ["_law_cell_here"]
  d_l_take : Df K mg "_law_take" s_l_take ["_law_purse_here", "_law_many"]
  d_l_pool : Df K mg "_law_pool" s_l_pool ["_law_purse_here"]
  d_l_parts : Df K mg "_law_parts" s_l_parts ["_law_purse_here", "_law_pool_here", "_law_room", "_law_deep_here", "_law_way", "_law_many"]
  d_l_piece : Df K mg "_law_piece" s_l_piece ["_law_purse_here", "_law_pool_here", "_law_room", "_law_deep_here", "_law_way"]
  d_l_bad : Df K mg "_law_bad" s_l_bad ["_law_purse_here", "_law_value"]
  d_l_within : Df K mg "_law_within" s_l_within ["_law_value"]
  d_l_all : Df K mg "_law_all" s_l_all ["_law_value"]
  d_l_deep : Df K mg "_law_deep" s_l_deep ["_law_value"]
  d_l_told : Df K mg "_law_told" s_l_told ["_law_way", "_law_value"]
  d_l_refused : Df K mg "_law_refused" s_l_refused ["_law_way", "_law_value"]
  d_l_right : Df K mg "_law_right" s_l_right ["_law_purse_here"]
  cIB : Addr
  fIB : Addr
  fdIB : FuncData
  ib : TXB K mg cIB fIB
  FI : Fun K "__init__" "InvalidBody.__init__" s_init fIB fdIB
  bI : Binds K fdIB ["self", "value"] []
  cCE : Addr
  gCE : mg "CaughtError" = some (.ref cCE)
  kCE : PySem.W.kitOne K (.ref cIB) (.ref cCE) = some true
  cIT : Addr
  gIT : mg "InvalidTerm" = some (.ref cIT)
  kIT : PySem.W.kitOne K (.ref cIB) (.ref cIT) = some false
  mat : PySem.W.exmOne K (.ref cIB) (.ref cIB) = some true
section
variable {P : Program} {w : World} {K : PySem.W.Frag} {mg : Str → Option Value} {base : Heap}
theorem ok_cell {k : Nat} (T : TP K mg) : FnOk P w K mg base CX0 (k + 1) T.d_l_cell.f T.d_l_cell.fd ["_law_script", "_law_k"] (spCell K) := by
  refine T.d_l_cell.F.ok sc_l_cell (fun vs H Q E h => ?_) (fun cdv A outer s H vs Q E hr h => ?_)
  · obtain ⟨a, ns, j, rfl, _⟩ := h
    rfl
  · obtain ⟨a, ns, j, rfl, hS, hj, q⟩ := h
    refine ⟨_, (pss_cons (ps_if (pt_cmpR op_lt (pv 1) (pe_callB call_len_seq (by rfl) T.n_len PySem.boot_len (pa_cons (pv 0) pa_nil)) (nomark _))
      (pss_one (ps_ret (pe_ix ix_list (pv 0) (pv 1) (fun _ _ => rfl))))
      pss_nil)
    (pss_one (ps_ret (pe_op op_add (pe_op op_mul pe_int (pv 1)) pe_int)))), ?_⟩
    refine ⟨_, rfl, _, rfl, a, _, rfl, .inl hS, _, _, rfl, rfl, _, rfl, ite2 (fun e => ?_) (fun e => ?_)⟩
    · have hl : j.toNat < ns.length := by
        have z := of_decide_eq_true e
        rw [List.length_map] at z
        omega
      exact ⟨_, rfl, _, rfl, a, _, _, .int ns[j.toNat], rfl, rfl, hS, (by have e := atI_nat (xs := ns.map V.int) (j := j.toNat) (v := .int ns[j.toNat]) (by rw [List.getElem?_map, List.getElem?_eq_getElem hl]; rfl); rwa [Int.toNat_of_nonneg hj] at e), q _⟩
    · exact ⟨_, rfl, _, _, rfl, rfl, .inl ⟨by decide, by decide⟩, _, _, rfl, rfl, q _⟩
theorem ok_purse {k : Nat} (T : TP K mg) : FnOk P w K mg base CX0 (k + 1) T.d_l_purse.f T.d_l_purse.fd ["_law_cell_here"] spBox := by
  refine T.d_l_purse.F.ok sc_l_purse (fun vs H Q E h => ?_) (fun cdv A outer s H vs Q E hr h => ?_)
  · obtain ⟨x, rfl, _⟩ := h
    rfl
  · obtain ⟨x, rfl, q⟩ := h
    refine ⟨_, (pss_one (ps_ret (pe_lst (pa_cons (pe_callB (call_max2 rfl) (by rfl) T.n_max (by decide +kernel) (pa_cons pe_int (pa_cons (pe_op op_sub (pv 0) (pe_op op_pow pe_int pe_int)) pa_nil))) (pa_cons (pe_op op_mod (pv 0) pe_int) (pa_cons pe_int pa_nil)))))), ?_⟩
    refine ⟨_, rfl, _, _, rfl, rfl, ⟨by decide, by decide, by decide⟩, _, _, rfl, rfl, _, _, rfl, _, rfl, _, _, rfl, rfl, (by decide : (0 : Int) < 2147483629), (by show 3 ≤ sizeLine; decide), fun l hl => ?_⟩
    refine q l _ hl (fun c o e => by rw [upd_ne (ne_of_none e hl)]; exact e) ⟨_, _, _, upd_same, ?_, (emod_bd (by decide)).1, (emod_bd (by decide)).2, by decide, by decide⟩
    split <;> omega
theorem ok_take {k : Nat} (T : TP K mg) : FnOk P w K mg base CX0 (k + 1) T.d_l_take.f T.d_l_take.fd ["_law_purse_here", "_law_many"] spTake := by
  refine T.d_l_take.F.ok sc_l_take (fun vs H Q E h => ?_) (fun cdv A outer s H vs Q E hr h => ?_)
  · obtain ⟨b, many, n, rfl, _⟩ := h
    rfl
  · obtain ⟨b, many, n, rfl, ⟨m, r, c, hb, hm, hr0, hr1, hc0, hc1⟩, hn, hm0, hm1, q⟩ := h
    refine ⟨_, (pss_cons (ps_if (pt_cmpR op_gt (pe_ix ix_list (pv 0) pe_int (fun _ _ => rfl)) pe_int (nomark _))
      (pss_cons (ps_set (i := 2) sc_l_take.nd rfl (.inl rfl) (pe_op op_mod (pe_ix ix_list (pv 0) pe_int (fun _ _ => rfl)) (pv 1)))
      (pss_cons (ps_asg (pe_op op_fdiv (pe_ix ix_list (pv 0) pe_int (fun _ _ => rfl)) (pv 1)) (pg_sub (pv 0) pe_int set_list))
      (pss_one (ps_ret (pv 2)))))
      pss_nil)
    (pss_cons (ps_asg (pe_op op_add (pe_ix ix_list (pv 0) pe_int (fun _ _ => rfl)) pe_int) (pg_sub (pv 0) pe_int set_list))
    (pss_cons (ps_set (i := 3) sc_l_take.nd rfl (.inl rfl) (pe_op op_mod (pe_op op_pow (pe_op op_add (pe_op op_add (pe_ix ix_list (pv 0) pe_int (fun _ _ => rfl)) (pe_op op_mul pe_int (pe_ix ix_list (pv 0) pe_int (fun _ _ => rfl)))) pe_int) pe_int) pe_int))
    (pss_cons (ps_set (i := 3) sc_l_take.nd rfl (.inl rfl) (pe_op op_mod (pe_op op_pow (pe_op op_add (pv 3) (pe_op op_mul pe_int (pe_ix ix_list (pv 0) pe_int (fun _ _ => rfl)))) pe_int) pe_int))
    (pss_one (ps_ret (pe_op op_mod (pe_op op_fdiv (pv 3) pe_int) (pv 1)))))))), ?_⟩
    refine ⟨_, rfl, b, _, _, .int m, rfl, rfl, SqL.of hb, rfl, _, _, rfl, rfl, _, rfl, ite2 (fun e => ?_) (fun e => ?_)⟩
    · refine ⟨_, rfl, b, _, _, .int m, rfl, rfl, SqL.of hb, rfl, _, rfl, _, _, rfl, rfl, hm0, ?_⟩
      refine ⟨_, rfl, b, _, _, .int m, rfl, rfl, SqL.of hb, rfl, _, rfl, _, _, rfl, rfl, ⟨hm0, hm1⟩, _, rfl, b, _, _, 0, rfl, rfl, hb, rfl, ?_⟩
      refine ⟨_, rfl, q _ _ (emod_bd hm0).1 (emod_bd hm0).2 ⟨_, _, _, upd_same, Int.ediv_nonneg hm (by omega), hr0, hr1, hc0, by omega⟩ Kp.at⟩
    · refine ⟨_, rfl, b, _, _, .int c, rfl, rfl, SqL.of hb, rfl, _, _, rfl, rfl, _, rfl, b, _, _, 2, rfl, rfl, hb, rfl, ?_⟩
      have hb2 : (upd H b (.lst [.int m, .int r, .int (c + 1)])) b = some (.lst [.int m, .int r, .int (c + 1)]) := upd_same
      refine ⟨_, rfl, b, _, _, .int r, rfl, rfl, SqL.of hb2, rfl, _, rfl, b, _, _, .int (c + 1), rfl, rfl, SqL.of hb2, rfl, _, _, rfl, rfl, .inl ⟨by decide, by decide⟩, _, _, rfl, rfl, _, _, rfl, rfl, _, _, rfl, rfl, pow_bd (by omega) (by omega), _, _, rfl, rfl, (by decide : (0 : Int) < 2147483647), ?_⟩
      have h1 := emod_bd (x := (r + 7919 * (c + 1) + 12) ^ (5 : Int).toNat) (k := 2147483647) (by decide)
      generalize (r + 7919 * (c + 1) + 12) ^ (5 : Int).toNat % 2147483647 = x1 at h1
      refine ⟨_, rfl, _, rfl, b, _, _, .int (c + 1), rfl, rfl, SqL.of hb2, rfl, _, _, rfl, rfl, .inl ⟨by decide, by decide⟩, _, _, rfl, rfl, _, _, rfl, rfl, pow_bd3 (by omega) (by omega), _, _, rfl, rfl, (by decide : (0 : Int) < 2147483587), ?_⟩
      refine ⟨_, rfl, _, _, rfl, rfl, ⟨by decide, by decide⟩, _, rfl, _, _, rfl, rfl, hm0, q _ _ (emod_bd hm0).1 (emod_bd hm0).2 ⟨m, r, c + 1, hb2, hm, hr0, hr1, by omega, by omega⟩ Kp.at⟩
theorem ok_init {k : Nat} (T : TP K mg) : FnOk P w K mg base CX0 (k + 1) T.fIB T.fdIB ["self", "value"] (spInit T.cIB) := by
  refine T.FI.ok sc_init (fun vs H Q E h => ?_) (fun cdv A outer s H vs Q E hr h => ?_)
  · obtain ⟨a, v, rfl, _⟩ := h
    rfl
  · obtain ⟨a, v, rfl, ha, q⟩ := h
    exact ⟨_, pss_one (ps_ost (pv 0) (pv 1)), _, rfl, _, rfl, a, T.cIB, rfl, T.ib.ox, T.ib.no, .inl ⟨ha, q⟩⟩
end
end K12
set_option Elab.async false
set_option linter.all false
set_option maxRecDepth 100000
namespace K12
open PySem PySem.Spec PyProof.Rows L2 CaV CaL CaN CaD
theorem fine_str {z : Str} (h : fine (.str z) = true) : z.length ≤ 10 ∧ Asc z := by
  simp only [fine, Bool.and_eq_true] at h
  exact ⟨of_decide_eq_true h.1, fun c hc => of_decide_eq_true (List.all_eq_true.mp h.2 c hc)⟩
def smallS (d : PyData) : Prop := ∀ z, d = .str z → z.length ≤ 1000
theorem small_of {d : PyData} (h : fine d = true) : smallS d := fun z e => by
  subst e
  have := (fine_str h).1
  omega
def spName : Sp := fun vs H Q _ => ∃ (b : Addr) (x : V) (d : PyData), vs = [x] ∧ Dq b H x d ∧ smallS d ∧ Q (.bl (nameD d)) H
def spPar : Sp := fun vs H Q _ => ∃ (b : Addr) (x : V) (d : PyData), vs = [x] ∧ Dq b H x d ∧ smallS d ∧ ∀ H', Same H H' → Q (.bl (parD d)) H'
section
variable {P : Program} {w : World} {K : PySem.W.Frag} {mg : Str → Option Value} {base : Heap}
theorem ok_is_name {k : Nat} (T : TP K mg) : FnOk P w K mg base CX0 (k + 1) T.d_is_name.f T.d_is_name.fd ["value"] spName := by
  refine T.d_is_name.F.ok sc_is_name (fun vs H Q E h => ?_) (fun cdv A outer s H vs Q E hr h => ?_)
  · obtain ⟨b, x, d, rfl, _⟩ := h
    rfl
  · obtain ⟨b, x, d, rfl, dq, hz, q⟩ := h
    refine ⟨_, (pss_cons (ps_if (PW.pt (pw_or (pt_not (pt_val (pe_callB CaV.call_isV (by rfl) T.n_isinstance (by decide +kernel) (pa_cons (pv 0) (pa_cons (pe_bltn (v := .ty "str") (by rfl) T.n_str (by decide +kernel) rfl) pa_nil))))) (pw_or (pt_cmpR op_gt (pe_callB call_len_str (by rfl) T.n_len PySem.boot_len (pa_cons (pv 0) pa_nil)) (pe_glob (v := .int 6) rfl T.gl_LONGEST_NAME ⟨_, rfl⟩) (nomark _)) (pw_or1 (pt_cmpR op_in_seq (pv 0) (pe_glob (v := .ref T.aKW) rfl T.gl_KEYWORDS rfl) (by with_unfolding_all rfl))))))
      (pss_one (ps_ret pe_bl))
      pss_nil)
    (pss_one (ps_ret (pe_and (pe_bm0 PySem.F.plainAttrs_str PySem.F.slot_str_isascii PySem.F.type_str_isascii mt_isascii (pv 0)) (pe_and (pe_bm0 PySem.F.plainAttrs_str PySem.F.slot_str_isalpha PySem.F.type_str_isalpha mt_isalpha (pv 0)) (pe_one (pe_bm0 PySem.F.plainAttrs_str PySem.F.slot_str_islower PySem.F.type_str_islower mt_islower (pv 0)))))))), ?_⟩
    refine ⟨_, rfl, _, _, _, _, isStr (d), rfl, .ty "str", .inl dq.ty, kit_ty (kit_str _), ?_⟩
    cases d with
    | str z =>
      cases dq
      have hz : z.length ≤ 1000 := hz z rfl
      have q : Q (.bl (nameS z)) H := q
      refine ⟨_, rfl, iteF ?_⟩
      refine ⟨_, rfl, _, rfl, sz100 hz, _, _, rfl, rfl, _, rfl, ?_⟩
      by_cases h6 : (6 : Int) < (z.length : Int)
      · rw [decide_eq_true h6]
        refine iteT (iteT ?_)
        have e : nameS z = false := by
          unfold nameS
          rw [show decide (z.length < 7) = false from decide_eq_false (by omega)]
          simp
        rw [e] at q
        exact q
      · rw [decide_eq_false h6]
        refine iteF ?_
        refine ⟨_, rfl, T.aKW, _, rfl, .inr (T.sKW _), rfl, by decide +kernel, _, rfl, ?_⟩
        cases ek : inV (.str z) (kws.map V.str) with
        | true =>
          refine iteT ?_
          have e : nameS z = false := by
            unfold nameS
            rw [ek]
            simp
          rw [e] at q
          exact q
        | false =>
          refine iteF ?_
          refine ⟨_, rfl, rfl, _, rfl, rfl, trivial, _, rfl, ?_⟩
          by_cases h0 : 0 < z.length
          · have e : nameS z = (Txt.isascii z && (Txt.isalpha z && Txt.islower z)) := by
              rw [signs_same z h0]
              unfold nameS
              rw [ek, decide_eq_true h0, decide_eq_true (show z.length < 7 by omega)]
              simp
            rw [e] at q
            cases ea : Txt.isascii z with
            | false =>
              rw [ea] at q
              exact iteF q
            | true =>
              rw [ea] at q
              refine iteT ?_
              refine ⟨_, rfl, rfl, _, rfl, rfl, trivial, _, rfl, ?_⟩
              cases eb : Txt.isalpha z with
              | false =>
                rw [eb] at q
                exact iteF q
              | true =>
                rw [eb] at q
                refine iteT ?_
                exact ⟨_, rfl, rfl, _, rfl, rfl, trivial, q⟩
          · have e : nameS z = false := by
              unfold nameS
              rw [decide_eq_false h0]
              simp
            rw [e] at q
            have eb : Txt.isalpha z = false := by
              unfold Txt.isalpha
              rw [show decide (z.length > 0) = false from decide_eq_false h0]
              rfl
            cases ea : Txt.isascii z with
            | false => exact iteF q
            | true =>
              refine iteT ?_
              refine ⟨_, rfl, rfl, _, rfl, rfl, trivial, _, rfl, ?_⟩
              rw [eb]
              exact iteF q
    | _ => exact ⟨_, rfl, iteT (iteT q)⟩
theorem ok_is_parameter {k : Nat} (T : TP K mg) : FnOk P w K mg base CX0 (k + 2) T.d_is_parameter.f T.d_is_parameter.fd ["value"] spPar := by
  have G_is_name : FnOk P w K mg base CX0 1 T.d_is_name.f T.d_is_name.fd ["value"] spName := ok_is_name T
  refine T.d_is_parameter.F.ok sc_is_parameter (fun vs H Q E h => ?_) (fun cdv A outer s H vs Q E hr h => ?_)
  · obtain ⟨b, x, d, rfl, _⟩ := h
    rfl
  · obtain ⟨b, x, d, rfl, dq, hz, q⟩ := h
    refine ⟨_, (pss_one (ps_ret (pe_and (pe_callB CaV.call_isV (by rfl) T.n_isinstance (by decide +kernel) (pa_cons (pv 0) (pa_cons (pe_bltn (v := .ty "str") (by rfl) T.n_str (by decide +kernel) rfl) pa_nil))) (pe_and (pe_cmpR op_in_seq (pe_slice sl_str (pv 0) po_none (po_some pe_int)) (pe_tup (pa_cons pe_str (pa_cons pe_str pa_nil))) (by with_unfolding_all rfl)) (pe_one (pe_call G_is_name (hr.mono (by omega)) (by rfl) T.d_is_name.g T.d_is_name.F.kp T.d_is_name.b .nil pass0 (pa_cons (pe_slice sl_str (pv 0) (po_some pe_int) po_none) pa_nil))))))), ?_⟩
    refine ⟨_, rfl, _, _, _, _, isStr (d), rfl, .ty "str", .inl dq.ty, kit_ty (kit_str _), ?_⟩
    cases d with
    | str z =>
      cases dq
      have hz : z.length ≤ 1000 := hz z rfl
      refine ⟨_, rfl, iteT ?_⟩
      refine ⟨_, rfl, _, rfl, _, rfl, sz100 hz, (by show 2 ≤ sizeLine; decide), fun p np => ?_⟩
      refine ⟨p, _, rfl, .inr (SqT.of upd_same), rfl, rfl, _, rfl, ?_⟩
      have q : Q (.bl (parS z)) _ := q _ (same_new (o := .tup [.str "?", .str "$"]) np)
      unfold parS at q
      show if inV (.str (cutS z none (some 1))) [.str "?", .str "$"] = true then _ else _
      cases e : inV (.str (cutS z none (some 1))) [.str "?", .str "$"] with
      | false =>
        rw [e] at q
        exact iteF q
      | true =>
        rw [e] at q
        refine iteT ?_
        have hc := cut_len z (some 1) none
        exact ⟨_, rfl, _, rfl, _, rfl, sz100 hz, b, _, .str (cutS z (some 1) none), rfl, .str _, (fun y ey => by cases ey; omega), q⟩
    | _ => exact ⟨_, rfl, iteF (q _ (fun _ _ e => e))⟩
end
end K12
set_option Elab.async false
set_option linter.all false
set_option maxRecDepth 100000
namespace K12
open PySem PySem.Spec PyProof.Rows L2 CaV CaL CaN CaD
/-- the parameters as they are passed: None, or a list or tuple of texts -/
def PV (K : PySem.W.Frag) (H : Hp) (y : V) (ps : Option (List Str)) : Prop := (y = .non ∧ ps = none) ∨ ∃ (a : Addr) (l : List Str), y = .ref a ∧ ps = some l ∧ (SqL K H a (l.map V.str) ∨ SqT K H a (l.map V.str))
theorem sqt_same {K : PySem.W.Frag} {H H' : Hp} {a : Addr} {xs : List V} (s : Same H H') (h : SqT K H a xs) : SqT K H' a xs := by
  rcases h with (h | ⟨o, h⟩) | h
  · exact .inl (.inl (s _ _ h))
  · exact .inl (.inr ⟨o, s _ _ h⟩)
  · exact .inr h
theorem PV.same {K : PySem.W.Frag} {H H' : Hp} {y : V} {ps : Option (List Str)} (s : Same H H') (h : PV K H y ps) : PV K H' y ps := by
  rcases h with h | ⟨a, l, h1, h2, h3⟩
  · exact .inl h
  · exact .inr ⟨a, l, h1, h2, h3.imp (fun z => s.seq z) (fun z => sqt_same s z)⟩
theorem flat_strs : ∀ (l : List Str), (l.map V.str).all flatV = true
  | [] => rfl
  | _ :: r => by
    rw [List.map_cons, List.all_cons, flat_strs r]
    rfl
theorem dec_int (a b : Int) : decide (V.int a = V.int b) = decide (a = b) := by
  rw [Bool.eq_iff_iff, decide_eq_true_eq, decide_eq_true_eq]
  exact ⟨fun h => V.int.inj h, fun h => by rw [h]⟩
theorem dec_str (a b : Str) : decide (V.str a = V.str b) = decide (a = b) := by
  rw [Bool.eq_iff_iff, decide_eq_true_eq, decide_eq_true_eq]
  exact ⟨fun h => V.str.inj h, fun h => by rw [h]⟩
theorem dec_nat {a b : Nat} : decide ((a : Int) = (b : Int)) = decide (a = b) := by
  rw [Bool.eq_iff_iff, decide_eq_true_eq, decide_eq_true_eq]
  omega
theorem at0 {v : V} {r : List V} : atI (v :: r) 0 = some v := atI_nat (xs := v :: r) (j := 0) (v := v) rfl
theorem at1 {v0 v : V} {r : List V} : atI (v0 :: v :: r) 1 = some v := atI_nat (xs := v0 :: v :: r) (j := 1) (v := v) rfl
theorem at2 {v0 v1 v : V} {r : List V} : atI (v0 :: v1 :: v :: r) 2 = some v := atI_nat (xs := v0 :: v1 :: v :: r) (j := 2) (v := v) rfl
theorem at3 {v0 v1 v2 v : V} {r : List V} : atI (v0 :: v1 :: v2 :: v :: r) 3 = some v := atI_nat (xs := v0 :: v1 :: v2 :: v :: r) (j := 3) (v := v) rfl
def spAllowed (K : PySem.W.Frag) : Sp := fun vs H Q _ => ∃ (x : Str) (y : V) (ps : Option (List Str)), vs = [.str x, y] ∧ PV K H y ps ∧ Q (.bl (allowS ps x)) H
def spWithin (K : PySem.W.Frag) : Sp := fun vs H Q _ => ∃ (b : Addr) (x : V) (d : PyData) (y : V) (ps : Option (List Str)), vs = [x, y] ∧ Dq b H x d ∧ smallS d ∧ PV K H y ps ∧ ∀ H', Same H H' → Q (.bl (withinD ps d)) H'
def spRow : Sp := fun vs H Q _ => ∃ (b a : Addr) (m : Nat) (d0 d1 : PyData) (r : List PyData), vs = [.ref a, .int m] ∧ Dq b H (.ref a) (.tuple (d0 :: d1 :: r)) ∧ smallS d1 ∧ Q (.bl (rowD m d1 r)) H
section
variable {P : Program} {w : World} {K : PySem.W.Frag} {mg : Str → Option Value} {base : Heap}
theorem ok_is_allowed {k : Nat} (T : TP K mg) : FnOk P w K mg base CX0 (k + 1) T.d_is_allowed.f T.d_is_allowed.fd ["parameter", "parameters"] (spAllowed K) := by
  refine T.d_is_allowed.F.ok sc_is_allowed (fun vs H Q E h => ?_) (fun cdv A outer s H vs Q E hr h => ?_)
  · obtain ⟨x, y, ps, rfl, _⟩ := h
    rfl
  · obtain ⟨x, y, ps, rfl, pv_, q⟩ := h
    refine ⟨_, (pss_one (ps_ret (pe_or (pe_cmpR op_isN (pv 1) pe_non (nomark _)) (pe_one (pe_cmpR op_in_seq (pv 0) (pv 1) (by with_unfolding_all rfl)))))), ?_⟩
    rcases pv_ with ⟨rfl, rfl⟩ | ⟨a, l, rfl, rfl, sq⟩
    · exact ⟨_, rfl, rfl, _, rfl, iteT q⟩
    · exact ⟨_, rfl, rfl, _, rfl, iteF ⟨_, rfl, _, rfl, a, _, rfl, sq, rfl, flat_strs l, q⟩⟩
theorem ok_is_name_within {k : Nat} (T : TP K mg) : FnOk P w K mg base CX0 (k + 3) T.d_is_name_within.f T.d_is_name_within.fd ["value", "parameters"] (spWithin K) := by
  have G_is_name : FnOk P w K mg base CX0 1 T.d_is_name.f T.d_is_name.fd ["value"] spName := ok_is_name T
  have G_is_parameter : FnOk P w K mg base CX0 2 T.d_is_parameter.f T.d_is_parameter.fd ["value"] spPar := ok_is_parameter T
  have G_is_allowed : FnOk P w K mg base CX0 1 T.d_is_allowed.f T.d_is_allowed.fd ["parameter", "parameters"] (spAllowed K) := ok_is_allowed T
  refine T.d_is_name_within.F.ok sc_is_name_within (fun vs H Q E h => ?_) (fun cdv A outer s H vs Q E hr h => ?_)
  · obtain ⟨b, x, d, y, ps, rfl, _⟩ := h
    rfl
  · obtain ⟨b, x, d, y, ps, rfl, dq, hz, pv_, q⟩ := h
    refine ⟨_, (pss_cons (ps_if (pt_val (pe_call G_is_name (hr.mono (by omega)) (by rfl) T.d_is_name.g T.d_is_name.F.kp T.d_is_name.b .nil pass0 (pa_cons (pv 0) pa_nil)))
      (pss_one (ps_ret pe_bl))
      pss_nil)
    (pss_one (ps_ret (pe_and (pe_call G_is_parameter (hr.mono (by omega)) (by rfl) T.d_is_parameter.g T.d_is_parameter.F.kp T.d_is_parameter.b .nil pass0 (pa_cons (pv 0) pa_nil)) (pe_and (pe_m1 PySem.F.slot_str_startswith PySem.F.type_str_startswith mt_startswith (pv 0) pe_str) (pe_one (pe_call G_is_allowed (hr.mono (by omega)) (by rfl) T.d_is_allowed.g T.d_is_allowed.F.kp T.d_is_allowed.b .nil pass0 (pa_cons (pv 0) (pa_cons (pv 1) pa_nil))))))))), ?_⟩
    refine ⟨_, rfl, b, _, d, rfl, dq, hz, _, rfl, ?_⟩
    unfold withinD at q
    cases e : nameD d with
    | true =>
      rw [e] at q
      exact iteT (q _ (fun _ _ z => z))
    | false =>
      rw [e] at q
      refine iteF ⟨_, rfl, b, _, d, rfl, dq, hz, fun H1 s1 => ⟨_, rfl, ?_⟩⟩
      cases e2 : parD d with
      | false =>
        rw [e2] at q
        exact iteF (q _ s1)
      | true =>
        rw [e2] at q
        cases d with
        | str z =>
          cases dq
          refine iteT ⟨_, rfl, ⟨_, rfl⟩, _, _, rfl, rfl, _, rfl, ?_⟩
          show if doll z = true then _ else _
          have q : ∀ H', Same H H' → Q (.bl (doll z && allowS ps z)) H' := q
          cases e3 : doll z with
          | false =>
            rw [e3] at q
            exact iteF (q _ s1)
          | true =>
            rw [e3] at q
            exact iteT ⟨_, rfl, _, rfl, z, _, ps, rfl, pv_.same s1, q _ s1⟩
        | _ => cases e2
theorem ok_has_row {k : Nat} (T : TP K mg) : FnOk P w K mg base CX0 (k + 2) T.d_has_row.f T.d_has_row.fd ["value", "most"] spRow := by
  have G_is_name : FnOk P w K mg base CX0 1 T.d_is_name.f T.d_is_name.fd ["value"] spName := ok_is_name T
  refine T.d_has_row.F.ok sc_has_row (fun vs H Q E h => ?_) (fun cdv A outer s H vs Q E hr h => ?_)
  · obtain ⟨b, a, m, d0, d1, r, rfl, _⟩ := h
    rfl
  · obtain ⟨b, a, m, d0, d1, r, rfl, dq, hz, q⟩ := h
    refine ⟨_, (pss_one (ps_ret (pe_and (pe_cmpR op_eq (pe_callB call_len_seq (by rfl) T.n_len PySem.boot_len (pa_cons (pv 0) pa_nil)) pe_int (nomark _)) (pe_and (pe_call G_is_name (hr.mono (by omega)) (by rfl) T.d_is_name.g T.d_is_name.F.kp T.d_is_name.b .nil pass0 (pa_cons (pe_ix ix_tup (pv 0) pe_int (fun _ _ => rfl)) pa_nil)) (pe_and (pe_callB CaV.call_isV (by rfl) T.n_isinstance (by decide +kernel) (pa_cons (pe_ix ix_tup (pv 0) pe_int (fun _ _ => rfl)) (pa_cons (pe_bltn (v := .ty "tuple") (by rfl) T.n_tuple (by decide +kernel) rfl) pa_nil))) (pe_one (pe_cmpR op_le (pe_callB call_len_seq (by rfl) T.n_len PySem.boot_len (pa_cons (pe_ix ix_tup (pv 0) pe_int (fun _ _ => rfl)) pa_nil)) (pv 1) (nomark _)))))))), ?_⟩
    cases dq with
    | tup h1 h2 =>
      cases h2 with
      | @cons v0 _ _ _ g0 g =>
        cases g with
        | @cons v1 vr _ _ g1 g =>
          have hl := g.len
          refine ⟨_, rfl, a, _, rfl, .inr (SqT.of h1), rfl, _, rfl, ?_⟩
          have e : decide (V.int ((v0 :: v1 :: vr).length : Int) = V.int 3) = decide (r.length = 1) := by
            rw [dec_int, show (3 : Int) = ((3 : Nat) : Int) from rfl, dec_nat]
            simp only [List.length_cons, hl]
            rw [Bool.eq_iff_iff, decide_eq_true_eq, decide_eq_true_eq]
            omega
          rw [e]
          unfold rowD at q
          by_cases h3 : r.length = 1
          · rw [decide_eq_true h3] at q ⊢
            refine iteT ⟨_, rfl, a, _, _, v1, rfl, rfl, SqT.of h1, at1, b, _, d1, rfl, g1, hz, _, rfl, ?_⟩
            cases e2 : nameD d1 with
            | false =>
              rw [e2] at q
              exact iteF q
            | true =>
              rw [e2] at q
              match r, g, h3, q with
              | [z], @DqAll.cons _ _ v2 _ _ _ g2 .nil, _, q =>
                refine iteT ⟨_, rfl, a, _, _, v2, rfl, rfl, SqT.of h1, at2, _, _, _, _, isTup (z), rfl, .ty "tuple", .inl g2.ty, kit_ty (kit_tup _), _, rfl, ?_⟩
                cases z with
                | tuple zs =>
                  cases g2 with
                  | tup k1 k2 =>
                    rename_i p ws
                    refine iteT ⟨_, rfl, a, _, _, .ref p, rfl, rfl, SqT.of h1, at2, p, _, rfl, .inr (SqT.of k1), _, rfl, _, _, rfl, rfl, ?_⟩
                    have e3 : decide ((ws.length : Int) ≤ (m : Int)) = decide (zs.length ≤ m) := by
                      rw [k2.len, Bool.eq_iff_iff, decide_eq_true_eq, decide_eq_true_eq]
                      omega
                    show Q (.bl (decide ((ws.length : Int) ≤ (m : Int)))) H
                    rw [e3]
                    exact q
                | _ => exact iteF q
          · rw [decide_eq_false h3] at q ⊢
            exact iteF q
end
end K12
set_option Elab.async false
set_option linter.all false
set_option maxRecDepth 100000
namespace K12
open PySem PySem.Spec PyProof.Rows L2 CaV CaL CaN CaD
theorem fine_tup {ds : List PyData} (h : fine (.tuple ds) = true) : ∀ x ∈ ds, fine x = true := by
  simp only [fine] at h
  exact fineAll_iff.mp h
theorem dec_len (n m : Nat) : decide (V.int (n : Int) = V.int (m : Int)) = decide (n = m) := by
  rw [dec_int, dec_nat]
theorem part_one {ks : List Str} {ps : Option (List Str)} (d : PyData) : isPart ks ps (.tuple [d]) = false := by
  cases d <;> rfl
def spPart (K : PySem.W.Frag) : Sp := fun vs H Q _ => ∃ (b : Addr) (x : V) (d : PyData) (pk : Addr) (ks : List Str) (y : V) (ps : Option (List Str)), vs = [x, .ref pk, y] ∧ Dq b H x d ∧ fine d = true ∧ SqT K H pk (ks.map V.str) ∧ PV K H y ps ∧ ∀ H', Same H H' → Q (.bl (isPart ks ps d)) H'
section
variable {P : Program} {w : World} {K : PySem.W.Frag} {mg : Str → Option Value} {base : Heap}
theorem ok_is_part {k : Nat} (T : TP K mg) : FnOk P w K mg base CX0 (k + 4) T.d_is_part.f T.d_is_part.fd ["value", "kinds", "parameters"] (spPart K) := by
  have G_is_name : FnOk P w K mg base CX0 1 T.d_is_name.f T.d_is_name.fd ["value"] spName := ok_is_name T
  have G_is_allowed : FnOk P w K mg base CX0 1 T.d_is_allowed.f T.d_is_allowed.fd ["parameter", "parameters"] (spAllowed K) := ok_is_allowed T
  have G_is_name_within : FnOk P w K mg base CX0 3 T.d_is_name_within.f T.d_is_name_within.fd ["value", "parameters"] (spWithin K) := ok_is_name_within T
  have G_has_row : FnOk P w K mg base CX0 2 T.d_has_row.f T.d_has_row.fd ["value", "most"] spRow := ok_has_row T
  refine T.d_is_part.F.ok sc_is_part (fun vs H Q E h => ?_) (fun cdv A outer s H vs Q E hr h => ?_)
  · obtain ⟨b, x, d, pk, ks, y, ps, rfl, _⟩ := h
    rfl
  · obtain ⟨b, x, d, pk, ks, y, ps, rfl, dq, fd_, sk, pv_, q⟩ := h
    refine ⟨_, (pss_cons (ps_if (PW.pt (pw_or (pt_not (pt_val (pe_callB CaV.call_isV (by rfl) T.n_isinstance (by decide +kernel) (pa_cons (pv 0) (pa_cons (pe_bltn (v := .ty "tuple") (by rfl) T.n_tuple (by decide +kernel) rfl) pa_nil))))) (pw_or (pt_cmpR op_lt (pe_callB call_len_seq (by rfl) T.n_len PySem.boot_len (pa_cons (pv 0) pa_nil)) pe_int (nomark _)) (pw_or1 (pt_cmpR (op_notInK (b := b) (Nat.lt_of_le_of_lt (Nat.add_le_add_left (by decide : 1 ≤ 64) _) hr.units)) (pe_ix ix_tup (pv 0) pe_int (fun _ _ => rfl)) (pv 1) (by with_unfolding_all rfl))))))
      (pss_one (ps_ret pe_bl))
      pss_nil)
    (pss_cons (ps_set (i := 3) sc_is_part.nd rfl (.inl rfl) (pe_ix ix_tup (pv 0) pe_int (fun _ _ => rfl)))
    (pss_cons (ps_if (pt_cmpR op_eq (pv 3) pe_str (nomark _))
      (pss_one (ps_ret (pe_and (pe_cmpR op_eq (pe_callB call_len_seq (by rfl) T.n_len PySem.boot_len (pa_cons (pv 0) pa_nil)) pe_int (nomark _)) (pe_one (pe_call G_is_name_within (hr.mono (by omega)) (by rfl) T.d_is_name_within.g T.d_is_name_within.F.kp T.d_is_name_within.b .nil pass0 (pa_cons (pe_ix ix_tup (pv 0) pe_int (fun _ _ => rfl)) (pa_cons (pv 2) pa_nil)))))))
      pss_nil)
    (pss_cons (ps_if (pt_cmpR op_eq (pv 3) pe_str (nomark _))
      (pss_one (ps_ret (pe_and (pe_cmpR op_eq (pe_callB call_len_seq (by rfl) T.n_len PySem.boot_len (pa_cons (pv 0) pa_nil)) pe_int (nomark _)) (pe_and (pe_call G_is_name (hr.mono (by omega)) (by rfl) T.d_is_name.g T.d_is_name.F.kp T.d_is_name.b .nil pass0 (pa_cons (pe_ix ix_tup (pv 0) pe_int (fun _ _ => rfl)) pa_nil)) (pe_one (pe_call G_is_allowed (hr.mono (by omega)) (by rfl) T.d_is_allowed.g T.d_is_allowed.F.kp T.d_is_allowed.b .nil pass0 (pa_cons (pe_op op_add_str pe_str (pe_ix ix_tup (pv 0) pe_int (fun _ _ => rfl))) (pa_cons (pv 2) pa_nil))))))))
      pss_nil)
    (pss_cons (ps_if (pt_cmpR op_eq (pv 3) pe_str (nomark _))
      (pss_one (ps_ret (pe_call G_has_row (hr.mono (by omega)) (by rfl) T.d_has_row.g T.d_has_row.F.kp T.d_has_row.b .nil pass0 (pa_cons (pv 0) (pa_cons (pe_glob (v := .int 3) rfl T.gl_MOST_OPERANDS ⟨_, rfl⟩) pa_nil)))))
      pss_nil)
    (pss_cons (ps_if (pt_cmpR op_eq (pv 3) pe_str (nomark _))
      (pss_one (ps_ret (pe_call G_has_row (hr.mono (by omega)) (by rfl) T.d_has_row.g T.d_has_row.F.kp T.d_has_row.b .nil pass0 (pa_cons (pv 0) (pa_cons (pe_glob (v := .int 5) rfl T.gl_MOST_ARGUMENTS ⟨_, rfl⟩) pa_nil)))))
      pss_nil)
    (pss_cons (ps_if (pt_cmpR op_eq (pv 3) pe_str (nomark _))
      (pss_one (ps_ret (pe_and (pe_cmpR op_eq (pe_callB call_len_seq (by rfl) T.n_len PySem.boot_len (pa_cons (pv 0) pa_nil)) pe_int (nomark _)) (pe_one (pe_call G_is_name (hr.mono (by omega)) (by rfl) T.d_is_name.g T.d_is_name.F.kp T.d_is_name.b .nil pass0 (pa_cons (pe_ix ix_tup (pv 0) pe_int (fun _ _ => rfl)) pa_nil))))))
      pss_nil)
    (pss_one (ps_ret (pe_and (pe_cmpR op_eq (pe_callB call_len_seq (by rfl) T.n_len PySem.boot_len (pa_cons (pv 0) pa_nil)) pe_int (nomark _)) (pe_one (pe_call G_is_name_within (hr.mono (by omega)) (by rfl) T.d_is_name_within.g T.d_is_name_within.F.kp T.d_is_name_within.b .nil pass0 (pa_cons (pe_ix ix_tup (pv 0) pe_int (fun _ _ => rfl)) (pa_cons (pv 2) pa_nil)))))))))))))), ?_⟩
    refine ⟨_, rfl, _, _, _, _, isTup (d), rfl, .ty "tuple", .inl dq.ty, kit_ty (kit_tup _), _, rfl, ?_⟩
    cases d with
    | tuple ds =>
      refine iteF ?_
      have hd := dq
      cases hd with
      | @tup a xs _ h1 h2 =>
        refine ⟨_, rfl, a, xs, rfl, .inr (SqT.of h1), _, _, rfl, rfl, _, rfl, ?_⟩
        have hl := h2.len
        match ds, xs, h2, hl with
        | [], [], _, _ => exact iteT (iteT (q _ (fun _ _ z => z)))
        | [d0], [_], _, _ => exact iteT (iteT (by have q := q _ (fun _ _ z => z); rw [part_one] at q; exact q))
        | d0 :: d1 :: r, v0 :: v1 :: vr, .cons g0 (.cons g1 g), hl =>
          have hl2 : vr.length = r.length := g.len
          have f1 : fine d1 = true := fine_tup fd_ d1 (List.mem_cons_of_mem _ List.mem_cons_self)
          have f0 : fine d0 = true := fine_tup fd_ d0 List.mem_cons_self
          have n2 : ¬ (((v0 :: v1 :: vr).length : Nat) : Int) < 2 := by
            simp only [List.length_cons]
            omega
          rw [decide_eq_false n2]
          refine iteF ?_
          refine ⟨_, rfl, a, _, _, v0, rfl, rfl, SqT.of h1, at0, _, rfl, d0, pk, ks, rfl, sk, g0, _, rfl, ?_⟩
          cases d0 with
          | str kd =>
            cases g0
            have q : ∀ H', Same H H' → Q (.bl (ks.contains kd && bodyD ps kd d1 r)) H' := q
            show if (!ks.contains kd) = true then _ else _
            cases ec : ks.contains kd with
            | false =>
              rw [ec] at q
              exact iteT (q _ (fun _ _ z => z))
            | true =>
              rw [ec] at q
              refine iteF ?_
              have q : ∀ H', Same H H' → Q (.bl (bodyD ps kd d1 r)) H' := q
              have hlen : ∀ m : Nat, decide (V.int (((V.str kd :: v1 :: vr).length : Nat) : Int) = V.int (m + 2 : Nat)) = decide (r.length = m) := fun m => by
                rw [dec_len]
                simp only [List.length_cons, hl2]
                rw [Bool.eq_iff_iff, decide_eq_true_eq, decide_eq_true_eq]
                omega
              refine ⟨_, rfl, a, _, _, .str kd, rfl, rfl, SqT.of h1, at0, ?_⟩
              refine ⟨_, rfl, rfl, _, rfl, ?_⟩
              rw [dec_str]
              by_cases e1 : kd = "name"
              · rw [decide_eq_true e1]
                refine iteT ⟨_, rfl, a, _, rfl, .inr (SqT.of h1), rfl, _, rfl, ?_⟩
                unfold bodyD at q
                rw [if_pos e1] at q
                have e := hlen 0
                rw [show (((0 + 2 : Nat) : Nat) : Int) = 2 from rfl] at e
                rw [e]
                cases ez : decide (r.length = 0) with
                | false =>
                  rw [ez] at q
                  exact iteF (q _ (fun _ _ z => z))
                | true =>
                  rw [ez] at q
                  exact iteT ⟨_, rfl, a, _, _, v1, rfl, rfl, SqT.of h1, at1, _, rfl, b, v1, d1, y, ps, rfl, g1, small_of f1, pv_, q⟩
              rw [decide_eq_false e1]
              refine iteF ?_
              refine ⟨_, rfl, rfl, _, rfl, ?_⟩
              rw [dec_str]
              by_cases e2 : kd = "hole"
              · rw [decide_eq_true e2]
                refine iteT ⟨_, rfl, a, _, rfl, .inr (SqT.of h1), rfl, _, rfl, ?_⟩
                unfold bodyD at q
                rw [if_neg e1, if_pos e2] at q
                have e := hlen 0
                rw [show (((0 + 2 : Nat) : Nat) : Int) = 2 from rfl] at e
                rw [e]
                cases ez : decide (r.length = 0) with
                | false =>
                  rw [ez] at q
                  exact iteF (q _ (fun _ _ z => z))
                | true =>
                  rw [ez] at q
                  refine iteT ⟨_, rfl, a, _, _, v1, rfl, rfl, SqT.of h1, at1, b, v1, d1, rfl, g1, small_of f1, _, rfl, ?_⟩
                  cases en : nameD d1 with
                  | false =>
                    rw [en] at q
                    exact iteF (q _ (fun _ _ z => z))
                  | true =>
                    rw [en] at q
                    cases d1 with
                    | str z =>
                      cases g1
                      have hz := (fine_str f1).1
                      have ha := app_len "?" z
                      have h1q : ("?" : Str).length = 1 := by decide +kernel
                      exact iteT ⟨_, rfl, a, _, _, .str z, rfl, rfl, SqT.of h1, at1, _, _, rfl, rfl, sz100 (by omega), _, rfl, _, y, ps, rfl, pv_, q _ (fun _ _ z => z)⟩
                    | _ => cases en
              rw [decide_eq_false e2]
              refine iteF ?_
              refine ⟨_, rfl, rfl, _, rfl, ?_⟩
              rw [dec_str]
              by_cases e3 : kd = "op"
              · rw [decide_eq_true e3]
                unfold bodyD at q
                rw [if_neg e1, if_neg e2, if_pos e3] at q
                exact iteT ⟨_, rfl, b, a, 3, _, d1, r, rfl, dq, small_of f1, q _ (fun _ _ z => z)⟩
              rw [decide_eq_false e3]
              refine iteF ?_
              refine ⟨_, rfl, rfl, _, rfl, ?_⟩
              rw [dec_str]
              by_cases e4 : kd = "call"
              · rw [decide_eq_true e4]
                unfold bodyD at q
                rw [if_neg e1, if_neg e2, if_neg e3, if_pos e4] at q
                exact iteT ⟨_, rfl, b, a, 5, _, d1, r, rfl, dq, small_of f1, q _ (fun _ _ z => z)⟩
              rw [decide_eq_false e4]
              refine iteF ?_
              refine ⟨_, rfl, rfl, _, rfl, ?_⟩
              rw [dec_str]
              have e := hlen 2
              rw [show (((2 + 2 : Nat) : Nat) : Int) = 4 from rfl] at e
              by_cases e5 : kd = "want"
              · rw [decide_eq_true e5]
                refine iteT ⟨_, rfl, a, _, rfl, .inr (SqT.of h1), rfl, _, rfl, ?_⟩
                unfold bodyD at q
                rw [if_neg e1, if_neg e2, if_neg e3, if_neg e4, if_pos e5] at q
                rw [e]
                cases ez : decide (r.length = 2) with
                | false =>
                  rw [ez] at q
                  exact iteF (q _ (fun _ _ z => z))
                | true =>
                  rw [ez] at q
                  exact iteT ⟨_, rfl, a, _, _, v1, rfl, rfl, SqT.of h1, at1, b, v1, d1, rfl, g1, small_of f1, q _ (fun _ _ z => z)⟩
              rw [decide_eq_false e5]
              refine iteF ⟨_, rfl, a, _, rfl, .inr (SqT.of h1), rfl, _, rfl, ?_⟩
              unfold bodyD at q
              rw [if_neg e1, if_neg e2, if_neg e3, if_neg e4, if_neg e5] at q
              rw [e]
              cases ez : decide (r.length = 2) with
              | false =>
                rw [ez] at q
                exact iteF (q _ (fun _ _ z => z))
              | true =>
                rw [ez] at q
                exact iteT ⟨_, rfl, a, _, _, v1, rfl, rfl, SqT.of h1, at1, _, rfl, b, v1, d1, y, ps, rfl, g1, small_of f1, pv_, q⟩
          | _ => exact iteT (q _ (fun _ _ z => z))
    | _ => exact iteT (iteT (q _ (fun _ _ z => z)))
end
end K12
set_option Elab.async false
set_option linter.all false
set_option maxRecDepth 100000
namespace K12
open PySem PySem.Spec PyProof.Rows L2 CaV CaL CaN CaD
theorem row_one {m : Nat} {d1 : PyData} {r : List PyData} (h : rowD m d1 r = true) : ∃ zs, r = [.tuple zs] := by
  unfold rowD at h
  simp only [Bool.and_eq_true, decide_eq_true_eq] at h
  obtain ⟨h1, _, h3⟩ := h
  match r, h1, h3 with
  | [.tuple zs], _, _ => exact ⟨zs, rfl⟩
theorem body_row {ps : Option (List Str)} {kd : Str} {d1 : PyData} {r : List PyData} (h : bodyD ps kd d1 r = true) (hk : kd = "op" ∨ kd = "call") : ∃ zs, r = [.tuple zs] := by
  unfold bodyD at h
  rcases hk with rfl | rfl
  · rw [if_neg (by decide +kernel), if_neg (by decide +kernel), if_pos rfl] at h
    exact row_one h
  · rw [if_neg (by decide +kernel), if_neg (by decide +kernel), if_neg (by decide +kernel), if_pos rfl] at h
    exact row_one h
theorem part_shape {ks : List Str} {ps : Option (List Str)} {d : PyData} (h : isPart ks ps d = true) : ∃ kd d1 r, d = .tuple (.str kd :: d1 :: r) ∧ bodyD ps kd d1 r = true := by
  unfold isPart at h
  split at h
  · rename_i kd d1 r
    simp only [Bool.and_eq_true] at h
    exact ⟨kd, d1, r, rfl, h.2⟩
  · cases h
theorem inner_eq (kd : Str) (d1 : PyData) (r : List PyData) : inner (.tuple (.str kd :: d1 :: r)) = if kd = "op" ∨ kd = "call" then rowOf r else if kd = "let" ∨ kd = "each" ∨ kd = "want" then r else [] := rfl
def spInner : Sp := fun vs H Q _ => ∃ (b : Addr) (v : V) (d : PyData) (ks : List Str) (ps : Option (List Str)) (H0 : Hp), vs = [v] ∧ Same H0 H ∧ Dq b H0 v d ∧ isPart ks ps d = true ∧ ∀ (p : Addr) (ws : List V) (H' : Hp), Same H H' → H' p = some (.tup ws) → DqAll b H0 ws (inner d) → Q (.ref p) H'
theorem cut2 (v0 v1 : V) (vr : List V) : cutV (v0 :: v1 :: vr) (some 2) none = vr := by
  show ((v0 :: v1 :: vr).drop (min (2 : Int).toNat (v0 :: v1 :: vr).length)).take ((v0 :: v1 :: vr).length - min (2 : Int).toNat (v0 :: v1 :: vr).length) = vr
  have e : min (2 : Int).toNat (v0 :: v1 :: vr).length = 2 := by
    simp only [List.length_cons]
    have : (2 : Int).toNat = 2 := rfl
    omega
  rw [e]
  show vr.take ((v0 :: v1 :: vr).length - 2) = vr
  refine List.take_of_length_le ?_
  simp only [List.length_cons]
  omega
section
variable {P : Program} {w : World} {K : PySem.W.Frag} {mg : Str → Option Value} {base : Heap}
theorem ok_parts_within {k : Nat} (T : TP K mg) : FnOk P w K mg base CX0 (k + 1) T.d_parts_within.f T.d_parts_within.fd ["part"] spInner := by
  refine T.d_parts_within.F.ok sc_parts_within (fun vs H Q E h => ?_) (fun cdv A outer s H vs Q E hr h => ?_)
  · obtain ⟨b, v, d, ks, ps, H0, rfl, _⟩ := h
    rfl
  · obtain ⟨b, v, d, ks, ps, H0, rfl, s0, dq, hp, q⟩ := h
    refine ⟨_, (pss_cons (ps_if (pt_cmpR op_in_seq (pe_ix ix_tup (pv 0) pe_int (fun _ _ => rfl)) (pe_tup (pa_cons pe_str (pa_cons pe_str pa_nil))) (by with_unfolding_all rfl))
      (pss_one (ps_ret (pe_ix ix_tup (pv 0) pe_int (fun _ _ => rfl))))
      pss_nil)
    (pss_cons (ps_if (pt_cmpR op_in_seq (pe_ix ix_tup (pv 0) pe_int (fun _ _ => rfl)) (pe_glob (v := .ref T.aNK) rfl T.gl_BINDER_KINDS rfl) (by with_unfolding_all rfl))
      (pss_one (ps_ret (pe_slice sl_tupA (pv 0) (po_some pe_int) po_none)))
      pss_nil)
    (pss_one (ps_ret (pe_tup pa_nil))))), ?_⟩
    obtain ⟨kd, d1, r, rfl, hb⟩ := part_shape hp
    cases dq with
    | @tup a _ _ h01 h2 =>
      have h1 := s0 _ _ h01
      match h2 with
      | @DqAll.cons _ _ v0 _ _ _ g0 (@DqAll.cons _ _ v1 vr _ _ g1 g) =>
        cases g0
        refine ⟨_, rfl, a, _, _, .str kd, rfl, rfl, SqT.of h1, at0, (by show 2 ≤ sizeLine; decide), fun p np => ?_⟩
        have s1 := same_new (o := .tup [.str "op", .str "call"]) np
        refine ⟨p, _, rfl, .inr (SqT.of upd_same), rfl, rfl, _, rfl, ?_⟩
        show if inV (.str kd) ((["op", "call"] : List Str).map V.str) = true then _ else _
        rw [inV_str]
        have ha := s1 _ _ h1
        have hg := g
        have s01 := s0.trans s1
        generalize upd H p (.tup [.str "op", .str "call"]) = H1 at s1 ha s01
        by_cases hk : kd = "op" ∨ kd = "call"
        · rw [show (["op", "call"] : List Str).contains kd = true from List.contains_iff_mem.mpr (by rcases hk with rfl | rfl <;> simp)]
          obtain ⟨zs, rfl⟩ := body_row hb hk
          match hg with
          | @DqAll.cons _ _ _ _ _ _ (@Dq.tup _ _ p2 ws _ k1 k2) .nil =>
            refine iteT ⟨_, rfl, a, _, _, .ref p2, rfl, rfl, SqT.of ha, at2, ?_⟩
            refine q p2 ws _ s1 (s01 _ _ k1) ?_
            rw [inner_eq]
            rw [if_pos hk]
            exact k2
        · rw [show (["op", "call"] : List Str).contains kd = false by
            cases e : (["op", "call"] : List Str).contains kd with
            | false => rfl
            | true =>
              have := List.contains_iff_mem.mp e
              simp only [List.mem_cons, List.not_mem_nil, or_false] at this
              exact absurd this hk]
          refine iteF ?_
          refine ⟨_, rfl, a, _, _, .str kd, rfl, rfl, SqT.of ha, at0, T.aNK, _, rfl, .inr (T.sNK _), rfl, flat_strs _, _, rfl, ?_⟩
          show if inV (.str kd) (bindK.map V.str) = true then _ else _
          rw [inV_str]
          by_cases hn : kd = "let" ∨ kd = "each" ∨ kd = "want"
          · rw [show bindK.contains kd = true from List.contains_iff_mem.mpr (by rcases hn with rfl | rfl | rfl <;> simp [bindK])]
            refine iteT ⟨_, rfl, _, rfl, a, _, rfl, SqT.of ha, fun z => ?_, fun _ p3 np3 => ?_⟩
            · have z := z.1
              have e : HT.sIx (V.str kd :: v1 :: vr).length 0 (some 2) = 2 := by
                show min (2 : Int).toNat (V.str kd :: v1 :: vr).length = 2
                simp only [List.length_cons]
                have : (2 : Int).toNat = 2 := rfl
                omega
              rw [e] at z
              cases z
            · rw [cut2]
              have s3 := same_new (o := .tup vr) np3
              refine q p3 vr _ (s1.trans s3) upd_same ?_
              rw [inner_eq]
              rw [if_neg hk, if_pos hn]
              exact hg
          · rw [show bindK.contains kd = false by
              cases e : bindK.contains kd with
              | false => rfl
              | true =>
                have := List.contains_iff_mem.mp e
                simp only [bindK, List.mem_cons, List.not_mem_nil, or_false] at this
                exact absurd this hn]
            refine iteF ⟨Nat.zero_le _, fun p3 np3 => ?_⟩
            have s3 := same_new (o := .tup []) np3
            refine q p3 [] _ (s1.trans s3) upd_same ?_
            rw [inner_eq]
            rw [if_neg hk, if_neg hn]
            exact .nil
end
end K12
set_option Elab.async false
set_option linter.all false
set_option maxRecDepth 100000
namespace K12
open PySem PySem.Spec PyProof.Rows L2 CaV CaL CaN CaD
/-- pairs of a part and its level, the parts as they are in H0 -/
inductive LvAll (b : Addr) (H0 H : Hp) : List V → List (PyData × Nat) → Prop
  | nil : LvAll b H0 H [] []
  | cons {t : Addr} {v : V} {d : PyData} {l : Nat} {vs : List V} {ds : List (PyData × Nat)} : H t = some (.tup [v, .int (l : Int)]) → Dq b H0 v d → LvAll b H0 H vs ds → LvAll b H0 H (.ref t :: vs) ((d, l) :: ds)
/-- tuples stay -/
def Tp (H H' : Hp) : Prop := ∀ t xs, H t = some (.tup xs) → H' t = some (.tup xs)
theorem Tp.lst {H : Hp} {p : Addr} {zs : List V} {o : HO} (h : H p = some (.lst zs)) : Tp H (upd H p o) := fun t xs e => by
  rw [upd_ne (ne_of e h (fun z => nomatch z))]
  exact e
theorem Tp.new {H : Hp} {p : Addr} {o : HO} (h : H p = none) : Tp H (upd H p o) := fun t xs e => by
  rw [upd_ne (ne_of_none e h)]
  exact e
theorem Tp.same {H H' : Hp} (s : Same H H') : Tp H H' := fun t xs e => s _ _ e
theorem Tp.trans {H H1 H2 : Hp} (x : Tp H H1) (y : Tp H1 H2) : Tp H H2 := fun t xs e => y _ _ (x _ _ e)
section
variable {b : Addr} {H0 H H' : Hp}
theorem LvAll.tp (k : Tp H H') : ∀ {vs : List V} {ds : List (PyData × Nat)}, LvAll b H0 H vs ds → LvAll b H0 H' vs ds
  | _, _, .nil => .nil
  | _, _, .cons h1 h2 h3 => .cons (k _ _ h1) h2 (LvAll.tp k h3)
theorem LvAll.len : ∀ {vs : List V} {ds : List (PyData × Nat)}, LvAll b H0 H vs ds → vs.length = ds.length
  | _, _, .nil => rfl
  | _, _, .cons _ _ h3 => by rw [List.length_cons, List.length_cons, h3.len]
theorem LvAll.append : ∀ {vs ws : List V} {ds es : List (PyData × Nat)}, LvAll b H0 H vs ds → LvAll b H0 H ws es → LvAll b H0 H (vs ++ ws) (ds ++ es)
  | _, _, _, _, .nil, h => h
  | _, _, _, _, .cons h1 h2 h3, h => .cons h1 h2 (h3.append h)
theorem LvAll.last {d : PyData} {l : Nat} : ∀ {vs : List V} {ds : List (PyData × Nat)}, LvAll b H0 H vs (ds ++ [(d, l)]) → ∃ vs' t v, vs = vs' ++ [.ref t] ∧ H t = some (.tup [v, .int (l : Int)]) ∧ Dq b H0 v d ∧ LvAll b H0 H vs' ds
  | _, [], h => by
    cases h with
    | cons h1 h2 h3 =>
      cases h3
      exact ⟨[], _, _, rfl, h1, h2, .nil⟩
  | _, e :: ds, h => by
    cases h with
    | cons h1 h2 h3 =>
      obtain ⟨vs', t, v, rfl, k1, k2, k3⟩ := LvAll.last h3
      exact ⟨_ :: vs', t, v, rfl, k1, k2, .cons h1 h2 k3⟩
end
def spLev (K : PySem.W.Frag) : Sp := fun vs H Q _ => ∃ (b : Addr) (x : V) (d : PyData) (pk : Addr) (ks : List Str) (y : V) (ps : Option (List Str)), vs = [x, .ref pk, y] ∧ Dq b H x d ∧ fine d = true ∧ wt d ≤ 5000 ∧ SqT K H pk (ks.map V.str) ∧ PV K H y ps ∧
  (run (isPart ks ps) 400 [(d, 1)] = none → ∀ H', Same H H' → Q .non H') ∧
  ∀ ys, run (isPart ks ps) 400 [(d, 1)] = some ys → ∀ p F H', Same H H' → H p = none → H' p = some (.lst F) → LvAll b H H' F ys → Q (.ref p) H'
theorem inner_fine {d c : PyData} (h : fine d = true) (hc : c ∈ inner d) : fine c = true := by
  unfold inner at hc
  split at hc
  · rename_i kd d1 r
    have f := fine_tup h
    split at hc
    · unfold rowOf at hc
      split at hc
      · rename_i zs r2
        exact fine_tup (f (.tuple zs) (List.mem_cons_of_mem _ (List.mem_cons_of_mem _ List.mem_cons_self))) c hc
      · cases hc
    · split at hc
      · exact f c (List.mem_cons_of_mem _ (List.mem_cons_of_mem _ hc))
      · cases hc
  · cases hc
theorem wsum_app (xs ys : List (PyData × Nat)) : wsum (xs ++ ys) = wsum xs + wsum ys := by
  unfold wsum
  rw [List.map_append, wtAll_append]
theorem wsum_inner (d : PyData) (l : Nat) : wsum ((inner d).map fun c => (c, l)) = wtAll (inner d) := by
  unfold wsum
  rw [List.map_map, show ((fun x : PyData × Nat => x.1) ∘ fun c => (c, l)) = id from rfl, List.map_id]
theorem wsum_len (xs : List (PyData × Nat)) : xs.length ≤ wsum xs := by
  have := wtAll_len (xs.map (·.1))
  rw [List.length_map] at this
  exact this
theorem run_step (Pp : PyData → Bool) (n : Nat) (d : PyData) (l : Nat) (S : List (PyData × Nat)) (h1 : ¬ l > 60) (h2 : Pp d = true) : run Pp (n + 1) ((d, l) :: S) = (run Pp n ((inner d).map (fun c => (c, l + 1)) ++ S)).map fun ys => (d, l) :: ys := by
  show (if l > 60 then none else if Pp d = true then _ else none) = _
  rw [if_neg h1, if_pos h2]
theorem run_no (Pp : PyData → Bool) (n : Nat) (d : PyData) (l : Nat) (S : List (PyData × Nat)) (h : n = 0 ∨ l > 60 ∨ Pp d = false) : run Pp n ((d, l) :: S) = none := by
  cases n with
  | zero => rfl
  | succ n =>
    show (if l > 60 then none else if Pp d = true then _ else none) = none
    rcases h with h | h | h
    · cases h
    · rw [if_pos h]
    · rw [h]
      split <;> rfl
theorem drop_last {xs : List V} {v : V} : (xs ++ [v]).dropLast = xs ∧ (xs ++ [v])[(xs ++ [v]).length - 1]? = some v := by
  refine ⟨by simp, ?_⟩
  rw [List.length_append, List.length_singleton, Nat.add_sub_cancel]
  simp
section
variable {P : Program} {w : World} {K : PySem.W.Frag} {mg : Str → Option Value} {base : Heap}
set_option maxHeartbeats 1000000 in
theorem ok_levelled_parts {k : Nat} (T : TP K mg) : FnOk P w K mg base CX0 (k + 5) T.d_levelled_parts.f T.d_levelled_parts.fd ["value", "kinds", "parameters"] (spLev K) := by
  have G_is_part : FnOk P w K mg base CX0 4 T.d_is_part.f T.d_is_part.fd ["value", "kinds", "parameters"] (spPart K) := ok_is_part T
  have G_parts_within : FnOk P w K mg base CX0 1 T.d_parts_within.f T.d_parts_within.fd ["part"] spInner := ok_parts_within T
  refine T.d_levelled_parts.F.ok sc_levelled_parts (fun vs H Q E h => ?_) (fun cdv A outer s H vs Q E hr h => ?_)
  · obtain ⟨b, x, d, pk, ks, y, ps, rfl, _⟩ := h
    rfl
  · obtain ⟨b, x, d, pk, ks, y, ps, rfl, dq, fd_, hw, sk, pv_, qn, qs⟩ := h
    refine ⟨_, (pss_cons (ps_set (i := 3) sc_levelled_parts.nd rfl (.inl rfl) (pe_lst pa_nil))
    (pss_cons (ps_set (i := 4) sc_levelled_parts.nd rfl (.inl rfl) (pe_lst (pa_cons (pe_tup (pa_cons (pv 0) (pa_cons pe_int pa_nil))) pa_nil)))
    (pss_cons (ps_while PassesOwn.never (pt_truth (pv 4) (by intro _; rfl))
      (pss_cons (ps_asg (pe_bm0 PySem.F.plainAttrs_list PySem.F.slot_list_pop PySem.F.type_list_pop mt_pop (pv 4)) (pg_tup rfl (pgs_cons (pg_name (i := 5) sc_levelled_parts.nd rfl (.inl rfl)) (pgs_cons (pg_name (i := 6) sc_levelled_parts.nd rfl (.inr rfl)) pgs_nil))))
      (pss_cons (ps_if (PW.pt (pw_or (pt_cmpR op_eq (pe_callB call_len_seq (by rfl) T.n_len PySem.boot_len (pa_cons (pv 3) pa_nil)) (pe_glob (v := .int 400) rfl T.gl_MOST_PARTS ⟨_, rfl⟩) (nomark _)) (pw_or (pt_cmpR op_gt (pv 6) (pe_glob (v := .int 60) rfl T.gl_GREATEST_DEPTH ⟨_, rfl⟩) (nomark _)) (pw_or1 (pt_not (pt_val (pe_call G_is_part (hr.mono (by omega)) (by rfl) T.d_is_part.g T.d_is_part.F.kp T.d_is_part.b .nil pass0 (pa_cons (pv 5) (pa_cons (pv 1) (pa_cons (pv 2) pa_nil))))))))))
        (pss_one (ps_ret pe_non))
        pss_nil)
      (pss_cons (ps_expr (pe_bm PySem.F.plainAttrs_list PySem.F.slot_list_append PySem.F.type_list_append mt_append (pv 3) (pa_cons (pe_tup (pa_cons (pv 5) (pa_cons (pv 6) pa_nil))) pa_nil)))
      (pss_one (ps_expr (pe_bm PySem.F.plainAttrs_list PySem.F.slot_list_extend PySem.F.type_list_extend mt_extend (pv 4) (pa_cons (pe_lc (own := [("inner", 7)]) (g := gName 7) (tt := tYes) (by rfl) sc_levelled_parts.nd (pi_tup (pe_revT (pe_call G_parts_within (hr.mono (by omega)) (by rfl) T.d_parts_within.g T.d_parts_within.F.kp T.d_parts_within.b .nil pass0 (pa_cons (pv 5) pa_nil)))) (blkOk_by (own := [("inner", 7)]) (N := N_levelled_parts) (sc := defScope s_levelled_parts) (by decide +kernel)) (fun _ _ _ _ _ => pg_name (i := 7) sc_levelled_parts.nd rfl (Or.inl rfl)) (fun _ _ _ _ _ => pts_nil) (fun _ _ _ _ _ => (pe_tup (pa_cons (pv 7) (pa_cons (pe_op op_add (pv 6) pe_int) pa_nil))))) pa_nil))))))))
    (pss_one (ps_ret (pv 3)))))), ?_⟩
    refine ⟨Nat.zero_le _, fun pf nf => ?_⟩
    refine ⟨_, rfl, (by show 2 ≤ sizeLine; decide), fun q0 nq => ?_⟩
    refine ⟨(by show 1 ≤ sizeLine; decide), fun pw nw => ?_⟩
    have sf := same_new (o := .lst []) nf
    have sq := same_new (o := .tup [x, .int 1]) nq
    have sw := same_new (o := .lst [.ref q0]) nw
    have nfw : pf ≠ pw := ne_of_none (sq _ _ upd_same) nw
    have nwH : H pw = none := by
      cases e : H pw with
      | none => rfl
      | some o =>
        rw [sq _ _ (sf _ _ e)] at nw
        cases nw
    refine ⟨fun m σ H5 => ∃ t5 t6 F ys Sv S, σ = [some x, some (.ref pk), some y, some (.ref pf), some (.ref pw), t5, t6, none] ∧ H5 pf = some (.lst F) ∧ H5 pw = some (.lst Sv) ∧ LvAll b H H5 F ys ∧ LvAll b H H5 Sv S.reverse ∧ Same H H5 ∧ ys.length ≤ 400 ∧ (∀ c ∈ S, fine c.1 = true) ∧ wsum S + ys.length ≤ wt d ∧ m = wsum S ∧ run (isPart ks ps) 400 [(d, 1)] = (run (isPart ks ps) (400 - ys.length) S).map (fun zs => ys ++ zs), ⟨wt d, ?_⟩, ?_⟩
    · refine ⟨none, none, [], [], [.ref q0], [(d, 1)], rfl, ?_, upd_same, .nil, .cons ?_ dq .nil, (sf.trans sq).trans sw, by decide, fun c hc => ?_, ?_, ?_, ?_⟩
      · exact sw _ _ (sq _ _ upd_same)
      · exact sw _ _ upd_same
      · rw [List.mem_singleton.mp hc]
        exact fd_
      · simp [wsum, wtAll]
      · simp [wsum, wtAll]
      · show _ = (run (isPart ks ps) 400 [(d, 1)]).map (fun zs => [] ++ zs)
        simp
    · rintro m σ H5 ⟨t5, t6, F, ys, Sv, S, rfl, hpf, hpw, hF, hS, s5, h400, hfine, hsum, rfl, hrun⟩
      cases S with
      | nil =>
        have hS : LvAll b H H5 Sv [] := hS
        cases hS
        refine ⟨_, rfl, false, .inl ⟨[], SqL.of hpw, rfl⟩, iteF ?_⟩
        have hrun : run (isPart ks ps) 400 [(d, 1)] = some ys := by
          rw [hrun]
          unfold CaN.run
          simp
        exact ⟨_, rfl, qs ys hrun pf F H5 s5 nf hpf hF⟩
      | cons e S =>
        obtain ⟨c, l⟩ := e
        rw [List.reverse_cons] at hS
        obtain ⟨Sv', t, v, rfl, ht, hc, hS'⟩ := hS.last
        have fc : fine c = true := hfine (c, l) List.mem_cons_self
        have hFl := hF.len
        refine ⟨_, rfl, true, .inl ⟨_, SqL.of hpw, by simp⟩, iteT ?_⟩
        refine ⟨fun σ' H' => ∃ m', m' < wsum ((c, l) :: S) ∧ ∃ t5 t6 F ys Sv S, σ' = [some x, some (.ref pk), some y, some (.ref pf), some (.ref pw), t5, t6, none] ∧ H' pf = some (.lst F) ∧ H' pw = some (.lst Sv) ∧ LvAll b H H' F ys ∧ LvAll b H H' Sv S.reverse ∧ Same H H' ∧ ys.length ≤ 400 ∧ (∀ c ∈ S, fine c.1 = true) ∧ wsum S + ys.length ≤ wt d ∧ m' = wsum S ∧ run (isPart ks ps) 400 [(d, 1)] = (run (isPart ks ps) (400 - ys.length) S).map (fun zs => ys ++ zs), fun σ' H' z => z, ?_⟩
        -- part, level = waiting.pop()
        refine ⟨_, rfl, .inl ⟨rfl, _, SqL.of hpw⟩, pw, _, .ref t, rfl, rfl, hpw, drop_last.2, ?_⟩
        rw [drop_last.1]
        have k6 : Tp H5 (upd H5 pw (.lst Sv')) := Tp.lst hpw
        have ht6 := k6 _ _ ht
        have s6 : Same H (upd H5 pw (.lst Sv')) := fun a o z => by
          rw [upd_ne (ne_of_none z nwH)]
          exact s5 a o z
        have hpf6 : (upd H5 pw (.lst Sv')) pf = some (.lst F) := by
          rw [upd_ne nfw]
          exact hpf
        have hpw6 : (upd H5 pw (.lst Sv')) pw = some (.lst Sv') := upd_same
        have hF6 := hF.tp k6
        have hS6 := hS'.tp k6
        generalize upd H5 pw (.lst Sv') = H6 at k6 ht6 s6 hpf6 hpw6 hF6 hS6 ⊢
        refine ⟨t, _, rfl, SqT.of ht6, rfl, _, _, rfl, _, _, rfl, rfl, ?_⟩
        -- what ends it
        have no : (400 - ys.length = 0 ∨ l > 60 ∨ isPart ks ps c = false) → ∀ H', Same H H' → Q .non H' := fun z => qn (by
          rw [hrun, run_no _ _ _ _ _ z]
          rfl)
        refine ⟨_, rfl, pf, _, rfl, .inl (SqL.of hpf6), rfl, _, rfl, ?_⟩
        show if decide (V.int (F.length : Int) = V.int 400) = true then _ else _
        rw [show (400 : Int) = ((400 : Nat) : Int) from rfl, dec_len]
        by_cases e400 : F.length = 400
        · rw [decide_eq_true e400]
          exact iteT (iteT (no (.inl (by omega)) _ s6))
        rw [decide_eq_false e400]
        refine iteF ⟨_, rfl, _, _, rfl, rfl, _, rfl, ?_⟩
        by_cases e60 : l > 60
        · rw [show decide ((60 : Int) < (l : Int)) = true from decide_eq_true (by omega)]
          exact iteT (iteT (no (.inr (.inl e60)) _ s6))
        rw [show decide ((60 : Int) < (l : Int)) = false from decide_eq_false (by omega)]
        refine iteF ⟨_, rfl, _, rfl, _, rfl, b, v, c, pk, ks, y, ps, rfl, Dq.same s6 _ _ hc, fc, sqt_same s6 sk, pv_.same s6, fun H7 s67 => ⟨_, rfl, ?_⟩⟩
        have s7 := s6.trans s67
        cases ep : isPart ks ps c with
        | false => exact iteT (no (.inr (.inr ep)) _ s7)
        | true =>
          refine iteF ?_
          -- found.append((part, level))
          refine ⟨_, rfl, .inl ⟨rfl, _, SqL.of (s67 _ _ hpf6)⟩, _, rfl, _, rfl, (by show 2 ≤ sizeLine; decide), fun q1 nq1 => ?_⟩
          have s8 := same_new (o := .tup [v, .int (l : Int)]) nq1
          refine ⟨pf, _, _, rfl, rfl, s8 _ _ (s67 _ _ hpf6), ?_, ?_⟩
          · have : ys.length ≤ 400 := h400
            exact Nat.lt_of_le_of_lt (show F.length ≤ 400 by omega) (by decide)
          have hpf8 := s8 _ _ (s67 _ _ hpf6)
          have k9 : Tp H6 (upd (upd H7 q1 (.tup [v, .int (l : Int)])) pf (.lst (F ++ [.ref q1]))) := ((Tp.same s67).trans (Tp.same s8)).trans (Tp.lst hpf8)
          have s9 : Same H (upd (upd H7 q1 (.tup [v, .int (l : Int)])) pf (.lst (F ++ [.ref q1]))) := fun a o z => by
            rw [upd_ne (ne_of_none z nf)]
            exact s8 _ _ (s7 _ _ z)
          have hq9 : (upd (upd H7 q1 (.tup [v, .int (l : Int)])) pf (.lst (F ++ [.ref q1]))) q1 = some (.tup [v, .int (l : Int)]) := by
            rw [upd_ne (ne_of upd_same hpf8 (fun z => nomatch z))]
            exact upd_same
          have hpf9 : (upd (upd H7 q1 (.tup [v, .int (l : Int)])) pf (.lst (F ++ [.ref q1]))) pf = some (.lst (F ++ [.ref q1])) := upd_same
          have hpw9 : (upd (upd H7 q1 (.tup [v, .int (l : Int)])) pf (.lst (F ++ [.ref q1]))) pw = some (.lst Sv') := by
            rw [upd_ne nfw.symm]
            exact s8 _ _ (s67 _ _ hpw6)
          have hF9 := (hF6.tp k9).append (.cons hq9 hc .nil)
          have hS9 := hS6.tp k9
          generalize upd (upd H7 q1 (.tup [v, .int (l : Int)])) pf (.lst (F ++ [.ref q1])) = H9 at s9 hpf9 hpw9 hF9 hS9 ⊢
          -- waiting.extend(..)
          refine ⟨_, rfl, .inl ⟨rfl, _, SqL.of hpw9⟩, ?_⟩
          have hcq := Dq.same s9 _ _ hc
          refine ⟨_, rfl, b, v, c, ks, ps, H, rfl, s9, hc, ep, fun p2 ws H10 s10 hp2 hws => ?_⟩
          refine ⟨p2, ws, rfl, SqT.of hp2, fun p3 np3 => ?_⟩
          have s910 := s10.trans (same_new (o := .tup ws.reverse) np3)
          have hp3 : (upd H10 p3 (.tup ws.reverse)) p3 = some (.tup ws.reverse) := upd_same
          have hwl := hws.len
          generalize upd H10 p3 (.tup ws.reverse) = H11 at s910 hp3 ⊢
          refine ⟨p3, rfl, ⟨_, SqT.of hp3⟩, fun D nD => ?_⟩
          refine lc_tup (K := K) (a := p3) (xs := ws.reverse) (fun i H12 => ∃ acc, H12 D = some (.lst acc) ∧ LvAll b H H12 acc (((inner c).reverse.take i).map fun e => (e, l + 1)) ∧ Same H11 H12) ⟨[], upd_same, .nil, same_new nD⟩ (fun i H12 _ z => ?_) ?_ ?_
          · obtain ⟨acc, _, _, s12⟩ := z
            exact SqT.of (s12 _ _ hp3)
          · rintro i u H12 hu ⟨acc, hD, hacc, s12⟩
            refine ⟨rfl, yes_at ?_⟩
            refine ⟨_, rfl, _, rfl, _, _, rfl, rfl, (by show 2 ≤ sizeLine; decide), fun q2 nq2 => ?_⟩
            have k13 := Tp.new (o := .tup [u, .int ((l : Int) + 1)]) nq2
            have hD13 : (upd H12 q2 (.tup [u, .int ((l : Int) + 1)])) D = some (.lst acc) := by
              rw [upd_ne (ne_of_none hD nq2)]
              exact hD
            have al := hacc.len
            have hi : i < (inner c).reverse.length := by
              have := (List.getElem?_eq_some_iff.mp hu).1
              rw [List.length_reverse] at this ⊢
              omega
            have small : acc.length ≤ 5000 := by
              rw [al, List.length_map, List.length_take]
              have := (inner_sub c).1
              rw [List.length_reverse] at hi ⊢
              have h1 := wsum_app [(c, l)] S
              have h2 : wsum [(c, l)] = wt c := by simp [wsum, wtAll]
              have h3 : wsum ((c, l) :: S) = wsum [(c, l)] + wsum S := h1
              omega
            refine ⟨acc, hD13, Nat.lt_of_le_of_lt small (by decide), _, upd_same, ?_, fun a o z => ?_⟩
            · have k14 : Tp H12 (upd (upd H12 q2 (.tup [u, .int ((l : Int) + 1)])) D (.lst (acc ++ [.ref q2]))) := k13.trans (Tp.lst hD13)
              rw [List.take_add_one, List.map_append]
              have e : (inner c).reverse[i]? = some (inner c).reverse[i] := List.getElem?_eq_getElem hi
              rw [e]
              obtain ⟨u2, g1, g2⟩ := hws.reverse.get e
              rw [hu] at g1
              cases g1
              refine (hacc.tp k14).append (.cons ?_ g2 .nil)
              rw [upd_ne (ne_of upd_same hD13 (fun z => nomatch z))]
              exact upd_same
            · have hne : a ≠ D := ne_of_none z nD
              rw [upd_ne hne, upd_ne (ne_of_none (s12 _ _ z) nq2)]
              exact s12 _ _ z
          · rintro H12 ⟨acc, hD, hacc, s12⟩
            have s12' := s910.trans s12
            have hpw12 := s12' _ _ hpw9
            have al := hacc.len
            rw [List.length_reverse, hwl, show (inner c).length = (inner c).reverse.length from (List.length_reverse).symm, List.take_length] at hacc
            have al := hacc.len
            have sl := hS9.len
            have sub := inner_sub c
            have h1 := wsum_app [(c, l)] S
            have h2 : wsum [(c, l)] = wt c := by simp [wsum, wtAll]
            have h3 : wsum ((c, l) :: S) = wsum [(c, l)] + wsum S := h1
            have h4 := wsum_len S
            refine ⟨pw, D, Sv', acc, rfl, rfl, hpw12, hD, ?_, ?_⟩
            · rw [al, sl, List.length_map, List.length_reverse, List.length_reverse]
              exact Nat.le_trans (show S.length + (inner c).length ≤ 10000 by omega) (by decide)
            have k13 : Tp H9 (upd H12 pw (.lst (Sv' ++ acc))) := (Tp.same s12').trans (Tp.lst hpw12)
            have k12 : Tp H12 (upd H12 pw (.lst (Sv' ++ acc))) := Tp.lst hpw12
            refine ⟨_, ?_, some v, some (.int (l : Int)), F ++ [.ref q1], ys ++ [(c, l)], Sv' ++ acc, (inner c).map (fun e => (e, l + 1)) ++ S, rfl, ?_, upd_same, hF9.tp k13, ?_, fun a o z => ?_, ?_, ?_, ?_, rfl, ?_⟩
            · rw [wsum_app, wsum_inner]
              omega
            · rw [upd_ne nfw]
              exact s12' _ _ hpf9
            · rw [List.reverse_append, ← List.map_reverse]
              exact (hS9.tp k13).append (hacc.tp k12)
            · rw [upd_ne (ne_of_none z nwH)]
              exact s12' _ _ (s9 _ _ z)
            · rw [List.length_append, List.length_singleton]
              omega
            · intro e he
              rcases List.mem_append.mp he with he | he
              · obtain ⟨f, hf, rfl⟩ := List.mem_map.mp he
                exact inner_fine fc hf
              · exact hfine e (List.mem_cons_of_mem _ he)
            · rw [wsum_app, wsum_inner, List.length_append, List.length_singleton]
              omega
            · rw [hrun]
              have e : 400 - ys.length = (400 - (ys ++ [(c, l)]).length) + 1 := by
                rw [List.length_append, List.length_singleton]
                omega
              rw [e, run_step _ _ _ _ _ e60 ep, Option.map_map]
              congr 1
              funext zs
              simp
end
end K12
set_option Elab.async false
set_option linter.all false
set_option maxRecDepth 100000
/-! Texts of small letters: joined, cut, made names. -/
namespace CaN
open PySem PySem.Spec PyProof.Rows L2 CaL
def Lo (x : Str) : Prop := x.cps.toList.all low = true
theorem tl_len (x : Str) : x.cps.toList.length = x.length := by simp [Str.length]
theorem app_tl (a c : Str) : (a ++ c).cps.toList = a.cps.toList ++ c.cps.toList := by
  rw [Str.cps_append, Array.toList_append]
theorem lo_app {a c : Str} (h : Lo a) (g : Lo c) : Lo (a ++ c) := by
  unfold Lo at *
  rw [app_tl, List.all_append, h, g]
  rfl
theorem lo_cut {z : Str} (lo hi : Option Int) (h : Lo z) : Lo (cutS z lo hi) := by
  unfold Lo at *
  rw [List.all_eq_true] at *
  intro c hc
  unfold cutS at hc
  exact h c (List.mem_of_mem_drop (List.mem_of_mem_take hc))
theorem lo_one {c : Nat} (h : low c = true) : Lo ⟨#[c]⟩ := by
  unfold Lo
  simp [h]
theorem join_tl : ∀ ys : List Str, (Str.join "" ys).cps.toList = ys.flatMap fun y => y.cps.toList
  | [] => by
    show ("" : Str).cps.toList = _
    rw [empty_list]
    rfl
  | [x] => by
    show x.cps.toList = _
    simp
  | x :: y :: r => by
    show (x ++ "" ++ Str.join "" (y :: r)).cps.toList = _
    rw [app_tl, app_tl, empty_list, join_tl (y :: r)]
    simp
theorem join_lo {ys : List Str} (h : ∀ y ∈ ys, y.length = 1 ∧ Lo y) : (Txt.join "" ys).length = ys.length ∧ Lo (Txt.join "" ys) := by
  have e : Txt.join "" ys = Str.join "" ys := by
    show Builtin.Str.glued "" ys = _
    rw [StrLaws.glued_eq_join]
  rw [e]
  refine ⟨?_, ?_⟩
  · rw [← tl_len, join_tl]
    clear e
    induction ys with
    | nil => rfl
    | cons y r ih =>
      rw [List.flatMap_cons, List.length_append, ih fun z hz => h z (List.mem_cons_of_mem _ hz), tl_len, (h y List.mem_cons_self).1, List.length_cons]
      omega
  · unfold Lo
    rw [join_tl, List.all_eq_true]
    intro c hc
    obtain ⟨y, hy, hc⟩ := List.mem_flatMap.mp hc
    exact List.all_eq_true.mp (h y hy).2 c hc
theorem sIx_pos {n : Nat} {d : Nat} {i : Int} (h : 0 ≤ i) : HT.sIx n d (some i) = min i.toNat n := by
  show (if i < 0 then (i + (n : Int)).toNat else min i.toNat n) = _
  rw [if_neg (by omega)]
theorem cut_to (z : Str) {i : Int} (h : 0 ≤ i) : (cutS z none (some i)).length = min i.toNat z.length := by
  show ((z.cps.toList.drop (HT.sIx z.length 0 none)).take (HT.sIx z.length z.length (some i) - HT.sIx z.length 0 none)).toArray.size = _
  rw [sIx_pos h, List.size_toArray, List.length_take, List.length_drop, tl_len]
  show min (min i.toNat z.length - 0) (z.length - 0) = _
  omega
theorem cut_from (z : Str) {i : Int} (h : 0 ≤ i) : (cutS z (some i) none).length = z.length - min i.toNat z.length := by
  show ((z.cps.toList.drop (HT.sIx z.length 0 (some i))).take (HT.sIx z.length z.length none - HT.sIx z.length 0 (some i))).toArray.size = _
  rw [sIx_pos h, List.size_toArray, List.length_take, List.length_drop, tl_len]
  show min (z.length - min i.toNat z.length) (z.length - min i.toNat z.length) = _
  omega
theorem kws_a : ∀ z ∈ kws, nameS (z ++ "a") = true := by decide +kernel
theorem app_nil (z : Str) : z ++ "" = z := by
  have e : (z ++ "").cps = z.cps := by
    rw [Str.cps_append, ← Array.toList_inj, Array.toList_append, empty_list, List.append_nil]
  cases z
  cases h : (_ : Str) ++ "" with
  | mk c =>
    rw [h] at e
    exact congrArg Str.mk e
/-- a text of one to six small letters, with a letter behind it where it is an own word, is a name -/
theorem made_name {z : Str} (h : Lo z) (h1 : 1 ≤ z.length) (h6 : z.length ≤ 6) : nameS (z ++ (if inV (.str z) (kws.map V.str) = true then "a" else "")) = true := by
  cases e : inV (.str z) (kws.map V.str) with
  | true =>
    rw [if_pos rfl]
    rw [inV_str] at e
    exact kws_a z (List.contains_iff_mem.mp e)
  | false =>
    rw [if_neg (by decide), app_nil]
    unfold nameS
    unfold Lo at h
    rw [h, e, decide_eq_true (show 0 < z.length by omega), decide_eq_true (show z.length < 7 by omega)]
    rfl
theorem letters_tl : ("abcdefghijklmnopqrstuvwxyz" : Str).cps.toList.length = 26 := by decide +kernel
theorem letters_low : ∀ c ∈ ("abcdefghijklmnopqrstuvwxyz" : Str).cps.toList, low c = true := by decide +kernel
theorem fixed_lo : ∀ z ∈ (["lets", "inn", "i", "eachs", "ofx"] : List Str), z.cps.toList.all low = true ∧ 1 ≤ z.length ∧ z.length ≤ 6 := by decide +kernel
theorem name_len {z : Str} (h : nameS z = true) : 1 ≤ z.length ∧ z.length ≤ 6 := by
  unfold nameS at h
  simp only [Bool.and_eq_true, decide_eq_true_eq] at h
  omega
theorem name_lo {z : Str} (h : nameS z = true) : Lo z := by
  unfold nameS at h
  simp only [Bool.and_eq_true] at h
  exact h.1.1
theorem lo_asc {z : Str} (h : Lo z) : Asc z := fun c hc => low_128 (List.all_eq_true.mp h c hc)
theorem fine_name {z : Str} (h : nameS z = true) : CaD.fine (.str z) = true := by
  have h1 := name_len h
  have h2 := lo_asc (name_lo h)
  simp only [CaD.fine, Bool.and_eq_true]
  refine ⟨decide_eq_true (by omega), List.all_eq_true.mpr fun c hc => decide_eq_true (h2 c hc)⟩
/-- a sign and a name behind it -/
theorem sign_par {g : Nat} {z : Str} (hg : g = 63 ∨ g = 36) (h : nameS z = true) : parS ((⟨#[g]⟩ : Str) ++ z) = true ∧ CaD.fine (.str ((⟨#[g]⟩ : Str) ++ z)) = true := by
  have e : ((⟨#[g]⟩ : Str) ++ z).cps.toList = g :: z.cps.toList := by
    rw [app_tl]
    rfl
  have hl := name_len h
  have el : ((⟨#[g]⟩ : Str) ++ z).length = z.length + 1 := by
    rw [← tl_len, e, List.length_cons, tl_len]
  refine ⟨?_, ?_⟩
  · unfold parS
    have c1 : cutS ((⟨#[g]⟩ : Str) ++ z) none (some 1) = ⟨#[g]⟩ := by
      rw [cut1, e]
      rfl
    have c2 : cutS ((⟨#[g]⟩ : Str) ++ z) (some 1) none = z := by
      unfold cutS
      rw [sIx_pos (by decide), el]
      show (⟨((((⟨#[g]⟩ : Str) ++ z).cps.toList.drop (min (1 : Int).toNat (z.length + 1))).take ((z.length + 1) - min (1 : Int).toNat (z.length + 1))).toArray⟩ : Str) = z
      have m1 : min (1 : Int).toNat (z.length + 1) = 1 := by
        have : (1 : Int).toNat = 1 := rfl
        omega
      rw [m1, e]
      show (⟨(z.cps.toList.take (z.length + 1 - 1)).toArray⟩ : Str) = z
      rw [List.take_of_length_le (by rw [tl_len]; omega)]
    rw [c1, c2, h, Bool.and_true]
    rcases hg with rfl | rfl <;> decide +kernel
  · simp only [CaD.fine, Bool.and_eq_true]
    refine ⟨decide_eq_true (by omega), ?_⟩
    rw [e, List.all_cons, Bool.and_eq_true]
    exact ⟨by rcases hg with rfl | rfl <;> decide, List.all_eq_true.mpr fun c hc => decide_eq_true (lo_asc (name_lo h) c hc)⟩
end CaN
set_option Elab.async false
set_option linter.all false
set_option maxRecDepth 100000
namespace K12
open PySem PySem.Spec PyProof.Rows L2 CaV CaL CaN CaD
def spPool : Sp := fun vs H Q _ => ∃ (b : Addr) (n : Nat), vs = [.ref b] ∧ Bx H b n ∧ n < 900000 ∧
  ∀ (p : Addr) (zs : List Str) (H' : Hp), H p = none → Kp b H H' → Bx H' b (n + 8) → zs.length = 5 → (∀ z ∈ zs, nameS z = true) → H' p = some (.lst (zs.map V.str)) → p ≠ b → Q (.ref p) H'
theorem kp_none {b p : Addr} {H H' : Hp} {n : Nat} (k : Kp b H H') (x : Bx H' b n) (h : H' p = none) : H p = none := k.free x h
section
variable {P : Program} {w : World} {K : PySem.W.Frag} {mg : Str → Option Value} {base : Heap}
set_option maxHeartbeats 2000000 in
theorem ok_l_pool {k : Nat} (T : TP K mg) : FnOk P w K mg base CX0 (k + 2) T.d_l_pool.f T.d_l_pool.fd ["_law_purse_here"] spPool := by
  have G_l_take : FnOk P w K mg base CX0 1 T.d_l_take.f T.d_l_take.fd ["_law_purse_here", "_law_many"] spTake := ok_take T
  refine T.d_l_pool.F.ok sc_l_pool (fun vs H Q E h => ?_) (fun cdv A outer s H vs Q E hr h => ?_)
  · obtain ⟨b, n, rfl, _⟩ := h
    rfl
  · obtain ⟨b, n, rfl, bx, hn, q⟩ := h
    refine ⟨_, (pss_cons (ps_set (i := 1) sc_l_pool.nd rfl (.inr rfl) pe_str)
    (pss_cons (ps_set (i := 2) sc_l_pool.nd rfl (.inl rfl) (pe_call G_l_take (hr.mono (by omega)) (by rfl) T.d_l_take.g T.d_l_take.F.kp T.d_l_take.b .nil pass0 (pa_cons (pv 0) (pa_cons pe_int pa_nil))))
    (pss_cons (ps_asg (pe_tup (pa_cons (pe_call G_l_take (hr.mono (by omega)) (by rfl) T.d_l_take.g T.d_l_take.F.kp T.d_l_take.b .nil pass0 (pa_cons (pv 0) (pa_cons pe_int pa_nil))) (pa_cons (pe_call G_l_take (hr.mono (by omega)) (by rfl) T.d_l_take.g T.d_l_take.F.kp T.d_l_take.b .nil pass0 (pa_cons (pv 0) (pa_cons pe_int pa_nil))) pa_nil))) (pg_tup rfl (pgs_cons (pg_name (i := 3) sc_l_pool.nd rfl (.inr rfl)) (pgs_cons (pg_name (i := 4) sc_l_pool.nd rfl (.inr rfl)) pgs_nil))))
    (pss_cons (ps_set (i := 5) sc_l_pool.nd rfl (.inr rfl) (pe_join pe_str (pe_lc (own := [("_law_k", 9)]) (g := gName 9) (tt := tYes) (by rfl) sc_l_pool.nd (pi_range1 (by rfl) T.n_range (pa_cons pe_int pa_nil)) (blkOk_by (own := [("_law_k", 9)]) (N := N_l_pool) (sc := defScope s_l_pool) (by decide +kernel)) (fun _ _ _ _ _ => pg_name (i := 9) sc_l_pool.nd rfl (Or.inl rfl)) (fun _ _ _ _ _ => pts_nil) (fun _ _ _ _ _ => (pe_ix ix_str (pv 1) (pe_call G_l_take (hr.mono (by omega)) (by rfl) T.d_l_take.g T.d_l_take.F.kp T.d_l_take.b .nil pass0 (pa_cons (pv 0) (pa_cons pe_int pa_nil))) (fun _ _ => rfl))))))
    (pss_cons (ps_setLc (i := 6) (own := [("_law_k", 9)]) (g := gName 9) (tt := tYes) (by rfl) sc_l_pool.nd rfl rfl (sw_true rfl rfl rfl (by decide +kernel)) (pi_range1 (by rfl) T.n_range (pa_cons pe_int pa_nil)) (blkOk_by (own := [("_law_k", 9)]) (N := N_l_pool) (sc := defScope s_l_pool) (by decide +kernel)) (fun _ _ _ _ _ => pg_name (i := 9) sc_l_pool.nd rfl (Or.inl rfl)) (fun _ _ _ _ _ => pts_nil) (fun _ _ _ _ _ => (pe_ix ix_str (pv 1) (pe_op op_mod (pe_op op_add (pv 3) (pe_op op_mul pe_int (pv 9))) pe_int) (fun _ _ => rfl))))
    (pss_cons (ps_setLc (i := 7) (own := [("_law_letter", 10)]) (g := gName 10) (tt := tYes) (by rfl) sc_l_pool.nd rfl rfl (sw_true rfl rfl rfl (by decide +kernel)) (pi_list (pv 6)) (blkOk_by (own := [("_law_letter", 10)]) (N := N_l_pool) (sc := defScope s_l_pool) (by decide +kernel)) (fun _ _ _ _ _ => pg_name (i := 10) sc_l_pool.nd rfl (Or.inl rfl)) (fun _ _ _ _ _ => pts_nil) (fun _ _ _ _ _ => (pe_op op_add_str (pe_op op_add_str (pe_slice sl_str (pv 5) po_none (po_some (pv 4))) (pv 10)) (pe_slice sl_str (pv 5) (po_some (pv 4)) po_none))))
    (pss_cons (ps_if (pt_cmpR op_eq (pv 2) pe_int (nomark _))
      (pss_one (ps_setLc (i := 7) (own := [("_law_k", 9)]) (g := gName 9) (tt := tYes) (by rfl) sc_l_pool.nd rfl rfl (sw_true rfl rfl rfl (by decide +kernel)) (pi_range1 (by rfl) T.n_range (pa_cons pe_int pa_nil)) (blkOk_by (own := [("_law_k", 9)]) (N := N_l_pool) (sc := defScope s_l_pool) (by decide +kernel)) (fun _ _ _ _ _ => pg_name (i := 9) sc_l_pool.nd rfl (Or.inl rfl)) (fun _ _ _ _ _ => pts_nil) (fun _ _ _ _ _ => (pe_slice sl_str (pe_op op_add_str (pv 5) (pe_ix ix_str (pv 1) (pv 3) (fun _ _ => rfl))) po_none (po_some (pe_op op_add pe_int (pe_op op_mod (pe_op op_add (pv 4) (pv 9)) pe_int)))))))
      pss_nil)
    (pss_cons (ps_if (pt_cmpR op_eq (pv 2) pe_int (nomark _))
      (pss_one (ps_set (i := 7) sc_l_pool.nd rfl (.inl rfl) (pe_lst (pa_cons pe_str (pa_cons pe_str (pa_cons pe_str (pa_cons pe_str (pa_cons pe_str pa_nil))))))))
      pss_nil)
    (pss_cons (ps_set (i := 8) sc_l_pool.nd rfl (.inr rfl) (pe_lst (pa_cons pe_str (pa_cons pe_str (pa_cons pe_str (pa_cons pe_str (pa_cons pe_str pa_nil)))))))
    (pss_one (ps_ret (pe_lc (own := [("_law_name", 11)]) (g := gName 11) (tt := tYes) (by rfl) sc_l_pool.nd (pi_list (pv 7)) (blkOk_by (own := [("_law_name", 11)]) (N := N_l_pool) (sc := defScope s_l_pool) (by decide +kernel)) (fun _ _ _ _ _ => pg_name (i := 11) sc_l_pool.nd rfl (Or.inl rfl)) (fun _ _ _ _ _ => pts_nil) (fun _ _ _ _ _ => (pe_op op_add_str (pv 11) (pe_op op_mul01 pe_str (pe_callTy call_int1 (by rfl) T.n_int (by decide +kernel) (pa_cons (pe_cmpR (show OpR _ (compareOp .In) (rIn K false) from op_in_seq) (pv 11) (pv 8) (by with_unfolding_all rfl)) pa_nil))))))))))))))))), ?_⟩
    refine ⟨_, rfl, b, _, n, rfl, bx, by omega, by decide, by decide, fun d1 H1 l1 u1 x1 k1 => ?_⟩
    refine ⟨_, rfl, b, _, n + 1, rfl, x1, by omega, by decide, by decide, fun d2 H2 l2 u2 x2 k2 => ?_⟩
    refine ⟨_, rfl, b, _, n + 2, rfl, x2, by omega, by decide, by decide, fun d3 H3 l3 u3 x3 k3 => ?_⟩
    refine ⟨(by show 2 ≤ sizeLine; decide), fun pt npt => ⟨pt, _, rfl, SqT.of upd_same, rfl, _, _, rfl, _, _, rfl, rfl, ?_⟩⟩
    have x3 := x3.new (o := .tup [.int d2, .int d3]) npt
    have k3 := k3.trans (Kp.new (b := b) (o := .tup [.int d2, .int d3]) npt)
    show tSeq _ _ _ _ (upd H3 pt (.tup [.int d2, .int d3]))
    generalize upd H3 pt (.tup [.int d2, .int d3]) = H3 at x3 k3 ⊢
    have u2 : d2 < 26 := u2
    have u3 : d3 < 6 := u3
    have k03 := (k1.trans k2).trans k3
    -- the stem
    refine ⟨⟨_, rfl⟩, 5, rfl, by decide, by decide, fun D hD => ?_⟩
    have nD := x3.ne hD
    refine lc_range (lo := 0) (n := 5) (fun i H5 => ∃ ys : List Str, H5 D = some (.lst (ys.map V.str)) ∧ ys.length = i ∧ (∀ y ∈ ys, y.length = 1 ∧ Lo y) ∧ Bx H5 b (n + 3 + i) ∧ Kp b H3 H5) ⟨[], upd_same, rfl, (fun y hy => nomatch hy), x3.new hD, Kp.new hD⟩ ?_ ?_
    · rintro i H5 hi ⟨ys, hys, hl, h1, x5, k5⟩
      refine ⟨rfl, yes_at ?_⟩
      refine ⟨_, rfl, _, rfl, b, _, _, rfl, x5, by omega, by decide, by decide, fun d4 H6 l4 u4 x6 k6 => ?_⟩
      obtain ⟨c, hc, ec⟩ := atI_in (xs := ("abcdefghijklmnopqrstuvwxyz" : Str).cps.toList) (i := d4) l4 (by rw [letters_tl]; exact u4)
      refine ⟨_, _, c, rfl, rfl, by decide +kernel, ec, ys.map V.str, k6 D _ hys nD, by rw [List.length_map]; exact Nat.lt_of_le_of_lt (show ys.length ≤ 9 by omega) (by decide), ys ++ [⟨#[c]⟩], by rw [upd_same, List.map_append]; rfl, by rw [List.length_append, hl]; rfl, fun y hy => ?_, ?_, fun a o e na => ?_⟩
      · rcases List.mem_append.mp hy with hy | hy
        · exact h1 y hy
        · rw [List.mem_singleton.mp hy]
          exact ⟨rfl, lo_one (letters_low c hc)⟩
      · obtain ⟨m, r, c', e1, e2⟩ := x6
        exact ⟨m, r, c', by rw [upd_ne nD.symm]; exact e1, e2⟩
      · rw [upd_ne (ne_of_none e hD)]
        exact k6 a o (k5 a o e na) na
    rintro H4 ⟨ys, hys, hl, h1, x4, k4⟩
    obtain ⟨jl, jo⟩ := join_lo h1
    refine ⟨_, D, ys, rfl, rfl, .inl (SqL.of hys), ?_, ?_⟩
    · rw [sum_ones fun y hy => (h1 y hy).1, hl, show ("" : Str).length = 0 by decide +kernel]
      omega
    generalize Txt.join "" ys = stem at jl jo ⊢
    have jl : stem.length = 5 := by omega
    have k04 := k03.trans k4
    clear hys h1 hl
    -- turned
    refine ⟨5, rfl, by decide, by decide, fun D2 hD2 => ?_⟩
    have nD2 := x4.ne hD2
    refine lc_range (lo := 0) (n := 5) (fun i H5 => ∃ ys : List Str, H5 D2 = some (.lst (ys.map V.str)) ∧ ys.length = i ∧ (∀ y ∈ ys, y.length = 1 ∧ Lo y) ∧ Same H4 H5) ⟨[], upd_same, rfl, (fun y hy => nomatch hy), same_new hD2⟩ ?_ ?_
    · rintro i H5 hi ⟨ys, hys, hl, h1, s5⟩
      refine ⟨rfl, yes_at ?_⟩
      obtain ⟨c, hc, ec⟩ := atI_in (xs := ("abcdefghijklmnopqrstuvwxyz" : Str).cps.toList) (i := (d2 + 5 * (0 + (i : Int))) % 26) (by omega) (by rw [letters_tl]; omega)
      refine ⟨_, rfl, _, rfl, _, rfl, _, _, rfl, rfl, .inl ⟨by decide, by decide⟩, _, _, rfl, rfl, _, _, rfl, rfl, (by decide : (0 : Int) < 26), ?_⟩
      refine ⟨_, _, c, rfl, rfl, by decide +kernel, ec, ys.map V.str, hys, by rw [List.length_map]; exact Nat.lt_of_le_of_lt (show ys.length ≤ 9 by omega) (by decide), ys ++ [⟨#[c]⟩], by rw [upd_same, List.map_append]; rfl, by rw [List.length_append, hl]; rfl, fun y hy => ?_, fun a o e => ?_⟩
      · rcases List.mem_append.mp hy with hy | hy
        · exact h1 y hy
        · rw [List.mem_singleton.mp hy]
          exact ⟨rfl, lo_one (letters_low c hc)⟩
      · rw [upd_ne (ne_of_none e hD2)]
        exact s5 a o e
    rintro H5 ⟨ts, hts, htl, ht1, s5⟩
    have x5 := x4.same s5
    have k05 := k04.trans (Kp.of_same s5)
    -- found
    refine ⟨_, rfl, _, rfl, ⟨_, SqL.of hts⟩, fun D3 hD3 => ?_⟩
    refine lc_list (K := K) (a := D2) (xs := ts.map V.str) (fun i H6 => ∃ ys : List Str, H6 D3 = some (.lst (ys.map V.str)) ∧ ys.length = i ∧ (∀ y ∈ ys, Lo y ∧ 1 ≤ y.length ∧ y.length ≤ 6) ∧ Same H5 H6) ⟨[], upd_same, rfl, (fun y hy => nomatch hy), same_new hD3⟩ (fun i H6 _ z => ?_) ?_ ?_
    · obtain ⟨ys, _, _, _, s6⟩ := z
      exact SqL.of (s6 _ _ hts)
    · rintro i u H6 hu ⟨ys, hys, hl, h1, s6⟩
      obtain ⟨z, hz, rfl⟩ : ∃ z, z ∈ ts ∧ u = .str z := by
        obtain ⟨z, hz, e⟩ := List.mem_map.mp (mem_get hu)
        exact ⟨z, hz, e.symm⟩
      have hi := (List.getElem?_eq_some_iff.mp hu).1
      rw [List.length_map] at hi
      obtain ⟨z1, z2⟩ := ht1 z hz
      have c1 := cut_to stem l3
      have c2 := cut_from stem l3
      have a1 := app_len (cutS stem none (some d3)) z
      have a2 := app_len (cutS stem none (some d3) ++ z) (cutS stem (some d3) none)
      refine ⟨rfl, yes_at ?_⟩
      refine ⟨_, rfl, _, rfl, _, rfl, _, rfl, sz100 (by omega), _, rfl, _, _, rfl, rfl, sz100 (by omega), _, rfl, _, rfl, _, rfl, _, rfl, sz100 (by omega), _, _, rfl, rfl, sz100 (by omega), ?_⟩
      refine ⟨ys.map V.str, hys, by rw [List.length_map]; exact Nat.lt_of_le_of_lt (show ys.length ≤ 9 by omega) (by decide), ys ++ [(cutS stem none (some d3) ++ z) ++ cutS stem (some d3) none], by rw [upd_same, List.map_append]; rfl, by rw [List.length_append, hl]; rfl, fun y hy => ?_, fun a o e => ?_⟩
      · rcases List.mem_append.mp hy with hy | hy
        · exact h1 y hy
        · rw [List.mem_singleton.mp hy]
          exact ⟨lo_app (lo_app (lo_cut _ _ jo) z2) (lo_cut _ _ jo), by omega, by omega⟩
      · rw [upd_ne (ne_of_none e hD3)]
        exact s6 a o e
    rintro H6 ⟨fs, hfs, hfl, hf1, s6⟩
    rw [List.length_map] at hfl
    have x6 := x5.same s6
    have k06 := k05.trans (Kp.of_same s6)
    refine ⟨_, rfl, rfl, _, rfl, ?_⟩
    by_cases e0 : d1 = 0
    · rw [show decide (V.int d1 = V.int 0) = true from decide_eq_true (by rw [e0])]
      refine iteT ?_
      refine ⟨5, rfl, by decide, by decide, fun D4 hD4 => ?_⟩
      refine lc_range (lo := 0) (n := 5) (fun i H7 => ∃ ys : List Str, H7 D4 = some (.lst (ys.map V.str)) ∧ ys.length = i ∧ (∀ y ∈ ys, Lo y ∧ 1 ≤ y.length ∧ y.length ≤ 6) ∧ Same H6 H7) ⟨[], upd_same, rfl, (fun y hy => nomatch hy), same_new hD4⟩ ?_ ?_
      · rintro i H7 hi ⟨ys, hys, hl, h1, s7⟩
        refine ⟨rfl, yes_at ?_⟩
        obtain ⟨c, hc, ec⟩ := atI_in (xs := ("abcdefghijklmnopqrstuvwxyz" : Str).cps.toList) (i := d2) l2 (by rw [letters_tl]; exact u2)
        have a1 := app_len stem ⟨#[c]⟩
        have o1 : (⟨#[c]⟩ : Str).length = 1 := rfl
        have lo6 : Lo (stem ++ ⟨#[c]⟩) := lo_app jo (lo_one (letters_low c hc))
        refine ⟨_, rfl, _, rfl, _, rfl, _, _, c, rfl, rfl, by decide +kernel, ec, _, _, rfl, rfl, sz100 (by omega), ?_⟩
        have cc := cut_to (stem ++ ⟨#[c]⟩) (i := 1 + (d3 + (0 + (i : Int))) % 6) (by omega)
        refine ⟨_, rfl, _, rfl, _, _, rfl, rfl, _, _, rfl, rfl, (by decide : (0 : Int) < 6), _, _, rfl, rfl, _, rfl, _, rfl, sz100 (by omega), ?_⟩
        refine ⟨ys.map V.str, hys, by rw [List.length_map]; exact Nat.lt_of_le_of_lt (show ys.length ≤ 9 by omega) (by decide), ys ++ [cutS (stem ++ ⟨#[c]⟩) none (some (1 + (d3 + (0 + (i : Int))) % 6))], by rw [upd_same, List.map_append]; rfl, by rw [List.length_append, hl]; rfl, fun y hy => ?_, fun a o e => ?_⟩
        · rcases List.mem_append.mp hy with hy | hy
          · exact h1 y hy
          · rw [List.mem_singleton.mp hy]
            exact ⟨lo_cut _ _ lo6, by omega, by omega⟩
        · rw [upd_ne (ne_of_none e hD4)]
          exact s7 a o e
      rintro H7 ⟨gs, hgs, hgl, hg1, s7⟩
      have x7 := x6.same s7
      have k07 := k06.trans (Kp.of_same s7)
      refine ⟨_, rfl, rfl, _, rfl, ?_⟩
      rw [show decide (V.int d1 = V.int 1) = false from decide_eq_false (by rw [e0]; exact fun z => by cases z)]
      refine iteF ?_
      -- own words, the names
      refine ⟨(by show 5 ≤ sizeLine; decide), fun po npo => ?_⟩
      have so := same_new (o := .lst (kws.map V.str)) npo
      have xo := x7.new (o := .lst (kws.map V.str)) npo
      have ko : Kp b H _ := k07.trans (Kp.new (b := b) (o := .lst (kws.map V.str)) npo)
      have hpo : (upd H7 po (.lst (kws.map V.str))) po = some (.lst (kws.map V.str)) := upd_same
      have hfo := so _ _ hgs
      show gName 8 (.ref po) _ (upd H7 po (.lst (kws.map V.str))) _
      generalize upd H7 po (.lst (kws.map V.str)) = Ho at so xo ko hpo hfo ⊢
      refine ⟨_, rfl, _, rfl, ⟨_, SqL.of hfo⟩, fun D hD => ?_⟩
      refine lc_list (K := K) (a := D4) (xs := gs.map V.str) (fun i H5 => ∃ ys : List Str, H5 D = some (.lst (ys.map V.str)) ∧ ys.length = i ∧ (∀ y ∈ ys, nameS y = true) ∧ Same Ho H5) ⟨[], upd_same, rfl, (fun y hy => nomatch hy), same_new hD⟩ (fun i H5 _ z => ?_) ?_ ?_
      · obtain ⟨ys, _, _, _, s5⟩ := z
        exact SqL.of (s5 _ _ hfo)
      · rintro i u H5 hu ⟨ys, hys, hl, hn, s5⟩
        obtain ⟨z, hz, rfl⟩ : ∃ z, z ∈ gs ∧ u = .str z := by
          obtain ⟨z, hz, e⟩ := List.mem_map.mp (mem_get hu)
          exact ⟨z, hz, e.symm⟩
        have hi := (List.getElem?_eq_some_iff.mp hu).1
        rw [List.length_map] at hi
        have hll : (gs).length = 5 := hgl
        obtain ⟨q1, q2, q3⟩ := hg1 z hz
        have mn := made_name q1 q2 q3
        refine ⟨rfl, yes_at ?_⟩
        refine ⟨_, rfl, _, rfl, _, rfl, po, _, rfl, .inl (SqL.of (s5 _ _ hpo)), rfl, by decide +kernel, .inr ⟨_, rfl, _, _, rfl, rfl, ?_⟩⟩
        have step : ∀ t : Str, t.length ≤ 1 → nameS (z ++ t) = true → ∃ za zb, V.str z = .str za ∧ V.str t = .str zb ∧ za.length + zb.length ≤ sizeLine ∧ ∃ acc, H5 D = some (.lst acc) ∧ acc.length < sizeLine ∧ ∃ ys : List Str, (upd H5 D (.lst (acc ++ [.str (za ++ zb)]))) D = some (.lst (ys.map V.str)) ∧ ys.length = i + 1 ∧ (∀ y ∈ ys, nameS y = true) ∧ Same Ho (upd H5 D (.lst (acc ++ [.str (za ++ zb)]))) := fun t ht hn2 => by
          refine ⟨z, t, rfl, rfl, sz100 (by omega), _, hys, ?_, ys ++ [z ++ t], by rw [upd_same, List.map_append]; rfl, by rw [List.length_append, hl]; rfl, fun y hy => ?_, fun c o e => ?_⟩
          · rw [List.length_map, hl]
            exact Nat.lt_of_le_of_lt (show i ≤ 5 by omega) (by decide)
          · rcases List.mem_append.mp hy with hy | hy
            · exact hn y hy
            · rw [List.mem_singleton.mp hy]
              exact hn2
          · rw [upd_ne (ne_of_none e hD)]
            exact s5 _ _ e
        cases ez : inV (.str z) (kws.map V.str) with
        | true =>
          rw [ez, if_pos rfl] at mn
          exact .inr ⟨rfl, step "a" (by decide +kernel) mn⟩
        | false =>
          rw [ez, if_neg (by decide)] at mn
          exact .inl ⟨rfl, step "" (by decide +kernel) mn⟩
      · rintro H5 ⟨ys, hys, hl, hn, s5⟩
        rw [List.length_map] at hl
        have nD : H D = none := ko.free xo hD
        exact q _ ys _ nD (ko.trans (Kp.of_same s5)) ((xo.same s5).mono (by omega)) (by rw [hl]; exact hgl) hn hys (xo.ne hD)
    rw [show decide (V.int d1 = V.int 0) = false from decide_eq_false (fun z => e0 (V.int.inj z))]
    refine iteF ?_
    refine ⟨_, rfl, rfl, _, rfl, ?_⟩
    by_cases e1 : d1 = 1
    · rw [show decide (V.int d1 = V.int 1) = true from decide_eq_true (by rw [e1])]
      refine iteT ?_
      refine ⟨(by show 5 ≤ sizeLine; decide), fun D4 hD4 => ?_⟩
      have s7 := same_new (o := .lst ((["lets", "inn", "i", "eachs", "ofx"] : List Str).map V.str)) hD4
      have hgs : (upd H6 D4 (.lst ((["lets", "inn", "i", "eachs", "ofx"] : List Str).map V.str))) D4 = some (.lst ((["lets", "inn", "i", "eachs", "ofx"] : List Str).map V.str)) := upd_same
      show tSeq _ _ _ _ (upd H6 D4 (.lst ((["lets", "inn", "i", "eachs", "ofx"] : List Str).map V.str)))
      generalize upd H6 D4 (.lst ((["lets", "inn", "i", "eachs", "ofx"] : List Str).map V.str)) = H7 at s7 hgs ⊢
      have x7 := x6.same s7
      have k07 := k06.trans (Kp.of_same s7)
      -- own words, the names
      refine ⟨(by show 5 ≤ sizeLine; decide), fun po npo => ?_⟩
      have so := same_new (o := .lst (kws.map V.str)) npo
      have xo := x7.new (o := .lst (kws.map V.str)) npo
      have ko : Kp b H _ := k07.trans (Kp.new (b := b) (o := .lst (kws.map V.str)) npo)
      have hpo : (upd H7 po (.lst (kws.map V.str))) po = some (.lst (kws.map V.str)) := upd_same
      have hfo := so _ _ hgs
      show gName 8 (.ref po) _ (upd H7 po (.lst (kws.map V.str))) _
      generalize upd H7 po (.lst (kws.map V.str)) = Ho at so xo ko hpo hfo ⊢
      refine ⟨_, rfl, _, rfl, ⟨_, SqL.of hfo⟩, fun D hD => ?_⟩
      refine lc_list (K := K) (a := D4) (xs := ((["lets", "inn", "i", "eachs", "ofx"] : List Str)).map V.str) (fun i H5 => ∃ ys : List Str, H5 D = some (.lst (ys.map V.str)) ∧ ys.length = i ∧ (∀ y ∈ ys, nameS y = true) ∧ Same Ho H5) ⟨[], upd_same, rfl, (fun y hy => nomatch hy), same_new hD⟩ (fun i H5 _ z => ?_) ?_ ?_
      · obtain ⟨ys, _, _, _, s5⟩ := z
        exact SqL.of (s5 _ _ hfo)
      · rintro i u H5 hu ⟨ys, hys, hl, hn, s5⟩
        obtain ⟨z, hz, rfl⟩ : ∃ z, z ∈ ((["lets", "inn", "i", "eachs", "ofx"] : List Str)) ∧ u = .str z := by
          obtain ⟨z, hz, e⟩ := List.mem_map.mp (mem_get hu)
          exact ⟨z, hz, e.symm⟩
        have hi := (List.getElem?_eq_some_iff.mp hu).1
        rw [List.length_map] at hi
        have hll : (((["lets", "inn", "i", "eachs", "ofx"] : List Str))).length = 5 := rfl
        obtain ⟨q1, q2, q3⟩ := fixed_lo z hz
        have mn := made_name q1 q2 q3
        refine ⟨rfl, yes_at ?_⟩
        refine ⟨_, rfl, _, rfl, _, rfl, po, _, rfl, .inl (SqL.of (s5 _ _ hpo)), rfl, by decide +kernel, .inr ⟨_, rfl, _, _, rfl, rfl, ?_⟩⟩
        have step : ∀ t : Str, t.length ≤ 1 → nameS (z ++ t) = true → ∃ za zb, V.str z = .str za ∧ V.str t = .str zb ∧ za.length + zb.length ≤ sizeLine ∧ ∃ acc, H5 D = some (.lst acc) ∧ acc.length < sizeLine ∧ ∃ ys : List Str, (upd H5 D (.lst (acc ++ [.str (za ++ zb)]))) D = some (.lst (ys.map V.str)) ∧ ys.length = i + 1 ∧ (∀ y ∈ ys, nameS y = true) ∧ Same Ho (upd H5 D (.lst (acc ++ [.str (za ++ zb)]))) := fun t ht hn2 => by
          refine ⟨z, t, rfl, rfl, sz100 (by omega), _, hys, ?_, ys ++ [z ++ t], by rw [upd_same, List.map_append]; rfl, by rw [List.length_append, hl]; rfl, fun y hy => ?_, fun c o e => ?_⟩
          · rw [List.length_map, hl]
            exact Nat.lt_of_le_of_lt (show i ≤ 5 by omega) (by decide)
          · rcases List.mem_append.mp hy with hy | hy
            · exact hn y hy
            · rw [List.mem_singleton.mp hy]
              exact hn2
          · rw [upd_ne (ne_of_none e hD)]
            exact s5 _ _ e
        cases ez : inV (.str z) (kws.map V.str) with
        | true =>
          rw [ez, if_pos rfl] at mn
          exact .inr ⟨rfl, step "a" (by decide +kernel) mn⟩
        | false =>
          rw [ez, if_neg (by decide)] at mn
          exact .inl ⟨rfl, step "" (by decide +kernel) mn⟩
      · rintro H5 ⟨ys, hys, hl, hn, s5⟩
        rw [List.length_map] at hl
        have nD : H D = none := ko.free xo hD
        exact q _ ys _ nD (ko.trans (Kp.of_same s5)) ((xo.same s5).mono (by omega)) (by rw [hl]; exact rfl) hn hys (xo.ne hD)
    · rw [show decide (V.int d1 = V.int 1) = false from decide_eq_false (fun z => e1 (V.int.inj z))]
      refine iteF ?_
      -- own words, the names
      refine ⟨(by show 5 ≤ sizeLine; decide), fun po npo => ?_⟩
      have so := same_new (o := .lst (kws.map V.str)) npo
      have xo := x6.new (o := .lst (kws.map V.str)) npo
      have ko : Kp b H _ := k06.trans (Kp.new (b := b) (o := .lst (kws.map V.str)) npo)
      have hpo : (upd H6 po (.lst (kws.map V.str))) po = some (.lst (kws.map V.str)) := upd_same
      have hfo := so _ _ hfs
      show gName 8 (.ref po) _ (upd H6 po (.lst (kws.map V.str))) _
      generalize upd H6 po (.lst (kws.map V.str)) = Ho at so xo ko hpo hfo ⊢
      refine ⟨_, rfl, _, rfl, ⟨_, SqL.of hfo⟩, fun D hD => ?_⟩
      refine lc_list (K := K) (a := D3) (xs := fs.map V.str) (fun i H5 => ∃ ys : List Str, H5 D = some (.lst (ys.map V.str)) ∧ ys.length = i ∧ (∀ y ∈ ys, nameS y = true) ∧ Same Ho H5) ⟨[], upd_same, rfl, (fun y hy => nomatch hy), same_new hD⟩ (fun i H5 _ z => ?_) ?_ ?_
      · obtain ⟨ys, _, _, _, s5⟩ := z
        exact SqL.of (s5 _ _ hfo)
      · rintro i u H5 hu ⟨ys, hys, hl, hn, s5⟩
        obtain ⟨z, hz, rfl⟩ : ∃ z, z ∈ fs ∧ u = .str z := by
          obtain ⟨z, hz, e⟩ := List.mem_map.mp (mem_get hu)
          exact ⟨z, hz, e.symm⟩
        have hi := (List.getElem?_eq_some_iff.mp hu).1
        rw [List.length_map] at hi
        have hll : (fs).length = 5 := (hfl.trans htl)
        obtain ⟨q1, q2, q3⟩ := hf1 z hz
        have mn := made_name q1 q2 q3
        refine ⟨rfl, yes_at ?_⟩
        refine ⟨_, rfl, _, rfl, _, rfl, po, _, rfl, .inl (SqL.of (s5 _ _ hpo)), rfl, by decide +kernel, .inr ⟨_, rfl, _, _, rfl, rfl, ?_⟩⟩
        have step : ∀ t : Str, t.length ≤ 1 → nameS (z ++ t) = true → ∃ za zb, V.str z = .str za ∧ V.str t = .str zb ∧ za.length + zb.length ≤ sizeLine ∧ ∃ acc, H5 D = some (.lst acc) ∧ acc.length < sizeLine ∧ ∃ ys : List Str, (upd H5 D (.lst (acc ++ [.str (za ++ zb)]))) D = some (.lst (ys.map V.str)) ∧ ys.length = i + 1 ∧ (∀ y ∈ ys, nameS y = true) ∧ Same Ho (upd H5 D (.lst (acc ++ [.str (za ++ zb)]))) := fun t ht hn2 => by
          refine ⟨z, t, rfl, rfl, sz100 (by omega), _, hys, ?_, ys ++ [z ++ t], by rw [upd_same, List.map_append]; rfl, by rw [List.length_append, hl]; rfl, fun y hy => ?_, fun c o e => ?_⟩
          · rw [List.length_map, hl]
            exact Nat.lt_of_le_of_lt (show i ≤ 5 by omega) (by decide)
          · rcases List.mem_append.mp hy with hy | hy
            · exact hn y hy
            · rw [List.mem_singleton.mp hy]
              exact hn2
          · rw [upd_ne (ne_of_none e hD)]
            exact s5 _ _ e
        cases ez : inV (.str z) (kws.map V.str) with
        | true =>
          rw [ez, if_pos rfl] at mn
          exact .inr ⟨rfl, step "a" (by decide +kernel) mn⟩
        | false =>
          rw [ez, if_neg (by decide)] at mn
          exact .inl ⟨rfl, step "" (by decide +kernel) mn⟩
      · rintro H5 ⟨ys, hys, hl, hn, s5⟩
        rw [List.length_map] at hl
        have nD : H D = none := ko.free xo hD
        exact q _ ys _ nD (ko.trans (Kp.of_same s5)) ((xo.same s5).mono (by omega)) (by rw [hl]; exact (hfl.trans htl)) hn hys (xo.ne hD)
end
end K12
set_option Elab.async false
set_option linter.all false
set_option maxRecDepth 100000
/-! Exceptions that leave a def: what never leaves; isinstance of the one that a suite holds; what a raise leaves in the heap. -/
namespace CaV
open PySem PySem.Spec PyProof.Rows L2
theorem passNo {P : Program} {w : World} {X : Cx} : Passes (L2.CX P w) X (fun _ _ _ => False) := fun _ _ _ _ _ _ _ c => by
  obtain ⟨_, _, _, _, _, _, _, _, _, _, _, _, h⟩ := c
  exact h.elim
/-- isinstance(e, c), e the exception that the suite holds, with its dict -/
def rIsX (K : PySem.W.Frag) (D a : Addr) (cls : Value) (d : Option Addr) : List V → Hp → VK → Prop := fun xs H Q => ∃ (c : V) (u : Value) (b : Bool) (dd : Addr) (fs : List (Str × V)), xs = [.ref a, c] ∧ cls = .ref D ∧ d = some dd ∧ H dd = some (.xd fs) ∧ ClsV c u ∧ PySem.W.kitOne K (.ref D) u = some b ∧ Q (.bl b) H
theorem call_isX {X : Cx} {a D : Addr} {oe : Obj} {cls : Value} {d : Option Addr} {pn : List (Addr × Obj)} (hz : Zc cls d oe) (hf : ∃ vs, oe.data = .fields vs) (C : ExcC X.K D) : CallR (X.suite a ((a, oe) :: pn)) (.builtin "isinstance") (rIsX X.K D a cls d) := by
  intro pins s σ H xs us Q I rel told
  obtain ⟨c, u, b, dd, fs, rfl, rfl, rfl, hd, cv, ans, q⟩ := told
  obtain ⟨w1, w2, rfl, rx, rc⟩ := vals2 rel
  obtain rfl := cv.eq rc
  cases rx
  obtain ⟨hget, _⟩ := I.pin (a, oe) (List.mem_append.mpr (.inl List.mem_cons_self))
  obtain ⟨vs, hv⟩ := hf
  obtain ⟨mA, ⟨oD, _, _, hoD, _⟩, _⟩ := (show ObjOk X.prog X.w H s.heap dd (.xd fs) from I.hok dd _ hd)
  have cls : (PySem.W.clsIn X.K D).isSome = true := by
    obtain ⟨cd, hc, _⟩ := PySem.W.any_some C.hd
    rw [hc]
    rfl
  have J : PySem.W.InstAt s.heap a oe D (some oD) := by
    obtain ⟨oc, od, oda, osl⟩ := oe
    obtain ⟨h1, h2⟩ := hz
    dsimp only at h1 h2 hv
    subst h1 h2 hv
    exact ⟨hget, rfl, rfl, hoD⟩
  exact PySem.W.kia_one (PySem.W.kitx_exc (od := some oD) cls C.hg C.hk C.hs C.ha C.hn C.ht C.hm) I.kIn J ans (fun z => nomatch z) fun tk => ⟨.bl b, H, I.kept (t' := tk) fun _ _ z => z, rfl, q⟩
/-- the heap behind a raise -/
theorem same_raise {H : Hp} {e0 dx : Addr} {ex ey ez ew : HO} (m0 : H e0 = none) (nd : H dx = none) : Same H (upd (del (upd (upd (upd H e0 ex) dx ey) e0 ez) e0) dx ew) := fun b o e => by
  have n0 : b ≠ e0 := ne_of_none e m0
  have n1 : b ≠ dx := ne_of_none e nd
  rw [upd_ne n1, del_ne n0, upd_ne n0, upd_ne n1, upd_ne n0]
  exact e
end CaV
set_option Elab.async false
set_option linter.all false
set_option maxRecDepth 100000
namespace K12
open PySem PySem.Spec PyProof.Rows L2 CaV CaL CaN CaD
abbrev Pb : PyData → Bool := isPart bodyK none
abbrev gb (d : PyData) : Bool := goodF Pb d
/-- what is raised where x is no body -/
def Bad (C : Addr) (x : V) (H : Hp) (E : XK) : Prop := ∀ (H1 : Hp) (dd : Addr), Same H H1 → H1 dd = some (.xd [("value", x)]) → E (.ref C) (some dd) H1
def spPB (C : Addr) : Sp := fun vs H Q E => ∃ (b : Addr) (x : V) (d : PyData), vs = [x] ∧ Dq b H x d ∧ fine d = true ∧ wt d ≤ 5000 ∧
  ((gb d = false ∧ Bad C x H E) ∨ (gb d = true ∧ wt d ≤ 1200 ∧ d.depth ≤ 59 ∧ ∀ (p : Addr) (F : List V) (H' : Hp), Same H H' → H p = none → H' p = some (.lst F) → LvAll b H H' F (preL d 1) → Q (.ref p) H'))
/-- what a def tells of a body -/
def Told (b : Addr) (H : Hp) (e : PyData) (Q : VK) : Prop := ∀ (v : V) (H' : Hp), Same H H' → Dq b H' v e → (∀ p, v = .ref p → H p = none) → Q v H'
def spTell (g : List (PyData × Nat) → PyData) (C : Addr) : Sp := fun vs H Q E => ∃ (b : Addr) (n : Nat) (x : V) (d : PyData), vs = [x] ∧ Bx H b n ∧ Dq b H x d ∧ fine d = true ∧ wt d ≤ 5000 ∧
  ((gb d = false ∧ Bad C x H E) ∨ (gb d = true ∧ wt d ≤ 1200 ∧ d.depth ≤ 59 ∧ Told b H (g (preL d 1)) Q))
def kindD : PyData → Str
  | .tuple (.str k :: _) => k
  | _ => ""
def nmD : PyData → PyData
  | .tuple (_ :: d :: _) => d
  | _ => .none
def selD (t : PyData → Bool) (f : PyData → PyData) (L : List PyData) : List PyData := (L.filter t).map f
theorem selD_snoc (t : PyData → Bool) (f : PyData → PyData) (L : List PyData) (d : PyData) : selD t f (L ++ [d]) = selD t f L ++ (if t d = true then [f d] else []) := by
  unfold selD
  rw [List.filter_append, List.map_append]
  congr 1
  by_cases h : t d = true
  · rw [if_pos h, List.filter_cons_of_pos h]
    rfl
  · rw [if_neg h, List.filter_cons_of_neg h]
    rfl
theorem selD_len (t : PyData → Bool) (f : PyData → PyData) (L : List PyData) : (selD t f L).length ≤ L.length := by
  unfold selD
  rw [List.length_map]
  exact List.length_filter_le _ _
def isUse (d : PyData) : Bool := decide (kindD d = "name")
def isBin (d : PyData) : Bool := bindK.contains (kindD d)
def isCall (d : PyData) : Bool := decide (kindD d = "call")
def gSize (ys : List (PyData × Nat)) : PyData := .int ys.length
def gDepth (ys : List (PyData × Nat)) : PyData := .int (maxL (ys.map (·.2)))
def gUses (ys : List (PyData × Nat)) : PyData := .list (selD isUse nmD (ys.map (·.1)))
def gBinders (ys : List (PyData × Nat)) : PyData := .list (selD isBin nmD (ys.map (·.1)))
def gCalls (ys : List (PyData × Nat)) : PyData := .list (selD isCall id (ys.map (·.1)))
theorem part_at {b : Addr} {H : Hp} {v : V} {c : PyData} (dq : Dq b H v c) (hp : Pb c = true) : ∃ a kd d1 r v1 vr, v = .ref a ∧ c = .tuple (.str kd :: d1 :: r) ∧ H a = some (.tup (.str kd :: v1 :: vr)) ∧ Dq b H v1 d1 ∧ DqAll b H vr r ∧ bodyD none kd d1 r = true := by
  obtain ⟨kd, d1, r, rfl, hb⟩ := part_shape hp
  cases dq with
  | @tup a _ _ h1 h2 =>
    match h2 with
    | .cons g0 (.cons g1 g) =>
      cases g0
      exact ⟨a, kd, d1, r, _, _, rfl, rfl, h1, g1, g, hb⟩
theorem LvAll.get {b : Addr} {H0 H : Hp} : ∀ {vs : List V} {ds : List (PyData × Nat)} {i : Nat} {u : V}, LvAll b H0 H vs ds → vs[i]? = some u → ∃ t v d l, ds[i]? = some (d, l) ∧ u = .ref t ∧ H t = some (.tup [v, .int ((l : Nat) : Int)]) ∧ Dq b H0 v d
  | _, _, _, _, .nil, e => by simp at e
  | _, _, 0, _, .cons h1 h2 h3, e => by
    simp at e
    subst e
    exact ⟨_, _, _, _, rfl, rfl, h1, h2⟩
  | _, _, i + 1, _, .cons h1 h2 h3, e => by
    obtain ⟨t, v, d, l, k1, k2⟩ := LvAll.get (i := i) h3 (by simpa using e)
    exact ⟨t, v, d, l, by simpa using k1, k2⟩
theorem gb_pre {d : PyData} (h : gb d = true) : ∀ x ∈ pre d, gb x = true := pre_mem (R := fun d => gb d = true) (fun d hd c hc => by
  have hd : goodF Pb d = true := hd
  rw [goodF_eq, Bool.and_eq_true, List.all_eq_true] at hd
  exact hd.2 c hc) d h
theorem gb_part {d : PyData} (h : gb d = true) : Pb d = true := by
  have h : goodF Pb d = true := h
  rw [goodF_eq, Bool.and_eq_true] at h
  exact h.1
theorem take_snoc {α : Type} {l : List α} {i : Nat} {x : α} (h : l[i]? = some x) : l.take (i + 1) = l.take i ++ [x] := by
  rw [List.take_add_one, h]
  rfl
theorem mem_fst {d c : PyData} {l : Nat} {i : Nat} (h : (preL d 1)[i]? = some (c, l)) : c ∈ pre d := List.mem_map.mpr ⟨_, List.mem_of_getElem? h, rfl⟩
theorem fresh_same {H H1 : Hp} {p : Addr} (s : Same H H1) (h : H1 p = none) : H p = none := by
  cases e : H p with
  | none => rfl
  | some o =>
    rw [s _ _ e] at h
    cases h
section
variable {P : Program} {w : World} {K : PySem.W.Frag} {mg : Str → Option Value} {base : Heap}
theorem ok_parts_of_body {k : Nat} (T : TP K mg) : FnOk P w K mg base (L2.CX P w) (k + 6) T.d_parts_of_body.f T.d_parts_of_body.fd ["body"] (spPB T.cIB) := by
  have G_levelled_parts : FnOk P w K mg base CX0 5 T.d_levelled_parts.f T.d_levelled_parts.fd ["value", "kinds", "parameters"] (spLev K) := ok_levelled_parts T
  have GIB : FnOk P w K mg base CX0 1 T.fIB T.fdIB ["self", "value"] (spInit T.cIB) := ok_init T
  refine T.d_parts_of_body.F.okX sc_parts_of_body (fun vs H Q E h => ?_) (fun cdv A outer s H vs Q E hr h => ?_)
  · obtain ⟨b, x, d, rfl, _⟩ := h
    rfl
  · obtain ⟨b, x, d, rfl, dq, fd_, hw, q⟩ := h
    refine ⟨_, (pss_cons (ps_set (i := 1) sc_parts_of_body.nd rfl (.inl rfl) (pe_call G_levelled_parts (hr.mono (by omega)) (by rfl) T.d_levelled_parts.g T.d_levelled_parts.F.kp T.d_levelled_parts.b .nil pass0 (pa_cons (pv 0) (pa_cons (pe_glob (v := .ref T.aBK) rfl T.gl_BODY_KINDS rfl) (pa_cons pe_non pa_nil)))))
    (pss_cons (ps_if (pt_cmpR op_isN (pv 1) pe_non (nomark _))
      (pss_one (ps_raise rfl (takes_of rfl rfl rfl rfl) (pmk_oex T.ib.ox T.ib.iC T.ib.tI GIB (hr.mono (by omega)) T.bI .nil pass0 (by rfl) T.ib.gC (pa_cons (pv 0) pa_nil))))
      pss_nil)
    (pss_one (ps_ret (pv 1))))), ?_⟩
    refine ⟨_, rfl, b, x, d, T.aBK, bodyK, .non, none, rfl, dq, fd_, hw, T.sBK _, .inl ⟨rfl, rfl⟩, fun e H' s' => ?_, fun ys e p F H' s' np hF hL => ?_⟩
    · rcases q with ⟨_, q⟩ | ⟨g, w1, g1, _⟩
      · refine ⟨_, rfl, rfl, _, rfl, iteT ?_⟩
        refine ⟨_, rfl, (by show 1 ≤ 1000; decide), fun e0 m0 => ⟨e0, x, rfl, upd_same, fun dx ndx nex => ⟨rfl, dx, [("value", x)], upd_same, (by rw [upd_ne nex]; exact upd_same), (by rw [upd_ne nex] at ndx; exact ndx), ?_⟩⟩⟩
        have ndx6 : H' dx = none := by
          rw [upd_ne nex] at ndx
          exact ndx
        exact q _ dx (s'.trans (same_raise m0 ndx6)) upd_same
      · rw [run_body g w1 g1] at e
        cases e
    · rcases q with ⟨g, _⟩ | ⟨g, w1, g1, q⟩
      · rw [run_bad g] at e
        cases e
      · rw [run_body g w1 g1] at e
        cases e
        exact ⟨_, rfl, rfl, _, rfl, iteF ⟨_, rfl, q p F H' s' np hF hL⟩⟩
theorem ok_size {k : Nat} (T : TP K mg) : FnOk P w K mg base (L2.CX P w) (k + 7) T.d_size.f T.d_size.fd ["body"] (spTell gSize T.cIB) := by
  have G_parts_of_body : FnOk P w K mg base (L2.CX P w) 6 T.d_parts_of_body.f T.d_parts_of_body.fd ["body"] (spPB T.cIB) := ok_parts_of_body T
  refine T.d_size.F.okX sc_size (fun vs H Q E h => ?_) (fun cdv A outer s H vs Q E hr h => ?_)
  · obtain ⟨b, n, x, d, rfl, _⟩ := h
    rfl
  · obtain ⟨b, n, x, d, rfl, bx, dq, fd_, hw, q⟩ := h
    refine ⟨_, (pss_one (ps_ret (pe_callB call_len_seq (by rfl) T.n_len PySem.boot_len (pa_cons (pe_callS G_parts_of_body (hr.mono (by omega)) (by rfl) T.d_parts_of_body.g T.d_parts_of_body.F.kp T.d_parts_of_body.b (fun σ => passAt (takes_of rfl rfl rfl rfl) σ) (pa_cons (pv 0) pa_nil)) pa_nil)))), ?_⟩
    refine ⟨_, rfl, b, x, d, rfl, dq, fd_, hw, ?_⟩
    rcases q with ⟨g, q⟩ | ⟨g, w1, g1, q⟩
    · exact .inl ⟨g, q⟩
    refine .inr ⟨g, w1, g1, fun p F H' s' np hF hL => ?_⟩
    have hl := hL.len
    refine ⟨p, _, rfl, .inl (SqL.of hF), ?_⟩
    rw [hl]
    exact q _ _ s' (.int _) (fun _ z => nomatch z)
theorem ok_depth {k : Nat} (T : TP K mg) : FnOk P w K mg base (L2.CX P w) (k + 7) T.d_depth.f T.d_depth.fd ["body"] (spTell gDepth T.cIB) := by
  have G_parts_of_body : FnOk P w K mg base (L2.CX P w) 6 T.d_parts_of_body.f T.d_parts_of_body.fd ["body"] (spPB T.cIB) := ok_parts_of_body T
  refine T.d_depth.F.okX sc_depth (fun vs H Q E h => ?_) (fun cdv A outer s H vs Q E hr h => ?_)
  · obtain ⟨b, n, x, d, rfl, _⟩ := h
    rfl
  · obtain ⟨b, n, x, d, rfl, bx, dq, fd_, hw, q⟩ := h
    refine ⟨_, (pss_one (ps_ret (pe_callB (cr_max rfl) (by rfl) T.n_max (by decide +kernel) (pa_cons (pe_lc (own := [("part", 1), ("level", 2)]) (g := (gTup K 2 (gCons (gName 1) (gCons (gName 2) gNil)))) (by rfl) sc_depth.nd (pi_list (pe_callS G_parts_of_body (hr.mono (by omega)) (by rfl) T.d_parts_of_body.g T.d_parts_of_body.F.kp T.d_parts_of_body.b (fun σ => passAt (takes_of rfl rfl rfl rfl) σ) (pa_cons (pv 0) pa_nil))) (blkOk_by (own := [("part", 1), ("level", 2)]) (N := N_depth) (sc := defScope s_depth) (by decide +kernel)) (fun _ _ _ _ _ => (pg_tup rfl (pgs_cons (pg_name (i := 1) sc_depth.nd rfl (.inl rfl)) (pgs_cons (pg_name (i := 2) sc_depth.nd rfl (.inl rfl)) pgs_nil)))) (fun _ _ _ _ _ => pts_nil) (fun _ _ _ _ _ => (pv 2))) pa_nil)))), ?_⟩
    refine ⟨_, rfl, b, x, d, rfl, dq, fd_, hw, ?_⟩
    rcases q with ⟨g, q⟩ | ⟨g, w1, g1, q⟩
    · exact .inl ⟨g, q⟩
    refine .inr ⟨g, w1, g1, fun p F H' s' np hF hL => ?_⟩
    have hl := hL.len
    refine ⟨p, rfl, ⟨_, SqL.of hF⟩, fun D nD => ?_⟩
    have hD0 : H D = none := fresh_same s' nD
    refine lc_list (K := K) (a := p) (xs := F) (fun i H5 => ∃ acc, H5 D = some (.lst acc) ∧ acc.length ≤ i ∧ acc = (((preL d 1).take i).map fun y => V.int ((y.2 : Nat) : Int)) ∧ Same H' H5) ⟨[], upd_same, Nat.le_refl _, rfl, same_new nD⟩ (fun i H5 _ z => ?_) ?_ ?_
    · obtain ⟨acc, _, _, _, s5⟩ := z
      exact SqL.of (s5 _ _ hF)
    · rintro i u H5 hu ⟨acc, hD, al, hacc, s5⟩
      have hi := (List.getElem?_eq_some_iff.mp hu).1
      obtain ⟨t, v, c, l, e, rfl, ht, hc⟩ := hL.get hu
      have len5 : acc.length < sizeLine := Nat.lt_of_le_of_lt (show acc.length ≤ 5000 by
        have := pre_len d
        have e2 : (preL d 1).length = (pre d).length := by
          unfold pre
          rw [List.length_map]
        omega) (by decide)
      have put : ∀ y, (upd H5 D (.lst (acc ++ [y]))) D = some (.lst (acc ++ [y])) ∧ (acc ++ [y]).length ≤ i + 1 ∧ Same H' (upd H5 D (.lst (acc ++ [y]))) := fun y => ⟨upd_same, by rw [List.length_append, List.length_singleton]; omega, fun a o z => by
        rw [upd_ne (ne_of_none z nD)]
        exact s5 _ _ z⟩
      refine ⟨t, _, rfl, SqT.of (s5 _ _ ht), rfl, _, _, rfl, _, _, rfl, rfl, ?_⟩
      refine ⟨rfl, yes_at ⟨_, rfl, acc, hD, len5, _, (put _).1, (put _).2.1, ?_, (put _).2.2⟩⟩
      rw [take_snoc e, List.map_append, hacc]
      rfl
    · rintro H5 ⟨acc, hD, _, hacc, s5⟩
      rw [hl, List.take_length] at hacc
      refine ⟨D, (preL d 1).map fun y => ((y.2 : Nat) : Int), rfl, ?_, ?_, fun m hm hle => ?_⟩
      · rw [List.map_map]
        have h := hD
        rw [hacc] at h
        exact SqL.of h
      · rw [List.length_map, preL_eq]
        exact Nat.zero_lt_succ _
      · obtain ⟨y, hy, rfl⟩ := List.mem_map.mp hm
        have em : maxL ((preL d 1).map (·.2)) = y.2 := maxL_is (List.mem_map.mpr ⟨y, hy, rfl⟩) fun z hz => by
          obtain ⟨z2, hz2, rfl⟩ := List.mem_map.mp hz
          have := hle ((z2.2 : Nat) : Int) (List.mem_map.mpr ⟨z2, hz2, rfl⟩)
          omega
        have q := q (.int ((y.2 : Nat) : Int)) H5 (s'.trans s5) (by unfold gDepth; rw [em]; exact .int _) (fun _ z => nomatch z)
        exact q
theorem ok_uses {k : Nat} (T : TP K mg) : FnOk P w K mg base (L2.CX P w) (k + 7) T.d_uses.f T.d_uses.fd ["body"] (spTell gUses T.cIB) := by
  have G_parts_of_body : FnOk P w K mg base (L2.CX P w) 6 T.d_parts_of_body.f T.d_parts_of_body.fd ["body"] (spPB T.cIB) := ok_parts_of_body T
  refine T.d_uses.F.okX sc_uses (fun vs H Q E h => ?_) (fun cdv A outer s H vs Q E hr h => ?_)
  · obtain ⟨b, n, x, d, rfl, _⟩ := h
    rfl
  · obtain ⟨b, n, x, d, rfl, bx, dq, fd_, hw, q⟩ := h
    refine ⟨_, (pss_one (ps_ret (pe_lc (own := [("part", 1), ("level", 2)]) (g := (gTup K 2 (gCons (gName 1) (gCons (gName 2) gNil)))) (by rfl) sc_uses.nd (pi_list (pe_callS G_parts_of_body (hr.mono (by omega)) (by rfl) T.d_parts_of_body.g T.d_parts_of_body.F.kp T.d_parts_of_body.b (fun σ => passAt (takes_of rfl rfl rfl rfl) σ) (pa_cons (pv 0) pa_nil))) (blkOk_by (own := [("part", 1), ("level", 2)]) (N := N_uses) (sc := defScope s_uses) (by decide +kernel)) (fun _ _ _ _ _ => (pg_tup rfl (pgs_cons (pg_name (i := 1) sc_uses.nd rfl (.inl rfl)) (pgs_cons (pg_name (i := 2) sc_uses.nd rfl (.inl rfl)) pgs_nil)))) (fun _ _ _ _ _ => (pts_one (pt_cmpR op_eq (pe_ix (show IxR _ (rIxT K) from ix_tup) (pv 1) pe_int (fun _ _ => rfl)) pe_str (nomark _)))) (fun _ _ _ _ _ => (pe_ix (show IxR _ (rIxT K) from ix_tup) (pv 1) pe_int (fun _ _ => rfl)))))), ?_⟩
    refine ⟨_, rfl, b, x, d, rfl, dq, fd_, hw, ?_⟩
    rcases q with ⟨g, q⟩ | ⟨g, w1, g1, q⟩
    · exact .inl ⟨g, q⟩
    refine .inr ⟨g, w1, g1, fun p F H' s' np hF hL => ?_⟩
    have hl := hL.len
    refine ⟨p, rfl, ⟨_, SqL.of hF⟩, fun D nD => ?_⟩
    have hD0 : H D = none := fresh_same s' nD
    refine lc_list (K := K) (a := p) (xs := F) (fun i H5 => ∃ acc, H5 D = some (.lst acc) ∧ acc.length ≤ i ∧ DqAll b H acc (selD isUse nmD (((preL d 1).take i).map (·.1))) ∧ Same H' H5) ⟨[], upd_same, Nat.le_refl _, .nil, same_new nD⟩ (fun i H5 _ z => ?_) ?_ ?_
    · obtain ⟨acc, _, _, _, s5⟩ := z
      exact SqL.of (s5 _ _ hF)
    · rintro i u H5 hu ⟨acc, hD, al, hacc, s5⟩
      have hi := (List.getElem?_eq_some_iff.mp hu).1
      obtain ⟨t, v, c, l, e, rfl, ht, hc⟩ := hL.get hu
      have len5 : acc.length < sizeLine := Nat.lt_of_le_of_lt (show acc.length ≤ 5000 by
        have := pre_len d
        have e2 : (preL d 1).length = (pre d).length := by
          unfold pre
          rw [List.length_map]
        omega) (by decide)
      have put : ∀ y, (upd H5 D (.lst (acc ++ [y]))) D = some (.lst (acc ++ [y])) ∧ (acc ++ [y]).length ≤ i + 1 ∧ Same H' (upd H5 D (.lst (acc ++ [y]))) := fun y => ⟨upd_same, by rw [List.length_append, List.length_singleton]; omega, fun a o z => by
        rw [upd_ne (ne_of_none z nD)]
        exact s5 _ _ z⟩
      refine ⟨t, _, rfl, SqT.of (s5 _ _ ht), rfl, _, _, rfl, _, _, rfl, rfl, ?_⟩
      have hp : Pb c = true := gb_part (gb_pre g c (mem_fst e))
      obtain ⟨a, kd, d1, r, v1, vr, rfl, rfl, h1, g1', g2', hb⟩ := part_at hc hp
      have h5 := s5 _ _ (s' _ _ h1)
      have es : ((preL d 1).take (i + 1)).map (·.1) = ((preL d 1).take i).map (·.1) ++ [.tuple (.str kd :: d1 :: r)] := by
        rw [take_snoc e, List.map_append]
        rfl
      refine ⟨rfl, _, rfl, a, _, _, .str kd, rfl, rfl, SqT.of h5, at0, rfl, _, rfl, ?_⟩
      have et : isUse (.tuple (.str kd :: d1 :: r)) = decide (kd = "name") := rfl
      rw [dec_str]
      cases ek : decide (kd = "name") with
      | false =>
        refine iteF ⟨acc, hD, by omega, ?_, s5⟩
        rw [es, selD_snoc, et, ek, if_neg (by decide), List.append_nil]
        exact hacc
      | true =>
        refine iteT ⟨_, rfl, a, _, _, v1, rfl, rfl, SqT.of h5, at1, acc, hD, len5, _, (put v1).1, (put v1).2.1, ?_, (put v1).2.2⟩
        rw [es, selD_snoc, et, ek, if_pos rfl]
        exact hacc.append (.cons g1' .nil)

    · rintro H5 ⟨acc, hD, _, hacc, s5⟩
      rw [hl, List.take_length] at hacc
      have s05 := s'.trans s5
      exact q _ _ s05 (.lst hD (bx.ne hD0) (DqAll.same s05 _ _ hacc)) (fun p z => by cases z; exact hD0)
theorem ok_binders {k : Nat} (T : TP K mg) : FnOk P w K mg base (L2.CX P w) (k + 7) T.d_binders.f T.d_binders.fd ["body"] (spTell gBinders T.cIB) := by
  have G_parts_of_body : FnOk P w K mg base (L2.CX P w) 6 T.d_parts_of_body.f T.d_parts_of_body.fd ["body"] (spPB T.cIB) := ok_parts_of_body T
  refine T.d_binders.F.okX sc_binders (fun vs H Q E h => ?_) (fun cdv A outer s H vs Q E hr h => ?_)
  · obtain ⟨b, n, x, d, rfl, _⟩ := h
    rfl
  · obtain ⟨b, n, x, d, rfl, bx, dq, fd_, hw, q⟩ := h
    refine ⟨_, (pss_one (ps_ret (pe_lc (own := [("part", 1), ("level", 2)]) (g := (gTup K 2 (gCons (gName 1) (gCons (gName 2) gNil)))) (by rfl) sc_binders.nd (pi_list (pe_callS G_parts_of_body (hr.mono (by omega)) (by rfl) T.d_parts_of_body.g T.d_parts_of_body.F.kp T.d_parts_of_body.b (fun σ => passAt (takes_of rfl rfl rfl rfl) σ) (pa_cons (pv 0) pa_nil))) (blkOk_by (own := [("part", 1), ("level", 2)]) (N := N_binders) (sc := defScope s_binders) (by decide +kernel)) (fun _ _ _ _ _ => (pg_tup rfl (pgs_cons (pg_name (i := 1) sc_binders.nd rfl (.inl rfl)) (pgs_cons (pg_name (i := 2) sc_binders.nd rfl (.inl rfl)) pgs_nil)))) (fun _ _ _ _ _ => (pts_one (pt_cmpR (show OpR _ (compareOp .In) (rIn K false) from op_in_seq) (pe_ix (show IxR _ (rIxT K) from ix_tup) (pv 1) pe_int (fun _ _ => rfl)) (pe_glob (v := .ref T.aNK) rfl T.gl_BINDER_KINDS rfl) (by with_unfolding_all rfl)))) (fun _ _ _ _ _ => (pe_ix (show IxR _ (rIxT K) from ix_tup) (pv 1) pe_int (fun _ _ => rfl)))))), ?_⟩
    refine ⟨_, rfl, b, x, d, rfl, dq, fd_, hw, ?_⟩
    rcases q with ⟨g, q⟩ | ⟨g, w1, g1, q⟩
    · exact .inl ⟨g, q⟩
    refine .inr ⟨g, w1, g1, fun p F H' s' np hF hL => ?_⟩
    have hl := hL.len
    refine ⟨p, rfl, ⟨_, SqL.of hF⟩, fun D nD => ?_⟩
    have hD0 : H D = none := fresh_same s' nD
    refine lc_list (K := K) (a := p) (xs := F) (fun i H5 => ∃ acc, H5 D = some (.lst acc) ∧ acc.length ≤ i ∧ DqAll b H acc (selD isBin nmD (((preL d 1).take i).map (·.1))) ∧ Same H' H5) ⟨[], upd_same, Nat.le_refl _, .nil, same_new nD⟩ (fun i H5 _ z => ?_) ?_ ?_
    · obtain ⟨acc, _, _, _, s5⟩ := z
      exact SqL.of (s5 _ _ hF)
    · rintro i u H5 hu ⟨acc, hD, al, hacc, s5⟩
      have hi := (List.getElem?_eq_some_iff.mp hu).1
      obtain ⟨t, v, c, l, e, rfl, ht, hc⟩ := hL.get hu
      have len5 : acc.length < sizeLine := Nat.lt_of_le_of_lt (show acc.length ≤ 5000 by
        have := pre_len d
        have e2 : (preL d 1).length = (pre d).length := by
          unfold pre
          rw [List.length_map]
        omega) (by decide)
      have put : ∀ y, (upd H5 D (.lst (acc ++ [y]))) D = some (.lst (acc ++ [y])) ∧ (acc ++ [y]).length ≤ i + 1 ∧ Same H' (upd H5 D (.lst (acc ++ [y]))) := fun y => ⟨upd_same, by rw [List.length_append, List.length_singleton]; omega, fun a o z => by
        rw [upd_ne (ne_of_none z nD)]
        exact s5 _ _ z⟩
      refine ⟨t, _, rfl, SqT.of (s5 _ _ ht), rfl, _, _, rfl, _, _, rfl, rfl, ?_⟩
      have hp : Pb c = true := gb_part (gb_pre g c (mem_fst e))
      obtain ⟨a, kd, d1, r, v1, vr, rfl, rfl, h1, g1', g2', hb⟩ := part_at hc hp
      have h5 := s5 _ _ (s' _ _ h1)
      have es : ((preL d 1).take (i + 1)).map (·.1) = ((preL d 1).take i).map (·.1) ++ [.tuple (.str kd :: d1 :: r)] := by
        rw [take_snoc e, List.map_append]
        rfl
      refine ⟨rfl, _, rfl, a, _, _, .str kd, rfl, rfl, SqT.of h5, at0, T.aNK, _, rfl, .inr (T.sNK _), rfl, flat_strs _, _, rfl, ?_⟩
      have et : isBin (.tuple (.str kd :: d1 :: r)) = bindK.contains kd := rfl
      rw [show inV (.str kd) (bindK.map V.str) = bindK.contains kd from inV_str _ _]
      cases ek : bindK.contains kd with
      | false =>
        refine iteF ⟨acc, hD, by omega, ?_, s5⟩
        rw [es, selD_snoc, et, ek, if_neg (by decide), List.append_nil]
        exact hacc
      | true =>
        refine iteT ⟨_, rfl, a, _, _, v1, rfl, rfl, SqT.of h5, at1, acc, hD, len5, _, (put v1).1, (put v1).2.1, ?_, (put v1).2.2⟩
        rw [es, selD_snoc, et, ek, if_pos rfl]
        exact hacc.append (.cons g1' .nil)

    · rintro H5 ⟨acc, hD, _, hacc, s5⟩
      rw [hl, List.take_length] at hacc
      have s05 := s'.trans s5
      exact q _ _ s05 (.lst hD (bx.ne hD0) (DqAll.same s05 _ _ hacc)) (fun p z => by cases z; exact hD0)
theorem ok_calls {k : Nat} (T : TP K mg) : FnOk P w K mg base (L2.CX P w) (k + 7) T.d_calls.f T.d_calls.fd ["body"] (spTell gCalls T.cIB) := by
  have G_parts_of_body : FnOk P w K mg base (L2.CX P w) 6 T.d_parts_of_body.f T.d_parts_of_body.fd ["body"] (spPB T.cIB) := ok_parts_of_body T
  refine T.d_calls.F.okX sc_calls (fun vs H Q E h => ?_) (fun cdv A outer s H vs Q E hr h => ?_)
  · obtain ⟨b, n, x, d, rfl, _⟩ := h
    rfl
  · obtain ⟨b, n, x, d, rfl, bx, dq, fd_, hw, q⟩ := h
    refine ⟨_, (pss_one (ps_ret (pe_lc (own := [("part", 1), ("level", 2)]) (g := (gTup K 2 (gCons (gName 1) (gCons (gName 2) gNil)))) (by rfl) sc_calls.nd (pi_list (pe_callS G_parts_of_body (hr.mono (by omega)) (by rfl) T.d_parts_of_body.g T.d_parts_of_body.F.kp T.d_parts_of_body.b (fun σ => passAt (takes_of rfl rfl rfl rfl) σ) (pa_cons (pv 0) pa_nil))) (blkOk_by (own := [("part", 1), ("level", 2)]) (N := N_calls) (sc := defScope s_calls) (by decide +kernel)) (fun _ _ _ _ _ => (pg_tup rfl (pgs_cons (pg_name (i := 1) sc_calls.nd rfl (.inl rfl)) (pgs_cons (pg_name (i := 2) sc_calls.nd rfl (.inl rfl)) pgs_nil)))) (fun _ _ _ _ _ => (pts_one (pt_cmpR op_eq (pe_ix (show IxR _ (rIxT K) from ix_tup) (pv 1) pe_int (fun _ _ => rfl)) pe_str (nomark _)))) (fun _ _ _ _ _ => (pv 1))))), ?_⟩
    refine ⟨_, rfl, b, x, d, rfl, dq, fd_, hw, ?_⟩
    rcases q with ⟨g, q⟩ | ⟨g, w1, g1, q⟩
    · exact .inl ⟨g, q⟩
    refine .inr ⟨g, w1, g1, fun p F H' s' np hF hL => ?_⟩
    have hl := hL.len
    refine ⟨p, rfl, ⟨_, SqL.of hF⟩, fun D nD => ?_⟩
    have hD0 : H D = none := fresh_same s' nD
    refine lc_list (K := K) (a := p) (xs := F) (fun i H5 => ∃ acc, H5 D = some (.lst acc) ∧ acc.length ≤ i ∧ DqAll b H acc (selD isCall id (((preL d 1).take i).map (·.1))) ∧ Same H' H5) ⟨[], upd_same, Nat.le_refl _, .nil, same_new nD⟩ (fun i H5 _ z => ?_) ?_ ?_
    · obtain ⟨acc, _, _, _, s5⟩ := z
      exact SqL.of (s5 _ _ hF)
    · rintro i u H5 hu ⟨acc, hD, al, hacc, s5⟩
      have hi := (List.getElem?_eq_some_iff.mp hu).1
      obtain ⟨t, v, c, l, e, rfl, ht, hc⟩ := hL.get hu
      have len5 : acc.length < sizeLine := Nat.lt_of_le_of_lt (show acc.length ≤ 5000 by
        have := pre_len d
        have e2 : (preL d 1).length = (pre d).length := by
          unfold pre
          rw [List.length_map]
        omega) (by decide)
      have put : ∀ y, (upd H5 D (.lst (acc ++ [y]))) D = some (.lst (acc ++ [y])) ∧ (acc ++ [y]).length ≤ i + 1 ∧ Same H' (upd H5 D (.lst (acc ++ [y]))) := fun y => ⟨upd_same, by rw [List.length_append, List.length_singleton]; omega, fun a o z => by
        rw [upd_ne (ne_of_none z nD)]
        exact s5 _ _ z⟩
      refine ⟨t, _, rfl, SqT.of (s5 _ _ ht), rfl, _, _, rfl, _, _, rfl, rfl, ?_⟩
      have hp : Pb c = true := gb_part (gb_pre g c (mem_fst e))
      obtain ⟨a, kd, d1, r, v1, vr, rfl, rfl, h1, g1', g2', hb⟩ := part_at hc hp
      have h5 := s5 _ _ (s' _ _ h1)
      have es : ((preL d 1).take (i + 1)).map (·.1) = ((preL d 1).take i).map (·.1) ++ [.tuple (.str kd :: d1 :: r)] := by
        rw [take_snoc e, List.map_append]
        rfl
      refine ⟨rfl, _, rfl, a, _, _, .str kd, rfl, rfl, SqT.of h5, at0, rfl, _, rfl, ?_⟩
      have et : isCall (.tuple (.str kd :: d1 :: r)) = decide (kd = "call") := rfl
      rw [dec_str]
      cases ek : decide (kd = "call") with
      | false =>
        refine iteF ⟨acc, hD, by omega, ?_, s5⟩
        rw [es, selD_snoc, et, ek, if_neg (by decide), List.append_nil]
        exact hacc
      | true =>
        refine iteT ⟨_, rfl, acc, hD, len5, _, (put (.ref a)).1, (put (.ref a)).2.1, ?_, (put (.ref a)).2.2⟩
        rw [es, selD_snoc, et, ek, if_pos rfl]
        exact hacc.append (.cons hc .nil)

    · rintro H5 ⟨acc, hD, _, hacc, s5⟩
      rw [hl, List.take_length] at hacc
      have s05 := s'.trans s5
      exact q _ _ s05 (.lst hD (bx.ne hD0) (DqAll.same s05 _ _ hacc)) (fun p z => by cases z; exact hD0)
theorem ok_term_text {k : Nat} (T : TP K mg) : FnOk P w K mg base (L2.CX P w) (k + 7) T.d_term_text.f T.d_term_text.fd ["body"] (fun vs H Q E => ∃ (b : Addr) (x : V) (d : PyData), vs = [x] ∧ Dq b H x d ∧ fine d = true ∧ wt d ≤ 5000 ∧ gb d = false ∧ Bad T.cIB x H E) := by
  have G_parts_of_body : FnOk P w K mg base (L2.CX P w) 6 T.d_parts_of_body.f T.d_parts_of_body.fd ["body"] (spPB T.cIB) := ok_parts_of_body T
  refine T.d_term_text.F.okX sc_term_text (fun vs H Q E h => ?_) (fun cdv A outer s H vs Q E hr h => ?_)
  · obtain ⟨b, x, d, rfl, _⟩ := h
    rfl
  · obtain ⟨b, x, d, rfl, dq, fd_, hw, g, q⟩ := h
    refine ⟨_, (pss_cons (ps_expr (pe_callS G_parts_of_body (hr.mono (by omega)) (by rfl) T.d_parts_of_body.g T.d_parts_of_body.F.kp T.d_parts_of_body.b (fun σ => passAt (takes_of rfl rfl rfl rfl) σ) (pa_cons (pv 0) pa_nil)))
    (pss_one ps_never)), ?_⟩
    exact ⟨_, rfl, b, x, d, rfl, dq, fd_, hw, .inl ⟨g, q⟩⟩
end
end K12
set_option Elab.async false
set_option linter.all false
set_option maxRecDepth 100000
namespace K12
open PySem PySem.Spec PyProof.Rows L2 CaV CaL CaN CaD
mutual
/-- no list and no dict within -/
def pureD : PyData → Bool
  | .none => true
  | .bool _ => true
  | .int _ => true
  | .str _ => true
  | .list _ => false
  | .tuple xs => pureAll xs
  | .dict _ => false
def pureAll : List PyData → Bool
  | [] => true
  | x :: xs => pureD x && pureAll xs
end
theorem Tp.kp {b : Addr} {H H' : Hp} {n : Nat} (x : Bx H b n) (k : Kp b H H') : Tp H H' := fun t xs e => by
  obtain ⟨m, r, c, h, _⟩ := x
  exact k _ _ e (ne_of e h (fun z => nomatch z))
section
variable {b : Addr} {H H' : Hp}
mutual
theorem dq_tp (k : Tp H H') : ∀ (d : PyData) (v : V), pureD d = true → Dq b H v d → Dq b H' v d
  | .none, _, _, h => by
    cases h
    exact .non
  | .bool y, _, _, h => by
    cases h
    exact .bl y
  | .int i, _, _, h => by
    cases h
    exact .int i
  | .str z, _, _, h => by
    cases h
    exact .str z
  | .list _, _, p, _ => by simp [pureD] at p
  | .tuple ds, _, p, h => by
    simp only [pureD] at p
    cases h with
    | tup h1 h2 => exact .tup (k _ _ h1) (dqAll_tp k ds _ p h2)
  | .dict _, _, p, _ => by simp [pureD] at p
theorem dqAll_tp (k : Tp H H') : ∀ (ds : List PyData) (vs : List V), pureAll ds = true → DqAll b H vs ds → DqAll b H' vs ds
  | [], _, _, h => by
    cases h
    exact .nil
  | d :: ds, _, p, h => by
    simp only [pureAll, Bool.and_eq_true] at p
    cases h with
    | cons h1 h2 => exact .cons (dq_tp k d _ p.1 h1) (dqAll_tp k ds _ p.2 h2)
end
end
theorem pureAll_app : ∀ (xs ys : List PyData), pureAll (xs ++ ys) = (pureAll xs && pureAll ys)
  | [], ys => rfl
  | x :: xs, ys => by
    rw [List.cons_append]
    simp only [pureAll]
    rw [pureAll_app xs ys, Bool.and_assoc]
/-- what a drawing hands on -/
def Draw (b : Addr) (H : Hp) (n : Nat) (room deep : Int) (Q : VK) : Prop := ∀ (v : V) (d : PyData) (H' : Hp), Kp b H H' → Bx H' b (n + 16 * room.toNat) → Dq b H' v d → fine d = true → pureD d = true → gb d = true → (wt d : Int) ≤ 4 * room → (d.depth : Int) ≤ 2 * deep → Q v H'
structure Pool (b : Addr) (H : Hp) (pp : Addr) (zs : List Str) : Prop where
  at_ : H pp = some (.lst (zs.map V.str))
  ne : pp ≠ b
  len : zs.length = 5
  nm : ∀ z ∈ zs, nameS z = true
def spPiece (m : Nat) : Sp := fun vs H Q _ => ∃ (b pp : Addr) (zs : List Str) (n : Nat) (room deep way : Int), vs = [.ref b, .ref pp, .int room, .int deep, .int way] ∧ Bx H b n ∧ Pool b H pp zs ∧ (1 ≤ room ∧ room ≤ 119 ∧ n + 16 * room.toNat + 100 < 900000) ∧ (1 ≤ deep ∧ deep ≤ m) ∧ (0 ≤ way ∧ way < 3) ∧ Draw b H n room deep Q
def spParts (m : Nat) : Sp := fun vs H Q _ => ∃ (b pp : Addr) (zs : List Str) (n : Nat) (room deep way many : Int), vs = [.ref b, .ref pp, .int room, .int deep, .int way, .int many] ∧ Bx H b n ∧ Pool b H pp zs ∧ (room ≤ 119 ∧ n + 16 * room.toNat + 110 < 900000) ∧ (0 ≤ many ∧ many ≤ 5 ∧ many ≤ room) ∧ (1 ≤ deep ∧ deep ≤ m) ∧ (0 ≤ way ∧ way < 3) ∧
  ∀ (p : Addr) (ws : List V) (ds : List PyData) (H' : Hp), Kp b H H' → Bx H' b (n + many.toNat + 16 * room.toNat) → H' p = some (.tup ws) → DqAll b H' ws ds → ds.length = many.toNat → fineAll ds = true → pureAll ds = true → (∀ d ∈ ds, gb d = true) → (wtAll ds : Int) ≤ 4 * room → (∀ d ∈ ds, (d.depth : Int) ≤ 2 * deep) → Q (.ref p) H'
theorem fine_app (xs ys : List PyData) : fineAll (xs ++ ys) = (fineAll xs && fineAll ys) := by
  induction xs with
  | nil => rfl
  | cons x xs ih =>
    rw [List.cons_append]
    simp only [fineAll]
    rw [ih, Bool.and_assoc]
section
variable {P : Program} {w : World} {K : PySem.W.Frag} {mg : Str → Option Value} {base : Heap}
set_option maxHeartbeats 2000000 in
theorem ok_l_parts {m kp : Nat} (T : TP K mg) (G_l_piece : FnOk P w K mg base CX0 (kp + 1) T.d_l_piece.f T.d_l_piece.fd ["_law_purse_here", "_law_pool_here", "_law_room", "_law_deep_here", "_law_way"] (spPiece m)) : FnOk P w K mg base CX0 (kp + 2) T.d_l_parts.f T.d_l_parts.fd ["_law_purse_here", "_law_pool_here", "_law_room", "_law_deep_here", "_law_way", "_law_many"] (spParts m) := by
  have G_l_take : FnOk P w K mg base CX0 1 T.d_l_take.f T.d_l_take.fd ["_law_purse_here", "_law_many"] spTake := ok_take T
  refine T.d_l_parts.F.ok sc_l_parts (fun vs H Q E h => ?_) (fun cdv A outer s H vs Q E hr h => ?_)
  · obtain ⟨b, pp, zs, n, room, deep, way, many, rfl, _⟩ := h
    rfl
  · obtain ⟨b, pp, zs, n, room, deep, way, many, rfl, bx, pl, hn, hm, hd, hw, q⟩ := h
    refine ⟨_, (pss_cons (ps_set (i := 6) sc_l_parts.nd rfl (.inl rfl) (pe_lst pa_nil))
    (pss_cons (ps_for PassesOwn.never rfl (pi_range1 (by rfl) T.n_range (pa_cons (pv 5) pa_nil)) (pg_name (i := 7) sc_l_parts.nd rfl (.inl rfl))
      (pss_cons (ps_set (i := 8) sc_l_parts.nd rfl (.inl rfl) (pe_op op_add pe_int (pe_call G_l_take (hr.mono (by omega)) (by rfl) T.d_l_take.g T.d_l_take.F.kp T.d_l_take.b .nil pass0 (pa_cons (pv 0) (pa_cons (pe_op op_sub (pv 2) (pe_op op_sub (pe_op op_sub (pv 5) (pv 7)) pe_int)) pa_nil)))))
      (pss_cons (ps_expr (pe_bm PySem.F.plainAttrs_list PySem.F.slot_list_append PySem.F.type_list_append mt_append (pv 6) (pa_cons (pe_call G_l_piece (hr.mono (by omega)) (by rfl) T.d_l_piece.g T.d_l_piece.F.kp T.d_l_piece.b .nil pass0 (pa_cons (pv 0) (pa_cons (pv 1) (pa_cons (pv 8) (pa_cons (pv 3) (pa_cons (pv 4) pa_nil)))))) pa_nil)))
      (pss_one (ps_set (i := 2) sc_l_parts.nd rfl (.inl rfl) (pe_op op_sub (pv 2) (pv 8)))))))
    (pss_one (ps_ret (pe_callTy call_tuple_of (by rfl) T.n_tuple (by decide +kernel) (pa_cons (pv 6) pa_nil)))))), ?_⟩
    refine ⟨Nat.zero_le _, fun pf npf => ?_⟩
    have nfb := bx.ne npf
    refine ⟨_, rfl, many, rfl, by omega, by omega, ?_⟩
    refine for_range (n := many.toNat) (fun i σ H5 => ∃ t7 t8 acc ds rk, σ = [some (.ref b), some (.ref pp), some (.int rk), some (.int deep), some (.int way), some (.int many), some (.ref pf), t7, t8] ∧ H5 pf = some (.lst acc) ∧ DqAll b H5 acc ds ∧ ds.length = i ∧ fineAll ds = true ∧ pureAll ds = true ∧ (∀ d ∈ ds, gb d = true) ∧ (wtAll ds : Int) ≤ 4 * (room - rk) ∧ rk ≤ room ∧ many - i ≤ rk ∧ (∀ d ∈ ds, (d.depth : Int) ≤ 2 * deep) ∧ Bx H5 b (n + i + 16 * (room - rk).toNat) ∧ Kp b H H5) ?_ ?_ ?_
    · exact ⟨none, none, [], [], room, rfl, upd_same, .nil, rfl, rfl, rfl, (fun d hd => nomatch hd), by simp [wtAll], by omega, by omega, (fun d hd => nomatch hd), (bx.new npf).mono (by omega), Kp.new npf⟩
    · rintro i σ H5 hi ⟨t7, t8, acc, ds, rk, rfl, hpf, hds, hlen, hf, hpu, hgd, hwt, hrk, hrem, hdep, x5, k5⟩
      have hpp := k5 _ _ pl.at_ pl.ne
      have al := hds.len
      refine ⟨_, rfl, _, rfl, _, rfl, _, rfl, _, _, rfl, rfl, _, _, rfl, rfl, _, _, rfl, rfl, b, _, _, rfl, x5, by omega, by omega, by omega, fun d1 H6 l1 u1 x6 k6 => ?_⟩
      refine ⟨_, _, rfl, rfl, ?_⟩
      have hpf6 := k6 _ _ hpf nfb
      refine ⟨_, rfl, .inl ⟨rfl, _, SqL.of hpf6⟩, ?_⟩
      refine ⟨_, rfl, _, rfl, _, rfl, _, rfl, _, rfl, b, pp, zs, _, 1 + d1, deep, way, rfl, x6, ⟨k6 _ _ hpp pl.ne, pl.ne, pl.len, pl.nm⟩, by omega, by omega, by omega, fun v d H7 k7 x7 hv fv pv_ gv wv dv => ?_⟩
      have hpf7 := k7 _ _ hpf6 nfb
      refine ⟨pf, _, _, rfl, rfl, hpf7, Nat.lt_of_le_of_lt (show acc.length ≤ 5 by omega) (by decide), ?_⟩
      refine ⟨_, rfl, _, rfl, _, _, rfl, rfl, ?_⟩
      have k8 : Tp H7 (upd H7 pf (.lst (acc ++ [v]))) := Tp.lst hpf7
      have t57 : Tp H5 H7 := (Tp.kp x5 k6).trans (Tp.kp x6 k7)
      refine ⟨_, _, acc ++ [v], ds ++ [d], rk - (1 + d1), rfl, upd_same, (dqAll_tp (t57.trans k8) _ _ hpu hds).append (.cons (dq_tp k8 _ _ pv_ hv) .nil), by rw [List.length_append, hlen]; rfl, ?_, ?_, (fun e he => (List.mem_append.mp he).elim (hgd e) fun he => by rw [List.mem_singleton.mp he]; exact gv), ?_, by omega, by omega, ?_, ?_, fun a o z na => ?_⟩
      · rw [fine_app, hf]
        simp [fineAll, fv]
      · rw [pureAll_app, hpu]
        simp [pureAll, pv_]
      · rw [wtAll_append]
        simp only [wtAll]
        omega
      · intro e he
        rcases List.mem_append.mp he with he | he
        · exact hdep e he
        · rw [List.mem_singleton.mp he]
          exact dv
      · obtain ⟨m1, r1, c1, e1, e2⟩ := x7.mono (k := n + (i + 1) + 16 * (room - (rk - (1 + d1))).toNat) (by omega)
        exact ⟨m1, r1, c1, by rw [upd_ne nfb.symm]; exact e1, e2⟩
      · rw [upd_ne (ne_of_none z npf)]
        exact k7 _ _ (k6 _ _ (k5 _ _ z na) na) na
    · rintro σ H5 ⟨t7, t8, acc, ds, rk, rfl, hpf, hds, hlen, hf, hpu, hgd, hwt, hrk, hrem, hdep, x5, k5⟩
      refine ⟨_, rfl, pf, _, rfl, .inl ⟨SqL.of hpf, fun p np => ?_⟩⟩
      have s6 := same_new (o := .tup acc) np
      exact q p acc ds _ (k5.trans (Kp.of_same s6)) ((x5.same s6).mono (by omega)) upd_same (DqAll.same s6 _ _ hds) hlen hf hpu hgd (by omega) hdep
end
end K12
set_option Elab.async false
set_option linter.all false
set_option maxRecDepth 100000
namespace K12
open PySem PySem.Spec PyProof.Rows L2 CaV CaL CaN CaD
theorem Draw.leaf {b : Addr} {H H2 : Hp} {n j : Nat} {room deep : Int} {Q : VK} {p : Addr} {a z : Str} (q : Draw b H n room deep Q) (hr : 1 ≤ room) (hd : 1 ≤ deep) (k : Kp b H H2) (x : Bx H2 b (n + j)) (hj : j ≤ 8) (np : H2 p = none) (fa : fine (.str a) = true) (fz : fine (.str z) = true) (g : gb (.tuple [.str a, .str z]) = true) : Q (.ref p) (upd H2 p (.tup [.str a, .str z])) := by
  refine q _ (.tuple [.str a, .str z]) _ (k.trans (Kp.new np)) ((x.new np).mono (by omega)) (.tup upd_same (.cons (.str a) (.cons (.str z) .nil))) ?_ (by simp [pureD, pureAll]) g ?_ ?_
  · simp only [fine, fineAll, Bool.and_eq_true] at fa fz ⊢
    exact ⟨fa, fz, trivial⟩
  · simp only [wt, wtAll]
    omega
  · simp only [PyData.depth, PyData.depthAll]
    omega
theorem Pool.kp {b : Addr} {H H' : Hp} {pp : Addr} {zs : List Str} (h : Pool b H pp zs) (k : Kp b H H') : Pool b H' pp zs := ⟨k _ _ h.at_ h.ne, h.ne, h.len, h.nm⟩
theorem Pool.get {b : Addr} {H : Hp} {pp : Addr} {zs : List Str} (h : Pool b H pp zs) {i : Int} (h0 : 0 ≤ i) (h5 : i < 5) : ∃ z, nameS z = true ∧ fine (.str z) = true ∧ atI (zs.map V.str) i = some (.str z) := by
  obtain ⟨z, hz, e⟩ := atI_strs (zs := zs) (i := i) h0 (by rw [h.len]; exact h5)
  exact ⟨z, h.nm z hz, fine_name (h.nm z hz), e⟩
theorem qmark : ("?" : Str) = ⟨#[63]⟩ := by decide +kernel
theorem doll_par {z : Str} (h : nameS z = true) : fine (.str ("$" ++ z)) = true ∧ parS ("$" ++ z) = true ∧ ("$" ++ z).length ≤ 10 := by
  have h2 := sign_par (g := 36) (.inr rfl) h
  have e : ("$" : Str) = ⟨#[36]⟩ := by decide +kernel
  rw [e]
  exact ⟨h2.2, h2.1, (fine_str h2.2).1⟩
theorem dec_i (a c : Int) : decide (V.int a = V.int c) = decide (a = c) := dec_int a c
theorem beq_int (u x : Int) : (u == x) = decide (x = u) := by
  by_cases z : x = u
  · rw [decide_eq_true z, z]
    exact beq_self_eq_true u
  · rw [decide_eq_false z]
    exact beq_eq_false_iff_ne.mpr (Ne.symm z)
theorem inV3 (x a c e : Int) : inV (.int x) [.int a, .int c, .int e] = decide (x = a ∨ x = c ∨ x = e) := by
  show ((a == x) || ((c == x) || ((e == x) || false))) = _
  rw [beq_int, beq_int, beq_int, Bool.or_false, Bool.decide_or, Bool.decide_or]
theorem inV2 (x a c : Int) : inV (.int x) [.int a, .int c] = decide (x = a ∨ x = c) := by
  show ((a == x) || ((c == x) || false)) = _
  rw [beq_int, beq_int, Bool.or_false, Bool.decide_or]
theorem doll_doll (z : Str) : doll ("$" ++ z) = true := by
  rw [doll_head, app_tl]
  have e : ("$" : Str).cps.toList = [36] := by decide +kernel
  rw [e]
  rfl
theorem within_name {z : Str} (h : nameS z = true) : withinD none (.str z) = true := by
  unfold withinD
  rw [show nameD (.str z) = true from h]
  rfl
theorem within_doll {z : Str} (h : nameS z = true) : withinD none (.str ("$" ++ z)) = true := by
  unfold withinD
  rw [show parD (.str ("$" ++ z)) = true from (doll_par h).2.1, show doll (sOf (.str ("$" ++ z))) = true from doll_doll z]
  simp [allowS]
theorem gb_of {kd : Str} {d1 : PyData} {r : List PyData} (h1 : bodyK.contains kd = true) (h2 : bodyD none kd d1 r = true) (h3 : ∀ c ∈ inner (.tuple (.str kd :: d1 :: r)), gb c = true) : gb (.tuple (.str kd :: d1 :: r)) = true := by
  show goodF Pb _ = true
  rw [goodF_eq, Bool.and_eq_true, List.all_eq_true]
  exact ⟨by show (bodyK.contains kd && bodyD none kd d1 r) = true; rw [h1, h2]; rfl, h3⟩
theorem gb_hole {z : Str} (h : nameS z = true) : gb (.tuple [.str "hole", .str z]) = true := gb_of (by decide +kernel) (by
  unfold bodyD
  rw [if_neg (by decide +kernel), if_pos rfl, show nameD (.str z) = true from h]
  rfl) (fun c hc => by
  rw [inner_eq, if_neg (by decide +kernel), if_neg (by decide +kernel)] at hc
  cases hc)
theorem gb_use {d : PyData} (h : withinD none d = true) : gb (.tuple [.str "name", d]) = true := gb_of (by decide +kernel) (by
  unfold bodyD
  rw [if_pos rfl, h]
  rfl) (fun c hc => by
  rw [inner_eq, if_neg (by decide +kernel), if_neg (by decide +kernel)] at hc
  cases hc)
theorem gb_row {kd z : Str} {ds : List PyData} (hk : (kd = "op" ∧ ds.length ≤ 3) ∨ (kd = "call" ∧ ds.length ≤ 5)) (h : nameS z = true) (g : ∀ d ∈ ds, gb d = true) : gb (.tuple [.str kd, .str z, .tuple ds]) = true := by
  refine gb_of ?_ ?_ (fun c hc => ?_)
  · rcases hk with ⟨rfl, _⟩ | ⟨rfl, _⟩ <;> decide +kernel
  · have row : ∀ m, ds.length ≤ m → rowD m (.str z) [.tuple ds] = true := fun m hm => by
      unfold rowD
      rw [show nameD (.str z) = true from h]
      simp [hm]
    unfold bodyD
    rcases hk with ⟨rfl, hl⟩ | ⟨rfl, hl⟩
    · rw [if_neg (by decide +kernel), if_neg (by decide +kernel), if_pos rfl]
      exact row 3 hl
    · rw [if_neg (by decide +kernel), if_neg (by decide +kernel), if_neg (by decide +kernel), if_pos rfl]
      exact row 5 hl
  · rw [inner_eq, if_pos (by rcases hk with ⟨rfl, _⟩ | ⟨rfl, _⟩ <;> simp)] at hc
    exact g c hc
theorem gb_bind {kd : Str} {d1 : PyData} {ds : List PyData} (hl : ds.length = 2) (hk : (kd = "let" ∧ withinD none d1 = true) ∨ (kd = "each" ∧ withinD none d1 = true) ∨ (kd = "want" ∧ nameD d1 = true)) (g : ∀ d ∈ ds, gb d = true) : gb (.tuple (.str kd :: d1 :: ds)) = true := by
  refine gb_of ?_ ?_ (fun c hc => ?_)
  · rcases hk with ⟨rfl, _⟩ | ⟨rfl, _⟩ | ⟨rfl, _⟩ <;> decide +kernel
  · unfold bodyD
    rw [hl]
    rcases hk with ⟨rfl, h⟩ | ⟨rfl, h⟩ | ⟨rfl, h⟩
    · rw [if_neg (by decide +kernel), if_neg (by decide +kernel), if_neg (by decide +kernel), if_neg (by decide +kernel), if_neg (by decide +kernel), h]
      rfl
    · rw [if_neg (by decide +kernel), if_neg (by decide +kernel), if_neg (by decide +kernel), if_neg (by decide +kernel), if_neg (by decide +kernel), h]
      rfl
    · rw [if_neg (by decide +kernel), if_neg (by decide +kernel), if_neg (by decide +kernel), if_neg (by decide +kernel), if_pos rfl, h]
      rfl
  · rw [inner_eq, if_neg (by rcases hk with ⟨rfl, _⟩ | ⟨rfl, _⟩ | ⟨rfl, _⟩ <;> decide +kernel), if_pos (by rcases hk with ⟨rfl, _⟩ | ⟨rfl, _⟩ | ⟨rfl, _⟩ <;> simp)] at hc
    exact g c hc
section
variable {P : Program} {w : World} {K : PySem.W.Frag} {mg : Str → Option Value} {base : Heap}
set_option maxHeartbeats 4000000 in
theorem ok_l_piece (T : TP K mg) : ∀ m : Nat, FnOk P w K mg base CX0 (2 * m + 2) T.d_l_piece.f T.d_l_piece.fd ["_law_purse_here", "_law_pool_here", "_law_room", "_law_deep_here", "_law_way"] (spPiece m)
  | 0 => by
    refine T.d_l_piece.F.ok sc_l_piece (fun vs H Q E h => ?_) (fun cdv A outer s H vs Q E hr h => ?_)
    · obtain ⟨b, pp, zs, n, room, deep, way, rfl, _⟩ := h
      rfl
    · obtain ⟨b, pp, zs, n, room, deep, way, rfl, bx, pl, hn, hd, _⟩ := h
      exact absurd hd (by omega)
  | m + 1 => by
    have G_l_take : FnOk P w K mg base CX0 1 T.d_l_take.f T.d_l_take.fd ["_law_purse_here", "_law_many"] spTake := ok_take T
    have G_l_parts : FnOk P w K mg base CX0 (2 * m + 3) T.d_l_parts.f T.d_l_parts.fd ["_law_purse_here", "_law_pool_here", "_law_room", "_law_deep_here", "_law_way", "_law_many"] (spParts m) := ok_l_parts (kp := 2 * m + 1) T (ok_l_piece T m)
    refine T.d_l_piece.F.ok (k := 2 * m + 3) sc_l_piece (fun vs H Q E h => ?_) (fun cdv A outer s H vs Q E hr h => ?_)
    · obtain ⟨b, pp, zs, n, room, deep, way, rfl, _⟩ := h
      rfl
    · obtain ⟨b, pp, zs, n, room, deep, way, rfl, bx, pl, hn, hd, hw, q⟩ := h
      refine ⟨_, (pss_cons (ps_set (i := 5) sc_l_piece.nd rfl (.inl rfl) (pe_call G_l_take (hr.mono (by omega)) (by rfl) T.d_l_take.g T.d_l_take.F.kp T.d_l_take.b .nil pass0 (pa_cons (pv 0) (pa_cons (pe_ix ix_list (pe_lst (pa_cons pe_int (pa_cons pe_int (pa_cons pe_int pa_nil)))) (pv 4) (fun _ _ => rfl)) pa_nil))))
    (pss_cons (ps_if (pt_cmpR op_eq (pv 5) pe_int (nomark _))
      (pss_one (ps_ret (pe_tup (pa_cons pe_str (pa_cons (pe_ix ix_list (pv 1) (pe_call G_l_take (hr.mono (by omega)) (by rfl) T.d_l_take.g T.d_l_take.F.kp T.d_l_take.b .nil pass0 (pa_cons (pv 0) (pa_cons pe_int pa_nil))) (fun _ _ => rfl)) pa_nil)))))
      pss_nil)
    (pss_cons (ps_if (pt_cmpR op_eq (pv 5) pe_int (nomark _))
      (pss_one (ps_ret (pe_tup (pa_cons pe_str (pa_cons (pe_op op_add_str pe_str (pe_ix ix_list (pv 1) (pe_op op_add pe_int (pe_call G_l_take (hr.mono (by omega)) (by rfl) T.d_l_take.g T.d_l_take.F.kp T.d_l_take.b .nil pass0 (pa_cons (pv 0) (pa_cons pe_int pa_nil)))) (fun _ _ => rfl))) pa_nil)))))
      pss_nil)
    (pss_cons (ps_if (PW.pt (pw_or (pt_cmpR op_eq (pv 5) pe_int (nomark _)) (pw_or (pt_cmpR op_lt (pv 2) pe_int (nomark _)) (pw_or1 (pt_cmpR op_lt (pv 3) pe_int (nomark _))))))
      (pss_one (ps_ret (pe_tup (pa_cons pe_str (pa_cons (pe_ix ix_list (pv 1) (pe_call G_l_take (hr.mono (by omega)) (by rfl) T.d_l_take.g T.d_l_take.F.kp T.d_l_take.b .nil pass0 (pa_cons (pv 0) (pa_cons pe_int pa_nil))) (fun _ _ => rfl)) pa_nil)))))
      pss_nil)
    (pss_cons (ps_if (pt_cmpR op_in_seq (pv 5) (pe_tup (pa_cons pe_int (pa_cons pe_int (pa_cons pe_int pa_nil)))) (by with_unfolding_all rfl))
      (pss_cons (ps_set (i := 6) sc_l_piece.nd rfl (.inl rfl) (pe_callB (call_min2 rfl) (by rfl) T.n_min (by decide +kernel) (pa_cons (pe_call G_l_take (hr.mono (by omega)) (by rfl) T.d_l_take.g T.d_l_take.F.kp T.d_l_take.b .nil pass0 (pa_cons (pv 0) (pa_cons (pe_ix ix_list (pe_lst (pa_cons pe_int (pa_cons pe_int pa_nil))) (pe_callTy call_int1 (by rfl) T.n_int (by decide +kernel) (pa_cons (pe_cmpR op_eq (pv 5) pe_int (nomark _)) pa_nil)) (fun _ _ => rfl)) pa_nil))) (pa_cons (pe_op op_sub (pv 2) pe_int) pa_nil))))
      (pss_cons (ps_set (i := 7) sc_l_piece.nd rfl (.inl rfl) (pe_tup (pa_cons (pe_ix ix_list (pe_lst (pa_cons pe_str (pa_cons pe_str pa_nil))) (pe_callTy call_int1 (by rfl) T.n_int (by decide +kernel) (pa_cons (pe_cmpR op_eq (pv 5) pe_int (nomark _)) pa_nil)) (fun _ _ => rfl)) (pa_cons (pe_ix ix_list (pv 1) (pe_call G_l_take (hr.mono (by omega)) (by rfl) T.d_l_take.g T.d_l_take.F.kp T.d_l_take.b .nil pass0 (pa_cons (pv 0) (pa_cons pe_int pa_nil))) (fun _ _ => rfl)) pa_nil))))
      (pss_cons (ps_set (i := 8) sc_l_piece.nd rfl (.inl rfl) (pe_call G_l_parts (hr.mono (by omega)) (by rfl) T.d_l_parts.g T.d_l_parts.F.kp T.d_l_parts.b .nil pass0 (pa_cons (pv 0) (pa_cons (pv 1) (pa_cons (pe_op op_sub (pv 2) pe_int) (pa_cons (pe_op op_sub (pv 3) pe_int) (pa_cons (pv 4) (pa_cons (pv 6) pa_nil))))))))
      (pss_one (ps_ret (pe_op op_catA (pv 7) (pe_tup (pa_cons (pv 8) pa_nil))))))))
      pss_nil)
    (pss_cons (ps_set (i := 9) sc_l_piece.nd rfl (.inl rfl) (pe_ifExp (pt_cmpR op_in_seq (pv 5) (pe_tup (pa_cons pe_int (pa_cons pe_int (pa_cons pe_int pa_nil)))) (by with_unfolding_all rfl)) pe_str (pe_ix ix_list (pe_lst (pa_cons pe_str (pa_cons pe_str pa_nil))) (pe_callTy call_int1 (by rfl) T.n_int (by decide +kernel) (pa_cons (pe_cmpR op_eq (pv 5) pe_int (nomark _)) pa_nil)) (fun _ _ => rfl))))
    (pss_cons (ps_set (i := 10) sc_l_piece.nd rfl (.inl rfl) (pe_ix ix_list (pv 1) (pe_call G_l_take (hr.mono (by omega)) (by rfl) T.d_l_take.g T.d_l_take.F.kp T.d_l_take.b .nil pass0 (pa_cons (pv 0) (pa_cons pe_int pa_nil))) (fun _ _ => rfl)))
    (pss_cons (ps_if (pt_cmpR op_in_seq (pv 5) (pe_tup (pa_cons pe_int (pa_cons pe_int pa_nil))) (by with_unfolding_all rfl))
      (pss_one (ps_set (i := 10) sc_l_piece.nd rfl (.inl rfl) (pe_op op_add_str pe_str (pe_ix ix_list (pv 1) (pe_op op_add pe_int (pe_call G_l_take (hr.mono (by omega)) (by rfl) T.d_l_take.g T.d_l_take.F.kp T.d_l_take.b .nil pass0 (pa_cons (pv 0) (pa_cons pe_int pa_nil)))) (fun _ _ => rfl)))))
      pss_nil)
    (pss_one (ps_ret (pe_op op_catA (pe_tup (pa_cons (pv 9) (pa_cons (pv 10) pa_nil))) (pe_call G_l_parts (hr.mono (by omega)) (by rfl) T.d_l_parts.g T.d_l_parts.F.kp T.d_l_parts.b .nil pass0 (pa_cons (pv 0) (pa_cons (pv 1) (pa_cons (pe_op op_sub (pv 2) pe_int) (pa_cons (pe_op op_sub (pv 3) pe_int) (pa_cons (pv 4) (pa_cons pe_int pa_nil)))))))))))))))))), ?_⟩
      obtain ⟨kk, hkk, hk0, hk1⟩ : ∃ kk : Int, atI [V.int 7, .int 8, .int 13] way = some (.int kk) ∧ 0 < kk ∧ kk ≤ 13 := by
        have : way = 0 ∨ way = 1 ∨ way = 2 := by omega
        rcases this with rfl | rfl | rfl
        · exact ⟨7, rfl, by decide, by decide⟩
        · exact ⟨8, rfl, by decide, by decide⟩
        · exact ⟨13, rfl, by decide, by decide⟩
      refine ⟨_, rfl, (by show 3 ≤ sizeLine; decide), fun pL nL => ⟨_, rfl, pL, _, _, .int kk, rfl, rfl, SqL.of upd_same, hkk, b, kk, n, rfl, bx.new nL, by omega, by omega, by omega, fun d1 H1 l1 u1 x1 k1 => ?_⟩⟩
      have k1 : Kp b H H1 := (Kp.new nL).trans k1
      have pl1 := pl.kp k1
      refine ⟨_, rfl, rfl, _, rfl, ?_⟩
      rw [dec_i]
      by_cases e9 : d1 = 9
      · rw [decide_eq_true e9]
        refine iteT ⟨_, rfl, _, rfl, b, _, _, rfl, x1, by omega, by decide, by decide, fun d2 H2 l2 u2 x2 k2 => ?_⟩
        obtain ⟨z, nz, fz, ez⟩ := pl1.get (i := d2) l2 (by omega)
        exact ⟨pp, _, _, .str z, rfl, rfl, SqL.of (pl1.kp k2).at_, ez, (by show 2 ≤ sizeLine; decide), fun p np => q.leaf (j := 4) (by omega) (by omega) (k1.trans k2) (x2.mono (by omega)) (by omega) np (by decide +kernel) fz (gb_hole nz)⟩
      rw [decide_eq_false e9]
      refine iteF ?_
      refine ⟨_, rfl, rfl, _, rfl, ?_⟩
      rw [dec_i]
      by_cases e10 : d1 = 10
      · rw [decide_eq_true e10]
        refine iteT ⟨_, rfl, _, rfl, b, _, _, rfl, x1, by omega, by decide, by decide, fun d2 H2 l2 u2 x2 k2 => ?_⟩
        obtain ⟨z, nz, fz, ez⟩ := pl1.get (i := 2 + d2) (by omega) (by omega)
        have dz := doll_par nz
        have dl := app_len "$" z
        exact ⟨_, _, rfl, rfl, pp, _, _, .str z, rfl, rfl, SqL.of (pl1.kp k2).at_, ez, _, _, rfl, rfl, sz100 (by omega), (by show 2 ≤ sizeLine; decide), fun p np => q.leaf (j := 4) (by omega) (by omega) (k1.trans k2) (x2.mono (by omega)) (by omega) np (by decide +kernel) dz.1 (gb_use (within_doll nz))⟩
      rw [decide_eq_false e10]
      refine iteF ?_
      refine ⟨_, rfl, rfl, _, rfl, ?_⟩
      rw [dec_i]
      by_cases c1 : d1 = 0
      · rw [decide_eq_true c1]
        exact iteT (iteT ⟨_, rfl, _, rfl, b, _, _, rfl, x1, by omega, by decide, by decide, fun d2 H2 l2 u2 x2 k2 => by
          obtain ⟨z, nz, fz, ez⟩ := pl1.get (i := d2) l2 u2
          exact ⟨pp, _, _, .str z, rfl, rfl, SqL.of (pl1.kp k2).at_, ez, (by show 2 ≤ sizeLine; decide), fun p np => q.leaf (j := 4) (by omega) (by omega) (k1.trans k2) (x2.mono (by omega)) (by omega) np (by decide +kernel) fz (gb_use (within_name nz))⟩⟩)
      rw [decide_eq_false c1]
      refine iteF ⟨_, rfl, _, _, rfl, rfl, _, rfl, ?_⟩
      by_cases c2 : room < 3
      · rw [decide_eq_true c2]
        exact iteT (iteT ⟨_, rfl, _, rfl, b, _, _, rfl, x1, by omega, by decide, by decide, fun d2 H2 l2 u2 x2 k2 => by
          obtain ⟨z, nz, fz, ez⟩ := pl1.get (i := d2) l2 u2
          exact ⟨pp, _, _, .str z, rfl, rfl, SqL.of (pl1.kp k2).at_, ez, (by show 2 ≤ sizeLine; decide), fun p np => q.leaf (j := 4) (by omega) (by omega) (k1.trans k2) (x2.mono (by omega)) (by omega) np (by decide +kernel) fz (gb_use (within_name nz))⟩⟩)
      rw [decide_eq_false c2]
      refine iteF ⟨_, rfl, _, _, rfl, rfl, _, rfl, ?_⟩
      by_cases c3 : deep < 2
      · rw [decide_eq_true c3]
        exact iteT ⟨_, rfl, _, rfl, b, _, _, rfl, x1, by omega, by decide, by decide, fun d2 H2 l2 u2 x2 k2 => by
          obtain ⟨z, nz, fz, ez⟩ := pl1.get (i := d2) l2 u2
          exact ⟨pp, _, _, .str z, rfl, rfl, SqL.of (pl1.kp k2).at_, ez, (by show 2 ≤ sizeLine; decide), fun p np => q.leaf (j := 4) (by omega) (by omega) (k1.trans k2) (x2.mono (by omega)) (by omega) np (by decide +kernel) fz (gb_use (within_name nz))⟩⟩
      rw [decide_eq_false c3]
      refine iteF ?_
      -- applications and calls
      refine ⟨_, rfl, (by show 3 ≤ sizeLine; decide), fun pa npa => ⟨pa, _, rfl, .inr (SqT.of upd_same), rfl, rfl, _, rfl, ?_⟩⟩
      have x1 := x1.new (o := .tup [.int 1, .int 2, .int 7]) npa
      have k1 := k1.trans (Kp.new (b := b) (o := .tup [.int 1, .int 2, .int 7]) npa)
      have pl1 := pl.kp k1
      show if inV (.int d1) [.int 1, .int 2, .int 7] = true then _ else _
      rw [inV3]
      generalize upd H1 pa (.tup [.int 1, .int 2, .int 7]) = H1 at x1 k1 pl1 ⊢
      by_cases c4 : d1 = 1 ∨ d1 = 2 ∨ d1 = 7
      · rw [decide_eq_true c4]
        refine iteT ?_
        obtain ⟨k2, kd, hk2, hkd, fkd, hkk⟩ : ∃ (k2 : Int) (kd : Str), atI [V.int 4, .int 6] (if decide (V.int d1 = V.int 7) = true then 1 else 0) = some (.int k2) ∧ atI [V.str "op", .str "call"] (if decide (V.int d1 = V.int 7) = true then 1 else 0) = some (.str kd) ∧ fine (.str kd) = true ∧ ((kd = "op" ∧ k2 = 4) ∨ (kd = "call" ∧ k2 = 6)) := by
          cases decide (V.int d1 = V.int 7)
          · exact ⟨4, "op", rfl, rfl, by decide +kernel, .inl ⟨rfl, rfl⟩⟩
          · exact ⟨6, "call", rfl, rfl, by decide +kernel, .inr ⟨rfl, rfl⟩⟩
        have hk2b : 0 < k2 ∧ k2 ≤ 6 := by
          rcases hkk with ⟨_, rfl⟩ | ⟨_, rfl⟩ <;> decide
        obtain ⟨hk20, hk21⟩ := hk2b
        refine ⟨_, rfl, (by show 2 ≤ sizeLine; decide), fun pM nM => ⟨_, rfl, rfl, .inr ⟨_, rfl, pM, _, _, .int k2, rfl, rfl, SqL.of upd_same, hk2, b, k2, _, rfl, x1.new nM, by omega, by omega, by omega, fun d2 H2 l2 u2 x2 k2' => ?_⟩⟩⟩
        have kk2 := (k1.trans (Kp.new nM)).trans k2'
        refine ⟨_, rfl, _, _, rfl, rfl, _, _, rfl, ?_⟩
        have hmany : 0 ≤ (if room - 1 < d2 then room - 1 else d2) ∧ (if room - 1 < d2 then room - 1 else d2) ≤ 5 ∧ (if room - 1 < d2 then room - 1 else d2) ≤ room - 1 ∧ (if room - 1 < d2 then room - 1 else d2) < k2 := by
          split <;> omega
        generalize (if room - 1 < d2 then room - 1 else d2) = many at hmany ⊢
        refine ⟨(by show 2 ≤ sizeLine; decide), fun pN nN => ⟨_, rfl, rfl, .inr ⟨_, rfl, pN, _, _, .str kd, rfl, rfl, SqL.of upd_same, hkd, _, rfl, _, rfl, b, _, _, rfl, x2.new nN, by omega, by decide, by decide, fun d3 H3 l3 u3 x3 k3' => ?_⟩⟩⟩
        have k3 := (kk2.trans (Kp.new nN)).trans k3'
        have pl3 := pl.kp k3
        obtain ⟨z, nz, fz, ez⟩ := pl3.get (i := d3) l3 u3
        refine ⟨pp, _, _, .str z, rfl, rfl, SqL.of pl3.at_, ez, (by show 2 ≤ sizeLine; decide), fun ph nph => ?_⟩
        have k4 := k3.trans (Kp.new (b := b) (o := .tup [.str kd, .str z]) nph)
        have x4 := (x3.new (o := .tup [.str kd, .str z]) nph).mono (k := n + 5) (by omega)
        have hph : (upd H3 ph (.tup [.str kd, .str z])) ph = some (.tup [.str kd, .str z]) := upd_same
        generalize upd H3 ph (.tup [.str kd, .str z]) = H4 at k4 x4 hph ⊢
        refine ⟨_, rfl, _, rfl, _, rfl, _, _, rfl, rfl, _, rfl, _, _, rfl, rfl, _, rfl, _, rfl, b, pp, zs, _, room - 1, deep - 1, way, many, rfl, x4, pl.kp k4, by omega, by omega, by omega, hw, fun pq ws ds H5 k5 x5 hpq hds hlen hf hpu hgd hwt hdep => ?_⟩
        have hph5 := Tp.kp x4 k5 _ _ hph
        refine ⟨_, rfl, _, rfl, (by show 1 ≤ sizeLine; decide), fun pr npr => ?_⟩
        have s6 := same_new (o := .tup [.ref pq]) npr
        refine ⟨ph, pr, _, _, rfl, rfl, SqT.of (s6 _ _ hph5), SqT.of upd_same, (by show 3 ≤ sizeLine; decide), (fun z => nomatch z), (fun _ z => nomatch z), fun _ _ pz npz => ?_⟩
        have s7 := same_new (o := .tup ([.str kd, .str z] ++ [.ref pq])) npz
        have s67 := s6.trans s7
        have da := (depthAll_le (n := (2 * (deep - 1)).toNat) (xs := ds)).mpr fun e he => by have := hdep e he; omega
        refine q _ (.tuple [.str kd, .str z, .tuple ds]) _ ((k4.trans k5).trans (Kp.of_same s67)) ((x5.same s67).mono (by omega)) (.tup upd_same (.cons (.str kd) (.cons (.str z) (.cons (.tup (s67 _ _ hpq) (DqAll.same s67 _ _ hds)) .nil)))) ?_ ?_ (gb_row (hkk.elim (fun z => .inl ⟨z.1, by have := z.2; omega⟩) fun z => .inr ⟨z.1, by have := z.2; omega⟩) nz hgd) ?_ ?_
        · simp only [fine, fineAll, Bool.and_eq_true] at fkd fz ⊢
          exact ⟨fkd, fz, hf, trivial⟩
        · simp only [pureD, pureAll, Bool.and_eq_true]
          exact ⟨trivial, trivial, hpu, trivial⟩
        · simp only [wt, wtAll]
          omega
        · simp only [PyData.depth, PyData.depthAll]
          omega
      rw [decide_eq_false c4]
      refine iteF ?_
      refine ⟨_, rfl, (by show 3 ≤ sizeLine; decide), fun pc npc => ⟨pc, _, rfl, .inr (SqT.of upd_same), rfl, rfl, _, rfl, ?_⟩⟩
      have x1 := x1.new (o := .tup [.int 5, .int 6, .int 8]) npc
      have k1 := k1.trans (Kp.new (b := b) (o := .tup [.int 5, .int 6, .int 8]) npc)
      have pl1 := pl.kp k1
      show if inV (.int d1) [.int 5, .int 6, .int 8] = true then _ else _
      rw [inV3]
      generalize upd H1 pc (.tup [.int 5, .int 6, .int 8]) = H1 at x1 k1 pl1 ⊢
      by_cases c5 : d1 = 5 ∨ d1 = 6 ∨ d1 = 8
      · rw [decide_eq_true c5]
        refine iteT ?_
        refine ⟨_, rfl, _, rfl, b, _, _, rfl, x1, by omega, by decide, by decide, fun d3 H3 l3 u3 x3 k3' => ?_⟩
        have k3 := k1.trans k3'
        have pl3 := pl.kp k3
        obtain ⟨z, nz, fz, ez⟩ := pl3.get (i := d3) l3 u3
        refine ⟨pp, _, _, .str z, rfl, rfl, SqL.of pl3.at_, ez, ?_⟩
        refine ⟨_, rfl, (by show 2 ≤ sizeLine; decide), fun pb npb => ⟨pb, _, rfl, .inr (SqT.of upd_same), rfl, rfl, _, rfl, ?_⟩⟩
        have x3 := x3.new (o := .tup [.int 8, .int 12]) npb
        have k3 := k3.trans (Kp.new (b := b) (o := .tup [.int 8, .int 12]) npb)
        have pl3 := pl.kp k3
        show if inV (.int d1) [.int 8, .int 12] = true then _ else _
        rw [inV2]
        generalize upd H3 pb (.tup [.int 8, .int 12]) = H3 at x3 k3 pl3 ⊢
        by_cases c6 : d1 = 8 ∨ d1 = 12
        · rw [decide_eq_true c6]
          refine iteT ?_
          refine ⟨_, rfl, _, rfl, b, _, _, rfl, x3, by omega, by decide, by decide, fun d5 H6 l5 u5 x6 k6' => ?_⟩
          have k6 := k3.trans k6'
          obtain ⟨z2, nz2, fz2, ez2⟩ := (pl.kp k6).get (i := 2 + d5) (by omega) (by omega)
          have dz := doll_par nz2
          have dl := app_len "$" z2
          refine ⟨_, _, rfl, rfl, pp, _, _, .str z2, rfl, rfl, SqL.of (pl.kp k6).at_, ez2, _, _, rfl, rfl, sz100 (by omega), ?_⟩
          refine ⟨_, rfl, _, rfl, (by show 2 ≤ sizeLine; decide), fun ph nph => ?_⟩
          have k4 := k6.trans (Kp.new (b := b) (o := .tup [.str "each", .str ("$" ++ z2)]) nph)
          have x4 := (x6.new (o := .tup [.str "each", .str ("$" ++ z2)]) nph).mono (k := n + 5) (by omega)
          have hph : (upd H6 ph (.tup [.str "each", .str ("$" ++ z2)])) ph = some (.tup [.str "each", .str ("$" ++ z2)]) := upd_same
          show tCall (spParts m) [] E0 _ _ (upd H6 ph (.tup [.str "each", .str ("$" ++ z2)])) _
          generalize upd H6 ph (.tup [.str "each", .str ("$" ++ z2)]) = H4 at k4 x4 hph ⊢
          refine ⟨_, rfl, _, rfl, _, rfl, _, _, rfl, rfl, _, rfl, _, _, rfl, rfl, _, rfl, b, pp, zs, _, room - 1, deep - 1, way, 2, rfl, x4, pl.kp k4, by omega, by omega, by omega, hw, fun pq ws ds H5 k5 x5 hpq hds hlen hf hpu hgd hwt hdep => ?_⟩
          have hph5 := Tp.kp x4 k5 _ _ hph
          have hwl := hds.len
          have hl2 : ds.length = 2 := hlen
          refine ⟨ph, pq, _, ws, rfl, rfl, SqT.of hph5, SqT.of hpq, sz100 (by simp only [List.length_cons, List.length_nil]; omega), (fun z => nomatch z), (fun _ z => by rw [z] at hwl; simp only [List.length_nil] at hwl; omega), fun _ _ pz npz => ?_⟩
          have s7 := same_new (o := .tup ([.str "each", .str ("$" ++ z2)] ++ ws)) npz
          have da := (depthAll_le (n := (2 * (deep - 1)).toNat) (xs := ds)).mpr fun e he => by have := hdep e he; omega
          refine q _ (.tuple (.str "each" :: .str ("$" ++ z2) :: ds)) _ ((k4.trans k5).trans (Kp.of_same s7)) ((x5.same s7).mono (by omega)) (.tup upd_same (.cons (.str _) (.cons (.str _) (DqAll.same s7 _ _ hds)))) ?_ ?_ (gb_bind hl2 (.inr (.inl ⟨rfl, within_doll nz2⟩)) hgd) ?_ ?_
          · have f1 : fine (.str "each") = true := by decide +kernel
            have f2 : fine (.str ("$" ++ z2)) = true := dz.1
            simp only [fine, fineAll, Bool.and_eq_true] at f1 f2 ⊢
            exact ⟨f1, f2, hf⟩
          · simp only [pureD, pureAll, Bool.and_eq_true]
            exact ⟨trivial, trivial, hpu⟩
          · simp only [wt, wtAll]
            omega
          · simp only [PyData.depth, PyData.depthAll]
            omega
        · rw [decide_eq_false c6]
          refine iteF ?_
          refine ⟨_, rfl, _, rfl, (by show 2 ≤ sizeLine; decide), fun ph nph => ?_⟩
          have k4 := k3.trans (Kp.new (b := b) (o := .tup [.str "each", .str z]) nph)
          have x4 := (x3.new (o := .tup [.str "each", .str z]) nph).mono (k := n + 5) (by omega)
          have hph : (upd H3 ph (.tup [.str "each", .str z])) ph = some (.tup [.str "each", .str z]) := upd_same
          show tCall (spParts m) [] E0 _ _ (upd H3 ph (.tup [.str "each", .str z])) _
          generalize upd H3 ph (.tup [.str "each", .str z]) = H4 at k4 x4 hph ⊢
          refine ⟨_, rfl, _, rfl, _, rfl, _, _, rfl, rfl, _, rfl, _, _, rfl, rfl, _, rfl, b, pp, zs, _, room - 1, deep - 1, way, 2, rfl, x4, pl.kp k4, by omega, by omega, by omega, hw, fun pq ws ds H5 k5 x5 hpq hds hlen hf hpu hgd hwt hdep => ?_⟩
          have hph5 := Tp.kp x4 k5 _ _ hph
          have hwl := hds.len
          have hl2 : ds.length = 2 := hlen
          refine ⟨ph, pq, _, ws, rfl, rfl, SqT.of hph5, SqT.of hpq, sz100 (by simp only [List.length_cons, List.length_nil]; omega), (fun z => nomatch z), (fun _ z => by rw [z] at hwl; simp only [List.length_nil] at hwl; omega), fun _ _ pz npz => ?_⟩
          have s7 := same_new (o := .tup ([.str "each", .str z] ++ ws)) npz
          have da := (depthAll_le (n := (2 * (deep - 1)).toNat) (xs := ds)).mpr fun e he => by have := hdep e he; omega
          refine q _ (.tuple (.str "each" :: .str z :: ds)) _ ((k4.trans k5).trans (Kp.of_same s7)) ((x5.same s7).mono (by omega)) (.tup upd_same (.cons (.str _) (.cons (.str _) (DqAll.same s7 _ _ hds)))) ?_ ?_ (gb_bind hl2 (.inr (.inl ⟨rfl, within_name nz⟩)) hgd) ?_ ?_
          · have f1 : fine (.str "each") = true := by decide +kernel
            have f2 : fine (.str z) = true := fz
            simp only [fine, fineAll, Bool.and_eq_true] at f1 f2 ⊢
            exact ⟨f1, f2, hf⟩
          · simp only [pureD, pureAll, Bool.and_eq_true]
            exact ⟨trivial, trivial, hpu⟩
          · simp only [wt, wtAll]
            omega
          · simp only [PyData.depth, PyData.depthAll]
            omega
      · rw [decide_eq_false c5]
        refine iteF ?_
        obtain ⟨kd, hkd, fkd, hkw⟩ : ∃ kd : Str, atI [V.str "let", .str "want"] (if decide (V.int d1 = V.int 11) = true then 1 else 0) = some (.str kd) ∧ fine (.str kd) = true ∧ (kd = "let" ∨ (kd = "want" ∧ d1 = 11)) := by
          rw [dec_i]
          by_cases e11 : d1 = 11
          · rw [decide_eq_true e11]
            exact ⟨"want", rfl, by decide +kernel, .inr ⟨rfl, e11⟩⟩
          · rw [decide_eq_false e11]
            exact ⟨"let", rfl, by decide +kernel, .inl rfl⟩
        refine ⟨(by show 2 ≤ sizeLine; decide), fun pN nN => ⟨_, rfl, rfl, .inr ⟨_, rfl, pN, _, _, .str kd, rfl, rfl, SqL.of upd_same, hkd, ?_⟩⟩⟩
        have x1 := x1.new (o := .lst [.str "let", .str "want"]) nN
        have k1 := k1.trans (Kp.new (b := b) (o := .lst [.str "let", .str "want"]) nN)
        refine ⟨_, rfl, _, rfl, b, _, _, rfl, x1, by omega, by decide, by decide, fun d3 H3 l3 u3 x3 k3' => ?_⟩
        have k3 := k1.trans k3'
        have pl3 := pl.kp k3
        obtain ⟨z, nz, fz, ez⟩ := pl3.get (i := d3) l3 u3
        refine ⟨pp, _, _, .str z, rfl, rfl, SqL.of pl3.at_, ez, ?_⟩
        refine ⟨_, rfl, (by show 2 ≤ sizeLine; decide), fun pb npb => ⟨pb, _, rfl, .inr (SqT.of upd_same), rfl, rfl, _, rfl, ?_⟩⟩
        have x3 := x3.new (o := .tup [.int 8, .int 12]) npb
        have k3 := k3.trans (Kp.new (b := b) (o := .tup [.int 8, .int 12]) npb)
        have pl3 := pl.kp k3
        show if inV (.int d1) [.int 8, .int 12] = true then _ else _
        rw [inV2]
        generalize upd H3 pb (.tup [.int 8, .int 12]) = H3 at x3 k3 pl3 ⊢
        by_cases c6 : d1 = 8 ∨ d1 = 12
        · rw [decide_eq_true c6]
          refine iteT ?_
          refine ⟨_, rfl, _, rfl, b, _, _, rfl, x3, by omega, by decide, by decide, fun d5 H6 l5 u5 x6 k6' => ?_⟩
          have k6 := k3.trans k6'
          obtain ⟨z2, nz2, fz2, ez2⟩ := (pl.kp k6).get (i := 2 + d5) (by omega) (by omega)
          have dz := doll_par nz2
          have dl := app_len "$" z2
          refine ⟨_, _, rfl, rfl, pp, _, _, .str z2, rfl, rfl, SqL.of (pl.kp k6).at_, ez2, _, _, rfl, rfl, sz100 (by omega), ?_⟩
          refine ⟨_, rfl, _, rfl, (by show 2 ≤ sizeLine; decide), fun ph nph => ?_⟩
          have k4 := k6.trans (Kp.new (b := b) (o := .tup [.str kd, .str ("$" ++ z2)]) nph)
          have x4 := (x6.new (o := .tup [.str kd, .str ("$" ++ z2)]) nph).mono (k := n + 5) (by omega)
          have hph : (upd H6 ph (.tup [.str kd, .str ("$" ++ z2)])) ph = some (.tup [.str kd, .str ("$" ++ z2)]) := upd_same
          show tCall (spParts m) [] E0 _ _ (upd H6 ph (.tup [.str kd, .str ("$" ++ z2)])) _
          generalize upd H6 ph (.tup [.str kd, .str ("$" ++ z2)]) = H4 at k4 x4 hph ⊢
          refine ⟨_, rfl, _, rfl, _, rfl, _, _, rfl, rfl, _, rfl, _, _, rfl, rfl, _, rfl, b, pp, zs, _, room - 1, deep - 1, way, 2, rfl, x4, pl.kp k4, by omega, by omega, by omega, hw, fun pq ws ds H5 k5 x5 hpq hds hlen hf hpu hgd hwt hdep => ?_⟩
          have hph5 := Tp.kp x4 k5 _ _ hph
          have hwl := hds.len
          have hl2 : ds.length = 2 := hlen
          refine ⟨ph, pq, _, ws, rfl, rfl, SqT.of hph5, SqT.of hpq, sz100 (by simp only [List.length_cons, List.length_nil]; omega), (fun z => nomatch z), (fun _ z => by rw [z] at hwl; simp only [List.length_nil] at hwl; omega), fun _ _ pz npz => ?_⟩
          have s7 := same_new (o := .tup ([.str kd, .str ("$" ++ z2)] ++ ws)) npz
          have da := (depthAll_le (n := (2 * (deep - 1)).toNat) (xs := ds)).mpr fun e he => by have := hdep e he; omega
          refine q _ (.tuple (.str kd :: .str ("$" ++ z2) :: ds)) _ ((k4.trans k5).trans (Kp.of_same s7)) ((x5.same s7).mono (by omega)) (.tup upd_same (.cons (.str _) (.cons (.str _) (DqAll.same s7 _ _ hds)))) ?_ ?_ (gb_bind hl2 (hkw.elim (fun e => .inl ⟨e, within_doll nz2⟩) fun e => absurd e.2 (by omega)) hgd) ?_ ?_
          · have f1 : fine (.str kd) = true := fkd
            have f2 : fine (.str ("$" ++ z2)) = true := dz.1
            simp only [fine, fineAll, Bool.and_eq_true] at f1 f2 ⊢
            exact ⟨f1, f2, hf⟩
          · simp only [pureD, pureAll, Bool.and_eq_true]
            exact ⟨trivial, trivial, hpu⟩
          · simp only [wt, wtAll]
            omega
          · simp only [PyData.depth, PyData.depthAll]
            omega
        · rw [decide_eq_false c6]
          refine iteF ?_
          refine ⟨_, rfl, _, rfl, (by show 2 ≤ sizeLine; decide), fun ph nph => ?_⟩
          have k4 := k3.trans (Kp.new (b := b) (o := .tup [.str kd, .str z]) nph)
          have x4 := (x3.new (o := .tup [.str kd, .str z]) nph).mono (k := n + 5) (by omega)
          have hph : (upd H3 ph (.tup [.str kd, .str z])) ph = some (.tup [.str kd, .str z]) := upd_same
          show tCall (spParts m) [] E0 _ _ (upd H3 ph (.tup [.str kd, .str z])) _
          generalize upd H3 ph (.tup [.str kd, .str z]) = H4 at k4 x4 hph ⊢
          refine ⟨_, rfl, _, rfl, _, rfl, _, _, rfl, rfl, _, rfl, _, _, rfl, rfl, _, rfl, b, pp, zs, _, room - 1, deep - 1, way, 2, rfl, x4, pl.kp k4, by omega, by omega, by omega, hw, fun pq ws ds H5 k5 x5 hpq hds hlen hf hpu hgd hwt hdep => ?_⟩
          have hph5 := Tp.kp x4 k5 _ _ hph
          have hwl := hds.len
          have hl2 : ds.length = 2 := hlen
          refine ⟨ph, pq, _, ws, rfl, rfl, SqT.of hph5, SqT.of hpq, sz100 (by simp only [List.length_cons, List.length_nil]; omega), (fun z => nomatch z), (fun _ z => by rw [z] at hwl; simp only [List.length_nil] at hwl; omega), fun _ _ pz npz => ?_⟩
          have s7 := same_new (o := .tup ([.str kd, .str z] ++ ws)) npz
          have da := (depthAll_le (n := (2 * (deep - 1)).toNat) (xs := ds)).mpr fun e he => by have := hdep e he; omega
          refine q _ (.tuple (.str kd :: .str z :: ds)) _ ((k4.trans k5).trans (Kp.of_same s7)) ((x5.same s7).mono (by omega)) (.tup upd_same (.cons (.str _) (.cons (.str _) (DqAll.same s7 _ _ hds)))) ?_ ?_ (gb_bind hl2 (hkw.elim (fun e => .inl ⟨e, within_name nz⟩) fun e => .inr (.inr ⟨e.1, nz⟩)) hgd) ?_ ?_
          · have f1 : fine (.str kd) = true := fkd
            have f2 : fine (.str z) = true := fz
            simp only [fine, fineAll, Bool.and_eq_true] at f1 f2 ⊢
            exact ⟨f1, f2, hf⟩
          · simp only [pureD, pureAll, Bool.and_eq_true]
            exact ⟨trivial, trivial, hpu⟩
          · simp only [wt, wtAll]
            omega
          · simp only [PyData.depth, PyData.depthAll]
            omega
end
end K12
set_option Elab.async false
set_option linter.all false
set_option maxRecDepth 100000
/-! xs == []: a list of whatever things beside an empty one. -/
namespace CaD
open PySem PySem.Spec PyProof.Rows L2 CaV CaL CaN
section
variable {X : Cx}
def rEqNil (K : PySem.W.Frag) : R2 := fun x y H Q => ∃ (l c : Addr) (xs : List V), x = .ref l ∧ y = .ref c ∧ SqL K H l xs ∧ SqL K H c [] ∧ Q (.bl xs.isEmpty) H
theorem op_eqNil (room : X.A.units < cLine) : OpR X (compareOp .Eq) (rEqNil X.K) := by
  intro pins s σ H x y v u Q I rx ry told
  obtain ⟨l, c, xs, rfl, rfl, h1, h2, q⟩ := told
  cases rx
  cases ry
  obtain ⟨its, r1, p1, _⟩ := I.list h1
  obtain ⟨its2, r2, p2, _⟩ := I.list h2
  cases r2
  cases r1 with
  | nil => exact SeqAt.eq_listAt (e := fun _ => true) p1.isList p2.isList rfl room (fun j a _ => absurd a (Nat.not_lt_zero j)) ⟨.bl true, H, I, rfl, q⟩
  | cons a t => exact SeqAt.eq_list_lengthsAt p1.isList p2.isList (by simp) room ⟨.bl false, H, I, rfl, q⟩
end
end CaD
set_option Elab.async false
set_option linter.all false
set_option maxRecDepth 100000
/-! Tuples of such data put together and cut; lists of things within bounds. -/
namespace CaD
open PySem PySem.Spec PyProof.Rows L2 CaV CaL CaN
def cutD (ds : List PyData) (lo hi : Option Int) : List PyData := (ds.drop (HT.sIx ds.length 0 lo)).take (HT.sIx ds.length ds.length hi - HT.sIx ds.length 0 lo)
theorem cutD_mem {ds : List PyData} {lo hi : Option Int} {d : PyData} (h : d ∈ cutD ds lo hi) : d ∈ ds := List.mem_of_mem_drop (List.mem_of_mem_take h)
theorem wtAll_take : ∀ (n : Nat) (ds : List PyData), wtAll (ds.take n) ≤ wtAll ds
  | 0, ds => by simp [wtAll]
  | _ + 1, [] => by simp
  | n + 1, d :: ds => by
    have := wtAll_take n ds
    simp only [List.take_succ_cons, wtAll]
    omega
theorem wtAll_drop : ∀ (n : Nat) (ds : List PyData), wtAll (ds.drop n) ≤ wtAll ds
  | 0, ds => by simp
  | _ + 1, [] => by simp
  | n + 1, d :: ds => by
    have := wtAll_drop n ds
    simp only [List.drop_succ_cons, wtAll]
    omega
theorem wtAll_cut (ds : List PyData) (lo hi : Option Int) : wtAll (cutD ds lo hi) ≤ wtAll ds := Nat.le_trans (wtAll_take _ _) (wtAll_drop _ _)
theorem cutD_len (ds : List PyData) (lo hi : Option Int) : (cutD ds lo hi).length ≤ ds.length := by
  unfold cutD
  rw [List.length_take, List.length_drop]
  omega
section
variable {K : PySem.W.Frag} {b : Addr} {H : Hp} {Q : VK}
theorem Dq.ref_tup {v : V} {ds : List PyData} (h : Dq b H v (.tuple ds)) : ∃ a xs, v = .ref a ∧ H a = some (.tup xs) ∧ DqAll b H xs ds := by
  cases h with
  | tup h1 h2 => exact ⟨_, _, rfl, h1, h2⟩
theorem catQ {a c : Addr} {ds es : List PyData} (ha : Dq b H (.ref a) (.tuple ds)) (hc : Dq b H (.ref c) (.tuple es)) (small : ds.length + es.length ≤ 100000) (q : ∀ p H', Same H H' → Dq b H' (.ref p) (.tuple (ds ++ es)) → Q (.ref p) H') : rCatA K (.ref a) (.ref c) H Q := by
  have ha2 := ha
  have hc2 := hc
  cases ha with
  | @tup _ xs _ h1 h2 =>
    cases hc with
    | @tup _ ys _ k1 k2 =>
      have l1 := h2.len
      have l2 := k2.len
      refine ⟨a, c, xs, ys, rfl, rfl, SqT.of h1, SqT.of k1, Nat.le_trans (show xs.length + ys.length ≤ 100000 by omega) (by decide), fun e => ?_, fun _ e => ?_, fun _ _ p np => ?_⟩
      · subst e
        cases h2
        exact q c H (fun _ _ z => z) hc2
      · subst e
        cases k2
        refine q a H (fun _ _ z => z) ?_
        rw [List.append_nil]
        exact ha2
      · have s := same_new (o := .tup (xs ++ ys)) np
        exact q p _ s (.tup upd_same ((DqAll.same s _ _ h2).append (DqAll.same s _ _ k2)))
theorem sliceQ {a : Addr} {ds : List PyData} {lo hi : Option Int} (ha : Dq b H (.ref a) (.tuple ds)) (q : ∀ p H', Same H H' → Dq b H' (.ref p) (.tuple (cutD ds lo hi)) → Q (.ref p) H') : rSlA K (.ref a) lo hi H Q := by
  have ha2 := ha
  cases ha with
  | @tup _ xs _ h1 h2 =>
    have l1 := h2.len
    refine ⟨a, xs, rfl, SqT.of h1, fun z => ?_, fun _ p np => ?_⟩
    · refine q a H (fun _ _ z => z) ?_
      have e : cutD ds lo hi = ds := by
        unfold cutD
        rw [← l1, z.1, z.2, List.drop_zero, l1]
        exact List.take_of_length_le (by omega)
      rw [e]
      exact ha2
    · have s := same_new (o := .tup (cutV xs lo hi)) np
      exact q p _ s (.tup upd_same (DqAll.same s _ _ (h2.cut lo hi)))
theorem sliceF {a : Addr} {ds : List PyData} {lo : Option Int} {σ : L2.St} (ha : Dq b H (.ref a) (.tuple ds)) (q : ∀ p H', Same H H' → Dq b H' (.ref p) (.tuple (cutD ds lo none)) → Q (.ref p) H') : tNoPart σ H (fun u G => rSlA K (.ref a) lo u G Q) := sliceQ ha q
/-- a thing within bounds -/
def Fit (W D : Nat) (d : PyData) : Prop := fine d = true ∧ wt d ≤ W ∧ d.depth ≤ D
/-- the things of a list, each within bounds -/
def Its (b : Addr) (H : Hp) (W D : Nat) (xs : List V) : Prop := ∃ ds, DqAll b H xs ds ∧ ∀ d ∈ ds, Fit W D d
theorem Its.same {H' : Hp} {W D : Nat} {xs : List V} (s : Same H H') (h : Its b H W D xs) : Its b H' W D xs := by
  obtain ⟨ds, h1, h2⟩ := h
  exact ⟨ds, DqAll.same s _ _ h1, h2⟩
theorem Its.nil {W D : Nat} : Its b H W D [] := ⟨[], .nil, fun d h => (nomatch h)⟩
theorem Its.cons {W D : Nat} {v : V} {xs : List V} {d : PyData} (h : Dq b H v d) (f : Fit W D d) (t : Its b H W D xs) : Its b H W D (v :: xs) := by
  obtain ⟨ds, h1, h2⟩ := t
  refine ⟨d :: ds, .cons h h1, fun e m => ?_⟩
  rcases List.mem_cons.mp m with rfl | m
  · exact f
  · exact h2 e m
theorem Its.app {W D : Nat} {xs ys : List V} (h : Its b H W D xs) (t : Its b H W D ys) : Its b H W D (xs ++ ys) := by
  obtain ⟨ds, h1, h2⟩ := h
  obtain ⟨es, t1, t2⟩ := t
  refine ⟨ds ++ es, h1.append t1, fun e m => ?_⟩
  rcases List.mem_append.mp m with m | m
  · exact h2 e m
  · exact t2 e m
theorem Its.rep {W D : Nat} {xs : List V} (h : Its b H W D xs) : ∀ n : Nat, Its b H W D (List.replicate n xs).flatten
  | 0 => .nil
  | n + 1 => by
    rw [List.replicate_succ, List.flatten_cons]
    exact h.app (Its.rep h n)
theorem Its.get {W D : Nat} {xs : List V} (h : Its b H W D xs) {i : Int} (h0 : 0 ≤ i) (h1 : i < xs.length) : ∃ v d, atI xs i = some v ∧ Dq b H v d ∧ Fit W D d := by
  obtain ⟨ds, g1, g2⟩ := h
  have l := g1.len
  have hi : i.toNat < ds.length := by omega
  have e := List.getElem?_eq_getElem hi
  obtain ⟨v, k1, k2⟩ := g1.get e
  refine ⟨v, _, ?_, k2, g2 _ (List.getElem_mem hi)⟩
  have z := atI_nat k1
  rwa [Int.toNat_of_nonneg h0] at z
theorem fit_str {W D : Nat} {z : Str} (f : fine (.str z) = true) (h : 1 ≤ W) : Fit W D (.str z) := ⟨f, by simpa [wt] using h, by simp [PyData.depth]⟩
theorem fit_tup {W D : Nat} {ds : List PyData} (f : ∀ d ∈ ds, fine d = true) (w : wtAll ds + 1 ≤ W) (g : ∀ d ∈ ds, d.depth + 1 ≤ D) (hD : 1 ≤ D) : Fit W D (.tuple ds) := by
  refine ⟨?_, ?_, ?_⟩
  · simp only [fine]
    exact fineAll_iff.mpr f
  · simpa only [wt] using w
  · simp only [PyData.depth]
    have : PyData.depthAll ds ≤ D - 1 := depthAll_le.mpr fun d m => by
      have := g d m
      omega
    omega
end
end CaD
set_option Elab.async false
set_option linter.all false
set_option maxRecDepth 100000
namespace K12
open PySem PySem.Spec PyProof.Rows L2 CaV CaL CaN CaD
theorem shape3 {kd : Str} {d1 : PyData} {r : List PyData} (h : Pb (.tuple (.str kd :: d1 :: r)) = true) : ((kd = "name" ∨ kd = "hole") ∧ r = []) ∨ ((kd = "op" ∨ kd = "call") ∧ ∃ zs, r = [.tuple zs]) ∨ ((kd = "let" ∨ kd = "each" ∨ kd = "want") ∧ ∃ x y, r = [x, y]) := by
  have h : (bodyK.contains kd && bodyD none kd d1 r) = true := h
  rw [Bool.and_eq_true] at h
  have hm := List.contains_iff_mem.mp h.1
  have h2 := h.2
  simp only [bodyK, List.mem_cons, List.not_mem_nil, or_false] at hm
  have two : r.length = 2 → ∃ x y, r = [x, y] := fun e => by
    match r, e with
    | [x, y], _ => exact ⟨x, y, rfl⟩
  rcases hm with rfl | rfl | rfl | rfl | rfl | rfl | rfl
  · unfold bodyD at h2
    rw [if_pos rfl, Bool.and_eq_true, decide_eq_true_eq] at h2
    exact .inl ⟨.inl rfl, List.length_eq_zero_iff.mp h2.1⟩
  · exact .inr (.inl ⟨.inl rfl, body_row h2 (.inl rfl)⟩)
  · unfold bodyD at h2
    rw [if_neg (by decide +kernel), if_neg (by decide +kernel), if_neg (by decide +kernel), if_neg (by decide +kernel), if_neg (by decide +kernel), Bool.and_eq_true, decide_eq_true_eq] at h2
    exact .inr (.inr ⟨.inl rfl, two h2.1⟩)
  · unfold bodyD at h2
    rw [if_neg (by decide +kernel), if_neg (by decide +kernel), if_neg (by decide +kernel), if_neg (by decide +kernel), if_neg (by decide +kernel), Bool.and_eq_true, decide_eq_true_eq] at h2
    exact .inr (.inr ⟨.inr (.inl rfl), two h2.1⟩)
  · exact .inr (.inl ⟨.inr rfl, body_row h2 (.inr rfl)⟩)
  · unfold bodyD at h2
    rw [if_neg (by decide +kernel), if_pos rfl, Bool.and_eq_true, decide_eq_true_eq] at h2
    exact .inl ⟨.inr rfl, List.length_eq_zero_iff.mp h2.1⟩
  · unfold bodyD at h2
    rw [if_neg (by decide +kernel), if_neg (by decide +kernel), if_neg (by decide +kernel), if_neg (by decide +kernel), if_pos rfl, Bool.and_eq_true, decide_eq_true_eq] at h2
    exact .inr (.inr ⟨.inr (.inr rfl), two h2.1⟩)
theorem has_str {l : List Str} {z : Str} (h : z ∈ l) : inV (.str z) (l.map V.str) = true := by
  rw [inV_str]
  exact List.contains_iff_mem.mpr h
theorem no_str {l : List Str} {z : Str} (h : z ∉ l) : inV (.str z) (l.map V.str) = false := by
  rw [inV_str]
  cases e : l.contains z with
  | false => rfl
  | true => exact absurd (List.contains_iff_mem.mp e) h
/-- a new list of things that stood in H -/
def NewL (b : Addr) (H : Hp) (ds : List PyData) (Q : VK) : Prop := ∀ (p : Addr) (F : List V) (H' : Hp), Same H H' → H p = none → H' p = some (.lst F) → DqAll b H' F ds → Q (.ref p) H'
def spInn : Sp := fun vs H Q _ => ∃ (b : Addr) (v : V) (d : PyData), vs = [v] ∧ Dq b H v d ∧ Pb d = true ∧ NewL b H (inner d) Q
def spAll (m : Nat) : Sp := fun vs H Q _ => ∃ (b : Addr) (v : V) (d : PyData), vs = [v] ∧ Dq b H v d ∧ gb d = true ∧ d.depth < m ∧ wt d ≤ 500 ∧ NewL b H (pre d) Q
def spDeep (m : Nat) : Sp := fun vs H Q _ => ∃ (b : Addr) (v : V) (d : PyData), vs = [v] ∧ Dq b H v d ∧ gb d = true ∧ d.depth < m ∧ wt d ≤ 500 ∧ ∀ H', Same H H' → Q (.int (dep d : Nat)) H'
theorem gb_inner {d c : PyData} (h : gb d = true) (hc : c ∈ inner d) : gb c = true := by
  have h : goodF Pb d = true := h
  rw [goodF_eq, Bool.and_eq_true, List.all_eq_true] at h
  exact h.2 c hc
theorem inner_wt {d c : PyData} (hc : c ∈ inner d) : wt c ≤ wt d := by
  have := wt_mem hc
  have := (inner_sub d).2.1
  omega
section
variable {P : Program} {w : World} {K : PySem.W.Frag} {mg : Str → Option Value} {base : Heap}
theorem ok_l_within {k : Nat} (T : TP K mg) : FnOk P w K mg base CX0 (k + 1) T.d_l_within.f T.d_l_within.fd ["_law_value"] spInn := by
  refine T.d_l_within.F.ok sc_l_within (fun vs H Q E h => ?_) (fun cdv A outer s H vs Q E hr h => ?_)
  · obtain ⟨b, v, d, rfl, _⟩ := h
    rfl
  · obtain ⟨b, v, d, rfl, dq, hp, q⟩ := h
    refine ⟨_, (pss_cons (ps_if (pt_cmpR op_in_seq (pe_ix ix_tup (pv 0) pe_int (fun _ _ => rfl)) (pe_tup (pa_cons pe_str (pa_cons pe_str pa_nil))) (by with_unfolding_all rfl))
      (pss_one (ps_ret (pe_lst pa_nil)))
      pss_nil)
    (pss_one (ps_ret (pe_ifExp (pt_cmpR op_in_seq (pe_ix ix_tup (pv 0) pe_int (fun _ _ => rfl)) (pe_tup (pa_cons pe_str (pa_cons pe_str pa_nil))) (by with_unfolding_all rfl)) (pe_callTy call_list_of (by rfl) T.n_list (by decide +kernel) (pa_cons (pe_ix ix_tup (pv 0) pe_int (fun _ _ => rfl)) pa_nil)) (pe_lst (pa_cons (pe_ix ix_tup (pv 0) pe_int (fun _ _ => rfl)) (pa_cons (pe_ix ix_tup (pv 0) pe_int (fun _ _ => rfl)) pa_nil))))))), ?_⟩
    obtain ⟨a, kd, d1, r, v1, vr, rfl, rfl, h1, g1, g2, hb⟩ := part_at dq hp
    refine ⟨_, rfl, a, _, _, .str kd, rfl, rfl, SqT.of h1, at0, (by show 2 ≤ sizeLine; decide), fun p np => ?_⟩
    have s1 := same_new (o := .tup [.str "name", .str "hole"]) np
    refine ⟨p, _, rfl, .inr (SqT.of upd_same), rfl, rfl, _, rfl, ?_⟩
    show if inV (.str kd) ((["name", "hole"] : List Str).map V.str) = true then _ else _
    have h1' := s1 _ _ h1
    generalize upd H p (.tup [.str "name", .str "hole"]) = H1 at s1 h1' ⊢
    rcases shape3 hp with ⟨hk, rfl⟩ | ⟨hk, zs, rfl⟩ | ⟨hk, x, y, rfl⟩
    · rw [has_str (by rcases hk with rfl | rfl <;> simp)]
      refine iteT ⟨Nat.zero_le _, fun p3 np3 => ?_⟩
      refine q p3 [] _ (s1.trans (same_new np3)) (fresh_same s1 np3) upd_same ?_
      rw [inner_eq, if_neg (by rcases hk with rfl | rfl <;> decide +kernel), if_neg (by rcases hk with rfl | rfl <;> decide +kernel)]
      exact .nil
    · rw [no_str (by rcases hk with rfl | rfl <;> decide +kernel)]
      refine iteF ?_
      refine ⟨_, rfl, a, _, _, .str kd, rfl, rfl, SqT.of h1', at0, (by show 2 ≤ sizeLine; decide), fun p4 np4 => ?_⟩
      have s4 := same_new (o := .tup [.str "op", .str "call"]) np4
      refine ⟨p4, _, rfl, .inr (SqT.of upd_same), rfl, rfl, _, rfl, ?_⟩
      show if inV (.str kd) ((["op", "call"] : List Str).map V.str) = true then _ else _
      rw [has_str (by rcases hk with rfl | rfl <;> simp)]
      refine iteT ?_
      have s14 := s1.trans s4
      have h4 := s14 _ _ h1
      generalize upd H1 p4 (.tup [.str "op", .str "call"]) = H4 at s14 h4 ⊢
      match vr, g2 with
      | [v2], .cons k2 .nil =>
        obtain ⟨a2, xs, rfl, m1, m2⟩ := Dq.ref_tup k2
        refine ⟨_, rfl, a, _, _, .ref a2, rfl, rfl, SqT.of h4, at2, a2, xs, rfl, .inr (SqT.of (s14 _ _ m1)), fun p3 np3 => ?_⟩
        refine q p3 xs _ (s14.trans (same_new np3)) (fresh_same s14 np3) upd_same ?_
        rw [inner_eq, if_pos hk]
        exact DqAll.same (s14.trans (same_new np3)) _ _ m2
    · rw [no_str (by rcases hk with rfl | rfl | rfl <;> decide +kernel)]
      refine iteF ?_
      refine ⟨_, rfl, a, _, _, .str kd, rfl, rfl, SqT.of h1', at0, (by show 2 ≤ sizeLine; decide), fun p4 np4 => ?_⟩
      have s4 := same_new (o := .tup [.str "op", .str "call"]) np4
      refine ⟨p4, _, rfl, .inr (SqT.of upd_same), rfl, rfl, _, rfl, ?_⟩
      show if inV (.str kd) ((["op", "call"] : List Str).map V.str) = true then _ else _
      rw [no_str (by rcases hk with rfl | rfl | rfl <;> decide +kernel)]
      refine iteF ?_
      have s14 := s1.trans s4
      have h4 := s14 _ _ h1
      show tLst _ _ (upd H1 p4 (.tup [.str "op", .str "call"])) _
      generalize upd H1 p4 (.tup [.str "op", .str "call"]) = H4 at s14 h4 ⊢
      match vr, g2 with
      | [v2, v3], .cons k2 (.cons k3 .nil) =>
        refine ⟨_, rfl, a, _, _, v2, rfl, rfl, SqT.of h4, at2, _, rfl, a, _, _, v3, rfl, rfl, SqT.of h4, at3, (by show 2 ≤ sizeLine; decide), fun p3 np3 => ?_⟩
        refine q p3 [v2, v3] _ (s14.trans (same_new np3)) (fresh_same s14 np3) upd_same ?_
        rw [inner_eq, if_neg (by rcases hk with rfl | rfl | rfl <;> decide +kernel), if_pos hk]
        exact DqAll.same (s14.trans (same_new np3)) _ _ (.cons k2 (.cons k3 .nil))
theorem ok_l_all (T : TP K mg) : ∀ m : Nat, FnOk P w K mg base CX0 (m + 2) T.d_l_all.f T.d_l_all.fd ["_law_value"] (spAll m)
  | 0 => by
    refine T.d_l_all.F.ok sc_l_all (fun vs H Q E h => ?_) (fun cdv A outer s H vs Q E hr h => ?_)
    · obtain ⟨b, v, d, rfl, _⟩ := h
      rfl
    · obtain ⟨b, v, d, rfl, _, _, hd, _⟩ := h
      exact absurd hd (Nat.not_lt_zero _)
  | m + 1 => by
    have G_l_within : FnOk P w K mg base CX0 1 T.d_l_within.f T.d_l_within.fd ["_law_value"] spInn := ok_l_within T
    have G_l_all := ok_l_all T m
    refine T.d_l_all.F.ok sc_l_all (fun vs H Q E h => ?_) (fun cdv A outer s H vs Q E hr h => ?_)
    · obtain ⟨b, v, d, rfl, _⟩ := h
      rfl
    · obtain ⟨b, v, d, rfl, dq, g, hd, hw, q⟩ := h
      refine ⟨_, (pss_cons (ps_set (i := 1) sc_l_all.nd rfl (.inl rfl) (pe_lst (pa_cons (pv 0) pa_nil)))
    (pss_cons (ps_for PassesOwn.never rfl (pi_list (pe_call G_l_within (hr.mono (by omega)) (by rfl) T.d_l_within.g T.d_l_within.F.kp T.d_l_within.b .nil pass0 (pa_cons (pv 0) pa_nil))) (pg_name (i := 2) sc_l_all.nd rfl (.inl rfl))
      (pss_one (ps_set (i := 1) sc_l_all.nd rfl (.inl rfl) (pe_op op_cat (pv 1) (pe_call G_l_all (hr.mono (by omega)) (by rfl) T.d_l_all.g T.d_l_all.F.kp T.d_l_all.b .nil pass0 (pa_cons (pv 2) pa_nil))))))
    (pss_one (ps_ret (pv 1))))), ?_⟩
      refine ⟨_, rfl, (by show 1 ≤ sizeLine; decide), fun p1 np1 => ?_⟩
      have s1 := same_new (o := .lst [v]) np1
      have hp1 : (upd H p1 (.lst [v])) p1 = some (.lst [v]) := upd_same
      show tSeq _ _ _ _ (upd H p1 (.lst [v]))
      generalize upd H p1 (.lst [v]) = H1 at s1 hp1 ⊢
      refine ⟨_, rfl, b, v, d, rfl, Dq.same s1 _ _ dq, gb_part g, fun pw ws H2 s12 npw hpw hws => ?_⟩
      have s2 := s1.trans s12
      refine ⟨pw, rfl, ⟨_, SqL.of hpw⟩, for_list (K := K) (a := pw) (xs := ws) (fun i σ H5 => ∃ t2 pf F, σ = [some v, some (.ref pf), t2] ∧ H5 pf = some (.lst F) ∧ H pf = none ∧ DqAll b H5 F (d :: ((inner d).take i).flatMap pre) ∧ Same H2 H5) ?_ ?_ ?_ ?_⟩
      · exact ⟨none, p1, [v], rfl, s12 _ _ hp1, np1, .cons (Dq.same s2 _ _ dq) .nil, fun _ _ z => z⟩
      · rintro i σ H5 _ ⟨_, _, _, _, _, _, _, s5⟩
        exact SqL.of (s5 _ _ hpw)
      · rintro i u σ H5 hu ⟨t2, pf, F, rfl, hpf, npf, hF, s5⟩
        have hi := (List.getElem?_eq_some_iff.mp hu).1
        have hiz : i < (inner d).length := by
          rw [← hws.len]
          exact hi
        have e := List.getElem?_eq_getElem hiz
        obtain ⟨u2, w1, w2⟩ := hws.get e
        rw [hu] at w1
        cases w1
        have mem : (inner d)[i] ∈ inner d := List.getElem_mem hiz
        have lt := lt_inner mem
        have lw := inner_wt mem
        refine ⟨_, rfl, _, rfl, b, u, (inner d)[i], rfl, Dq.same s5 _ _ w2, gb_inner g mem, by omega, by omega, fun p2 F2 H6 s6 np2 hp2 hF2 => ?_⟩
        have l1 := hF.len
        have l2 := hF2.len
        have z1 := pre_len (inner d)[i]
        have z2 : (d :: ((inner d).take i).flatMap pre).length ≤ wt d := by
          have z := pre_len d
          rw [pre_eq] at z
          have le : (((inner d).take i).flatMap pre).length ≤ ((inner d).flatMap pre).length := by
            conv => rhs; rw [← List.take_append_drop i (inner d), List.flatMap_append, List.length_append]
            omega
          simp only [List.length_cons] at z ⊢
          omega
        refine ⟨pf, p2, F, F2, rfl, rfl, s6 _ _ hpf, hp2, sz100 (by omega), fun p6 n6 => ?_⟩
        have s7 := same_new (o := .lst (F ++ F2)) n6
        have s67 := s6.trans s7
        refine ⟨_, p6, F ++ F2, rfl, upd_same, fresh_same (s2.trans (s5.trans s6)) n6, ?_, s5.trans s67⟩
        rw [take_snoc e, List.flatMap_append, List.flatMap_cons, List.flatMap_nil, List.append_nil, ← List.cons_append]
        exact (DqAll.same s67 _ _ hF).append (DqAll.same s7 _ _ hF2)
      · rintro σ H5 ⟨t2, pf, F, rfl, hpf, npf, hF, s5⟩
        rw [hws.len, List.take_length, ← pre_eq] at hF
        exact ⟨_, rfl, q pf F H5 (s2.trans s5) npf hpf hF⟩
theorem ok_l_deep (T : TP K mg) : ∀ m : Nat, FnOk P w K mg base CX0 (m + 2) T.d_l_deep.f T.d_l_deep.fd ["_law_value"] (spDeep m)
  | 0 => by
    refine T.d_l_deep.F.ok sc_l_deep (fun vs H Q E h => ?_) (fun cdv A outer s H vs Q E hr h => ?_)
    · obtain ⟨b, v, d, rfl, _⟩ := h
      rfl
    · obtain ⟨b, v, d, rfl, _, _, hd, _⟩ := h
      exact absurd hd (Nat.not_lt_zero _)
  | m + 1 => by
    have G_l_within : FnOk P w K mg base CX0 1 T.d_l_within.f T.d_l_within.fd ["_law_value"] spInn := ok_l_within T
    have G_l_deep := ok_l_deep T m
    refine T.d_l_deep.F.ok sc_l_deep (fun vs H Q E h => ?_) (fun cdv A outer s H vs Q E hr h => ?_)
    · obtain ⟨b, v, d, rfl, _⟩ := h
      rfl
    · obtain ⟨b, v, d, rfl, dq, g, hd, hw, q⟩ := h
      refine ⟨_, (pss_one (ps_ret (pe_op op_add pe_int (pe_callB (cr_max rfl) (by rfl) T.n_max (by decide +kernel) (pa_cons (pe_op op_cat (pe_lst (pa_cons pe_int pa_nil)) (pe_lc (own := [("_law_part", 1)]) (g := gName 1) (tt := tYes) (by rfl) sc_l_deep.nd (pi_list (pe_call G_l_within (hr.mono (by omega)) (by rfl) T.d_l_within.g T.d_l_within.F.kp T.d_l_within.b .nil pass0 (pa_cons (pv 0) pa_nil))) (blkOk_by (own := [("_law_part", 1)]) (N := N_l_deep) (sc := defScope s_l_deep) (by decide +kernel)) (fun _ _ _ _ _ => pg_name (i := 1) sc_l_deep.nd rfl (Or.inl rfl)) (fun _ _ _ _ _ => pts_nil) (fun _ _ _ _ _ => (pe_call G_l_deep (hr.mono (by omega)) (by rfl) T.d_l_deep.g T.d_l_deep.F.kp T.d_l_deep.b .nil pass0 (pa_cons (pv 1) pa_nil))))) pa_nil))))), ?_⟩
      refine ⟨(by show 1 ≤ sizeLine; decide), fun p0 np0 => ?_⟩
      have s1 := same_new (o := .lst [.int 0]) np0
      have hp0 : (upd H p0 (.lst [.int 0])) p0 = some (.lst [.int 0]) := upd_same
      refine ⟨_, rfl, b, v, d, rfl, Dq.same s1 _ _ dq, gb_part g, fun pw ws H2 s12 npw hpw hws => ?_⟩
      have s2 := s1.trans s12
      have hp02 := s12 _ _ hp0
      have sub := inner_sub d
      refine ⟨pw, rfl, ⟨_, SqL.of hpw⟩, fun D nD => ?_⟩
      refine lc_list (K := K) (a := pw) (xs := ws) (fun i H5 => H5 D = some (.lst (((inner d).take i).map fun c => V.int ((dep c : Nat) : Int))) ∧ Same H2 H5) ⟨upd_same, same_new nD⟩ (fun i H5 _ z => SqL.of (z.2 _ _ hpw)) ?_ ?_
      · rintro i u H5 hu ⟨hD, s5⟩
        have hi := (List.getElem?_eq_some_iff.mp hu).1
        have hiz : i < (inner d).length := by
          rw [← hws.len]
          exact hi
        have e := List.getElem?_eq_getElem hiz
        obtain ⟨u2, w1, w2⟩ := hws.get e
        rw [hu] at w1
        cases w1
        have mem : (inner d)[i] ∈ inner d := List.getElem_mem hiz
        have lt := lt_inner mem
        have lw := inner_wt mem
        refine ⟨rfl, yes_at ⟨_, rfl, b, u, (inner d)[i], rfl, Dq.same s5 _ _ w2, gb_inner g mem, by omega, by omega, fun H6 s6 => ?_⟩⟩
        refine ⟨_, s6 _ _ hD, ?_, ?_, fun a o z => ?_⟩
        · rw [List.length_map, List.length_take]
          exact Nat.lt_of_le_of_lt (show min i (inner d).length ≤ 1000 by omega) (by decide)
        · rw [upd_same, take_snoc e, List.map_append]
          rfl
        · rw [upd_ne (ne_of_none z nD)]
          exact s6 _ _ (s5 _ _ z)
      · rintro H5 ⟨hD, s5⟩
        rw [hws.len, List.take_length] at hD
        refine ⟨p0, D, _, _, rfl, rfl, s5 _ _ hp02, hD, sz100 (by rw [List.length_map, List.length_singleton]; omega), fun pz nz => ?_⟩
        have s6 := same_new (o := .lst ([V.int 0] ++ ((inner d).map fun c => V.int ((dep c : Nat) : Int)))) nz
        refine ⟨pz, 0 :: (inner d).map fun c => ((dep c : Nat) : Int), rfl, ?_, ?_, fun mx hm hle => ?_⟩
        · rw [List.map_cons, List.map_map]
          exact SqL.of upd_same
        · rw [List.length_cons]
          exact Nat.zero_lt_succ _
        · have em : ((dep d : Nat) : Int) = 1 + mx := by
            rw [dep_eq]
            obtain ⟨k, rfl⟩ : ∃ k : Nat, mx = k := by
              rcases List.mem_cons.mp hm with rfl | hm
              · exact ⟨0, rfl⟩
              · obtain ⟨c, _, rfl⟩ := List.mem_map.mp hm
                exact ⟨_, rfl⟩
            have : maxL ((inner d).map dep) = k := by
              refine Nat.le_antisymm (maxL_le.mpr fun x hx => ?_) ?_
              · obtain ⟨c, hc, rfl⟩ := List.mem_map.mp hx
                have := hle ((dep c : Nat) : Int) (List.mem_cons_of_mem _ (List.mem_map.mpr ⟨c, hc, rfl⟩))
                omega
              · rcases List.mem_cons.mp hm with e | hm
                · have : k = 0 := by omega
                  omega
                · obtain ⟨c, hc, e⟩ := List.mem_map.mp hm
                  have : dep c = k := by omega
                  rw [← this]
                  exact maxL_le.mp (Nat.le_refl _) _ (List.mem_map.mpr ⟨c, hc, rfl⟩)
            rw [this]
            omega
          have q := q _ (s2.trans (s5.trans s6))
          rw [em] at q
          exact ⟨_, _, rfl, rfl, q⟩
end
end K12
set_option Elab.async false
set_option linter.all false
set_option maxRecDepth 100000
namespace K12
open PySem PySem.Spec PyProof.Rows L2 CaV CaL CaN CaD
theorem cut_take (ds : List PyData) {i : Int} (h0 : 0 ≤ i) (h1 : i ≤ ds.length) : CaD.cutD ds none (some i) = ds.take i.toNat := by
  unfold CaD.cutD
  rw [sIx_pos h0]
  show (ds.drop 0).take (min i.toNat ds.length - 0) = _
  rw [show min i.toNat ds.length - 0 = i.toNat by omega, List.drop_zero]
theorem cut_drop (ds : List PyData) {i : Int} (h0 : 0 ≤ i) (h1 : i ≤ ds.length) : CaD.cutD ds (some i) none = ds.drop i.toNat := by
  unfold CaD.cutD
  rw [sIx_pos h0]
  show (ds.drop (min i.toNat ds.length)).take (ds.length - min i.toNat ds.length) = _
  rw [show min i.toNat ds.length = i.toNat by omega]
  exact List.take_of_length_le (by rw [List.length_drop]; omega)
theorem wt_split : ∀ (ds : List PyData) (i : Nat) (h : i < ds.length), wtAll (ds.take i) + wt ds[i] + wtAll (ds.drop (i + 1)) = wtAll ds
  | d :: ds, 0, _ => by simp [wtAll]
  | d :: ds, i + 1, h => by
    have := wt_split ds i (by simpa using h)
    simp only [List.take_succ_cons, List.drop_succ_cons, wtAll, List.getElem_cons_succ]
    omega
def pureL : PyData → Bool
  | .list ds => pureAll ds
  | _ => true
def isL : PyData → Bool
  | .list _ => true
  | _ => false
/-- no body, within bounds -/
def oddB (W D : Nat) (d : PyData) : Bool := !gb d && (fine d && (decide (wt d ≤ W) && (decide (d.depth ≤ D) && pureL d)))
theorem oddB_iff {W D : Nat} {d : PyData} : oddB W D d = true ↔ gb d = false ∧ fine d = true ∧ wt d ≤ W ∧ d.depth ≤ D ∧ pureL d = true := by
  unfold oddB
  simp only [Bool.and_eq_true, Bool.not_eq_true', decide_eq_true_eq]
def oneD : PyData := .tuple [.str "name", .str "x"]
def badL : List PyData := [.tuple [.str "name", .str "abcdefg"], .tuple [.str "name", .str "let"], .tuple [.str "op", .str "f", .list [.tuple [.str "name", .str "x"]]], .tuple [.str "op", .str "f", .tuple [.tuple [.str "name", .str "x"], .tuple [.str "name", .str "x"], .tuple [.str "name", .str "x"], .tuple [.str "name", .str "x"]]], .tuple [.str "op", .str "in", .tuple []], .tuple [.str "let", .str "x", .tuple [.str "name", .str "x"]], .tuple [.str "name", .int 7], .list [.str "name", .str "x"], .none, .tuple [.str "each", .str "$", .tuple [.str "name", .str "x"], .tuple [.str "name", .str "x"]], .tuple [.str "hole", .str "?h"], .tuple [.str "op", .str "f", .tuple [.str "name", .str "x"]]]
theorem badL_odd : ∀ d ∈ badL, oddB 20 3 d = true := by decide +kernel
theorem bad_row {kd : Str} {d1 e : PyData} {zs : List PyData} {i : Nat} (hk : kd = "op" ∨ kd = "call") (h : gb e = false) : gb (.tuple [.str kd, d1, .tuple (zs.take i ++ [e] ++ zs.drop (i + 1))]) = false := by
  show goodF Pb _ = false
  rw [goodF_eq, inner_eq, if_pos hk]
  show (_ && List.all (zs.take i ++ [e] ++ zs.drop (i + 1)) (goodF Pb)) = false
  rw [List.all_append, List.all_append, List.all_cons, show goodF Pb e = false from h]
  simp
theorem bad_bind {kd : Str} {d1 e : PyData} {zs : List PyData} {i : Nat} (hk : kd = "let" ∨ kd = "each" ∨ kd = "want") (h : gb e = false) : gb (.tuple (.str kd :: d1 :: (zs.take i ++ [e] ++ zs.drop (i + 1)))) = false := by
  show goodF Pb _ = false
  rw [goodF_eq, inner_eq, if_neg (by rcases hk with rfl | rfl | rfl <;> decide +kernel), if_pos hk]
  rw [List.all_append, List.all_append, List.all_cons, show goodF Pb e = false from h]
  simp
theorem cut_two (d0 d1 : PyData) (r : List PyData) : CaD.cutD (d0 :: d1 :: r) none (some 2) = [d0, d1] := by
  rw [cut_take _ (by decide) (by simp only [List.length_cons]; omega)]
  rfl
theorem cut_rest (d0 d1 : PyData) (r : List PyData) : CaD.cutD (d0 :: d1 :: r) (some 2) none = r := by
  rw [cut_drop _ (by decide) (by simp only [List.length_cons]; omega)]
  rfl
theorem rest_inner {kd : Str} {d1 : PyData} {r : List PyData} (hp : Pb (.tuple (.str kd :: d1 :: r)) = true) (hk : ¬ (kd = "op" ∨ kd = "call")) : inner (.tuple (.str kd :: d1 :: r)) = r := by
  rcases shape3 hp with ⟨h, rfl⟩ | ⟨h, _⟩ | ⟨h, _⟩
  · rw [inner_eq, if_neg hk, if_neg (by rcases h with rfl | rfl <;> decide +kernel)]
  · exact absurd h hk
  · rw [inner_eq, if_neg hk, if_pos h]
def spBad (m : Nat) : Sp := fun vs H Q _ => ∃ (b : Addr) (n : Nat) (v : V) (d : PyData), vs = [.ref b, v] ∧ Bx H b n ∧ n + 3 * m + 10 < 880000 ∧ Dq b H v d ∧ gb d = true ∧ fine d = true ∧ wt d ≤ 500 ∧ d.depth < m ∧
  ∀ (u : V) (e : PyData) (H' : Hp), Kp b H H' → Bx H' b (n + 3 * m + 3) → Dq b H' u e → oddB (wt d + 20) (d.depth + 3) e = true → (isL e = true → ∀ p, u = .ref p → H p = none) → Q u H'
section
variable {P : Program} {w : World} {K : PySem.W.Frag} {mg : Str → Option Value} {base : Heap}
theorem false_ok {k : Nat} {f : Addr} {fd : FuncData} {ps : List Str} : FnOk P w K mg base CX0 k f fd ps (fun _ _ _ _ => False) := by
  constructor
  · intro vs H Q E h
    exact h.elim
  · intros
    contradiction
set_option maxHeartbeats 4000000 in
theorem bad_step (T : TP K mg) (m k : Nat) (sp : Sp) (G_l_bad : FnOk P w K mg base CX0 (k + 2) T.d_l_bad.f T.d_l_bad.fd ["_law_purse_here", "_law_value"] sp) (hsp : ∀ m', m = m' + 1 → sp = spBad m') : FnOk P w K mg base CX0 (k + 3) T.d_l_bad.f T.d_l_bad.fd ["_law_purse_here", "_law_value"] (spBad m) := by
  have G_l_take : FnOk P w K mg base CX0 1 T.d_l_take.f T.d_l_take.fd ["_law_purse_here", "_law_many"] spTake := ok_take T
  refine T.d_l_bad.F.ok (k := k + 2) sc_l_bad (fun vs H Q E h => ?_) (fun cdv A outer s H vs Q E hr h => ?_)
  · obtain ⟨b, n, v, d, rfl, _⟩ := h
    rfl
  · obtain ⟨b, n, v, d, rfl, bx, hn, dq, g, fd_, hw, hd, q⟩ := h
    refine ⟨_, (pss_cons (ps_set (i := 2) sc_l_bad.nd rfl (.inl rfl) (pe_ifExp (pt_cmpR op_in_seq (pe_ix ix_tup (pv 1) pe_int (fun _ _ => rfl)) (pe_tup (pa_cons pe_str (pa_cons pe_str pa_nil))) (by with_unfolding_all rfl)) (pe_ix ix_tup (pv 1) pe_int (fun _ _ => rfl)) (pe_slice sl_tupA (pv 1) (po_some pe_int) po_none)))
    (pss_cons (ps_if (PW.pt (pw_and (pt_cmpR op_gt (pe_callB call_len_seq (by rfl) T.n_len PySem.boot_len (pa_cons (pv 2) pa_nil)) pe_int (nomark _)) (pw_and1 (pt_cmpR op_gt (pe_call G_l_take (hr.mono (by omega)) (by rfl) T.d_l_take.g T.d_l_take.F.kp T.d_l_take.b .nil pass0 (pa_cons (pv 0) (pa_cons pe_int pa_nil))) pe_int (nomark _)))))
      (pss_cons (ps_set (i := 3) sc_l_bad.nd rfl (.inl rfl) (pe_call G_l_take (hr.mono (by omega)) (by rfl) T.d_l_take.g T.d_l_take.F.kp T.d_l_take.b .nil pass0 (pa_cons (pv 0) (pa_cons (pe_callB call_len_seq (by rfl) T.n_len PySem.boot_len (pa_cons (pv 2) pa_nil)) pa_nil))))
      (pss_cons (ps_set (i := 4) sc_l_bad.nd rfl (.inl rfl) (pe_op op_catA (pe_op op_catA (pe_slice sl_tupA (pv 2) po_none (po_some (pv 3))) (pe_tup (pa_cons (pe_call G_l_bad (hr.mono (by omega)) (by rfl) T.d_l_bad.g T.d_l_bad.F.kp T.d_l_bad.b .nil pass0 (pa_cons (pv 0) (pa_cons (pe_ix ix_tup (pv 2) (pv 3) (fun _ _ => rfl)) pa_nil))) pa_nil))) (pe_slice sl_tupA (pv 2) (po_some (pe_op op_add (pv 3) pe_int)) po_none)))
      (pss_one (ps_ret (pe_op op_catA (pe_slice sl_tupA (pv 1) po_none (po_some pe_int)) (pe_ifExp (pt_cmpR op_in_seq (pe_ix ix_tup (pv 1) pe_int (fun _ _ => rfl)) (pe_tup (pa_cons pe_str (pa_cons pe_str pa_nil))) (by with_unfolding_all rfl)) (pe_tup (pa_cons (pv 4) pa_nil)) (pv 4)))))))
      pss_nil)
    (pss_cons (ps_set (i := 5) sc_l_bad.nd rfl (.inl rfl) (pe_tup (pa_cons pe_str (pa_cons pe_str pa_nil))))
    (pss_cons (ps_set (i := 6) sc_l_bad.nd rfl (.inl rfl) (pe_lst (pa_cons (pe_tup (pa_cons pe_str (pa_cons pe_str pa_nil))) (pa_cons (pe_tup (pa_cons pe_str (pa_cons pe_str pa_nil))) (pa_cons (pe_tup (pa_cons pe_str (pa_cons pe_str (pa_cons (pe_lst (pa_cons (pv 5) pa_nil)) pa_nil)))) (pa_cons (pe_tup (pa_cons pe_str (pa_cons pe_str (pa_cons (pe_op op_repT (pe_tup (pa_cons (pv 5) pa_nil)) pe_int) pa_nil)))) (pa_cons (pe_tup (pa_cons pe_str (pa_cons pe_str (pa_cons (pe_tup pa_nil) pa_nil)))) pa_nil)))))))
    (pss_cons (ps_set (i := 6) sc_l_bad.nd rfl (.inl rfl) (pe_op op_cat (pv 6) (pe_lst (pa_cons (pe_tup (pa_cons pe_str (pa_cons pe_str (pa_cons (pv 5) pa_nil)))) (pa_cons (pe_tup (pa_cons pe_str (pa_cons pe_int pa_nil))) (pa_cons (pe_lst (pa_cons pe_str (pa_cons pe_str pa_nil))) (pa_cons pe_non (pa_cons (pe_tup (pa_cons pe_str (pa_cons pe_str (pa_cons (pv 5) (pa_cons (pv 5) pa_nil))))) (pa_cons (pe_tup (pa_cons pe_str (pa_cons pe_str pa_nil))) pa_nil)))))))))
    (pss_one (ps_ret (pe_ix ix_list (pe_op op_cat (pv 6) (pe_lst (pa_cons (pe_tup (pa_cons pe_str (pa_cons pe_str (pa_cons (pv 5) pa_nil)))) pa_nil))) (pe_call G_l_take (hr.mono (by omega)) (by rfl) T.d_l_take.g T.d_l_take.F.kp T.d_l_take.b .nil pass0 (pa_cons (pv 0) (pa_cons pe_int pa_nil))) (fun _ _ => rfl))))))))), ?_⟩
    have hp := gb_part g
    have hdm := hd
    have sub := inner_sub d
    obtain ⟨a, kd, d1, r, v1, vr, rfl, rfl, h1, g1, g2, hb⟩ := part_at dq hp
    refine ⟨_, rfl, a, _, _, .str kd, rfl, rfl, SqT.of h1, at0, (by show 2 ≤ sizeLine; decide), fun p4 np4 => ?_⟩
    have s4 := same_new (o := .tup [.str "op", .str "call"]) np4
    refine ⟨p4, _, rfl, .inr (SqT.of upd_same), rfl, rfl, _, rfl, ?_⟩
    show if inV (.str kd) ((["op", "call"] : List Str).map V.str) = true then _ else _
    generalize upd H p4 (.tup [.str "op", .str "call"]) = H0 at s4 ⊢
    have dq0 := Dq.same s4 _ _ dq
    have bx0 := bx.same s4
    have hcur : DqAll b H (.str kd :: v1 :: vr) (.str kd :: d1 :: r) := .cons (.str _) (.cons g1 g2)
    obtain ⟨ds0, hds0⟩ : ∃ ds0, ds0 = (.str kd :: d1 :: r : List PyData) := ⟨_, rfl⟩
    by_cases hk : kd = "op" ∨ kd = "call"
    case' pos =>
      rw [has_str (by rcases hk with rfl | rfl <;> simp)]
      obtain ⟨zs, er⟩ := body_row hb hk
      have ein : inner (.tuple (.str kd :: d1 :: r)) = zs := by
        rw [inner_eq, if_pos hk, er]
        rfl
      rw [er] at g2
      obtain ⟨v2, ev, k2⟩ : ∃ v2, vr = [v2] ∧ Dq b H v2 (.tuple zs) := by
        cases g2 with
        | cons a1 a2 =>
          cases a2
          exact ⟨_, rfl, a1⟩
      obtain ⟨ap, xs, e2, m1, m2⟩ := Dq.ref_tup k2
      rw [ev, e2] at h1
      refine iteT ⟨_, rfl, a, _, _, .ref ap, rfl, rfl, SqT.of (s4 _ _ h1), at2, ?_⟩
      have dp : Dq b H0 (.ref ap) (.tuple zs) := Dq.same s4 _ _ (.tup m1 m2)
      have sp0 : Same H H0 := s4
      have hap : H0 ap = some (.tup xs) := s4 _ _ m1
      generalize H0 = H1 at dp sp0 hap dq0 bx0 ⊢
    case' neg =>
      rw [no_str (by simpa using hk)]
      obtain ⟨zs, er⟩ : ∃ zs, r = zs := ⟨_, rfl⟩
      have ein := (rest_inner hp hk).trans er
      refine iteF ⟨_, rfl, _, rfl, ?_⟩
      refine sliceF dq0 fun ap H1 s01 dp => ?_
      rw [cut_rest] at dp
      rw [er] at dp
      have dp2 := dp
      obtain ⟨ap2, xs, e2, hap, _⟩ := Dq.ref_tup dp2
      cases e2
      have sp0 : Same H H1 := s4.trans s01
      have dq0 := Dq.same s01 _ _ dq0
      have bx0 := bx0.same s01
    all_goals (
      have dpl := dp
      obtain ⟨_, ys, e3, hap3, hys⟩ := Dq.ref_tup dpl
      cases e3
      rw [hap] at hap3
      cases hap3
      have hl := hys.len
      have lz : zs.length ≤ 500 := by
        have := wtAll_len zs
        rw [ein] at sub
        omega
      refine ⟨_, rfl, ap, _, rfl, .inr (SqT.of hap), _, _, rfl, rfl, _, rfl, ?_⟩
      by_cases c1 : 0 < xs.length
      case' neg =>
        rw [show decide ((xs.length : Int) > 0) = false from decide_eq_false (by omega)]
        refine iteF (iteF ?_)
        have bx2 := bx0
        have k02 : Kp b H H1 := Kp.of_same sp0
        obtain ⟨n2, hn2⟩ : ∃ n2, n2 = n := ⟨_, rfl⟩
        rw [← hn2] at bx2
        obtain ⟨H2, hH2⟩ : ∃ H2, H2 = H1 := ⟨_, rfl⟩
        rw [← hH2] at bx2 k02 ⊢
      case' pos =>
        rw [show decide ((xs.length : Int) > 0) = true from decide_eq_true (by omega)]
        refine iteT ⟨_, rfl, b, _, n, rfl, bx0, by omega, by decide, by decide, fun dd1 H2 l1 u1 bx2 k2' => ⟨_, _, rfl, rfl, _, rfl, ?_⟩⟩
        have k02 := (Kp.of_same (b := b) sp0).trans k2'
        have dq2 := Dq.kp bx0 k2' _ _ dq0
        have dp2 := Dq.kp bx0 k2' _ _ dp
        have hap2 := Tp.kp bx0 k2' _ _ hap
        by_cases c3 : dd1 > 0
        case' neg =>
          rw [decide_eq_false c3]
          refine iteF ?_
          obtain ⟨n2, hn2⟩ : ∃ n2, n2 = n + 1 := ⟨_, rfl⟩
          rw [← hn2] at bx2
        case' pos =>
          rw [decide_eq_true c3]
          refine iteT ?_
          obtain ⟨m', rfl⟩ : ∃ m', m = m' + 1 := ⟨m - 1, by omega⟩
          have hsp := hsp m' rfl
          subst hsp
          refine ⟨_, rfl, _, rfl, ap, _, rfl, .inr (SqT.of hap2), b, _, _, rfl, bx2, by omega, by omega, by omega, fun d2 H3 l3 u3 x3 k3 => ?_⟩
          have k03 := k02.trans k3
          have dq3 := Dq.kp bx2 k3 _ _ dq2
          have dp3 := Dq.kp bx2 k3 _ _ dp2
          have hap3 := Tp.kp bx2 k3 _ _ hap2
          have hys3 := DqAll.kp bx2 k3 _ _ (DqAll.kp bx0 k2' _ _ hys)
          have a2 : d2.toNat < zs.length := by omega
          refine ⟨_, rfl, _, rfl, d2, rfl, ?_⟩
          refine sliceQ dp3 fun c1 H4 s4' e4 => ?_
          have x4 := x3.same s4'
          have hap4 := s4' _ _ hap3
          obtain ⟨u, w1, w2⟩ := hys3.get (List.getElem?_eq_getElem a2)
          have gu : atI xs d2 = some u := by
            have z := atI_nat w1
            rwa [Int.toNat_of_nonneg l3] at z
          have mem : zs[d2.toNat] ∈ inner (.tuple (.str kd :: d1 :: r)) := by
            rw [ein]
            exact List.getElem_mem a2
          have memz : zs[d2.toNat] ∈ zs := List.getElem_mem a2
          have wsp := wt_split zs d2.toNat a2
          have lt := lt_inner mem
          have lw := inner_wt mem
          have fz : fine zs[d2.toNat] = true := inner_fine fd_ mem
          refine ⟨_, rfl, _, rfl, _, rfl, ap, _, _, u, rfl, rfl, SqT.of hap4, gu, b, _, u, _, rfl, x4, by omega, Dq.same s4' _ _ w2, gb_inner g mem, fz, by omega, by omega, fun u5 e5 H5 k5 x5 dv oe _ => ?_⟩
          have oe := oddB_iff.mp oe
          have e4' := Dq.kp x4 k5 _ _ e4
          have dp5 := Dq.kp x4 k5 _ _ (Dq.same s4' _ _ dp3)
          have dq5 := Dq.kp x4 k5 _ _ (Dq.same s4' _ _ dq3)
          refine ⟨(by show 1 ≤ sizeLine; decide), fun pt npt => ?_⟩
          have s6 := same_new (o := .tup [u5]) npt
          refine catQ (Dq.same s6 _ _ e4') (.tup upd_same (.cons (Dq.same s6 _ _ dv) .nil)) (by have := cutD_len zs none (some d2); simp only [List.length_cons, List.length_nil]; omega) fun c2 H7 s7 e7 => ?_
          have s67 := s6.trans s7
          refine ⟨_, rfl, _, rfl, _, _, rfl, rfl, d2 + 1, rfl, ?_⟩
          refine sliceF (Dq.same s67 _ _ dp5) fun c3 H8 s8 e8 => ?_
          refine catQ (Dq.same s8 _ _ e7) e8 (by have := cutD_len zs none (some d2); have := cutD_len zs (some (d2 + 1)) none; simp only [List.length_append, List.length_cons, List.length_nil]; omega) fun c4 H9 s9 e9 => ?_
          have s59 := (s67.trans s8).trans s9
          have ce1 := cut_take zs l3 (by omega)
          have ce2 := cut_drop zs (i := d2 + 1) (by omega) (by omega)
          have cn : (d2 + 1).toNat = d2.toNat + 1 := by omega
          rw [cn] at ce2
          rw [ce1, ce2] at e9
          have k09 := ((k03.trans (Kp.of_same s4')).trans k5).trans (Kp.of_same s59)
          have x9 := x5.same s59
          have dq9 := Dq.same s59 _ _ dq5
          -- value[:2] + ..
          refine ⟨_, rfl, _, rfl, ?_⟩
          refine sliceQ dq9 fun c5 H10 s10 e10 => ?_
          rw [cut_two] at e10
          have dq10 := Dq.same s10 _ _ dq9
          have e9' := Dq.same s10 _ _ e9
          obtain ⟨a0, xs0, ea0, ha0, hx0⟩ := Dq.ref_tup dq10
          cases ea0
          obtain ⟨w0, w1', wr, ew⟩ : ∃ w0 w1 wr, xs0 = w0 :: w1 :: wr := by
            cases hx0 with
            | cons a1 a2 =>
              cases a2 with
              | cons b1 b2 => exact ⟨_, _, _, rfl⟩
          rw [ew] at ha0 hx0
          have ew0 : w0 = .str kd := by
            cases hx0 with
            | cons a1 a2 =>
              cases a1
              rfl
          rw [ew0] at ha0
          refine ⟨_, rfl, a, _, _, .str kd, rfl, rfl, SqT.of ha0, at0, (by show 2 ≤ sizeLine; decide), fun p6 np6 => ?_⟩
          have s11 := same_new (o := .tup [.str "op", .str "call"]) np6
          refine ⟨p6, _, rfl, .inr (SqT.of upd_same), rfl, rfl, _, rfl, ?_⟩
          show if inV (.str kd) ((["op", "call"] : List Str).map V.str) = true then _ else _
          have e10 := Dq.same s11 _ _ e10
          have e9' := Dq.same s11 _ _ e9'
          have k11 := k09.trans (Kp.of_same (s10.trans s11))
          have x11 := x9.same (s10.trans s11)
          generalize upd H10 p6 (.tup [.str "op", .str "call"]) = H11 at e10 e9' k11 x11 ⊢
          have wz : wtAll (zs.take d2.toNat ++ [e5] ++ zs.drop (d2.toNat + 1)) ≤ wtAll zs + 20 := by
            rw [wtAll_append, wtAll_append]
            simp only [wtAll]
            omega
          have fz2 : ∀ x ∈ zs.take d2.toNat ++ [e5] ++ zs.drop (d2.toNat + 1), fine x = true ∧ x.depth ≤ PyData.depthAll zs + 3 := fun x hx => by
            have key : x ∈ zs ∨ x = e5 := by
              rcases List.mem_append.mp hx with hx | hx
              · rcases List.mem_append.mp hx with hx | hx
                · exact .inl (List.mem_of_mem_take hx)
                · exact .inr (List.mem_singleton.mp hx)
              · exact .inl (List.mem_of_mem_drop hx)
            rcases key with hx | rfl
            · have m : x ∈ inner (.tuple (.str kd :: d1 :: r)) := by
                rw [ein]
                exact hx
              exact ⟨inner_fine fd_ m, Nat.le_trans (depth_mem hx) (by omega)⟩
            · exact ⟨oe.2.1, Nat.le_trans oe.2.2.2.1 (by have := depth_mem memz; omega)⟩
          have dz2 : PyData.depthAll (zs.take d2.toNat ++ [e5] ++ zs.drop (d2.toNat + 1)) ≤ PyData.depthAll zs + 3 := depthAll_le.mpr fun x hx => (fz2 x hx).2
          have fz3 : fineAll (zs.take d2.toNat ++ [e5] ++ zs.drop (d2.toNat + 1)) = true := fineAll_iff.mpr fun x hx => (fz2 x hx).1
          have ff := fine_tup fd_
          have fk : fine (.str kd) = true := ff _ List.mem_cons_self
          have fd1 : fine d1 = true := ff _ (List.mem_cons_of_mem _ List.mem_cons_self)
          have nl : (zs.take d2.toNat ++ [e5] ++ zs.drop (d2.toNat + 1)).length ≤ 600 := by
            have := wtAll_len (zs.take d2.toNat ++ [e5] ++ zs.drop (d2.toNat + 1))
            have := wtAll_len zs
            rw [List.length_append, List.length_append, List.length_take, List.length_drop, List.length_singleton]
            omega
          first
            | (rw [has_str (by rcases hk with rfl | rfl <;> simp)]
               rw [er] at q fd_
               refine iteT ⟨_, rfl, (by show 1 ≤ sizeLine; decide), fun p7 np7 => ?_⟩
               have s12 := same_new (o := .tup [.ref c4]) np7
               refine catQ (Dq.same s12 _ _ e10) (.tup upd_same (.cons (Dq.same s12 _ _ e9') .nil)) (by simp only [List.length_cons, List.length_nil]; omega) fun c6 H13 s13 e13 => ?_
               refine q _ _ _ (k11.trans (Kp.of_same (s12.trans s13))) ((x11.same (s12.trans s13)).mono (by omega)) e13 (oddB_iff.mpr ⟨bad_row hk oe.1, ?_, ?_, ?_, rfl⟩) (fun z => nomatch z)
               · simp only [fine, List.cons_append, List.nil_append, fineAll, Bool.and_eq_true] at fk fd1 ⊢
                 exact ⟨fk, fd1, fz3, trivial⟩
               · simp only [wt, List.cons_append, List.nil_append, wtAll]
                 omega
               · simp only [PyData.depth, List.cons_append, List.nil_append, PyData.depthAll]
                 omega)
            | (rw [no_str (by simpa using hk)]
               rw [er] at q fd_
               have hkb : kd = "let" ∨ kd = "each" ∨ kd = "want" := by
                 rcases shape3 hp with ⟨_, h⟩ | ⟨h, _⟩ | ⟨h, _⟩
                 · rw [er] at h
                   rw [h] at a2
                   cases a2
                 · exact absurd h hk
                 · exact h
               refine iteF ⟨_, rfl, ?_⟩
               refine catQ e10 e9' (by simp only [List.length_cons, List.length_nil]; omega) fun c6 H13 s13 e13 => ?_
               refine q _ _ _ (k11.trans (Kp.of_same s13)) ((x11.same s13).mono (by omega)) e13 (oddB_iff.mpr ⟨bad_bind hkb oe.1, ?_, ?_, ?_, rfl⟩) (fun z => nomatch z)
               · simp only [fine, List.cons_append, List.nil_append, fineAll, Bool.and_eq_true] at fk fd1 ⊢
                 exact ⟨fk, fd1, fz3⟩
               · simp only [wt, List.cons_append, List.nil_append, wtAll]
                 omega
               · simp only [PyData.depth, List.cons_append, List.nil_append, PyData.depthAll]
                 omega)
      all_goals (
        have bx2' := bx2
        have u2 : Same H2 H2 := fun _ _ z => z
        refine ⟨(by show 2 ≤ sizeLine; decide), fun w1 nw1 => ?_⟩
        have zw1 : H w1 = none := k02.free bx2 (fresh_same u2 nw1)
        have sw1 := same_new (o := .tup [.str "name", .str "x"]) nw1
        have f1 : Dq b (upd H2 w1 (.tup [.str "name", .str "x"])) (.ref w1) (.tuple [.str "name", .str "x"]) := .tup upd_same (.cons (.str _) (.cons (.str _) .nil))
        have g1 : (upd H2 w1 (.tup [.str "name", .str "x"])) w1 = some (.tup [.str "name", .str "x"]) := upd_same
        have bx2' := bx2'.same sw1
        have u2 := u2.trans sw1
        generalize hw1 : upd _ w1 _ = X1 at sw1 f1 g1 bx2' u2 ⊢
        refine ⟨(by show 2 ≤ sizeLine; decide), fun w2 nw2 => ?_⟩
        have zw2 : H w2 = none := k02.free bx2 (fresh_same u2 nw2)
        have sw2 := same_new (o := .tup [.str "name", .str "abcdefg"]) nw2
        have f2 : Dq b (upd X1 w2 (.tup [.str "name", .str "abcdefg"])) (.ref w2) (.tuple [.str "name", .str "abcdefg"]) := .tup upd_same (.cons (.str _) (.cons (.str _) .nil))
        have g2 : (upd X1 w2 (.tup [.str "name", .str "abcdefg"])) w2 = some (.tup [.str "name", .str "abcdefg"]) := upd_same
        have bx2' := bx2'.same sw2
        have u2 := u2.trans sw2
        generalize hw2 : upd _ w2 _ = X2 at sw2 f2 g2 bx2' u2 ⊢
        refine ⟨(by show 2 ≤ sizeLine; decide), fun w3 nw3 => ?_⟩
        have zw3 : H w3 = none := k02.free bx2 (fresh_same u2 nw3)
        have sw3 := same_new (o := .tup [.str "name", .str "let"]) nw3
        have f3 : Dq b (upd X2 w3 (.tup [.str "name", .str "let"])) (.ref w3) (.tuple [.str "name", .str "let"]) := .tup upd_same (.cons (.str _) (.cons (.str _) .nil))
        have g3 : (upd X2 w3 (.tup [.str "name", .str "let"])) w3 = some (.tup [.str "name", .str "let"]) := upd_same
        have bx2' := bx2'.same sw3
        have u2 := u2.trans sw3
        generalize hw3 : upd _ w3 _ = X3 at sw3 f3 g3 bx2' u2 ⊢
        refine ⟨_, rfl, (by show 1 ≤ sizeLine; decide), fun w4 nw4 => ?_⟩
        have zw4 : H w4 = none := k02.free bx2 (fresh_same u2 nw4)
        have sw4 := same_new (o := .lst [.ref w1]) nw4
        have f4 : Dq b (upd X3 w4 (.lst [.ref w1])) (.ref w4) (.list [.tuple [.str "name", .str "x"]]) := .lst upd_same (bx2'.ne nw4) (.cons (Dq.same (((sw2).trans sw3).trans sw4) _ _ f1) .nil)
        have g4 : (upd X3 w4 (.lst [.ref w1])) w4 = some (.lst [.ref w1]) := upd_same
        have bx2' := bx2'.same sw4
        have u2 := u2.trans sw4
        generalize hw4 : upd _ w4 _ = X4 at sw4 f4 g4 bx2' u2 ⊢
        refine ⟨(by show 3 ≤ sizeLine; decide), fun w5 nw5 => ?_⟩
        have zw5 : H w5 = none := k02.free bx2 (fresh_same u2 nw5)
        have sw5 := same_new (o := .tup [.str "op", .str "f", .ref w4]) nw5
        have f5 : Dq b (upd X4 w5 (.tup [.str "op", .str "f", .ref w4])) (.ref w5) (.tuple [.str "op", .str "f", .list [.tuple [.str "name", .str "x"]]]) := .tup upd_same (.cons (.str _) (.cons (.str _) (.cons (Dq.same (sw5) _ _ f4) .nil)))
        have g5 : (upd X4 w5 (.tup [.str "op", .str "f", .ref w4])) w5 = some (.tup [.str "op", .str "f", .ref w4]) := upd_same
        have bx2' := bx2'.same sw5
        have u2 := u2.trans sw5
        generalize hw5 : upd _ w5 _ = X5 at sw5 f5 g5 bx2' u2 ⊢
        refine ⟨_, rfl, (by show 1 ≤ sizeLine; decide), fun w6 nw6 => ?_⟩
        have zw6 : H w6 = none := k02.free bx2 (fresh_same u2 nw6)
        have sw6 := same_new (o := .tup [.ref w1]) nw6
        have f6 : Dq b (upd X5 w6 (.tup [.ref w1])) (.ref w6) (.tuple [.tuple [.str "name", .str "x"]]) := .tup upd_same (.cons (Dq.same (((((sw2).trans sw3).trans sw4).trans sw5).trans sw6) _ _ f1) .nil)
        have g6 : (upd X5 w6 (.tup [.ref w1])) w6 = some (.tup [.ref w1]) := upd_same
        have bx2' := bx2'.same sw6
        have u2 := u2.trans sw6
        generalize hw6 : upd _ w6 _ = X6 at sw6 f6 g6 bx2' u2 ⊢
        refine ⟨w6, 4, _, rfl, rfl, SqT.of g6, (fun z => nomatch z), by decide, by decide, (by show 1 ≤ 1000; decide), fun w7 nw7 => ?_⟩
        have zw7 : H w7 = none := k02.free bx2 (fresh_same u2 nw7)
        have sw7 := same_new (o := .tup (List.replicate (4 : Int).toNat [V.ref w1]).flatten) nw7
        have f7 : Dq b (upd X6 w7 (.tup (List.replicate (4 : Int).toNat [V.ref w1]).flatten)) (.ref w7) (.tuple [.tuple [.str "name", .str "x"], .tuple [.str "name", .str "x"], .tuple [.str "name", .str "x"], .tuple [.str "name", .str "x"]]) := .tup upd_same (.cons (Dq.same ((((((sw2).trans sw3).trans sw4).trans sw5).trans sw6).trans sw7) _ _ f1) (.cons (Dq.same ((((((sw2).trans sw3).trans sw4).trans sw5).trans sw6).trans sw7) _ _ f1) (.cons (Dq.same ((((((sw2).trans sw3).trans sw4).trans sw5).trans sw6).trans sw7) _ _ f1) (.cons (Dq.same ((((((sw2).trans sw3).trans sw4).trans sw5).trans sw6).trans sw7) _ _ f1) .nil))))
        have g7 : (upd X6 w7 (.tup (List.replicate (4 : Int).toNat [V.ref w1]).flatten)) w7 = some (.tup (List.replicate (4 : Int).toNat [V.ref w1]).flatten) := upd_same
        have bx2' := bx2'.same sw7
        have u2 := u2.trans sw7
        generalize hw7 : upd _ w7 _ = X7 at sw7 f7 g7 bx2' u2 ⊢
        refine ⟨(by show 3 ≤ sizeLine; decide), fun w8 nw8 => ?_⟩
        have zw8 : H w8 = none := k02.free bx2 (fresh_same u2 nw8)
        have sw8 := same_new (o := .tup [.str "op", .str "f", .ref w7]) nw8
        have f8 : Dq b (upd X7 w8 (.tup [.str "op", .str "f", .ref w7])) (.ref w8) (.tuple [.str "op", .str "f", .tuple [.tuple [.str "name", .str "x"], .tuple [.str "name", .str "x"], .tuple [.str "name", .str "x"], .tuple [.str "name", .str "x"]]]) := .tup upd_same (.cons (.str _) (.cons (.str _) (.cons (Dq.same (sw8) _ _ f7) .nil)))
        have g8 : (upd X7 w8 (.tup [.str "op", .str "f", .ref w7])) w8 = some (.tup [.str "op", .str "f", .ref w7]) := upd_same
        have bx2' := bx2'.same sw8
        have u2 := u2.trans sw8
        generalize hw8 : upd _ w8 _ = X8 at sw8 f8 g8 bx2' u2 ⊢
        refine ⟨Nat.zero_le _, fun w9 nw9 => ?_⟩
        have zw9 : H w9 = none := k02.free bx2 (fresh_same u2 nw9)
        have sw9 := same_new (o := .tup []) nw9
        have f9 : Dq b (upd X8 w9 (.tup [])) (.ref w9) (.tuple []) := .tup upd_same .nil
        have g9 : (upd X8 w9 (.tup [])) w9 = some (.tup []) := upd_same
        have bx2' := bx2'.same sw9
        have u2 := u2.trans sw9
        generalize hw9 : upd _ w9 _ = X9 at sw9 f9 g9 bx2' u2 ⊢
        refine ⟨(by show 3 ≤ sizeLine; decide), fun w10 nw10 => ?_⟩
        have zw10 : H w10 = none := k02.free bx2 (fresh_same u2 nw10)
        have sw10 := same_new (o := .tup [.str "op", .str "in", .ref w9]) nw10
        have f10 : Dq b (upd X9 w10 (.tup [.str "op", .str "in", .ref w9])) (.ref w10) (.tuple [.str "op", .str "in", .tuple []]) := .tup upd_same (.cons (.str _) (.cons (.str _) (.cons (Dq.same (sw10) _ _ f9) .nil)))
        have g10 : (upd X9 w10 (.tup [.str "op", .str "in", .ref w9])) w10 = some (.tup [.str "op", .str "in", .ref w9]) := upd_same
        have bx2' := bx2'.same sw10
        have u2 := u2.trans sw10
        generalize hw10 : upd _ w10 _ = X10 at sw10 f10 g10 bx2' u2 ⊢
        refine ⟨(by show 5 ≤ sizeLine; decide), fun w11 nw11 => ?_⟩
        have zw11 : H w11 = none := k02.free bx2 (fresh_same u2 nw11)
        have sw11 := same_new (o := .lst [.ref w2, .ref w3, .ref w5, .ref w8, .ref w10]) nw11
        have f11 : Dq b (upd X10 w11 (.lst [.ref w2, .ref w3, .ref w5, .ref w8, .ref w10])) (.ref w11) (.list [.tuple [.str "name", .str "abcdefg"], .tuple [.str "name", .str "let"], .tuple [.str "op", .str "f", .list [.tuple [.str "name", .str "x"]]], .tuple [.str "op", .str "f", .tuple [.tuple [.str "name", .str "x"], .tuple [.str "name", .str "x"], .tuple [.str "name", .str "x"], .tuple [.str "name", .str "x"]]], .tuple [.str "op", .str "in", .tuple []]]) := .lst upd_same (bx2'.ne nw11) (.cons (Dq.same (((((((((sw3).trans sw4).trans sw5).trans sw6).trans sw7).trans sw8).trans sw9).trans sw10).trans sw11) _ _ f2) (.cons (Dq.same ((((((((sw4).trans sw5).trans sw6).trans sw7).trans sw8).trans sw9).trans sw10).trans sw11) _ _ f3) (.cons (Dq.same ((((((sw6).trans sw7).trans sw8).trans sw9).trans sw10).trans sw11) _ _ f5) (.cons (Dq.same (((sw9).trans sw10).trans sw11) _ _ f8) (.cons (Dq.same (sw11) _ _ f10) .nil)))))
        have g11 : (upd X10 w11 (.lst [.ref w2, .ref w3, .ref w5, .ref w8, .ref w10])) w11 = some (.lst [.ref w2, .ref w3, .ref w5, .ref w8, .ref w10]) := upd_same
        have bx2' := bx2'.same sw11
        have u2 := u2.trans sw11
        generalize hw11 : upd _ w11 _ = X11 at sw11 f11 g11 bx2' u2 ⊢
        refine ⟨_, rfl, _, rfl, (by show 3 ≤ sizeLine; decide), fun w12 nw12 => ?_⟩
        have zw12 : H w12 = none := k02.free bx2 (fresh_same u2 nw12)
        have sw12 := same_new (o := .tup [.str "let", .str "x", .ref w1]) nw12
        have f12 : Dq b (upd X11 w12 (.tup [.str "let", .str "x", .ref w1])) (.ref w12) (.tuple [.str "let", .str "x", .tuple [.str "name", .str "x"]]) := .tup upd_same (.cons (.str _) (.cons (.str _) (.cons (Dq.same (((((((((((sw2).trans sw3).trans sw4).trans sw5).trans sw6).trans sw7).trans sw8).trans sw9).trans sw10).trans sw11).trans sw12) _ _ f1) .nil)))
        have g12 : (upd X11 w12 (.tup [.str "let", .str "x", .ref w1])) w12 = some (.tup [.str "let", .str "x", .ref w1]) := upd_same
        have bx2' := bx2'.same sw12
        have u2 := u2.trans sw12
        generalize hw12 : upd _ w12 _ = X12 at sw12 f12 g12 bx2' u2 ⊢
        refine ⟨(by show 2 ≤ sizeLine; decide), fun w13 nw13 => ?_⟩
        have zw13 : H w13 = none := k02.free bx2 (fresh_same u2 nw13)
        have sw13 := same_new (o := .tup [.str "name", .int 7]) nw13
        have f13 : Dq b (upd X12 w13 (.tup [.str "name", .int 7])) (.ref w13) (.tuple [.str "name", .int 7]) := .tup upd_same (.cons (.str _) (.cons (.int _) .nil))
        have g13 : (upd X12 w13 (.tup [.str "name", .int 7])) w13 = some (.tup [.str "name", .int 7]) := upd_same
        have bx2' := bx2'.same sw13
        have u2 := u2.trans sw13
        generalize hw13 : upd _ w13 _ = X13 at sw13 f13 g13 bx2' u2 ⊢
        refine ⟨(by show 2 ≤ sizeLine; decide), fun w14 nw14 => ?_⟩
        have zw14 : H w14 = none := k02.free bx2 (fresh_same u2 nw14)
        have sw14 := same_new (o := .lst [.str "name", .str "x"]) nw14
        have f14 : Dq b (upd X13 w14 (.lst [.str "name", .str "x"])) (.ref w14) (.list [.str "name", .str "x"]) := .lst upd_same (bx2'.ne nw14) (.cons (.str _) (.cons (.str _) .nil))
        have g14 : (upd X13 w14 (.lst [.str "name", .str "x"])) w14 = some (.lst [.str "name", .str "x"]) := upd_same
        have bx2' := bx2'.same sw14
        have u2 := u2.trans sw14
        generalize hw14 : upd _ w14 _ = X14 at sw14 f14 g14 bx2' u2 ⊢
        refine ⟨_, rfl, _, rfl, (by show 4 ≤ sizeLine; decide), fun w15 nw15 => ?_⟩
        have zw15 : H w15 = none := k02.free bx2 (fresh_same u2 nw15)
        have sw15 := same_new (o := .tup [.str "each", .str "$", .ref w1, .ref w1]) nw15
        have f15 : Dq b (upd X14 w15 (.tup [.str "each", .str "$", .ref w1, .ref w1])) (.ref w15) (.tuple [.str "each", .str "$", .tuple [.str "name", .str "x"], .tuple [.str "name", .str "x"]]) := .tup upd_same (.cons (.str _) (.cons (.str _) (.cons (Dq.same ((((((((((((((sw2).trans sw3).trans sw4).trans sw5).trans sw6).trans sw7).trans sw8).trans sw9).trans sw10).trans sw11).trans sw12).trans sw13).trans sw14).trans sw15) _ _ f1) (.cons (Dq.same ((((((((((((((sw2).trans sw3).trans sw4).trans sw5).trans sw6).trans sw7).trans sw8).trans sw9).trans sw10).trans sw11).trans sw12).trans sw13).trans sw14).trans sw15) _ _ f1) .nil))))
        have g15 : (upd X14 w15 (.tup [.str "each", .str "$", .ref w1, .ref w1])) w15 = some (.tup [.str "each", .str "$", .ref w1, .ref w1]) := upd_same
        have bx2' := bx2'.same sw15
        have u2 := u2.trans sw15
        generalize hw15 : upd _ w15 _ = X15 at sw15 f15 g15 bx2' u2 ⊢
        refine ⟨(by show 2 ≤ sizeLine; decide), fun w16 nw16 => ?_⟩
        have zw16 : H w16 = none := k02.free bx2 (fresh_same u2 nw16)
        have sw16 := same_new (o := .tup [.str "hole", .str "?h"]) nw16
        have f16 : Dq b (upd X15 w16 (.tup [.str "hole", .str "?h"])) (.ref w16) (.tuple [.str "hole", .str "?h"]) := .tup upd_same (.cons (.str _) (.cons (.str _) .nil))
        have g16 : (upd X15 w16 (.tup [.str "hole", .str "?h"])) w16 = some (.tup [.str "hole", .str "?h"]) := upd_same
        have bx2' := bx2'.same sw16
        have u2 := u2.trans sw16
        generalize hw16 : upd _ w16 _ = X16 at sw16 f16 g16 bx2' u2 ⊢
        refine ⟨(by show 6 ≤ sizeLine; decide), fun w17 nw17 => ?_⟩
        have zw17 : H w17 = none := k02.free bx2 (fresh_same u2 nw17)
        have sw17 := same_new (o := .lst [.ref w12, .ref w13, .ref w14, .non, .ref w15, .ref w16]) nw17
        have f17 : Dq b (upd X16 w17 (.lst [.ref w12, .ref w13, .ref w14, .non, .ref w15, .ref w16])) (.ref w17) (.list [.tuple [.str "let", .str "x", .tuple [.str "name", .str "x"]], .tuple [.str "name", .int 7], .list [.str "name", .str "x"], .none, .tuple [.str "each", .str "$", .tuple [.str "name", .str "x"], .tuple [.str "name", .str "x"]], .tuple [.str "hole", .str "?h"]]) := .lst upd_same (bx2'.ne nw17) (.cons (Dq.same (((((sw13).trans sw14).trans sw15).trans sw16).trans sw17) _ _ f12) (.cons (Dq.same ((((sw14).trans sw15).trans sw16).trans sw17) _ _ f13) (.cons (Dq.same (((sw15).trans sw16).trans sw17) _ _ f14) (.cons .non (.cons (Dq.same ((sw16).trans sw17) _ _ f15) (.cons (Dq.same (sw17) _ _ f16) .nil))))))
        have g17 : (upd X16 w17 (.lst [.ref w12, .ref w13, .ref w14, .non, .ref w15, .ref w16])) w17 = some (.lst [.ref w12, .ref w13, .ref w14, .non, .ref w15, .ref w16]) := upd_same
        have bx2' := bx2'.same sw17
        have u2 := u2.trans sw17
        generalize hw17 : upd _ w17 _ = X17 at sw17 f17 g17 bx2' u2 ⊢
        refine ⟨w11, w17, _, _, rfl, rfl, ((((((sw12).trans sw13).trans sw14).trans sw15).trans sw16).trans sw17) _ _ g11, g17, sz100 (by simp only [List.length_append, List.length_cons, List.length_nil]; omega), fun w18 nw18 => ?_⟩
        have zw18 : H w18 = none := k02.free bx2 (fresh_same u2 nw18)
        have sw18 := same_new (o := .lst ([.ref w2, .ref w3, .ref w5, .ref w8, .ref w10] ++ [.ref w12, .ref w13, .ref w14, .non, .ref w15, .ref w16])) nw18
        have f18 : Dq b (upd X17 w18 (.lst ([.ref w2, .ref w3, .ref w5, .ref w8, .ref w10] ++ [.ref w12, .ref w13, .ref w14, .non, .ref w15, .ref w16]))) (.ref w18) (.list [.tuple [.str "name", .str "abcdefg"], .tuple [.str "name", .str "let"], .tuple [.str "op", .str "f", .list [.tuple [.str "name", .str "x"]]], .tuple [.str "op", .str "f", .tuple [.tuple [.str "name", .str "x"], .tuple [.str "name", .str "x"], .tuple [.str "name", .str "x"], .tuple [.str "name", .str "x"]]], .tuple [.str "op", .str "in", .tuple []], .tuple [.str "let", .str "x", .tuple [.str "name", .str "x"]], .tuple [.str "name", .int 7], .list [.str "name", .str "x"], .none, .tuple [.str "each", .str "$", .tuple [.str "name", .str "x"], .tuple [.str "name", .str "x"]], .tuple [.str "hole", .str "?h"]]) := .lst upd_same (bx2'.ne nw18) (.cons (Dq.same ((((((((((((((((sw3).trans sw4).trans sw5).trans sw6).trans sw7).trans sw8).trans sw9).trans sw10).trans sw11).trans sw12).trans sw13).trans sw14).trans sw15).trans sw16).trans sw17).trans sw18) _ _ f2) (.cons (Dq.same (((((((((((((((sw4).trans sw5).trans sw6).trans sw7).trans sw8).trans sw9).trans sw10).trans sw11).trans sw12).trans sw13).trans sw14).trans sw15).trans sw16).trans sw17).trans sw18) _ _ f3) (.cons (Dq.same (((((((((((((sw6).trans sw7).trans sw8).trans sw9).trans sw10).trans sw11).trans sw12).trans sw13).trans sw14).trans sw15).trans sw16).trans sw17).trans sw18) _ _ f5) (.cons (Dq.same ((((((((((sw9).trans sw10).trans sw11).trans sw12).trans sw13).trans sw14).trans sw15).trans sw16).trans sw17).trans sw18) _ _ f8) (.cons (Dq.same ((((((((sw11).trans sw12).trans sw13).trans sw14).trans sw15).trans sw16).trans sw17).trans sw18) _ _ f10) (.cons (Dq.same ((((((sw13).trans sw14).trans sw15).trans sw16).trans sw17).trans sw18) _ _ f12) (.cons (Dq.same (((((sw14).trans sw15).trans sw16).trans sw17).trans sw18) _ _ f13) (.cons (Dq.same ((((sw15).trans sw16).trans sw17).trans sw18) _ _ f14) (.cons .non (.cons (Dq.same (((sw16).trans sw17).trans sw18) _ _ f15) (.cons (Dq.same ((sw17).trans sw18) _ _ f16) .nil)))))))))))
        have g18 : (upd X17 w18 (.lst ([.ref w2, .ref w3, .ref w5, .ref w8, .ref w10] ++ [.ref w12, .ref w13, .ref w14, .non, .ref w15, .ref w16]))) w18 = some (.lst ([.ref w2, .ref w3, .ref w5, .ref w8, .ref w10] ++ [.ref w12, .ref w13, .ref w14, .non, .ref w15, .ref w16])) := upd_same
        have bx2' := bx2'.same sw18
        have u2 := u2.trans sw18
        generalize hw18 : upd _ w18 _ = X18 at sw18 f18 g18 bx2' u2 ⊢
        refine ⟨_, rfl, _, rfl, (by show 3 ≤ sizeLine; decide), fun w19 nw19 => ?_⟩
        have zw19 : H w19 = none := k02.free bx2 (fresh_same u2 nw19)
        have sw19 := same_new (o := .tup [.str "op", .str "f", .ref w1]) nw19
        have f19 : Dq b (upd X18 w19 (.tup [.str "op", .str "f", .ref w1])) (.ref w19) (.tuple [.str "op", .str "f", .tuple [.str "name", .str "x"]]) := .tup upd_same (.cons (.str _) (.cons (.str _) (.cons (Dq.same ((((((((((((((((((sw2).trans sw3).trans sw4).trans sw5).trans sw6).trans sw7).trans sw8).trans sw9).trans sw10).trans sw11).trans sw12).trans sw13).trans sw14).trans sw15).trans sw16).trans sw17).trans sw18).trans sw19) _ _ f1) .nil)))
        have g19 : (upd X18 w19 (.tup [.str "op", .str "f", .ref w1])) w19 = some (.tup [.str "op", .str "f", .ref w1]) := upd_same
        have bx2' := bx2'.same sw19
        have u2 := u2.trans sw19
        generalize hw19 : upd _ w19 _ = X19 at sw19 f19 g19 bx2' u2 ⊢
        refine ⟨(by show 1 ≤ sizeLine; decide), fun w20 nw20 => ?_⟩
        have zw20 : H w20 = none := k02.free bx2 (fresh_same u2 nw20)
        have sw20 := same_new (o := .lst [.ref w19]) nw20
        have f20 : Dq b (upd X19 w20 (.lst [.ref w19])) (.ref w20) (.list [.tuple [.str "op", .str "f", .tuple [.str "name", .str "x"]]]) := .lst upd_same (bx2'.ne nw20) (.cons (Dq.same (sw20) _ _ f19) .nil)
        have g20 : (upd X19 w20 (.lst [.ref w19])) w20 = some (.lst [.ref w19]) := upd_same
        have bx2' := bx2'.same sw20
        have u2 := u2.trans sw20
        generalize hw20 : upd _ w20 _ = X20 at sw20 f20 g20 bx2' u2 ⊢
        refine ⟨w18, w20, _, _, rfl, rfl, ((sw19).trans sw20) _ _ g18, g20, sz100 (by simp only [List.length_append, List.length_cons, List.length_nil]; omega), fun w21 nw21 => ?_⟩
        have zw21 : H w21 = none := k02.free bx2 (fresh_same u2 nw21)
        have sw21 := same_new (o := .lst (([.ref w2, .ref w3, .ref w5, .ref w8, .ref w10] ++ [.ref w12, .ref w13, .ref w14, .non, .ref w15, .ref w16]) ++ [.ref w19])) nw21
        have f21 : Dq b (upd X20 w21 (.lst (([.ref w2, .ref w3, .ref w5, .ref w8, .ref w10] ++ [.ref w12, .ref w13, .ref w14, .non, .ref w15, .ref w16]) ++ [.ref w19]))) (.ref w21) (.list [.tuple [.str "name", .str "abcdefg"], .tuple [.str "name", .str "let"], .tuple [.str "op", .str "f", .list [.tuple [.str "name", .str "x"]]], .tuple [.str "op", .str "f", .tuple [.tuple [.str "name", .str "x"], .tuple [.str "name", .str "x"], .tuple [.str "name", .str "x"], .tuple [.str "name", .str "x"]]], .tuple [.str "op", .str "in", .tuple []], .tuple [.str "let", .str "x", .tuple [.str "name", .str "x"]], .tuple [.str "name", .int 7], .list [.str "name", .str "x"], .none, .tuple [.str "each", .str "$", .tuple [.str "name", .str "x"], .tuple [.str "name", .str "x"]], .tuple [.str "hole", .str "?h"], .tuple [.str "op", .str "f", .tuple [.str "name", .str "x"]]]) := .lst upd_same (bx2'.ne nw21) (.cons (Dq.same (((((((((((((((((((sw3).trans sw4).trans sw5).trans sw6).trans sw7).trans sw8).trans sw9).trans sw10).trans sw11).trans sw12).trans sw13).trans sw14).trans sw15).trans sw16).trans sw17).trans sw18).trans sw19).trans sw20).trans sw21) _ _ f2) (.cons (Dq.same ((((((((((((((((((sw4).trans sw5).trans sw6).trans sw7).trans sw8).trans sw9).trans sw10).trans sw11).trans sw12).trans sw13).trans sw14).trans sw15).trans sw16).trans sw17).trans sw18).trans sw19).trans sw20).trans sw21) _ _ f3) (.cons (Dq.same ((((((((((((((((sw6).trans sw7).trans sw8).trans sw9).trans sw10).trans sw11).trans sw12).trans sw13).trans sw14).trans sw15).trans sw16).trans sw17).trans sw18).trans sw19).trans sw20).trans sw21) _ _ f5) (.cons (Dq.same (((((((((((((sw9).trans sw10).trans sw11).trans sw12).trans sw13).trans sw14).trans sw15).trans sw16).trans sw17).trans sw18).trans sw19).trans sw20).trans sw21) _ _ f8) (.cons (Dq.same (((((((((((sw11).trans sw12).trans sw13).trans sw14).trans sw15).trans sw16).trans sw17).trans sw18).trans sw19).trans sw20).trans sw21) _ _ f10) (.cons (Dq.same (((((((((sw13).trans sw14).trans sw15).trans sw16).trans sw17).trans sw18).trans sw19).trans sw20).trans sw21) _ _ f12) (.cons (Dq.same ((((((((sw14).trans sw15).trans sw16).trans sw17).trans sw18).trans sw19).trans sw20).trans sw21) _ _ f13) (.cons (Dq.same (((((((sw15).trans sw16).trans sw17).trans sw18).trans sw19).trans sw20).trans sw21) _ _ f14) (.cons .non (.cons (Dq.same ((((((sw16).trans sw17).trans sw18).trans sw19).trans sw20).trans sw21) _ _ f15) (.cons (Dq.same (((((sw17).trans sw18).trans sw19).trans sw20).trans sw21) _ _ f16) (.cons (Dq.same ((sw20).trans sw21) _ _ f19) .nil))))))))))))
        have g21 : (upd X20 w21 (.lst (([.ref w2, .ref w3, .ref w5, .ref w8, .ref w10] ++ [.ref w12, .ref w13, .ref w14, .non, .ref w15, .ref w16]) ++ [.ref w19]))) w21 = some (.lst (([.ref w2, .ref w3, .ref w5, .ref w8, .ref w10] ++ [.ref w12, .ref w13, .ref w14, .non, .ref w15, .ref w16]) ++ [.ref w19])) := upd_same
        have bx2' := bx2'.same sw21
        have u2 := u2.trans sw21
        generalize hw21 : upd _ w21 _ = X21 at sw21 f21 g21 bx2' u2 ⊢
        have fz : Dq b X21 (.ref w21) (.list badL) := f21
        refine ⟨_, rfl, b, _, _, rfl, bx2', by omega, by decide, by decide, fun dd Hf l1 u1 xf kf => ?_⟩
        have nz : w21 ≠ b := by
          cases fz with
          | lst _ h _ => exact h
        obtain ⟨its, hits, dits⟩ : ∃ its, X21 w21 = some (.lst its) ∧ DqAll b X21 its badL := by
          cases fz with
          | lst h1 _ h2 => exact ⟨_, h1, h2⟩
        have ll := dits.len
        have lb : badL.length = 12 := rfl
        obtain ⟨u, m1, m2⟩ := dits.get (List.getElem?_eq_getElem (show dd.toNat < badL.length by omega))
        have gu : atI its dd = some u := by
          have z := atI_nat m1
          rwa [Int.toNat_of_nonneg l1] at z
        have oo := oddB_iff.mp (badL_odd _ (List.getElem_mem (show dd.toNat < badL.length by omega)))
        exact ⟨w21, _, _, u, rfl, rfl, SqL.of (kf _ _ hits nz), gu, q u _ Hf ((k02.trans (Kp.of_same u2)).trans kf) (xf.mono (by omega)) (Dq.kp bx2' kf _ _ m2) (oddB_iff.mpr ⟨oo.1, oo.2.1, Nat.le_trans oo.2.2.1 (by omega), Nat.le_trans oo.2.2.2.1 (by omega), oo.2.2.2.2⟩) (fun _ p ep => by
          have hm := List.mem_of_getElem? m1
          rw [hits] at g21
          cases g21
          rw [ep] at hm
          simp only [List.mem_append, List.mem_cons, List.not_mem_nil, or_false] at hm
          rcases hm with ((h | h | h | h | h) | (h | h | h | h | h | h)) | h <;> first | (cases h; assumption) | cases h)⟩))
theorem ok_l_bad (T : TP K mg) : ∀ m : Nat, FnOk P w K mg base CX0 (m + 3) T.d_l_bad.f T.d_l_bad.fd ["_law_purse_here", "_law_value"] (spBad m)
  | 0 => bad_step T 0 0 _ false_ok (fun _ h => by cases h)
  | m + 1 => bad_step T (m + 1) (m + 1) _ (ok_l_bad T m) (fun m' h => by cases h; rfl)
end
end K12
set_option Elab.async false
set_option linter.all false
set_option maxRecDepth 100000
namespace K12
open PySem PySem.Spec PyProof.Rows L2 CaV CaL CaN CaD CaG
def gTold (way : Int) (ys : List (PyData × Nat)) : PyData := if way = 0 then gSize ys else if way = 1 then gDepth ys else if way = 2 then gUses ys else if way = 3 then gBinders ys else gCalls ys
def spTold (C : Addr) : Sp := fun vs H Q E => ∃ (b : Addr) (n : Nat) (way : Int) (x : V) (d : PyData), vs = [.int way, x] ∧ Bx H b n ∧ Dq b H x d ∧ fine d = true ∧ wt d ≤ 5000 ∧
  ((gb d = false ∧ Bad C x H E) ∨ (gb d = true ∧ wt d ≤ 1200 ∧ d.depth ≤ 59 ∧ (0 ≤ way ∧ way ≤ 4) ∧ Told b H (gTold way (preL d 1)) Q))
/-- what the law refuses: all but the thing itself stays -/
def spRefused : Sp := fun vs H Q _ => ∃ (b : Addr) (n : Nat) (way : Int) (x : V) (d : PyData), vs = [.int way, x] ∧ Bx H b n ∧ Dq b H x d ∧ oddB 4000 40 d = true ∧ ∀ H', (∀ a o, H a = some o → a ≠ b → (isL d = true → x ≠ .ref a) → H' a = some o) → Q (.bl true) H'
theorem kit_list (d : PyData) : kitB (tyOf d) "list" = some (isL d) := by
  have e1 : kitB "NoneType" "list" = some false ∧ kitB "bool" "list" = some false ∧ kitB "int" "list" = some false ∧ kitB "str" "list" = some false ∧ kitB "list" "list" = some true ∧ kitB "tuple" "list" = some false ∧ kitB "dict" "list" = some false := by decide +kernel
  obtain ⟨h1, h2, h3, h4, h5, h6, h7⟩ := e1
  cases d <;> assumption
section
variable {P : Program} {w : World} {K : PySem.W.Frag} {mg : Str → Option Value} {base : Heap}
theorem ok_l_told {k : Nat} (T : TP K mg) : FnOk P w K mg base (L2.CX P w) (k + 8) T.d_l_told.f T.d_l_told.fd ["_law_way", "_law_value"] (spTold T.cIB) := by
  have G_size : FnOk P w K mg base (L2.CX P w) 7 T.d_size.f T.d_size.fd ["body"] (spTell gSize T.cIB) := ok_size T
  have G_depth : FnOk P w K mg base (L2.CX P w) 7 T.d_depth.f T.d_depth.fd ["body"] (spTell gDepth T.cIB) := ok_depth T
  have G_uses : FnOk P w K mg base (L2.CX P w) 7 T.d_uses.f T.d_uses.fd ["body"] (spTell gUses T.cIB) := ok_uses T
  have G_binders : FnOk P w K mg base (L2.CX P w) 7 T.d_binders.f T.d_binders.fd ["body"] (spTell gBinders T.cIB) := ok_binders T
  have G_calls : FnOk P w K mg base (L2.CX P w) 7 T.d_calls.f T.d_calls.fd ["body"] (spTell gCalls T.cIB) := ok_calls T
  have G_term_text := ok_term_text (P := P) (w := w) (base := base) (k := 0) T
  refine T.d_l_told.F.okX sc_l_told (fun vs H Q E h => ?_) (fun cdv A outer s H vs Q E hr h => ?_)
  · obtain ⟨b, n, way, x, d, rfl, _⟩ := h
    rfl
  · obtain ⟨b, n, way, x, d, rfl, bx, dq, fd_, hw, q⟩ := h
    refine ⟨_, (pss_cons (ps_if (pt_cmpR op_eq (pv 0) pe_int (nomark _))
      (pss_one (ps_ret (pe_callS G_size (hr.mono (by omega)) (by rfl) T.d_size.g T.d_size.F.kp T.d_size.b (fun σ => passAt (takes_of rfl rfl rfl rfl) σ) (pa_cons (pv 1) pa_nil))))
      pss_nil)
    (pss_cons (ps_if (pt_cmpR op_eq (pv 0) pe_int (nomark _))
      (pss_one (ps_ret (pe_callS G_depth (hr.mono (by omega)) (by rfl) T.d_depth.g T.d_depth.F.kp T.d_depth.b (fun σ => passAt (takes_of rfl rfl rfl rfl) σ) (pa_cons (pv 1) pa_nil))))
      pss_nil)
    (pss_cons (ps_if (pt_cmpR op_eq (pv 0) pe_int (nomark _))
      (pss_one (ps_ret (pe_callS G_uses (hr.mono (by omega)) (by rfl) T.d_uses.g T.d_uses.F.kp T.d_uses.b (fun σ => passAt (takes_of rfl rfl rfl rfl) σ) (pa_cons (pv 1) pa_nil))))
      pss_nil)
    (pss_cons (ps_if (pt_cmpR op_eq (pv 0) pe_int (nomark _))
      (pss_one (ps_ret (pe_callS G_binders (hr.mono (by omega)) (by rfl) T.d_binders.g T.d_binders.F.kp T.d_binders.b (fun σ => passAt (takes_of rfl rfl rfl rfl) σ) (pa_cons (pv 1) pa_nil))))
      pss_nil)
    (pss_one (ps_ret (pe_ifExp (pt_cmpR op_eq (pv 0) pe_int (nomark _)) (pe_callS G_calls (hr.mono (by omega)) (by rfl) T.d_calls.g T.d_calls.F.kp T.d_calls.b (fun σ => passAt (takes_of rfl rfl rfl rfl) σ) (pa_cons (pv 1) pa_nil)) (pe_callS G_term_text (hr.mono (by omega)) (by rfl) T.d_term_text.g T.d_term_text.F.kp T.d_term_text.b (fun σ => passAt (takes_of rfl rfl rfl rfl) σ) (pa_cons (pv 1) pa_nil))))))))), ?_⟩
    refine ⟨_, rfl, rfl, _, rfl, ?_⟩
    rw [dec_int]
    by_cases e0 : way = 0
    · rw [decide_eq_true e0]
      refine iteT ⟨_, rfl, b, n, x, d, rfl, bx, dq, fd_, hw, q.imp id fun z => ⟨z.1, z.2.1, z.2.2.1, ?_⟩⟩
      have z2 := z.2.2.2.2
      unfold gTold at z2
      rw [if_pos e0] at z2
      exact z2
    rw [decide_eq_false e0]
    refine iteF ⟨_, rfl, rfl, _, rfl, ?_⟩
    rw [dec_int]
    by_cases e1 : way = 1
    · rw [decide_eq_true e1]
      refine iteT ⟨_, rfl, b, n, x, d, rfl, bx, dq, fd_, hw, q.imp id fun z => ⟨z.1, z.2.1, z.2.2.1, ?_⟩⟩
      have z2 := z.2.2.2.2
      unfold gTold at z2
      rw [if_neg e0, if_pos e1] at z2
      exact z2
    rw [decide_eq_false e1]
    refine iteF ⟨_, rfl, rfl, _, rfl, ?_⟩
    rw [dec_int]
    by_cases e2 : way = 2
    · rw [decide_eq_true e2]
      refine iteT ⟨_, rfl, b, n, x, d, rfl, bx, dq, fd_, hw, q.imp id fun z => ⟨z.1, z.2.1, z.2.2.1, ?_⟩⟩
      have z2 := z.2.2.2.2
      unfold gTold at z2
      rw [if_neg e0, if_neg e1, if_pos e2] at z2
      exact z2
    rw [decide_eq_false e2]
    refine iteF ⟨_, rfl, rfl, _, rfl, ?_⟩
    rw [dec_int]
    by_cases e3 : way = 3
    · rw [decide_eq_true e3]
      refine iteT ⟨_, rfl, b, n, x, d, rfl, bx, dq, fd_, hw, q.imp id fun z => ⟨z.1, z.2.1, z.2.2.1, ?_⟩⟩
      have z2 := z.2.2.2.2
      unfold gTold at z2
      rw [if_neg e0, if_neg e1, if_neg e2, if_pos e3] at z2
      exact z2
    rw [decide_eq_false e3]
    refine iteF ⟨_, rfl, rfl, _, rfl, ?_⟩
    rw [dec_int]
    by_cases e4 : way = 4
    · rw [decide_eq_true e4]
      refine iteT ⟨_, rfl, b, n, x, d, rfl, bx, dq, fd_, hw, q.imp id fun z => ⟨z.1, z.2.1, z.2.2.1, ?_⟩⟩
      have z2 := z.2.2.2.2
      unfold gTold at z2
      rw [if_neg e0, if_neg e1, if_neg e2, if_neg e3] at z2
      exact z2
    rw [decide_eq_false e4]
    rcases q with ⟨g, q⟩ | ⟨_, _, _, hw4, _⟩
    · exact iteF ⟨_, rfl, b, x, d, rfl, dq, fd_, hw, g, q⟩
    · omega
set_option maxHeartbeats 2000000 in
theorem ok_l_refused {k : Nat} (T : TP K mg) : FnG P w K mg base (k + 9) T.d_l_refused.f T.d_l_refused.fd ["_law_way", "_law_value"] spRefused := by
  have G_l_told : FnOk P w K mg base (L2.CX P w) 8 T.d_l_told.f T.d_l_told.fd ["_law_way", "_law_value"] (spTold T.cIB) := ok_l_told T
  refine FnG.of T.d_l_refused.F sc_l_refused (fun vs H Q E h => ?_) (fun cdv A outer s H vs Q E quiet hr h => ?_)
  · obtain ⟨b, n, way, x, d, rfl, _⟩ := h
    rfl
  · obtain ⟨b, n, way, x, d, rfl, bx, dq, od, q⟩ := h
    have oo := oddB_iff.mp od
    refine ⟨_, (pss_cons (ps_set (i := 2) sc_l_refused.nd rfl (.inl rfl) (pe_lst pa_nil))
    (pss_cons (ps_try_as (i := 3) rfl rfl sc_l_refused.nd rfl rfl ⟨rfl, by decide, Or.inl T.ib.gC⟩ takes0 (fun W pn xe tk _ => (pss_one (ps_expr (pe_callS G_l_told (hr.mono (by omega)) (by rfl) T.d_l_told.g T.d_l_told.F.kp T.d_l_told.b (fun σ => passAt tk σ) (pa_cons (pv 0) (pa_cons (pv 1) pa_nil)))))) (fun a oe cls d pn hz hf => (pss_one (ps_set (i := 2) sc_l_refused.nd rfl (.inl rfl) (pe_lst (pa_cons (pe_xf T.ib.xf T.ib.no hz hf (pv 3)) (pa_cons (pe_callB (CaV.call_isX hz hf T.ib.ex) (by rfl) T.n_isinstance (by decide +kernel) (pa_cons (pv 3) (pa_cons (pe_glob (v := .ref T.cCE) rfl T.gCE rfl) pa_nil))) (pa_cons (pe_callB (CaV.call_isX hz hf T.ib.ex) (by rfl) T.n_isinstance (by decide +kernel) (pa_cons (pv 3) (pa_cons (pe_glob (v := .ref T.cIT) rfl T.gIT rfl) pa_nil))) pa_nil))))))))
    (pss_cons (ps_if (pt_val (pe_callB CaV.call_isV (by rfl) T.n_isinstance (by decide +kernel) (pa_cons (pv 1) (pa_cons (pe_bltn (v := .ty "list") (by rfl) T.n_list (by decide +kernel) rfl) pa_nil))))
      (pss_one (ps_expr (pe_bm PySem.F.plainAttrs_list PySem.F.slot_list_append PySem.F.type_list_append mt_append (pv 1) (pa_cons pe_str pa_nil))))
      pss_nil)
    (pss_one (ps_ret (pe_cmpR op_eq (pe_callB (call_reprQ (b := b) quiet hr.units) (by rfl) T.n_repr (by decide +kernel) (pa_cons (pv 2) pa_nil)) (pe_callB (call_reprQ (b := b) quiet hr.units) (by rfl) T.n_repr (by decide +kernel) (pa_cons (pe_lst (pa_cons (pv 1) (pa_cons pe_bl (pa_cons pe_bl pa_nil)))) pa_nil)) (nomark _))))))), ?_⟩
    refine ⟨Nat.zero_le _, fun p0 np0 => ?_⟩
    have s0 := same_new (o := .lst []) np0
    refine ⟨_, rfl, _, rfl, b, n, way, x, d, rfl, bx.same s0, Dq.same s0 _ _ dq, oo.2.1, by omega, .inl ⟨oo.1, fun H1 dd s1 hd => ?_⟩⟩
    have s01 := s0.trans s1
    refine ⟨true, T.mat, fun _ ea _ => ?_, fun z => Bool.noConfusion z⟩
    refine ⟨_, rfl, rfl, rfl, dd, _, x, rfl, hd, rfl, _, rfl, .ref T.cCE, _, true, dd, _, rfl, rfl, rfl, hd, .own _, T.kCE, _, rfl, .ref T.cIT, _, false, dd, _, rfl, rfl, rfl, hd, .own _, T.kIT, (by show 3 ≤ sizeLine; decide), fun pf npf => ?_⟩
    have s2 := same_new (o := .lst [x, .bl true, .bl false]) npf
    have s02 := s01.trans s2
    have hpf : (upd H1 pf (.lst [x, .bl true, .bl false])) pf = some (.lst [x, .bl true, .bl false]) := upd_same
    have npfH : H pf = none := fresh_same s01 npf
    have bxf := bx.same s02
    have nefb : pf ≠ b := bx.ne npfH
    have dqf := Dq.same s02 _ _ dq
    show gName 2 _ _ (upd H1 pf (.lst [x, .bl true, .bl false])) _
    generalize upd H1 pf (.lst [x, .bl true, .bl false]) = H2 at s02 hpf bxf dqf ⊢
    -- behind the change, if any: the end
    have last : ∀ (d' : PyData) (H3 : Hp), Dq b H3 x d' → fine d' = true → wt d' ≤ 5000 → d'.depth ≤ 41 → H3 pf = some (.lst [x, .bl true, .bl false]) → Bx H3 b n → (∀ a o, H a = some o → a ≠ b → (isL d = true → x ≠ .ref a) → H3 a = some o) →
        rReprQ b [.ref pf] H3 fun v H4 => ∀ pq, H4 pq = none → rReprQ b [.ref pq] (upd H4 pq (.lst [x, .bl true, .bl false])) fun u H5 => v = u ∧ Q (.bl true) H5 := by
      intro d' H3 dx fx wx gx hp3 bx3 keep
      have f2 : fine (.list [d', .bool true, .bool false]) = true := by
        simp only [fine, fineAll, fx, Bool.and_true]
      have w2 : wt (.list [d', .bool true, .bool false]) ≤ 60000 := by
        simp only [wt, wtAll]
        omega
      have g2 : (PyData.list [d', .bool true, .bool false]).depth ≤ 60 := by
        simp only [PyData.depth, PyData.depthAll]
        omega
      refine ⟨_, .list [d', .bool true, .bool false], rfl, .lst hp3 nefb (.cons dx (.cons (.bl _) (.cons (.bl _) .nil))), f2, w2, g2, fun pq npq => ?_⟩
      have s4 := same_new (o := .lst [x, .bl true, .bl false]) npq
      refine ⟨_, .list [d', .bool true, .bool false], rfl, .lst upd_same (bx3.ne npq) (.cons (Dq.same s4 _ _ dx) (.cons (.bl _) (.cons (.bl _) .nil))), f2, w2, g2, rfl, ?_⟩
      exact q _ fun a o z na nx => s4 _ _ (keep a o z na nx)
    refine ⟨_, rfl, _, _, _, _, isL d, rfl, .ty "list", .inl dqf.ty, kit_ty (kit_list _), _, rfl, ?_⟩
    cases d with
    | list ds =>
      refine iteT ?_
      cases dqf with
      | @lst a xs _ h1 h2 h3 =>
        have hl := h3.len
        have wl := wtAll_len ds
        have hw : wtAll ds + 1 ≤ 4000 := by
          have := oo.2.2.1
          simpa only [wt] using this
        have pu : pureAll ds = true := oo.2.2.2.2
        have nfa : pf ≠ a := fun z => by
          subst z
          cases dq with
          | lst k1 _ _ =>
            rw [npfH] at k1
            cases k1
        refine ⟨_, rfl, .inl ⟨rfl, _, SqL.of h1⟩, a, xs, _, rfl, rfl, h1, Nat.lt_of_le_of_lt (show xs.length ≤ 5000 by omega) (by decide), ?_⟩
        have t3 : Tp H2 (upd H2 a (.lst (xs ++ [.str "later"]))) := Tp.lst h1
        have l3 := last (.list (ds ++ [.str "later"])) (upd H2 a (.lst (xs ++ [.str "later"]))) (.lst upd_same h2 ((dqAll_tp t3 _ _ pu h3).append (.cons (.str _) .nil))) ?_ ?_ ?_ (by rw [upd_ne nfa]; exact hpf) ?_ (fun a2 o z na nx => ?_)
        · obtain ⟨v1, d1, ev, dv, fv, wv, gv, nx⟩ := l3
          refine ⟨_, rfl, v1, d1, ev, dv, fv, wv, gv, ?_⟩
          refine ⟨_, rfl, (by show 3 ≤ sizeLine; decide), fun pq npq => ?_⟩
          obtain ⟨v2, d2, ev2, dv2, fv2, wv2, gv2, e12, qq⟩ := nx pq npq
          refine ⟨v2, d2, ev2, dv2, fv2, wv2, gv2, rfl, ?_⟩
          rw [decide_eq_true e12]
          exact qq
        · have := oo.2.1
          simp only [fine] at this ⊢
          rw [fine_app, this]
          decide +kernel
        · simp only [wt]
          rw [wtAll_append]
          simp only [wtAll, wt]
          omega
        · have := oo.2.2.2.1
          simp only [PyData.depth] at this ⊢
          have z := (depthAll_le (n := 40) (xs := ds ++ [.str "later"])).mpr fun e he => by
            rcases List.mem_append.mp he with he | he
            · have := depth_mem he
              omega
            · rw [List.mem_singleton.mp he]
              simp [PyData.depth]
          omega
        · obtain ⟨m, r, c, e1, e2⟩ := bxf
          exact ⟨m, r, c, by rw [upd_ne h2.symm]; exact e1, e2⟩
        · rw [upd_ne (fun e => nx rfl (by rw [e]))]
          exact s02 _ _ z
    | _ =>
      refine iteF ?_
      obtain ⟨v1, d1, ev, dv, fv, wv, gv, nx⟩ := last _ H2 dqf oo.2.1 (by omega) (by omega) hpf bxf (fun a o z _ _ => s02 _ _ z)
      refine ⟨_, rfl, v1, d1, ev, dv, fv, wv, gv, ?_⟩
      refine ⟨_, rfl, (by show 3 ≤ sizeLine; decide), fun pq npq => ?_⟩
      obtain ⟨v2, d2, ev2, dv2, fv2, wv2, gv2, e12, qq⟩ := nx pq npq
      refine ⟨v2, d2, ev2, dv2, fv2, wv2, gv2, rfl, ?_⟩
      rw [decide_eq_true e12]
      exact qq
end
end K12
set_option Elab.async false
set_option linter.all false
set_option maxRecDepth 100000
namespace K12
open PySem PySem.Spec PyProof.Rows L2 CaV CaL CaN CaD CaG
def spRight : Sp := fun vs H Q _ => ∃ (b : Addr), vs = [.ref b] ∧ Bx H b 0 ∧ ∀ H', Kp b H H' → Q (.bl true) H'
theorem ne_str (x : Str) : (!decide (V.str x = V.str x)) = false := by
  rw [decide_eq_true rfl]
  rfl
theorem fine_pre {d : PyData} (h : fine d = true) : ∀ x ∈ pre d, fine x = true := pre_mem (R := fun d => fine d = true) (fun d hd c hc => inner_fine hd hc) d h
theorem depth_pre {d : PyData} {n : Nat} (h : d.depth ≤ n) : ∀ x ∈ pre d, x.depth ≤ n := pre_mem (R := fun d => d.depth ≤ n) (fun d hd c hc => by
  have := lt_inner hc
  omega) d h
theorem nm_ok {x : PyData} (h : fine x = true) : fine (nmD x) = true ∧ wt (nmD x) ≤ wt x ∧ (nmD x).depth ≤ x.depth := by
  unfold nmD
  split
  · rename_i a d r
    refine ⟨fine_tup h d (by simp), ?_, ?_⟩
    · simp only [wt, wtAll]
      omega
    · have : d.depth ≤ PyData.depthAll (a :: d :: r) := depth_mem (by simp)
      simp only [PyData.depth] at this ⊢
      omega
  · exact ⟨rfl, wt_pos x, Nat.zero_le _⟩
theorem sel_wt (t : PyData → Bool) (f : PyData → PyData) : ∀ (L : List PyData), (∀ x ∈ L, wt (f x) ≤ wt x) → wtAll (selD t f L) ≤ wtAll L
  | [], _ => Nat.le_refl _
  | x :: L, h => by
    have ih := sel_wt t f L fun y m => h y (List.mem_cons_of_mem _ m)
    have h1 := h x List.mem_cons_self
    unfold selD at ih ⊢
    by_cases c : t x = true
    · rw [List.filter_cons_of_pos c, List.map_cons]
      simp only [wtAll]
      omega
    · rw [List.filter_cons_of_neg c]
      simp only [wtAll]
      omega
theorem sel_mem {t : PyData → Bool} {f : PyData → PyData} {L : List PyData} {y : PyData} (h : y ∈ selD t f L) : ∃ x ∈ L, y = f x := by
  obtain ⟨x, hx, rfl⟩ := List.mem_map.mp h
  exact ⟨x, (List.mem_filter.mp hx).1, rfl⟩
theorem sel_ok {d : PyData} (t : PyData → Bool) (f : PyData → PyData) (hf : ∀ x, fine x = true → fine (f x) = true ∧ wt (f x) ≤ wt x ∧ (f x).depth ≤ x.depth) (fd_ : fine d = true) (hw : wt d ≤ 500) (hd : d.depth ≤ 24) : fine (.list (selD t f (pre d))) = true ∧ wt (.list (selD t f (pre d))) ≤ 60000 ∧ (PyData.list (selD t f (pre d))).depth ≤ 60 := by
  have f1 := fine_pre fd_
  refine ⟨?_, ?_, ?_⟩
  · simp only [fine]
    refine fineAll_iff.mpr fun y hy => ?_
    obtain ⟨x, hx, rfl⟩ := sel_mem hy
    exact (hf x (f1 x hx)).1
  · have h1 := sel_wt t f (pre d) fun x hx => (hf x (f1 x hx)).2.1
    have h2 := pre_wt d
    have h3 : wt d * (d.depth + 1) ≤ 500 * 25 := Nat.mul_le_mul hw (by omega)
    simp only [wt]
    omega
  · simp only [PyData.depth]
    have := (depthAll_le (n := 24) (xs := selD t f (pre d))).mpr fun y hy => by
      obtain ⟨x, hx, rfl⟩ := sel_mem hy
      exact Nat.le_trans (hf x (f1 x hx)).2.2 (depth_pre hd x hx)
    omega
theorem told_ok {d : PyData} (way : Int) (fd_ : fine d = true) (hw : wt d ≤ 500) (hd : d.depth ≤ 24) : fine (gTold way (preL d 1)) = true ∧ wt (gTold way (preL d 1)) ≤ 60000 ∧ (gTold way (preL d 1)).depth ≤ 60 := by
  have i1 : ∀ n : Nat, n ≤ 1000 → fine (.int (n : Int)) = true ∧ wt (.int (n : Int)) ≤ 60000 ∧ (PyData.int (n : Int)).depth ≤ 60 := fun n h => ⟨decide_eq_true (by omega), by simp [wt], by simp [PyData.depth]⟩
  have e1 : (preL d 1).length = (pre d).length := by
    unfold pre
    rw [List.length_map]
  have e2 : (preL d 1).map (·.1) = pre d := rfl
  unfold gTold
  split
  · refine i1 _ ?_
    have := pre_len d
    omega
  · split
    · refine i1 _ ?_
      have := dep_le d
      have e : maxL ((preL d 1).map (·.2)) = dep d := rfl
      rw [e]
      omega
    · split
      · exact sel_ok isUse nmD (fun x h => nm_ok h) fd_ hw hd
      · split
        · exact sel_ok isBin nmD (fun x h => nm_ok h) fd_ hw hd
        · exact sel_ok isCall id (fun x h => ⟨h, Nat.le_refl _, Nat.le_refl _⟩) fd_ hw hd
def dueL (d : PyData) : List PyData := [.int ((pre d).length : Nat), .int (dep d : Nat), .list (selD isUse nmD (pre d)), .list (selD isBin nmD (pre d)), .list (selD isCall id (pre d))]
theorem due_at (d : PyData) {way : Int} (h0 : 0 ≤ way) (h4 : way ≤ 4) : (dueL d)[way.toNat]? = some (gTold way (preL d 1)) := by
  have e1 : (preL d 1).length = (pre d).length := by
    unfold pre
    rw [List.length_map]
  have : way = 0 ∨ way = 1 ∨ way = 2 ∨ way = 3 ∨ way = 4 := by omega
  rcases this with rfl | rfl | rfl | rfl | rfl
  · show some (PyData.int ((pre d).length : Nat)) = some (gSize (preL d 1))
    unfold gSize
    rw [e1]
  · rfl
  · rfl
  · rfl
  · rfl
theorem len_le {d : PyData} (hw : wt d ≤ 500) : (pre d).length ≤ 500 := by
  have := pre_len d
  omega
theorem oddB_mono {W D W' D' : Nat} {d : PyData} (h : oddB W D d = true) (h1 : W ≤ W') (h2 : D ≤ D') : oddB W' D' d = true := by
  have o := oddB_iff.mp h
  exact oddB_iff.mpr ⟨o.1, o.2.1, Nat.le_trans o.2.2.1 h1, Nat.le_trans o.2.2.2.1 h2, o.2.2.2.2⟩
theorem no_part {d : PyData} (h : Pb d = false) : gb d = false := by
  show goodF Pb d = false
  rw [goodF_eq, h]
  rfl
section
variable {ds : List PyData} (fd_ : fine (.tuple ds) = true) (hw : wt (.tuple ds) ≤ 500) (hd : (PyData.tuple ds).depth ≤ 24) (pu : pureD (.tuple ds) = true)
include fd_ hw hd
theorem odd_list (pu : pureD (.tuple ds) = true) : oddB 4000 40 (.list ds) = true := by
  refine oddB_iff.mpr ⟨no_part rfl, ?_, ?_, ?_, ?_⟩
  · simpa only [fine] using fd_
  · simp only [wt] at hw ⊢
    omega
  · simp only [PyData.depth] at hd ⊢
    omega
  · simpa only [pureL, pureD] using pu
theorem odd_in : oddB 4000 40 (.tuple [.str "op", .str "f", .list [.tuple ds]]) = true := by
  have e : Pb (.tuple [.str "op", .str "f", .list [.tuple ds]]) = false := by
    show (bodyK.contains "op" && bodyD none "op" (.str "f") [.list [.tuple ds]]) = false
    unfold bodyD
    rw [if_neg (by decide +kernel), if_neg (by decide +kernel), if_pos rfl]
    unfold rowD
    simp
  have f1 : fine (.str "op") = true := by decide +kernel
  have f2 : fine (.str "f") = true := by decide +kernel
  refine oddB_iff.mpr ⟨no_part e, ?_, ?_, ?_, rfl⟩
  · simp only [fine, fineAll, Bool.and_eq_true] at fd_ f1 f2 ⊢
    exact ⟨f1, f2, ⟨fd_, trivial⟩, trivial⟩
  · simp only [wt, wtAll] at hw ⊢
    omega
  · simp only [PyData.depth, PyData.depthAll] at hd ⊢
    omega
theorem odd_want {z : Str} (hz : nameS z = true) : oddB 4000 40 (.tuple [.str "want", .str ("$" ++ z), .tuple ds, .tuple ds]) = true := by
  have nz : nameS ("$" ++ z) = false := by
    cases e : nameS ("$" ++ z) with
    | false => rfl
    | true =>
      have := name_no_doll e
      rw [doll_doll] at this
      cases this
  have e : Pb (.tuple [.str "want", .str ("$" ++ z), .tuple ds, .tuple ds]) = false := by
    show (bodyK.contains "want" && bodyD none "want" (.str ("$" ++ z)) [.tuple ds, .tuple ds]) = false
    unfold bodyD
    rw [if_neg (by decide +kernel), if_neg (by decide +kernel), if_neg (by decide +kernel), if_neg (by decide +kernel), if_pos rfl, show nameD (.str ("$" ++ z)) = false from nz]
    simp
  have f1 : fine (.str "want") = true := by decide +kernel
  have f2 : fine (.str ("$" ++ z)) = true := (doll_par hz).1
  refine oddB_iff.mpr ⟨no_part e, ?_, ?_, ?_, rfl⟩
  · simp only [fine, fineAll, Bool.and_eq_true] at fd_ f1 f2 ⊢
    exact ⟨f1, f2, fd_, fd_, trivial⟩
  · simp only [wt, wtAll] at hw ⊢
    omega
  · simp only [PyData.depth, PyData.depthAll] at hd ⊢
    omega
end
theorem part_len {kd : Str} {d1 : PyData} {r : List PyData} (h : Pb (.tuple (.str kd :: d1 :: r)) = true) : r.length = if kd = "name" ∨ kd = "hole" then 0 else if kd = "op" ∨ kd = "call" then 1 else 2 := by
  rcases shape3 h with ⟨hk, rfl⟩ | ⟨hk, zs, rfl⟩ | ⟨hk, x, y, rfl⟩
  · rw [if_pos hk]
    rfl
  · rw [if_neg (by rcases hk with rfl | rfl <;> decide +kernel), if_pos hk]
    rfl
  · rw [if_neg (by rcases hk with rfl | rfl | rfl <;> decide +kernel), if_neg (by rcases hk with rfl | rfl | rfl <;> decide +kernel)]
    rfl
theorem odd_more {kd : Str} {d1 : PyData} {r : List PyData} (hp : Pb (.tuple (.str kd :: d1 :: r)) = true) (fd_ : fine (.tuple (.str kd :: d1 :: r)) = true) (hw : wt (.tuple (.str kd :: d1 :: r)) ≤ 500) (hd : (PyData.tuple (.str kd :: d1 :: r)).depth ≤ 24) : oddB 4000 40 (.tuple (.str kd :: d1 :: r ++ [.int 1])) = true := by
  have e : Pb (.tuple (.str kd :: d1 :: (r ++ [.int 1]))) = false := by
    cases z : Pb (.tuple (.str kd :: d1 :: (r ++ [.int 1]))) with
    | false => rfl
    | true =>
      have h1 := part_len hp
      have h2 := part_len z
      rw [List.length_append, List.length_singleton] at h2
      omega
  refine oddB_iff.mpr ⟨no_part e, ?_, ?_, ?_, rfl⟩
  · have := fd_
    simp only [fine] at this ⊢
    rw [fine_app, this]
    decide +kernel
  · simp only [wt] at hw ⊢
    rw [wtAll_append]
    simp only [wtAll, wt] at hw ⊢
    omega
  · simp only [PyData.depth] at hd ⊢
    have := (depthAll_le (n := 24) (xs := .str kd :: d1 :: r ++ [.int 1])).mpr fun y hy => by
      rcases List.mem_append.mp hy with hy | hy
      · have := depth_mem hy
        omega
      · rw [List.mem_singleton.mp hy]
        simp [PyData.depth]
    omega
theorem cut_one (d0 d1 : PyData) (r : List PyData) : CaD.cutD (d0 :: d1 :: r) none (some 1) = [d0] := by
  rw [cut_take _ (by decide) (by simp only [List.length_cons]; omega)]
  rfl
theorem odd_first {kd : Str} (f : fine (.str kd) = true) : oddB 4000 40 (.tuple [.str kd]) = true := by
  refine oddB_iff.mpr ⟨no_part rfl, ?_, by simp [wt, wtAll], by simp [PyData.depth, PyData.depthAll], rfl⟩
  simp only [fine, fineAll, Bool.and_eq_true] at f ⊢
  exact ⟨f, trivial⟩
def oddC : List PyData := [.list [], .tuple [], .tuple [.str "name", .str "abcdefg"], .none, .bool true, .int 7, .str "a", .tuple [.str "call", .str "t", .tuple (List.replicate 6 (.tuple [.str "name", .str "x"]))], .tuple [.str "op", .str "f", .tuple (List.replicate 4 (.tuple [.str "name", .str "x"]))], .dict []]
theorem oddC_ok : ∀ d ∈ oddC, oddB 4000 40 d = true := by decide +kernel
/-- a thing that is no body, new if it is a list -/
def OddI (b : Addr) (H0 H : Hp) (v : V) : Prop := ∃ d, Dq b H v d ∧ oddB 4000 40 d = true ∧ (isL d = true → ∀ p, v = .ref p → H0 p = none)
section
variable {P : Program} {w : World} {K : PySem.W.Frag} {mg : Str → Option Value} {base : Heap}
set_option maxHeartbeats 8000000 in
theorem ok_l_right {k : Nat} (T : TP K mg) : FnG P w K mg base (k + 30) T.d_l_right.f T.d_l_right.fd ["_law_purse_here"] spRight := by
  have G_l_take : FnOk P w K mg base CX0 1 T.d_l_take.f T.d_l_take.fd ["_law_purse_here", "_law_many"] spTake := ok_take T
  have G_l_pool : FnOk P w K mg base CX0 2 T.d_l_pool.f T.d_l_pool.fd ["_law_purse_here"] spPool := ok_l_pool T
  have G_l_piece : FnOk P w K mg base CX0 26 T.d_l_piece.f T.d_l_piece.fd ["_law_purse_here", "_law_pool_here", "_law_room", "_law_deep_here", "_law_way"] (spPiece 12) := ok_l_piece T 12
  have G_l_all : FnOk P w K mg base CX0 27 T.d_l_all.f T.d_l_all.fd ["_law_value"] (spAll 25) := ok_l_all T 25
  have G_l_deep : FnOk P w K mg base CX0 27 T.d_l_deep.f T.d_l_deep.fd ["_law_value"] (spDeep 25) := ok_l_deep T 25
  have G_l_told : FnOk P w K mg base (L2.CX P w) 8 T.d_l_told.f T.d_l_told.fd ["_law_way", "_law_value"] (spTold T.cIB) := ok_l_told T
  have G_l_bad : FnOk P w K mg base CX0 28 T.d_l_bad.f T.d_l_bad.fd ["_law_purse_here", "_law_value"] (spBad 25) := ok_l_bad T 25
  have G_l_refused : FnG P w K mg base 9 T.d_l_refused.f T.d_l_refused.fd ["_law_way", "_law_value"] spRefused := ok_l_refused T
  refine FnG.of T.d_l_right.F sc_l_right (fun vs H Q E h => ?_) (fun cdv A outer s H vs Q E quiet hr h => ?_)
  · obtain ⟨b, rfl, _⟩ := h
    rfl
  · obtain ⟨b, rfl, bx, q⟩ := h
    refine ⟨_, (pss_cons (ps_set (i := 1) sc_l_right.nd rfl (.inl rfl) (pe_call G_l_pool (hr.mono (by omega)) (by rfl) T.d_l_pool.g T.d_l_pool.F.kp T.d_l_pool.b .nil pass0 (pa_cons (pv 0) pa_nil)))
    (pss_cons (ps_set (i := 2) sc_l_right.nd rfl (.inl rfl) (pe_op op_add pe_int (pe_call G_l_take (hr.mono (by omega)) (by rfl) T.d_l_take.g T.d_l_take.F.kp T.d_l_take.b .nil pass0 (pa_cons (pv 0) (pa_cons pe_int pa_nil)))))
    (pss_cons (ps_if (pt_cmpR op_eq (pe_call G_l_take (hr.mono (by omega)) (by rfl) T.d_l_take.g T.d_l_take.F.kp T.d_l_take.b .nil pass0 (pa_cons (pv 0) (pa_cons pe_int pa_nil))) pe_int (nomark _))
      (pss_one (ps_set (i := 2) sc_l_right.nd rfl (.inl rfl) (pe_op op_add pe_int (pe_call G_l_take (hr.mono (by omega)) (by rfl) T.d_l_take.g T.d_l_take.F.kp T.d_l_take.b .nil pass0 (pa_cons (pv 0) (pa_cons pe_int pa_nil))))))
      pss_nil)
    (pss_cons (ps_set (i := 3) sc_l_right.nd rfl (.inl rfl) (pe_call G_l_piece (hr.mono (by omega)) (by rfl) T.d_l_piece.g T.d_l_piece.F.kp T.d_l_piece.b .nil pass0 (pa_cons (pv 0) (pa_cons (pv 1) (pa_cons (pv 2) (pa_cons pe_int (pa_cons pe_int pa_nil)))))))
    (pss_cons (ps_set (i := 4) sc_l_right.nd rfl (.inl rfl) (pe_call G_l_all (hr.mono (by omega)) (by rfl) T.d_l_all.g T.d_l_all.F.kp T.d_l_all.b .nil pass0 (pa_cons (pv 3) pa_nil)))
    (pss_cons (ps_set (i := 5) sc_l_right.nd rfl (.inl rfl) (pe_lst (pa_cons (pe_callB call_len_seq (by rfl) T.n_len PySem.boot_len (pa_cons (pv 4) pa_nil)) (pa_cons (pe_call G_l_deep (hr.mono (by omega)) (by rfl) T.d_l_deep.g T.d_l_deep.F.kp T.d_l_deep.b .nil pass0 (pa_cons (pv 3) pa_nil)) (pa_cons (pe_lc (own := [("_law_part", 11)]) (g := gName 11) (by rfl) sc_l_right.nd (pi_list (pv 4)) (blkOk_by (own := [("_law_part", 11)]) (N := N_l_right) (sc := defScope s_l_right) (by decide +kernel)) (fun _ _ _ _ _ => pg_name (i := 11) sc_l_right.nd rfl (Or.inl rfl)) (fun _ _ _ _ _ => (pts_one (pt_cmpR op_eq (pe_ix (show IxR _ (rIxT K) from ix_tup) (pv 11) pe_int (fun _ _ => rfl)) pe_str (nomark _)))) (fun _ _ _ _ _ => (pe_ix (show IxR _ (rIxT K) from ix_tup) (pv 11) pe_int (fun _ _ => rfl)))) pa_nil)))))
    (pss_cons (ps_expr (pe_bm PySem.F.plainAttrs_list PySem.F.slot_list_append PySem.F.type_list_append mt_append (pv 5) (pa_cons (pe_lc (own := [("_law_part", 11)]) (g := gName 11) (by rfl) sc_l_right.nd (pi_list (pv 4)) (blkOk_by (own := [("_law_part", 11)]) (N := N_l_right) (sc := defScope s_l_right) (by decide +kernel)) (fun _ _ _ _ _ => pg_name (i := 11) sc_l_right.nd rfl (Or.inl rfl)) (fun _ _ _ _ _ => (pts_one (pt_cmpR (show OpR _ (compareOp .In) (rIn K false) from op_in_seq) (pe_ix (show IxR _ (rIxT K) from ix_tup) (pv 11) pe_int (fun _ _ => rfl)) (pe_tup (pa_cons pe_str (pa_cons pe_str (pa_cons pe_str pa_nil)))) (by with_unfolding_all rfl)))) (fun _ _ _ _ _ => (pe_ix (show IxR _ (rIxT K) from ix_tup) (pv 11) pe_int (fun _ _ => rfl)))) pa_nil)))
    (pss_cons (ps_expr (pe_bm PySem.F.plainAttrs_list PySem.F.slot_list_append PySem.F.type_list_append mt_append (pv 5) (pa_cons (pe_lc (own := [("_law_part", 11)]) (g := gName 11) (by rfl) sc_l_right.nd (pi_list (pv 4)) (blkOk_by (own := [("_law_part", 11)]) (N := N_l_right) (sc := defScope s_l_right) (by decide +kernel)) (fun _ _ _ _ _ => pg_name (i := 11) sc_l_right.nd rfl (Or.inl rfl)) (fun _ _ _ _ _ => (pts_one (pt_cmpR op_eq (pe_ix (show IxR _ (rIxT K) from ix_tup) (pv 11) pe_int (fun _ _ => rfl)) pe_str (nomark _)))) (fun _ _ _ _ _ => (pv 11))) pa_nil)))
    (pss_cons (ps_set (i := 6) sc_l_right.nd rfl (.inl rfl) (pe_call G_l_take (hr.mono (by omega)) (by rfl) T.d_l_take.g T.d_l_take.F.kp T.d_l_take.b .nil pass0 (pa_cons (pv 0) (pa_cons pe_int pa_nil))))
    (pss_cons (ps_for PassesOwn.never rfl (pi_list (pe_lst (pa_cons (pv 6) (pa_cons pe_int (pa_cons pe_int (pa_cons pe_int (pa_cons pe_int (pa_cons pe_int (pa_cons (pv 6) pa_nil))))))))) (pg_name (i := 7) sc_l_right.nd rfl (.inl rfl))
      (pss_cons (ps_set (i := 8) sc_l_right.nd rfl (.inl rfl) (pe_call G_l_told (hr.mono (by omega)) (by rfl) T.d_l_told.g T.d_l_told.F.kp T.d_l_told.b .nil CaV.passNo (pa_cons (pv 7) (pa_cons (pv 3) pa_nil))))
      (pss_cons (ps_if (pt_cmpR op_ne (pe_callB (call_reprQ (b := b) quiet hr.units) (by rfl) T.n_repr (by decide +kernel) (pa_cons (pv 8) pa_nil)) (pe_callB (call_reprQ (b := b) quiet hr.units) (by rfl) T.n_repr (by decide +kernel) (pa_cons (pe_ix ix_list (pv 5) (pv 7) (fun _ _ => rfl)) pa_nil)) (nomark _))
        (pss_one (ps_ret pe_bl))
        pss_nil)
      (pss_one (ps_if (pt_val (pe_callB CaV.call_isV (by rfl) T.n_isinstance (by decide +kernel) (pa_cons (pv 8) (pa_cons (pe_bltn (v := .ty "list") (by rfl) T.n_list (by decide +kernel) rfl) pa_nil))))
        (pss_one (ps_expr (pe_bm PySem.F.plainAttrs_list PySem.F.slot_list_append PySem.F.type_list_append mt_append (pv 8) (pa_cons pe_str pa_nil))))
        pss_nil)))))
    (pss_cons (ps_set (i := 9) sc_l_right.nd rfl (.inl rfl) (pe_lst (pa_cons (pe_lst pa_nil) (pa_cons (pe_tup pa_nil) (pa_cons (pe_callTy call_list_of (by rfl) T.n_list (by decide +kernel) (pa_cons (pv 3) pa_nil)) (pa_cons (pe_tup (pa_cons pe_str (pa_cons pe_str (pa_cons (pe_lst (pa_cons (pv 3) pa_nil)) pa_nil)))) (pa_cons (pe_tup (pa_cons pe_str (pa_cons pe_str pa_nil))) (pa_cons pe_non (pa_cons pe_bl (pa_cons pe_int (pa_cons pe_str pa_nil)))))))))))
    (pss_cons (ps_set (i := 9) sc_l_right.nd rfl (.inl rfl) (pe_op op_cat (pv 9) (pe_lst (pa_cons (pe_op op_catA (pv 3) (pe_tup (pa_cons pe_int pa_nil))) (pa_cons (pe_slice sl_tupA (pv 3) po_none (po_some pe_int)) (pa_cons (pe_tup (pa_cons pe_str (pa_cons pe_str (pa_cons (pe_op op_repT (pe_tup (pa_cons (pe_tup (pa_cons pe_str (pa_cons pe_str pa_nil))) pa_nil)) pe_int) pa_nil)))) (pa_cons (pe_tup (pa_cons pe_str (pa_cons pe_str (pa_cons (pe_op op_repT (pe_tup (pa_cons (pe_tup (pa_cons pe_str (pa_cons pe_str pa_nil))) pa_nil)) pe_int) pa_nil)))) pa_nil)))))))
    (pss_cons (ps_set (i := 10) sc_l_right.nd rfl (.inl rfl) (pe_op op_cat (pv 9) (pe_lst (pa_cons (pe_tup (pa_cons pe_str (pa_cons (pe_op op_add_str pe_str (pe_ix ix_list (pv 1) pe_int (fun _ _ => rfl))) (pa_cons (pv 3) (pa_cons (pv 3) pa_nil))))) (pa_cons pe_dnewK pa_nil)))))
    (pss_cons (ps_set (i := 10) sc_l_right.nd rfl (.inl rfl) (pe_ix ix_list (pe_lst (pa_cons (pe_call G_l_bad (hr.mono (by omega)) (by rfl) T.d_l_bad.g T.d_l_bad.F.kp T.d_l_bad.b .nil pass0 (pa_cons (pv 0) (pa_cons (pv 3) pa_nil))) (pa_cons (pe_ix ix_list (pv 10) (pe_call G_l_take (hr.mono (by omega)) (by rfl) T.d_l_take.g T.d_l_take.F.kp T.d_l_take.b .nil pass0 (pa_cons (pv 0) (pa_cons pe_int pa_nil))) (fun _ _ => rfl)) pa_nil))) (pe_call G_l_take (hr.mono (by omega)) (by rfl) T.d_l_take.g T.d_l_take.F.kp T.d_l_take.b .nil pass0 (pa_cons (pv 0) (pa_cons pe_int pa_nil))) (fun _ _ => rfl)))
    (pss_one (ps_ret (pe_callG G_l_refused quiet (hr.mono (by omega)) (by rfl) T.d_l_refused.g T.d_l_refused.F.kp T.d_l_refused.b (pa_cons (pe_call G_l_take (hr.mono (by omega)) (by rfl) T.d_l_take.g T.d_l_take.F.kp T.d_l_take.b .nil pass0 (pa_cons (pv 0) (pa_cons pe_int pa_nil))) (pa_cons (pv 10) pa_nil))))))))))))))))))), ?_⟩
    refine ⟨_, rfl, b, 0, rfl, bx, by decide, fun pp zs H1 npp k1 x1 hz5 hnm hpp nppb => ?_⟩
    refine ⟨_, rfl, b, _, _, rfl, x1, by omega, by decide, by decide, fun d1 H2 l1 u1 x2 k2 => ⟨_, _, rfl, rfl, ?_⟩⟩
    refine ⟨_, rfl, b, _, _, rfl, x2, by omega, by decide, by decide, fun d2 H3 l2 u2 x3 k3 => ⟨rfl, _, rfl, ?_⟩⟩
    have k03 := (k1.trans k2).trans k3
    have hpp3 := k3 _ _ (k2 _ _ hpp nppb) nppb
    by_cases e0 : decide (V.int d2 = V.int 0) = true
    case' pos =>
      rw [e0]
      refine iteT ⟨_, rfl, b, _, _, rfl, x3, by omega, by decide, by decide, fun d3 H4 l3 u3 x4 k4 => ⟨_, _, rfl, rfl, ?_⟩⟩
      have k04 := k03.trans k4
      have hpp4 := k4 _ _ hpp3 nppb
      have x4 : Bx H4 b 11 := x4
      obtain ⟨room, hroom⟩ : ∃ room, room = 40 + d3 := ⟨_, rfl⟩
      have hr3 : 3 ≤ room ∧ room ≤ 119 := by omega
      show tSeq _ _ _ [some (.ref b), some (.ref pp), some (.int (40 + d3)), none, none, none, none, none, none, none, none, none] H4
      rw [← hroom]
      clear hpp hpp3 x1 x2 x3 k1 k2 k3 k03 hroom
    case' neg =>
      rw [show decide (V.int d2 = V.int 0) = false by simpa using e0]
      refine iteF ?_
      have k04 := k03
      have hpp4 := hpp3
      have x4 := x3.mono (k := 11) (by omega)
      obtain ⟨room, hroom⟩ : ∃ room, room = 3 + d1 := ⟨_, rfl⟩
      have hr3 : 3 ≤ room ∧ room ≤ 119 := by omega
      show tSeq _ _ _ [some (.ref b), some (.ref pp), some (.int (3 + d1)), none, none, none, none, none, none, none, none, none] H3
      rw [← hroom]
      obtain ⟨H4, hH4⟩ : ∃ H4, H4 = H3 := ⟨_, rfl⟩
      rw [← hH4] at k04 hpp4 x4 ⊢
      clear hpp hpp3 x1 x2 x3 k1 k2 k3 k03 hroom hH4
    all_goals (
      refine ⟨_, rfl, _, rfl, _, rfl, b, pp, zs, 11, room, 12, 2, rfl, x4, ⟨hpp4, nppb, hz5, hnm⟩, by omega, by decide, by decide, fun v d H5 k5 x5 dq fd_ pu g hw hdp => ?_⟩
      have hw : wt d ≤ 500 := by omega
      have hd24 : d.depth ≤ 24 := by omega
      have k05 := k04.trans k5
      have hpp5 := k5 _ _ hpp4 nppb
      have hlen := len_le hw
      have hp := gb_part g
      clear k04 hpp4 x4 k5
      -- the parts
      refine ⟨_, rfl, b, v, d, rfl, dq, g, by omega, hw, fun pa F H6 s6 npa hpa hF => ?_⟩
      have hl := hF.len
      -- what is due
      refine ⟨_, rfl, pa, _, rfl, .inl (SqL.of hpa), _, rfl, b, v, d, rfl, Dq.same s6 _ _ dq, g, by omega, hw, fun H7 s7 => ?_⟩
      rw [hl]
      have hF7 := DqAll.same s7 _ _ hF
      have hpa7 := s7 _ _ hpa
      have s57 := s6.trans s7
      refine ⟨_, rfl, pa, rfl, ⟨_, SqL.of hpa7⟩, fun D1 nD1 => ?_⟩
      refine lc_list (K := K) (a := pa) (xs := F) (fun i Hi => ∃ acc, Hi D1 = some (.lst acc) ∧ acc.length ≤ i ∧ DqAll b H7 acc (selD isUse nmD ((pre d).take i)) ∧ Same H7 Hi) ⟨[], upd_same, Nat.le_refl _, .nil, same_new nD1⟩ (fun i Hi _ z => ?_) ?_ ?_
      · obtain ⟨acc, _, _, _, si⟩ := z
        exact SqL.of (si _ _ hpa7)
      · rintro i u Hi hu ⟨acc, hD, al, hacc, si⟩
        have hi := (List.getElem?_eq_some_iff.mp hu).1
        have hiz : i < (pre d).length := by
          rw [← hl]
          exact hi
        have e := List.getElem?_eq_getElem hiz
        obtain ⟨u2, w1, w2⟩ := hF7.get e
        rw [hu] at w1
        cases w1
        have hpc : Pb (pre d)[i] = true := gb_part (gb_pre g _ (List.getElem_mem hiz))
        obtain ⟨a, kd, d1', r, v1, vr, rfl, ed, h1, g1', g2', hb⟩ := part_at w2 hpc
        have et : (pre d).take (i + 1) = (pre d).take i ++ [.tuple (.str kd :: d1' :: r)] := by
          rw [take_snoc e, ed]
        rw [ed] at w2
        have h5 := si _ _ ((Same.refl H7) _ _ h1)
        have len5 : acc.length < sizeLine := Nat.lt_of_le_of_lt (show acc.length ≤ 500 by omega) (by decide)
        have em : isUse (.tuple (.str kd :: d1' :: r)) = decide (kd = "name") := rfl
        refine ⟨rfl, _, rfl, a, _, _, .str kd, rfl, rfl, SqT.of h5, at0, rfl, _, rfl, ?_⟩
        rw [dec_str]
        cases ek : decide (kd = "name") with
        | false =>
          refine iteF ⟨acc, hD, by omega, ?_, si⟩
          rw [et, selD_snoc, em, ek, if_neg (by decide), List.append_nil]
          exact hacc
        | true =>
          refine iteT ⟨_, rfl, a, _, _, v1, rfl, rfl, SqT.of h5, at1, acc, hD, len5, _, upd_same, by rw [List.length_append, List.length_singleton]; omega, ?_, fun a2 o z => ?_⟩
          · rw [et, selD_snoc, em, ek, if_pos rfl]
            exact hacc.append (.cons g1' .nil)
          · rw [upd_ne (ne_of_none z nD1)]
            exact si _ _ z
      rintro H8 ⟨A1, hD1, _, hA1, s78⟩
      rw [hl, List.take_length] at hA1
      refine ⟨(by show 3 ≤ sizeLine; decide), fun pd npd => ?_⟩
      have s9 := same_new (o := .lst [.int ((pre d).length : Nat), .int (dep d : Nat), .ref D1]) npd
      have hpd : (upd H8 pd (.lst [.int ((pre d).length : Nat), .int (dep d : Nat), .ref D1])) pd = some (.lst [.int ((pre d).length : Nat), .int (dep d : Nat), .ref D1]) := upd_same
      have s79 := s78.trans s9
      have neD1 : D1 ≠ pd := ne_of_none hD1 npd
      have hD1 := s9 _ _ hD1
      show gName 5 _ _ (upd H8 pd (.lst [.int ((pre d).length : Nat), .int (dep d : Nat), .ref D1])) _
      have npd7 : H7 pd = none := fresh_same s78 npd
      generalize upd H8 pd (.lst [.int ((pre d).length : Nat), .int (dep d : Nat), .ref D1]) = H9 at s79 hpd hD1 ⊢
      -- binders
      refine ⟨_, rfl, .inl ⟨rfl, _, SqL.of hpd⟩, ?_⟩
      have hpa9 := s79 _ _ hpa7
      refine ⟨_, rfl, pa, rfl, ⟨_, SqL.of hpa9⟩, fun D2 nD2 => ?_⟩
      refine lc_list (K := K) (a := pa) (xs := F) (fun i Hi => ∃ acc, Hi D2 = some (.lst acc) ∧ acc.length ≤ i ∧ DqAll b H7 acc (selD isBin nmD ((pre d).take i)) ∧ Same H9 Hi) ⟨[], upd_same, Nat.le_refl _, .nil, same_new nD2⟩ (fun i Hi _ z => ?_) ?_ ?_
      · obtain ⟨acc, _, _, _, si⟩ := z
        exact SqL.of (si _ _ hpa9)
      · rintro i u Hi hu ⟨acc, hD, al, hacc, si⟩
        have hi := (List.getElem?_eq_some_iff.mp hu).1
        have hiz : i < (pre d).length := by
          rw [← hl]
          exact hi
        have e := List.getElem?_eq_getElem hiz
        obtain ⟨u2, w1, w2⟩ := hF7.get e
        rw [hu] at w1
        cases w1
        have hpc : Pb (pre d)[i] = true := gb_part (gb_pre g _ (List.getElem_mem hiz))
        obtain ⟨a, kd, d1', r, v1, vr, rfl, ed, h1, g1', g2', hb⟩ := part_at w2 hpc
        have et : (pre d).take (i + 1) = (pre d).take i ++ [.tuple (.str kd :: d1' :: r)] := by
          rw [take_snoc e, ed]
        rw [ed] at w2
        have h5 := si _ _ (s79 _ _ h1)
        have len5 : acc.length < sizeLine := Nat.lt_of_le_of_lt (show acc.length ≤ 500 by omega) (by decide)
        have em : isBin (.tuple (.str kd :: d1' :: r)) = bindK.contains kd := rfl
        refine ⟨rfl, _, rfl, a, _, _, .str kd, rfl, rfl, SqT.of h5, at0, (by show 3 ≤ sizeLine; decide), fun p np => ⟨p, _, rfl, .inr (SqT.of upd_same), rfl, rfl, _, rfl, ?_⟩⟩
        show if inV (.str kd) (bindK.map V.str) = true then _ else _
        rw [inV_str]
        have sp := same_new (o := .tup [.str "let", .str "each", .str "want"]) np
        have h5 := sp _ _ h5
        cases ek : bindK.contains kd with
        | false =>
          refine iteF ⟨acc, (sp _ _ hD), by omega, ?_, (si.trans sp)⟩
          rw [et, selD_snoc, em, ek, if_neg (by decide), List.append_nil]
          exact hacc
        | true =>
          refine iteT ⟨_, rfl, a, _, _, v1, rfl, rfl, SqT.of h5, at1, acc, (sp _ _ hD), len5, _, upd_same, by rw [List.length_append, List.length_singleton]; omega, ?_, fun a2 o z => ?_⟩
          · rw [et, selD_snoc, em, ek, if_pos rfl]
            exact hacc.append (.cons g1' .nil)
          · rw [upd_ne (ne_of_none z nD2)]
            exact (si.trans sp) _ _ z
      rintro H10 ⟨A2, hD2, _, hA2, s910⟩
      rw [hl, List.take_length] at hA2
      have hpd10 := s910 _ _ hpd
      refine ⟨pd, _, _, rfl, rfl, hpd10, (by show 3 < sizeLine; decide), ?_⟩
      have keep10 : ∀ a o, H7 a = some o → H10 a = some o := fun a o z => s910 _ _ (s79 _ _ z)
      have hD1' := s910 _ _ hD1
      have neD2 : D2 ≠ pd := fun z => by
        rw [z, hpd] at nD2
        cases nD2
      have hpd11 : (upd H10 pd (.lst ([.int ((pre d).length : Nat), .int (dep d : Nat), .ref D1] ++ [.ref D2]))) pd = some (.lst ([.int ((pre d).length : Nat), .int (dep d : Nat), .ref D1] ++ [.ref D2])) := upd_same
      have s711 : Same H7 (upd H10 pd (.lst ([.int ((pre d).length : Nat), .int (dep d : Nat), .ref D1] ++ [.ref D2]))) := fun a o z => by
        rw [upd_ne (ne_of_none z npd7)]
        exact keep10 a o z
      have hD1'' : (upd H10 pd (.lst ([.int ((pre d).length : Nat), .int (dep d : Nat), .ref D1] ++ [.ref D2]))) D1 = some (.lst A1) := by
        rw [upd_ne neD1]
        exact hD1'
      have hD2'' : (upd H10 pd (.lst ([.int ((pre d).length : Nat), .int (dep d : Nat), .ref D1] ++ [.ref D2]))) D2 = some (.lst A2) := by
        rw [upd_ne neD2]
        exact hD2
      show tSeq _ _ _ _ (upd H10 pd (.lst ([.int ((pre d).length : Nat), .int (dep d : Nat), .ref D1] ++ [.ref D2])))
      generalize upd H10 pd (.lst ([.int ((pre d).length : Nat), .int (dep d : Nat), .ref D1] ++ [.ref D2])) = H11 at hpd11 s711 hD1'' hD2'' ⊢
      -- calls
      refine ⟨_, rfl, .inl ⟨rfl, _, SqL.of hpd11⟩, ?_⟩
      have hpa11 := s711 _ _ hpa7
      refine ⟨_, rfl, pa, rfl, ⟨_, SqL.of hpa11⟩, fun D3 nD3 => ?_⟩
      refine lc_list (K := K) (a := pa) (xs := F) (fun i Hi => ∃ acc, Hi D3 = some (.lst acc) ∧ acc.length ≤ i ∧ DqAll b H7 acc (selD isCall id ((pre d).take i)) ∧ Same H11 Hi) ⟨[], upd_same, Nat.le_refl _, .nil, same_new nD3⟩ (fun i Hi _ z => ?_) ?_ ?_
      · obtain ⟨acc, _, _, _, si⟩ := z
        exact SqL.of (si _ _ hpa11)
      · rintro i u Hi hu ⟨acc, hD, al, hacc, si⟩
        have hi := (List.getElem?_eq_some_iff.mp hu).1
        have hiz : i < (pre d).length := by
          rw [← hl]
          exact hi
        have e := List.getElem?_eq_getElem hiz
        obtain ⟨u2, w1, w2⟩ := hF7.get e
        rw [hu] at w1
        cases w1
        have hpc : Pb (pre d)[i] = true := gb_part (gb_pre g _ (List.getElem_mem hiz))
        obtain ⟨a, kd, d1', r, v1, vr, rfl, ed, h1, g1', g2', hb⟩ := part_at w2 hpc
        have et : (pre d).take (i + 1) = (pre d).take i ++ [.tuple (.str kd :: d1' :: r)] := by
          rw [take_snoc e, ed]
        rw [ed] at w2
        have h5 := si _ _ (s711 _ _ h1)
        have len5 : acc.length < sizeLine := Nat.lt_of_le_of_lt (show acc.length ≤ 500 by omega) (by decide)
        have em : isCall (.tuple (.str kd :: d1' :: r)) = decide (kd = "call") := rfl
        refine ⟨rfl, _, rfl, a, _, _, .str kd, rfl, rfl, SqT.of h5, at0, rfl, _, rfl, ?_⟩
        rw [dec_str]
        cases ek : decide (kd = "call") with
        | false =>
          refine iteF ⟨acc, hD, by omega, ?_, si⟩
          rw [et, selD_snoc, em, ek, if_neg (by decide), List.append_nil]
          exact hacc
        | true =>
          refine iteT ⟨_, rfl, acc, hD, len5, _, upd_same, by rw [List.length_append, List.length_singleton]; omega, ?_, fun a2 o z => ?_⟩
          · rw [et, selD_snoc, em, ek, if_pos rfl]
            exact hacc.append (.cons w2 .nil)
          · rw [upd_ne (ne_of_none z nD3)]
            exact si _ _ z
      rintro H12 ⟨A3, hD3, _, hA3, s1112⟩
      rw [hl, List.take_length] at hA3
      have hpd12 := s1112 _ _ hpd11
      have neD3 : D3 ≠ pd := fun z => by
        rw [z, hpd11] at nD3
        cases nD3
      refine ⟨pd, _, _, rfl, rfl, hpd12, (by show 4 < sizeLine; decide), ?_⟩
      have hpd13 : (upd H12 pd (.lst ([.int ((pre d).length : Nat), .int (dep d : Nat), .ref D1] ++ [.ref D2] ++ [.ref D3]))) pd = some (.lst ([.int ((pre d).length : Nat), .int (dep d : Nat), .ref D1] ++ [.ref D2] ++ [.ref D3])) := upd_same
      have s713 : Same H7 (upd H12 pd (.lst ([.int ((pre d).length : Nat), .int (dep d : Nat), .ref D1] ++ [.ref D2] ++ [.ref D3]))) := fun a o z => by
        rw [upd_ne (ne_of_none z npd7)]
        exact s1112 _ _ (s711 _ _ z)
      have hD113 : (upd H12 pd (.lst ([.int ((pre d).length : Nat), .int (dep d : Nat), .ref D1] ++ [.ref D2] ++ [.ref D3]))) D1 = some (.lst A1) := by
        rw [upd_ne neD1]
        exact s1112 _ _ hD1''
      have hD213 : (upd H12 pd (.lst ([.int ((pre d).length : Nat), .int (dep d : Nat), .ref D1] ++ [.ref D2] ++ [.ref D3]))) D2 = some (.lst A2) := by
        rw [upd_ne neD2]
        exact s1112 _ _ hD2''
      have hD313 : (upd H12 pd (.lst ([.int ((pre d).length : Nat), .int (dep d : Nat), .ref D1] ++ [.ref D2] ++ [.ref D3]))) D3 = some (.lst A3) := by
        rw [upd_ne neD3]
        exact hD3
      show tSeq _ _ _ _ (upd H12 pd (.lst ([.int ((pre d).length : Nat), .int (dep d : Nat), .ref D1] ++ [.ref D2] ++ [.ref D3])))
      generalize upd H12 pd (.lst ([.int ((pre d).length : Nat), .int (dep d : Nat), .ref D1] ++ [.ref D2] ++ [.ref D3])) = H13 at hpd13 s713 hD113 hD213 hD313 ⊢
      have x7 := x5.same s57
      have x13 := x7.same s713
      have due13 : DqAll b H13 ([.int ((pre d).length : Nat), .int (dep d : Nat), .ref D1] ++ [.ref D2] ++ [.ref D3]) (dueL d) := .cons (.int _) (.cons (.int _) (.cons (.lst hD113 (x7.ne nD1) (DqAll.same s713 _ _ hA1)) (.cons (.lst hD213 (x7.ne (fresh_same s79 nD2)) (DqAll.same s713 _ _ hA2)) (.cons (.lst hD313 (x7.ne (fresh_same s711 nD3)) (DqAll.same s713 _ _ hA3)) .nil))))
      have nepdb : pd ≠ b := x7.ne npd7
      have dq13 := Dq.same (s57.trans s713) _ _ dq
      have k13 := k05.trans (Kp.of_same (s57.trans s713))
      have hpp13 := s713 _ _ (s57 _ _ hpp5)
      generalize ([V.int ((pre d).length : Nat), .int (dep d : Nat), .ref D1] ++ [V.ref D2] ++ [V.ref D3] : List V) = dueV at hpd13 due13
      clear hD113 hD213 hD313 hA1 hA2 hA3 hD1 hD1' hD1'' hD2'' hD2 hD3 hpd11 hpd12 hpd hpd10 keep10 s1112 s910 s78 s79 s711
      -- first
      refine ⟨_, rfl, b, _, _, rfl, x13, by omega, by decide, by decide, fun d5 H14 l5 u5 x14 k14 => ?_⟩
      have hpd14 := k14 _ _ hpd13 nepdb
      have due14 := DqAll.kp x13 k14 _ _ due13
      have dq14 := Dq.kp x13 k14 _ _ dq13
      have hpp14 := k14 _ _ hpp13 nppb
      have k014 := k13.trans k14
      clear hpd13 due13 dq13 hpp13 x13 k13 k14 s713
      -- the loop
      refine ⟨_, rfl, _, rfl, (by show 7 ≤ sizeLine; decide), fun pl npl => ?_⟩
      have sl := same_new (o := .lst [.int d5, .int 0, .int 1, .int 2, .int 3, .int 4, .int d5]) npl
      have hpl : (upd H14 pl (.lst [.int d5, .int 0, .int 1, .int 2, .int 3, .int 4, .int d5])) pl = some (.lst [.int d5, .int 0, .int 1, .int 2, .int 3, .int 4, .int d5]) := upd_same
      refine ⟨pl, rfl, ⟨_, SqL.of hpl⟩, ?_⟩
      have hpd15 := sl _ _ hpd14
      have due15 := DqAll.same sl _ _ due14
      have dq15 := Dq.same sl _ _ dq14
      have hpp15 := sl _ _ hpp14
      have x15 := x14.same sl
      have k015 := k014.trans (Kp.of_same sl)
      generalize upd H14 pl (.lst [.int d5, .int 0, .int 1, .int 2, .int 3, .int 4, .int d5]) = H15 at hpl hpd15 due15 dq15 hpp15 x15 k015 ⊢
      clear hpd14 due14 dq14 hpp14 x14 k014
      have dul := due15.len
      refine for_list (K := K) (a := pl) (xs := [.int d5, .int 0, .int 1, .int 2, .int 3, .int 4, .int d5]) (fun i σ Hi => ∃ t7 t8, σ = [some (.ref b), some (.ref pp), some (.int room), some v, some (.ref pa), some (.ref pd), some (.int d5), t7, t8, none, none, none] ∧ Same H15 Hi) ⟨none, none, rfl, Same.refl _⟩ ?_ ?_ ?_
      · rintro i σ Hi _ ⟨_, _, _, si⟩
        exact SqL.of (si _ _ hpl)
      · rintro i u σ Hi hu ⟨t7, t8, rfl, si⟩
        obtain ⟨way, rfl, hw0, hw4⟩ : ∃ way : Int, u = .int way ∧ 0 ≤ way ∧ way ≤ 4 := by
          have hm := mem_get hu
          simp only [List.mem_cons, List.not_mem_nil, or_false] at hm
          rcases hm with rfl | rfl | rfl | rfl | rfl | rfl | rfl
          · exact ⟨_, rfl, by omega, by omega⟩
          · exact ⟨_, rfl, by decide, by decide⟩
          · exact ⟨_, rfl, by decide, by decide⟩
          · exact ⟨_, rfl, by decide, by decide⟩
          · exact ⟨_, rfl, by decide, by decide⟩
          · exact ⟨_, rfl, by decide, by decide⟩
          · exact ⟨_, rfl, by omega, by omega⟩
        have tok := told_ok way fd_ hw hd24
        obtain ⟨x, g1, g2⟩ := due15.get (due_at d hw0 hw4)
        have gx : atI dueV way = some x := by
          have z := atI_nat g1
          rwa [Int.toNat_of_nonneg hw0] at z
        refine ⟨_, rfl, _, rfl, b, _, way, v, d, rfl, x15.same si, Dq.same si _ _ dq15, fd_, by omega, .inr ⟨g, by omega, by omega, ⟨hw0, hw4⟩, fun y H6' s6' dy fr => ?_⟩⟩
        have si6 := si.trans s6'
        refine ⟨_, rfl, y, _, rfl, dy, tok.1, tok.2.1, tok.2.2, _, rfl, _, rfl, pd, _, _, x, rfl, rfl, SqL.of (si6 _ _ hpd15), gx, x, _, rfl, Dq.same si6 _ _ g2, tok.1, tok.2.1, tok.2.2, rfl, _, rfl, ?_⟩
        rw [ne_str]
        refine iteF ⟨_, rfl, _, _, _, _, isL (gTold way (preL d 1)), rfl, .ty "list", .inl dy.ty, kit_ty (kit_list _), _, rfl, ?_⟩
        cases et : gTold way (preL d 1) with
        | list es =>
          rw [et] at dy tok
          cases dy with
          | @lst py xs _ h1 h2 h3 =>
            have l3 := h3.len
            have wl := wtAll_len es
            have we : wtAll es + 1 ≤ 60000 := by
              have := tok.2.1
              simpa only [wt] using this
            refine iteT ⟨_, rfl, .inl ⟨rfl, _, SqL.of h1⟩, py, xs, _, rfl, rfl, h1, Nat.lt_of_le_of_lt (show xs.length ≤ 60000 by omega) (by decide), _, _, rfl, fun a o z => ?_⟩
            rw [upd_ne (ne_of_none (si _ _ z) (fr py rfl))]
            exact si6 _ _ z
        | _ => exact iteF ⟨_, _, rfl, si6⟩
      rintro σ H16 ⟨t7, t8, rfl, s16⟩
      have dq16 := Dq.same s16 _ _ dq15
      have hpp16 := s16 _ _ hpp15
      have x16 := x15.same s16
      have k016 := k015.trans (Kp.of_same s16)
      clear hpd15 due15 dq15 hpp15 x15 k015
      obtain ⟨av, kd, d1', r, v1, vr, rfl, rfl, hv1, gv1, gvr, hbv⟩ := part_at dq16 hp
      have bx2' := x16
      have u2 : Same H16 H16 := fun _ _ z => z
      obtain ⟨z0, hz0, _, ez0⟩ := (Pool.mk hpp16 nppb hz5 hnm : Pool b H16 pp zs).get (i := 0) (by decide) (by decide)
      refine ⟨Nat.zero_le _, fun w1 nw1 => ?_⟩
      have zw1 : H w1 = none := k016.free x16 (fresh_same u2 nw1)
      have sw1 := same_new (o := .lst []) nw1
      have f1 : Dq b (upd H16 w1 (.lst [])) (.ref w1) (.list []) := .lst upd_same (bx2'.ne nw1) .nil
      have g1 : (upd H16 w1 (.lst [])) w1 = some (.lst []) := upd_same
      have bx2' := bx2'.same sw1
      have u2 := u2.trans sw1
      generalize hw1 : upd _ w1 _ = X1 at sw1 f1 g1 bx2' u2 ⊢
      refine ⟨Nat.zero_le _, fun w2 nw2 => ?_⟩
      have zw2 : H w2 = none := k016.free x16 (fresh_same u2 nw2)
      have sw2 := same_new (o := .tup []) nw2
      have f2 : Dq b (upd X1 w2 (.tup [])) (.ref w2) (.tuple []) := .tup upd_same .nil
      have g2 : (upd X1 w2 (.tup [])) w2 = some (.tup []) := upd_same
      have bx2' := bx2'.same sw2
      have u2 := u2.trans sw2
      generalize hw2 : upd _ w2 _ = X2 at sw2 f2 g2 bx2' u2 ⊢
      refine ⟨_, rfl, av, _, rfl, .inr (SqT.of (((sw1).trans sw2) _ _ hv1)), fun w3 nw3 => ?_⟩
      have zw3 : H w3 = none := k016.free x16 (fresh_same u2 nw3)
      have sw3 := same_new (o := .lst (.str kd :: v1 :: vr)) nw3
      have f3 : Dq b (upd X2 w3 (.lst (.str kd :: v1 :: vr))) (.ref w3) (.list (.str kd :: d1' :: r)) := .lst upd_same (bx2'.ne nw3) (DqAll.same (((sw1).trans sw2).trans sw3) _ _ (.cons (.str kd) (.cons gv1 gvr)))
      have bx2' := bx2'.same sw3
      have u2 := u2.trans sw3
      generalize hw3 : upd _ w3 _ = X3 at sw3 f3 bx2' u2 ⊢
      refine ⟨_, rfl, (by show 1 ≤ sizeLine; decide), fun w4 nw4 => ?_⟩
      have zw4 : H w4 = none := k016.free x16 (fresh_same u2 nw4)
      have sw4 := same_new (o := .lst [.ref av]) nw4
      have f4 : Dq b (upd X3 w4 (.lst [.ref av])) (.ref w4) (.list [.tuple (.str kd :: d1' :: r)]) := .lst upd_same (bx2'.ne nw4) (.cons (Dq.same ((((sw1).trans sw2).trans sw3).trans sw4) _ _ dq16) .nil)
      have g4 : (upd X3 w4 (.lst [.ref av])) w4 = some (.lst [.ref av]) := upd_same
      have bx2' := bx2'.same sw4
      have u2 := u2.trans sw4
      generalize hw4 : upd _ w4 _ = X4 at sw4 f4 g4 bx2' u2 ⊢
      refine ⟨(by show 3 ≤ sizeLine; decide), fun w5 nw5 => ?_⟩
      have zw5 : H w5 = none := k016.free x16 (fresh_same u2 nw5)
      have sw5 := same_new (o := .tup [.str "op", .str "f", .ref w4]) nw5
      have f5 : Dq b (upd X4 w5 (.tup [.str "op", .str "f", .ref w4])) (.ref w5) (.tuple [.str "op", .str "f", .list [.tuple (.str kd :: d1' :: r)]]) := .tup upd_same (.cons (.str _) (.cons (.str _) (.cons (Dq.same (sw5) _ _ f4) .nil)))
      have g5 : (upd X4 w5 (.tup [.str "op", .str "f", .ref w4])) w5 = some (.tup [.str "op", .str "f", .ref w4]) := upd_same
      have bx2' := bx2'.same sw5
      have u2 := u2.trans sw5
      generalize hw5 : upd _ w5 _ = X5 at sw5 f5 g5 bx2' u2 ⊢
      refine ⟨(by show 2 ≤ sizeLine; decide), fun w6 nw6 => ?_⟩
      have zw6 : H w6 = none := k016.free x16 (fresh_same u2 nw6)
      have sw6 := same_new (o := .tup [.str "name", .str "abcdefg"]) nw6
      have f6 : Dq b (upd X5 w6 (.tup [.str "name", .str "abcdefg"])) (.ref w6) (.tuple [.str "name", .str "abcdefg"]) := .tup upd_same (.cons (.str _) (.cons (.str _) .nil))
      have g6 : (upd X5 w6 (.tup [.str "name", .str "abcdefg"])) w6 = some (.tup [.str "name", .str "abcdefg"]) := upd_same
      have bx2' := bx2'.same sw6
      have u2 := u2.trans sw6
      generalize hw6 : upd _ w6 _ = X6 at sw6 f6 g6 bx2' u2 ⊢
      refine ⟨(by show 9 ≤ sizeLine; decide), fun w7 nw7 => ?_⟩
      have zw7 : H w7 = none := k016.free x16 (fresh_same u2 nw7)
      have sw7 := same_new (o := .lst [.ref w1, .ref w2, .ref w3, .ref w5, .ref w6, .non, .bl true, .int 7, .str "a"]) nw7
      have f7 : Dq b (upd X6 w7 (.lst [.ref w1, .ref w2, .ref w3, .ref w5, .ref w6, .non, .bl true, .int 7, .str "a"])) (.ref w7) (.list [.list [], .tuple [], .list (.str kd :: d1' :: r), .tuple [.str "op", .str "f", .list [.tuple (.str kd :: d1' :: r)]], .tuple [.str "name", .str "abcdefg"], .none, .bool true, .int 7, .str "a"]) := .lst upd_same (bx2'.ne nw7) (.cons (Dq.same ((((((sw2).trans sw3).trans sw4).trans sw5).trans sw6).trans sw7) _ _ f1) (.cons (Dq.same (((((sw3).trans sw4).trans sw5).trans sw6).trans sw7) _ _ f2) (.cons (Dq.same ((((sw4).trans sw5).trans sw6).trans sw7) _ _ f3) (.cons (Dq.same ((sw6).trans sw7) _ _ f5) (.cons (Dq.same (sw7) _ _ f6) (.cons .non (.cons (.bl _) (.cons (.int _) (.cons (.str _) .nil)))))))))
      have g7 : (upd X6 w7 (.lst [.ref w1, .ref w2, .ref w3, .ref w5, .ref w6, .non, .bl true, .int 7, .str "a"])) w7 = some (.lst [.ref w1, .ref w2, .ref w3, .ref w5, .ref w6, .non, .bl true, .int 7, .str "a"]) := upd_same
      have bx2' := bx2'.same sw7
      have u2 := u2.trans sw7
      generalize hw7 : upd _ w7 _ = X7 at sw7 f7 g7 bx2' u2 ⊢
      refine ⟨_, rfl, _, rfl, (by show 1 ≤ sizeLine; decide), fun w8 nw8 => ?_⟩
      have zw8 : H w8 = none := k016.free x16 (fresh_same u2 nw8)
      have sw8 := same_new (o := .tup [.int 1]) nw8
      have f8 : Dq b (upd X7 w8 (.tup [.int 1])) (.ref w8) (.tuple [.int 1]) := .tup upd_same (.cons (.int _) .nil)
      have g8 : (upd X7 w8 (.tup [.int 1])) w8 = some (.tup [.int 1]) := upd_same
      have bx2' := bx2'.same sw8
      have u2 := u2.trans sw8
      generalize hw8 : upd _ w8 _ = X8 at sw8 f8 g8 bx2' u2 ⊢
      refine catQ (Dq.same ((((((((sw1).trans sw2).trans sw3).trans sw4).trans sw5).trans sw6).trans sw7).trans sw8) _ _ dq16) f8 (by have := wtAll_len (.str kd :: d1' :: r); simp only [wt] at hw; simp only [List.length_cons, List.length_nil] at this ⊢; omega) fun w9 X9 sw9 f9 => ?_
      have bx2' := bx2'.same sw9
      have u2 := u2.trans sw9
      refine ⟨_, rfl, _, rfl, ?_⟩
      refine sliceQ (Dq.same (((((((((sw1).trans sw2).trans sw3).trans sw4).trans sw5).trans sw6).trans sw7).trans sw8).trans sw9) _ _ dq16) fun w10 X10 sw10 f10 => ?_
      rw [cut_one] at f10
      have bx2' := bx2'.same sw10
      have u2 := u2.trans sw10
      refine ⟨(by show 2 ≤ sizeLine; decide), fun w11 nw11 => ?_⟩
      have zw11 : H w11 = none := k016.free x16 (fresh_same u2 nw11)
      have sw11 := same_new (o := .tup [.str "name", .str "x"]) nw11
      have f11 : Dq b (upd X10 w11 (.tup [.str "name", .str "x"])) (.ref w11) (.tuple [.str "name", .str "x"]) := .tup upd_same (.cons (.str _) (.cons (.str _) .nil))
      have g11 : (upd X10 w11 (.tup [.str "name", .str "x"])) w11 = some (.tup [.str "name", .str "x"]) := upd_same
      have bx2' := bx2'.same sw11
      have u2 := u2.trans sw11
      generalize hw11 : upd _ w11 _ = X11 at sw11 f11 g11 bx2' u2 ⊢
      refine ⟨(by show 1 ≤ sizeLine; decide), fun w12 nw12 => ?_⟩
      have zw12 : H w12 = none := k016.free x16 (fresh_same u2 nw12)
      have sw12 := same_new (o := .tup [.ref w11]) nw12
      have f12 : Dq b (upd X11 w12 (.tup [.ref w11])) (.ref w12) (.tuple [.tuple [.str "name", .str "x"]]) := .tup upd_same (.cons (Dq.same (sw12) _ _ f11) .nil)
      have g12 : (upd X11 w12 (.tup [.ref w11])) w12 = some (.tup [.ref w11]) := upd_same
      have bx2' := bx2'.same sw12
      have u2 := u2.trans sw12
      generalize hw12 : upd _ w12 _ = X12 at sw12 f12 g12 bx2' u2 ⊢
      refine ⟨w12, 6, _, rfl, rfl, SqT.of g12, (fun z => nomatch z), by decide, by decide, (by show 1 ≤ 1000; decide), fun w13 nw13 => ?_⟩
      have zw13 : H w13 = none := k016.free x16 (fresh_same u2 nw13)
      have sw13 := same_new (o := .tup (List.replicate (6 : Int).toNat [V.ref w11]).flatten) nw13
      have f13 : Dq b (upd X12 w13 (.tup (List.replicate (6 : Int).toNat [V.ref w11]).flatten)) (.ref w13) (.tuple [.tuple [.str "name", .str "x"], .tuple [.str "name", .str "x"], .tuple [.str "name", .str "x"], .tuple [.str "name", .str "x"], .tuple [.str "name", .str "x"], .tuple [.str "name", .str "x"]]) := .tup upd_same (.cons (Dq.same ((sw12).trans sw13) _ _ f11) (.cons (Dq.same ((sw12).trans sw13) _ _ f11) (.cons (Dq.same ((sw12).trans sw13) _ _ f11) (.cons (Dq.same ((sw12).trans sw13) _ _ f11) (.cons (Dq.same ((sw12).trans sw13) _ _ f11) (.cons (Dq.same ((sw12).trans sw13) _ _ f11) .nil))))))
      have g13 : (upd X12 w13 (.tup (List.replicate (6 : Int).toNat [V.ref w11]).flatten)) w13 = some (.tup (List.replicate (6 : Int).toNat [V.ref w11]).flatten) := upd_same
      have bx2' := bx2'.same sw13
      have u2 := u2.trans sw13
      generalize hw13 : upd _ w13 _ = X13 at sw13 f13 g13 bx2' u2 ⊢
      refine ⟨(by show 3 ≤ sizeLine; decide), fun w14 nw14 => ?_⟩
      have zw14 : H w14 = none := k016.free x16 (fresh_same u2 nw14)
      have sw14 := same_new (o := .tup [.str "call", .str "t", .ref w13]) nw14
      have f14 : Dq b (upd X13 w14 (.tup [.str "call", .str "t", .ref w13])) (.ref w14) (.tuple [.str "call", .str "t", .tuple [.tuple [.str "name", .str "x"], .tuple [.str "name", .str "x"], .tuple [.str "name", .str "x"], .tuple [.str "name", .str "x"], .tuple [.str "name", .str "x"], .tuple [.str "name", .str "x"]]]) := .tup upd_same (.cons (.str _) (.cons (.str _) (.cons (Dq.same (sw14) _ _ f13) .nil)))
      have g14 : (upd X13 w14 (.tup [.str "call", .str "t", .ref w13])) w14 = some (.tup [.str "call", .str "t", .ref w13]) := upd_same
      have bx2' := bx2'.same sw14
      have u2 := u2.trans sw14
      generalize hw14 : upd _ w14 _ = X14 at sw14 f14 g14 bx2' u2 ⊢
      refine ⟨(by show 2 ≤ sizeLine; decide), fun w15 nw15 => ?_⟩
      have zw15 : H w15 = none := k016.free x16 (fresh_same u2 nw15)
      have sw15 := same_new (o := .tup [.str "name", .str "x"]) nw15
      have f15 : Dq b (upd X14 w15 (.tup [.str "name", .str "x"])) (.ref w15) (.tuple [.str "name", .str "x"]) := .tup upd_same (.cons (.str _) (.cons (.str _) .nil))
      have g15 : (upd X14 w15 (.tup [.str "name", .str "x"])) w15 = some (.tup [.str "name", .str "x"]) := upd_same
      have bx2' := bx2'.same sw15
      have u2 := u2.trans sw15
      generalize hw15 : upd _ w15 _ = X15 at sw15 f15 g15 bx2' u2 ⊢
      refine ⟨(by show 1 ≤ sizeLine; decide), fun w16 nw16 => ?_⟩
      have zw16 : H w16 = none := k016.free x16 (fresh_same u2 nw16)
      have sw16 := same_new (o := .tup [.ref w15]) nw16
      have f16 : Dq b (upd X15 w16 (.tup [.ref w15])) (.ref w16) (.tuple [.tuple [.str "name", .str "x"]]) := .tup upd_same (.cons (Dq.same (sw16) _ _ f15) .nil)
      have g16 : (upd X15 w16 (.tup [.ref w15])) w16 = some (.tup [.ref w15]) := upd_same
      have bx2' := bx2'.same sw16
      have u2 := u2.trans sw16
      generalize hw16 : upd _ w16 _ = X16 at sw16 f16 g16 bx2' u2 ⊢
      refine ⟨w16, 4, _, rfl, rfl, SqT.of g16, (fun z => nomatch z), by decide, by decide, (by show 1 ≤ 1000; decide), fun w17 nw17 => ?_⟩
      have zw17 : H w17 = none := k016.free x16 (fresh_same u2 nw17)
      have sw17 := same_new (o := .tup (List.replicate (4 : Int).toNat [V.ref w15]).flatten) nw17
      have f17 : Dq b (upd X16 w17 (.tup (List.replicate (4 : Int).toNat [V.ref w15]).flatten)) (.ref w17) (.tuple [.tuple [.str "name", .str "x"], .tuple [.str "name", .str "x"], .tuple [.str "name", .str "x"], .tuple [.str "name", .str "x"]]) := .tup upd_same (.cons (Dq.same ((sw16).trans sw17) _ _ f15) (.cons (Dq.same ((sw16).trans sw17) _ _ f15) (.cons (Dq.same ((sw16).trans sw17) _ _ f15) (.cons (Dq.same ((sw16).trans sw17) _ _ f15) .nil))))
      have g17 : (upd X16 w17 (.tup (List.replicate (4 : Int).toNat [V.ref w15]).flatten)) w17 = some (.tup (List.replicate (4 : Int).toNat [V.ref w15]).flatten) := upd_same
      have bx2' := bx2'.same sw17
      have u2 := u2.trans sw17
      generalize hw17 : upd _ w17 _ = X17 at sw17 f17 g17 bx2' u2 ⊢
      refine ⟨(by show 3 ≤ sizeLine; decide), fun w18 nw18 => ?_⟩
      have zw18 : H w18 = none := k016.free x16 (fresh_same u2 nw18)
      have sw18 := same_new (o := .tup [.str "op", .str "f", .ref w17]) nw18
      have f18 : Dq b (upd X17 w18 (.tup [.str "op", .str "f", .ref w17])) (.ref w18) (.tuple [.str "op", .str "f", .tuple [.tuple [.str "name", .str "x"], .tuple [.str "name", .str "x"], .tuple [.str "name", .str "x"], .tuple [.str "name", .str "x"]]]) := .tup upd_same (.cons (.str _) (.cons (.str _) (.cons (Dq.same (sw18) _ _ f17) .nil)))
      have g18 : (upd X17 w18 (.tup [.str "op", .str "f", .ref w17])) w18 = some (.tup [.str "op", .str "f", .ref w17]) := upd_same
      have bx2' := bx2'.same sw18
      have u2 := u2.trans sw18
      generalize hw18 : upd _ w18 _ = X18 at sw18 f18 g18 bx2' u2 ⊢
      refine ⟨(by show 4 ≤ sizeLine; decide), fun w19 nw19 => ?_⟩
      have zw19 : H w19 = none := k016.free x16 (fresh_same u2 nw19)
      have sw19 := same_new (o := .lst [.ref w9, .ref w10, .ref w14, .ref w18]) nw19
      have f19 : Dq b (upd X18 w19 (.lst [.ref w9, .ref w10, .ref w14, .ref w18])) (.ref w19) (.list [.tuple (.str kd :: d1' :: r ++ [.int 1]), .tuple [.str kd], .tuple [.str "call", .str "t", .tuple [.tuple [.str "name", .str "x"], .tuple [.str "name", .str "x"], .tuple [.str "name", .str "x"], .tuple [.str "name", .str "x"], .tuple [.str "name", .str "x"], .tuple [.str "name", .str "x"]]], .tuple [.str "op", .str "f", .tuple [.tuple [.str "name", .str "x"], .tuple [.str "name", .str "x"], .tuple [.str "name", .str "x"], .tuple [.str "name", .str "x"]]]]) := .lst upd_same (bx2'.ne nw19) (.cons (Dq.same ((((((((((sw10).trans sw11).trans sw12).trans sw13).trans sw14).trans sw15).trans sw16).trans sw17).trans sw18).trans sw19) _ _ f9) (.cons (Dq.same (((((((((sw11).trans sw12).trans sw13).trans sw14).trans sw15).trans sw16).trans sw17).trans sw18).trans sw19) _ _ f10) (.cons (Dq.same (((((sw15).trans sw16).trans sw17).trans sw18).trans sw19) _ _ f14) (.cons (Dq.same (sw19) _ _ f18) .nil))))
      have g19 : (upd X18 w19 (.lst [.ref w9, .ref w10, .ref w14, .ref w18])) w19 = some (.lst [.ref w9, .ref w10, .ref w14, .ref w18]) := upd_same
      have bx2' := bx2'.same sw19
      have u2 := u2.trans sw19
      generalize hw19 : upd _ w19 _ = X19 at sw19 f19 g19 bx2' u2 ⊢
      refine ⟨w7, w19, _, _, rfl, rfl, (((((((((((((sw8).trans sw9).trans sw10).trans sw11).trans sw12).trans sw13).trans sw14).trans sw15).trans sw16).trans sw17).trans sw18).trans sw19) _ _ g7), g19, sz100 (by simp only [List.length_append, List.length_cons, List.length_nil]; omega), fun w20 nw20 => ?_⟩
      have zw20 : H w20 = none := k016.free x16 (fresh_same u2 nw20)
      have sw20 := same_new (o := .lst ([.ref w1, .ref w2, .ref w3, .ref w5, .ref w6, .non, .bl true, .int 7, .str "a"] ++ [.ref w9, .ref w10, .ref w14, .ref w18])) nw20
      have f20 : Dq b (upd X19 w20 (.lst ([.ref w1, .ref w2, .ref w3, .ref w5, .ref w6, .non, .bl true, .int 7, .str "a"] ++ [.ref w9, .ref w10, .ref w14, .ref w18]))) (.ref w20) (.list [.list [], .tuple [], .list (.str kd :: d1' :: r), .tuple [.str "op", .str "f", .list [.tuple (.str kd :: d1' :: r)]], .tuple [.str "name", .str "abcdefg"], .none, .bool true, .int 7, .str "a", .tuple (.str kd :: d1' :: r ++ [.int 1]), .tuple [.str kd], .tuple [.str "call", .str "t", .tuple [.tuple [.str "name", .str "x"], .tuple [.str "name", .str "x"], .tuple [.str "name", .str "x"], .tuple [.str "name", .str "x"], .tuple [.str "name", .str "x"], .tuple [.str "name", .str "x"]]], .tuple [.str "op", .str "f", .tuple [.tuple [.str "name", .str "x"], .tuple [.str "name", .str "x"], .tuple [.str "name", .str "x"], .tuple [.str "name", .str "x"]]]]) := .lst upd_same (bx2'.ne nw20) (.cons (Dq.same (((((((((((((((((((sw2).trans sw3).trans sw4).trans sw5).trans sw6).trans sw7).trans sw8).trans sw9).trans sw10).trans sw11).trans sw12).trans sw13).trans sw14).trans sw15).trans sw16).trans sw17).trans sw18).trans sw19).trans sw20) _ _ f1) (.cons (Dq.same ((((((((((((((((((sw3).trans sw4).trans sw5).trans sw6).trans sw7).trans sw8).trans sw9).trans sw10).trans sw11).trans sw12).trans sw13).trans sw14).trans sw15).trans sw16).trans sw17).trans sw18).trans sw19).trans sw20) _ _ f2) (.cons (Dq.same (((((((((((((((((sw4).trans sw5).trans sw6).trans sw7).trans sw8).trans sw9).trans sw10).trans sw11).trans sw12).trans sw13).trans sw14).trans sw15).trans sw16).trans sw17).trans sw18).trans sw19).trans sw20) _ _ f3) (.cons (Dq.same (((((((((((((((sw6).trans sw7).trans sw8).trans sw9).trans sw10).trans sw11).trans sw12).trans sw13).trans sw14).trans sw15).trans sw16).trans sw17).trans sw18).trans sw19).trans sw20) _ _ f5) (.cons (Dq.same ((((((((((((((sw7).trans sw8).trans sw9).trans sw10).trans sw11).trans sw12).trans sw13).trans sw14).trans sw15).trans sw16).trans sw17).trans sw18).trans sw19).trans sw20) _ _ f6) (.cons .non (.cons (.bl _) (.cons (.int _) (.cons (.str _) (.cons (Dq.same (((((((((((sw10).trans sw11).trans sw12).trans sw13).trans sw14).trans sw15).trans sw16).trans sw17).trans sw18).trans sw19).trans sw20) _ _ f9) (.cons (Dq.same ((((((((((sw11).trans sw12).trans sw13).trans sw14).trans sw15).trans sw16).trans sw17).trans sw18).trans sw19).trans sw20) _ _ f10) (.cons (Dq.same ((((((sw15).trans sw16).trans sw17).trans sw18).trans sw19).trans sw20) _ _ f14) (.cons (Dq.same ((sw19).trans sw20) _ _ f18) .nil)))))))))))))
      have g20 : (upd X19 w20 (.lst ([.ref w1, .ref w2, .ref w3, .ref w5, .ref w6, .non, .bl true, .int 7, .str "a"] ++ [.ref w9, .ref w10, .ref w14, .ref w18]))) w20 = some (.lst ([.ref w1, .ref w2, .ref w3, .ref w5, .ref w6, .non, .bl true, .int 7, .str "a"] ++ [.ref w9, .ref w10, .ref w14, .ref w18])) := upd_same
      have bx2' := bx2'.same sw20
      have u2 := u2.trans sw20
      generalize hw20 : upd _ w20 _ = X20 at sw20 f20 g20 bx2' u2 ⊢
      refine ⟨_, rfl, _, rfl, pp, _, _, .str z0, rfl, rfl, SqL.of (((((((((((((((((((((sw1).trans sw2).trans sw3).trans sw4).trans sw5).trans sw6).trans sw7).trans sw8).trans sw9).trans sw10).trans sw11).trans sw12).trans sw13).trans sw14).trans sw15).trans sw16).trans sw17).trans sw18).trans sw19).trans sw20) _ _ hpp16), ez0, _, _, rfl, rfl, sz100 (by have := app_len "$" z0; have := (doll_par hz0).2.2; omega), _, rfl, _, rfl, (by show 4 ≤ sizeLine; decide), fun w21 nw21 => ?_⟩
      have zw21 : H w21 = none := k016.free x16 (fresh_same u2 nw21)
      have sw21 := same_new (o := .tup [.str "want", .str ("$" ++ z0), .ref av, .ref av]) nw21
      have f21 : Dq b (upd X20 w21 (.tup [.str "want", .str ("$" ++ z0), .ref av, .ref av])) (.ref w21) (.tuple [.str "want", .str ("$" ++ z0), .tuple (.str kd :: d1' :: r), .tuple (.str kd :: d1' :: r)]) := .tup upd_same (.cons (.str _) (.cons (.str _) (.cons (Dq.same (((((((((((((((((((((sw1).trans sw2).trans sw3).trans sw4).trans sw5).trans sw6).trans sw7).trans sw8).trans sw9).trans sw10).trans sw11).trans sw12).trans sw13).trans sw14).trans sw15).trans sw16).trans sw17).trans sw18).trans sw19).trans sw20).trans sw21) _ _ dq16) (.cons (Dq.same (((((((((((((((((((((sw1).trans sw2).trans sw3).trans sw4).trans sw5).trans sw6).trans sw7).trans sw8).trans sw9).trans sw10).trans sw11).trans sw12).trans sw13).trans sw14).trans sw15).trans sw16).trans sw17).trans sw18).trans sw19).trans sw20).trans sw21) _ _ dq16) .nil))))
      have g21 : (upd X20 w21 (.tup [.str "want", .str ("$" ++ z0), .ref av, .ref av])) w21 = some (.tup [.str "want", .str ("$" ++ z0), .ref av, .ref av]) := upd_same
      have bx2' := bx2'.same sw21
      have u2 := u2.trans sw21
      generalize hw21 : upd _ w21 _ = X21 at sw21 f21 g21 bx2' u2 ⊢
      refine fun w22 nw22 => ?_
      have zw22 : H w22 = none := k016.free x16 (fresh_same u2 nw22)
      have sw22 := same_new (o := .dK []) nw22
      have f22 : Dq b (upd X21 w22 (.dK [])) (.ref w22) (.dict []) := .emp upd_same
      have g22 : (upd X21 w22 (.dK [])) w22 = some (.dK []) := upd_same
      have bx2' := bx2'.same sw22
      have u2 := u2.trans sw22
      generalize hw22 : upd _ w22 _ = X22 at sw22 f22 g22 bx2' u2 ⊢
      refine ⟨(by show 2 ≤ sizeLine; decide), fun w23 nw23 => ?_⟩
      have zw23 : H w23 = none := k016.free x16 (fresh_same u2 nw23)
      have sw23 := same_new (o := .lst [.ref w21, .ref w22]) nw23
      have f23 : Dq b (upd X22 w23 (.lst [.ref w21, .ref w22])) (.ref w23) (.list [.tuple [.str "want", .str ("$" ++ z0), .tuple (.str kd :: d1' :: r), .tuple (.str kd :: d1' :: r)], .dict []]) := .lst upd_same (bx2'.ne nw23) (.cons (Dq.same ((sw22).trans sw23) _ _ f21) (.cons (Dq.same (sw23) _ _ f22) .nil))
      have g23 : (upd X22 w23 (.lst [.ref w21, .ref w22])) w23 = some (.lst [.ref w21, .ref w22]) := upd_same
      have bx2' := bx2'.same sw23
      have u2 := u2.trans sw23
      generalize hw23 : upd _ w23 _ = X23 at sw23 f23 g23 bx2' u2 ⊢
      refine ⟨w20, w23, _, _, rfl, rfl, ((((sw21).trans sw22).trans sw23) _ _ g20), g23, sz100 (by simp only [List.length_append, List.length_cons, List.length_nil]; omega), fun w24 nw24 => ?_⟩
      have zw24 : H w24 = none := k016.free x16 (fresh_same u2 nw24)
      have sw24 := same_new (o := .lst (([.ref w1, .ref w2, .ref w3, .ref w5, .ref w6, .non, .bl true, .int 7, .str "a"] ++ [.ref w9, .ref w10, .ref w14, .ref w18]) ++ [.ref w21, .ref w22])) nw24
      have f24 : Dq b (upd X23 w24 (.lst (([.ref w1, .ref w2, .ref w3, .ref w5, .ref w6, .non, .bl true, .int 7, .str "a"] ++ [.ref w9, .ref w10, .ref w14, .ref w18]) ++ [.ref w21, .ref w22]))) (.ref w24) (.list [.list [], .tuple [], .list (.str kd :: d1' :: r), .tuple [.str "op", .str "f", .list [.tuple (.str kd :: d1' :: r)]], .tuple [.str "name", .str "abcdefg"], .none, .bool true, .int 7, .str "a", .tuple (.str kd :: d1' :: r ++ [.int 1]), .tuple [.str kd], .tuple [.str "call", .str "t", .tuple [.tuple [.str "name", .str "x"], .tuple [.str "name", .str "x"], .tuple [.str "name", .str "x"], .tuple [.str "name", .str "x"], .tuple [.str "name", .str "x"], .tuple [.str "name", .str "x"]]], .tuple [.str "op", .str "f", .tuple [.tuple [.str "name", .str "x"], .tuple [.str "name", .str "x"], .tuple [.str "name", .str "x"], .tuple [.str "name", .str "x"]]], .tuple [.str "want", .str ("$" ++ z0), .tuple (.str kd :: d1' :: r), .tuple (.str kd :: d1' :: r)], .dict []]) := .lst upd_same (bx2'.ne nw24) (.cons (Dq.same (((((((((((((((((((((((sw2).trans sw3).trans sw4).trans sw5).trans sw6).trans sw7).trans sw8).trans sw9).trans sw10).trans sw11).trans sw12).trans sw13).trans sw14).trans sw15).trans sw16).trans sw17).trans sw18).trans sw19).trans sw20).trans sw21).trans sw22).trans sw23).trans sw24) _ _ f1) (.cons (Dq.same ((((((((((((((((((((((sw3).trans sw4).trans sw5).trans sw6).trans sw7).trans sw8).trans sw9).trans sw10).trans sw11).trans sw12).trans sw13).trans sw14).trans sw15).trans sw16).trans sw17).trans sw18).trans sw19).trans sw20).trans sw21).trans sw22).trans sw23).trans sw24) _ _ f2) (.cons (Dq.same (((((((((((((((((((((sw4).trans sw5).trans sw6).trans sw7).trans sw8).trans sw9).trans sw10).trans sw11).trans sw12).trans sw13).trans sw14).trans sw15).trans sw16).trans sw17).trans sw18).trans sw19).trans sw20).trans sw21).trans sw22).trans sw23).trans sw24) _ _ f3) (.cons (Dq.same (((((((((((((((((((sw6).trans sw7).trans sw8).trans sw9).trans sw10).trans sw11).trans sw12).trans sw13).trans sw14).trans sw15).trans sw16).trans sw17).trans sw18).trans sw19).trans sw20).trans sw21).trans sw22).trans sw23).trans sw24) _ _ f5) (.cons (Dq.same ((((((((((((((((((sw7).trans sw8).trans sw9).trans sw10).trans sw11).trans sw12).trans sw13).trans sw14).trans sw15).trans sw16).trans sw17).trans sw18).trans sw19).trans sw20).trans sw21).trans sw22).trans sw23).trans sw24) _ _ f6) (.cons .non (.cons (.bl _) (.cons (.int _) (.cons (.str _) (.cons (Dq.same (((((((((((((((sw10).trans sw11).trans sw12).trans sw13).trans sw14).trans sw15).trans sw16).trans sw17).trans sw18).trans sw19).trans sw20).trans sw21).trans sw22).trans sw23).trans sw24) _ _ f9) (.cons (Dq.same ((((((((((((((sw11).trans sw12).trans sw13).trans sw14).trans sw15).trans sw16).trans sw17).trans sw18).trans sw19).trans sw20).trans sw21).trans sw22).trans sw23).trans sw24) _ _ f10) (.cons (Dq.same ((((((((((sw15).trans sw16).trans sw17).trans sw18).trans sw19).trans sw20).trans sw21).trans sw22).trans sw23).trans sw24) _ _ f14) (.cons (Dq.same ((((((sw19).trans sw20).trans sw21).trans sw22).trans sw23).trans sw24) _ _ f18) (.cons (Dq.same (((sw22).trans sw23).trans sw24) _ _ f21) (.cons (Dq.same ((sw23).trans sw24) _ _ f22) .nil)))))))))))))))
      have g24 : (upd X23 w24 (.lst (([.ref w1, .ref w2, .ref w3, .ref w5, .ref w6, .non, .bl true, .int 7, .str "a"] ++ [.ref w9, .ref w10, .ref w14, .ref w18]) ++ [.ref w21, .ref w22]))) w24 = some (.lst (([.ref w1, .ref w2, .ref w3, .ref w5, .ref w6, .non, .bl true, .int 7, .str "a"] ++ [.ref w9, .ref w10, .ref w14, .ref w18]) ++ [.ref w21, .ref w22])) := upd_same
      have bx2' := bx2'.same sw24
      have u2 := u2.trans sw24
      generalize hw24 : upd _ w24 _ = X24 at sw24 f24 g24 bx2' u2 ⊢
      have dqz := (Dq.same ((((((((((((((((((((((((sw1).trans sw2).trans sw3).trans sw4).trans sw5).trans sw6).trans sw7).trans sw8).trans sw9).trans sw10).trans sw11).trans sw12).trans sw13).trans sw14).trans sw15).trans sw16).trans sw17).trans sw18).trans sw19).trans sw20).trans sw21).trans sw22).trans sw23).trans sw24) _ _ dq16)
      have hall : ∀ y ∈ ([V.ref w1, .ref w2, .ref w3, .ref w5, .ref w6, .non, .bl true, .int 7, .str "a"] ++ [.ref w9, .ref w10, .ref w14, .ref w18] ++ [.ref w21, .ref w22] : List V), OddI b H X24 y := fun y hy => by
        simp only [List.mem_append, List.mem_cons, List.not_mem_nil, or_false] at hy
        rcases hy with ((rfl | rfl | rfl | rfl | rfl | rfl | rfl | rfl | rfl) | (rfl | rfl | rfl | rfl)) | (rfl | rfl)
        · exact ⟨_, (Dq.same (((((((((((((((((((((((sw2).trans sw3).trans sw4).trans sw5).trans sw6).trans sw7).trans sw8).trans sw9).trans sw10).trans sw11).trans sw12).trans sw13).trans sw14).trans sw15).trans sw16).trans sw17).trans sw18).trans sw19).trans sw20).trans sw21).trans sw22).trans sw23).trans sw24) _ _ f1), (oddC_ok _ (List.mem_of_getElem? (i := 0) rfl)), (fun _ p e => by cases e; exact zw1)⟩
        · exact ⟨_, (Dq.same ((((((((((((((((((((((sw3).trans sw4).trans sw5).trans sw6).trans sw7).trans sw8).trans sw9).trans sw10).trans sw11).trans sw12).trans sw13).trans sw14).trans sw15).trans sw16).trans sw17).trans sw18).trans sw19).trans sw20).trans sw21).trans sw22).trans sw23).trans sw24) _ _ f2), (oddC_ok _ (List.mem_of_getElem? (i := 1) rfl)), (fun z => nomatch z)⟩
        · exact ⟨_, (Dq.same (((((((((((((((((((((sw4).trans sw5).trans sw6).trans sw7).trans sw8).trans sw9).trans sw10).trans sw11).trans sw12).trans sw13).trans sw14).trans sw15).trans sw16).trans sw17).trans sw18).trans sw19).trans sw20).trans sw21).trans sw22).trans sw23).trans sw24) _ _ f3), (odd_list fd_ hw hd24 pu), (fun _ p e => by cases e; exact zw3)⟩
        · exact ⟨_, (Dq.same (((((((((((((((((((sw6).trans sw7).trans sw8).trans sw9).trans sw10).trans sw11).trans sw12).trans sw13).trans sw14).trans sw15).trans sw16).trans sw17).trans sw18).trans sw19).trans sw20).trans sw21).trans sw22).trans sw23).trans sw24) _ _ f5), (odd_in fd_ hw hd24), (fun z => nomatch z)⟩
        · exact ⟨_, (Dq.same ((((((((((((((((((sw7).trans sw8).trans sw9).trans sw10).trans sw11).trans sw12).trans sw13).trans sw14).trans sw15).trans sw16).trans sw17).trans sw18).trans sw19).trans sw20).trans sw21).trans sw22).trans sw23).trans sw24) _ _ f6), (oddC_ok _ (List.mem_of_getElem? (i := 2) rfl)), (fun z => nomatch z)⟩
        · exact ⟨_, .non, (oddC_ok _ (List.mem_of_getElem? (i := 3) rfl)), (fun z => nomatch z)⟩
        · exact ⟨_, (.bl _), (oddC_ok _ (List.mem_of_getElem? (i := 4) rfl)), (fun z => nomatch z)⟩
        · exact ⟨_, (.int _), (oddC_ok _ (List.mem_of_getElem? (i := 5) rfl)), (fun z => nomatch z)⟩
        · exact ⟨_, (.str _), (oddC_ok _ (List.mem_of_getElem? (i := 6) rfl)), (fun z => nomatch z)⟩
        · exact ⟨_, (Dq.same (((((((((((((((sw10).trans sw11).trans sw12).trans sw13).trans sw14).trans sw15).trans sw16).trans sw17).trans sw18).trans sw19).trans sw20).trans sw21).trans sw22).trans sw23).trans sw24) _ _ f9), (odd_more hp fd_ hw hd24), (fun z => nomatch z)⟩
        · exact ⟨_, (Dq.same ((((((((((((((sw11).trans sw12).trans sw13).trans sw14).trans sw15).trans sw16).trans sw17).trans sw18).trans sw19).trans sw20).trans sw21).trans sw22).trans sw23).trans sw24) _ _ f10), (odd_first (fine_tup fd_ _ List.mem_cons_self)), (fun z => nomatch z)⟩
        · exact ⟨_, (Dq.same ((((((((((sw15).trans sw16).trans sw17).trans sw18).trans sw19).trans sw20).trans sw21).trans sw22).trans sw23).trans sw24) _ _ f14), (oddC_ok _ (List.mem_of_getElem? (i := 7) rfl)), (fun z => nomatch z)⟩
        · exact ⟨_, (Dq.same ((((((sw19).trans sw20).trans sw21).trans sw22).trans sw23).trans sw24) _ _ f18), (oddC_ok _ (List.mem_of_getElem? (i := 8) rfl)), (fun z => nomatch z)⟩
        · exact ⟨_, (Dq.same (((sw22).trans sw23).trans sw24) _ _ f21), (odd_want fd_ hw hd24 hz0), (fun z => nomatch z)⟩
        · exact ⟨_, (Dq.same ((sw23).trans sw24) _ _ f22), (oddC_ok _ (List.mem_of_getElem? (i := 9) rfl)), (fun z => nomatch z)⟩
      have kz := k016.trans (Kp.of_same u2)
      have nzb : w24 ≠ b := by
        cases f24 with
        | lst _ h _ => exact h
      refine ⟨_, rfl, _, rfl, b, _, .ref av, _, rfl, bx2', by omega, dqz, g, fd_, hw, by omega, fun ub eb Ha ka xa du ob fr => ?_⟩
      have kHa := kz.trans ka
      refine ⟨_, rfl, _, rfl, b, _, _, rfl, xa, by omega, by decide, by decide, fun d15 Hb l15 u15 xb kb => ?_⟩
      obtain ⟨y, hy, ey⟩ := atI_in (xs := ([V.ref w1, .ref w2, .ref w3, .ref w5, .ref w6, .non, .bl true, .int 7, .str "a"] ++ [.ref w9, .ref w10, .ref w14, .ref w18] ++ [.ref w21, .ref w22] : List V)) (i := d15) l15 (by show d15 < 15; exact u15)
      obtain ⟨ey2, dy, oy, fy⟩ := hall y hy
      refine ⟨w24, _, _, y, rfl, rfl, SqL.of (kb _ _ (ka _ _ g24 nzb) nzb), ey, (by show 2 ≤ sizeLine; decide), fun pz nz => ?_⟩
      have sz := same_new (o := .lst [ub, y]) nz
      have hpz : (upd Hb pz (.lst [ub, y])) pz = some (.lst [ub, y]) := upd_same
      have xz := xb.same sz
      have nezb : pz ≠ b := xb.ne nz
      have kHz := (kHa.trans kb).trans (Kp.of_same sz)
      have du2 := Dq.same sz _ _ (Dq.kp xa kb _ _ du)
      have dy2 := Dq.same sz _ _ (Dq.kp xa kb _ _ (Dq.kp bx2' ka _ _ dy))
      generalize upd Hb pz (.lst [ub, y]) = Hz at hpz xz kHz du2 dy2 ⊢
      refine ⟨_, rfl, b, _, _, rfl, xz, by omega, by decide, by decide, fun d2' Hc l2' u2' xc kc => ?_⟩
      have both : ∀ t ∈ ([ub, y] : List V), OddI b H Hc t := fun t ht => by
        simp only [List.mem_cons, List.not_mem_nil, or_false] at ht
        rcases ht with rfl | rfl
        · exact ⟨eb, Dq.kp xz kc _ _ du2, oddB_mono ob (by omega) (by omega), fun z p e => kz.free bx2' (fr z p e)⟩
        · exact ⟨ey2, Dq.kp xz kc _ _ dy2, oy, fy⟩
      obtain ⟨t, ht, et⟩ := atI_in (xs := [ub, y]) (i := d2') l2' (by show d2' < 2; exact u2')
      obtain ⟨e, dt, ot, ft⟩ := both t ht
      refine ⟨pz, _, _, t, rfl, rfl, SqL.of (kc _ _ hpz nezb), et, ?_⟩
      have kHc := kHz.trans kc
      refine ⟨_, rfl, b, _, _, rfl, xc, by omega, by decide, by decide, fun d6 Hd l6 u6 xd kd' => ?_⟩
      have kHd := kHc.trans kd'
      exact ⟨_, rfl, b, _, d6, t, e, rfl, xd, Dq.kp xc kd' _ _ dt, ot, fun H' keep => q H' fun a o z na => keep a o (kHd a o z na) na fun hl2 ea => by
        rw [ft hl2 a ea] at z
        cases z⟩)
end
end K12
set_option Elab.async false
set_option linter.all false
set_option maxRecDepth 100000
namespace K12
open PySem PySem.Spec PyProof.Rows L2 CaV CaL CaN CaD CaG
section
variable {P : Program} {w : World} {K : PySem.W.Frag} {mg : Str → Option Value} {base : Heap}
set_option maxHeartbeats 1000000 in
theorem ok_law {f : Addr} {fd : FuncData} (F : Fun K "law" "law" s_law f fd) (T : TP K mg) : FnG P w K mg base 31 f fd ["_law_script"] (spLaw K) := by
  have G_l_cell : FnOk P w K mg base CX0 1 T.d_l_cell.f T.d_l_cell.fd ["_law_script", "_law_k"] (spCell K) := ok_cell T
  have G_l_purse : FnOk P w K mg base CX0 1 T.d_l_purse.f T.d_l_purse.fd ["_law_cell_here"] spBox := ok_purse T
  have G_l_right : FnG P w K mg base 30 T.d_l_right.f T.d_l_right.fd ["_law_purse_here"] spRight := ok_l_right T
  refine FnG.of F sc_law (fun vs H Q E h => ?_) (fun cdv A outer s H vs Q E quiet hr h => ?_)
  · obtain ⟨a, ns, rfl, _⟩ := h
    rfl
  · obtain ⟨a, ns, rfl, hS, hlen, q⟩ := h
    refine ⟨_, (pss_cons (ps_for PassesOwn.never rfl (pi_range1 (by rfl) T.n_range (pa_cons (pe_callB (call_max2 rfl) (by rfl) T.n_max (by decide +kernel) (pa_cons pe_int (pa_cons (pe_callB (call_min2 rfl) (by rfl) T.n_min (by decide +kernel) (pa_cons pe_int (pa_cons (pe_callB call_len_seq (by rfl) T.n_len PySem.boot_len (pa_cons (pv 0) pa_nil)) pa_nil))) pa_nil))) pa_nil)) (pg_name (i := 1) sc_law.nd rfl (.inl rfl))
      (pss_one (ps_if (pt_not (pt_val (pe_callG G_l_right quiet (hr.mono (by omega)) (by rfl) T.d_l_right.g T.d_l_right.F.kp T.d_l_right.b (pa_cons (pe_call G_l_purse (hr.mono (by omega)) (by rfl) T.d_l_purse.g T.d_l_purse.F.kp T.d_l_purse.b .nil pass0 (pa_cons (pe_call G_l_cell (hr.mono (by omega)) (by rfl) T.d_l_cell.g T.d_l_cell.F.kp T.d_l_cell.b .nil pass0 (pa_cons (pv 0) (pa_cons (pv 1) pa_nil))) pa_nil)) pa_nil))))
        (pss_one (ps_ret pe_bl))
        pss_nil)))
    (pss_one (ps_ret pe_bl))), ?_⟩
    have hj : ∀ l : Int, 0 ≤ l → 2 ≤ (if (if l < 15 then l else 15) > 2 then (if l < 15 then l else 15) else 2) ∧ (if (if l < 15 then l else 15) > 2 then (if l < 15 then l else 15) else 2) ≤ 15 := fun l hl => by
      by_cases h1 : l < 15
      · rw [if_pos h1]
        by_cases h2 : l > 2
        · rw [if_pos h2]
          omega
        · rw [if_neg h2]
          omega
      · rw [if_neg h1, if_pos (by decide)]
        omega
    have hk := hj ((ns.map V.int).length : Int) (by omega)
    refine ⟨_, rfl, a, _, rfl, .inl hS, _, _, rfl, _, _, rfl, _, rfl, ?_, ?_, ?_⟩
    · exact Int.le_trans (by decide) hk.1
    · exact Int.lt_of_le_of_lt hk.2 (by decide)
    refine for_range (fun i σ H5 => ∃ t1, σ = [some (.ref a), t1] ∧ SqL K H5 a (ns.map V.int)) ⟨_, rfl, hS⟩ ?_ ?_
    · rintro i σ H5 hi ⟨t1, rfl, hS5⟩
      refine ⟨_, rfl, _, rfl, a, ns, _, rfl, hS5, by omega, fun x => ⟨x, rfl, fun b H6 nb s6 bx => ?_⟩⟩
      refine ⟨b, rfl, bx, fun H7 k7 => ⟨_, rfl, iteF ⟨_, rfl, ?_⟩⟩⟩
      exact (Kp.same s6 k7 nb).seq hS5
    · rintro σ H5 ⟨t1, rfl, hS5⟩
      exact q _
end
end K12
set_option Elab.async false
set_option linter.all false
set_option maxRecDepth 100000
namespace K12
open PySem PySem.Spec PyProof.Rows L2 CaV CaL CaN CaD CaG
theorem all_mk {l : PySem.W.OpenLaw} {w : World} {K : PySem.W.Frag} {h : Heap} {mg : Str → Option Value} {fa f0 f1 f2 f3 f4 f5 f6 f7 f8 f9 f10 f11 f12 f13 f14 f15 f16 f17 f18 f19 f20 f21 f22 f23 f24 f25 f26 f27 f28 : Addr} (X : K.In h) (G : h.Ns mainGlobals mg) (hfa : mg "law" = some (.ref fa))
    {od0 an0 od1 an1 od2 an2 od3 an3 od4 an4 od5 an5 od6 an6 od7 an7 od8 an8 od9 an9 od10 an10 od11 an11 od12 an12 od13 an13 od14 an14 od15 an15 od16 an16 od17 an17 od18 an18 od19 an19 od20 an20 od21 an21 od22 an22 od23 an23 od24 an24 od25 an25 od26 an26 od27 an27 od28 an28 : Option Addr} {sl0 sl1 sl2 sl3 sl4 sl5 sl6 sl7 sl8 sl9 sl10 sl11 sl12 sl13 sl14 sl15 sl16 sl17 sl18 sl19 sl20 sl21 sl22 sl23 sl24 sl25 sl26 sl27 sl28 : Array (Option Value)} {oc0 kV0 dc0 pm0 cd0 ct0 oc1 kV1 dc1 pm1 cd1 ct1 oc2 kV2 dc2 pm2 cd2 ct2 oc3 kV3 dc3 pm3 cd3 ct3 oc4 kV4 dc4 pm4 cd4 ct4 oc5 kV5 dc5 pm5 cd5 ct5 oc6 kV6 dc6 pm6 cd6 ct6 oc7 kV7 dc7 pm7 cd7 ct7 oc8 kV8 dc8 pm8 cd8 ct8 oc9 kV9 dc9 pm9 cd9 ct9 oc10 kV10 dc10 pm10 cd10 ct10 oc11 kV11 dc11 pm11 cd11 ct11 oc12 kV12 dc12 pm12 cd12 ct12 oc13 kV13 dc13 pm13 cd13 ct13 oc14 kV14 dc14 pm14 cd14 ct14 oc15 kV15 dc15 pm15 cd15 ct15 oc16 kV16 dc16 pm16 cd16 ct16 oc17 kV17 dc17 pm17 cd17 ct17 oc18 kV18 dc18 pm18 cd18 ct18 oc19 kV19 dc19 pm19 cd19 ct19 oc20 kV20 dc20 pm20 cd20 ct20 oc21 kV21 dc21 pm21 cd21 ct21 oc22 kV22 dc22 pm22 cd22 ct22 oc23 kV23 dc23 pm23 cd23 ct23 oc24 kV24 dc24 pm24 cd24 ct24 oc25 kV25 dc25 pm25 cd25 ct25 oc26 kV26 dc26 pm26 cd26 ct26 oc27 kV27 dc27 pm27 cd27 ct27 oc28 kV28 dc28 pm28 cd28 ct28 : Value} {aKW : Addr} {odKW : Option Addr} {nKW : Nat} {slKW : Array (Option Value)} {tKW0 tKW1 tKW2 tKW3 tKW4 : Tok} {aBK : Addr} {odBK : Option Addr} {nBK : Nat} {slBK : Array (Option Value)} {tBK0 tBK1 tBK2 tBK3 tBK4 tBK5 tBK6 : Tok} {aNK : Addr} {odNK : Option Addr} {nNK : Nat} {slNK : Array (Option Value)} {tNK0 tNK1 tNK2 : Tok} {tLN : Tok} {tMP : Tok} {tGD : Tok} {tMO : Tok} {tMA : Tok} {cB cE cI fI : Addr} {odI anI : Option Addr} {slI : Array (Option Value)} {nm q : Str} {N : Addr} {bs : List Value} {sn : List Str} {sub : List Value} {ab : Bool} {col : Option Bool} {dd : Option Addr} {m0 m1 m2 m3 m5 : Option Value} {ocI kVI dcI pmI cdI ctI : Value}
    (a0 : PySem.W.nsIn K mainGlobals "is_name" = some (some (.ref f0)))
    (l0 : K.lookup f0 = some ⟨oc0, od0, .func (PySem.W.fnOf "is_name" "is_name" (defArgs s_is_name) (defBody s_is_name) (defScope s_is_name) .none kV0 dc0 pm0 an0 cd0 ct0), sl0⟩)
    (c0 : PySem.W.codeIn K cd0 "is_name" = true)
    (k0 : PySem.W.keepIn K (.ref f0) = true)
    (a1 : PySem.W.nsIn K mainGlobals "is_parameter" = some (some (.ref f1)))
    (l1 : K.lookup f1 = some ⟨oc1, od1, .func (PySem.W.fnOf "is_parameter" "is_parameter" (defArgs s_is_parameter) (defBody s_is_parameter) (defScope s_is_parameter) .none kV1 dc1 pm1 an1 cd1 ct1), sl1⟩)
    (c1 : PySem.W.codeIn K cd1 "is_parameter" = true)
    (k1 : PySem.W.keepIn K (.ref f1) = true)
    (a2 : PySem.W.nsIn K mainGlobals "size" = some (some (.ref f2)))
    (l2 : K.lookup f2 = some ⟨oc2, od2, .func (PySem.W.fnOf "size" "size" (defArgs s_size) (defBody s_size) (defScope s_size) .none kV2 dc2 pm2 an2 cd2 ct2), sl2⟩)
    (c2 : PySem.W.codeIn K cd2 "size" = true)
    (k2 : PySem.W.keepIn K (.ref f2) = true)
    (a3 : PySem.W.nsIn K mainGlobals "depth" = some (some (.ref f3)))
    (l3 : K.lookup f3 = some ⟨oc3, od3, .func (PySem.W.fnOf "depth" "depth" (defArgs s_depth) (defBody s_depth) (defScope s_depth) .none kV3 dc3 pm3 an3 cd3 ct3), sl3⟩)
    (c3 : PySem.W.codeIn K cd3 "depth" = true)
    (k3 : PySem.W.keepIn K (.ref f3) = true)
    (a4 : PySem.W.nsIn K mainGlobals "uses" = some (some (.ref f4)))
    (l4 : K.lookup f4 = some ⟨oc4, od4, .func (PySem.W.fnOf "uses" "uses" (defArgs s_uses) (defBody s_uses) (defScope s_uses) .none kV4 dc4 pm4 an4 cd4 ct4), sl4⟩)
    (c4 : PySem.W.codeIn K cd4 "uses" = true)
    (k4 : PySem.W.keepIn K (.ref f4) = true)
    (a5 : PySem.W.nsIn K mainGlobals "binders" = some (some (.ref f5)))
    (l5 : K.lookup f5 = some ⟨oc5, od5, .func (PySem.W.fnOf "binders" "binders" (defArgs s_binders) (defBody s_binders) (defScope s_binders) .none kV5 dc5 pm5 an5 cd5 ct5), sl5⟩)
    (c5 : PySem.W.codeIn K cd5 "binders" = true)
    (k5 : PySem.W.keepIn K (.ref f5) = true)
    (a6 : PySem.W.nsIn K mainGlobals "calls" = some (some (.ref f6)))
    (l6 : K.lookup f6 = some ⟨oc6, od6, .func (PySem.W.fnOf "calls" "calls" (defArgs s_calls) (defBody s_calls) (defScope s_calls) .none kV6 dc6 pm6 an6 cd6 ct6), sl6⟩)
    (c6 : PySem.W.codeIn K cd6 "calls" = true)
    (k6 : PySem.W.keepIn K (.ref f6) = true)
    (a7 : PySem.W.nsIn K mainGlobals "parts_of_body" = some (some (.ref f7)))
    (l7 : K.lookup f7 = some ⟨oc7, od7, .func (PySem.W.fnOf "parts_of_body" "parts_of_body" (defArgs s_parts_of_body) (defBody s_parts_of_body) (defScope s_parts_of_body) .none kV7 dc7 pm7 an7 cd7 ct7), sl7⟩)
    (c7 : PySem.W.codeIn K cd7 "parts_of_body" = true)
    (k7 : PySem.W.keepIn K (.ref f7) = true)
    (a8 : PySem.W.nsIn K mainGlobals "levelled_parts" = some (some (.ref f8)))
    (l8 : K.lookup f8 = some ⟨oc8, od8, .func (PySem.W.fnOf "levelled_parts" "levelled_parts" (defArgs s_levelled_parts) (defBody s_levelled_parts) (defScope s_levelled_parts) .none kV8 dc8 pm8 an8 cd8 ct8), sl8⟩)
    (c8 : PySem.W.codeIn K cd8 "levelled_parts" = true)
    (k8 : PySem.W.keepIn K (.ref f8) = true)
    (a9 : PySem.W.nsIn K mainGlobals "parts_within" = some (some (.ref f9)))
    (l9 : K.lookup f9 = some ⟨oc9, od9, .func (PySem.W.fnOf "parts_within" "parts_within" (defArgs s_parts_within) (defBody s_parts_within) (defScope s_parts_within) .none kV9 dc9 pm9 an9 cd9 ct9), sl9⟩)
    (c9 : PySem.W.codeIn K cd9 "parts_within" = true)
    (k9 : PySem.W.keepIn K (.ref f9) = true)
    (a10 : PySem.W.nsIn K mainGlobals "is_part" = some (some (.ref f10)))
    (l10 : K.lookup f10 = some ⟨oc10, od10, .func (PySem.W.fnOf "is_part" "is_part" (defArgs s_is_part) (defBody s_is_part) (defScope s_is_part) .none kV10 dc10 pm10 an10 cd10 ct10), sl10⟩)
    (c10 : PySem.W.codeIn K cd10 "is_part" = true)
    (k10 : PySem.W.keepIn K (.ref f10) = true)
    (a11 : PySem.W.nsIn K mainGlobals "has_row" = some (some (.ref f11)))
    (l11 : K.lookup f11 = some ⟨oc11, od11, .func (PySem.W.fnOf "has_row" "has_row" (defArgs s_has_row) (defBody s_has_row) (defScope s_has_row) .none kV11 dc11 pm11 an11 cd11 ct11), sl11⟩)
    (c11 : PySem.W.codeIn K cd11 "has_row" = true)
    (k11 : PySem.W.keepIn K (.ref f11) = true)
    (a12 : PySem.W.nsIn K mainGlobals "is_name_within" = some (some (.ref f12)))
    (l12 : K.lookup f12 = some ⟨oc12, od12, .func (PySem.W.fnOf "is_name_within" "is_name_within" (defArgs s_is_name_within) (defBody s_is_name_within) (defScope s_is_name_within) .none kV12 dc12 pm12 an12 cd12 ct12), sl12⟩)
    (c12 : PySem.W.codeIn K cd12 "is_name_within" = true)
    (k12 : PySem.W.keepIn K (.ref f12) = true)
    (a13 : PySem.W.nsIn K mainGlobals "is_allowed" = some (some (.ref f13)))
    (l13 : K.lookup f13 = some ⟨oc13, od13, .func (PySem.W.fnOf "is_allowed" "is_allowed" (defArgs s_is_allowed) (defBody s_is_allowed) (defScope s_is_allowed) .none kV13 dc13 pm13 an13 cd13 ct13), sl13⟩)
    (c13 : PySem.W.codeIn K cd13 "is_allowed" = true)
    (k13 : PySem.W.keepIn K (.ref f13) = true)
    (a14 : PySem.W.nsIn K mainGlobals "term_text" = some (some (.ref f14)))
    (l14 : K.lookup f14 = some ⟨oc14, od14, .func (PySem.W.fnOf "term_text" "term_text" (defArgs s_term_text) (defBody s_term_text) (defScope s_term_text) .none kV14 dc14 pm14 an14 cd14 ct14), sl14⟩)
    (c14 : PySem.W.codeIn K cd14 "term_text" = true)
    (k14 : PySem.W.keepIn K (.ref f14) = true)
    (a15 : PySem.W.nsIn K mainGlobals "_law_cell" = some (some (.ref f15)))
    (l15 : K.lookup f15 = some ⟨oc15, od15, .func (PySem.W.fnOf "_law_cell" "_law_cell" (defArgs s_l_cell) (defBody s_l_cell) (defScope s_l_cell) .none kV15 dc15 pm15 an15 cd15 ct15), sl15⟩)
    (c15 : PySem.W.codeIn K cd15 "_law_cell" = true)
    (k15 : PySem.W.keepIn K (.ref f15) = true)
    (a16 : PySem.W.nsIn K mainGlobals "_law_purse" = some (some (.ref f16)))
    (l16 : K.lookup f16 = some ⟨oc16, od16, .func (PySem.W.fnOf "_law_purse" "_law_purse" (defArgs s_l_purse) (defBody s_l_purse) (defScope s_l_purse) .none kV16 dc16 pm16 an16 cd16 ct16), sl16⟩)
    (c16 : PySem.W.codeIn K cd16 "_law_purse" = true)
    (k16 : PySem.W.keepIn K (.ref f16) = true)
    (a17 : PySem.W.nsIn K mainGlobals "_law_take" = some (some (.ref f17)))
    (l17 : K.lookup f17 = some ⟨oc17, od17, .func (PySem.W.fnOf "_law_take" "_law_take" (defArgs s_l_take) (defBody s_l_take) (defScope s_l_take) .none kV17 dc17 pm17 an17 cd17 ct17), sl17⟩)
    (c17 : PySem.W.codeIn K cd17 "_law_take" = true)
    (k17 : PySem.W.keepIn K (.ref f17) = true)
    (a18 : PySem.W.nsIn K mainGlobals "_law_pool" = some (some (.ref f18)))
    (l18 : K.lookup f18 = some ⟨oc18, od18, .func (PySem.W.fnOf "_law_pool" "_law_pool" (defArgs s_l_pool) (defBody s_l_pool) (defScope s_l_pool) .none kV18 dc18 pm18 an18 cd18 ct18), sl18⟩)
    (c18 : PySem.W.codeIn K cd18 "_law_pool" = true)
    (k18 : PySem.W.keepIn K (.ref f18) = true)
    (a19 : PySem.W.nsIn K mainGlobals "_law_parts" = some (some (.ref f19)))
    (l19 : K.lookup f19 = some ⟨oc19, od19, .func (PySem.W.fnOf "_law_parts" "_law_parts" (defArgs s_l_parts) (defBody s_l_parts) (defScope s_l_parts) .none kV19 dc19 pm19 an19 cd19 ct19), sl19⟩)
    (c19 : PySem.W.codeIn K cd19 "_law_parts" = true)
    (k19 : PySem.W.keepIn K (.ref f19) = true)
    (a20 : PySem.W.nsIn K mainGlobals "_law_piece" = some (some (.ref f20)))
    (l20 : K.lookup f20 = some ⟨oc20, od20, .func (PySem.W.fnOf "_law_piece" "_law_piece" (defArgs s_l_piece) (defBody s_l_piece) (defScope s_l_piece) .none kV20 dc20 pm20 an20 cd20 ct20), sl20⟩)
    (c20 : PySem.W.codeIn K cd20 "_law_piece" = true)
    (k20 : PySem.W.keepIn K (.ref f20) = true)
    (a21 : PySem.W.nsIn K mainGlobals "_law_bad" = some (some (.ref f21)))
    (l21 : K.lookup f21 = some ⟨oc21, od21, .func (PySem.W.fnOf "_law_bad" "_law_bad" (defArgs s_l_bad) (defBody s_l_bad) (defScope s_l_bad) .none kV21 dc21 pm21 an21 cd21 ct21), sl21⟩)
    (c21 : PySem.W.codeIn K cd21 "_law_bad" = true)
    (k21 : PySem.W.keepIn K (.ref f21) = true)
    (a22 : PySem.W.nsIn K mainGlobals "_law_within" = some (some (.ref f22)))
    (l22 : K.lookup f22 = some ⟨oc22, od22, .func (PySem.W.fnOf "_law_within" "_law_within" (defArgs s_l_within) (defBody s_l_within) (defScope s_l_within) .none kV22 dc22 pm22 an22 cd22 ct22), sl22⟩)
    (c22 : PySem.W.codeIn K cd22 "_law_within" = true)
    (k22 : PySem.W.keepIn K (.ref f22) = true)
    (a23 : PySem.W.nsIn K mainGlobals "_law_all" = some (some (.ref f23)))
    (l23 : K.lookup f23 = some ⟨oc23, od23, .func (PySem.W.fnOf "_law_all" "_law_all" (defArgs s_l_all) (defBody s_l_all) (defScope s_l_all) .none kV23 dc23 pm23 an23 cd23 ct23), sl23⟩)
    (c23 : PySem.W.codeIn K cd23 "_law_all" = true)
    (k23 : PySem.W.keepIn K (.ref f23) = true)
    (a24 : PySem.W.nsIn K mainGlobals "_law_deep" = some (some (.ref f24)))
    (l24 : K.lookup f24 = some ⟨oc24, od24, .func (PySem.W.fnOf "_law_deep" "_law_deep" (defArgs s_l_deep) (defBody s_l_deep) (defScope s_l_deep) .none kV24 dc24 pm24 an24 cd24 ct24), sl24⟩)
    (c24 : PySem.W.codeIn K cd24 "_law_deep" = true)
    (k24 : PySem.W.keepIn K (.ref f24) = true)
    (a25 : PySem.W.nsIn K mainGlobals "_law_told" = some (some (.ref f25)))
    (l25 : K.lookup f25 = some ⟨oc25, od25, .func (PySem.W.fnOf "_law_told" "_law_told" (defArgs s_l_told) (defBody s_l_told) (defScope s_l_told) .none kV25 dc25 pm25 an25 cd25 ct25), sl25⟩)
    (c25 : PySem.W.codeIn K cd25 "_law_told" = true)
    (k25 : PySem.W.keepIn K (.ref f25) = true)
    (a26 : PySem.W.nsIn K mainGlobals "_law_refused" = some (some (.ref f26)))
    (l26 : K.lookup f26 = some ⟨oc26, od26, .func (PySem.W.fnOf "_law_refused" "_law_refused" (defArgs s_l_refused) (defBody s_l_refused) (defScope s_l_refused) .none kV26 dc26 pm26 an26 cd26 ct26), sl26⟩)
    (c26 : PySem.W.codeIn K cd26 "_law_refused" = true)
    (k26 : PySem.W.keepIn K (.ref f26) = true)
    (a27 : PySem.W.nsIn K mainGlobals "_law_right" = some (some (.ref f27)))
    (l27 : K.lookup f27 = some ⟨oc27, od27, .func (PySem.W.fnOf "_law_right" "_law_right" (defArgs s_l_right) (defBody s_l_right) (defScope s_l_right) .none kV27 dc27 pm27 an27 cd27 ct27), sl27⟩)
    (c27 : PySem.W.codeIn K cd27 "_law_right" = true)
    (k27 : PySem.W.keepIn K (.ref f27) = true)
    (a28 : PySem.W.nsIn K mainGlobals "law" = some (some (.ref f28)))
    (l28 : K.lookup f28 = some ⟨oc28, od28, .func (PySem.W.fnOf "law" "law" (defArgs s_law) (defBody s_law) (defScope s_law) .none kV28 dc28 pm28 an28 cd28 ct28), sl28⟩)
    (c28 : PySem.W.codeIn K cd28 "law" = true)
    (k28 : PySem.W.keepIn K (.ref f28) = true)
    (z0 : PySem.W.nsIn K mainGlobals "len" = some none)
    (z1 : PySem.W.nsIn K mainGlobals "max" = some none)
    (z2 : PySem.W.nsIn K mainGlobals "min" = some none)
    (z3 : PySem.W.nsIn K mainGlobals "range" = some none)
    (z4 : PySem.W.nsIn K mainGlobals "isinstance" = some none)
    (z5 : PySem.W.nsIn K mainGlobals "int" = some none)
    (z6 : PySem.W.nsIn K mainGlobals "str" = some none)
    (z7 : PySem.W.nsIn K mainGlobals "list" = some none)
    (z8 : PySem.W.nsIn K mainGlobals "tuple" = some none)
    (z9 : PySem.W.nsIn K mainGlobals "repr" = some none)
    (gKW : PySem.W.nsIn K mainGlobals "KEYWORDS" = some (some (.ref aKW)))
    (hKW : K.lookup aKW = some ⟨.type "tuple", odKW, .seq #[.str "let" tKW0, .str "in" tKW1, .str "each" tKW2, .str "of" tKW3, .str "want" tKW4] nKW, slKW⟩)
    (gBK : PySem.W.nsIn K mainGlobals "BODY_KINDS" = some (some (.ref aBK)))
    (hBK : K.lookup aBK = some ⟨.type "tuple", odBK, .seq #[.str "name" tBK0, .str "op" tBK1, .str "let" tBK2, .str "each" tBK3, .str "call" tBK4, .str "hole" tBK5, .str "want" tBK6] nBK, slBK⟩)
    (gNK : PySem.W.nsIn K mainGlobals "BINDER_KINDS" = some (some (.ref aNK)))
    (hNK : K.lookup aNK = some ⟨.type "tuple", odNK, .seq #[.str "let" tNK0, .str "each" tNK1, .str "want" tNK2] nNK, slNK⟩)
    (gLN : PySem.W.nsIn K mainGlobals "LONGEST_NAME" = some (some (.int 6 tLN)))
    (gMP : PySem.W.nsIn K mainGlobals "MOST_PARTS" = some (some (.int 400 tMP)))
    (gGD : PySem.W.nsIn K mainGlobals "GREATEST_DEPTH" = some (some (.int 60 tGD)))
    (gMO : PySem.W.nsIn K mainGlobals "MOST_OPERANDS" = some (some (.int 3 tMO)))
    (gMA : PySem.W.nsIn K mainGlobals "MOST_ARGUMENTS" = some (some (.int 5 tMA)))
    (aCB : PySem.W.nsIn K mainGlobals "InvalidBody" = some (some (.ref cB)))
    (aCE : PySem.W.nsIn K mainGlobals "CaughtError" = some (some (.ref cE)))
    (aCI : PySem.W.nsIn K mainGlobals "InvalidTerm" = some (some (.ref cI)))
    (xL : K.lookup cB = some (excClassObj nm q cB N bs [.ref cE, .type "ValueError", .type "Exception", .type "BaseException", .type "object"] true sn sub ab col dd m0 m1 m2 m3 m5 "ValueError.__new__"))
    (sa : PySem.W.findIn K (.ref cB) "__setattr__" = some (some (.builtin "object.__setattr__")))
    (ga : PySem.W.findIn K (.ref cB) "__getattribute__" = some (some (.builtin "BaseException.__getattribute__")))
    (gg : PySem.W.findIn K (.ref cB) "__getattr__" = some none)
    (nv : PySem.W.findIn K (.ref cB) "value" = some none)
    (iC : PySem.W.findIn K (.ref cB) "__init__" = some (some (.ref fI)))
    (tI : PySem.W.typeIn K (.ref fI) = some (.type "function"))
    (lI : K.lookup fI = some ⟨ocI, odI, .func (PySem.W.fnOf "__init__" "InvalidBody.__init__" (defArgs s_init) (defBody s_init) (defScope s_init) .none kVI dcI pmI anI cdI ctI), slI⟩)
    (cJ : PySem.W.codeIn K cdI "InvalidBody.__init__" = true)
    (kJ : PySem.W.keepIn K (.ref fI) = true)
    (kC : PySem.W.keepIn K (.ref cB) = true)
    (eC : PySem.W.subIn K (.ref cB) (.type "BaseException") = some true)
    (tC : PySem.W.typeIn K (.ref cB) = some (.type "type"))
    (hC : PySem.W.hasDictIn K cB = true)
    (hcl : PySem.W.findIn K (.ref cB) "__class__" = some (some (.builtin "object.__class__")))
    (hsp : PySem.W.specialIn K (.builtin "object.__class__") "__get__" = some (some (.builtin "getset_descriptor.__get__")))
    (htk : PySem.W.takesIn K (.builtin "object.__class__") = some true)
    (hmo : PySem.W.mroIn K cB (.type "object") = some true)
    (kCE : PySem.W.kitOne K (.ref cB) (.ref cE) = some true)
    (kIT : PySem.W.kitOne K (.ref cB) (.ref cI) = some false)
    (sCC : PySem.W.subIn K (.ref cB) (.ref cB) = some true) :
    ∃ fd : FuncData, (∀ (s : Shared) (v : Value), BindsTo s fd ⟨[v], []⟩ [("_law_script", v)]) ∧ ∀ base : Heap, K.In base → base.Ns mainGlobals mg → CaG.FnG l.prog w K mg base 31 fa fd ["_law_script"] (spLaw K) := by
  have e := hfa.symm.trans (PySem.W.mg_of X G a28)
  cases e
  have F_is_name := fun_mk (st := s_is_name) l0 c0 k0
  have b_is_name := F_is_name.binds (ps := ["value"]) fun _ _ _ _ _ _ us hl => match us, hl with | [_], _ => rfl
  have g_is_name := PySem.W.mg_of X G a0
  have F_is_parameter := fun_mk (st := s_is_parameter) l1 c1 k1
  have b_is_parameter := F_is_parameter.binds (ps := ["value"]) fun _ _ _ _ _ _ us hl => match us, hl with | [_], _ => rfl
  have g_is_parameter := PySem.W.mg_of X G a1
  have F_size := fun_mk (st := s_size) l2 c2 k2
  have b_size := F_size.binds (ps := ["body"]) fun _ _ _ _ _ _ us hl => match us, hl with | [_], _ => rfl
  have g_size := PySem.W.mg_of X G a2
  have F_depth := fun_mk (st := s_depth) l3 c3 k3
  have b_depth := F_depth.binds (ps := ["body"]) fun _ _ _ _ _ _ us hl => match us, hl with | [_], _ => rfl
  have g_depth := PySem.W.mg_of X G a3
  have F_uses := fun_mk (st := s_uses) l4 c4 k4
  have b_uses := F_uses.binds (ps := ["body"]) fun _ _ _ _ _ _ us hl => match us, hl with | [_], _ => rfl
  have g_uses := PySem.W.mg_of X G a4
  have F_binders := fun_mk (st := s_binders) l5 c5 k5
  have b_binders := F_binders.binds (ps := ["body"]) fun _ _ _ _ _ _ us hl => match us, hl with | [_], _ => rfl
  have g_binders := PySem.W.mg_of X G a5
  have F_calls := fun_mk (st := s_calls) l6 c6 k6
  have b_calls := F_calls.binds (ps := ["body"]) fun _ _ _ _ _ _ us hl => match us, hl with | [_], _ => rfl
  have g_calls := PySem.W.mg_of X G a6
  have F_parts_of_body := fun_mk (st := s_parts_of_body) l7 c7 k7
  have b_parts_of_body := F_parts_of_body.binds (ps := ["body"]) fun _ _ _ _ _ _ us hl => match us, hl with | [_], _ => rfl
  have g_parts_of_body := PySem.W.mg_of X G a7
  have F_levelled_parts := fun_mk (st := s_levelled_parts) l8 c8 k8
  have b_levelled_parts := F_levelled_parts.binds (ps := ["value", "kinds", "parameters"]) fun _ _ _ _ _ _ us hl => match us, hl with | [_, _, _], _ => rfl
  have g_levelled_parts := PySem.W.mg_of X G a8
  have F_parts_within := fun_mk (st := s_parts_within) l9 c9 k9
  have b_parts_within := F_parts_within.binds (ps := ["part"]) fun _ _ _ _ _ _ us hl => match us, hl with | [_], _ => rfl
  have g_parts_within := PySem.W.mg_of X G a9
  have F_is_part := fun_mk (st := s_is_part) l10 c10 k10
  have b_is_part := F_is_part.binds (ps := ["value", "kinds", "parameters"]) fun _ _ _ _ _ _ us hl => match us, hl with | [_, _, _], _ => rfl
  have g_is_part := PySem.W.mg_of X G a10
  have F_has_row := fun_mk (st := s_has_row) l11 c11 k11
  have b_has_row := F_has_row.binds (ps := ["value", "most"]) fun _ _ _ _ _ _ us hl => match us, hl with | [_, _], _ => rfl
  have g_has_row := PySem.W.mg_of X G a11
  have F_is_name_within := fun_mk (st := s_is_name_within) l12 c12 k12
  have b_is_name_within := F_is_name_within.binds (ps := ["value", "parameters"]) fun _ _ _ _ _ _ us hl => match us, hl with | [_, _], _ => rfl
  have g_is_name_within := PySem.W.mg_of X G a12
  have F_is_allowed := fun_mk (st := s_is_allowed) l13 c13 k13
  have b_is_allowed := F_is_allowed.binds (ps := ["parameter", "parameters"]) fun _ _ _ _ _ _ us hl => match us, hl with | [_, _], _ => rfl
  have g_is_allowed := PySem.W.mg_of X G a13
  have F_term_text := fun_mk (st := s_term_text) l14 c14 k14
  have b_term_text := F_term_text.binds (ps := ["body"]) fun _ _ _ _ _ _ us hl => match us, hl with | [_], _ => rfl
  have g_term_text := PySem.W.mg_of X G a14
  have F_l_cell := fun_mk (st := s_l_cell) l15 c15 k15
  have b_l_cell := F_l_cell.binds (ps := ["_law_script", "_law_k"]) fun _ _ _ _ _ _ us hl => match us, hl with | [_, _], _ => rfl
  have g_l_cell := PySem.W.mg_of X G a15
  have F_l_purse := fun_mk (st := s_l_purse) l16 c16 k16
  have b_l_purse := F_l_purse.binds (ps := ["_law_cell_here"]) fun _ _ _ _ _ _ us hl => match us, hl with | [_], _ => rfl
  have g_l_purse := PySem.W.mg_of X G a16
  have F_l_take := fun_mk (st := s_l_take) l17 c17 k17
  have b_l_take := F_l_take.binds (ps := ["_law_purse_here", "_law_many"]) fun _ _ _ _ _ _ us hl => match us, hl with | [_, _], _ => rfl
  have g_l_take := PySem.W.mg_of X G a17
  have F_l_pool := fun_mk (st := s_l_pool) l18 c18 k18
  have b_l_pool := F_l_pool.binds (ps := ["_law_purse_here"]) fun _ _ _ _ _ _ us hl => match us, hl with | [_], _ => rfl
  have g_l_pool := PySem.W.mg_of X G a18
  have F_l_parts := fun_mk (st := s_l_parts) l19 c19 k19
  have b_l_parts := F_l_parts.binds (ps := ["_law_purse_here", "_law_pool_here", "_law_room", "_law_deep_here", "_law_way", "_law_many"]) fun _ _ _ _ _ _ us hl => match us, hl with | [_, _, _, _, _, _], _ => rfl
  have g_l_parts := PySem.W.mg_of X G a19
  have F_l_piece := fun_mk (st := s_l_piece) l20 c20 k20
  have b_l_piece := F_l_piece.binds (ps := ["_law_purse_here", "_law_pool_here", "_law_room", "_law_deep_here", "_law_way"]) fun _ _ _ _ _ _ us hl => match us, hl with | [_, _, _, _, _], _ => rfl
  have g_l_piece := PySem.W.mg_of X G a20
  have F_l_bad := fun_mk (st := s_l_bad) l21 c21 k21
  have b_l_bad := F_l_bad.binds (ps := ["_law_purse_here", "_law_value"]) fun _ _ _ _ _ _ us hl => match us, hl with | [_, _], _ => rfl
  have g_l_bad := PySem.W.mg_of X G a21
  have F_l_within := fun_mk (st := s_l_within) l22 c22 k22
  have b_l_within := F_l_within.binds (ps := ["_law_value"]) fun _ _ _ _ _ _ us hl => match us, hl with | [_], _ => rfl
  have g_l_within := PySem.W.mg_of X G a22
  have F_l_all := fun_mk (st := s_l_all) l23 c23 k23
  have b_l_all := F_l_all.binds (ps := ["_law_value"]) fun _ _ _ _ _ _ us hl => match us, hl with | [_], _ => rfl
  have g_l_all := PySem.W.mg_of X G a23
  have F_l_deep := fun_mk (st := s_l_deep) l24 c24 k24
  have b_l_deep := F_l_deep.binds (ps := ["_law_value"]) fun _ _ _ _ _ _ us hl => match us, hl with | [_], _ => rfl
  have g_l_deep := PySem.W.mg_of X G a24
  have F_l_told := fun_mk (st := s_l_told) l25 c25 k25
  have b_l_told := F_l_told.binds (ps := ["_law_way", "_law_value"]) fun _ _ _ _ _ _ us hl => match us, hl with | [_, _], _ => rfl
  have g_l_told := PySem.W.mg_of X G a25
  have F_l_refused := fun_mk (st := s_l_refused) l26 c26 k26
  have b_l_refused := F_l_refused.binds (ps := ["_law_way", "_law_value"]) fun _ _ _ _ _ _ us hl => match us, hl with | [_, _], _ => rfl
  have g_l_refused := PySem.W.mg_of X G a26
  have F_l_right := fun_mk (st := s_l_right) l27 c27 k27
  have b_l_right := F_l_right.binds (ps := ["_law_purse_here"]) fun _ _ _ _ _ _ us hl => match us, hl with | [_], _ => rfl
  have g_l_right := PySem.W.mg_of X G a27
  have F_law := fun_mk (st := s_law) l28 c28 k28
  have n_len := PySem.W.mg_none_of X G z0
  have n_max := PySem.W.mg_none_of X G z1
  have n_min := PySem.W.mg_none_of X G z2
  have n_range := PySem.W.mg_none_of X G z3
  have n_isinstance := PySem.W.mg_none_of X G z4
  have n_int := PySem.W.mg_none_of X G z5
  have n_str := PySem.W.mg_none_of X G z6
  have n_list := PySem.W.mg_none_of X G z7
  have n_tuple := PySem.W.mg_none_of X G z8
  have n_repr := PySem.W.mg_none_of X G z9
  have FI := fun_mk (st := s_init) lI cJ kJ
  have bI := FI.binds (ps := ["self", "value"]) fun _ _ _ _ _ _ us hl => match us, hl with | [_, _], _ => rfl
  have T : TP K mg := { n_len := n_len, n_max := n_max, n_min := n_min, n_range := n_range, n_isinstance := n_isinstance, n_int := n_int, n_str := n_str, n_list := n_list, n_tuple := n_tuple, n_repr := n_repr, aKW := aKW, gl_KEYWORDS := PySem.W.mg_of X G gKW, sKW := fun H => .inr ⟨_, _, _, hKW, rfl, rfl, (by show 5 ≤ sizeLine; decide), (.cons ⟨_, rfl⟩ (.cons ⟨_, rfl⟩ (.cons ⟨_, rfl⟩ (.cons ⟨_, rfl⟩ (.cons ⟨_, rfl⟩ .nil)))))⟩, aBK := aBK, gl_BODY_KINDS := PySem.W.mg_of X G gBK, sBK := fun H => .inr ⟨_, _, _, hBK, rfl, rfl, (by show 7 ≤ sizeLine; decide), (.cons ⟨_, rfl⟩ (.cons ⟨_, rfl⟩ (.cons ⟨_, rfl⟩ (.cons ⟨_, rfl⟩ (.cons ⟨_, rfl⟩ (.cons ⟨_, rfl⟩ (.cons ⟨_, rfl⟩ .nil)))))))⟩, aNK := aNK, gl_BINDER_KINDS := PySem.W.mg_of X G gNK, sNK := fun H => .inr ⟨_, _, _, hNK, rfl, rfl, (by show 3 ≤ sizeLine; decide), (.cons ⟨_, rfl⟩ (.cons ⟨_, rfl⟩ (.cons ⟨_, rfl⟩ .nil)))⟩, tLN := tLN, gl_LONGEST_NAME := PySem.W.mg_of X G gLN, tMP := tMP, gl_MOST_PARTS := PySem.W.mg_of X G gMP, tGD := tGD, gl_GREATEST_DEPTH := PySem.W.mg_of X G gGD, tMO := tMO, gl_MOST_OPERANDS := PySem.W.mg_of X G gMO, tMA := tMA, gl_MOST_ARGUMENTS := PySem.W.mg_of X G gMA, cIB := cB, fIB := fI, fdIB := _, ib := ⟨⟨⟨nm, q, N, bs, _, sn, sub, ab, col, dd, m0, m1, m2, m3, m5, xL, (show PySem.HandSPX.refsVE [.type "ValueError", .type "Exception", .type "BaseException", .type "object"] = true by decide +kernel)⟩, sa, eC, tC, kC⟩, ⟨ga, gg, eC, hC, hcl, hsp, htk, hmo⟩, ⟨ga, gg, eC, hC⟩, nv, iC, tI, PySem.W.mg_of X G aCB⟩, FI := FI, bI := bI, cCE := cE, gCE := PySem.W.mg_of X G aCE, kCE := kCE, cIT := cI, gIT := PySem.W.mg_of X G aCI, kIT := kIT, mat := PySem.W.exm_ref eC hC tC sCC, d_is_name := ⟨_, _, F_is_name, b_is_name, g_is_name⟩, d_is_parameter := ⟨_, _, F_is_parameter, b_is_parameter, g_is_parameter⟩, d_size := ⟨_, _, F_size, b_size, g_size⟩, d_depth := ⟨_, _, F_depth, b_depth, g_depth⟩, d_uses := ⟨_, _, F_uses, b_uses, g_uses⟩, d_binders := ⟨_, _, F_binders, b_binders, g_binders⟩, d_calls := ⟨_, _, F_calls, b_calls, g_calls⟩, d_parts_of_body := ⟨_, _, F_parts_of_body, b_parts_of_body, g_parts_of_body⟩, d_levelled_parts := ⟨_, _, F_levelled_parts, b_levelled_parts, g_levelled_parts⟩, d_parts_within := ⟨_, _, F_parts_within, b_parts_within, g_parts_within⟩, d_is_part := ⟨_, _, F_is_part, b_is_part, g_is_part⟩, d_has_row := ⟨_, _, F_has_row, b_has_row, g_has_row⟩, d_is_name_within := ⟨_, _, F_is_name_within, b_is_name_within, g_is_name_within⟩, d_is_allowed := ⟨_, _, F_is_allowed, b_is_allowed, g_is_allowed⟩, d_term_text := ⟨_, _, F_term_text, b_term_text, g_term_text⟩, d_l_cell := ⟨_, _, F_l_cell, b_l_cell, g_l_cell⟩, d_l_purse := ⟨_, _, F_l_purse, b_l_purse, g_l_purse⟩, d_l_take := ⟨_, _, F_l_take, b_l_take, g_l_take⟩, d_l_pool := ⟨_, _, F_l_pool, b_l_pool, g_l_pool⟩, d_l_parts := ⟨_, _, F_l_parts, b_l_parts, g_l_parts⟩, d_l_piece := ⟨_, _, F_l_piece, b_l_piece, g_l_piece⟩, d_l_bad := ⟨_, _, F_l_bad, b_l_bad, g_l_bad⟩, d_l_within := ⟨_, _, F_l_within, b_l_within, g_l_within⟩, d_l_all := ⟨_, _, F_l_all, b_l_all, g_l_all⟩, d_l_deep := ⟨_, _, F_l_deep, b_l_deep, g_l_deep⟩, d_l_told := ⟨_, _, F_l_told, b_l_told, g_l_told⟩, d_l_refused := ⟨_, _, F_l_refused, b_l_refused, g_l_refused⟩, d_l_right := ⟨_, _, F_l_right, b_l_right, g_l_right⟩ }
  exact ⟨PySem.W.fnOf "law" "law" (defArgs s_law) (defBody s_law) (defScope s_law) .none kV28 dc28 pm28 an28 cd28 ct28, fun s v => .of_eq rfl, fun base _ _ => ok_law F_law T⟩
end K12
open PySem PySem.W PyProof.Rows
set_option maxRecDepth 100000 in
set_option maxHeartbeats 0 in
theorem PySem.Challenge.cw_caughtnames_k12_parts_listed_holds : PySem.Challenge.rw_caughtnames_k12_parts_listed.Holds := by
  w_on; o_law; k_head; (case hw => w_witness2)
  k_fill
  refine CaG.walk_G (l := PySem.Challenge.rw_caughtnames_k12_parts_listed) (n := 63) (k := 31) (x := "_law_script") (sp := CaL.spLaw) rfl (by decide) rfl ⟨rfl, by decide, by decide⟩ (fun w h Y => PySem.W.kIn_of Y) ?F (fun _ _ a ns hl hS => ⟨a, ns, rfl, hS, hl, fun _ => rfl⟩)
  case F =>
    intro w mg fa h KX G hmg
    refine' K12.all_mk KX G hmg ?a0 ?l0 ?c0 ?k0 ?a1 ?l1 ?c1 ?k1 ?a2 ?l2 ?c2 ?k2 ?a3 ?l3 ?c3 ?k3 ?a4 ?l4 ?c4 ?k4 ?a5 ?l5 ?c5 ?k5 ?a6 ?l6 ?c6 ?k6 ?a7 ?l7 ?c7 ?k7 ?a8 ?l8 ?c8 ?k8 ?a9 ?l9 ?c9 ?k9 ?a10 ?l10 ?c10 ?k10 ?a11 ?l11 ?c11 ?k11 ?a12 ?l12 ?c12 ?k12 ?a13 ?l13 ?c13 ?k13 ?a14 ?l14 ?c14 ?k14 ?a15 ?l15 ?c15 ?k15 ?a16 ?l16 ?c16 ?k16 ?a17 ?l17 ?c17 ?k17 ?a18 ?l18 ?c18 ?k18 ?a19 ?l19 ?c19 ?k19 ?a20 ?l20 ?c20 ?k20 ?a21 ?l21 ?c21 ?k21 ?a22 ?l22 ?c22 ?k22 ?a23 ?l23 ?c23 ?k23 ?a24 ?l24 ?c24 ?k24 ?a25 ?l25 ?c25 ?k25 ?a26 ?l26 ?c26 ?k26 ?a27 ?l27 ?c27 ?k27 ?a28 ?l28 ?c28 ?k28 ?z0 ?z1 ?z2 ?z3 ?z4 ?z5 ?z6 ?z7 ?z8 ?z9 ?gKW ?hKW ?gBK ?hBK ?gNK ?hNK ?gLN ?gMP ?gGD ?gMO ?gMA ?aCB ?aCE ?aCI ?xL ?sa ?ga ?gg ?nv ?iC ?tI ?lI ?cJ ?kJ ?kC ?eC ?tC ?hC ?hcl ?hsp ?htk ?hmo ?kCE ?kIT ?sCC
    (case a0 => k_is)
    (case l0 => k_is)
    (case c0 => k_is)
    (case k0 => k_is)
    (case a1 => k_is)
    (case l1 => k_is)
    (case c1 => k_is)
    (case k1 => k_is)
    (case a2 => k_is)
    (case l2 => k_is)
    (case c2 => k_is)
    (case k2 => k_is)
    (case a3 => k_is)
    (case l3 => k_is)
    (case c3 => k_is)
    (case k3 => k_is)
    (case a4 => k_is)
    (case l4 => k_is)
    (case c4 => k_is)
    (case k4 => k_is)
    (case a5 => k_is)
    (case l5 => k_is)
    (case c5 => k_is)
    (case k5 => k_is)
    (case a6 => k_is)
    (case l6 => k_is)
    (case c6 => k_is)
    (case k6 => k_is)
    (case a7 => k_is)
    (case l7 => k_is)
    (case c7 => k_is)
    (case k7 => k_is)
    (case a8 => k_is)
    (case l8 => k_is)
    (case c8 => k_is)
    (case k8 => k_is)
    (case a9 => k_is)
    (case l9 => k_is)
    (case c9 => k_is)
    (case k9 => k_is)
    (case a10 => k_is)
    (case l10 => k_is)
    (case c10 => k_is)
    (case k10 => k_is)
    (case a11 => k_is)
    (case l11 => k_is)
    (case c11 => k_is)
    (case k11 => k_is)
    (case a12 => k_is)
    (case l12 => k_is)
    (case c12 => k_is)
    (case k12 => k_is)
    (case a13 => k_is)
    (case l13 => k_is)
    (case c13 => k_is)
    (case k13 => k_is)
    (case a14 => k_is)
    (case l14 => k_is)
    (case c14 => k_is)
    (case k14 => k_is)
    (case a15 => k_is)
    (case l15 => k_is)
    (case c15 => k_is)
    (case k15 => k_is)
    (case a16 => k_is)
    (case l16 => k_is)
    (case c16 => k_is)
    (case k16 => k_is)
    (case a17 => k_is)
    (case l17 => k_is)
    (case c17 => k_is)
    (case k17 => k_is)
    (case a18 => k_is)
    (case l18 => k_is)
    (case c18 => k_is)
    (case k18 => k_is)
    (case a19 => k_is)
    (case l19 => k_is)
    (case c19 => k_is)
    (case k19 => k_is)
    (case a20 => k_is)
    (case l20 => k_is)
    (case c20 => k_is)
    (case k20 => k_is)
    (case a21 => k_is)
    (case l21 => k_is)
    (case c21 => k_is)
    (case k21 => k_is)
    (case a22 => k_is)
    (case l22 => k_is)
    (case c22 => k_is)
    (case k22 => k_is)
    (case a23 => k_is)
    (case l23 => k_is)
    (case c23 => k_is)
    (case k23 => k_is)
    (case a24 => k_is)
    (case l24 => k_is)
    (case c24 => k_is)
    (case k24 => k_is)
    (case a25 => k_is)
    (case l25 => k_is)
    (case c25 => k_is)
    (case k25 => k_is)
    (case a26 => k_is)
    (case l26 => k_is)
    (case c26 => k_is)
    (case k26 => k_is)
    (case a27 => k_is)
    (case l27 => k_is)
    (case c27 => k_is)
    (case k27 => k_is)
    (case a28 => k_is)
    (case l28 => k_is)
    (case c28 => k_is)
    (case k28 => k_is)
    (case z0 => k_is)
    (case z1 => k_is)
    (case z2 => k_is)
    (case z3 => k_is)
    (case z4 => k_is)
    (case z5 => k_is)
    (case z6 => k_is)
    (case z7 => k_is)
    (case z8 => k_is)
    (case z9 => k_is)
    (case gKW => k_is)
    (case hKW => k_is)
    (case gBK => k_is)
    (case hBK => k_is)
    (case gNK => k_is)
    (case hNK => k_is)
    (case gLN => k_is)
    (case gMP => k_is)
    (case gGD => k_is)
    (case gMO => k_is)
    (case gMA => k_is)
    (case aCB => k_is)
    (case aCE => k_is)
    (case aCI => k_is)
    (case xL => k_is)
    (case sa => k_is)
    (case ga => k_is)
    (case gg => k_is)
    (case nv => k_is)
    (case iC => k_is)
    (case tI => k_is)
    (case lI => k_is)
    (case cJ => k_is)
    (case kJ => k_is)
    (case kC => k_is)
    (case eC => k_is)
    (case tC => k_is)
    (case hC => k_is)
    (case hcl => k_is)
    (case hsp => k_is)
    (case htk => k_is)
    (case hmo => k_is)
    (case kCE => kernel_rfl)
    (case kIT => kernel_rfl)
    (case sCC => k_is)
