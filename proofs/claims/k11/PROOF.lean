import PyProof.Rows.All
import Wide.All
import OpenK.AllK
import Wide.FinOn
import HandS.ForMost
import HandS.ForExc
import HandS.Lambda
import PyProof.Rows.NestShow
import KE.GoesEnum
import HandS.Walk
import HandS.IsInst
import HandS.StrMore
import HandS.Style
import KE.KRevSl
import HandS.Codes
import KE.DataMinMax
import HandS.Head0
import HandS.Head1
import HandS.Head2
import HandS.HeadEnd
import HandS.HeadHook1
import HandS.HeadHook2
import HandS.FStr
import HandS.Star
import HandS.Property
import HandS.MakeKwOnly
import PyProof.EqKinds
import HandS.ListItems
import HandS.DeepEq
import HandS.MakeKw
import HandS.HeadHook3
import HandS.ClsMeth
import HandS.DictComp
import HandS.SortRule
import KE.SortKeyHeap
import HandS.SortKw
import KE.DataMinKey
import HandS.Base
import HandS.Call
import HandS.Exc
import HandS.ExcOwn
import HandS.TryMany
import HandS.ExcIs
import HandS.ExcField
import HandS.ExcInit
import HandS.WordsExc
import KE.KIsAll
import KE.KTryMore
import KE.KExcIs
import HandS.EndTab
import HandS.NestedK
import HandS.Conv
import HandS.Defaults
import PyProof.CollectStr
import PyProof.DictUpdate
import HandS.Finally
import HandS.More
import HandS.WordsDict
import PySem.Challenge.RW_frontlines_k11_least_forms_told
set_option Elab.async false
set_option linter.all false
set_option maxRecDepth 100000
set_option maxHeartbeats 4000000
namespace FL
open PySem PySem.Spec PyProof.Rows L2
/-! A promise that is kept where no repr is under way. -/
structure FnG (P : Program) (w : World) (K : PySem.W.Frag) (mg : Str → Option Value)
    (base : Heap) (C : CXT) (k : Nat) (f : Addr) (fd : FuncData) (ps : List Str) (sp : Sp) : Prop where
  size : ∀ vs H Q E, sp vs H Q E → vs.length = ps.length
  goes : ∀ (A : Around) (outer : List Env) (s : Shared) (H : Hp) (args : Args)
      (us : List Value) (vs : List V) (Q : VK) (E : XK),
    Room k A → A.guards = some [] → Env0 P w K mg base A outer s H →
    BindsTo s fd args (ps.zip us) → Vals vs us → sp vs H Q E →
    codeAny (model P w) A (.call (.ref f) args) (CR C outer P w H s Q E) s
theorem FnG.of {P : Program} {w : World} {K : PySem.W.Frag} {mg : Str → Option Value} {base : Heap}
    {C : CXT} {k : Nat} {f : Addr} {fd : FuncData} {ps : List Str} {sp : Sp}
    (F : FnOk P w K mg base C k f fd ps sp) : FnG P w K mg base C k f fd ps sp :=
  ⟨F.len, fun A o s H a us vs Q E hr _ => F.run A o s H a us vs Q E hr⟩
section
variable {P : Program} {w : World} {K : PySem.W.Frag} {mg : Str → Option Value} {base : Heap}
theorem okG {x qual : Str} {st : Stmt} {f : Addr} {fd : FuncData} {N ps : List Str} {k : Nat} {sp : Sp}
    (F : Fun K x qual st f fd) (S : FnScope N ps (defScope st))
    (size : ∀ vs H Q E, sp vs H Q E → vs.length = ps.length)
    (body : ∀ (cdv : Value) (A : Around) (outer : List Env) (s : Shared) (H : Hp) (vs : List V) (Q : VK) (E : XK),
      Room k (A.deeper (envOfC qual (defScope st) s.heap.objs.size f cdv)) → A.guards = some [] → sp vs H Q E →
      ∃ t, PSs (cxOf CX0 P w K mg base N qual (defScope st) f cdv A outer s H E).nox (defBody st) t
        ∧ t { nx := fun _ H' => Q .non H', rt := Q } (start N vs) H) :
    FnG P w K mg base CX0 (k + 1) f fd ps sp := by
  obtain ⟨oc, od, kV, doc, pm, an, cdv, ct, osl, rfl, lk, hcd⟩ := F.ex
  refine ⟨size, fun A outer s H args us vs Q E hr hg e0 hb r hsp => ?_⟩
  refine LamX.run_ofS (k := k) lk hcd S hr e0 hb r (size _ _ _ _ hsp) fun h => ?_
  obtain ⟨t, h1, h2⟩ := body cdv A outer s H vs Q E h hg hsp
  exact ⟨t, h1.nox, h2⟩
theorem okGX {x qual : Str} {st : Stmt} {f : Addr} {fd : FuncData} {N ps : List Str} {k : Nat} {sp : Sp}
    (F : Fun K x qual st f fd) (S : FnScope N ps (defScope st))
    (size : ∀ vs H Q E, sp vs H Q E → vs.length = ps.length)
    (body : ∀ (cdv : Value) (A : Around) (outer : List Env) (s : Shared) (H : Hp) (vs : List V) (Q : VK) (E : XK),
      Room k (A.deeper (envOfC qual (defScope st) s.heap.objs.size f cdv)) → A.guards = some [] → sp vs H Q E →
      ∃ t, PSs (cxOf (L2.CX P w) P w K mg base N qual (defScope st) f cdv A outer s H E) (defBody st) t
        ∧ t { nx := fun _ H' => Q .non H', rt := Q } (start N vs) H) :
    FnG P w K mg base (L2.CX P w) (k + 1) f fd ps sp := by
  obtain ⟨oc, od, kV, doc, pm, an, cdv, ct, osl, rfl, lk, hcd⟩ := F.ex
  refine ⟨size, fun A outer s H args us vs Q E hr hg e0 hb r hsp => ?_⟩
  exact LamX.run_ofS (k := k) lk hcd S hr e0 hb r (size _ _ _ _ hsp) fun h =>
    body cdv A outer s H vs Q E h hg hsp
end
section
variable {X : Cx} {C : CXT} {k : Nat} {f : Addr} {fd : FuncData} {ps : List Str} {sp : Sp}
  {dvs : List V} {ds : List Value} {E : XK} {x : Str} {p pos : Pos} {e : Expr} {es : List Expr} {t : TA}
/-! f(e, ..) by such a promise -/
theorem pg_call (F : FnG X.prog X.w X.K X.mg X.base C k f fd ps sp) (hr : Room k X.A) (hG : X.A.guards = some [])
    (hg : Gl X x) (hm : X.mg x = some (.ref f)) (hk : PySem.W.keepIn X.K (.ref f) = true)
    (hb : Binds X.K fd ps ds) (hd : Vals dvs ds) (hx : Passes C X E) (ha : PA X (e :: es) t)
    (hdb : (x == ("__debug__" : Str)) = false := by decide)
    (he : starEach (e :: es) X.env = (false, eval e X.env) :: starEach es X.env := by rfl)
    (hpl : (backTo pos (starEach es X.env)).any (·.1) = false := by rfl) :
    PE X (.Call (.Name x p) (e :: es) [] pos) (tCall sp dvs E t) := by
  constructor
  intro pins s σ H Q I h
  refine wpAny_Call_Name_kw (ld_glob I hg hm ?_ hdb)
  refine PySem.W.callWith_K (h₀ := X.base) I.ok.mod.kin hk ?_ he hpl
  refine thn (ha.run pos pins s σ H _ I h) ?_
  rintro us s1 ⟨vs, H1, J, r, q⟩
  refine ⟨J.kIn, ?_⟩
  have r2 := r.append hd
  have hl : (us ++ ds).length = ps.length := by
    rw [← r2.length]
    exact F.size _ _ _ _ q
  have run := F.goes X.A X.stack s1 H1 ⟨us, []⟩ (us ++ ds) (vs ++ dvs) Q E hr hG J.env0 (hb s1 us J.kIn hl) r2 q
  refine wpAny_call (codeAny_mono run ?_)
  rintro (er | fl) s2 z
  · exact hx pins σ H1 s1 er s2 J z
  · cases fl with
    | ret u => exact J.after z
    | _ => exact False.elim z
end
/-! ### repr of data -/
def NiceD (d : PyData) : Prop := d.showable = true ∧ d.depth ≤ 40 ∧ d.shown.length ≤ sizeLine
/-- data of a value; an empty dict too -/
def Sh (K : PySem.W.Frag) (H : Hp) (v : V) (d : PyData) : Prop :=
  (Dp K H v d ∧ d.hasDict = false) ∨ (∃ a, v = .ref a ∧ H a = some (.dK []) ∧ d = .dict [])
section
variable {X : Cx}
theorem call_repr (hG : X.A.guards = some []) (hu : X.A.units + 64 < cLine) :
    CallR X (.builtin "repr") (fun xs H Q => ∃ v d, xs = [v] ∧ Sh X.K H v d ∧ NiceD d ∧ Q (.str d.shown) H) := by
  intro pins s σ H xs us Q I r h
  obtain ⟨v, d, rfl, hd, ⟨n1, n2, n3⟩, q⟩ := h
  cases r with
  | cons r1 r2 =>
    cases r2
    rename_i u
    rcases hd with ⟨hd, nd⟩ | ⟨a, rfl, ha, rfl⟩
    · obtain ⟨as, rd⟩ := Dp.reads I d v u hd r1
      have out : ∀ (h' : Heap) (w : Tok) (tk : Nat), (∀ b o, s.heap.get? b = some o → h'.get? b = some o) →
          EP X pins σ Q (.str d.shown w) { s with heap := h', toks := tk } :=
        fun h' w tk kp => ⟨.str d.shown, H, I.kept kp, ⟨w, rfl⟩, q⟩
      cases rd with
      | none => exact P.repr_of_none (out s.heap _ _ fun _ _ e => e)
      | bool b => exact P.repr_of_bool (out s.heap _ _ fun _ _ e => e)
      | int i t => exact P.repr_of_int (by simpa [PyData.showable] using n1) (out s.heap _ _ fun _ _ e => e)
      | str z t => exact P.repr_of_str (out s.heap _ _ fun _ _ e => e) n3
      | list h1 h2 h3 h4 =>
        exact repr_of_reads' (.list h1 h2 h3 h4) n1 (PyData.noDict_hsm nd) hG (by omega) (fun _ _ e => e) out n3
      | tuple h1 h2 h3 h4 =>
        exact repr_of_reads' (.tuple h1 h2 h3 h4) n1 (PyData.noDict_hsm nd) hG (by omega) (fun _ _ e => e) out n3
      | dict h1 h2 h3 h4 h5 => simp [PyData.hasDict] at nd
    · cases r1
      obtain ⟨_, hs, vs, kv, o, es, ep, h1, h2, h3, _, pr, _⟩ := I.hok a _ ha
      cases kv
      have e0 : es.toList = [] := by
        generalize es.toList = l at pr
        cases pr
        rfl
      refine repr_of_reads' (d := .dict []) (as := a :: [] ++ []) (.dict (kvs := []) h1 h2.1 h3 ?_ ?_) n1 (fun _ => ?_) hG
        (by omega) (fun _ _ e => e) (fun h' w tk kp => ⟨.str _, H, I.kept kp, ⟨w, rfl⟩, q⟩) n3
      · rw [e0]
        exact .nil
      · rw [e0]
        exact .nil
      · intro hm
        have : sysModules = a := by simpa using hm
        rw [this] at hs
        simp at hs
end
end FL
namespace FL
open PySem PySem.Spec PyProof.Rows L2
/-! ### zip of two texts, a target of two names -/
def ItS (x y : Str) : It :=
  ⟨fun i _ => i < min x.cps.size y.cps.size,
   fun i H v H' => ∃ T a b, v = .ref T ∧ H T = none ∧ H' = upd H T (.tup [.str ⟨#[a]⟩, .str ⟨#[b]⟩])
      ∧ x.cps[i]? = some a ∧ y.cps[i]? = some b,
   fun i _ => i = min x.cps.size y.cps.size⟩
def zSt (x y : Str) (t u : Tok) (z TI TO i1 i2 : Addr) (i : Nat) (h : Heap) : Prop :=
  IsZip h z TI TO .none ∧ IsTupOf2 h TI (.ref i1) (.ref i2) ∧ (∃ a b, IsTupOf2 h TO a b)
    ∧ h.IsStrIter i1 (strIterType x) x t i ∧ h.IsStrIter i2 (strIterType y) y u i
theorem turn_zipS {P : Program} {w : World} {K : PySem.W.Frag} {elts : List Expr} {kk : Nat} {tpos : Pos}
    {x y : Str} {t u : Tok} {z TI TO i1 i2 : Addr} (S : ZipSep2 z TI TO i1 i2 [i1] [i2]) :
    Turn P w K (.Tuple elts kk tpos) (ItS x y) [z, TI, TO, i1, i2] z (zSt x y t u z TI TO i1 i2) where
  mem := by simp
  obj := by
    rintro i h ⟨hz, hT, ⟨a, b, hO⟩, s1, s2⟩ c hc
    have e' : c = z ∨ c = TI ∨ c = TO ∨ c = i1 ∨ c = i2 := by simpa using hc
    rcases e' with rfl | rfl | rfl | rfl | rfl
    · exact ⟨_, hz, fun v q => nomatch q⟩
    · exact ⟨_, hT, fun v q => nomatch q⟩
    · exact ⟨_, hO, fun v q => nomatch q⟩
    · obtain ⟨o, e, d⟩ := s1
      exact ⟨_, e, fun v q => by simp_all⟩
    · obtain ⟨o, e, d⟩ := s2
      exact ⟨_, e, fun v q => by simp_all⟩
  keep := by
    rintro i h h' ⟨hz, hT, ⟨a, b, hO⟩, s1, s2⟩ k
    refine ⟨k z (by simp) _ hz, k TI (by simp) _ hT, ⟨a, b, k TO (by simp) _ hO⟩, ?_, ?_⟩
    · obtain ⟨o, e, d⟩ := s1
      exact ⟨o, k i1 (by simp) o e, d⟩
    · obtain ⟨o, e, d⟩ := s2
      exact ⟨o, k i2 (by simp) o e, d⟩
  item := by
    intro X hP hw hK hc i pins s σ H E I hf st hg
    subst hP hw hK
    obtain ⟨hz, hT, ⟨a, b, hO⟩, s1, s2⟩ := st
    have hh : X.A.in1.handled = none := I.ok.hd hc
    have hg' : i < min x.cps.size y.cps.size := hg
    have zl := Heap.lt_size hz
    refine wpAny_pyNext_zipD2_item S (Draws.text hh i1 x t) (Draws.text hh i2 y u) hz hT hO s1 s2 (by omega) (by omega) ?_
    rintro v1 v2 h' tk ⟨c1, t1, e1, rfl⟩ ⟨c2, t2, e2, rfl⟩ z1 o1 r1 r2 nT sz kp
    refine ⟨_, rfl, wpAny_letOwnedTupleGo_zip (s := { s with heap := h', toks := tk }) z1 fun h2 z2 sb => ?_⟩
    have nz : (s.heap.objs.size : Addr) ≠ z := Nat.ne_of_gt zl
    have nT2 : h2.get? s.heap.objs.size = some { cls := .type "tuple", data := .seq #[.str ⟨#[c1]⟩ t1, .str ⟨#[c2]⟩ t2] } :=
      (sb.2 _ nz).trans nT
    have ok : ObjOk X.prog X.w (upd H s.heap.objs.size (.tup [.str ⟨#[c1]⟩, .str ⟨#[c2]⟩])) h2 s.heap.objs.size
        (.tup [.str ⟨#[c1]⟩, .str ⟨#[c2]⟩]) :=
      ⟨(by show 2 ≤ sizeLine; decide), [_, _], .cons ⟨t1, rfl⟩ (.cons ⟨t2, rfl⟩ .nil), ⟨_, nT2, rfl, _, rfl⟩⟩
    have J := I.turnedNew (t' := tk) (ch := [z, TI, TO, i1, i2]) (h' := h2) (fun c o nc q => (sb.2 c fun q' => nc (by simp [q'])).trans
      (kp c o (fun q' => nc (by simp [q'])) (fun q' => nc (by simp [q'])) (fun q' => nc (by simp [q'])) (fun q' => nc (by simp [q'])) q)) hf (Nat.le_refl _) ok
    refine ⟨.ref s.heap.objs.size, _, J, rfl, ⟨_, c1, c2, rfl, I.hok.fresh (Nat.le_refl _), rfl, e1, e2⟩, ⟨z2, ?_, ⟨_, _, (sb.2 _ S.TOz).trans o1⟩, ?_, ?_⟩, ?_⟩
    · exact (sb.2 _ S.TIz).trans (kp _ _ S.TIz S.TITO S.TIi1 S.TIi2 hT)
    · obtain ⟨o, e, d⟩ := r1
      exact ⟨o, (sb.2 _ (Ne.symm S.zi1)).trans e, d⟩
    · obtain ⟨o, e, d⟩ := r2
      exact ⟨o, (sb.2 _ (Ne.symm S.zi2)).trans e, d⟩
    · intro c hcm
      have live : ∃ o, s.heap.get? c = some o := by
        have e' : c = z ∨ c = TI ∨ c = TO ∨ c = i1 ∨ c = i2 := by simpa using hcm
        rcases e' with rfl | rfl | rfl | rfl | rfl
        · exact ⟨_, hz⟩
        · exact ⟨_, hT⟩
        · exact ⟨_, hO⟩
        · exact ⟨_, s1.choose_spec.1⟩
        · exact ⟨_, s2.choose_spec.1⟩
      obtain ⟨o, e⟩ := live
      rw [upd_ne (Nat.ne_of_lt (Heap.lt_size e))]
      exact (hf c hcm).1
  done := by
    intro X hP hw hK hc i pins s σ H E I hf st hg
    subst hP hw hK
    obtain ⟨hz, hT, ⟨a, b, hO⟩, s1, s2⟩ := st
    have hh : X.A.in1.handled = none := I.ok.hd hc
    have hg' : i = min x.cps.size y.cps.size := hg
    refine wpAny_pyNext_zipD2_end S (Draws.text hh i1 x t) (Draws.text hh i2 y u) hz hT hO s1 s2 (by omega) (by omega) (by omega) ?_
    intro h' tk kp
    exact ⟨rfl, I.turnedL (t' := tk) (ch := [z, TI, TO, i1, i2]) (fun c o nc q =>
      kp c o (fun q' => nc (by simp [q'])) (fun q' => nc (by simp [q'])) (fun q' => nc (by simp [q'])) (fun q' => nc (by simp [q'])) q) hf⟩
  self := fun A i s Q E st h => wpAny_pyIter_zip st.1 h
def iZipS (ta : TA) : TI := fun σ H R => ta σ H fun vs H1 => ∃ x y, vs = [.str x, .str y] ∧ R (ItS x y) H1
theorem pi_zipS {X : Cx} {e e2 : Expr} {ta : TA} {p pos tpos : Pos} {elts : List Expr} {kk : Nat} (hg : Gl X "zip")
    (hm : X.mg "zip" = none) (ha : PA X [e, e2] ta)
    (hs : starEach [e, e2] X.env = (false, eval e X.env) :: starEach [e2] X.env := by rfl)
    (hpl : (backTo pos (starEach [e2] X.env)).any (·.1) = false := by rfl) :
    PI X (.Tuple elts kk tpos) (.Call (.Name "zip" p) [e, e2] [] pos) (iZipS ta) := by
  constructor
  intro pins s σ H R I h
  refine Call_ (ld_blt I hg hm PyProof.Rows.boot_zip (PyProof.Rows.callWith_type1 (thn (ha.run pos pins s σ H _ I h) ?_) hs hpl))
  rintro us s1 ⟨vs, H1, J, r, x, y, rfl, q⟩
  obtain ⟨u1, u2, rfl, ⟨t1, rfl⟩, ⟨t2, rfl⟩⟩ := vals2 r
  refine zip_begins2 (begins_text x t1) (begins_text y t2) trivial trivial ?_
  intro h' hz hT hO g1 g2 sz kp
  refine wpAny_pyIter_zip hz ?_
  have J2 : Inv X pins σ H1 { s1 with heap := h' } := J.kept (t' := s1.toks) kp
  refine ⟨_, _, _, ItS x y, H1, rfl, J2, turn_zipS (zip_sep2 (fp1 := []) (fp2 := []) (fun _ z => nomatch z) (fun _ z => nomatch z)),
    ⟨hz, hT, ⟨_, _, hO⟩, ⟨_, g1, rfl, rfl⟩, ⟨_, g2, rfl, rfl⟩⟩, fun c hcm => ?_, q⟩
  have hle : s1.heap.objs.size ≤ c := by
    have e' : c = s1.heap.objs.size + 4 ∨ c = s1.heap.objs.size + 2 ∨ c = s1.heap.objs.size + 3 ∨ c = s1.heap.objs.size ∨ c = s1.heap.objs.size + 1 := by
      simpa using hcm
    rcases e' with z | z | z | z | z <;> rw [z] <;> first | exact Nat.le_add_right _ _ | exact Nat.le_refl _
  exact J.fpOk hle (J.hok.fresh hle)
end FL
namespace FL
open PySem PySem.Spec PyProof.Rows L2
/-! ### values of any kind -/
inductive Any (H : Hp) : V → String → Prop
  | non : Any H .non "NoneType"
  | bl (b : Bool) : Any H (.bl b) "bool"
  | int (i : Int) : Any H (.int i) "int"
  | str (z : Str) : Any H (.str z) "str"
  | lst {a : Addr} {xs : List V} : H a = some (.lst xs) → Any H (.ref a) "list"
  | tup {a : Addr} {xs : List V} : H a = some (.tup xs) → Any H (.ref a) "tuple"
  | dct {a : Addr} {kvs : List (Key × V)} : H a = some (.dK kvs) → Any H (.ref a) "dict"
def kinds : List String := ["NoneType", "bool", "int", "str", "list", "tuple", "dict"]
def asked : List String := ["int", "bool", "str", "list", "tuple", "dict"]
def subB (n T : String) : Bool := n == T || (n == "bool" && T == "int")
theorem Any.kind {H : Hp} {v : V} {n : String} (h : Any H v n) : n ∈ kinds := by cases h <;> decide
theorem Any.tyx {K : PySem.W.Frag} {H : Hp} {v : V} {n : String} (h : Any H v n) : TyX K H v (.type n) := by
  cases h with
  | non => exact .base .non
  | bl b => exact .base (.bl b)
  | int i => exact .base (.int i)
  | str z => exact .base (.str z)
  | lst e => exact .base (.lst e)
  | tup e => exact .base (.tup e)
  | dct e => exact .base (.dK e)
theorem kit_all : (kinds.all fun n => asked.all fun T => decide (kitB n T = some (subB n T))) = true := by decide +kernel
theorem kit_any {n T : String} (hn : n ∈ kinds) (hT : T ∈ asked) : kitB n T = some (subB n T) := by
  have h := List.all_eq_true.mp kit_all n hn
  exact of_decide_eq_true (List.all_eq_true.mp h T hT)
section
variable {X : Cx}
theorem call_isA : CallR X (.builtin "isinstance") (fun xs H Q => ∃ x n T, xs = [x, .ty T] ∧ Any H x n ∧ T ∈ asked ∧ Q (.bl (subB n T)) H) := by
  intro pins s σ H xs us Q I r h
  obtain ⟨x, n, T, rfl, a, hT, q⟩ := h
  exact call_isi pins s σ H _ us Q I r ⟨x, .ty T, _, _, _, rfl, .ty T, a.tyx, kit_ty (kit_any a.kind hT), q⟩
end
theorem Any.same {H H' : Hp} {v : V} {n : String} (h : Any H v n) (e : ∀ a o, v = .ref a → H a = some o → H' a = some o) : Any H' v n := by
  cases h with
  | non => exact .non
  | bl b => exact .bl b
  | int i => exact .int i
  | str z => exact .str z
  | lst q => exact .lst (e _ _ rfl q)
  | tup q => exact .tup (e _ _ rfl q)
  | dct q => exact .dct (e _ _ rfl q)
/-! ### lines -/
def lineB (sg : Str) : V → Bool
  | .str z => decide (Txt.stripChars z sg = (Str.ofString ""))
  | _ => false
/-- texts are not too long -/
def Short (v : V) : Prop := ∀ z, v = .str z → z.length ≤ sizeLine
def spLine : Sp := fun vs H Q _ => ∃ (sg : Str) (v : V) (n : String), vs = [.str sg, v] ∧ Any H v n ∧ Short v ∧ Q (.bl (lineB sg v)) H
end FL
namespace FL
open PySem PySem.Spec PyProof.Rows L2
/-! ### the pot -/
def PotAt (H : Hp) (p : Addr) : Prop :=
  ∃ a b : Int, H p = some (.lst [.int a, .int b]) ∧ 0 ≤ a ∧ 0 ≤ b ∧ b ≤ 2147483646
/-- all but p is as it was -/
def But (p : Addr) (H H' : Hp) : Prop := ∀ c o, H c = some o → c ≠ p → H' c = some o
theorem But.refl (p : Addr) (H : Hp) : But p H H := fun _ _ e _ => e
theorem But.trans {p : Addr} {H H1 H2 : Hp} (a : But p H H1) (b : But p H1 H2) : But p H H2 :=
  fun c o e n => b c o (a c o e n) n
theorem But.same {p : Addr} {H H1 H2 : Hp} (a : But p H H1) (b : Same H1 H2) : But p H H2 :=
  fun c o e n => b c o (a c o e n)
theorem _root_.L2.Same.but {p : Addr} {H H1 : Hp} (a : Same H H1) : But p H H1 := fun c o e _ => a c o e
def spDraw : Sp := fun vs H Q _ => ∃ (p : Addr) (n : Int), vs = [.ref p, .int n] ∧ PotAt H p ∧ 0 < n ∧ n < 1073741824 ∧
  ∀ (d : Int) (H' : Hp), 0 ≤ d → d < n → PotAt H' p → But p H H' → Q (.int d) H'
end FL
namespace FL
open PySem PySem.Spec PyProof.Rows L2
theorem But.sqL {K : PySem.W.Frag} {p q : Addr} {H H' : Hp} {xs : List V} (b : But p H H') (n : q ≠ p) (h : SqL K H q xs) : SqL K H' q xs := by
  rcases h with (h | ⟨o, h⟩) | h
  · exact .inl (.inl (b _ _ h n))
  · exact .inl (.inr ⟨o, b _ _ h n⟩)
  · exact .inr h
def spPick (K : PySem.W.Frag) : Sp := fun vs H Q _ => ∃ (p : Addr) (v : V), vs = [.ref p, v] ∧ PotAt H p ∧
  ((∃ (q : Addr) (xs : List V), v = .ref q ∧ q ≠ p ∧ SqL K H q xs ∧ 0 < xs.length ∧ xs.length ≤ 1000 ∧
      ∀ (x : V) (H' : Hp), x ∈ xs → PotAt H' p → But p H H' → Q x H')
    ∨ (∃ z : Str, v = .str z ∧ 0 < z.length ∧ z.length ≤ 1000 ∧
      ∀ (c : Nat) (H' : Hp), c ∈ z.cps.toList → PotAt H' p → But p H H' → Q (.str ⟨#[c]⟩) H'))
def spPot (K : PySem.W.Frag) : Sp := fun vs H Q _ => ∃ (a : Addr) (ns : List Int) (k : Int), vs = [.ref a, .int k] ∧ SqL K H a (ns.map V.int) ∧ 0 ≤ k ∧ k < 64 ∧ ns.length ≤ 63 ∧
  ∀ (p : Addr) (H' : Hp), H p = none → PotAt H' p → Same H H' → Q (.ref p) H'
theorem atI_lt {α : Type} {xs : List α} {d : Int} (h0 : 0 ≤ d) (h1 : d < (xs.length : Int)) : ∃ x, x ∈ xs ∧ atI xs d = some x := by
  have hl : d.toNat < xs.length := by omega
  refine ⟨xs[d.toNat], List.getElem_mem hl, ?_⟩
  have e := atI_nat (List.getElem?_eq_getElem hl)
  rw [show ((d.toNat : Nat) : Int) = d by omega] at e
  exact e
theorem str_len (z : Str) : z.length = z.cps.toList.length := by
  show z.cps.size = _
  simp
end FL
namespace FL
open PySem PySem.Spec PyProof.Rows L2
theorem sqL_upd {K : PySem.W.Frag} {q B : Addr} {H : Hp} {xs : List V} {o : HO} (h : SqL K H q xs) (n : H B = none) : SqL K (upd H B o) q xs := by
  rcases h with (h | ⟨u, h⟩) | h
  · exact .inl (.inl (by rw [upd_ne (ne_of_none h n)]; exact h))
  · exact .inl (.inr ⟨u, by rw [upd_ne (ne_of_none h n)]; exact h⟩)
  · exact .inr h
/-- what len asks -/
def rLen (K : PySem.W.Frag) : List V → Hp → VK → Prop := fun xs H Q => ∃ x n, xs = [x] ∧ LenV K x H n ∧ Q (.int n) H
theorem callLen {X : Cx} : CallR X (.builtin "len") (rLen X.K) := call_len
/-- a text of signs of z -/
def Over (z y : Str) : Prop := ∀ c ∈ y.cps.toList, c ∈ z.cps.toList
def spNote : Sp := fun vs H Q _ => ∃ (p : Addr) (z : Str) (m : Int), vs = [.ref p, .str z, .int m] ∧ PotAt H p ∧ 0 < z.length ∧ z.length ≤ 1000 ∧ 0 ≤ m ∧ m ≤ 1000 ∧
  ∀ (y : Str) (H' : Hp), Over z y → (y.length : Int) ≤ m → PotAt H' p → But p H H' → Q (.str y) H'
theorem PotAt.upd {H : Hp} {p q : Addr} {o : HO} (h : PotAt H p) (n : p ≠ q) : PotAt (upd H q o) p := by
  obtain ⟨a, b, e, r⟩ := h
  exact ⟨a, b, by rw [upd_ne n]; exact e, r⟩
theorem PotAt.ne {H : Hp} {p q : Addr} (h : PotAt H p) (n : H q = none) : p ≠ q := by
  obtain ⟨a, b, e, r⟩ := h
  exact ne_of_none e n
theorem But.upd {p q : Addr} {H H1 : Hp} {o : HO} (b : But p H H1) (n : H q = none) : But p H (upd H1 q o) := fun c u e hc => by
  rw [upd_ne (ne_of_none e n)]
  exact b c u e hc
theorem But.new {p q : Addr} {H H1 : Hp} (b : But p H H1) (hp : PotAt H p) (n : H1 q = none) (hp1 : PotAt H1 p) : H q = none := by
  cases e : H q with
  | none => rfl
  | some o =>
    by_cases hq : q = p
    · subst hq
      obtain ⟨_, _, z, _⟩ := hp1
      rw [z] at n
      cases n
    · rw [b q o e hq] at n
      cases n
theorem join_list (ys : List Str) : (Str.join (Str.ofString "") ys).cps.toList = (ys.map fun y => y.cps.toList).flatten := by
  have e0 : (Str.ofString "").cps.toList = [] := by decide +kernel
  induction ys with
  | nil => rfl
  | cons x r ih =>
    cases r with
    | nil => simp [Str.join]
    | cons y r =>
      show (x ++ Str.ofString "" ++ Str.join (Str.ofString "") (y :: r)).cps.toList = _
      rw [Str.cps_append, Str.cps_append, Array.toList_append, Array.toList_append, ih, e0]
      simp
theorem Str_ext {a b : Str} (h : a.cps.toList = b.cps.toList) : a = b := by
  obtain ⟨a⟩ := a
  obtain ⟨b⟩ := b
  congr 1
  exact Array.toList_inj.mp h
theorem txtjoin_list (ys : List Str) : (Txt.join (Str.ofString "") ys).cps.toList = (ys.map fun y => y.cps.toList).flatten := by
  rw [← join_list]
  unfold Txt.join
  rw [StrLaws.glued_eq_join]
theorem join_signs (cs : List Nat) : Txt.join (Str.ofString "") (cs.map fun c => (⟨#[c]⟩ : Str)) = ⟨cs.toArray⟩ := by
  apply Str_ext
  rw [txtjoin_list, List.map_map]
  show (cs.map fun c => [c]).flatten = cs
  induction cs with
  | nil => rfl
  | cons c cs ih => rw [List.map_cons, List.flatten_cons, ih]; rfl
end FL
namespace FL
open PySem PySem.Spec PyProof.Rows L2
/-! ### texts: list(z), z * n, z[::-1] -/
def sign (c : Nat) : V := .str ⟨#[c]⟩
section
variable {X : Cx}
theorem vals_signs {z : Str} {acc : Array Value} (h : ItemsOf (SignAt z) acc z.cps.size) : Vals (z.cps.toList.map sign) acc.toList := by
  obtain ⟨h1, h2⟩ := h
  have key : ∀ (l : List Nat) (vs : List Value), l.length = vs.length →
      (∀ (i : Nat) (c : Nat) (v : Value), l[i]? = some c → vs[i]? = some v → ∃ u, v = .str ⟨#[c]⟩ u) → Vals (l.map sign) vs := by
    intro l
    induction l with
    | nil =>
      intro vs hl _
      cases vs with
      | nil => exact .nil
      | cons _ _ => simp at hl
    | cons c l ih =>
      intro vs hl hv
      cases vs with
      | nil => simp at hl
      | cons v vs =>
        obtain ⟨u, rfl⟩ := hv 0 c v rfl rfl
        exact .cons ⟨u, rfl⟩ (ih vs (by simpa using hl) fun i c v a b => hv (i + 1) c v (by simpa using a) (by simpa using b))
  refine key _ _ (by simp [h1]) fun i c v a b => ?_
  obtain ⟨c', u, e1, e2⟩ := h2 i v (by simpa using b)
  have : c' = c := by
    have a' : z.cps[i]? = some c := by simpa using a
    rw [e1] at a'
    exact Option.some.inj a'
  exact ⟨u, this ▸ e2⟩
theorem call_list_txt (hc : X.calm = true) : CallR X (.type "list") (fun xs H Q => ∃ z, xs = [.str z] ∧ z.length ≤ sizeLine ∧
    ∀ l, H l = none → Q (.ref l) (upd H l (.lst (z.cps.toList.map sign)))) := by
  intro pins s σ H xs us Q I r h
  obtain ⟨z, rfl, hz, q⟩ := h
  obtain ⟨u, rfl, t, rfl⟩ := vals1 r
  refine call_list_str (I.ok.hd hc) z t ?_ hz
  intro h' tk acc n kp hS hacc
  refine ⟨.ref s.heap.objs.size, _, I.laid (t' := tk) (o := .lst (z.cps.toList.map sign)) kp (Nat.le_refl _) ?_, rfl, q _ (I.hok.fresh (Nat.le_refl _))⟩
  refine ⟨by rw [List.length_map, Array.length_toList]; exact hz, acc.toList, n, vals_signs hacc, ?_⟩
  rw [hS]
def repS (z : Str) (n : Nat) : Str := ⟨(List.replicate n z.cps).foldl (· ++ ·) #[]⟩
theorem foldl_app (l : List (Array Nat)) : ∀ a : Array Nat, (l.foldl (· ++ ·) a).toList = a.toList ++ (l.map Array.toList).flatten := by
  induction l with
  | nil => intro a; simp
  | cons b l ih => intro a; rw [List.foldl_cons, ih]; simp
theorem repS_list (z : Str) (n : Nat) : (repS z n).cps.toList = (List.replicate n z.cps.toList).flatten := by
  unfold repS
  rw [foldl_app]
  simp
theorem repS_len (z : Str) (n : Nat) : (repS z n).length = n * z.length := by
  rw [str_len, repS_list, str_len]
  induction n with
  | zero => simp
  | succ n ih => rw [List.replicate_succ, List.flatten_cons, List.length_append, ih, Nat.succ_mul, Nat.add_comm]
theorem repS_mem {z : Str} {n c : Nat} (h : c ∈ (repS z n).cps.toList) : c ∈ z.cps.toList := by
  rw [repS_list] at h
  obtain ⟨l, hl, hc⟩ := List.mem_flatten.mp h
  rw [List.eq_of_mem_replicate hl] at hc
  exact hc
theorem op_mul_str : OpR X (binaryOp .Mult) (fun x y H Q => ∃ z n, x = .str z ∧ y = .int n ∧ 2 ≤ n ∧ n ≤ 10000 ∧ 0 < z.length ∧ z.length ≤ 1000 ∧ Q (.str (repS z n.toNat)) H) := by
  intro pins s σ H x y v u Q I rx ry h
  obtain ⟨z, n, rfl, rfl, n0, n1, z0, z1, q⟩ := h
  obtain ⟨t, rfl⟩ := rx
  obtain ⟨t', rfl⟩ := ry
  have b1 : (n == 1 || z.length == 0) = false := by
    have e1 : (n == 1) = false := by simp; omega
    have e2 : (z.length == 0) = false := by simp; omega
    rw [e1, e2]
    rfl
  have b2 : z.length * n.toNat ≤ 10000000 := by
    have : z.length * n.toNat ≤ 1000 * 10000 := Nat.mul_le_mul z1 (by omega)
    omega
  have sz : sizeLine = 16777216 := rfl
  refine P.mul_str ?_ ?_ ?_ ?_
  · rw [decide_eq_false (show ¬ n < -(2 ^ 63 : Int) by omega), decide_eq_false (show ¬ n ≥ 2 ^ 63 by omega)]
    rfl
  · intro _ _
    have e : (1000 : Int) ≤ (2 ^ 63 - 1) / n := by
      rw [Int.le_ediv_iff_mul_le (by omega)]
      omega
    omega
  · intro _ _
    show decide (z.length * n.toNat > sizeLine) = false
    exact decide_eq_false (by omega)
  · rw [if_neg (by omega), if_neg (by rw [b1]; decide)]
    refine ⟨?_, .str (repS z n.toNat), H, I.tok _, ⟨_, rfl⟩, q⟩
    show (repS z n.toNat).length ≤ sizeLine
    rw [repS_len, Nat.mul_comm]
    omega
def tRevS (te : TE) : TE := fun σ H Q => te σ H fun x H1 => ∃ z, x = .str z ∧ z.length ≤ sizeLine ∧
  Q (.str ⟨z.cps.toList.reverse.toArray⟩) H1
theorem pe_revS {e : Expr} {te : TE} {k : Nat} {p1 p2 p3 pos : Pos} (he : PE X e te) :
    PE X (.Subscript e (.Slice none none (some (.UnaryOp .USub (.Constant (.int 1) k p1) p2)) p3) pos) (tRevS te) := by
  constructor
  intro pins s σ H Q I h
  refine Subscript_ (thn (he.run pins s σ H _ I h) ?_)
  rintro v s1 ⟨x, H1, J, r, z, rfl, hz, q⟩
  obtain ⟨t, rfl⟩ := r
  have hst : PO X (some (.UnaryOp .USub (.Constant (.int 1) k p1) p2)) (tPart (tUn (rU fun i => .int (-i)) (tC (.int 1)))) :=
    po_some (pe_un un_neg pe_int)
  refine wpAny_Slice (thn (po_none.run pins s1 σ H1 (fun o H2 => o = none ∧ H2 = H1) J ⟨rfl, rfl⟩) ?_)
  rintro vl s2 ⟨l, H2, J2, pl, rfl, rfl⟩
  refine thn (po_none.run pins s2 σ _ (fun o H3 => o = none ∧ H3 = H2) J2 ⟨rfl, rfl⟩) ?_
  rintro vu s3 ⟨u, H3, J3, pu, rfl, rfl⟩
  refine thn (hst.run pins s3 σ _ (fun o H4 => o = some (-1) ∧ H4 = H3) J3 ⟨1, rfl, -1, rfl, rfl, rfl⟩) ?_
  rintro vs s4 ⟨o, H4, J4, ps, rfl, rfl⟩
  obtain ⟨l', rfl, el⟩ := IsPart.raw pl
  obtain ⟨u', rfl, eu⟩ := IsPart.raw pu
  obtain ⟨s', rfl, es⟩ := IsPart.raw ps
  have J5 : Inv X pins σ H4 { s4 with heap := s4.heap.push { cls := .type "slice", data := .fields #[partValue l', partValue u', partValue s'] } } :=
    J4.kept (t' := s4.toks) fun b ob q => Heap.get?_push_of_some _ q
  refine tail_any (ops := [.str z t, .ref s4.heap.objs.size]) (typeIs_str _ _ _) F.slot_str_getitem.lookup ?_ (by with_unfolding_all rfl)
  refine wpAny_getItem_str_slice (l := l') (u := u') (st := s') ⟨_, Heap.get?_push_size _ rfl, rfl, rfl⟩ (by rw [es]; rfl) ?_
  have e1 : slicePicked z l' u' s' = (List.range z.length).map fun k => z.length - 1 - k := by
    unfold slicePicked
    rw [el, eu, es]
    exact PySem.W.krv_sliceRange z.length
  unfold sliceMade
  rw [es, if_neg (by simp), e1]
  have e2 : (((List.range z.length).map fun k => z.length - 1 - k).filterMap (z.cps[·]?)) = z.cps.toList.reverse := by
    rw [PySem.W.krv_range, List.filterMap_reverse]
    have := PySem.W.krv_all z.cps
    rw [show z.length = z.cps.size from rfl, this]
  rw [e2]
  refine ⟨?_, .str _, H4, J5.tok _, ⟨_, rfl⟩, q⟩
  show (z.cps.toList.reverse.toArray).size ≤ sizeLine
  rw [List.size_toArray, List.length_reverse, Array.length_toList]
  exact hz
theorem mtPopAt : MtR X "list.pop" rPopAt := mt_popAt
theorem mtAppend : MtR X "list.append" rAppend := mt_append
theorem mtExtend : MtR X "list.extend" rExtend := mt_extend
theorem mtReverse : MtR X "list.reverse" rReverse := mt_reverse
theorem mtClear : MtR X "list.clear" rClear := mt_clear
end
end FL
namespace FL
open PySem PySem.Spec PyProof.Rows L2
/-! ### signs -/
def poolCodes : List Nat := "-.0123456789=>abcdefghijklmnopqrstuvwxyz|".toList.map (·.toNat)
structure Abc (z : Str) : Prop where
  lo : 2 ≤ z.length
  hi : z.length ≤ 4
  up : z.cps.toList.Pairwise (· < ·)
  inn : ∀ c ∈ z.cps.toList, c ∈ poolCodes
theorem perm_erase {α : Type} : ∀ (xs : List α) (i : Nat) (h : i < xs.length), (xs[i] :: xs.eraseIdx i).Perm xs
  | [], _, h => absurd h (by simp)
  | x :: xs, 0, _ => List.Perm.refl _
  | x :: xs, i + 1, h => by
    have ih := perm_erase xs i (by simpa using h)
    have hi : i < xs.length := by simpa using h
    show (xs[i] :: x :: xs.eraseIdx i).Perm (x :: xs)
    exact (List.Perm.swap _ _ _).trans (ih.cons x)
theorem erase_map {α β : Type} (f : α → β) : ∀ (xs : List α) (i : Nat), (xs.map f).eraseIdx i = (xs.eraseIdx i).map f
  | [], _ => rfl
  | _ :: _, 0 => rfl
  | x :: xs, i + 1 => by
    show f x :: (xs.map f).eraseIdx i = f x :: (xs.eraseIdx i).map f
    rw [erase_map f xs i]
def one (c : Nat) : Str := ⟨#[c]⟩
theorem one_inj {a b : Nat} (h : one a = one b) : a = b := by
  have := congrArg (fun s : Str => s.cps.toList) h
  simpa [one] using this
theorem map_one {ys : List Str} {cs : List Nat} (h : ys.Perm (cs.map one)) : ∃ ds : List Nat, ys = ds.map one ∧ ds.Perm cs := by
  have hall : ∀ y ∈ ys, ∃ c, y = one c := fun y hy => by
    obtain ⟨c, _, e⟩ := List.mem_map.mp (h.mem_iff.mp hy)
    exact ⟨c, e.symm⟩
  have hd : ∃ ds : List Nat, ys = ds.map one := by
    clear h
    induction ys with
    | nil => exact ⟨[], rfl⟩
    | cons y ys ih =>
      obtain ⟨c, rfl⟩ := hall y List.mem_cons_self
      obtain ⟨ds, rfl⟩ := ih fun y hy => hall y (List.mem_cons_of_mem _ hy)
      exact ⟨c :: ds, rfl⟩
  obtain ⟨ds, rfl⟩ := hd
  refine ⟨ds, rfl, ?_⟩
  have key : ∀ l : List Nat, (l.map one).map (fun s : Str => s.cps.toList.headD 0) = l := fun l => by
    rw [List.map_map]
    conv => rhs; rw [← List.map_id l]
    apply List.map_congr_left
    intro c _
    rfl
  have := h.map (fun s : Str => s.cps.toList.headD 0)
  rwa [key, key] at this
theorem lt_one (a b : Nat) : ltCps [a] [b] = decide (a < b) := by
  unfold ltCps
  by_cases h : a < b
  · simp [h, ltCps]
  · simp [h, ltCps]
theorem rising_one : ∀ (ds : List Nat) (a : Nat), risingS (one a) (ds.map one) = true → (∀ b ∈ ds, a ≤ b) ∧ ds.Pairwise (· ≤ ·)
  | [], _, _ => ⟨(fun _ h => nomatch h), .nil⟩
  | b :: r, a, h => by
    have h' : (!ltCps [b] [a] && risingS (one b) (r.map one)) = true := h
    rw [Bool.and_eq_true] at h'
    obtain ⟨h1, h2⟩ := h'
    have hab : a ≤ b := by
      rw [lt_one] at h1
      simpa using h1
    obtain ⟨i1, i2⟩ := rising_one r b h2
    refine ⟨fun c hc => ?_, .cons i1 i2⟩
    rcases List.mem_cons.mp hc with rfl | hc
    · exact hab
    · exact Nat.le_trans hab (i1 c hc)
theorem sorted_one : ∀ (ds : List Nat), sortedS (ds.map one) = true → ds.Pairwise (· ≤ ·)
  | [], _ => .nil
  | a :: r, h => let ⟨i1, i2⟩ := rising_one r a h; .cons i1 i2
theorem strict {ds : List Nat} (h : ds.Pairwise (· ≤ ·)) (n : ds.Nodup) : ds.Pairwise (· < ·) := by
  induction ds with
  | nil => exact .nil
  | cons a r ih =>
    cases h with
    | cons h1 h2 =>
      obtain ⟨n1, n2⟩ := List.nodup_cons.mp n
      refine .cons (fun b hb => ?_) (ih h2 n2)
      have := h1 b hb
      have : a ≠ b := fun e => n1 (e ▸ hb)
      omega
theorem pool_nodup : poolCodes.Nodup := by decide +kernel
def spAbc : Sp := fun vs H Q _ => ∃ (p : Addr), vs = [.ref p, .int 4] ∧ PotAt H p ∧
  ∀ (z : Str) (H' : Hp), Abc z → PotAt H' p → But p H H' → Q (.str z) H'
end FL
namespace FL
open PySem PySem.Spec PyProof.Rows L2
/-! ### rules -/
structure Rule where
  fr : Bool
  old : Str
  new : Str
def kd : Bool → Str
  | true => Str.ofString "front"
  | false => Str.ofString "whole"
def ruleV (r : Rule) : List V := [.str (kd r.fr), .str r.old, .str r.new]
def RuleAt (H : Hp) (v : V) (r : Rule) : Prop := ∃ t, v = .ref t ∧ H t = some (.tup (ruleV r))
abbrev RulesAt (H : Hp) : List V → List Rule → Prop := Paired (RuleAt H)
structure RuleOk (z : Str) (b : Nat) (r : Rule) : Prop where
  o1 : Over z r.old
  o2 : r.old.length ≤ b
  n1 : Over z r.new
  n2 : r.new.length ≤ b
theorem RuleOk.mono {z : Str} {b c : Nat} {r : Rule} (h : RuleOk z b r) (l : b ≤ c) : RuleOk z c r := ⟨h.o1, Nat.le_trans h.o2 l, h.n1, Nat.le_trans h.n2 l⟩
theorem RulesAt.imp {H H' : Hp} : ∀ {xs : List V} {rs : List Rule}, RulesAt H xs rs → (∀ t a, H t = some (.tup a) → H' t = some (.tup a)) → RulesAt H' xs rs
  | _, _, .nil, _ => .nil
  | _, _, .cons ⟨t, e, h⟩ r, k => .cons ⟨t, e, k _ _ h⟩ (RulesAt.imp r k)
theorem But.tups {p : Addr} {H H' : Hp} (b : But p H H') (hp : PotAt H p) : ∀ t a, H t = some (.tup a) → H' t = some (.tup a) := fun t a e =>
  b t _ e fun q => by
    obtain ⟨_, _, z, _⟩ := hp
    rw [q, z] at e
    cases e
theorem over_app {z a b : Str} (h1 : Over z a) (h2 : Over z b) : Over z (a ++ b) := fun c hc => by
  rw [Str.cps_append, Array.toList_append] at hc
  exact (List.mem_append.mp hc).elim (h1 c) (h2 c)
theorem over_cut {z y : Str} (h : Over z y) (lo hi : Option Int) : Over z (cutS y lo hi) := fun c hc => by
  apply h c
  have h' : c ∈ ((y.cps.toList.drop (HT.sIx y.length 0 lo)).take (HT.sIx y.length y.length hi - HT.sIx y.length 0 lo)) := by
    simpa [cutS] using hc
  exact List.mem_of_mem_drop (List.mem_of_mem_take h')
theorem over_rev {z y : Str} (h : Over z y) : Over z ⟨y.cps.toList.reverse.toArray⟩ := fun c hc => h c (by simpa using hc)
theorem over_one {z : Str} {c : Nat} (h : c ∈ z.cps.toList) : Over z ⟨#[c]⟩ := fun d hd => by
  have : d = c := by simpa using hd
  rw [this]
  exact h
theorem len_app (a b : Str) : (a ++ b).length = a.length + b.length := Str.length_append a b
theorem len_rev (y : Str) : (⟨y.cps.toList.reverse.toArray⟩ : Str).length = y.length := by
  show (y.cps.toList.reverse.toArray).size = y.cps.size
  simp
theorem len_one (c : Nat) : (⟨#[c]⟩ : Str).length = 1 := rfl
def spDeals : Sp := fun vs H Q _ => ∃ (p : Addr) (z : Str) (lot most : Int), vs = [.ref p, .str z, .int lot, .int most] ∧ PotAt H p ∧ 0 < z.length ∧ z.length ≤ 1000 ∧
  0 ≤ lot ∧ lot ≤ 100 ∧ 0 ≤ most ∧ most ≤ 20 ∧
  ∀ (D : Addr) (xs : List V) (rs : List Rule) (H' : Hp), H D = none → H' D = some (.lst xs) → RulesAt H' xs rs → (rs.length : Int) ≤ lot →
    (∀ r ∈ rs, RuleOk z (most.toNat + 2) r) → PotAt H' p → But p H H' → Q (.ref D) H'
theorem paired_snoc {α β : Type} {R : α → β → Prop} : ∀ {xs : List α} {ys : List β} {x : α} {y : β}, Paired R xs ys → R x y → Paired R (xs ++ [x]) (ys ++ [y])
  | _, _, _, _, .nil, h => .cons h .nil
  | _, _, _, _, .cons a b, h => .cons a (paired_snoc b h)
theorem paired_len {α β : Type} {R : α → β → Prop} {xs : List α} {ys : List β} (h : Paired R xs ys) : xs.length = ys.length := Paired.length h
end FL
namespace FL
open PySem PySem.Spec PyProof.Rows L2
/-! ### turning -/
def fits (r : Rule) (y : Str) : Bool :=
  match r.fr with
  | true => decide (cutS y none (some (r.old.length : Int)) = r.old)
  | false => decide (y = r.old)
def turnR (r : Rule) (y : Str) : Str :=
  match r.fr with
  | true => r.new ++ cutS y (some (r.old.length : Int)) none
  | false => r.new
def turn : List Rule → Str → Str
  | [], y => y
  | r :: rs, y => if fits r y = true then turnR r y else turn rs y
def spTurn (K : PySem.W.Frag) : Sp := fun vs H Q _ => ∃ (D : Addr) (y : Str) (xs : List V) (rs : List Rule), vs = [.ref D, .str y] ∧ SqL K H D xs ∧ RulesAt H xs rs ∧
  y.length ≤ 100000 ∧ (∀ r ∈ rs, r.old.length ≤ 1000 ∧ r.new.length ≤ 1000) ∧ Q (.str (turn rs y)) H
theorem kd_ne : kd true ≠ kd false := by decide +kernel
theorem strV_ne {a b : Str} (h : a ≠ b) : ¬ (V.str a = V.str b) := fun e => h (V.str.inj e)
end FL
namespace FL
open PySem PySem.Spec PyProof.Rows L2
structure NoteOk (z : Str) (b : Nat) (y : Str) : Prop where
  ov : Over z y
  le : y.length ≤ b
def spNotes : Sp := fun vs H Q _ => ∃ (z : Str) (m : Int), vs = [.str z, .int m] ∧ 0 < z.length ∧ z.length ≤ 4 ∧ 0 ≤ m ∧ m ≤ 4 ∧
  ∀ (D : Addr) (ys : List Str) (H' : Hp), H D = none → H' D = some (.lst (ys.map V.str)) → (∀ y ∈ ys, NoteOk z m.toNat y) → ys.length ≤ 2000 → Same H H' → Q (.ref D) H'
theorem _root_.L2.Same.upd {H H1 : Hp} {q : Addr} {o : HO} (s : Same H H1) (n : H q = none) : Same H (upd H1 q o) := fun c u e => by
  rw [upd_ne (ne_of_none e n)]
  exact s c u e
theorem _root_.L2.Same.none {H H1 : Hp} {q : Addr} (s : Same H H1) (n : H1 q = Option.none) : H q = Option.none := s.free n
theorem pow_bound {n i : Nat} (h1 : n ≤ 4) (h2 : i ≤ 4) (h0 : 0 < n) : n ^ i ≤ 256 :=
  Nat.le_trans (Nat.pow_le_pow_left h1 i) (Nat.le_trans (Nat.pow_le_pow_right (by decide) h2) (by decide))
end FL
namespace FL
open PySem PySem.Spec PyProof.Rows L2
/-! ### data that can be shown and compared, of at most n signs -/
structure Sm (n : Nat) (d : PyData) : Prop where
  sh : d.showable = true
  nd : d.hasDict = false
  cl : d.canLay0 = true
  dp : d.depth ≤ 12
  len : d.shown.length ≤ n
structure SmL (k n : Nat) (ds : List PyData) : Prop where
  sh : PyData.showableAll ds = true
  nd : PyData.hasDictAll ds = false
  cl : PyData.canLayAll0 ds = true
  dp : PyData.depthAll ds ≤ k
  len : piled (PyData.shownAll ds) ≤ n
theorem Sm.shaped {n : Nat} {d : PyData} (h : Sm n d) : SeqAt.shaped d = true := by
  unfold SeqAt.shaped
  rw [h.cl, decide_eq_true (Nat.le_trans h.dp (by decide))]
  rfl
theorem Sm.nice {n : Nat} {d : PyData} (h : Sm n d) (hn : n ≤ sizeLine) : NiceD d := ⟨h.sh, Nat.le_trans h.dp (by decide), Nat.le_trans h.len hn⟩
theorem Sm.mono {n m : Nat} {d : PyData} (h : Sm n d) (l : n ≤ m) : Sm m d := ⟨h.sh, h.nd, h.cl, h.dp, Nat.le_trans h.len l⟩
theorem SmL.nil {k : Nat} : SmL k 0 [] := ⟨rfl, rfl, rfl, Nat.zero_le _, Nat.le_refl _⟩
theorem SmL.cons {k m n : Nat} {d : PyData} {ds : List PyData} (h : Sm m d) (hd : d.depth ≤ k) (r : SmL k n ds) : SmL k (m + 2 + n) (d :: ds) := by
  refine ⟨?_, ?_, ?_, ?_, ?_⟩
  · show (d.showable && PyData.showableAll ds) = true
    rw [h.sh, r.sh]
    rfl
  · show (d.hasDict || PyData.hasDictAll ds) = false
    rw [h.nd, r.nd]
    rfl
  · show (d.canLay0 && PyData.canLayAll0 ds) = true
    rw [h.cl, r.cl]
    rfl
  · show max d.depth (PyData.depthAll ds) ≤ k
    have := r.dp
    omega
  · show piled (d.shown :: PyData.shownAll ds) ≤ _
    rw [piled_cons]
    have := r.len
    have := h.len
    omega
theorem textFrom_le : ∀ (ts : List Str) (k : Nat) (acc : Str), (textFrom k acc ts).length ≤ acc.length + piled ts
  | [], k, acc => Nat.le_add_right _ _
  | t :: r, k, acc => by
    have h := textFrom_le r (k + 1) (acc ++ (if k > 0 then ", " else "" : String) ++ t)
    have e : (acc ++ (if k > 0 then ", " else "" : String) ++ t).length ≤ acc.length + 2 + t.length := by
      rw [strLen_append, strLen_append]
      have : ((if k > 0 then ", " else "" : String) : Str).length ≤ 2 := by split <;> decide +kernel
      omega
    show (textFrom (k + 1) _ r).length ≤ _
    rw [piled_cons]
    omega
theorem Sm.list {k n : Nat} {ds : List PyData} (h : SmL k n ds) (hk : k < 12) : Sm (n + 2) (.list ds) := by
  refine ⟨h.sh, h.nd, h.cl, ?_, ?_⟩
  · show PyData.depthAll ds + 1 ≤ 12
    have := h.dp
    omega
  · show (listText (PyData.shownAll ds)).length ≤ _
    unfold listText
    rw [strLen_append]
    have h1 := textFrom_le (PyData.shownAll ds) 0 "["
    have h2 : (("[" : String) : Str).length = 1 := rfl
    have h3 : (("]" : String) : Str).length = 1 := rfl
    have := h.len
    omega
theorem tupleText_le (ts : List Str) : (tupleText ts).length ≤ piled ts + 3 := by
  have e3 : (((if ts.length == 1 then ",)" else ")" : String) : Str)).length ≤ 2 := by split <;> decide +kernel
  have e1 : ((("(" : String) : Str)).length = 1 := rfl
  unfold tupleText
  rw [strLen_append, strLen_append, e1]
  by_cases h : ts = []
  · subst h
    have : (Str.join ", " ([] : List Str)).length = 0 := rfl
    omega
  · have := join_length_add ts h
    omega
theorem Sm.tuple {k n : Nat} {ds : List PyData} (h : SmL k n ds) (hk : k < 12) : Sm (n + 3) (.tuple ds) := by
  refine ⟨h.sh, h.nd, h.cl, ?_, ?_⟩
  · show PyData.depthAll ds + 1 ≤ 12
    have := h.dp
    omega
  · show (tupleText (PyData.shownAll ds)).length ≤ _
    have := tupleText_le (PyData.shownAll ds)
    have := h.len
    omega
/-- plain signs -/
def Plain (y : Str) : Prop := ∀ c ∈ y.cps.toList, c < 128
theorem pool_plain : ∀ c ∈ poolCodes, c < 128 := by decide +kernel
theorem Abc.plain {z y : Str} (h : Abc z) (o : Over z y) : Plain y := fun c hc => pool_plain c (h.inn c (o c hc))
theorem Sm.str {y : Str} (h : Plain y) : Sm (10 * y.length + 2) (.str y) := by
  refine ⟨rfl, rfl, ?_, Nat.zero_le _, StrLaws.reprText_len y fun c hc => Nat.lt_trans (h c hc) (by decide)⟩
  show y.cps.all (· < 0x110000) = true
  rw [Array.all_eq_true]
  intro i hi
  refine decide_eq_true (Nat.lt_trans (h y.cps[i] ?_) (by decide))
  exact Array.getElem_mem_toList hi
theorem Sm.bool (b : Bool) : Sm 5 (.bool b) := ⟨rfl, rfl, rfl, Nat.zero_le _, by cases b <;> decide +kernel⟩
def ruleD (r : Rule) : PyData := .tuple [.str (kd r.fr), .str r.old, .str r.new]
theorem kd_plain (b : Bool) : Plain (kd b) := by
  have h : ∀ c ∈ (kd b).cps.toList, c < 128 := by cases b <;> decide +kernel
  exact h
theorem kd_len (b : Bool) : (kd b).length = 5 := by cases b <;> decide +kernel
theorem Sm.rule {b : Nat} {r : Rule} (h1 : Plain r.old) (h2 : Plain r.new) (l1 : r.old.length ≤ b) (l2 : r.new.length ≤ b) : Sm (20 * b + 75) (ruleD r) := by
  have a0 := Sm.str (kd_plain r.fr)
  rw [kd_len] at a0
  have := Sm.tuple (k := 1) (SmL.cons a0 (Nat.zero_le _) (SmL.cons ((Sm.str h1).mono (show _ ≤ 10 * b + 2 by omega)) (Nat.zero_le _) (SmL.cons ((Sm.str h2).mono (show _ ≤ 10 * b + 2 by omega)) (Nat.zero_le _) SmL.nil))) (by decide)
  exact this.mono (by omega)
theorem rule_depth (r : Rule) : (ruleD r).depth = 1 := rfl
theorem SmL.rules {b : Nat} : ∀ {rs : List Rule}, (∀ r ∈ rs, Plain r.old ∧ Plain r.new ∧ r.old.length ≤ b ∧ r.new.length ≤ b) → SmL 1 ((20 * b + 77) * rs.length) (rs.map ruleD)
  | [], _ => SmL.nil
  | r :: rs, h => by
    obtain ⟨h1, h2, h3, h4⟩ := h r List.mem_cons_self
    have ih := SmL.rules (rs := rs) fun r hr => h r (List.mem_cons_of_mem _ hr)
    have := SmL.cons (Sm.rule h1 h2 h3 h4) (Nat.le_of_eq (rule_depth r)) ih
    refine ⟨this.sh, this.nd, this.cl, this.dp, Nat.le_trans this.len ?_⟩
    rw [List.length_cons, Nat.mul_add, Nat.mul_one]
    omega
theorem Sm.rules {b : Nat} {rs : List Rule} (h : ∀ r ∈ rs, Plain r.old ∧ Plain r.new ∧ r.old.length ≤ b ∧ r.new.length ≤ b) : Sm ((20 * b + 77) * rs.length + 2) (.list (rs.map ruleD)) :=
  Sm.list (SmL.rules h) (by decide)
theorem dp_rule {K : PySem.W.Frag} {H : Hp} {v : V} {r : Rule} (h : RuleAt H v r) : Dp K H v (ruleD r) := by
  obtain ⟨t, rfl, e⟩ := h
  exact .tup (SqT.of e) (.cons (.str _) (.cons (.str _) (.cons (.str _) .nil)))
theorem dp_rules {K : PySem.W.Frag} {H : Hp} : ∀ {xs : List V} {rs : List Rule}, RulesAt H xs rs → DpAll K H xs (rs.map ruleD)
  | _, _, .nil => .nil
  | _, _, .cons a b => .cons (dp_rule a) (dp_rules b)
theorem dp_list {K : PySem.W.Frag} {H : Hp} {D : Addr} {xs : List V} {rs : List Rule} (h : SqL K H D xs) (r : RulesAt H xs rs) : Dp K H (.ref D) (.list (rs.map ruleD)) := .lst h (dp_rules r)
theorem eqv_rule (a b : Rule) : PyData.eqv (ruleD a) (ruleD b) = true ↔ a = b := by
  obtain ⟨f, o, n⟩ := a
  obtain ⟨f', o', n'⟩ := b
  show ((kd f == kd f') && ((o == o') && ((n == n') && true))) = true ↔ _
  rw [Bool.and_eq_true, Bool.and_eq_true, Bool.and_eq_true]
  constructor
  · rintro ⟨h1, h2, h3, _⟩
    have e1 : kd f = kd f' := eq_of_beq h1
    have e2 : f = f' := by
      cases f <;> cases f' <;> first | rfl | exact absurd e1 kd_ne | exact absurd e1.symm kd_ne
    rw [e2, eq_of_beq h2, eq_of_beq h3]
  · intro h
    cases h
    simp
theorem eqv_rules : ∀ (a b : List Rule), PyData.eqvAll (a.map ruleD) (b.map ruleD) = true ↔ a = b
  | [], [] => by simp [PyData.eqvAll]
  | [], _ :: _ => by simp [PyData.eqvAll]
  | _ :: _, [] => by simp [PyData.eqvAll]
  | x :: a, y :: b => by
    show (PyData.eqv (ruleD x) (ruleD y) && PyData.eqvAll (a.map ruleD) (b.map ruleD)) = true ↔ _
    rw [Bool.and_eq_true, eqv_rule, eqv_rules a b]
    simp
end FL
namespace FL
open PySem PySem.Spec PyProof.Rows L2
def spHid (K : PySem.W.Frag) : Sp := fun vs H Q _ => ∃ (p : Addr) (z : Str) (D0 : Addr) (xs : List V) (rs : List Rule) (b : Nat), vs = [.ref p, .str z, .ref D0] ∧ PotAt H p ∧ Abc z ∧
  SqL K H D0 xs ∧ RulesAt H xs rs ∧ rs.length ≤ 50 ∧ b ≤ 20 ∧ 2 ≤ b ∧ (∀ r ∈ rs, RuleOk z b r) ∧
  ∀ (D : Addr) (ys : List V) (ts : List Rule) (H' : Hp), H D = none → H' D = some (.lst ys) → RulesAt H' ys ts → ts.length ≤ rs.length + 2 →
    (∀ r ∈ ts, RuleOk z (b + 2) r) → PotAt H' p → But p H H' → Q (.ref D) H'
theorem paired_mem {α β : Type} {R : α → β → Prop} : ∀ {xs : List α} {ys : List β} {x : α}, Paired R xs ys → x ∈ xs → ∃ y, y ∈ ys ∧ R x y
  | _, _, _, .nil, h => nomatch h
  | _, _, x, .cons a r, h => by
    rcases List.mem_cons.mp h with rfl | h
    · exact ⟨_, List.mem_cons_self, a⟩
    · obtain ⟨y, h1, h2⟩ := paired_mem r h
      exact ⟨y, List.mem_cons_of_mem _ h1, h2⟩
theorem ok_plain {z : Str} {b : Nat} {rs : List Rule} (h : Abc z) (ok : ∀ r ∈ rs, RuleOk z b r) : ∀ r ∈ rs, Plain r.old ∧ Plain r.new ∧ r.old.length ≤ b ∧ r.new.length ≤ b :=
  fun r hr => ⟨h.plain (ok r hr).o1, h.plain (ok r hr).n1, (ok r hr).o2, (ok r hr).n2⟩
end FL
namespace FL
open PySem PySem.Spec PyProof.Rows L2
theorem walk_zipS {x y : Str} : Walk (ItS x y) (min x.cps.size y.cps.size) (fun _ => True)
    (fun i H v H' => ∃ T a b, v = .ref T ∧ H T = none ∧ H' = upd H T (.tup [.str ⟨#[a]⟩, .str ⟨#[b]⟩]) ∧ x.cps[i]? = some a ∧ y.cps[i]? = some b) :=
  ⟨fun _ _ h _ => h, fun _ _ => rfl, fun _ _ _ _ _ _ h => h⟩
def signChars : Str := Str.ofString "abcdefghijklmnopqrstuvwxyz0123456789.-=>|"
def rise (l : List Nat) : List Bool := List.zipWith (fun a b => decide ([a] < [b])) l l.tail
def signsB : V → Bool
  | .str z => decide (2 ≤ z.length) && (decide (z.length ≤ 4) && ((rise z.cps.toList).all id && lineB signChars (.str z)))
  | _ => false
def spSigns : Sp := fun vs H Q _ => ∃ (v : V) (n : String), vs = [v] ∧ Any H v n ∧ Short v ∧ ∀ H', Same H H' → Q (.bl (signsB v)) H'
theorem cut_tail (z : Str) : (cutS z (some 1) none).cps.toList = z.cps.toList.tail := by
  show ((z.cps.toList.drop (HT.sIx z.length 0 (some ((1 : Nat) : Int)))).take (HT.sIx z.length z.length none - HT.sIx z.length 0 (some ((1 : Nat) : Int)))).toArray.toList = _
  rw [HT.sIx_nat, HT.sIx_none]
  show (List.drop (min 1 z.length) z.cps.toList).take (z.length - min 1 z.length) = _
  have hl := str_len z
  cases h : z.cps.toList with
  | nil => simp
  | cons a l =>
    rw [h] at hl
    have : z.length = l.length + 1 := by simpa using hl
    have m : min 1 z.length = 1 := by omega
    rw [m, List.drop_succ_cons, List.drop_zero, List.tail_cons, List.take_of_length_le (by omega)]
theorem rise_get {l : List Nat} {i a b : Nat} (h1 : l[i]? = some a) (h2 : l.tail[i]? = some b) : (rise l)[i]? = some (decide ([a] < [b])) := by
  unfold rise
  rw [List.getElem?_zipWith, h1, h2]
theorem take_snoc {α : Type} {l : List α} {i : Nat} {x : α} (h : l[i]? = some x) : l.take (i + 1) = l.take i ++ [x] := by
  obtain ⟨hi, e⟩ := List.getElem?_eq_some_iff.mp h
  rw [List.take_succ_eq_append_getElem hi, e]
end FL
namespace FL
open PySem PySem.Spec PyProof.Rows L2
theorem takeWhile_len {α : Type} {p : α → Bool} : ∀ {l : List α}, (∀ a ∈ l, p a = true) → (l.takeWhile p).length = l.length
  | [], _ => rfl
  | a :: l, h => by
    rw [List.takeWhile_cons, if_pos (h a List.mem_cons_self), List.length_cons, List.length_cons, takeWhile_len fun b hb => h b (List.mem_cons_of_mem _ hb)]
theorem over_line {z y : Str} (h : Over z y) : lineB z (.str y) = true := by
  show decide (Txt.stripChars y z = Str.ofString "") = true
  apply decide_eq_true
  unfold Txt.stripChars
  rw [stripBy_eq]
  have e1 : stripLo z.cps.contains true y = y.cps.size := by
    unfold stripLo
    rw [if_pos rfl, takeWhile_len, Array.length_toList]
    intro c hc
    have := h c hc
    rw [Array.contains_iff_mem]
    exact Array.mem_def.mpr this
  rw [e1]
  apply Str_ext
  show (y.cps.extract y.cps.size _).toList = (Str.ofString "").cps.toList
  rw [show (Str.ofString "").cps.toList = [] by decide +kernel]
  have : (y.cps.extract y.cps.size (stripHi z.cps.contains true y y.cps.size)).size = 0 := by
    rw [Array.size_extract]
    omega
  exact List.length_eq_zero_iff.mp (by rw [Array.length_toList]; exact this)
theorem pool_line : ∀ c ∈ poolCodes, c ∈ signChars.cps.toList := by decide +kernel
theorem rise_all : ∀ {l : List Nat}, l.Pairwise (· < ·) → (rise l).all id = true
  | [], _ => rfl
  | [a], _ => rfl
  | a :: b :: r, h => by
    cases h with
    | cons h1 h2 =>
      have ih := rise_all h2
      show (decide ([a] < [b]) && (rise (b :: r)).all id) = true
      rw [ih, decide_eq_true]
      · rfl
      · exact List.Lex.rel (h1 b List.mem_cons_self)
theorem abc_signs {z : Str} (h : Abc z) : signsB (.str z) = true := by
  show (decide (2 ≤ z.length) && (decide (z.length ≤ 4) && ((rise z.cps.toList).all id && lineB signChars (.str z)))) = true
  rw [decide_eq_true h.lo, decide_eq_true h.hi, rise_all h.up, over_line fun c hc => pool_line c (h.inn c hc)]
  rfl
/-! checks that raise nothing -/
def spCheckSigns : Sp := fun vs H Q _ => ∃ z : Str, vs = [.str z] ∧ Abc z ∧ ∀ H', Same H H' → Q .non H'
def spCheckLine : Sp := fun vs H Q _ => ∃ (z y : Str), vs = [.str z, .str y] ∧ Over z y ∧ y.length ≤ sizeLine ∧ Q .non H
end FL
namespace FL
open PySem PySem.Spec PyProof.Rows L2
def spIsList : Sp := fun vs H Q _ => ∃ (v : V) (n : String), vs = [v] ∧ Any H v n ∧ ∀ H', Same H H' → Q (.bl (n == "list" || n == "tuple")) H'
def spRuleLine : Sp := fun vs H Q _ => ∃ (z y : Str), vs = [.str z, .str y] ∧ Over z y ∧ y.length ≤ 40 ∧ Q (.bl true) H
def spIsRule : Sp := fun vs H Q _ => ∃ (z : Str) (v : V) (r : Rule), vs = [.str z, v] ∧ RuleAt H v r ∧ RuleOk z 40 r ∧ ∀ H', Same H H' → Q (.bl true) H'
theorem kitL_all : (kinds.all fun n => decide (kitB n "list" = some (n == "list")) && decide (kitB n "tuple" = some (n == "tuple"))) = true := by decide +kernel
theorem kit_lt {K : PySem.W.Frag} {n : String} (h : n ∈ kinds) : PySem.W.kitAny K (.type n) [.type "list", .type "tuple"] = some (n == "list" || n == "tuple") := by
  have h' := List.all_eq_true.mp kitL_all n h
  rw [Bool.and_eq_true] at h'
  have h1 : kitB n "list" = some (n == "list") := of_decide_eq_true h'.1
  have h2 : kitB n "tuple" = some (n == "tuple") := of_decide_eq_true h'.2
  refine kitAny_cons (kit_ty h1) (fun e => ?_) (fun e => by rw [e]; rfl)
  refine kitAny_cons (kit_ty h2) (fun e2 => ?_) (fun e2 => by rw [e2, Bool.or_true])
  rw [e, e2]
  exact kitAny_nil
end FL
namespace PySem
open Builtin
theorem fl_enum_new {v : Value} {o : Obj} {G : Heap → Prop} (B : Begins v o G) :
    Meets (Builtin.«enumerate.__new__» ⟨[.type "enumerate", v], []⟩) (fun _ R s => G s.heap ∧
      R (.ok (.ret (.ref (s.heap.push o).objs.size)))
        { s with heap := (s.heap.push o).push { cls := .type "enumerate", data := .fields #[.none, .bool false, .ref s.heap.objs.size, rawInt 0, .none, .none] } }) := by
  refine .of_wp ?_
  rintro prog w A R ⟨hp, g, d, tk, os⟩ ⟨h1, h⟩
  have known := sub_enumerate
  have it0 : ∀ {A' : Around} {E : Value → Shared → Prop} {Q : Value → Shared → Prop}, Q (.ref hp.objs.size) ⟨hp.push o, g, d, tk, os⟩ →
      wpAny (model prog w) A' (pyIter v) Q E ⟨hp, g, d, tk, os⟩ := fun q => B.iter prog w _ _ ⟨hp, g, d, tk, os⟩ _ h1 q
  wp_walk using it0
  refine wpAny_stack_any fun st => wpAny_pure ?_
  split
  · rename_i c _ _ _ _ _
    cases (c == Value.type "enumerate") <;>
      (wp_walk using it0
       exact ⟨_, rfl, h⟩)
  · wp_walk using it0
    exact ⟨_, rfl, h⟩
theorem fl_enum {prog : Program} {w : World} {A : Around} {E : Value → Shared → Prop} {s : Shared} {v : Value} {o : Obj} {G : Heap → Prop} {Q : Value → Shared → Prop} (B : Begins v o G) (h1 : G s.heap)
    (h : ∀ h', IsEnum h' (s.heap.objs.size + 1) s.heap.objs.size 0 .none → h'.get? s.heap.objs.size = some o →
      (∀ b u, s.heap.get? b = some u → h'.get? b = some u) → Q (.ref (s.heap.objs.size + 1)) { s with heap := h' }) :
    wpAny (model prog w) A (call (.type "enumerate") [v]) Q E s := by
  refine callType_new F.called_enumerate (by decide) (F.typeCall_enumerate_1 _) (F.newCall_enumerate_1 _) (fun obj => F.args_object_init_2 obj _) F.entry_enumerate_new
    (fl_enum_new B) ⟨h1, ?_⟩
  have hz : (s.heap.push o).objs.size = s.heap.objs.size + 1 := Heap.size_push ..
  have he : IsEnum ((s.heap.push o).push { cls := .type "enumerate", data := .fields #[.none, .bool false, .ref s.heap.objs.size, rawInt 0, .none, .none] }) (s.heap.objs.size + 1) s.heap.objs.size 0 .none := by
    have q := Heap.get?_push_size (s.heap.push o) (o := { cls := .type "enumerate", data := .fields #[.none, .bool false, .ref s.heap.objs.size, rawInt 0, .none, .none] }) rfl
    rw [hz] at q
    exact q
  show _ ∧ _
  rw [hz]
  exact ⟨⟨_, he, rfl⟩, h _ he (Heap.get?_push_of_some _ (Heap.get?_push_size _ B.free)) fun b u e => Heap.get?_push_of_some _ (Heap.get?_push_of_some _ e)⟩
end PySem
namespace FL
open PySem PySem.Spec PyProof.Rows L2
/-! ### enumerate of a tuple -/
def IteT (K : PySem.W.Frag) (a : Addr) (xs : List V) : It :=
  ⟨fun i H => SqT K H a xs ∧ i < xs.length,
   fun i H v H' => ∃ T x, v = .ref T ∧ H T = none ∧ H' = upd H T (.tup [.int (i : Nat), x]) ∧ xs[i]? = some x,
   fun i H => SqT K H a xs ∧ i = xs.length⟩
theorem sqT_inj {X : Cx} {pins : List (Addr × Obj)} {σ : L2.St} {H : Hp} {s : Shared} (I : L2.Inv X pins σ H s) {a : Addr} {xs : List V} (h : SqT X.K H a xs) :
    ∃ its : List Value, Vals xs its ∧ s.heap.IsTuple a its.toArray := by
  obtain ⟨its, r, e, _⟩ := I.tuple h
  exact ⟨its, r, e⟩
theorem turn_enumT {P : Program} {w : World} {K : PySem.W.Frag} {elts : List Expr} {kk : Nat} {tpos : Pos} (a e it : Addr) (xs : List V) :
    Turn P w K (.Tuple elts kk tpos) (IteT K a xs) [e, it] e (fun i h => (∃ old, IsEnum h e it ((i : Nat) : Int) old) ∧ h.IsTupleIter it a i ∧ e ≠ it ∧ a ≠ it ∧ a ≠ e) where
  mem := by simp
  obj := by
    rintro i h ⟨⟨old, he⟩, ⟨o, ho, hd⟩, _⟩ b hb
    have e' : b = e ∨ b = it := by simpa using hb
    rcases e' with rfl | rfl
    · exact ⟨_, he, fun v q => nomatch q⟩
    · exact ⟨_, ho, fun v q => by simp_all⟩
  keep := by
    rintro i h h' ⟨⟨old, he⟩, hi, n1, n2⟩ k
    exact ⟨⟨old, k e (by simp) _ he⟩, hi.at fun o q => k it (by simp) o q, n1, n2⟩
  item := by
    intro X hP hw hK hc i pins s σ H E I hf st hg
    subst hP hw hK
    obtain ⟨⟨old, he⟩, hit, hne, hna, hnb⟩ := st
    obtain ⟨hq, hlt⟩ := hg
    obtain ⟨its, rv, p⟩ := sqT_inj I hq
    have hl := rv.length
    have hh : X.A.in1.handled = none := I.ok.hd hc
    have el := Heap.lt_size he
    have il : it < s.heap.objs.size := by
      obtain ⟨_, q, _⟩ := hit
      exact Heap.lt_size q
    refine wpAny_pyNext_enum_itemD (Draws.tuple hh it a hna its.toArray) he ⟨hit, p⟩ (by simp; omega) hne (by simp [hne, Ne.symm hnb]) ?_
    rintro u h' tk hu ho ⟨hit', _⟩ hT sz kp
    have hx : xs[i]? = some xs[i] := List.getElem?_eq_getElem hlt
    obtain ⟨u', hu', ru⟩ := rv.get hx
    have : u' = u := by
      have hu2 : its[i]? = some u := by simpa using hu
      rw [hu2] at hu'
      exact (Option.some.inj hu').symm
    subst this
    refine ⟨_, rfl, wpAny_letOwnedTupleGo_enum (s := { s with heap := h', toks := tk + 1 }) ho fun h2 he2 sb => ?_⟩
    have T2 : h2.get? s.heap.objs.size = some { cls := .type "tuple", data := .seq #[.int i tk, u'] } := (sb.2 _ (Nat.ne_of_gt el)).trans hT
    have ok : ObjOk X.prog X.w (upd H s.heap.objs.size (.tup [.int (i : Nat), xs[i]])) h2 s.heap.objs.size (.tup [.int (i : Nat), xs[i]]) :=
      ⟨(by show 2 ≤ sizeLine; decide), [_, _], .cons ⟨tk, rfl⟩ (.cons ru .nil), ⟨_, T2, rfl, _, rfl⟩⟩
    have J := I.turnedNew (t' := tk + 1) (ch := [e, it]) (h' := h2) (fun b ob nb q => (sb.2 b fun z => nb (by simp [z])).trans
      (kp b ob (fun z => nb (by simp [z])) (fun z => nb (by simp [z])) q)) hf (Nat.le_refl _) ok
    refine ⟨.ref s.heap.objs.size, _, J, rfl, ⟨_, xs[i], rfl, I.hok.fresh (Nat.le_refl _), rfl, hx⟩, ⟨⟨u', ?_⟩, hit'.at fun o q => (sb.2 it (Ne.symm hne)).trans q, hne, hna, hnb⟩, fun b hb => ?_⟩
    · rw [show ((i + 1 : Nat) : Int) = (i : Int) + 1 by omega]
      exact he2
    · have lb : b < s.heap.objs.size := by
        have e' : b = e ∨ b = it := by simpa using hb
        rcases e' with rfl | rfl
        · exact el
        · exact il
      rw [upd_ne (Nat.ne_of_lt lb)]
      exact (hf b hb).1
  done := by
    intro X hP hw hK hc i pins s σ H E I hf st hg
    subst hP hw hK
    obtain ⟨⟨old, he⟩, hit, hne, hna, hnb⟩ := st
    obtain ⟨hq, rfl⟩ := hg
    obtain ⟨its, rv, p⟩ := sqT_inj I hq
    have hl := rv.length
    have hh : X.A.in1.handled = none := I.ok.hd hc
    have ez : its.toArray.size = xs.length := by simp [hl]
    obtain ⟨f0, f1, f2, f3, f4, f5⟩ := hf it (by simp)
    refine wpAny_pyNext_enum_endD (Draws.tuple hh it a hna its.toArray) he (by rw [ez]; exact ⟨hit, p⟩) fun h' eb => ?_
    exact ⟨rfl, I.turned (t' := s.toks) (fun b o nb q => eb b o nb q) f0 f1 f3 f4 f5⟩
  self := fun A i s Q E st h => let ⟨⟨_, he⟩, _⟩ := st; wpAny_pyIter_enum he h
def iEnumT (K : PySem.W.Frag) (ta : TA) : TI := fun σ H R => ta σ H fun vs H1 => ∃ a xs, vs = [.ref a] ∧ SqT K H1 a xs ∧ R (IteT K a xs) H1
theorem pi_enumT {X : Cx} {e : Expr} {ta : TA} {p pos tpos : Pos} {elts : List Expr} {kk : Nat} (hg : Gl X "enumerate") (hm : X.mg "enumerate" = none) (ha : PA X [e] ta)
    (hs : starEach [e] X.env = [(false, eval e X.env)] := by rfl) :
    PI X (.Tuple elts kk tpos) (.Call (.Name "enumerate" p) [e] [] pos) (iEnumT X.K ta) := by
  constructor
  intro pins s σ H R I h
  refine Call_ (ld_blt I hg hm boot_enumerate (PyProof.Rows.callWith_type1 (thn (ha.run pos pins s σ H _ I h) fun us s1 hu => ?_) hs rfl))
  obtain ⟨vs, H1, J, r, a, xs, rfl, hq, q⟩ := hu
  obtain ⟨u, rfl, ru⟩ := vals1 r
  cases ru
  obtain ⟨its, rv, pt⟩ := sqT_inj J hq
  refine fl_enum (begins_tuple a its.toArray) pt ?_
  intro h' he hit kp
  refine wpAny_pyIter_enum he ?_
  have J2 : Inv X pins σ H1 { s1 with heap := h' } := J.kept (t' := s1.toks) kp
  have la : a < s1.heap.objs.size := by
    obtain ⟨_, q, _⟩ := pt
    exact Heap.lt_size q
  refine ⟨_, _, _, IteT X.K a xs, H1, rfl, J2, turn_enumT a (s1.heap.objs.size + 1) s1.heap.objs.size xs,
    ⟨⟨.none, he⟩, ⟨_, hit, rfl, rfl⟩, Nat.succ_ne_self _, Nat.ne_of_lt la, Nat.ne_of_lt (Nat.lt_succ_of_lt la)⟩, fun b hb => ?_, q⟩
  have e' : b = s1.heap.objs.size + 1 ∨ b = s1.heap.objs.size := by simpa using hb
  have hle : s1.heap.objs.size ≤ b := by
    rcases e' with z | z <;> rw [z]
    · exact Nat.le_add_right _ _
    · exact Nat.le_refl _
  exact J.fpOk hle (J.hok.fresh hle)
/-- either, by one rule -/
def IteS (K : PySem.W.Frag) (a : Addr) (xs : List V) (t : Bool) : It := if t then IteT K a xs else Ite K a
def SqX (K : PySem.W.Frag) (H : Hp) (a : Addr) (xs : List V) (t : Bool) : Prop := if t = true then SqT K H a xs else SqL K H a xs
def iEnumX (K : PySem.W.Frag) (t : Bool) (ta : TA) : TI := fun σ H R => ta σ H fun vs H1 => ∃ a xs, vs = [.ref a] ∧ SqX K H1 a xs t ∧ R (IteS K a xs t) H1
theorem pi_enumX {X : Cx} {e : Expr} {ta : TA} {p pos tpos : Pos} {elts : List Expr} {kk : Nat} (t : Bool) (hg : Gl X "enumerate") (hm : X.mg "enumerate" = none) (ha : PA X [e] ta)
    (hs : starEach [e] X.env = [(false, eval e X.env)] := by rfl) :
    PI X (.Tuple elts kk tpos) (.Call (.Name "enumerate" p) [e] [] pos) (iEnumX X.K t ta) := by
  cases t with
  | true => exact pi_enumT hg hm ha hs
  | false => exact pi_enum hg hm ha hs
theorem SqX.kept {K : PySem.W.Frag} {H H' : Hp} {a : Addr} {xs : List V} {t : Bool} (h : SqX K H a xs t) (s : ∀ o, H a = some o → H' a = some o) : SqX K H' a xs t := by
  cases t with
  | true =>
    have h' : SqT K H a xs := h
    show SqT K H' a xs
    rcases h' with (h | ⟨o, h⟩) | h
    · exact .inl (.inl (s _ h))
    · exact .inl (.inr ⟨o, s _ h⟩)
    · exact .inr h
  | false =>
    have h' : SqL K H a xs := h
    show SqL K H' a xs
    rcases h' with (h | ⟨o, h⟩) | h
    · exact .inl (.inl (s _ h))
    · exact .inl (.inr ⟨o, s _ h⟩)
    · exact .inr h
theorem walk_enumT {K : PySem.W.Frag} {a : Addr} {xs : List V} : Walk (IteT K a xs) xs.length (fun H => SqT K H a xs) (YPair (fun i => some (.int (i : Nat))) (fun i => xs[i]?)) :=
  ⟨fun i H hi h => ⟨h, hi⟩, fun H h => ⟨h, rfl⟩, fun i H x H' hi h y => by
    obtain ⟨T, v, rfl, hT, rfl, e⟩ := y
    exact ⟨T, _, _, rfl, hT, rfl, rfl, e⟩⟩
theorem walk_enumX {K : PySem.W.Frag} {a : Addr} {xs : List V} {t : Bool} : Walk (IteS K a xs t) xs.length (fun H => SqX K H a xs t) (YPair (fun i => some (.int (i : Nat))) (fun i => xs[i]?)) := by
  cases t with
  | true => exact walk_enumT
  | false => exact walk_enum
/-- rules as they are passed: a list or a tuple, tracked -/
def RuArg (H : Hp) (v : V) (rs : List Rule) : Prop := ∃ (a : Addr) (xs : List V) (t : Bool), v = .ref a ∧ H a = some (if t then .tup xs else .lst xs) ∧ RulesAt H xs rs
theorem RuArg.any {H : Hp} {v : V} {rs : List Rule} (h : RuArg H v rs) : ∃ n, Any H v n ∧ (n == "list" || n == "tuple") = true := by
  obtain ⟨a, xs, t, rfl, e, _⟩ := h
  cases t with
  | true => exact ⟨"tuple", .tup e, rfl⟩
  | false => exact ⟨"list", .lst e, rfl⟩
theorem sqX_of {K : PySem.W.Frag} {H : Hp} {a : Addr} {xs : List V} {t : Bool} (e : H a = some (if t then .tup xs else .lst xs)) : SqX K H a xs t := by
  cases t with
  | true => exact SqT.of e
  | false => exact SqL.of e
theorem Same.rules {H H' : Hp} {xs : List V} {rs : List Rule} (s : Same H H') (h : RulesAt H xs rs) : RulesAt H' xs rs := RulesAt.imp h fun t a e => s t _ e
def spCheckRules : Sp := fun vs H Q _ => ∃ (z : Str) (v : V) (rs : List Rule), vs = [.str z, v] ∧ RuArg H v rs ∧ (∀ r ∈ rs, RuleOk z 40 r) ∧ ∀ H', Same H H' → Q .non H'
end FL
namespace FL
open PySem PySem.Spec PyProof.Rows L2
def ItX (K : PySem.W.Frag) (a : Addr) (t : Bool) : It := if t then Itt K a else Itl K a
def iSeqX (K : PySem.W.Frag) (t : Bool) (tl : TE) : TI := fun σ H R => tl σ H fun x H1 => ∃ a, x = .ref a ∧ (∃ xs, SqX K H1 a xs t) ∧ R (ItX K a t) H1
theorem pi_seqX {X : Cx} {tg l : Expr} {tl : TE} (t : Bool) (hl : PE X l tl) : PI X tg l (iSeqX X.K t tl) := by
  cases t with
  | true => exact pi_tup hl
  | false => exact pi_list hl
theorem walk_seqX {K : PySem.W.Frag} {a : Addr} {xs : List V} {t : Bool} : Walk (ItX K a t) xs.length (fun H => SqX K H a xs t) (YAt xs) := by
  cases t with
  | true => exact walk_tup
  | false => exact walk_list
theorem lenX {K : PySem.W.Frag} {H : Hp} {a : Addr} {xs : List V} {t : Bool} (h : SqX K H a xs t) : LenV K (.ref a) H xs.length := by
  cases t with
  | true => exact .inr ⟨_, h, rfl⟩
  | false => exact .inl ⟨_, h, rfl⟩
/-! ### a relay as it stands -/
def flds (z : Str) (ra ia : Addr) : List (Str × V) := putF "_index" (.ref ia) (putF "_rules" (.ref ra) (putF "_signs" (.str z) []))
theorem fn1 : ¬ ((Str.ofString "_rules") = Str.ofString "_index") := by decide +kernel
theorem fn2 : ¬ ((Str.ofString "_signs") = Str.ofString "_index") := by decide +kernel
theorem fn3 : ¬ ((Str.ofString "_signs") = Str.ofString "_rules") := by decide +kernel
theorem two_len (z : Str) (ra : Addr) : (putF "_rules" (.ref ra) (putF "_signs" (.str z) [])).length < 1000 := by
  show (if Str.ofString "_signs" = Str.ofString "_rules" then [(Str.ofString "_signs", V.ref ra)] else (Str.ofString "_signs", V.str z) :: putF (Str.ofString "_rules") (.ref ra) []).length < 1000
  rw [if_neg fn3]
  show 2 < 1000
  decide
theorem flds_signs (z : Str) (ra ia : Addr) : (flds z ra ia).lookup (Str.ofString "_signs") = some (.str z) := by
  unfold flds
  rw [lookup_putF, if_neg fn2, lookup_putF, if_neg fn3, lookup_putF, if_pos rfl]
theorem flds_rules (z : Str) (ra ia : Addr) : (flds z ra ia).lookup (Str.ofString "_rules") = some (.ref ra) := by
  unfold flds
  rw [lookup_putF, if_neg fn1, lookup_putF, if_pos rfl]
theorem flds_index (z : Str) (ra ia : Addr) : (flds z ra ia).lookup (Str.ofString "_index") = some (.ref ia) := by
  unfold flds
  rw [lookup_putF, if_pos rfl]
theorem flds_no (z : Str) (ra ia : Addr) {m : Str} (h1 : ¬ m = Str.ofString "_index") (h2 : ¬ m = Str.ofString "_rules") (h3 : ¬ m = Str.ofString "_signs") : (flds z ra ia).lookup m = none := by
  unfold flds
  rw [lookup_putF, if_neg h1, lookup_putF, if_neg h2, lookup_putF, if_neg h3]
  rfl
end FL
namespace FL
open PySem PySem.Spec PyProof.Rows L2
/-! ### the index of rules -/
def ky (fr : Bool) (old : Str) : List Key := [Sum.inr (kd fr), Sum.inr old]
theorem ky_inj {f f' : Bool} {o o' : Str} (h : ky f o = ky f' o') : f = f' ∧ o = o' := by
  unfold ky at h
  injection h with h1 h2
  injection h2 with h3 _
  have e1 : kd f = kd f' := Sum.inr.inj h1
  refine ⟨?_, Sum.inr.inj h3⟩
  cases f <;> cases f' <;> first | rfl | exact absurd e1 kd_ne | exact absurd e1.symm kd_ne
def Is (r : Rule) (fr : Bool) (old : Str) : Prop := r.fr = fr ∧ r.old = old
def IdxOk (H : Hp) (kvs : List (List Key × V)) (rs : List Rule) : Prop := (∀ kv ∈ kvs, ∃ (fr : Bool) (old : Str), kv.1 = ky fr old) ∧ ∀ (fr : Bool) (old : Str),
  (valV kvs (ky fr old) = none ∧ ∀ r ∈ rs, ¬ Is r fr old) ∨
  (∃ (i : Nat) (t : Addr) (new : Str), valV kvs (ky fr old) = some (.ref t) ∧ H t = some (.tup [.int (i : Nat), .str new]) ∧ rs[i]? = some ⟨fr, old, new⟩
    ∧ ∀ (j : Nat) (r : Rule), j < i → rs[j]? = some r → ¬ Is r fr old)
theorem IdxOk.imp {H H' : Hp} {kvs : List (List Key × V)} {rs : List Rule} (h : IdxOk H kvs rs) (s : ∀ t a, H t = some (.tup a) → H' t = some (.tup a)) : IdxOk H' kvs rs := ⟨h.1, fun fr old => by
  rcases h.2 fr old with h | ⟨i, t, new, h1, h2, h3⟩
  · exact .inl h
  · exact .inr ⟨i, t, new, h1, s _ _ h2, h3⟩⟩
theorem IdxOk.nil {H : Hp} : IdxOk H [] [] := ⟨fun _ h => (nomatch h), fun fr old => .inl ⟨rfl, fun _ h => nomatch h⟩⟩
theorem get_snoc_lt {α : Type} {l : List α} {x : α} {i : Nat} {y : α} (h : l[i]? = some y) : (l ++ [x])[i]? = some y := by
  rw [List.getElem?_append_left (List.getElem?_eq_some_iff.mp h).1]
  exact h
theorem IdxOk.skip {H : Hp} {kvs : List (List Key × V)} {rs : List Rule} {r : Rule} (h : IdxOk H kvs rs) (hv : valV kvs (ky r.fr r.old) ≠ none) : IdxOk H kvs (rs ++ [r]) := ⟨h.1, fun fr old => by
  rcases h.2 fr old with ⟨h1, h2⟩ | ⟨i, t, new, h1, h2, h3, h4⟩
  · refine .inl ⟨h1, fun r' hr' => ?_⟩
    rcases List.mem_append.mp hr' with q | q
    · exact h2 r' q
    · rw [List.mem_singleton.mp q]
      rintro ⟨rfl, rfl⟩
      exact hv h1
  · refine .inr ⟨i, t, new, h1, h2, get_snoc_lt h3, fun j r' hj hr' => ?_⟩
    have hi := (List.getElem?_eq_some_iff.mp h3).1
    rw [List.getElem?_append_left (by omega)] at hr'
    exact h4 j r' hj hr'⟩
theorem valV_put {kvs : List (List Key × V)} {k k' : List Key} {v : V} (h : valV kvs k = none) : valV (kvs ++ [(k, v)]) k' = if k = k' then some v else valV kvs k' := by
  induction kvs with
  | nil =>
    by_cases e : k = k'
    · rw [if_pos e]
      exact valV_pos e
    · rw [if_neg e]
      exact valV_neg e
  | cons p r ih =>
    have hp : ¬ p.1 = k := fun e => by
      rw [valV_pos e] at h
      cases h
    rw [valV_neg hp] at h
    show valV (p :: (r ++ [(k, v)])) k' = _
    by_cases e : p.1 = k'
    · rw [valV_pos e, valV_pos e, if_neg]
      intro q
      exact hp (e.trans q.symm)
    · rw [valV_neg e, valV_neg e, ih h]
theorem IdxOk.put {H H' : Hp} {kvs : List (List Key × V)} {rs : List Rule} {r : Rule} {t : Addr} (h : IdxOk H kvs rs) (hv : valV kvs (ky r.fr r.old) = none)
    (s : ∀ t a, H t = some (.tup a) → H' t = some (.tup a)) (ht : H' t = some (.tup [.int (rs.length : Nat), .str r.new])) : IdxOk H' (putK kvs (ky r.fr r.old) (.ref t)) (rs ++ [r]) := ⟨fun kv hkv => by
  rw [putK_new _ hv] at hkv
  rcases List.mem_append.mp hkv with q | q
  · exact h.1 kv q
  · rw [List.mem_singleton.mp q]
    exact ⟨_, _, rfl⟩, fun fr old => by
  rw [putK_new _ hv, valV_put hv]
  by_cases e : ky r.fr r.old = ky fr old
  · rw [if_pos e]
    obtain ⟨e1, e2⟩ := ky_inj e
    refine .inr ⟨rs.length, t, r.new, rfl, ht, ?_, fun j r' hj hr' => ?_⟩
    · rw [List.getElem?_append_right (Nat.le_refl _), Nat.sub_self]
      subst e1
      subst e2
      rfl
    · rw [List.getElem?_append_left hj] at hr'
      rcases h.2 fr old with ⟨_, h2⟩ | ⟨i, t', new, h1, _⟩
      · exact h2 r' (List.mem_of_getElem? hr')
      · rw [← e, hv] at h1
        cases h1
  · rw [if_neg e]
    have := (h.imp s).2 fr old
    rcases this with ⟨h1, h2⟩ | ⟨i, t', new, h1, h2, h3, h4⟩
    · refine .inl ⟨h1, fun r' hr' => ?_⟩
      rcases List.mem_append.mp hr' with q | q
      · exact h2 r' q
      · rw [List.mem_singleton.mp q]
        rintro ⟨rfl, rfl⟩
        exact e rfl
    · refine .inr ⟨i, t', new, h1, h2, get_snoc_lt h3, fun j r' hj hr' => ?_⟩
      have hi := (List.getElem?_eq_some_iff.mp h3).1
      rw [List.getElem?_append_left (by omega)] at hr'
      exact h4 j r' hj hr'⟩
theorem put_len {kvs : List (List Key × V)} {k : List Key} {v : V} (h : valV kvs k = none) : (putK kvs k v).length = kvs.length + 1 := by
  rw [putK_new _ h, List.length_append]
  rfl
def IdxAt (H : Hp) (d : Addr) (rs : List Rule) : Prop := ∃ kvs, H d = some (.dT kvs) ∧ kvs.length ≤ rs.length ∧ IdxOk H kvs rs
def spIndex : Sp := fun vs H Q _ => ∃ (v : V) (rs : List Rule), vs = [v] ∧ RuArg H v rs ∧ rs.length ≤ 10000 ∧
  ∀ (d : Addr) (H' : Hp), H d = none → IdxAt H' d rs → Same H H' → Q (.ref d) H'
end FL
namespace FL
open PySem PySem.Spec PyProof.Rows L2
/-! ### min of a list of pairs (int, text) -/
abbrev Pr := Int × Str
def pairD (q : Pr) : PyData := .tuple [.int q.1, .str q.2]
def PairAt (H : Hp) (v : V) (q : Pr) : Prop := ∃ t, v = .ref t ∧ H t = some (.tup [.int q.1, .str q.2])
theorem lt_pair {q r : Pr} (h : q.1 ≠ r.1) : PySem.W.dataLt (pairD q) (pairD r) = decide (q.1 < r.1) := by
  have e : PySem.W.dataLt (pairD q) (pairD r) = PySem.W.dataLt (.int q.1) (.int r.1) := by
    show PyProof.Rows.lexLt PyProof.Rows.itemOrd (Sum.inl q.1 :: [Sum.inr q.2.cps.toList]) (Sum.inl r.1 :: [Sum.inr r.2.cps.toList]) = PyProof.Rows.lexLt PyProof.Rows.itemOrd [Sum.inl q.1] [Sum.inl r.1]
    exact PySem.W.lex_atom (fun e => h (Sum.inl.inj e)) _ _
  rw [e, PySem.W.dataLt_int]
theorem minD_pair : ∀ (qs : List Pr) (q : Pr), ∃ r, r ∈ q :: qs ∧ PySem.W.minD (pairD q) (qs.map pairD) = pairD r ∧ ∀ p ∈ q :: qs, r.1 ≤ p.1
  | [], q => ⟨q, List.mem_cons_self, rfl, fun p hp => by rw [List.mem_singleton.mp hp]; exact Int.le_refl _⟩
  | p :: qs, q => by
    have step : PySem.W.minD (pairD q) ((p :: qs).map pairD) = PySem.W.minD (if PySem.W.dataLt (pairD p) (pairD q) then pairD p else pairD q) (qs.map pairD) := rfl
    rw [step]
    by_cases hb : PySem.W.dataLt (pairD p) (pairD q) = true
    · rw [if_pos hb]
      obtain ⟨r, hr, e, m⟩ := minD_pair qs p
      refine ⟨r, List.mem_cons_of_mem _ hr, e, fun x hx => ?_⟩
      rcases List.mem_cons.mp hx with rfl | hx
      · have hp := m p List.mem_cons_self
        by_cases hne : p.1 = x.1
        · omega
        · rw [lt_pair hne] at hb
          have := of_decide_eq_true hb
          omega
      · exact m x hx
    · rw [if_neg hb]
      obtain ⟨r, hr, e, m⟩ := minD_pair qs q
      refine ⟨r, ?_, e, fun x hx => ?_⟩
      · rcases List.mem_cons.mp hr with rfl | h
        · exact List.mem_cons_self
        · exact List.mem_cons_of_mem _ (List.mem_cons_of_mem _ h)
      · rcases List.mem_cons.mp hx with rfl | hx
        · exact m x List.mem_cons_self
        · rcases List.mem_cons.mp hx with rfl | hx
          · have hq := m q List.mem_cons_self
            by_cases hne : x.1 = q.1
            · omega
            · rw [lt_pair hne] at hb
              have : q.1 ≤ x.1 := by simpa using hb
              omega
          · exact m x (List.mem_cons_of_mem _ hx)
theorem dp_pairs {K : PySem.W.Frag} {H : Hp} : ∀ {xs : List V} {qs : List Pr}, Paired (PairAt H) xs qs → DpAll K H xs (qs.map pairD)
  | _, _, .nil => .nil
  | _, _, .cons ⟨t, e, h⟩ b => .cons (by rw [e]; exact .tup (SqT.of h) (.cons (.int _) (.cons (.str _) .nil))) (dp_pairs b)
theorem depth_pairs : ∀ qs : List Pr, PyData.depthAll (qs.map pairD) ≤ 1
  | [] => Nat.zero_le _
  | q :: qs => by
    show max (pairD q).depth (PyData.depthAll (qs.map pairD)) ≤ 1
    have := depth_pairs qs
    have e : (pairD q).depth = 1 := rfl
    omega
section
variable {X : Cx}
theorem call_minP (hc : X.calm = true) (hu : X.A.units + 64 < cLine) : CallR X (.builtin "min") (fun vs H Q => ∃ (a : Addr) (xs : List V) (qs : List Pr), vs = [.ref a] ∧ SqL X.K H a xs
    ∧ Paired (PairAt H) xs qs ∧ qs ≠ [] ∧ ∀ (v : V) (q : Pr), q ∈ qs → PairAt H v q → (∀ r ∈ qs, q.1 ≤ r.1) → Q v H) := by
  intro pins s σ H vs us Q I r h
  obtain ⟨a, xs, qs, rfl, hs, hp, ne, q⟩ := h
  obtain ⟨its, rv, hl, _⟩ := I.list hs
  rw [Vals.ref1 r]
  obtain ⟨as, rd⟩ := Dp.readsAll I (qs.map pairD) xs its (dp_pairs hp) rv
  cases qs with
  | nil => exact absurd rfl ne
  | cons p qs =>
    refine PySem.W.min_list_data (I.ok.hd hc) hl.isList (vs := its.toArray) (x := pairD p) (xs := qs.map pairD) (by simpa using rd) ?_ ?_ ?_
    · refine ⟨fun x hx y hy => ?_, fun x hx e => ?_⟩
      · have e1 : ∃ q, x = pairD q := by
          rcases List.mem_cons.mp hx with rfl | hx
          · exact ⟨p, rfl⟩
          · obtain ⟨q, _, e⟩ := List.mem_map.mp hx
            exact ⟨q, e.symm⟩
        have e2 : ∃ q, y = pairD q := by
          rcases List.mem_cons.mp hy with rfl | hy
          · exact ⟨p, rfl⟩
          · obtain ⟨q, _, e⟩ := List.mem_map.mp hy
            exact ⟨q, e.symm⟩
        obtain ⟨q1, rfl⟩ := e1
        obtain ⟨q2, rfl⟩ := e2
        rfl
      · subst e
        rcases List.mem_cons.mp hx with e | hx
        · cases e
        · obtain ⟨q, _, e⟩ := List.mem_map.mp hx
          cases e
    · have := depth_pairs (p :: qs)
      have e : PyData.depthAll (pairD p :: qs.map pairD) ≤ 1 := this
      omega
    · intro i v h' tk bs hv hrd kp
      obtain ⟨m, hm, em, hmin⟩ := minD_pair qs p
      rw [em] at hrd
      have hv' : its[i]? = some v := by simpa using hv
      have hi : i < its.length := (List.getElem?_eq_some_iff.mp hv').1
      have hxi : i < xs.length := by rw [rv.length]; exact hi
      obtain ⟨u, hu', ru⟩ := rv.get (List.getElem?_eq_getElem hxi)
      rw [hv'] at hu'
      obtain rfl : v = u := Option.some.inj hu'
      obtain ⟨qi, hqi, t, et, ht⟩ := L2.paired_get hp (List.getElem?_eq_getElem hxi)
      have I' : Inv X pins σ H { s with heap := h', toks := tk } := I.kept kp
      obtain ⟨as', rd2⟩ := Dp.reads I' (pairD qi) xs[i] v (by rw [et]; exact .tup (SqT.of ht) (.cons (.int _) (.cons (.str _) .nil))) ru
      have eq : pairD qi = pairD m := (Reads.unique rd2 _ _ hrd).1
      have e1 : qi = m := by
        have h1 : [PyData.int qi.1, PyData.str qi.2] = [PyData.int m.1, PyData.str m.2] := PyData.tuple.inj eq
        injection h1 with h2 h3
        injection h3 with h4 _
        exact Prod.ext (PyData.int.inj h2) (PyData.str.inj h4)
      subst e1
      exact ⟨xs[i], H, I', ru, q xs[i] qi hm ⟨t, et, ht⟩ hmin⟩
end
end FL
namespace FL
open PySem PySem.Spec PyProof.Rows L2
/-! ### the first rule that fits, by the index -/
theorem cut_pre_len (y : Str) (i : Nat) (h : i ≤ y.length) : (cutS y none (some (i : Int))).length = i := by
  rw [str_len]
  show ((y.cps.toList.drop (HT.sIx y.length 0 none)).take (HT.sIx y.length y.length (some (i : Int)) - HT.sIx y.length 0 none)).toArray.toList.length = i
  rw [HT.sIx_nat, HT.sIx_none]
  show ((y.cps.toList.drop 0).take (min i y.length - 0)).length = i
  rw [List.drop_zero, List.length_take, ← str_len]
  omega
theorem cut_le (y : Str) (i : Nat) : (cutS y none (some (i : Int))).length ≤ y.length := cutS_length y _ _
theorem turn_no : ∀ {rs : List Rule} {y : Str}, (∀ r ∈ rs, fits r y = false) → turn rs y = y
  | [], _, _ => rfl
  | r :: rs, y, h => by
    show (if fits r y = true then _ else turn rs y) = y
    rw [h r List.mem_cons_self, if_neg Bool.false_ne_true]
    exact turn_no fun r' hr' => h r' (List.mem_cons_of_mem _ hr')
theorem turn_at : ∀ {rs : List Rule} {y : Str} {i : Nat} {r : Rule}, rs[i]? = some r → fits r y = true → (∀ j r', j < i → rs[j]? = some r' → fits r' y = false) → turn rs y = turnR r y
  | [], _, _, _, h, _, _ => by simp at h
  | r0 :: rs, y, 0, r, h, hf, _ => by
    obtain rfl : r0 = r := by simpa using h
    show (if fits r0 y = true then _ else _) = _
    rw [if_pos hf]
  | r0 :: rs, y, i + 1, r, h, hf, hn => by
    show (if fits r0 y = true then _ else turn rs y) = _
    rw [hn 0 r0 (Nat.succ_pos _) rfl, if_neg Bool.false_ne_true]
    exact turn_at (i := i) (by simpa using h) hf fun j r' hj hr' => hn (j + 1) r' (by omega) (by simpa using hr')
def Ent (rs : List Rule) (y : Str) (q : Pr) : Prop := ∃ (i : Nat) (r : Rule), q.1 = (i : Int) ∧ rs[i]? = some r ∧ fits r y = true ∧ q.2 = turnR r y
/-- the rule at i is the first one with its key -/
def FirstKey (rs : List Rule) (i : Nat) (r : Rule) : Prop := rs[i]? = some r ∧ ∀ (j : Nat) (r' : Rule), j < i → rs[j]? = some r' → ¬ Is r' r.fr r.old
structure Found (rs : List Rule) (y : Str) (qs : List Pr) (n : Nat) : Prop where
  snd : ∀ q ∈ qs, Ent rs y q
  whl : ∀ i r, FirstKey rs i r → r.fr = false → r.old = y → ∃ q ∈ qs, q.1 = (i : Int)
  frt : ∀ i r, FirstKey rs i r → r.fr = true → fits r y = true → r.old.length < n → ∃ q ∈ qs, q.1 = (i : Int)
theorem fits_same {r r' : Rule} {y : Str} (h : Is r' r.fr r.old) : fits r' y = fits r y := by
  obtain ⟨f, o, n⟩ := r
  obtain ⟨f', o', n'⟩ := r'
  obtain ⟨h1, h2⟩ := h
  dsimp only at h1 h2
  subst h1
  subst h2
  rfl
theorem first_fit {rs : List Rule} {y : Str} {i : Nat} {r : Rule} (h : rs[i]? = some r) (hf : fits r y = true) (hn : ∀ j r', j < i → rs[j]? = some r' → fits r' y = false) : FirstKey rs i r :=
  ⟨h, fun j r' hj hr' his => by
    have := hn j r' hj hr'
    rw [fits_same his, hf] at this
    cases this⟩
theorem exists_first {rs : List Rule} {y : Str} : (∀ r ∈ rs, fits r y = false) ∨ ∃ (i : Nat) (r : Rule), rs[i]? = some r ∧ fits r y = true ∧ ∀ (j : Nat) (r' : Rule), j < i → rs[j]? = some r' → fits r' y = false := by
  induction rs with
  | nil => exact .inl fun _ h => nomatch h
  | cons r rs ih =>
    cases hf : fits r y with
    | true => exact .inr ⟨0, r, rfl, hf, fun j _ hj => absurd hj (Nat.not_lt_zero j)⟩
    | false =>
      rcases ih with h | ⟨i, r', h1, h2, h3⟩
      · refine .inl fun r' hr' => ?_
        rcases List.mem_cons.mp hr' with rfl | h'
        · exact hf
        · exact h r' h'
      · refine .inr ⟨i + 1, r', by simpa using h1, h2, fun j r2 hj hr2 => ?_⟩
        cases j with
        | zero =>
          obtain rfl : r = r2 := by simpa using hr2
          exact hf
        | succ j => exact h3 j r2 (by omega) (by simpa using hr2)
theorem fits_short {r : Rule} {y : Str} (hf : fits r y = true) (h : r.fr = true) : r.old.length ≤ y.length ∧ cutS y none (some (r.old.length : Int)) = r.old := by
  obtain ⟨f, o, n⟩ := r
  dsimp only at h
  subst h
  have e : cutS y none (some (o.length : Int)) = o := of_decide_eq_true hf
  refine ⟨?_, e⟩
  have := cut_le y o.length
  rw [e] at this
  exact this
theorem Found.turn {rs : List Rule} {y : Str} {qs : List Pr} {n : Nat} (h : Found rs y qs n) (hn : ∀ r ∈ rs, r.fr = true → fits r y = true → r.old.length < n) :
    (qs = [] → turn rs y = y) ∧ ∀ q ∈ qs, (∀ p ∈ qs, q.1 ≤ p.1) → turn rs y = q.2 := by
  have has : ∀ (i : Nat) (r : Rule), rs[i]? = some r → fits r y = true → (∀ (j : Nat) (r' : Rule), j < i → rs[j]? = some r' → fits r' y = false) → ∃ q ∈ qs, q.1 = (i : Int) := by
    intro i r h1 h2 h3
    have fk := first_fit h1 h2 h3
    cases hfr : r.fr with
    | true => exact h.frt i r fk hfr h2 (hn r (List.mem_of_getElem? h1) hfr h2)
    | false =>
      refine h.whl i r fk hfr ?_
      obtain ⟨f, o, nw⟩ := r
      dsimp only at hfr
      subst hfr
      have e : y = o := of_decide_eq_true h2
      exact e.symm
  rcases exists_first (rs := rs) (y := y) with hno | ⟨i, r, h1, h2, h3⟩
  · refine ⟨fun _ => turn_no hno, fun q hq _ => ?_⟩
    obtain ⟨j, r, _, e2, e3, _⟩ := h.snd q hq
    rw [hno r (List.mem_of_getElem? e2)] at e3
    cases e3
  · obtain ⟨q0, m0, e0⟩ := has i r h1 h2 h3
    refine ⟨fun e => ?_, fun q hq hmin => ?_⟩
    · rw [e] at m0
      cases m0
    · obtain ⟨j, r', e1, e2, e3, e4⟩ := h.snd q hq
      have hle := hmin q0 m0
      have hij : ¬ j < i := fun hj => by
        rw [h3 j r' hj e2] at e3
        cases e3
      have : j = i := by omega
      subst this
      rw [h1] at e2
      obtain rfl : r = r' := Option.some.inj e2
      rw [turn_at h1 h2 h3, e4]
theorem Found.start {rs : List Rule} {y : Str} {H : Hp} {kvs : List (List Key × V)} (ix : IdxOk H kvs rs) :
    (valV kvs (ky false y) = none ∧ Found rs y [] 0) ∨ (∃ (i : Nat) (t : Addr) (new : Str), valV kvs (ky false y) = some (.ref t) ∧ H t = some (.tup [.int (i : Nat), .str new]) ∧ Found rs y [((i : Int), new)] 0) := by
  rcases ix.2 false y with ⟨h1, h2⟩ | ⟨i, t, new, h1, h2, h3, h4⟩
  · refine .inl ⟨h1, (fun _ h => nomatch h), fun i r fk e1 e2 => ?_, fun _ _ _ _ _ h => absurd h (Nat.not_lt_zero _)⟩
    exact absurd ⟨e1, e2⟩ (h2 r (List.mem_of_getElem? fk.1))
  · refine .inr ⟨i, t, new, h1, h2, fun q hq => ?_, fun j r fk e1 e2 => ?_, fun _ _ _ _ _ h => absurd h (Nat.not_lt_zero _)⟩
    · rw [List.mem_singleton.mp hq]
      exact ⟨i, _, rfl, h3, decide_eq_true rfl, rfl⟩
    · refine ⟨_, List.mem_singleton.mpr rfl, ?_⟩
      have : ¬ j < i := fun hj => h4 j r hj fk.1 ⟨e1, e2⟩
      have : ¬ i < j := fun hj => fk.2 i _ hj h3 ⟨e1.symm, e2.symm⟩
      have : i = j := by omega
      rw [this]
theorem Found.next {rs : List Rule} {y : Str} {H : Hp} {kvs : List (List Key × V)} {qs : List Pr} {n : Nat} (ix : IdxOk H kvs rs) (h : Found rs y qs n) (hn : n ≤ y.length) :
    (valV kvs (ky true (cutS y none (some (n : Int)))) = none ∧ Found rs y qs (n + 1)) ∨ (∃ (i : Nat) (t : Addr) (new : Str), valV kvs (ky true (cutS y none (some (n : Int)))) = some (.ref t)
      ∧ H t = some (.tup [.int (i : Nat), .str new]) ∧ (∃ r ∈ rs, r.new = new) ∧ Found rs y (qs ++ [((i : Int), new ++ cutS y (some (n : Int)) none)]) (n + 1)) := by
  have hl := cut_pre_len y n hn
  have key : ∀ r : Rule, r.fr = true → fits r y = true → r.old.length < n + 1 → ¬ r.old.length < n → r.old = cutS y none (some (n : Int)) := fun r h1 h2 h3 h4 => by
    obtain ⟨_, e⟩ := fits_short h2 h1
    have : r.old.length = n := by omega
    rw [this] at e
    exact e.symm
  rcases ix.2 true (cutS y none (some (n : Int))) with ⟨h1, h2⟩ | ⟨i, t, new, h1, h2, h3, h4⟩
  · refine .inl ⟨h1, h.snd, h.whl, fun i r fk e1 e2 e3 => ?_⟩
    by_cases hlt : r.old.length < n
    · exact h.frt i r fk e1 e2 hlt
    · exact absurd ⟨e1, key r e1 e2 e3 hlt⟩ (h2 r (List.mem_of_getElem? fk.1))
  · refine .inr ⟨i, t, new, h1, h2, ⟨_, List.mem_of_getElem? h3, rfl⟩, fun q hq => ?_, fun j r fk e1 e2 => ?_, fun j r fk e1 e2 e3 => ?_⟩
    · rcases List.mem_append.mp hq with q' | q'
      · exact h.snd q q'
      · rw [List.mem_singleton.mp q']
        refine ⟨i, _, rfl, h3, ?_, ?_⟩
        · show decide (cutS y none (some ((cutS y none (some (n : Int))).length : Int)) = cutS y none (some (n : Int))) = true
          rw [hl]
          exact decide_eq_true rfl
        · show new ++ cutS y (some (n : Int)) none = new ++ cutS y (some ((cutS y none (some (n : Int))).length : Int)) none
          rw [hl]
    · obtain ⟨q, hq, e⟩ := h.whl j r fk e1 e2
      exact ⟨q, List.mem_append_left _ hq, e⟩
    · by_cases hlt : r.old.length < n
      · obtain ⟨q, hq, e⟩ := h.frt j r fk e1 e2 hlt
        exact ⟨q, List.mem_append_left _ hq, e⟩
      · have eo := key r e1 e2 e3 hlt
        refine ⟨_, List.mem_append_right _ (List.mem_singleton.mpr rfl), ?_⟩
        have : ¬ j < i := fun hj => h4 j r hj fk.1 ⟨e1, eo⟩
        have : ¬ i < j := fun hj => fk.2 i _ hj h3 ⟨e1.symm, eo.symm⟩
        have : i = j := by omega
        rw [this]
def spOnce : Sp := fun vs H Q _ => ∃ (d : Addr) (y : Str) (rs : List Rule), vs = [.ref d, .str y] ∧ IdxAt H d rs ∧ y.length ≤ 100000 ∧ (∀ r ∈ rs, r.old.length ≤ 40 ∧ r.new.length ≤ 1000) ∧
  ∀ H', Same H H' → Q (.str (FL.turn rs y)) H'
end FL
namespace FL
open PySem PySem.Spec PyProof.Rows L2
def RelayAt (C : Addr) (H : Hp) (p : Addr) (z : Str) (rs : List Rule) : Prop := ∃ (dx ra ia : Addr) (xs : List V), H p = some (.ins C dx (flds z ra ia)) ∧ H ra = some (.lst xs) ∧ RulesAt H xs rs ∧ IdxAt H ia rs
theorem RelayAt.same {C : Addr} {H H' : Hp} {p : Addr} {z : Str} {rs : List Rule} (h : RelayAt C H p z rs) (s : Same H H') : RelayAt C H' p z rs := by
  obtain ⟨dx, ra, ia, xs, h1, h2, h3, kvs, h4, h5, h6⟩ := h
  exact ⟨dx, ra, ia, xs, s _ _ h1, s _ _ h2, RulesAt.imp h3 fun t a e => s t _ e, kvs, s _ _ h4, h5, h6.imp fun t a e => s t _ e⟩
/-- its list of rules at ra -/
def RelayR (C : Addr) (H : Hp) (p : Addr) (z : Str) (rs : List Rule) (ra : Addr) : Prop := ∃ (dx ia : Addr) (xs : List V), H p = some (.ins C dx (flds z ra ia)) ∧ H ra = some (.lst xs) ∧ RulesAt H xs rs ∧ IdxAt H ia rs
theorem RelayR.at_ {C : Addr} {H : Hp} {p : Addr} {z : Str} {rs : List Rule} {ra : Addr} (h : RelayR C H p z rs ra) : RelayAt C H p z rs := by
  obtain ⟨dx, ia, xs, h1, h2, h3, h4⟩ := h
  exact ⟨dx, ra, ia, xs, h1, h2, h3, h4⟩
/-- another list is changed -/
theorem RelayR.updL {C : Addr} {H : Hp} {p L : Addr} {z : Str} {rs : List Rule} {ra : Addr} {vs ws : List V} (h : RelayR C H p z rs ra) (hL : H L = some (.lst vs)) (n : ra ≠ L) : RelayR C (upd H L (.lst ws)) p z rs ra := by
  obtain ⟨dx, ia, xs, h1, h2, h3, kvs, h4, h5, h6⟩ := h
  have tp : ∀ t b, H t = some (.tup b) → upd H L (.lst ws) t = some (.tup b) := fun t b e => by
    rw [upd_ne (ne_of e hL (by intro q; cases q))]
    exact e
  exact ⟨dx, ia, xs, by rw [upd_ne (ne_of h1 hL (by intro q; cases q))]; exact h1, by rw [upd_ne n]; exact h2, RulesAt.imp h3 tp, kvs, by rw [upd_ne (ne_of h4 hL (by intro q; cases q))]; exact h4, h5, h6.imp tp⟩
theorem RelayR.same {C : Addr} {H H' : Hp} {p : Addr} {z : Str} {rs : List Rule} {ra : Addr} (h : RelayR C H p z rs ra) (s : Same H H') : RelayR C H' p z rs ra := by
  obtain ⟨dx, ia, xs, h1, h2, h3, kvs, h4, h5, h6⟩ := h
  exact ⟨dx, ia, xs, s _ _ h1, s _ _ h2, RulesAt.imp h3 fun t a e => s t _ e, kvs, s _ _ h4, h5, h6.imp fun t a e => s t _ e⟩
/-- what is needed of the class Relay -/
structure RTxt (K : PySem.W.Frag) (mg : Str → Option Value) (C : Addr) : Prop where
  cl : Cls K C
  nS : NoAttr K C "_signs"
  nR : NoAttr K C "_rules"
  nI : NoAttr K C "_index"
  mgC : mg "Relay" = some (.ref C)
def spInit (C : Addr) : Sp := fun vs H Q _ => ∃ (p dx : Addr) (z : Str) (v : V) (rs : List Rule), vs = [.ref p, .str z, v] ∧ H p = some (.ins C dx []) ∧ Abc z ∧ RuArg H v rs ∧
  (∀ r ∈ rs, RuleOk z 40 r) ∧ rs.length ≤ 400 ∧ ∀ (H' : Hp) (ra : Addr), RelayR C H' p z rs ra → H ra = none → But p H H' → Q .non H'
end FL
namespace FL
open PySem PySem.Spec PyProof.Rows L2
/-! ### what the top left, told of defs at any address -/
def seenFn (K : PySem.W.Frag) (a : Addr) : He.FnV :=
  (K.lookup a).bind fun o => match o.data with
    | .func d => some (d.name, d.qualname, d.params, d.body, d.scope, d.globals, d.closure, d.defaults, d.builtins)
    | _ => none
def seenCode (K : PySem.W.Frag) (a : Addr) (q : Str) : Bool :=
  match K.lookup a with
  | some o => (match o.data with
    | .func d => PySem.W.codeIn K d.code q && PySem.W.keepIn K (.ref a)
    | _ => false)
  | none => false
/-- a def: where it is found, its names, its statement -/
structure DA where
  ad : PySem.W.Frag → Addr
  nm : Str
  qn : Str
  st : Stmt
def DA.due (d : DA) : He.FnV := some (d.nm, d.qn, defArgs d.st, .stmts (defBody d.st), defScope d.st, mainGlobals, [], .none, builtinsNs)
theorem DA.fn {K : PySem.W.Frag} {d : DA} (e : seenFn K (d.ad K) = d.due) (c : seenCode K (d.ad K) d.qn = true) : ∃ fd, Fun K d.nm d.qn d.st (d.ad K) fd := by
  unfold seenFn DA.due at e
  unfold seenCode at c
  cases q : K.lookup (d.ad K) with
  | none =>
    rw [q] at e
    cases e
  | some o =>
    obtain ⟨oc, od, dt, sl⟩ := o
    rw [q] at e c
    cases dt with
    | func z =>
      obtain ⟨z1, z2, z3, z4, z5, z6, z7, z8, z9, z10, z11, z12, z13, z14, z15⟩ := z
      simp only [Option.bind_some, Option.some.injEq, Prod.mk.injEq] at e
      obtain ⟨rfl, rfl, rfl, rfl, rfl, rfl, rfl, rfl, rfl⟩ := e
      obtain ⟨c1, c2⟩ := Bool.and_eq_true_iff.mp c
      exact ⟨_, fun_mk q c1 c2⟩
    | _ => cases e
def lookF (ds : List DA) (ex : PySem.W.Frag → Bool) (K : PySem.W.Frag) : Bool × List He.FnV :=
  (ex K && ds.all fun d => seenCode K (d.ad K) d.qn, ds.map fun d => seenFn K (d.ad K))
def dueF (ds : List DA) : Bool × List He.FnV := (true, ds.map DA.due)
def hookF (n : Nat) (ds : List DA) (ex : PySem.W.Frag → Bool) : PySem.W.Hook where
  α := Bool × List He.FnV
  obs := fun s => lookF ds ex (He.frG s.heap.get? (He.asD s.heap.get? n))
  val := fun _ => dueF ds
  says := fun _ h => ∃ K : PySem.W.Frag, K.In h ∧ lookF ds ex K = dueF ds
  of := fun _ _ e => ⟨_, He.frG_in, e⟩
  keeps := fun _ _ _ ⟨K, i, c⟩ k => ⟨K, PySem.W.Frag.In.keeps i k, c⟩
def obF (n : Nat) (ds : List DA) (ex : PySem.W.Frag → Bool) (g : Addr → Option Obj) : Bool × List He.FnV := lookF ds ex (He.frG g (He.asD g n))
theorem obF_eq {n : Nat} {ds : List DA} {ex : PySem.W.Frag → Bool} (s : PySem.W.SharedT) : obF n ds ex (HandSHeadRun.getT s) = (hookF n ds ex).obs s.abs := by
  have e : HandSHeadRun.getT s = s.abs.heap.get? := funext fun a => HandSHeadRun.getT_eq s a
  rw [e]
  rfl
theorem look_ex {ds : List DA} {ex : PySem.W.Frag → Bool} {K : PySem.W.Frag} (c : lookF ds ex K = dueF ds) : ex K = true :=
  (Bool.and_eq_true_iff.mp (congrArg Prod.fst c)).1
theorem look_fn {ds : List DA} {ex : PySem.W.Frag → Bool} {K : PySem.W.Frag} (c : lookF ds ex K = dueF ds) (i : Nat) {d : DA} (h : ds[i]? = some d) : ∃ fd, Fun K d.nm d.qn d.st (d.ad K) fd := by
  have c1 := (Bool.and_eq_true_iff.mp (congrArg Prod.fst c)).2
  have c2 : ds.map (fun d => seenFn K (d.ad K)) = ds.map DA.due := congrArg Prod.snd c
  have c3 : (ds.map fun d => seenFn K (d.ad K))[i]? = (ds.map DA.due)[i]? := by rw [c2]
  rw [List.getElem?_map, List.getElem?_map, h] at c3
  exact DA.fn (Option.some.inj c3) (List.all_eq_true.mp c1 d (List.mem_of_getElem? h))
end FL
namespace FL
open PySem PySem.Spec PyProof.Rows L2
section
variable {X : Cx} {pins : List (Addr × Obj)} {σ : L2.St} {H : Hp} {s : Shared} {k : Nat} {f : Addr} {fd : FuncData} {ps : List Str} {sp : Sp} {Q : VK} {E : XK}
theorem run_at1 {us ws : List Value} {ks : List Str} {bs : List Value} {vs : List V} {E' : Value → Shared → Prop} (F : FnG X.prog X.w X.K X.mg X.base CX0 k f fd ps sp) (hr : Room (k + 1) X.A) (hG : X.A.guards = some [])
    (I : Inv X pins σ H s) (hb : BindsTo s fd ⟨us, ks.zip ws⟩ (ps.zip bs)) (r : Vals vs bs) (h : sp vs H Q E) :
    wpAny (model X.prog X.w) X.A.in1 (call (.ref f) us (ks.zip ws)) (EP X pins σ Q) E' s := by
  refine wpAny_call (codeAny_mono (F.goes X.A.in1 X.stack s H ⟨us, ks.zip ws⟩ bs vs Q E hr.in1 hG I.env0.in1 hb r h) ?_)
  rintro (er | fl) s2 z
  · exact False.elim z
  · cases fl with
    | ret u => exact I.after z
    | _ => exact False.elim z
theorem run_at0 {us ws : List Value} {ks : List Str} {bs : List Value} {vs : List V} {E' : Value → Shared → Prop} (F : FnG X.prog X.w X.K X.mg X.base CX0 k f fd ps sp) (hr : Room k X.A) (hG : X.A.guards = some [])
    (I : Inv X pins σ H s) (hb : BindsTo s fd ⟨us, ks.zip ws⟩ (ps.zip bs)) (r : Vals vs bs) (h : sp vs H Q E) :
    wpAny (model X.prog X.w) X.A (call (.ref f) us (ks.zip ws)) (EP X pins σ Q) E' s := by
  refine wpAny_call (codeAny_mono (F.goes X.A X.stack s H ⟨us, ks.zip ws⟩ bs vs Q E hr hG I.env0 hb r h) ?_)
  rintro (er | fl) s2 z
  · exact False.elim z
  · cases fl with
    | ret u => exact I.after z
    | _ => exact False.elim z
/-! repr of an instance by its class's own text -/
theorem call_reprI {C : Addr} (F : FnG X.prog X.w X.K X.mg X.base CX0 k f fd ["self"] sp) (hb : Binds X.K fd ["self"] []) (hr : Room (k + 1) X.A) (hG : X.A.guards = some [])
    (hs : PySem.W.findIn X.K (.ref C) "__repr__" = some (some (.ref f))) (hf : PySem.W.isFn X.K (.ref f) = true) :
    CallR X (.builtin "repr") (fun xs H Q => ∃ a dx fs, xs = [.ref a] ∧ H a = some (.ins C dx fs) ∧ sp [.ref a] H (fun v H' => ∃ z, v = .str z ∧ Q (.str z) H') E) := by
  intro pins s σ H xs us Q I r h
  obtain ⟨a, dx, fs, rfl, ha, q⟩ := h
  cases r with
  | cons r1 r2 =>
    cases r2
    cases r1
    obtain ⟨mA, O, _⟩ := ins_get I.hok ha
    obtain ⟨od, J, _⟩ := O.look
    obtain ⟨m, fr⟩ := I.fr
    refine PySem.W.repr_K (h₀ := X.base) hr.in1.units0 fr I.ok.mod.kin J hs hf ?_
    refine wpAny_mono (run_at1 (ws := []) (ks := []) (E' := X.xe) (bs := [.ref a]) F hr hG I (vs := [.ref a]) (hb s [.ref a] I.kIn rfl) (.cons rfl .nil) q) ?_ fun _ _ e => e
    rintro u s2 ⟨v, H2, I2, rv, z, rfl, q2⟩
    obtain ⟨t, rfl⟩ := rv
    exact ⟨.str z, H2, I2, ⟨t, rfl⟩, q2⟩
/-! {e!r} of a list of data -/
def tFmtL (K : PySem.W.Frag) (te : TE) : TE := fun σ H Q => te σ H fun x H1 => ∃ a xs d, x = .ref a ∧ SqL K H1 a xs ∧ Dp K H1 x d ∧ d.hasDict = false ∧ NiceD d ∧ Q (.str d.shown) H1
theorem pe_fmtL {e : Expr} {te : TE} {pos : Pos} (hG : X.A.guards = some []) (hu : X.A.units + 64 < cLine) (he : PE X e te) : PE X (.FormattedValue e 114 none pos) (tFmtL X.K te) := by
  refine ⟨fun pins s σ H Q I h => ?_⟩
  refine wpAny_FormattedValue_repr (thn (he.run pins s σ H _ I h) fun v s1 hv => ?_)
  obtain ⟨x, H1, I1, r1, a, xs, d, rfl, _, hd, nd, ⟨n1, n2, n3⟩, q⟩ := hv
  obtain ⟨as, rd⟩ := Dp.reads I1 d _ v hd r1
  cases r1
  refine pyReprObj_of_reads rd n1 (PyData.noDict_hsm nd) hG (by omega) (fun _ _ e => e) (fun h' u tk kp => ?_) n3
  have I2 : Inv X pins σ H1 { s1 with heap := h', toks := tk } := I1.kept kp
  exact wpAny_formatField_str ⟨.str d.shown, H1, I2, ⟨u, rfl⟩, q⟩ ⟨.str d.shown, H1, I2.tok _, ⟨_, rfl⟩, q⟩ n3
end
end FL
namespace FL
open PySem PySem.Spec PyProof.Rows L2
section
variable {M : Model} {A : Around} {E : Value → Shared → Prop} {s : Shared} {K : PySem.W.Frag} {x C f : Addr} {ox : Obj} {od : Option Obj}
theorem rc_own {a : Value} {T ida : String} {Q : Value → Shared → Prop} (ha : s.TypeIs a T) (X : K.In s.heap) (I : PySem.W.InstAt s.heap x ox C od) (hsub : PySem.W.mroIn K C (.type T) = some false)
    (h1 : Slot T (cmpInfo .Eq).2.1 ida) (hc1 : ∀ Q' : Value → Shared → Prop, Q' .notImplemented s → wpAny M A (call (.builtin ida) [a, .ref x]) Q' E s)
    (hs : PySem.W.findIn K (.ref C) "__eq__" = some (some (.ref f))) (hf : PySem.W.isFn K (.ref f) = true) (hu : A.units < cLine)
    (h : wpAny M A (call (.ref f) [.ref x, a]) (PySem.W.CmpBack Q) E s) : wpAny M A (richCompare .Eq a (.ref x)) Q E s := by
  have hne : (Value.type T != Value.ref C) = true := by rfl
  have two : wpAny M A (tryCompare (.ref x) (cmpInfo .Eq).2.2 a) (fun r s' => ∃ v, r = some v ∧ Q v s') E s := by
    unfold tryCompare
    refine wpAny_bind (PySem.W.ifBound_K X I hs hf (wpAny_mono h (fun v s' hv => ?_) fun _ _ e => e))
    cases v <;> first | exact hv.elim | exact wpAny_pure ⟨_, rfl, hv⟩
  rcases hi : cmpInfo CmpOp.Eq with ⟨sym, g, r⟩
  rw [hi] at h1 two
  simp only [richCompare, hi, ha.oneThing_none]
  try with_reducible refine wpAny_holding ?_
  refine wpAny_bind (wpAny_cRoomFor hu ?_)
  refine wpAny_bind (wpAny_typeOf ha (wpAny_bind (I.type.here ?_)))
  simp only [hne, if_true]
  refine wpAny_bind ((PySem.W.looks_mroIn X hsub).here ?_)
  simp only [Bool.false_eq_true, if_false, Bool.not_false, if_true]
  refine wpAny_bind (m := tryCompare a _ (.ref x)) (wpAny_tryCompare_declines ha h1 (hc1 _ ⟨rfl, ?_⟩))
  refine wpAny_bind (wpAny_mono two (fun r s' z => ?_) fun _ _ e => e)
  obtain ⟨v, rfl, hq⟩ := z
  exact wpAny_pure hq
end
section
variable {K : PySem.W.Frag} {x C l : Addr} {ox : Obj} {od : Option Obj}
theorem int_no (b : Int) (u : Tok) (c : Value) (dd : Option Addr) (sl : Array (Option Value)) :
    Meets (Builtin.«int.__eq__» ⟨[.int b u, .ref x], []⟩) (fun _ R s => s.heap.get? x = some { cls := c, dict := dd, data := .plain, slots := sl } ∧ R (.ok (.ret .notImplemented)) s) :=
  .of_wp fun prog w A R s h => by obtain ⟨hp, g, d, tk, os⟩ := s; obtain ⟨hl, h⟩ := h; wp_walk using wpAny_loadPart' hl, wpAny_load hl; exact ⟨_, rfl, h⟩
theorem bool_no (b : Bool) (c : Value) (dd : Option Addr) (sl : Array (Option Value)) :
    Meets (Builtin.«int.__eq__» ⟨[.bool b, .ref x], []⟩) (fun _ R s => s.heap.get? x = some { cls := c, dict := dd, data := .plain, slots := sl } ∧ R (.ok (.ret .notImplemented)) s) :=
  .of_wp fun prog w A R s h => by obtain ⟨hp, g, d, tk, os⟩ := s; obtain ⟨hl, h⟩ := h; wp_walk using wpAny_loadPart' hl, wpAny_load hl; exact ⟨_, rfl, h⟩
theorem str_no (b : Str) (u : Tok) (c : Value) (dd : Option Addr) (sl : Array (Option Value)) :
    Meets (Builtin.«str.__eq__» ⟨[.str b u, .ref x], []⟩) (fun _ R s => s.heap.get? x = some { cls := c, dict := dd, data := .plain, slots := sl } ∧ R (.ok (.ret .notImplemented)) s) :=
  .of_wp fun prog w A R s h => by obtain ⟨hp, g, d, tk, os⟩ := s; obtain ⟨hl, h⟩ := h; wp_walk using wpAny_loadPart' hl, wpAny_load hl; exact ⟨_, rfl, h⟩
theorem list_no (items : Array Value) (n : Nat) (dd : Option Addr) (sl : Array (Option Value)) (c : Value) (dd' : Option Addr) (sl' : Array (Option Value)) :
    Meets (Builtin.«list.__eq__» ⟨[.ref l, .ref x], []⟩) (fun _ R s => s.heap.get? l = some { cls := .type "list", dict := dd, data := .seq items n, slots := sl } ∧ s.heap.get? x = some { cls := .ref C, dict := dd', data := .plain, slots := sl' }
      ∧ (K.In s.heap ∧ PySem.W.mroIn K C (.type "list") = some false) ∧ R (.ok (.ret .notImplemented)) s) :=
  .of_wp fun prog w A R s h => by
    obtain ⟨hp, g, d, tk, os⟩ := s
    obtain ⟨hl, hx, ⟨X, hm⟩, h⟩ := h
    have L := PySem.W.looks_mroIn (M := model prog w) X hm
    wp_walk using wpAny_loadPart' hl, wpAny_load hl, wpAny_loadPart' hx, wpAny_load hx, L.here
    exact ⟨_, rfl, h⟩
theorem tuple_no (items : Array Value) (n : Nat) (dd : Option Addr) (sl : Array (Option Value)) (c : Value) (dd' : Option Addr) (sl' : Array (Option Value)) :
    Meets (Builtin.«tuple.__eq__» ⟨[.ref l, .ref x], []⟩) (fun _ R s => s.heap.get? l = some { cls := .type "tuple", dict := dd, data := .seq items n, slots := sl } ∧ s.heap.get? x = some { cls := .ref C, dict := dd', data := .plain, slots := sl' }
      ∧ (K.In s.heap ∧ PySem.W.mroIn K C (.type "tuple") = some false) ∧ R (.ok (.ret .notImplemented)) s) :=
  .of_wp fun prog w A R s h => by
    obtain ⟨hp, g, d, tk, os⟩ := s
    obtain ⟨hl, hx, ⟨X, hm⟩, h⟩ := h
    have L := PySem.W.looks_mroIn (M := model prog w) X hm
    wp_walk using wpAny_loadPart' hl, wpAny_load hl, wpAny_loadPart' hx, wpAny_load hx, L.here
    exact ⟨_, rfl, h⟩
theorem dict_no (es : Array DictEntry) (n : Nat) (dd : Option Addr) (sl : Array (Option Value)) (c : Value) (dd' : Option Addr) (sl' : Array (Option Value)) :
    Meets (Builtin.«dict.__eq__» ⟨[.ref l, .ref x], []⟩) (fun _ R s => s.heap.get? l = some { cls := .type "dict", dict := dd, data := .dict es n, slots := sl } ∧ s.heap.get? x = some { cls := .ref C, dict := dd', data := .plain, slots := sl' }
      ∧ (K.In s.heap ∧ PySem.W.mroIn K C (.type "dict") = some false) ∧ R (.ok (.ret .notImplemented)) s) :=
  .of_wp fun prog w A R s h => by
    obtain ⟨hp, g, d, tk, os⟩ := s
    obtain ⟨hl, hx, ⟨X, hm⟩, h⟩ := h
    have L := PySem.W.looks_mroIn (M := model prog w) X hm
    wp_walk using wpAny_loadPart' hl, wpAny_load hl, wpAny_loadPart' hx, wpAny_load hx, L.here
    exact ⟨_, rfl, h⟩
end
end FL
namespace FL
open PySem PySem.Spec PyProof.Rows L2
/-! ### calls with keywords of defs without defaults -/
theorem kbn_of {K : PySem.W.Frag} {x qual : Str} {st : Stmt} {f : Addr} {fd : FuncData} {ps ks : List Str} {n : Nat} {g : List Value → List Value → List Value} {gV : List V → List V → List V} (F : Fun K x qual st f fd)
    (h : ∀ (kV doc pm : Value) (an : Option Addr) (cdv ct : Value) (us ws : List Value), us.length = n → ws.length = ks.length →
      bindArgs (PySem.W.fnOf x qual (defArgs st) (defBody st) (defScope st) .none kV doc pm an cdv ct) ⟨us, ks.zip ws⟩ = pure (ps.zip (g us ws)))
    (hr : ∀ {vs : List V} {us : List Value} {zs : List V} {ws : List Value}, Vals vs us → Vals zs ws → Vals (gV vs zs) (g us ws)) : KBn K fd ps n ks g gV := by
  obtain ⟨oc, od, kV, doc, pm, an, cdv, ct, osl, rfl, lk, hcd⟩ := F.ex
  exact ⟨fun s us ws _ l1 l2 => .of_eq (h kV doc pm an cdv ct us ws l1 l2), hr⟩
/-- one value ahead, two keywords the other way round -/
def swp {α : Type} : List α → List α → List α
  | [s], [r, z] => [s, z, r]
  | us, _ => us
theorem swp_rel {vs : List V} {us : List Value} {zs : List V} {ws : List Value} (a : Vals vs us) (b : Vals zs ws) : Vals (swp vs zs) (swp us ws) := by
  cases a with
  | nil => cases b <;> exact .nil
  | cons a1 a2 =>
    cases a2 with
    | nil =>
      cases b with
      | nil => exact .cons a1 .nil
      | cons b1 b2 =>
        cases b2 with
        | nil => exact .cons a1 .nil
        | cons b2 b3 =>
          cases b3 with
          | nil => exact .cons a1 (.cons b2 (.cons b1 .nil))
          | cons _ _ => exact .cons a1 .nil
    | cons a2 a3 => cases b <;> exact .cons a1 (.cons a2 a3)
/-! ### an instance called by a keyword -/
theorem callO_kw {M : Model} {A : Around} {E : Value → Shared → Prop} {s : Shared} {a : Addr} {pos : Pos} {Q : Value → Shared → Prop} {args : List (Bool × Sem Value)} {kws : List (Option Str × Sem Value)}
    (hp : (args.any (·.1) || kws.any (·.1.isNone)) = false)
    (h : wpAny M A (evalArgs (.ref a) true args kws) (fun z s1 => (∃ C ox od, PySem.W.InstAt s1.heap a ox C od ∧ ox.data = .plain) ∧ wpAny M A (call (.ref a) z.pos z.kw) Q E s1) E s) :
    wpAny M A (callWith pos (.ref a) [] args kws) Q E s := by
  unfold callWith
  refine wpAny_bind (wpAny_holding (wpAny_mono h (fun z s1 hz => ?_) fun _ _ e => e))
  obtain ⟨⟨C, ox, od, J, hd⟩, hz⟩ := hz
  refine wpAny_bind (wpAny_standAt ?_)
  have L := PySem.W.kco_keeper (M := M) J hd
  simp only [hp]
  refine wpAny_bind (L.here ?_)
  exact wpAny_bind (wpAny_operateT (wpAny_mono hz (fun r s2 hr => wpAny_bind (wpAny_holding (wpAny_point (wpAny_pure hr)))) fun _ _ e => e))
section
variable {X : Cx} {pins : List (Addr × Obj)} {σ : L2.St} {H : Hp} {s : Shared} {k : Nat} {f C g : Addr} {fd : FuncData} {ps ks : List Str} {sp : Sp} {Q : VK} {E : XK}
/-- o(k = v), o an instance of C -/
def tCallOK (C : Addr) (m : Nat) (sp : Sp) (gV : List V → List V → List V) (E : XK) (tf : TE) (tk : TA) : TE := fun σ H Q => tf σ H fun y H1 => ∃ a, y = V.ref a ∧
  tk σ H1 fun zs H2 => zs.length = m ∧ (∃ dx fs, H2 a = some (.ins C dx fs)) ∧ sp (gV [.ref a] zs) H2 Q E
theorem pe_callOK {fe : Expr} {kws : List Keyword} {pos : Pos} {tf : TE} {tk : TA} {gg : List Value → List Value → List Value} {gV : List V → List V → List V} (hf : PE X fe tf) (c : StX.CallO X.K C g)
    (F : FnOk X.prog X.w X.K X.mg X.base CX0 k g fd ps sp) (hb : KBn X.K fd ps 1 ks gg gV) (hr : Room k X.A) (hkw : PK X kws tk)
    (hall : (backToKw pos (keywordEach kws X.env)).all (·.1.isSome) = true := by rfl) (hks : (backToKw pos (keywordEach kws X.env)).filterMap (·.1) = ks := by rfl)
    (ht : eval (.Call fe [] kws pos) X.env = (do callWith pos (← eval fe X.env) [] (backTo pos (starEach [] X.env)) (backToKw pos (keywordEach kws X.env))) := by rfl)
    (hpl : ((backTo pos (starEach [] X.env)).any (·.1) || (backToKw pos (keywordEach kws X.env)).any (·.1.isNone)) = false := by rfl) :
    PE X (.Call fe [] kws pos) (tCallOK C ks.length sp gV E tf tk) := by
  refine ⟨fun pins s σ H Q I h => ?_⟩
  rw [ht]
  refine wpAny_bind (thn (hf.run pins s σ H _ I h) fun u s1 hu => ?_)
  obtain ⟨y, H1, I1, ry, a, ey, q⟩ := hu
  subst ey
  obtain rfl : u = Value.ref a := ry
  refine callO_kw hpl (evalArgs_kw2_nil hall (thn (hkw.run pos pins s1 σ H1 _ I1 q) fun ws s2 hw => ?_))
  obtain ⟨zs, H2, I2, rz, l2, ⟨dx, fs, ha⟩, q2⟩ := hw
  rw [hks]
  obtain ⟨ox, od, J, hd⟩ := StX.insC_at I2 (.inr ⟨dx, fs, ha⟩)
  refine ⟨⟨C, ox, od, J, hd⟩, ?_⟩
  have rs : Vals [V.ref a] [Value.ref a] := .cons rfl .nil
  refine wpAny_call (PySem.W.kco_code I2.kIn J hd c.at_ c.fn c.fi ?_)
  refine codeAny_mono (F.run X.A X.stack s2 H2 ⟨[.ref a], ks.zip ws⟩ (gg [.ref a] ws) (gV [.ref a] zs) Q E hr I2.env0 (hb.to s2 [.ref a] ws I2.kIn rfl (rz.length.symm.trans l2)) (hb.rel rs rz) q2) fun r s' hq => ?_
  cases r with
  | error e => exact False.elim hq
  | ok fl =>
    cases fl with
    | ret u => exact I2.after hq
    | next => exact False.elim hq
    | brk => exact False.elim hq
    | cont => exact False.elim hq
/-! ### == and != by an own == -/
/-- a value of another kind, or an instance of C -/
def Sec (C : Addr) (H : Hp) (y : V) : Prop := (∃ n, Any H y n) ∨ ∃ b dx fs, y = .ref b ∧ H b = some (.ins C dx fs)
structure EqT (K : PySem.W.Frag) (C f : Addr) (fd : FuncData) : Prop where
  cl : Cls K C
  at_ : PySem.W.findIn K (.ref C) "__eq__" = some (some (.ref f))
  fn : PySem.W.isFn K (.ref f) = true
  bd : Binds K fd ["self", "other"] []
  kin : ∀ n ∈ kinds, PySem.W.mroIn K C (.type n) = some false
  ne : PySem.W.findIn K (.ref C) "__ne__" = some (some (.builtin "object.__ne__"))
  ob : PySem.W.mroIn K C (.type "object") = some true
theorem not_first {K : PySem.W.Frag} {C : Addr} {n : String} (h : n ∈ kinds) : PySem.W.notFirst K C (.type n) = true := by
  have h' : ((fastBuiltinMro n).map fun l => l.contains (.ref C)) = some false := by
    simp only [kinds, List.mem_cons, List.mem_nil_iff, or_false] at h
    rcases h with rfl | rfl | rfl | rfl | rfl | rfl | rfl <;> kernel_rfl
  show (_ || (((fastBuiltinMro n).map fun l => l.contains (.ref C)) == some false)) = true
  rw [h']
  simp
theorem sec_type {u : Value} {y : V} (I : Inv X pins σ H s) (r : RelV y u) (h : Sec C H y) : ∃ tb, PySem.W.Looks (model X.prog X.w) s.heap (typeOf u) tb ∧ PySem.W.notFirst X.K C tb = true := by
  rcases h with ⟨n, an⟩ | ⟨b, dx, fs, rfl, hb⟩
  · obtain ⟨P, Z, p, _⟩ := kit_of I r an.tyx
    exact ⟨_, Z.ty _ _ I.kIn p, not_first an.kind⟩
  · obtain rfl : u = Value.ref b := r
    obtain ⟨mB, J, _⟩ := ins_get I.hok hb
    obtain ⟨od, J, _⟩ := J.look
    exact ⟨_, J.type, by simp [PySem.W.notFirst]⟩
def rEqO (C : Addr) (sp : Sp) : R2 := fun x y H Q => ∃ a dx fs, x = .ref a ∧ H a = some (.ins C dx fs) ∧ Sec C H y ∧ sp [x, y] H (fun v H' => ∃ b, v = .bl b ∧ Q (.bl b) H') E0
theorem op_eqO (T : EqT X.K C f fd) (Fk : FnOk X.prog X.w X.K X.mg X.base CX0 k f fd ["self", "other"] sp) (hr : Room k X.A) : OpR X (compareOp .Eq) (rEqO C sp) := by
  intro pins s σ H x y v u Q I rx ry h
  obtain ⟨a, dx, fs, rfl, ha, sc, q⟩ := h
  obtain rfl : v = Value.ref a := rx
  obtain ⟨tb, lb, nf⟩ := sec_type I ry sc
  obtain ⟨mA, J, _⟩ := ins_get I.hok ha
  obtain ⟨od, J, _⟩ := J.look
  obtain ⟨m, hF⟩ := I.fr
  show wpAny _ _ (richCompare .Eq (.ref a) u) _ _ _
  refine PySem.W.cmp_K (op := .Eq) hr.units0 hF I.ok.mod.kin J lb nf T.at_ T.fn ?_
  have rr : Vals [V.ref a, y] [Value.ref a, u] := .cons rfl (.cons ry .nil)
  refine wpAny_mono (wpAny_call (run_fnR (Fk.raw T.bd .nil) hr pass0 I rr q)) ?_ fun _ _ e => e
  rintro w s2 ⟨z, H2, I2, rz, b, rfl, qb⟩
  obtain rfl : w = Value.bool b := rz
  exact ⟨.bl b, H2, I2, rfl, qb⟩
/-- != of an instance and another value -/
def rNeO (C : Addr) (sp : Sp) : R2 := fun x y H Q => ∃ a dx fs, x = .ref a ∧ H a = some (.ins C dx fs) ∧ Sec C H y ∧ sp [x, y] H (fun v H' => ∃ b, v = .bl b ∧ Q (.bl !b) H') E0
theorem slot_obj_ne : Slot "object" "__ne__" "object.__ne__" :=
  Slot.of (T := "object") (name := "__ne__") (owner := "object") (n := "__ne__") (by rw [typeLookup_type, builtinLookup_eq_fast]; kernel_rfl) (by decide +kernel) (by decide +kernel) (by decide +kernel) (.inl (by decide +kernel)) (by rw [isSubtype_type]; kernel_rfl)
theorem op_neO (T : EqT X.K C f fd) (Fk : FnOk X.prog X.w X.K X.mg X.base CX0 k f fd ["self", "other"] sp) (hr : Room (k + 2) X.A) : OpR X (compareOp .NotEq) (rNeO C sp) := by
  intro pins s σ H x y v u Q I rx ry h
  obtain ⟨a, dx, fs, rfl, ha, sc, q⟩ := h
  obtain rfl : v = Value.ref a := rx
  obtain ⟨tb, lb, nf⟩ := sec_type I ry sc
  obtain ⟨mA, J, _⟩ := ins_get I.hok ha
  obtain ⟨od, J, _⟩ := J.look
  show wpAny _ _ (richCompare .NotEq (.ref a) u) _ _ _
  have rr : Vals [V.ref a, y] [Value.ref a, u] := .cons rfl (.cons ry .nil)
  have inner : wpAny (model X.prog X.w) X.A (call (.builtin "object.__ne__") [.ref a, u]) (PySem.W.CmpBack (EP X pins σ Q)) X.xe s := by
    have sub : PySem.W.Looks (model X.prog X.w) s.heap (isInstance (.ref a) (.type "object")) true := J.type.andThen (PySem.W.looks_mroIn I.kIn T.ob)
    refine wpAny_call (codeAny_call_builtin slot_obj_ne.plain PySem.F.cmpEntry_ne (PySem.W.check_slot PySem.F.cmpKind_ne PySem.F.cmpSplit_ne sub (PySem.F.cmpArgs_ne _ _) ?_))
    unfold Builtin.«object.__ne__»
    repeat (first | with_reducible refine wpAny_cRoomFor hr.in1.units0 ?_ | with_reducible refine PySem.W.ifBound_K I.kIn J T.at_ T.fn ?_ | wp_step)
    have c1 : codeAny (model X.prog X.w) X.A.in1 (.call (.ref f) ⟨[.ref a, u], []⟩) (fun r s' => ∃ w, r = .ok (.ret w) ∧ EP X pins σ (fun v H' => ∃ b, v = V.bl b ∧ Q (V.bl !b) H') w s') s := by
      have hb := T.bd s [.ref a, u] I.kIn rfl
      refine codeAny_mono (Fk.run X.A.in1 X.stack s H ⟨[.ref a, u], []⟩ [.ref a, u] [.ref a, y] _ E0 (hr.mono (Nat.le_succ _)).in1 I.env0.in1 hb rr q) ?_
      rintro (er | fl) s2 z
      · exact False.elim z
      · cases fl with
        | ret w => exact ⟨w, rfl, I.after z⟩
        | _ => exact False.elim z
    refine codeAny_mono c1 ?_
    rintro r s2 ⟨w, rfl, z, H2, I2, rz, b, rfl, qb⟩
    obtain rfl : w = Value.bool b := rz
    refine wpAny_bind (wpAny_truthy_bool (wpAny_pure ?_))
    exact ⟨.bl !b, H2, I2, rfl, qb⟩
  have X0 := I.kIn
  have one : wpAny (model X.prog X.w) X.A (tryCompare (.ref a) "__ne__" u) (fun r s' => ∃ v, r = some v ∧ EP X pins σ Q v s') X.xe s := by
    unfold tryCompare callSpecialIfBound? bindSpecialIfBound?
    refine wpAny_bind (wpAny_holding (wpAny_bind (wpAny_bind (wpAny_bind (J.type.here ((PySem.W.looks_findIn X0 T.ne).here ?_))))))
    have fin : wpAny (model X.prog X.w) X.A (call (.builtin "object.__ne__") ([.ref a] ++ [u]) >>= fun v => pure (some v))
        (fun r s' => wpAny (model X.prog X.w) X.A (match r with | some .notImplemented | none => pure none | some v => pure (some v)) (fun r s' => ∃ v, r = some v ∧ EP X pins σ Q v s') X.xe s') X.xe s := by
      refine wpAny_bind (wpAny_mono inner (fun v s2 hv => wpAny_pure ?_) fun _ _ e => e)
      cases v <;> first | exact hv.elim | exact wpAny_pure ⟨_, rfl, hv⟩
    simp only [slot_obj_ne.bind]
    refine wpAny_bind (wpAny_askSetting (wpAny_ite ?_))
    split
    · exact wpAny_bind (wpAny_pure (wpAny_pure fin))
    · exact wpAny_tryCatch (wpAny_bind (wpAny_pure (wpAny_pure fin)))
  unfold richCompare
  simp only [oneThing_ref]
  refine wpAny_holding (wpAny_bind (wpAny_cRoomFor hr.units0 ?_))
  refine wpAny_bind (J.type.here (wpAny_bind (lb.here ?_)))
  split
  · rename_i qne
    have e : PySem.W.subIn X.K tb (.ref C) = some false := by
      rcases Bool.or_eq_true_iff.mp nf with e | e
      · rw [beq_iff_eq.mp e] at qne
        simp at qne
      · exact beq_iff_eq.mp e
    refine wpAny_bind ((PySem.W.looks_subIn X0 e).here ?_)
    simp only [Bool.false_eq_true, if_false]
    refine wpAny_bind (wpAny_mono one (fun r s2 hz => ?_) fun _ _ e => e)
    obtain ⟨v, rfl, hv⟩ := hz
    exact wpAny_pure hv
  · refine wpAny_bind (wpAny_pure ?_)
    simp only [Bool.false_eq_true, if_false]
    refine wpAny_bind (wpAny_mono one (fun r s2 hz => ?_) fun _ _ e => e)
    obtain ⟨v, rfl, hv⟩ := hz
    exact wpAny_pure hv
end
end FL
namespace FL
open PySem PySem.Spec PyProof.Rows L2
section
variable {x C : Addr}
theorem none_no (c : Value) (dd : Option Addr) (sl : Array (Option Value)) :
    Meets (Builtin.«NoneType.__eq__» ⟨[.none, .ref x], []⟩) (fun _ R s => s.heap.get? x = some { cls := c, dict := dd, data := .plain, slots := sl } ∧ R (.ok (.ret .notImplemented)) s) :=
  .of_wp fun prog w A R s h => by obtain ⟨hp, g, d, tk, os⟩ := s; obtain ⟨hl, h⟩ := h; wp_walk using wpAny_loadPart' hl, wpAny_load hl; exact ⟨_, rfl, h⟩
end
section
variable {X : Cx} {pins : List (Addr × Obj)} {σ : L2.St} {H : Hp} {s : Shared} {k : Nat} {f C : Addr} {fd : FuncData} {sp : Sp}
/-- a value of another kind == an instance -/
def rEqR (C : Addr) (sp : Sp) : R2 := fun x y H Q => ∃ a dx fs n, y = .ref a ∧ H a = some (.ins C dx fs) ∧ Any H x n ∧ sp [y, x] H (fun v H' => ∃ b, v = .bl b ∧ Q (.bl b) H') E0
theorem op_eqR (T : EqT X.K C f fd) (Fk : FnOk X.prog X.w X.K X.mg X.base CX0 k f fd ["self", "other"] sp) (hr : Room k X.A) : OpR X (compareOp .Eq) (rEqR C sp) := by
  intro pins s σ H x y v u Q I rx ry h
  obtain ⟨a, dx, fs, n, rfl, ha, an, q⟩ := h
  obtain rfl : u = Value.ref a := ry
  obtain ⟨mA, O, _⟩ := ins_get I.hok ha
  obtain ⟨od, J, _⟩ := O.look
  have hx : s.heap.get? a = some (PySem.W.instObj C dx) := J.at_
  show wpAny _ _ (richCompare .Eq v (.ref a)) _ _ _
  have rr : Vals [V.ref a, x] [Value.ref a, v] := .cons rfl (.cons rx .nil)
  have hu := hr.units0
  have km := T.kin n an.kind
  have own : wpAny (model X.prog X.w) X.A (call (.ref f) [.ref a, v]) (PySem.W.CmpBack (EP X pins σ Q)) X.xe s := by
    refine wpAny_mono (wpAny_call (run_fnR (Fk.raw T.bd .nil) hr pass0 I rr q)) ?_ fun _ _ e => e
    rintro w s2 ⟨z, H2, I2, rz, b, rfl, qb⟩
    obtain rfl : w = Value.bool b := rz
    exact ⟨.bl b, H2, I2, rfl, qb⟩
  cases an with
  | non =>
    obtain rfl : v = Value.none := rx
    exact rc_own (T := "NoneType") rfl I.kIn J km PySem.F.slot_NoneType_eq (fun Q' hq => call_meets PySem.F.slot_NoneType_eq rfl PySem.F.entry_NoneType_eq (PySem.F.args_NoneType_eq_2 _ _) (none_no _ _ _) ⟨hx, hq⟩) T.at_ T.fn hu own
  | bl b =>
    obtain rfl : v = Value.bool b := rx
    exact rc_own (T := "bool") rfl I.kIn J km PySem.F.slot_bool_eq (fun Q' hq => call_meets PySem.F.slot_bool_eq rfl PySem.F.entry_int_eq (PySem.F.args_int_eq_2 _ _) (bool_no _ _ _ _) ⟨hx, hq⟩) T.at_ T.fn hu own
  | int i =>
    obtain ⟨t, rfl⟩ := rx
    exact rc_own (T := "int") (typeIs_int s i t) I.kIn J km PySem.F.slot_int_eq (fun Q' hq => call_meets PySem.F.slot_int_eq (typeIs_int s i t) PySem.F.entry_int_eq (PySem.F.args_int_eq_2 _ _) (int_no _ _ _ _ _) ⟨hx, hq⟩) T.at_ T.fn hu own
  | str z =>
    obtain ⟨t, rfl⟩ := rx
    exact rc_own (T := "str") (typeIs_str s z t) I.kIn J km PySem.F.slot_str_eq (fun Q' hq => call_meets PySem.F.slot_str_eq (typeIs_str s z t) PySem.F.entry_str_eq (PySem.F.args_str_eq_2 _ _) (str_no _ _ _ _ _) ⟨hx, hq⟩) T.at_ T.fn hu own
  | @lst l xs e =>
    obtain rfl : v = Value.ref l := rx
    obtain ⟨_, its, m, _, hl⟩ := I.hok l _ e
    have ty : s.TypeIs (.ref l) "list" := ⟨_, hl, rfl⟩
    exact rc_own (T := "list") ty I.kIn J km PySem.F.slot_list_eq (fun Q' hq => call_meets PySem.F.slot_list_eq ty PySem.F.entry_list_eq (PySem.F.args_list_eq_2 _ _) (list_no _ _ _ _ .none _ _) ⟨hl, hx, ⟨I.kIn, km⟩, hq⟩) T.at_ T.fn hu own
  | @tup l xs e =>
    obtain rfl : v = Value.ref l := rx
    obtain ⟨_, its, _, o, hl, hc, m, hd⟩ := I.hok l _ e
    obtain ⟨cls, dd, data, sl⟩ := o
    simp only at hc hd
    subst hc hd
    have ty : s.TypeIs (.ref l) "tuple" := ⟨_, hl, rfl⟩
    exact rc_own (T := "tuple") ty I.kIn J km PySem.F.slot_tuple_eq (fun Q' hq => call_meets PySem.F.slot_tuple_eq ty PySem.F.entry_tuple_eq (PySem.F.args_tuple_eq_2 _ _) (tuple_no _ _ _ _ .none _ _) ⟨hl, hx, ⟨I.kIn, km⟩, hq⟩) T.at_ T.fn hu own
  | @dct l kvs e =>
    obtain rfl : v = Value.ref l := rx
    obtain ⟨_, _, vs, _, o, es, ep, hl, he, hd, _⟩ := I.hok l _ e
    obtain ⟨cls, dd, data, sl⟩ := o
    obtain ⟨hc, _⟩ := he
    simp only at hc hd
    subst hc hd
    have ty : s.TypeIs (.ref l) "dict" := ⟨_, hl, rfl⟩
    exact rc_own (T := "dict") ty I.kIn J km PySem.F.slot_dict_eq (fun Q' hq => call_meets PySem.F.slot_dict_eq ty PySem.F.entry_dict_eq (PySem.F.args_dict_eq_2 _ _) (dict_no _ _ _ _ .none _ _) ⟨hl, hx, ⟨I.kIn, km⟩, hq⟩) T.at_ T.fn hu own
end
end FL
namespace FL
open PySem PySem.Spec PyProof.Rows L2
/-! ### what a relay's methods promise -/
structure IsT (K : PySem.W.Frag) (C : Addr) : Prop where
  cl : Cls K C
  ha : PySem.W.findIn K (.ref C) "__class__" = some (some (.builtin "object.__class__"))
  hm : PySem.W.mroIn K C (.type "object") = some true
  self : PySem.W.kitOne K (.ref C) (.ref C) = some true
  oth : ∀ n ∈ kinds, PySem.W.kitOne K (.type n) (.ref C) = some false
theorem IsT.ins {K : PySem.W.Frag} {C a dx : Addr} {H : Hp} {fs : List (Str × V)} (T : IsT K C) (e : H a = some (.ins C dx fs)) : TyX K H (.ref a) (.ref C) :=
  .base (.ins e T.cl T.ha (by kernel_rfl) (by kernel_rfl) T.hm)
/-- rules that are plain and not too long -/
def RP (b : Nat) (rs : List Rule) : Prop := ∀ r ∈ rs, Plain r.old ∧ Plain r.new ∧ r.old.length ≤ b ∧ r.new.length ≤ b
def rsEq (a b : List Rule) : Bool := PyData.eqvAll (a.map ruleD) (b.map ruleD)
theorem rsEq_iff {a b : List Rule} : rsEq a b = true ↔ a = b := eqv_rules a b
theorem rsEq_self (a : List Rule) : rsEq a a = true := rsEq_iff.mpr rfl
theorem rsEq_comm (a b : List Rule) : rsEq a b = rsEq b a := by
  cases h : rsEq a b with
  | true =>
    rw [rsEq_iff] at h
    rw [h, rsEq_self]
  | false =>
    cases h2 : rsEq b a with
    | false => rfl
    | true =>
      rw [rsEq_iff] at h2
      rw [h2, rsEq_self] at h
      cases h
def spGet (C : Addr) : Sp := fun vs H Q _ => ∃ (p : Addr) (z : Str) (rs : List Rule), vs = [.ref p] ∧ RelayAt C H p z rs ∧ Q (.str z) H
def spRules (C : Addr) : Sp := fun vs H Q _ => ∃ (p : Addr) (z : Str) (rs : List Rule), vs = [.ref p] ∧ RelayAt C H p z rs ∧
  ∀ (D : Addr) (xs : List V) (H' : Hp), H D = none → H' D = some (.lst xs) → RulesAt H' xs rs → Same H H' → Q (.ref D) H'
def spCall (C : Addr) : Sp := fun vs H Q _ => ∃ (p : Addr) (z : Str) (rs : List Rule) (y : Str), vs = [.ref p, .str y] ∧ RelayAt C H p z rs ∧ Over z y ∧ y.length ≤ 100000 ∧
  (∀ r ∈ rs, r.old.length ≤ 40 ∧ r.new.length ≤ 1000) ∧ ∀ H', Same H H' → Q (.str (turn rs y)) H'
def spEqR (C : Addr) : Sp := fun vs H Q _ => ∃ (p : Addr) (z : Str) (rs : List Rule) (b : Nat) (v : V), vs = [.ref p, v] ∧ RelayAt C H p z rs ∧ RP b rs ∧
  ((∃ n, Any H v n ∧ Q (.bl false) H) ∨ ∃ (q : Addr) (rs' : List Rule), v = .ref q ∧ RelayAt C H q z rs' ∧ RP b rs' ∧ Q (.bl (rsEq rs rs')) H)
def reprR (z : Str) (rs : List Rule) : Str := (((((Str.empty ++ Str.ofString "Relay(") ++ reprText z) ++ Str.ofString ", ") ++ (PyData.list (rs.map ruleD)).shown) ++ Str.ofString ")")
def spReprR (C : Addr) : Sp := fun vs H Q _ => ∃ (p : Addr) (z : Str) (rs : List Rule), vs = [.ref p] ∧ RelayAt C H p z rs ∧ Abc z ∧ RP 40 rs ∧ rs.length ≤ 400 ∧ Q (.str (reprR z rs)) H
theorem repr_abc {z : Str} (h : Abc z) : (reprText z).length ≤ 42 := by
  have h1 := (Sm.str (h.plain fun c hc => hc)).len
  have h2 : (reprText z).length ≤ 10 * z.length + 2 := h1
  have := h.hi
  omega
theorem RP.sm {b : Nat} {rs : List Rule} (h : RP b rs) : Sm ((20 * b + 77) * rs.length + 2) (.list (rs.map ruleD)) := Sm.rules h
theorem RP.sm40 {rs : List Rule} (h : RP 40 rs) (l : rs.length ≤ 400) : Sm 400000 (.list (rs.map ruleD)) := (RP.sm h).mono (by omega)
end FL
namespace FL
open PySem PySem.Spec PyProof.Rows L2
/-! ### a def by its name, all that a caller needs of it -/
structure Ca (P : Program) (w : World) (K : PySem.W.Frag) (mg : Str → Option Value) (base : Heap) (x : Str) (k : Nat) (ps : List Str) (sp : Sp) : Prop where
  ex : ∃ f fd, FnOk P w K mg base CX0 k f fd ps sp ∧ Binds K fd ps [] ∧ PySem.W.keepIn K (.ref f) = true ∧ mg x = some (.ref f)
structure CaG (P : Program) (w : World) (K : PySem.W.Frag) (mg : Str → Option Value) (base : Heap) (x : Str) (k : Nat) (ps : List Str) (sp : Sp) : Prop where
  ex : ∃ f fd, FnG P w K mg base CX0 k f fd ps sp ∧ Binds K fd ps [] ∧ PySem.W.keepIn K (.ref f) = true ∧ mg x = some (.ref f)
section
variable {X : Cx} {x : Str} {k : Nat} {ps : List Str} {sp : Sp} {p pos : Pos} {e : Expr} {es : List Expr} {t : TA}
theorem pe_ca (c : Ca X.prog X.w X.K X.mg X.base x k ps sp) (hr : Room k X.A) (hg : Gl X x) (ha : PA X (e :: es) t)
    (hdb : (x == ("__debug__" : Str)) = false := by decide) (he : starEach (e :: es) X.env = (false, eval e X.env) :: starEach es X.env := by rfl) (hpl : (backTo pos (starEach es X.env)).any (·.1) = false := by rfl) :
    PE X (.Call (.Name x p) (e :: es) [] pos) (tCall sp [] E0 t) := by
  obtain ⟨f, fd, F, b, kp, m⟩ := c.ex
  exact pe_call F hr hg m kp b .nil pass0 ha hdb he hpl
theorem pe_cg (c : CaG X.prog X.w X.K X.mg X.base x k ps sp) (hr : Room k X.A) (hG : X.A.guards = some []) (hg : Gl X x) (ha : PA X (e :: es) t)
    (hdb : (x == ("__debug__" : Str)) = false := by decide) (he : starEach (e :: es) X.env = (false, eval e X.env) :: starEach es X.env := by rfl) (hpl : (backTo pos (starEach es X.env)).any (·.1) = false := by rfl) :
    PE X (.Call (.Name x p) (e :: es) [] pos) (tCall sp [] E0 t) := by
  obtain ⟨f, fd, F, b, kp, m⟩ := c.ex
  exact pg_call F hr hG hg m kp b .nil pass0 ha hdb he hpl
end
/-! ### the class Relay, all that its users need -/
structure RelF (P : Program) (w : World) (K : PySem.W.Frag) (mg : Str → Option Value) (base : Heap) where
  C : Addr
  T : RTxt K mg C
  I : IsT K C
  fi : Addr
  di : FuncData
  mkc : Mk K C fi
  oi : FnOk P w K mg base CX0 5 fi di ["self", "signs", "rules"] (spInit C)
  bi : Binds K di ["self", "signs", "rules"] []
  ki : KBn K di ["self", "signs", "rules"] 1 ["rules", "signs"] swp swp
  fp : Addr
  fg : Addr
  dg : FuncData
  pr : PropOf K C "signs" fp fg
  og : FnOk P w K mg base CX0 1 fg dg ["self"] (spGet C)
  bg : Binds K dg ["self"] []
  fr : Addr
  dr : FuncData
  mr : Meth K C "rules" fr
  or_ : FnOk P w K mg base CX0 1 fr dr ["self"] (spRules C)
  br : Binds K dr ["self"] []
  fc : Addr
  dc : FuncData
  cc : StX.CallO K C fc
  oc : FnOk P w K mg base CX0 3 fc dc ["self", "line"] (spCall C)
  bc : Binds K dc ["self", "line"] []
  kc : KBn K dc ["self", "line"] 1 ["line"] (fun us ws => us ++ ws) (fun vs zs => vs ++ zs)
  fe : Addr
  de : FuncData
  te : EqT K C fe de
  oe : FnOk P w K mg base CX0 1 fe de ["self", "other"] (spEqR C)
  fz : Addr
  dz : FuncData
  zs : PySem.W.findIn K (.ref C) "__repr__" = some (some (.ref fz))
  zf : PySem.W.isFn K (.ref fz) = true
  oz : FnG P w K mg base CX0 1 fz dz ["self"] (spReprR C)
  bz : Binds K dz ["self"] []
theorem make_read {C : Addr} {H : Hp} {Q : VK} {z : Str} {v : V} {rs : List Rule} (hz : Abc z) (ra : RuArg H v rs) (ok : ∀ r ∈ rs, RuleOk z 40 r) (l : rs.length ≤ 400)
    (k : ∀ (x : Addr) (H' : Hp), H x = none → RelayAt C H' x z rs → Same H H' → Q (.ref x) H') :
    ∀ x dx, H x = none → H dx = none → dx ≠ x → spInit C [.ref x, .str z, v] (upd (upd H dx (.own x)) x (.ins C dx [])) (fun v H3 => v = .non ∧ Q (.ref x) H3) E0 := by
  intro x dx hx hd hne
  have s2 : Same H (upd (upd H dx (.own x)) x (.ins C dx [])) := ((Same.refl H).upd hd).upd hx
  refine ⟨x, dx, z, v, rs, rfl, upd_same, hz, ?_, ok, l, fun H' ra' rel _ b => ⟨rfl, k x H' hx rel.at_ fun c o e => b c o (s2 c o e) (ne_of_none e hx)⟩⟩
  obtain ⟨a, xs, t, rfl, ea, hrs⟩ := ra
  exact ⟨a, xs, t, rfl, s2 _ _ ea, Same.rules s2 hrs⟩
theorem RelayAt.ins {C : Addr} {H : Hp} {p : Addr} {z : Str} {rs : List Rule} (h : RelayAt C H p z rs) : ∃ dx fs, H p = some (.ins C dx fs) ∧ ∀ {m : Str}, ¬ m = Str.ofString "_index" → ¬ m = Str.ofString "_rules" → ¬ m = Str.ofString "_signs" → fs.lookup m = none := by
  obtain ⟨dx, ra, ia, xs, h1, _⟩ := h
  exact ⟨dx, _, h1, fun a b c => flds_no z ra ia a b c⟩
theorem rules_no : ¬ (Str.ofString "rules") = Str.ofString "_index" ∧ ¬ (Str.ofString "rules") = Str.ofString "_rules" ∧ ¬ (Str.ofString "rules") = Str.ofString "_signs" := by decide +kernel
end FL
namespace FL
open PySem PySem.Spec PyProof.Rows L2
theorem RelayAt.nn {C : Addr} {H : Hp} {p : Addr} {z : Str} {rs : List Rule} (h : RelayAt C H p z rs) : H p ≠ none := by
  obtain ⟨dx, fs, e, _⟩ := h.ins
  rw [e]
  exact fun q => nomatch q
/-- what the law asks of the rules of a relay -/
structure Deal (K : PySem.W.Frag) (H : Hp) (D : Addr) (z : Str) (rs : List Rule) : Prop where
  az : Abc z
  ex : ∃ xs, H D = some (.lst xs) ∧ RulesAt H xs rs
  ok : ∀ r ∈ rs, RuleOk z 30 r
  le : rs.length ≤ 100
theorem Deal.rp {K : PySem.W.Frag} {H : Hp} {D : Addr} {z : Str} {rs : List Rule} (d : Deal K H D z rs) : RP 40 rs := fun r hr => by
  have o := d.ok r hr
  exact ⟨d.az.plain o.o1, d.az.plain o.n1, Nat.le_trans o.o2 (by decide), Nat.le_trans o.n2 (by decide)⟩
theorem _root_.L2.Same.sqL {K : PySem.W.Frag} {q : Addr} {H H' : Hp} {xs : List V} (b : Same H H') (h : SqL K H q xs) : SqL K H' q xs := by
  rcases h with (h | ⟨o, h⟩) | h
  · exact .inl (.inl (b _ _ h))
  · exact .inl (.inr ⟨o, b _ _ h⟩)
  · exact .inr h
theorem Deal.same {K : PySem.W.Frag} {H H' : Hp} {D : Addr} {z : Str} {rs : List Rule} (d : Deal K H D z rs) (s : Same H H') : Deal K H' D z rs := by
  obtain ⟨xs, h1, h2⟩ := d.ex
  exact ⟨d.az, ⟨xs, s _ _ h1, Same.rules s h2⟩, d.ok, d.le⟩
def spTold (K : PySem.W.Frag) (C : Addr) : Sp := fun vs H Q _ => ∃ (z : Str) (D p : Addr) (rs : List Rule), vs = [.str z, .ref D, .ref p] ∧ Deal K H D z rs ∧ RelayAt C H p z rs ∧
  ∀ H', Same H H' → Q (.bl true) H'
/-- the shown text of rules -/
def shR (rs : List Rule) : Str := (PyData.list (rs.map ruleD)).shown
theorem Deal.sm {K : PySem.W.Frag} {H : Hp} {D : Addr} {z : Str} {rs : List Rule} (d : Deal K H D z rs) : Sm 400000 (.list (rs.map ruleD)) := d.rp.sm40 (Nat.le_trans d.le (by decide))
theorem Deal.sh {K : PySem.W.Frag} {H : Hp} {D : Addr} {z : Str} {rs : List Rule} (d : Deal K H D z rs) : Sh K H (.ref D) (.list (rs.map ruleD)) := by
  obtain ⟨xs, h1, h2⟩ := d.ex
  exact .inl ⟨dp_list (SqL.of h1) h2, d.sm.nd⟩
theorem sh_str {K : PySem.W.Frag} {H : Hp} (y : Str) : Sh K H (.str y) (.str y) := .inl ⟨.str y, rfl⟩
theorem nice_str {y : Str} (h : Plain y) (l : y.length ≤ 1000000) : NiceD (.str y) := (Sm.str h).nice (by
  have sz : sizeLine = 16777216 := rfl
  omega)
end FL
namespace FL
open PySem PySem.Spec PyProof.Rows L2
theorem empty_app (x : Str) : Str.empty ++ x = x := by
  apply Str_ext
  rw [Str.cps_append, Array.toList_append]
  rfl
theorem reprR_eq (z : Str) (rs : List Rule) : reprR z rs = (((Str.ofString "Relay(" ++ (PyData.str z).shown) ++ Str.ofString ", ") ++ (PyData.list (rs.map ruleD)).shown) ++ Str.ofString ")" := by
  show (((((Str.empty ++ Str.ofString "Relay(") ++ (PyData.str z).shown) ++ Str.ofString ", ") ++ (PyData.list (rs.map ruleD)).shown) ++ Str.ofString ")") = _
  rw [empty_app]
end FL
namespace FL
open PySem PySem.Spec PyProof.Rows L2 FL
theorem iteNot {c A B : Prop} [Decidable c] (hn : ¬ c) (h : B) : if decide c = true then A else B := by
  rw [if_neg fun q => hn (of_decide_eq_true q)]
  exact h
theorem iteYes {c A B : Prop} [Decidable c] (hc : c) (h : A) : if decide c = true then A else B := by
  rw [if_pos (decide_eq_true hc)]
  exact h
theorem cutV_take {xs : List V} {i : Nat} : cutV xs none (some ((i : Nat) : Int)) = xs.take i := by
  show (xs.drop (HT.sIx xs.length 0 none)).take (HT.sIx xs.length xs.length (some ((i : Nat) : Int)) - HT.sIx xs.length 0 none) = xs.take i
  rw [HT.sIx_nat]
  show (xs.drop 0).take (min i xs.length - 0) = xs.take i
  rw [List.drop_zero, Nat.sub_zero]
  by_cases h : i ≤ xs.length
  · rw [Nat.min_eq_left h]
  · rw [Nat.min_eq_right (by omega), List.take_length, List.take_of_length_le (by omega)]
theorem flat_strs : ∀ ms : List Str, (ms.map V.str).all flatV = true
  | [] => rfl
  | _ :: ms => flat_strs ms
/-! ### written tuples -/
def SqW (K : PySem.W.Frag) (a : Addr) (xs : List V) : Prop := ∃ (o : Obj) (its : Array Value) (n : Nat), K.lookup a = some o ∧ o.cls = .type "tuple" ∧ o.data = .seq its n ∧ its.size ≤ sizeLine ∧ Vals xs its.toList
theorem SqW.sqT {K : PySem.W.Frag} {H : Hp} {a : Addr} {xs : List V} (h : SqW K a xs) : SqT K H a xs := .inr h
def relsB : List V → List Value → Bool
  | [], [] => true
  | x :: xs, u :: us => He.relB x u && relsB xs us
  | _, _ => false
theorem relsB_ok : ∀ {xs : List V} {us : List Value}, relsB xs us = true → Vals xs us
  | [], [], _ => .nil
  | [], _ :: _, h => nomatch h
  | _ :: _, [], h => nomatch h
  | x :: xs, u :: us, h => by
    obtain ⟨h1, h2⟩ := Bool.and_eq_true_iff.mp (show (He.relB x u && relsB xs us) = true from h)
    exact .cons (He.relB_ok h1) (relsB_ok h2)
def tupB (K : PySem.W.Frag) (a : Addr) (xs : List V) : Bool := match K.lookup a with
  | some o => (match o.cls, o.data with
    | .type c, .seq its _ => decide (c = "tuple") && (decide (its.size ≤ 1000) && relsB xs its.toList)
    | _, _ => false)
  | none => false
theorem tupB_ok {K : PySem.W.Frag} {a : Addr} {xs : List V} (h : tupB K a xs = true) : SqW K a xs := by
  unfold tupB at h
  cases q : K.lookup a with
  | none =>
    rw [q] at h
    cases h
  | some o =>
    rw [q] at h
    obtain ⟨oc, od, dt, sl⟩ := o
    cases oc with
    | type c =>
      cases dt with
      | seq its n =>
        obtain ⟨h1, h2⟩ := Bool.and_eq_true_iff.mp (show (decide (c = "tuple") && (decide (its.size ≤ 1000) && relsB xs its.toList)) = true from h)
        obtain ⟨h2, h3⟩ := Bool.and_eq_true_iff.mp h2
        have e := of_decide_eq_true h1
        subst e
        exact ⟨_, its, n, q, rfl, rfl, Nat.le_trans (of_decide_eq_true h2) (by decide), relsB_ok h3⟩
      | _ => cases h
    | _ => cases dt <;> cases h
/-! ### what the top left, with tables -/
abbrev Tbs : Type := List ((PySem.W.Frag → Addr) × List Str)
def hookD (n : Nat) (ds : List DA) (ex : PySem.W.Frag → Bool) (ts : Tbs) : PySem.W.Hook where
  α := (Bool × List He.FnV) × List (Option (List (Option (Str × Int))))
  obs := fun s => (lookF ds ex (He.frG s.heap.get? (He.asD s.heap.get? n)), ts.map fun t => He.dicW (He.frG s.heap.get? (He.asD s.heap.get? n)) (t.1 (He.frG s.heap.get? (He.asD s.heap.get? n))))
  val := fun w => (dueF ds, ts.map fun t => some (He.keysIn w.params t.2))
  says := fun w h => ∃ K : PySem.W.Frag, K.In h ∧ lookF ds ex K = dueF ds ∧ (ts.map fun t => He.dicW K (t.1 K)) = ts.map fun t => some (He.keysIn w.params t.2)
  of := fun _ _ e => ⟨_, He.frG_in, congrArg Prod.fst e, congrArg Prod.snd e⟩
  keeps := fun _ _ _ ⟨K, i, c⟩ k => ⟨K, PySem.W.Frag.In.keeps i k, c⟩
def obD (n : Nat) (ds : List DA) (ex : PySem.W.Frag → Bool) (ts : Tbs) (g : Addr → Option Obj) : (Bool × List He.FnV) × List (Option (List (Option (Str × Int)))) :=
  (lookF ds ex (He.frG g (He.asD g n)), ts.map fun t => He.dicW (He.frG g (He.asD g n)) (t.1 (He.frG g (He.asD g n))))
theorem obD_eq {n : Nat} {ds : List DA} {ex : PySem.W.Frag → Bool} {ts : Tbs} (s : PySem.W.SharedT) : obD n ds ex ts (HandSHeadRun.getT s) = (hookD n ds ex ts).obs s.abs := by
  have e : HandSHeadRun.getT s = s.abs.heap.get? := funext fun a => HandSHeadRun.getT_eq s a
  rw [e]
  rfl
theorem tabs_at {K : PySem.W.Frag} {w : World} {ts : Tbs} (c : (ts.map fun t => He.dicW K (t.1 K)) = ts.map fun t => some (He.keysIn w.params t.2)) (i : Nat) {t : (PySem.W.Frag → Addr) × List Str} (h : ts[i]? = some t) : ∃ es n, KDict K w (t.1 K) es n := by
  have e2 : (ts.map fun t => He.dicW K (t.1 K))[i]? = (ts.map fun t => some (He.keysIn w.params t.2))[i]? := by rw [c]
  rw [List.getElem?_map, List.getElem?_map, h] at e2
  exact He.dicW_ok (Option.some.inj e2)
/-! ### what a reader is made of -/
theorem nk1 : ¬ (Str.ofString "sight") = Str.ofString "order" := by decide +kernel
theorem nk2 : ¬ (Str.ofString "sight") = Str.ofString "further" := by decide +kernel
theorem nk3 : ¬ (Str.ofString "sight") = Str.ofString "finish" := by decide +kernel
theorem nk4 : ¬ (Str.ofString "order") = Str.ofString "further" := by decide +kernel
theorem nk5 : ¬ (Str.ofString "order") = Str.ofString "finish" := by decide +kernel
theorem nk6 : ¬ (Str.ofString "further") = Str.ofString "finish" := by decide +kernel
structure Cares where
  si : Str
  od : Str
  fu : Str
  fi : Str
def caresL (c : Cares) : List (Str × Str) := [(Str.ofString "sight", c.si), (Str.ofString "order", c.od), (Str.ofString "further", c.fu), (Str.ofString "finish", c.fi)]
def caresK (c : Cares) : List (Key × V) := (caresL c).map fun q => (Sum.inr q.1, V.str q.2)
theorem keyN {a b : Str} (h : ¬ a = b) : ¬ (Sum.inr a : Key) = Sum.inr b := fun e => h (Sum.inr.inj e)
theorem cares_merge (c : Cares) : mergeK [] (caresK c) = caresK c := by
  have a1 : putK ([] : List (Key × V)) (Sum.inr (Str.ofString "sight")) (.str c.si) = [(Sum.inr (Str.ofString "sight"), .str c.si)] := putK_new _ rfl
  have a2 : putK [((Sum.inr (Str.ofString "sight") : Key), V.str c.si)] (Sum.inr (Str.ofString "order")) (.str c.od) = [(Sum.inr (Str.ofString "sight"), .str c.si), (Sum.inr (Str.ofString "order"), .str c.od)] :=
    putK_new _ (by rw [valV_neg (keyN nk1)]; rfl)
  have a3 : putK [((Sum.inr (Str.ofString "sight") : Key), V.str c.si), (Sum.inr (Str.ofString "order"), .str c.od)] (Sum.inr (Str.ofString "further")) (.str c.fu) = [(Sum.inr (Str.ofString "sight"), .str c.si), (Sum.inr (Str.ofString "order"), .str c.od), (Sum.inr (Str.ofString "further"), .str c.fu)] :=
    putK_new _ (by rw [valV_neg (keyN nk2), valV_neg (keyN nk4)]; rfl)
  have a4 : putK [((Sum.inr (Str.ofString "sight") : Key), V.str c.si), (Sum.inr (Str.ofString "order"), .str c.od), (Sum.inr (Str.ofString "further"), .str c.fu)] (Sum.inr (Str.ofString "finish")) (.str c.fi) = caresK c :=
    putK_new _ (by rw [valV_neg (keyN nk3), valV_neg (keyN nk5), valV_neg (keyN nk6)]; rfl)
  unfold mergeK
  unfold caresK caresL at *
  simp only [List.map_cons, List.map_nil, List.foldl_cons, List.foldl_nil]
  rw [a1, a2, a3, a4]
  rfl
def SightOk (z v : Str) : Prop := v = Str.ofString "whole" ∨ v = Str.ofString "start" ∨ (Over z v ∧ v.length = 1)
def CareOk (z nm v : Str) : Prop := (nm = Str.ofString "sight" ∧ SightOk z v) ∨ (nm = Str.ofString "order" ∧ (v = Str.ofString "inner" ∨ v = Str.ofString "outer")) ∨
  (nm = Str.ofString "further" ∧ (v = Str.ofString "refuse" ∨ v = Str.ofString "close")) ∨ (nm = Str.ofString "finish" ∧ (v = Str.ofString "refuse" ∨ v = Str.ofString "close"))
structure CaresOk (z : Str) (c : Cares) : Prop where
  all : ∀ q ∈ caresL c, CareOk z q.1 q.2
theorem CareOk.len {z nm v : Str} (h : CareOk z nm v) : v.length ≤ 10 := by
  have e : (Str.ofString "whole").length = 5 ∧ (Str.ofString "start").length = 5 ∧ (Str.ofString "inner").length = 5 ∧ (Str.ofString "outer").length = 5 ∧ (Str.ofString "refuse").length = 6 ∧ (Str.ofString "close").length = 5 := by decide +kernel
  rcases h with ⟨_, rfl | rfl | ⟨_, h⟩⟩ | ⟨_, rfl | rfl⟩ | ⟨_, rfl | rfl⟩ | ⟨_, rfl | rfl⟩ <;> omega
def rflds (z : Str) (ma : Addr) (tl : Str) (ca : Addr) : List (Str × V) := putF "_cares" (.ref ca) (putF "_tail" (.str tl) (putF "_marks" (.ref ma) (putF "_signs" (.str z) [])))
theorem rn1 : ¬ (Str.ofString "_signs") = Str.ofString "_marks" := by decide +kernel
theorem rn2 : ¬ (Str.ofString "_signs") = Str.ofString "_tail" := by decide +kernel
theorem rn3 : ¬ (Str.ofString "_signs") = Str.ofString "_cares" := by decide +kernel
theorem rn4 : ¬ (Str.ofString "_marks") = Str.ofString "_tail" := by decide +kernel
theorem rn5 : ¬ (Str.ofString "_marks") = Str.ofString "_cares" := by decide +kernel
theorem rn6 : ¬ (Str.ofString "_tail") = Str.ofString "_cares" := by decide +kernel
theorem rflds_signs (z : Str) (ma : Addr) (tl : Str) (ca : Addr) : (rflds z ma tl ca).lookup (Str.ofString "_signs") = some (.str z) := by
  unfold rflds
  rw [lookup_putF, if_neg rn3, lookup_putF, if_neg rn2, lookup_putF, if_neg rn1, lookup_putF, if_pos rfl]
theorem rflds_marks (z : Str) (ma : Addr) (tl : Str) (ca : Addr) : (rflds z ma tl ca).lookup (Str.ofString "_marks") = some (.ref ma) := by
  unfold rflds
  rw [lookup_putF, if_neg rn5, lookup_putF, if_neg rn4, lookup_putF, if_pos rfl]
theorem rflds_tail (z : Str) (ma : Addr) (tl : Str) (ca : Addr) : (rflds z ma tl ca).lookup (Str.ofString "_tail") = some (.str tl) := by
  unfold rflds
  rw [lookup_putF, if_neg rn6, lookup_putF, if_pos rfl]
theorem rflds_cares (z : Str) (ma : Addr) (tl : Str) (ca : Addr) : (rflds z ma tl ca).lookup (Str.ofString "_cares") = some (.ref ca) := by
  unfold rflds
  rw [lookup_putF, if_pos rfl]
theorem rflds_no (z : Str) (ma : Addr) (tl : Str) (ca : Addr) {m : Str} (h1 : ¬ m = Str.ofString "_cares") (h2 : ¬ m = Str.ofString "_tail") (h3 : ¬ m = Str.ofString "_marks") (h4 : ¬ m = Str.ofString "_signs") : (rflds z ma tl ca).lookup m = none := by
  unfold rflds
  rw [lookup_putF, if_neg h1, lookup_putF, if_neg h2, lookup_putF, if_neg h3, lookup_putF, if_neg h4]
  rfl
theorem two_len' (z : Str) (M : Addr) : (putF "_marks" (.ref M) (putF "_signs" (.str z) [])).length < 1000 := by
  show (if Str.ofString "_signs" = Str.ofString "_marks" then [(Str.ofString "_signs", V.ref M)] else (Str.ofString "_signs", V.str z) :: putF (Str.ofString "_marks") (.ref M) []).length < 1000
  rw [if_neg rn1]
  show 2 < 1000
  decide
theorem rn7 : (Str.ofString "_signs" = Str.ofString "_tail") = False := eq_false rn2
theorem three_len' (z : Str) (M : Addr) (tl : Str) : (putF "_tail" (.str tl) (putF "_marks" (.ref M) (putF "_signs" (.str z) []))).length < 1000 := by
  have e1 : putF "_marks" (.ref M) (putF "_signs" (.str z) []) = [(Str.ofString "_signs", V.str z), (Str.ofString "_marks", V.ref M)] := by
    show (if Str.ofString "_signs" = Str.ofString "_marks" then [(Str.ofString "_signs", V.ref M)] else (Str.ofString "_signs", V.str z) :: putF (Str.ofString "_marks") (.ref M) []) = _
    rw [if_neg rn1]
    rfl
  rw [e1]
  show (if Str.ofString "_signs" = Str.ofString "_tail" then (Str.ofString "_signs", V.str tl) :: [(Str.ofString "_marks", V.ref M)] else (Str.ofString "_signs", V.str z) :: (if Str.ofString "_marks" = Str.ofString "_tail" then [(Str.ofString "_marks", V.str tl)] else (Str.ofString "_marks", V.ref M) :: putF (Str.ofString "_tail") (.str tl) [])).length < 1000
  rw [if_neg rn2, if_neg rn4]
  show 3 < 1000
  decide
theorem rm1 : ¬ (Str.ofString "_role_line") = Str.ofString "_cares" := by decide +kernel
theorem rm2 : ¬ (Str.ofString "_role_line") = Str.ofString "_tail" := by decide +kernel
theorem rm3 : ¬ (Str.ofString "_role_line") = Str.ofString "_marks" := by decide +kernel
theorem rm4 : ¬ (Str.ofString "_role_line") = Str.ofString "_signs" := by decide +kernel
theorem cares_self {K : PySem.W.Frag} {H : Hp} (c : Cares) : ∀ e ∈ caresK c, ∃ u, valV (caresK c) e.1 = some u ∧ EqV K H 1 e.2 u := by
  intro e he
  have hs : ∀ x : Str, EqV K H 1 (.str x) (.str x) := fun x => .inl ⟨rfl, rfl⟩
  simp only [caresK, caresL, List.map_cons, List.map_nil, List.mem_cons, List.mem_nil_iff, or_false] at he
  rcases he with rfl | rfl | rfl | rfl
  · exact ⟨_, valV_pos rfl, hs _⟩
  · refine ⟨.str c.od, ?_, hs _⟩
    show valV (_ :: _) _ = _
    rw [valV_neg (keyN nk1)]
    exact valV_pos rfl
  · refine ⟨.str c.fu, ?_, hs _⟩
    show valV (_ :: _ :: _) _ = _
    rw [valV_neg (keyN nk2), valV_neg (keyN nk4)]
    exact valV_pos rfl
  · refine ⟨.str c.fi, ?_, hs _⟩
    show valV (_ :: _ :: _ :: _) _ = _
    rw [valV_neg (keyN nk3), valV_neg (keyN nk5), valV_neg (keyN nk6)]
    exact valV_pos rfl
def ReaderAt (C : Addr) (H : Hp) (p : Addr) (z : Str) (ms : List Str) (tl : Str) (c : Cares) : Prop := ∃ (dx ma ca : Addr), H p = some (.ins C dx (rflds z ma tl ca)) ∧ H ma = some (.lst (ms.map V.str)) ∧ H ca = some (.dK (caresK c))
theorem ReaderAt.same {C : Addr} {H H' : Hp} {p : Addr} {z : Str} {ms : List Str} {tl : Str} {c : Cares} (h : ReaderAt C H p z ms tl c) (s : Same H H') : ReaderAt C H' p z ms tl c := by
  obtain ⟨dx, ma, ca, h1, h2, h3⟩ := h
  exact ⟨dx, ma, ca, s _ _ h1, s _ _ h2, s _ _ h3⟩
structure MarksOk (z : Str) (ms : List Str) : Prop where
  lo : 1 ≤ ms.length
  hi : ms.length ≤ 3
  ov : ∀ m ∈ ms, Over z m
  l1 : ∀ m ∈ ms, 1 ≤ m.length
  l2 : ∀ m ∈ ms, m.length ≤ 12
  nd : ms.Nodup
structure TailOk (z tl : Str) : Prop where
  ov : Over z tl
  l1 : 1 ≤ tl.length
  l2 : tl.length ≤ 3
/-- what is needed of the class Reader -/
structure RdTxt (K : PySem.W.Frag) (mg : Str → Option Value) (C : Addr) : Prop where
  cl : Cls K C
  nS : NoAttr K C "_signs"
  nM : NoAttr K C "_marks"
  nT : NoAttr K C "_tail"
  nC : NoAttr K C "_cares"
  mgC : mg "Reader" = some (.ref C)
/-- the words of the module -/
structure WordsT (K : PySem.W.Frag) (w : World) (mg : Str → Option Value) : Prop where
  si : ∃ a, mg "SIGHTS" = some (.ref a) ∧ SqW K a [.str (Str.ofString "whole"), .str (Str.ofString "start")]
  ca : ∃ a, mg "CARE_WORDS" = some (.ref a) ∧ (∃ b, KDct K w a (Str.ofString "order") (.ref b) ∧ SqW K b [.str (Str.ofString "inner"), .str (Str.ofString "outer")]) ∧
    (∃ b, KDct K w a (Str.ofString "further") (.ref b) ∧ SqW K b [.str (Str.ofString "refuse"), .str (Str.ofString "close")]) ∧
    (∃ b, KDct K w a (Str.ofString "finish") (.ref b) ∧ SqW K b [.str (Str.ofString "refuse"), .str (Str.ofString "close")])
def spWord (K : PySem.W.Frag) : Sp := fun vs H Q _ => ∃ (v : Str) (a : Addr) (xs : List V), vs = [.str v, .ref a] ∧ SqT K H a xs ∧ xs.all flatV = true ∧ Q (.bl (inV (.str v) xs)) H
def spIsMark : Sp := fun vs H Q _ => ∃ (z m : Str), vs = [.str z, .str m] ∧ Over z m ∧ 1 ≤ m.length ∧ m.length ≤ 12 ∧ Q (.bl true) H
def spCheckMarks : Sp := fun vs H Q _ => ∃ (z : Str) (a : Addr) (ms : List Str), vs = [.str z, .ref a, .int 3] ∧ H a = some (.lst (ms.map V.str)) ∧ MarksOk z ms ∧ ∀ H', Same H H' → Q .non H'
def spIsSight : Sp := fun vs H Q _ => ∃ (z v : Str), vs = [.str z, .str v] ∧ SightOk z v ∧ v.length ≤ 10 ∧ Q (.bl true) H
def spTailB : Sp := fun vs H Q _ => ∃ (z tl : Str), vs = [.str z, .str tl] ∧ TailOk z tl ∧ Q (.bl true) H
def spCheckTail : Sp := fun vs H Q _ => ∃ (z tl : Str), vs = [.str z, .str tl] ∧ TailOk z tl ∧ Q .non H
def spCheckCare : Sp := fun vs H Q _ => ∃ (z nm v : Str), vs = [.str z, .str nm, .str v] ∧ CareOk z nm v ∧ Q .non H
def spRInit (C : Addr) : Sp := fun vs H Q _ => ∃ (p dx : Addr) (z : Str) (a : Addr) (ms : List Str) (tl : Str) (c : Cares), vs = [.ref p, .str z, .ref a, .str tl, .str c.si, .str c.od, .str c.fu, .str c.fi] ∧ H p = some (.ins C dx []) ∧ Abc z ∧
  H a = some (.lst (ms.map V.str)) ∧ MarksOk z ms ∧ TailOk z tl ∧ CaresOk z c ∧ ∀ H', ReaderAt C H' p z ms tl c → But p H H' → Q .non H'
end FL
namespace FL
open PySem PySem.Spec PyProof.Rows L2 FL
/-! ### the hook over a written list of addresses: the part K of the heap is small, and no growing is run -/
def hookA (as : List Addr) (ds : List DA) (ex : PySem.W.Frag → Bool) (ts : Tbs) : PySem.W.Hook where
  α := (Bool × List He.FnV) × List (Option (List (Option (Str × Int))))
  obs := fun s => (lookF ds ex (He.frG s.heap.get? as), ts.map fun t => He.dicW (He.frG s.heap.get? as) (t.1 (He.frG s.heap.get? as)))
  val := fun w => (dueF ds, ts.map fun t => some (He.keysIn w.params t.2))
  says := fun w h => ∃ K : PySem.W.Frag, K.In h ∧ lookF ds ex K = dueF ds ∧ (ts.map fun t => He.dicW K (t.1 K)) = ts.map fun t => some (He.keysIn w.params t.2)
  of := fun _ _ e => ⟨_, He.frG_in, congrArg Prod.fst e, congrArg Prod.snd e⟩
  keeps := fun _ _ _ ⟨K, i, c⟩ k => ⟨K, PySem.W.Frag.In.keeps i k, c⟩
def obA (as : List Addr) (ds : List DA) (ex : PySem.W.Frag → Bool) (ts : Tbs) (g : Addr → Option Obj) : (Bool × List He.FnV) × List (Option (List (Option (Str × Int)))) :=
  (lookF ds ex (He.frG g as), ts.map fun t => He.dicW (He.frG g as) (t.1 (He.frG g as)))
theorem obA_eq {as : List Addr} {ds : List DA} {ex : PySem.W.Frag → Bool} {ts : Tbs} (s : PySem.W.SharedT) : obA as ds ex ts (HandSHeadRun.getT s) = (hookA as ds ex ts).obs s.abs := by
  have e : HandSHeadRun.getT s = s.abs.heap.get? := funext fun a => HandSHeadRun.getT_eq s a
  rw [e]
  rfl
end FL
namespace K11
open PySem PySem.Spec PyProof.Rows L2 FL
def topS (i : Nat) : Stmt := PySem.Challenge.pw_frontlines_k11_least_forms_told.main.body.getD i (.Pass ⟨0, 0, 0, 0⟩)
end K11
set_option maxHeartbeats 0
namespace K11
open PySem PySem.Spec PyProof.Rows L2 FL
abbrev R : PySem.W.OpenRow := PySem.W.OpenLaw.row PySem.Challenge.rw_frontlines_k11_least_forms_told
def gl (x : Str) (K : PySem.W.Frag) : Addr := He.ga K x
def me (m : Str) (K : PySem.W.Frag) : Addr := He.ma K (He.ga K "Machine") m
def getr (m : Str) (K : PySem.W.Frag) : Addr := match PySem.W.recIn K (me m K) "property" with
  | some (.ref g :: _) => g
  | _ => 0
def glD (x : Str) (i : Nat) : DA := ⟨gl x, x, x, topS i⟩
def meD (m q : Str) (i : Nat) : DA := ⟨me m, m, q, inClass (topS 37) i⟩
def defs : List DA := [glD "is_integer" 12, glD "is_list" 13, glD "is_signs" 14, glD "is_line" 15, glD "check_signs" 17, glD "is_place" 19, glD "is_row" 20, glD "check_rows" 21, glD "check_ends" 22, glD "least_form" 27, glD "numbered" 28, glD "alike_blocks" 29, glD "first_blocks" 30, glD "block_places" 31, glD "back_steps" 32, glD "parts_leading" 33, glD "halves" 34, meD "__init__" "Machine.__init__" 1, ⟨getr "signs", "signs", "Machine.signs", inClass (topS 37) 9⟩, ⟨getr "states", "states", "Machine.states", inClass (topS 37) 10⟩, meD "rows" "Machine.rows" 11, meD "ends" "Machine.ends" 12, meD "__eq__" "Machine.__eq__" 25, meD "__repr__" "Machine.__repr__" 26, glD "_law_pot" 40, glD "_law_draw" 41, glD "_law_mixed" 43, glD "_law_alpha" 44, glD "_law_model" 45, glD "_law_apart" 46, glD "_law_least" 47, glD "_law_twin" 48, glD "_law_made" 49, glD "_law_is" 50, glD "_law_right" 51, glD "law" 52]
def free1 : List Str := ["isinstance", "str", "len", "all", "any", "zip", "list", "tuple", "dict", "enumerate", "range", "int", "bool", "divmod", "abs", "max", "min", "repr", "sorted"]
def glos : List Str := ["is_integer", "is_list", "is_signs", "is_line", "check_signs", "is_place", "is_row", "check_rows", "check_ends", "least_form", "numbered", "alike_blocks", "first_blocks", "block_places", "back_steps", "parts_leading", "halves"]
def glos2 : List Str := ["_law_pot", "_law_draw", "_law_mixed", "_law_alpha", "_law_model", "_law_apart", "_law_least", "_law_twin", "_law_made", "_law_is", "_law_right", "law", "Machine"]
def propB (K : PySem.W.Frag) (m : Str) : Bool :=
  He.eqO (PySem.W.specialIn K (.ref (me m K)) "__get__") (some (some (.builtin "property.__get__")))
  && (decide (PySem.W.takesIn K (.ref (me m K)) = some true)
  && He.eqO (PySem.W.findIn K (.ref (He.ga K "Machine")) m) (some (some (.ref (me m K)))))
def recB (K : PySem.W.Frag) (m : Str) : Bool := match PySem.W.recIn K (me m K) "property" with
  | some (.ref g :: _) => true
  | _ => false
/-- the constant of the class -/
def moB (K : PySem.W.Frag) (C : Addr) : Bool :=
  PySem.W.readsIn K C (.type "type") && (He.eqO (PySem.W.specialIn K (.ref C) "__getattribute__") (some (some (.builtin "type.__getattribute__"))) && (match PySem.W.findCls K (.ref C) (.type "type") "MOST_STATES" with
    | some (.val (.int i _)) => decide (i = 300)
    | _ => false))
def clsB (K : PySem.W.Frag) (C : Addr) : Bool :=
  He.eqO (PySem.W.findIn K (.ref C) "__class__") (some (some (.builtin "object.__class__")))
  && (decide (PySem.W.mroIn K C (.type "object") = some true)
  && (decide (PySem.W.kitOne K (.ref C) (.ref C) = some true)
  && (FL.kinds.all (fun n => decide (PySem.W.kitOne K (.type n) (.ref C) = some false) && decide (PySem.W.mroIn K C (.type n) = some false))
  && He.eqO (PySem.W.findIn K (.ref C) "__ne__") (some (some (.builtin "object.__ne__"))))))
def exs (K : PySem.W.Frag) : Bool :=
  (glos.all (fun x => (He.Fa.glo x).ok K))
  && ((glos2.all (fun x => (He.Fa.glo x).ok K))
  && ((free1.all (fun x => (He.Fa.free x).ok K))
  && (((He.Fa.str "SIGN_CHARACTERS" signChars).ok K)
  && (((He.Fa.cls "Machine").ok K)
  && (((He.Fa.noat "Machine" "_signs").ok K)
  && (((He.Fa.noat "Machine" "_rows").ok K)
  && (((He.Fa.noat "Machine" "_ends").ok K)
  && (((He.Fa.mkr "Machine").ok K)
  && (((He.Fa.meth "Machine" "rows").ok K)
  && (((He.Fa.meth "Machine" "ends").ok K)
  && (((He.Fa.meth "Machine" "__eq__").ok K)
  && (((He.Fa.meth "Machine" "__repr__").ok K)
  && ((recB K "signs")
  && ((recB K "states")
  && ((propB K "signs")
  && ((propB K "states")
  && ((moB K (He.ga K "Machine"))
  && ((clsB K (He.ga K "Machine"))))))))))))))))))))
def loose1 : List Str := ["_wall", "__name__", "LineError", "InvalidSigns", "InvalidRows", "InvalidEnds", "StateError", "OtherSigns", "LimitError", "TooMany", "SIGN_CHARACTERS", "is_integer", "is_list", "is_signs", "is_line", "check_signs", "check_same_signs", "is_place", "is_row", "check_rows", "check_ends", "EITHER", "BOTH", "ALONE", "least_form"]
def loose2 : List Str := ["numbered", "alike_blocks", "first_blocks", "block_places", "back_steps", "parts_leading", "halves", "paired", "Machine", "machine_of", "_law_pot", "_law_draw", "_law_pick", "_law_mixed", "_law_alpha", "_law_model", "_law_apart", "_law_least", "_law_twin", "_law_made", "_law_is", "_law_right"]
def loose : List Str := loose1 ++ (loose2)
def tbs : Tbs := []
def ads : List Addr := [2, 3, 162, 169, 174, 181, 188, 202, 207, 214, 221, 234, 239, 244, 249, 254, 259, 264, 269, 487, 505, 512, 524, 531, 536, 541, 546, 551, 556, 563, 568, 573, 161, 168, 173, 180, 187, 201, 206, 213, 220, 233, 238, 243, 248, 253, 258, 263, 268, 486, 504, 511, 523, 530, 535, 540, 545, 550, 555, 562, 567, 572, 288, 366, 374, 381, 388, 477, 484, 287, 365, 373, 380, 387, 476, 483, 364, 372]
abbrev hk : PySem.W.Hook := hookA ads defs exs tbs
def ob (s : PySem.W.SharedT) : (Bool × List He.FnV) × List (Option (List (Option (Str × Int)))) := obA ads defs exs tbs (HandSHeadRun.getT s)
end K11
set_option maxHeartbeats 0
namespace K11
open PySem PySem.W PySem.Calls PySem.Spec PyProof.Rows L2 FL
theorem run (w : World) : HandSHeadRun.RunEq R (view R.prog [52]) hk ob 20000 loose w := by
  intro os
  kernel_rfl
end K11
namespace FL
open PySem PySem.Spec PyProof.Rows L2 FL
/-! ### machines: forms, and states that no line tells apart -/
abbrev Rws := List (List Nat)
def nxt (R : Rws) (s a : Nat) : Nat := (R.getD s []).getD a 0
def runM (R : Rws) (s : Nat) (w : List Nat) : Nat := w.foldl (nxt R) s
structure Frm (n m : Nat) (R : Rws) : Prop where
  len : R.length = n
  col : ∀ r ∈ R, r.length = m
  lt : ∀ r ∈ R, ∀ t ∈ r, t < n
def eqvM (R : Rws) (E : List Nat) (m s t : Nat) : Prop := ∀ w : List Nat, (∀ a ∈ w, a < m) → (runM R s w ∈ E ↔ runM R t w ∈ E)
theorem eqvM.refl (R : Rws) (E : List Nat) (m s : Nat) : eqvM R E m s s := fun _ _ => Iff.rfl
theorem eqvM.symm {R : Rws} {E : List Nat} {m s t : Nat} (h : eqvM R E m s t) : eqvM R E m t s := fun w hw => (h w hw).symm
theorem eqvM.trans {R : Rws} {E : List Nat} {m s t u : Nat} (h : eqvM R E m s t) (g : eqvM R E m t u) : eqvM R E m s u := fun w hw => (h w hw).trans (g w hw)
theorem eqvM.ends {R : Rws} {E : List Nat} {m s t : Nat} (h : eqvM R E m s t) : s ∈ E ↔ t ∈ E := h [] (fun _ h => nomatch h)
theorem eqvM.step {R : Rws} {E : List Nat} {m s t a : Nat} (h : eqvM R E m s t) (ha : a < m) : eqvM R E m (nxt R s a) (nxt R t a) := fun w hw => h (a :: w) fun b hb => by
  rcases List.mem_cons.mp hb with rfl | hb
  · exact ha
  · exact hw b hb
theorem Frm.row {n m : Nat} {R : Rws} (h : Frm n m R) {s : Nat} (hs : s < n) : ∃ r, R[s]? = some r ∧ r ∈ R ∧ r.length = m := by
  have hl : s < R.length := by rw [h.len]; exact hs
  exact ⟨R[s], List.getElem?_eq_getElem hl, List.getElem_mem hl, h.col _ (List.getElem_mem hl)⟩
theorem nxt_of {R : Rws} {s a t : Nat} {r : List Nat} (h : R[s]? = some r) (g : r[a]? = some t) : nxt R s a = t := by
  unfold nxt
  rw [List.getD_eq_getElem?_getD, List.getD_eq_getElem?_getD, h]
  show (r[a]?).getD 0 = t
  rw [g]
  rfl
theorem Frm.nxt_lt {n m : Nat} {R : Rws} (h : Frm n m R) {s a : Nat} (hs : s < n) (ha : a < m) : nxt R s a < n := by
  obtain ⟨r, e, mr, l⟩ := h.row hs
  have la : a < r.length := by rw [l]; exact ha
  rw [nxt_of e (List.getElem?_eq_getElem la)]
  exact h.lt r mr _ (List.getElem_mem la)
theorem Frm.run_lt {n m : Nat} {R : Rws} (h : Frm n m R) : ∀ (w : List Nat) {s : Nat}, s < n → (∀ a ∈ w, a < m) → runM R s w < n
  | [], _, hs, _ => hs
  | a :: w, s, hs, hw => h.run_lt w (h.nxt_lt hs (hw a List.mem_cons_self)) fun b hb => hw b (List.mem_cons_of_mem _ hb)
/-- what is stable tells nothing apart -/
theorem eqv_of_stable {n m : Nat} {R : Rws} {E : List Nat} (F : Frm n m R) {wh : Nat → Nat} (he : ∀ s t, s < n → t < n → wh s = wh t → (s ∈ E ↔ t ∈ E)) (hs : ∀ s t, s < n → t < n → wh s = wh t → ∀ a, a < m → wh (nxt R s a) = wh (nxt R t a))
    {s t : Nat} (ls : s < n) (lt : t < n) (e : wh s = wh t) : eqvM R E m s t := fun w => by
  induction w generalizing s t with
  | nil => exact fun _ => he s t ls lt e
  | cons a w ih =>
    intro hw
    have ha := hw a List.mem_cons_self
    exact ih (F.nxt_lt ls ha) (F.nxt_lt lt ha) (hs s t ls lt e a ha) fun b hb => hw b (List.mem_cons_of_mem _ hb)
/-- two forms, their states held together -/
theorem eqv_map {m : Nat} {R R' : Rws} {E E' : List Nat} {P : Nat → Nat → Prop} (hn : ∀ s t, P s t → ∀ a, a < m → P (nxt R s a) (nxt R' t a)) (he : ∀ s t, P s t → (s ∈ E ↔ t ∈ E')) {s s' t t' : Nat} (h : P s t) (h' : P s' t') : eqvM R E m s s' ↔ eqvM R' E' m t t' := by
  have run : ∀ (w : List Nat) {s t : Nat}, P s t → (∀ a ∈ w, a < m) → P (runM R s w) (runM R' t w) := fun w => by
    induction w with
    | nil => exact fun h _ => h
    | cons a w ih => exact fun h hw => ih (hn _ _ h a (hw a List.mem_cons_self)) fun b hb => hw b (List.mem_cons_of_mem _ hb)
  refine ⟨fun q w hw => ?_, fun q w hw => ?_⟩
  · rw [← he _ _ (run w h hw), ← he _ _ (run w h' hw)]
    exact q w hw
  · rw [he _ _ (run w h hw), he _ _ (run w h' hw)]
    exact q w hw
/-! ### numbered as they are met -/
section
variable {σ τ : Type}
def addS (same : σ → σ → Bool) (met : List σ) (s : σ) : List σ := if met.any (fun x => same x s) = true then met else met ++ [s]
def addAll (same : σ → σ → Bool) (met row : List σ) : List σ := row.foldl (addS same) met
inductive BfsM (δ : σ → List σ) (same : σ → σ → Bool) : List σ → Nat → List σ → Prop
  | stop {met : List σ} {k : Nat} : met.length ≤ k → BfsM δ same met k met
  | step {met res : List σ} {k : Nat} {s : σ} : met[k]? = some s → BfsM δ same (addAll same met (δ s)) (k + 1) res → BfsM δ same met k res
def placeM (same : σ → σ → Bool) (met : List σ) (t : σ) : Nat := met.findIdx (fun x => same x t)
def numRows (δ : σ → List σ) (same : σ → σ → Bool) (met : List σ) : Rws := met.map fun s => (δ s).map (placeM same met)
def numEnds (p : σ → Bool) (met : List σ) : List Nat := (List.range met.length).filter fun i => (met[i]?).any p
def IsNum (δ : σ → List σ) (same : σ → σ → Bool) (p : σ → Bool) (s0 : σ) (R : Rws) (E : List Nat) : Prop := ∃ met, BfsM δ same [s0] 0 met ∧ R = numRows δ same met ∧ E = numEnds p met
theorem BfsM.det {δ : σ → List σ} {same : σ → σ → Bool} {met a b : List σ} {k : Nat} (h : BfsM δ same met k a) (g : BfsM δ same met k b) : a = b := by
  induction h with
  | stop l =>
    cases g with
    | stop _ => rfl
    | step e _ =>
      have := (List.getElem?_eq_some_iff.mp e).1
      omega
  | step e _ ih =>
    cases g with
    | stop l =>
      have := (List.getElem?_eq_some_iff.mp e).1
      omega
    | step e' g =>
      rw [e] at e'
      cases e'
      exact ih g
theorem IsNum.det {δ : σ → List σ} {same : σ → σ → Bool} {p : σ → Bool} {s0 : σ} {R R' : Rws} {E E' : List Nat} (h : IsNum δ same p s0 R E) (g : IsNum δ same p s0 R' E') : R = R' ∧ E = E' := by
  obtain ⟨a, h1, rfl, rfl⟩ := h
  obtain ⟨b, g1, rfl, rfl⟩ := g
  rw [h1.det g1]
  exact ⟨rfl, rfl⟩
theorem addAll_pre (same : σ → σ → Bool) : ∀ (row met : List σ), ∃ e, addAll same met row = met ++ e
  | [], met => ⟨[], (List.append_nil _).symm⟩
  | s :: row, met => by
    show ∃ e, addAll same (addS same met s) row = met ++ e
    obtain ⟨e, h⟩ := addAll_pre same row (addS same met s)
    rw [h]
    unfold addS
    split
    · exact ⟨e, rfl⟩
    · exact ⟨s :: e, by rw [List.append_assoc]; rfl⟩
theorem BfsM.pre {δ : σ → List σ} {same : σ → σ → Bool} {met res : List σ} {k : Nat} (h : BfsM δ same met k res) : ∃ e, res = met ++ e := by
  induction h with
  | stop _ => exact ⟨[], (List.append_nil _).symm⟩
  | step e _ ih =>
    obtain ⟨x, hx⟩ := ih
    obtain ⟨y, hy⟩ := addAll_pre same (δ _) _
    exact ⟨y ++ x, by rw [hx, hy, List.append_assoc]⟩
theorem any_append_left {p : σ → Bool} {a b : List σ} (h : a.any p = true) : (a ++ b).any p = true := by
  rw [List.any_append, h]
  rfl
theorem addAll_has {same : σ → σ → Bool} (hr : ∀ s, same s s = true) : ∀ (row met : List σ) (t : σ), t ∈ row → (addAll same met row).any (fun x => same x t) = true
  | s :: row, met, t, h => by
    show (addAll same (addS same met s) row).any (fun x => same x t) = true
    rcases List.mem_cons.mp h with rfl | h
    · obtain ⟨e, he⟩ := addAll_pre same row (addS same met t)
      rw [he]
      refine any_append_left ?_
      unfold addS
      split
      · assumption
      · rw [List.any_append]
        simp [hr]
    · exact addAll_has hr row _ t h
/-- all that the met ones lead to is met -/
theorem BfsM.closed {δ : σ → List σ} {same : σ → σ → Bool} (hr : ∀ s, same s s = true) {met res : List σ} {k : Nat} (h : BfsM δ same met k res) : (∀ i s, i < k → met[i]? = some s → ∀ t ∈ δ s, met.any (fun x => same x t) = true) →
    ∀ s ∈ res, ∀ t ∈ δ s, res.any (fun x => same x t) = true := by
  induction h with
  | stop l =>
    intro c s hs
    obtain ⟨i, hi, rfl⟩ := List.mem_iff_getElem.mp hs
    exact c i _ (by omega) (List.getElem?_eq_getElem hi)
  | @step met res k s0 e _ ih =>
    intro c
    refine ih fun i s hi hs t ht => ?_
    obtain ⟨x, hx⟩ := addAll_pre same (δ s0) met
    have lk := (List.getElem?_eq_some_iff.mp e).1
    rw [hx, List.getElem?_append_left (by omega)] at hs
    by_cases ik : i = k
    · subst ik
      rw [e] at hs
      cases hs
      exact addAll_has hr _ _ t ht
    · rw [hx]
      exact any_append_left (c i s (by omega) hs t ht)
theorem addAll_mem {same : σ → σ → Bool} {Q : σ → Prop} : ∀ (row met : List σ), (∀ s ∈ met, Q s) → (∀ s ∈ row, Q s) → ∀ s ∈ addAll same met row, Q s
  | [], _, h, _ => h
  | s :: row, met, h, g => by
    show ∀ x ∈ addAll same (addS same met s) row, Q x
    refine addAll_mem row _ (fun x hx => ?_) fun x hx => g x (List.mem_cons_of_mem _ hx)
    unfold addS at hx
    split at hx
    · exact h x hx
    · rcases List.mem_append.mp hx with q | q
      · exact h x q
      · rw [List.mem_singleton.mp q]
        exact g s List.mem_cons_self
theorem BfsM.mem {δ : σ → List σ} {same : σ → σ → Bool} {Q : σ → Prop} (hq : ∀ s, Q s → ∀ t ∈ δ s, Q t) {met res : List σ} {k : Nat} (h : BfsM δ same met k res) : (∀ s ∈ met, Q s) → ∀ s ∈ res, Q s := by
  induction h with
  | stop _ => exact id
  | step e _ ih => exact fun c => ih (addAll_mem _ _ c fun t ht => hq _ (c _ (List.mem_of_getElem? e)) t ht)
/-- none is met twice -/
theorem addAll_apart {same : σ → σ → Bool} : ∀ (row met : List σ), met.Pairwise (fun x y => same x y = false) → (addAll same met row).Pairwise (fun x y => same x y = false)
  | [], _, h => h
  | s :: row, met, h => by
    show (addAll same (addS same met s) row).Pairwise _
    refine addAll_apart row _ ?_
    unfold addS
    split
    · exact h
    · rename_i n
      refine List.pairwise_append.mpr ⟨h, List.pairwise_singleton _ _, fun x hx y hy => ?_⟩
      rw [List.mem_singleton.mp hy]
      cases e : same x s with
      | false => rfl
      | true => exact absurd (List.any_eq_true.mpr ⟨x, hx, e⟩) n
theorem BfsM.apart {δ : σ → List σ} {same : σ → σ → Bool} {met res : List σ} {k : Nat} (h : BfsM δ same met k res) : met.Pairwise (fun x y => same x y = false) → res.Pairwise (fun x y => same x y = false) := by
  induction h with
  | stop _ => exact id
  | step _ _ ih => exact fun c => ih (addAll_apart _ _ c)
/-! held together -/
theorem any_sim {R : σ → τ → Prop} {same : σ → σ → Bool} {same' : τ → τ → Bool} (hs : ∀ s t s' t', R s t → R s' t' → same s s' = same' t t') {s : σ} {t : τ} (h : R s t) : ∀ {met : List σ} {met' : List τ}, Paired R met met' → met.any (fun x => same x s) = met'.any (fun x => same' x t) ∧ met.findIdx (fun x => same x s) = met'.findIdx (fun x => same' x t)
  | _, _, .nil => ⟨rfl, rfl⟩
  | _, _, .cons a b => by
    obtain ⟨i1, i2⟩ := any_sim hs h b
    have e := hs _ _ _ _ a h
    refine ⟨?_, ?_⟩
    · rw [List.any_cons, List.any_cons, i1, e]
    · rw [List.findIdx_cons, List.findIdx_cons, i2, e]
theorem paired_snocM {R : σ → τ → Prop} {a : σ} {b : τ} (h : R a b) : ∀ {as : List σ} {bs : List τ}, Paired R as bs → Paired R (as ++ [a]) (bs ++ [b])
  | _, _, .nil => .cons h .nil
  | _, _, .cons x y => .cons x (paired_snocM h y)
theorem addAll_sim {R : σ → τ → Prop} {same : σ → σ → Bool} {same' : τ → τ → Bool} (hs : ∀ s t s' t', R s t → R s' t' → same s s' = same' t t') : ∀ {row : List σ} {row' : List τ}, Paired R row row' → ∀ {met : List σ} {met' : List τ}, Paired R met met' → Paired R (addAll same met row) (addAll same' met' row')
  | _, _, .nil, _, _, h => h
  | _, _, .cons (a := v) (b := w) (l₁ := vs) (l₂ := ws) a b, met, met', h => by
    show Paired R (addAll same (addS same met v) vs) (addAll same' (addS same' met' w) ws)
    refine addAll_sim hs b ?_
    unfold addS
    rw [(any_sim hs a h).1]
    split
    · exact h
    · exact paired_snocM a h
theorem paired_lenM {R : σ → τ → Prop} : ∀ {as : List σ} {bs : List τ}, Paired R as bs → as.length = bs.length
  | _, _, .nil => rfl
  | _, _, .cons _ b => congrArg (· + 1) (paired_lenM b)
theorem paired_getM {R : σ → τ → Prop} : ∀ {as : List σ} {bs : List τ}, Paired R as bs → ∀ {i : Nat} {a : σ}, as[i]? = some a → ∃ b, bs[i]? = some b ∧ R a b
  | _, _, .cons x _, 0, _, e => by
    cases e
    exact ⟨_, rfl, x⟩
  | _, _, .cons _ y, i + 1, _, e => paired_getM y (i := i) e
theorem BfsM.sim {R : σ → τ → Prop} {same : σ → σ → Bool} {same' : τ → τ → Bool} {δ : σ → List σ} {δ' : τ → List τ} (hd : ∀ s t, R s t → Paired R (δ s) (δ' t)) (hs : ∀ s t s' t', R s t → R s' t' → same s s' = same' t t') {met res : List σ} {k : Nat} (h : BfsM δ same met k res) :
    ∀ {met' : List τ}, Paired R met met' → ∃ res', BfsM δ' same' met' k res' ∧ Paired R res res' := by
  induction h with
  | stop l => exact fun p => ⟨_, .stop (by rw [← paired_lenM p]; exact l), p⟩
  | step e _ ih =>
    intro met' p
    obtain ⟨t, et, r⟩ := paired_getM p e
    obtain ⟨res', g, q⟩ := ih (addAll_sim hs (hd _ _ r) p)
    exact ⟨res', .step et g, q⟩
theorem map_sim {α : Type} {R : σ → τ → Prop} {f : σ → α} {g : τ → α} (h : ∀ s t, R s t → f s = g t) : ∀ {as : List σ} {bs : List τ}, Paired R as bs → as.map f = bs.map g
  | _, _, .nil => rfl
  | _, _, .cons a b => by rw [List.map_cons, List.map_cons, h _ _ a, map_sim h b]
theorem IsNum.sim {R : σ → τ → Prop} {same : σ → σ → Bool} {same' : τ → τ → Bool} {δ : σ → List σ} {δ' : τ → List τ} {p : σ → Bool} {p' : τ → Bool} {s0 : σ} {t0 : τ} {F : Rws} {E : List Nat} (hd : ∀ s t, R s t → Paired R (δ s) (δ' t)) (hs : ∀ s t s' t', R s t → R s' t' → same s s' = same' t t')
    (hp : ∀ s t, R s t → p s = p' t) (h0 : R s0 t0) (h : IsNum δ same p s0 F E) : IsNum δ' same' p' t0 F E := by
  obtain ⟨met, b, rfl, rfl⟩ := h
  obtain ⟨met', b', q⟩ := b.sim hd hs (.cons h0 .nil)
  refine ⟨met', b', map_sim (R := R) (f := fun s => (δ s).map (placeM same met)) (g := fun t => (δ' t).map (placeM same' met')) (fun s t r => map_sim (R := R) (f := placeM same met) (g := placeM same' met') (fun s' t' r' => (any_sim hs r' q).2) (hd s t r)) q, ?_⟩
  unfold numEnds
  rw [← paired_lenM q]
  refine List.filter_congr fun i hi => ?_
  have li := List.mem_range.mp hi
  obtain ⟨t, et, r⟩ := paired_getM q (List.getElem?_eq_getElem li)
  rw [List.getElem?_eq_getElem li, et]
  exact hp _ _ r
end
end FL
namespace FL
open PySem PySem.Spec PyProof.Rows L2 FL
/-! ### blocks of states, split -/
structure Pt (n : Nat) (bs : List (List Nat)) (wh : Nat → Nat) : Prop where
  mem : ∀ b blk, bs[b]? = some blk → ∀ s, s ∈ blk ↔ s < n ∧ wh s = b
  lt : ∀ s, s < n → wh s < bs.length
  ne : ∀ blk ∈ bs, blk ≠ []
  nd : ∀ blk ∈ bs, blk.Nodup
def spW (wh : Nat → Nat) (small : List Nat) (nb s : Nat) : Nat := if s ∈ small then nb else wh s
theorem Pt.split {n : Nat} {bs : List (List Nat)} {wh : Nat → Nat} (h : Pt n bs wh) {b : Nat} {B small large : List Nat} (hb : bs[b]? = some B) (hs : ∀ s ∈ small, s ∈ B) (hl : ∀ s, s ∈ large ↔ s ∈ B ∧ s ∉ small) (n1 : small ≠ []) (n2 : large ≠ []) (d1 : small.Nodup) (d2 : large.Nodup) :
    Pt n (bs.set b large ++ [small]) (spW wh small bs.length) := by
  have lb : b < bs.length := (List.getElem?_eq_some_iff.mp hb).1
  have mB := h.mem b B hb
  refine ⟨fun b' blk e s => ?_, fun s hs' => ?_, fun blk m => ?_, fun blk m => ?_⟩
  · unfold spW
    by_cases q : b' < bs.length
    · rw [List.getElem?_append_left (by rw [List.length_set]; exact q)] at e
      by_cases eb : b = b'
      · subst eb
        rw [List.getElem?_set_self lb] at e
        cases e
        rw [hl, mB]
        split
        · rename_i hm
          exact ⟨fun z => absurd hm z.2, fun z => by omega⟩
        · rename_i hm
          exact ⟨fun z => z.1, fun z => ⟨z, hm⟩⟩
      · rw [List.getElem?_set_ne eb] at e
        rw [h.mem b' blk e]
        split
        · rename_i hm
          have := (mB s).mp (hs s hm)
          constructor
          · intro z
            omega
          · intro z
            omega
        · exact Iff.rfl
    · rw [List.getElem?_append_right (by rw [List.length_set]; omega), List.length_set] at e
      have l0 := (List.getElem?_eq_some_iff.mp e).1
      rw [List.length_singleton] at l0
      obtain rfl : b' = bs.length := by omega
      rw [Nat.sub_self] at e
      cases e
      split
      · rename_i hm
        exact ⟨fun _ => ⟨((mB s).mp (hs s hm)).1, rfl⟩, fun _ => hm⟩
      · rename_i hm
        exact ⟨fun z => absurd z hm, fun z => by have := h.lt s z.1; omega⟩
  · unfold spW
    rw [List.length_append, List.length_set, List.length_singleton]
    split
    · omega
    · have := h.lt s hs'
      omega
  · rcases List.mem_append.mp m with q | q
    · rcases List.mem_or_eq_of_mem_set q with q | rfl
      · exact h.ne _ q
      · exact n2
    · rw [List.mem_singleton.mp q]
      exact n1
  · rcases List.mem_append.mp m with q | q
    · rcases List.mem_or_eq_of_mem_set q with q | rfl
      · exact h.nd _ q
      · exact d2
    · rw [List.mem_singleton.mp q]
      exact d1
theorem Pt.heads {n : Nat} {bs : List (List Nat)} {wh : Nat → Nat} (h : Pt n bs wh) : ∃ hs : List Nat, hs.length = bs.length ∧ (∀ s ∈ hs, s < n) ∧ ∀ (i j s t : Nat), hs[i]? = some s → hs[j]? = some t → wh s = wh t → i = j := by
  refine ⟨bs.map fun B => B.headD 0, List.length_map _, fun s hs => ?_, fun i j s t hi hj e => ?_⟩
  · obtain ⟨B, hB, rfl⟩ := List.mem_map.mp hs
    obtain ⟨i, hi, rfl⟩ := List.mem_iff_getElem.mp hB
    have ne := h.ne _ hB
    match e : bs[i], ne with
    | x :: xs, _ => exact ((h.mem i _ (by rw [List.getElem?_eq_getElem hi, e]) x).mp List.mem_cons_self).1
  · have key : ∀ {i : Nat} {s : Nat}, (bs.map fun B => B.headD 0)[i]? = some s → wh s = i := fun {i s} q => by
      rw [List.getElem?_map, Option.map_eq_some_iff] at q
      obtain ⟨B, hB, rfl⟩ := q
      have ne := h.ne _ (List.mem_of_getElem? hB)
      match B, hB, ne with
      | x :: xs, hB, _ => exact ((h.mem i _ hB x).mp List.mem_cons_self).2
    rw [← key hi, ← key hj, e]
/-- so many blocks as states that are told apart -/
theorem Pt.few {n most : Nat} {bs : List (List Nat)} {wh : Nat → Nat} {eq : Nat → Nat → Prop} (h : Pt n bs wh) (co : ∀ s t, s < n → t < n → eq s t → wh s = wh t) (hm : ∀ l : List Nat, (∀ s ∈ l, s < n) → l.Pairwise (fun s t => ¬ eq s t) → l.length ≤ most) : bs.length ≤ most := by
  obtain ⟨hs, l, lt, ap⟩ := h.heads
  rw [← l]
  refine hm hs lt (List.pairwise_iff_getElem.mpr fun i j hi hj ij q => ?_)
  have := ap i j _ _ (List.getElem?_eq_getElem hi) (List.getElem?_eq_getElem hj) (co _ _ (lt _ (List.getElem_mem hi)) (lt _ (List.getElem_mem hj)) q)
  omega
section
variable {n m : Nat} {R : Rws} {E : List Nat}
def StbM (n m : Nat) (R : Rws) (r : Nat → Nat) (S : List Nat) : Prop := ∀ s t, s < n → t < n → r s = r t → ∀ a, a < m → (nxt R s a ∈ S ↔ nxt R t a ∈ S)
/-- what waits to be used, and what is used just now, is enough -/
def HInv (n m : Nat) (R : Rws) (bs : List (List Nat)) (wh : Nat → Nat) (W C : List Nat) : Prop := ∀ r : Nat → Nat, (∀ s t, s < n → t < n → r s = r t → wh s = wh t) → (∀ b ∈ W, ∀ blk, bs[b]? = some blk → StbM n m R r blk) → StbM n m R r C → ∀ blk ∈ bs, StbM n m R r blk
theorem StbM.nil (r : Nat → Nat) : StbM n m R r [] := fun _ _ _ _ _ _ _ => ⟨(fun h => nomatch h), (fun h => nomatch h)⟩
theorem HInv.start {bs : List (List Nat)} {wh : Nat → Nat} : HInv n m R bs wh (List.range bs.length) [] := fun r _ h _ blk hb => by
  obtain ⟨i, hi, rfl⟩ := List.mem_iff_getElem.mp hb
  exact h i (List.mem_range.mpr hi) _ (List.getElem?_eq_getElem hi)
theorem HInv.pop {bs : List (List Nat)} {wh : Nat → Nat} {W C : List Nat} {c : Nat} (h : HInv n m R bs wh (W ++ [c]) []) (hc : bs[c]? = some C) : HInv n m R bs wh W C := fun r h1 h2 h3 => h r h1 (fun b hb blk e => by
  rcases List.mem_append.mp hb with q | q
  · exact h2 b q blk e
  · rw [List.mem_singleton.mp q, hc] at e
    cases e
    exact h3) (StbM.nil r)
theorem HInv.done {bs : List (List Nat)} {wh : Nat → Nat} {W C : List Nat} (h : HInv n m R bs wh W C) (st : StbM n m R wh C) : HInv n m R bs wh W [] := fun r h1 h2 _ => h r h1 h2 fun s t hs ht e a ha => st s t hs ht (h1 s t hs ht e) a ha
theorem HInv.split {bs : List (List Nat)} {wh : Nat → Nat} {W C : List Nat} (F : Frm n m R) (p : Pt n bs wh) (h : HInv n m R bs wh W C) {b : Nat} {B small large : List Nat} (hb : bs[b]? = some B) (hs : ∀ s ∈ small, s ∈ B) (hl : ∀ s, s ∈ large ↔ s ∈ B ∧ s ∉ small) :
    HInv n m R (bs.set b large ++ [small]) (spW wh small bs.length) (W ++ [bs.length]) C := fun r h1 h2 h3 => by
  have lb : b < bs.length := (List.getElem?_eq_some_iff.mp hb).1
  have mB := p.mem b B hb
  have gs : (bs.set b large ++ [small])[bs.length]? = some small := by
    rw [List.getElem?_append_right (by rw [List.length_set]; exact Nat.le_refl _), List.length_set, Nat.sub_self]
    rfl
  have gb : (bs.set b large ++ [small])[b]? = some large := by
    rw [List.getElem?_append_left (by rw [List.length_set]; exact lb), List.getElem?_set_self lb]
  have go : ∀ b', b' < bs.length → b ≠ b' → (bs.set b large ++ [small])[b']? = bs[b']? := fun b' l q => by
    rw [List.getElem?_append_left (by rw [List.length_set]; exact l), List.getElem?_set_ne q]
  have sS := h2 bs.length (List.mem_append_right _ (List.mem_singleton.mpr rfl)) _ gs
  have ref : ∀ s t, s < n → t < n → r s = r t → wh s = wh t := fun s t ls lt e => by
    have q := h1 s t ls lt e
    unfold spW at q
    have l1 := p.lt s ls
    have l2 := p.lt t lt
    split at q
    · split at q
      · rename_i m1 m2
        rw [((mB s).mp (hs s m1)).2, ((mB t).mp (hs t m2)).2]
      · omega
    · split at q
      · omega
      · exact q
  have two : StbM n m R r large → StbM n m R r B := fun sL s t ls lt e a ha => by
    have q1 := sS s t ls lt e a ha
    have q2 := sL s t ls lt e a ha
    rw [hl, hl] at q2
    have i1 := hs (nxt R s a)
    have i2 := hs (nxt R t a)
    constructor
    · intro z
      by_cases c : nxt R s a ∈ small
      · exact i2 (q1.mp c)
      · exact (q2.mp ⟨z, c⟩).1
    · intro z
      by_cases c : nxt R t a ∈ small
      · exact i1 (q1.mpr c)
      · exact (q2.mpr ⟨z, c⟩).1
  have old := h r ref (fun b' hb' blk e => by
    by_cases eb : b = b'
    · subst eb
      rw [hb] at e
      cases e
      exact two (h2 b (List.mem_append_left _ hb') large gb)
    · have l := (List.getElem?_eq_some_iff.mp e).1
      exact h2 b' (List.mem_append_left _ hb') blk (by rw [go b' l eb]; exact e)) h3
  have sB := old B (List.mem_of_getElem? hb)
  have sL : StbM n m R r large := fun s t ls lt e a ha => by
    rw [hl, hl, sB s t ls lt e a ha, sS s t ls lt e a ha]
  intro blk hblk
  rcases List.mem_append.mp hblk with q | q
  · rcases List.mem_or_eq_of_mem_set q with q | rfl
    · exact old blk q
    · exact sL
  · rw [List.mem_singleton.mp q]
    exact sS
/-! ### all splits by one sign -/
/-- the states of a block that lead into C -/
def PartIs (n : Nat) (R : Rws) (wh : Nat → Nat) (C : List Nat) (a b : Nat) (part : List Nat) : Prop := part ≠ [] ∧ part.Nodup ∧ ∀ s, s ∈ part ↔ s < n ∧ wh s = b ∧ nxt R s a ∈ C
structure Ph (n m : Nat) (R : Rws) (E C : List Nat) (a : Nat) (bs : List (List Nat)) (wh : Nat → Nat) (W : List Nat) (parts : List (List Nat)) (ids : List Nat) : Prop where
  pt : Pt n bs wh
  co : ∀ s t, s < n → t < n → eqvM R E m s t → wh s = wh t
  hi : HInv n m R bs wh W C
  ps : Paired (PartIs n R wh C a) ids parts
  nd : ids.Nodup
  sb : ∀ s t, s < n → t < n → wh s = wh t → nxt R s a ∈ C → nxt R t a ∈ C ∨ ∃ part ∈ parts, s ∈ part
  en : ∀ s t, s < n → t < n → wh s = wh t → (s ∈ E ↔ t ∈ E)
theorem Ph.stable {C : List Nat} {a : Nat} {bs : List (List Nat)} {wh : Nat → Nat} {W : List Nat} (h : Ph n m R E C a bs wh W [] []) : ∀ s t, s < n → t < n → wh s = wh t → (nxt R s a ∈ C ↔ nxt R t a ∈ C) := fun s t ls lt e =>
  ⟨fun q => (h.sb s t ls lt e q).resolve_right (fun ⟨_, z, _⟩ => nomatch z), fun q => (h.sb t s lt ls e.symm q).resolve_right (fun ⟨_, z, _⟩ => nomatch z)⟩
/-- a part that is a whole block -/
theorem Ph.skip {C : List Nat} {a b : Nat} {bs : List (List Nat)} {wh : Nat → Nat} {W part B ids : List Nat} {parts : List (List Nat)} (h : Ph n m R E C a bs wh W (part :: parts) (b :: ids)) (hb : bs[b]? = some B) (l : ∀ s ∈ B, s ∈ part) : Ph n m R E C a bs wh W parts ids := by
  cases h.ps with
  | cons p ps =>
    refine ⟨h.pt, h.co, h.hi, ps, (List.nodup_cons.mp h.nd).2, fun s t ls lt e q => ?_, h.en⟩
    rcases h.sb s t ls lt e q with z | ⟨q', m', i⟩
    · exact .inl z
    · rcases List.mem_cons.mp m' with rfl | m'
      · refine .inl ((p.2.2 t).mp (l t ((h.pt.mem b B hb t).mpr ⟨lt, ?_⟩))).2.2
        rw [← e]
        exact ((p.2.2 s).mp i).2.1
      · exact .inr ⟨q', m', i⟩
/-- a part that is split off -/
theorem Ph.split {C : List Nat} {a b : Nat} {bs : List (List Nat)} {wh : Nat → Nat} {W part B ids small large rest : List Nat} {parts : List (List Nat)} (F : Frm n m R) (ha : a < m) (cC : ∀ s t, s < n → t < n → eqvM R E m s t → (s ∈ C ↔ t ∈ C)) (h : Ph n m R E C a bs wh W (part :: parts) (b :: ids)) (hb : bs[b]? = some B)
    (hr : ∀ s, s ∈ rest ↔ s ∈ B ∧ s ∉ part) (nr : rest ≠ []) (dr : rest.Nodup) (sl : (small = part ∧ large = rest) ∨ (small = rest ∧ large = part)) :
    Ph n m R E C a (bs.set b large ++ [small]) (spW wh small bs.length) (W ++ [bs.length]) parts ids := by
  have lb : b < bs.length := (List.getElem?_eq_some_iff.mp hb).1
  have mB := h.pt.mem b B hb
  cases h.ps with
  | cons p ps =>
  obtain ⟨np, dp, mp⟩ := p
  have pB : ∀ s ∈ part, s ∈ B := fun s q => (mB s).mpr ⟨((mp s).mp q).1, ((mp s).mp q).2.1⟩
  have hs : ∀ s ∈ small, s ∈ B := by
    rcases sl with ⟨rfl, rfl⟩ | ⟨rfl, rfl⟩
    · exact pB
    · exact fun s q => ((hr s).mp q).1
  have hl : ∀ s, s ∈ large ↔ s ∈ B ∧ s ∉ small := by
    rcases sl with ⟨rfl, rfl⟩ | ⟨rfl, rfl⟩
    · exact hr
    · intro s
      rw [hr]
      constructor
      · exact fun q => ⟨pB s q, fun z => z.2 q⟩
      · intro q
        by_cases c : s ∈ large
        · exact c
        · exact absurd ⟨q.1, c⟩ q.2
  have n1 : small ≠ [] ∧ small.Nodup ∧ large ≠ [] ∧ large.Nodup := by
    rcases sl with ⟨rfl, rfl⟩ | ⟨rfl, rfl⟩
    · exact ⟨np, dp, nr, dr⟩
    · exact ⟨nr, dr, np, dp⟩
  have ptN := h.pt.split hb hs hl n1.1 n1.2.2.1 n1.2.1 n1.2.2.2
  have wS : ∀ s, s ∈ small → wh s = b := fun s q => ((mB s).mp (hs s q)).2
  have ref : ∀ s t, s < n → t < n → spW wh small bs.length s = spW wh small bs.length t → wh s = wh t ∧ (s ∈ small ↔ t ∈ small) := fun s t ls lt q => by
    unfold spW at q
    have l1 := h.pt.lt s ls
    have l2 := h.pt.lt t lt
    split at q
    · split at q
      · rename_i m1 m2
        exact ⟨by rw [wS s m1, wS t m2], fun _ => m2, fun _ => m1⟩
      · omega
    · split at q
      · omega
      · rename_i m1 m2
        exact ⟨q, fun z => absurd z m1, fun z => absurd z m2⟩
  have clP : ∀ s t, s < n → t < n → eqvM R E m s t → (s ∈ part → t ∈ part) := fun s t ls lt q i => by
    obtain ⟨_, i1, i2⟩ := (mp s).mp i
    exact (mp t).mpr ⟨lt, by rw [← h.co s t ls lt q]; exact i1, (cC _ _ (F.nxt_lt ls ha) (F.nxt_lt lt ha) (q.step ha)).mp i2⟩
  have clS : ∀ s t, s < n → t < n → eqvM R E m s t → (s ∈ small → t ∈ small) := fun s t ls lt q i => by
    rcases sl with ⟨rfl, rfl⟩ | ⟨rfl, rfl⟩
    · exact clP s t ls lt q i
    · obtain ⟨i1, i2⟩ := (hr s).mp i
      exact (hr t).mpr ⟨(mB t).mpr ⟨lt, by rw [← h.co s t ls lt q]; exact ((mB s).mp i1).2⟩, fun z => i2 (clP t s lt ls q.symm z)⟩
  obtain ⟨nb, ndI⟩ := List.nodup_cons.mp h.nd
  refine ⟨ptN, fun s t ls lt q => ?_, h.hi.split F h.pt hb hs hl, ?_, ndI, fun s t ls lt e q => ?_, fun s t ls lt e => h.en s t ls lt (ref s t ls lt e).1⟩
  · unfold spW
    rw [h.co s t ls lt q]
    by_cases i : s ∈ small
    · rw [if_pos i, if_pos (clS s t ls lt q i)]
    · rw [if_neg i, if_neg fun z => i (clS t s lt ls q.symm z)]
  · have key : ∀ {is : List Nat} {ps : List (List Nat)}, Paired (PartIs n R wh C a) is ps → (∀ b' ∈ is, b' ≠ b) → Paired (PartIs n R (spW wh small bs.length) C a) is ps := fun {is ps} q => by
      induction q with
      | nil => exact fun _ => .nil
      | @cons b' _ _ _ x _ ih =>
        intro hne
        refine .cons ⟨x.1, x.2.1, fun s => ?_⟩ (ih fun b' hb' => hne b' (List.mem_cons_of_mem _ hb'))
        have nb' := hne _ List.mem_cons_self
        obtain ⟨s0, hs0⟩ := List.exists_mem_of_ne_nil _ x.1
        have lb' : b' < bs.length := by
          have z := (x.2.2 s0).mp hs0
          rw [← z.2.1]
          exact h.pt.lt s0 z.1
        rw [x.2.2 s]
        unfold spW
        split
        · rename_i i
          have := wS s i
          constructor
          · intro z
            omega
          · intro z
            omega
        · exact Iff.rfl
    exact key ps fun b' hb' e => nb (by rw [← e]; exact hb')
  · obtain ⟨ew, es⟩ := ref s t ls lt e
    rcases h.sb s t ls lt ew q with z | ⟨q', m', i⟩
    · exact .inl z
    · rcases List.mem_cons.mp m' with rfl | m'
      · refine .inl ?_
        obtain ⟨_, i1, i2⟩ := (mp s).mp i
        have tB : t ∈ B := (mB t).mpr ⟨lt, by rw [← ew]; exact i1⟩
        rcases sl with ⟨rfl, rfl⟩ | ⟨rfl, rfl⟩
        · exact ((mp t).mp (es.mp i)).2.2
        · by_cases c : t ∈ large
          · exact ((mp t).mp c).2.2
          · exact absurd i ((hr s).mp (es.mpr ((hr t).mpr ⟨tB, c⟩))).2
      · exact .inr ⟨q', m', i⟩
/-- nothing waits any more: the blocks are the states that no line tells apart -/
theorem HInv.final {bs : List (List Nat)} {wh : Nat → Nat} (F : Frm n m R) (p : Pt n bs wh) (co : ∀ s t, s < n → t < n → eqvM R E m s t → wh s = wh t) (en : ∀ s t, s < n → t < n → wh s = wh t → (s ∈ E ↔ t ∈ E)) (h : HInv n m R bs wh [] []) {s t : Nat} (ls : s < n) (lt : t < n) : wh s = wh t ↔ eqvM R E m s t := by
  refine ⟨fun e => eqv_of_stable F en (fun s t ls lt e a ha => ?_) ls lt e, co s t ls lt⟩
  have st := h wh (fun _ _ _ _ e => e) (fun _ hb => nomatch hb) (StbM.nil _)
  have l := p.lt _ (F.nxt_lt ls ha)
  have q := st _ (List.getElem_mem l) s t ls lt e a ha
  have mm := p.mem _ _ (List.getElem?_eq_getElem l)
  exact ((mm _).mp (q.mp ((mm _).mpr ⟨F.nxt_lt ls ha, rfl⟩))).2.symm
end
end FL
namespace FL
open PySem PySem.Spec PyProof.Rows L2 FL
/-! ### the least form -/
def rowOf (R : Rws) (s : Nat) : List Nat := R.getD s []
noncomputable def sameN (R : Rws) (E : List Nat) (m s t : Nat) : Bool := @decide (eqvM R E m s t) (Classical.propDecidable _)
theorem sameN_iff {R : Rws} {E : List Nat} {m s t : Nat} : sameN R E m s t = true ↔ eqvM R E m s t := by
  unfold sameN
  exact @decide_eq_true_iff _ (Classical.propDecidable _)
def LeastF (R : Rws) (E : List Nat) (m : Nat) (R' : Rws) (E' : List Nat) : Prop := IsNum (rowOf R) (sameN R E m) (fun s => decide (s ∈ E)) 0 R' E'
def beqN (s t : Nat) : Bool := s == t
theorem LeastF.det {R : Rws} {E : List Nat} {m : Nat} {A B : Rws} {a b : List Nat} (h : LeastF R E m A a) (g : LeastF R E m B b) : A = B ∧ a = b := IsNum.det h g
theorem Frm.rowOf {n m : Nat} {R : Rws} (h : Frm n m R) {s : Nat} (hs : s < n) : R[s]? = some (rowOf R s) ∧ (rowOf R s).length = m ∧ ∀ a, a < m → (rowOf R s)[a]? = some (nxt R s a) := by
  obtain ⟨r, e, _, l⟩ := h.row hs
  have er : FL.rowOf R s = r := by
    unfold FL.rowOf
    rw [List.getD_eq_getElem?_getD, e]
    rfl
  rw [er]
  refine ⟨e, l, fun a ha => ?_⟩
  have la : a < r.length := by rw [l]; exact ha
  rw [List.getElem?_eq_getElem la, nxt_of e (List.getElem?_eq_getElem la)]
theorem paired_of_get {σ τ : Type} {P : σ → τ → Prop} : ∀ {as : List σ} {bs : List τ}, as.length = bs.length → (∀ (i : Nat) (a : σ) (b : τ), as[i]? = some a → bs[i]? = some b → P a b) → Paired P as bs
  | [], [], _, _ => .nil
  | a :: as, b :: bs, l, h => .cons (h 0 a b rfl rfl) (paired_of_get (by simpa using l) fun i x y e g => h (i + 1) x y e g)
/-- two rows of two forms -/
theorem rows_paired {n n' m : Nat} {R R' : Rws} {P : Nat → Nat → Prop} (F : Frm n m R) (F' : Frm n' m R') {s t : Nat} (hs : s < n) (ht : t < n') (h : ∀ a, a < m → P (nxt R s a) (nxt R' t a)) : Paired P (rowOf R s) (rowOf R' t) := by
  obtain ⟨_, l1, g1⟩ := F.rowOf hs
  obtain ⟨_, l2, g2⟩ := F'.rowOf ht
  refine paired_of_get (by rw [l1, l2]) fun i a b ea eb => ?_
  have hi : i < m := by rw [← l1]; exact (List.getElem?_eq_some_iff.mp ea).1
  rw [g1 i hi] at ea
  rw [g2 i hi] at eb
  cases ea
  cases eb
  exact h i hi
theorem mem_numEnds {σ : Type} {p : σ → Bool} {met : List σ} {i : Nat} {s : σ} (e : met[i]? = some s) : i ∈ numEnds p met ↔ p s = true := by
  unfold numEnds
  rw [List.mem_filter, List.mem_range, e]
  exact ⟨fun h => h.2, fun h => ⟨(List.getElem?_eq_some_iff.mp e).1, h⟩⟩
theorem numEnds_lt {σ : Type} {p : σ → Bool} {met : List σ} {i : Nat} (h : i ∈ numEnds p met) : i < met.length := List.mem_range.mp (List.mem_filter.mp h).1
theorem numEnds_sorted {σ : Type} (p : σ → Bool) (met : List σ) : (numEnds p met).Pairwise (· < ·) := List.pairwise_lt_range.sublist List.filter_sublist
section
variable {σ : Type} {n m : Nat} {R : Rws}
theorem place_get {same : σ → σ → Bool} {met : List σ} {t : σ} (h : met.any (fun x => same x t) = true) : ∃ x, met[placeM same met t]? = some x ∧ same x t = true := by
  have l : placeM same met t < met.length := List.findIdx_lt_length.mpr (by
    obtain ⟨x, hx, e⟩ := List.any_eq_true.mp h
    exact ⟨x, hx, e⟩)
  exact ⟨_, List.getElem?_eq_getElem l, List.findIdx_getElem (w := l)⟩
/-- the rows of what was met -/
theorem num_nxt {same : Nat → Nat → Bool} {met : List Nat} {p s a : Nat} (F : Frm n m R) (hs : s < n) (e : met[p]? = some s) (ha : a < m) : nxt (numRows (rowOf R) same met) p a = placeM same met (nxt R s a) := by
  refine nxt_of (r := (rowOf R s).map (placeM same met)) ?_ ?_
  · unfold numRows
    rw [List.getElem?_map, e]
    rfl
  · rw [List.getElem?_map, (F.rowOf hs).2.2 a ha]
    rfl
theorem num_frm {same : Nat → Nat → Bool} {met : List Nat} (F : Frm n m R) (lt : ∀ s ∈ met, s < n) (cl : ∀ s ∈ met, ∀ t ∈ rowOf R s, met.any (fun x => same x t) = true) : Frm met.length m (numRows (rowOf R) same met) := by
  refine ⟨by unfold numRows; rw [List.length_map], fun r hr => ?_, fun r hr t ht => ?_⟩
  · obtain ⟨s, hs, rfl⟩ := List.mem_map.mp hr
    rw [List.length_map]
    exact (F.rowOf (lt s hs)).2.1
  · obtain ⟨s, hs, rfl⟩ := List.mem_map.mp hr
    obtain ⟨u, hu, rfl⟩ := List.mem_map.mp ht
    obtain ⟨x, ex, _⟩ := place_get (cl s hs u hu)
    exact (List.getElem?_eq_some_iff.mp ex).1
theorem row_lt (F : Frm n m R) {s : Nat} (hs : s < n) : ∀ t ∈ rowOf R s, t < n := fun t ht => F.lt _ (List.mem_of_getElem? (F.rowOf hs).1) t ht
structure Met (n m : Nat) (R : Rws) (E : List Nat) (same : Nat → Nat → Bool) (met : List Nat) : Prop where
  lt : ∀ s ∈ met, s < n
  cl : ∀ s ∈ met, ∀ t ∈ rowOf R s, met.any (fun x => same x t) = true
  z : met[0]? = some 0
  ap : met.Pairwise (fun x y => same x y = false)
theorem met_of {E : List Nat} {same : Nat → Nat → Bool} {met : List Nat} (F : Frm n m R) (n0 : 0 < n) (hr : ∀ s, same s s = true) (h : BfsM (rowOf R) same [0] 0 met) : Met n m R E same met := by
  refine ⟨?_, h.closed hr (fun i s hi => absurd hi (Nat.not_lt_zero _)), ?_, h.apart (List.pairwise_singleton _ _)⟩
  · refine h.mem (Q := fun s => s < n) (fun s hs t ht => row_lt F hs t ht) fun s hs => ?_
    rw [List.mem_singleton.mp hs]
    exact n0
  · obtain ⟨e, he⟩ := h.pre
    rw [he]
    rfl
end
/-- what is met, in the place of what it stands for -/
def Stands (R : Rws) (E : List Nat) (m : Nat) (met : List Nat) (p s : Nat) : Prop := ∃ x, met[p]? = some x ∧ eqvM R E m x s
section
variable {n m : Nat} {R : Rws} {E : List Nat} {same : Nat → Nat → Bool} {met : List Nat}
theorem stands_nxt (F : Frm n m R) (M : Met n m R E same met) (hs : ∀ s t, same s t = true → eqvM R E m s t) {p s : Nat} (h : Stands R E m met p s) {a : Nat} (ha : a < m) : Stands R E m met (nxt (numRows (rowOf R) same met) p a) (nxt R s a) := by
  obtain ⟨x, ex, q⟩ := h
  have mx := List.mem_of_getElem? ex
  rw [num_nxt F (M.lt x mx) ex ha]
  obtain ⟨y, ey, qy⟩ := place_get (M.cl x mx _ (List.mem_of_getElem? ((F.rowOf (M.lt x mx)).2.2 a ha)))
  exact ⟨y, ey, (hs _ _ qy).trans (q.step ha)⟩
theorem stands_end {p s : Nat} (h : Stands R E m met p s) : p ∈ numEnds (fun s => decide (s ∈ E)) met ↔ s ∈ E := by
  obtain ⟨x, ex, q⟩ := h
  rw [mem_numEnds ex, decide_eq_true_iff]
  exact q.ends
/-- the form of what is met tells the same apart -/
theorem stands_eqv (F : Frm n m R) (M : Met n m R E same met) (hs : ∀ s t, same s t = true → eqvM R E m s t) {p s p' s' : Nat} (h : Stands R E m met p s) (h' : Stands R E m met p' s') : eqvM (numRows (rowOf R) same met) (numEnds (fun s => decide (s ∈ E)) met) m p p' ↔ eqvM R E m s s' :=
  eqv_map (P := Stands R E m met) (fun _ _ q _ ha => stands_nxt F M hs q ha) (fun _ _ q => stands_end q) h h'
theorem stands_run (F : Frm n m R) (M : Met n m R E same met) (hs : ∀ s t, same s t = true → eqvM R E m s t) : ∀ (w : List Nat) {p s : Nat}, Stands R E m met p s → (∀ a ∈ w, a < m) → Stands R E m met (runM (numRows (rowOf R) same met) p w) (runM R s w)
  | [], _, _, h, _ => h
  | a :: w, p, s, h, hw => stands_run F M hs w (stands_nxt F M hs h (hw a List.mem_cons_self)) fun b hb => hw b (List.mem_cons_of_mem _ hb)
theorem stands_zero (M : Met n m R E same met) : Stands R E m met 0 0 := ⟨0, M.z, eqvM.refl _ _ _ _⟩
end
theorem beq_eqv {R : Rws} {E : List Nat} {m : Nat} : ∀ s t, beqN s t = true → eqvM R E m s t := fun s t h => by
  have : s = t := by simpa [beqN] using h
  rw [this]
  exact eqvM.refl _ _ _ _
/-- a form, numbered anew, has the same least form -/
theorem least_num {n m : Nat} {R R' : Rws} {E E' : List Nat} {same : Nat → Nat → Bool} {met : List Nat} (F : Frm n m R) (n0 : 0 < n) (M : Met n m R E same met) (hs : ∀ s t, same s t = true → eqvM R E m s t) : LeastF (numRows (rowOf R) same met) (numEnds (fun s => decide (s ∈ E)) met) m R' E' ↔ LeastF R E m R' E' := by
  have F1 := num_frm F M.lt M.cl
  have ltn : ∀ {p s : Nat}, Stands R E m met p s → p < met.length := fun ⟨_, e, _⟩ => (List.getElem?_eq_some_iff.mp e).1
  have bool : ∀ {a b : Bool}, (a = true ↔ b = true) → a = b := fun {a b} h => by cases a <;> cases b <;> simp_all
  have sE : ∀ p s p' s', Stands R E m met p s → Stands R E m met p' s' → sameN (numRows (rowOf R) same met) (numEnds (fun s => decide (s ∈ E)) met) m p p' = sameN R E m s s' := fun p s p' s' h h' => bool (by rw [sameN_iff, sameN_iff]; exact stands_eqv F M hs h h')
  have pE : ∀ p s, Stands R E m met p s → decide (p ∈ numEnds (fun s => decide (s ∈ E)) met) = decide (s ∈ E) := fun p s h => bool (by rw [decide_eq_true_iff, decide_eq_true_iff]; exact stands_end h)
  constructor
  · intro h
    refine IsNum.sim (R := fun p s => s < n ∧ Stands R E m met p s) (fun p s q => ?_) (fun p s p' s' q q' => sE p s p' s' q.2 q'.2) (fun p s q => pE p s q.2) ⟨n0, stands_zero M⟩ h
    exact rows_paired F1 F (ltn q.2) q.1 fun a ha => ⟨F.nxt_lt q.1 ha, stands_nxt F M hs q.2 ha⟩
  · intro h
    refine IsNum.sim (R := fun s p => s < n ∧ Stands R E m met p s) (fun s p q => ?_) (fun s p s' p' q q' => (sE p s p' s' q.2 q'.2).symm) (fun s p q => (pE p s q.2).symm) ⟨n0, stands_zero M⟩ h
    exact rows_paired F F1 q.1 (ltn q.2) fun a ha => ⟨F.nxt_lt q.1 ha, stands_nxt F M hs q.2 ha⟩
/-- the least form is its own least form -/
theorem LeastF.met {n m : Nat} {R R' : Rws} {E E' : List Nat} (F : Frm n m R) (n0 : 0 < n) (h : LeastF R E m R' E') : ∃ met, Met n m R E (sameN R E m) met ∧ R' = numRows (rowOf R) (sameN R E m) met ∧ E' = numEnds (fun s => decide (s ∈ E)) met := by
  obtain ⟨met, b, e1, e2⟩ := h
  exact ⟨met, met_of F n0 (fun s => sameN_iff.mpr (eqvM.refl _ _ _ _)) b, e1, e2⟩
theorem LeastF.self {n m : Nat} {R R' : Rws} {E E' : List Nat} (F : Frm n m R) (n0 : 0 < n) (h : LeastF R E m R' E') : LeastF R' E' m R' E' := by
  obtain ⟨met, M, e1, e2⟩ := h.met F n0
  have := (least_num (R' := R') (E' := E') F n0 M (fun s t => sameN_iff.mp)).mpr h
  rw [← e1, ← e2] at this
  exact this
theorem LeastF.acc {n m : Nat} {R R' : Rws} {E E' : List Nat} (F : Frm n m R) (n0 : 0 < n) (h : LeastF R E m R' E') (w : List Nat) (hw : ∀ a ∈ w, a < m) : runM R' 0 w ∈ E' ↔ runM R 0 w ∈ E := by
  obtain ⟨met, M, e1, e2⟩ := h.met F n0
  rw [e1, e2]
  exact stands_end (stands_run F M (fun s t => sameN_iff.mp) w (stands_zero M) hw)
theorem LeastF.frm {n m : Nat} {R R' : Rws} {E E' : List Nat} (F : Frm n m R) (n0 : 0 < n) (h : LeastF R E m R' E') : ∃ k, 0 < k ∧ Frm k m R' ∧ (∀ e ∈ E', e < k) ∧ E'.Pairwise (· < ·) := by
  obtain ⟨met, M, e1, e2⟩ := h.met F n0
  rw [e1, e2]
  exact ⟨met.length, (List.getElem?_eq_some_iff.mp M.z).1, num_frm F M.lt M.cl, fun e he => numEnds_lt he, numEnds_sorted _ _⟩
/-- the least form by blocks of states -/
theorem least_blocks {n m : Nat} {R R' BR : Rws} {E E' BE : List Nat} {bs : List (List Nat)} {wh : Nat → Nat} (F : Frm n m R) (n0 : 0 < n) (p : Pt n bs wh) (ok : ∀ s t, s < n → t < n → (wh s = wh t ↔ eqvM R E m s t)) (er : BR = bs.map fun B => (rowOf R (B.headD 0)).map wh) (ee : ∀ b B, bs[b]? = some B → (b ∈ BE ↔ B.headD 0 ∈ E))
    (h : IsNum (rowOf BR) beqN (fun b => decide (b ∈ BE)) (wh 0) R' E') : LeastF R E m R' E' := by
  have bool : ∀ {a b : Bool}, (a = true ↔ b = true) → a = b := fun {a b} h => by cases a <;> cases b <;> simp_all
  have blk : ∀ s, s < n → ∃ B x, bs[wh s]? = some B ∧ B.headD 0 = x ∧ x < n ∧ wh x = wh s := fun s hs => by
    have l := p.lt s hs
    have e := List.getElem?_eq_getElem l
    have ne := p.ne _ (List.getElem_mem l)
    match eB : bs[wh s], ne with
    | x :: xs, _ =>
      rw [eB] at e
      have := (p.mem _ _ e x).mp List.mem_cons_self
      exact ⟨_, x, e, rfl, this.1, this.2⟩
  refine IsNum.sim (R := fun b s => s < n ∧ wh s = b) (fun b s q => ?_) (fun b s b' s' q q' => ?_) (fun b s q => ?_) ⟨n0, rfl⟩ h
  · obtain ⟨hs, rfl⟩ := q
    obtain ⟨B, x, eB, eh, hx, ex⟩ := blk s hs
    have e1 : rowOf BR (wh s) = (rowOf R x).map wh := by
      unfold rowOf
      rw [List.getD_eq_getElem?_getD, er, List.getElem?_map, eB]
      show (rowOf R (B.headD 0)).map wh = _
      rw [eh]
      rfl
    rw [e1]
    obtain ⟨_, l1, g1⟩ := F.rowOf hx
    obtain ⟨_, l2, g2⟩ := F.rowOf hs
    refine paired_of_get (by rw [List.length_map, l1, l2]) fun i a b ea eb => ?_
    have hi : i < m := by rw [← l2]; exact (List.getElem?_eq_some_iff.mp eb).1
    rw [List.getElem?_map, g1 i hi] at ea
    rw [g2 i hi] at eb
    cases ea
    cases eb
    exact ⟨F.nxt_lt hs hi, (ok _ _ (F.nxt_lt hs hi) (F.nxt_lt hx hi)).mpr (((ok s x hs hx).mp ex.symm).step hi)⟩
  · obtain ⟨hs, rfl⟩ := q
    obtain ⟨hs', rfl⟩ := q'
    refine bool ?_
    rw [sameN_iff, ← ok s s' hs hs']
    unfold beqN
    rw [beq_iff_eq]
  · obtain ⟨hs, rfl⟩ := q
    obtain ⟨B, x, eB, eh, hx, ex⟩ := blk s hs
    refine bool ?_
    rw [decide_eq_true_iff, decide_eq_true_iff, ee _ _ eB, eh]
    exact ((ok x s hx hs).mp ex).ends
end FL
namespace FL
open PySem PySem.Spec PyProof.Rows L2 FL
/-! ### what is a list or a tuple, as it comes -/
def SqY (K : PySem.W.Frag) (H : Hp) (a : Addr) (xs : List V) : Prop := ∃ t, SqX K H a xs t
theorem SqY.same {K : PySem.W.Frag} {H H' : Hp} {a : Addr} {xs : List V} (s : Same H H') (h : SqY K H a xs) : SqY K H' a xs := h.imp fun t q => q.kept fun o e => s a o e
theorem SqY.kept {K : PySem.W.Frag} {H H' : Hp} {a : Addr} {xs : List V} (h : SqY K H a xs) (s : ∀ o, H a = some o → H' a = some o) : SqY K H' a xs := h.imp fun t q => q.kept s
theorem SqY.lst {K : PySem.W.Frag} {H : Hp} {a : Addr} {xs : List V} (e : H a = some (.lst xs)) : SqY K H a xs := ⟨false, SqL.of e⟩
theorem SqY.tup {K : PySem.W.Frag} {H : Hp} {a : Addr} {xs : List V} (e : H a = some (.tup xs)) : SqY K H a xs := ⟨true, SqT.of e⟩
theorem SqY.len {K : PySem.W.Frag} {H : Hp} {a : Addr} {xs : List V} (h : SqY K H a xs) : LenV K (.ref a) H xs.length := by
  obtain ⟨t, h⟩ := h
  exact lenX h
section
variable {X : Cx}
def iSeqY (K : PySem.W.Frag) (tl : TE) : TI := fun σ H R => tl σ H fun x H1 => ∃ (a : Addr) (xs : List V) (t : Bool), x = .ref a ∧ SqX K H1 a xs t ∧ R (ItX K a t) H1
theorem pi_seqY {tg l : Expr} {tl : TE} (hl : PE X l tl) : PI X tg l (iSeqY X.K tl) := by
  refine ⟨fun pins s σ H R I h => ?_⟩
  refine thn (hl.run pins s σ H _ I h) fun v s1 ⟨x, H1, I1, r1, q1⟩ => ?_
  obtain ⟨a, xs, t, e, hq, q⟩ := q1
  subst e
  cases r1
  cases t with
  | false =>
    obtain ⟨its, rv, p, hz⟩ := I1.list hq
    refine wpAny_pyIter_list p.isList ?_
    refine ⟨s1.heap.objs.size, [s1.heap.objs.size], _, _, H1, rfl, I1.kept (t' := s1.toks) fun b o e => Heap.get?_push_of_some _ e, turn_list a _, ⟨_, Heap.get?_push_size _ rfl, rfl, rfl⟩, fun b hb => ?_, q⟩
    have e : b = s1.heap.objs.size := by simpa using hb
    subst e
    exact I1.fpOk (Nat.le_refl _) (I1.hok.fresh (Nat.le_refl _))
  | true =>
    obtain ⟨its, rv, p, hz⟩ := I1.tuple hq
    refine wpAny_pyIter_tuple (show s1.heap.IsTuple a its.toArray from p) ?_
    refine ⟨s1.heap.objs.size, [s1.heap.objs.size], _, _, H1, rfl, I1.kept (t' := s1.toks) fun b o e => Heap.get?_push_of_some _ e, turn_tuple a _, ⟨_, Heap.get?_push_size _ rfl, rfl, rfl⟩, fun b hb => ?_, q⟩
    have e : b = s1.heap.objs.size := by simpa using hb
    subst e
    exact I1.fpOk (Nat.le_refl _) (I1.hok.fresh (Nat.le_refl _))
def rIxY (K : PySem.W.Frag) : R2 := fun x y H Q => ∃ (p : Addr) (xs : List V) (i : Int) (v : V), x = .ref p ∧ y = .int i ∧ SqY K H p xs ∧ atI xs i = some v ∧ Q v H
theorem ix_seqY : IxR X (rIxY X.K) := by
  intro value slice pins s σ H x y v u Q I rx ry h hs
  obtain ⟨p, xs, i, z, rfl, rfl, ⟨t, hq⟩, he, q⟩ := h
  cases t with
  | false => exact ix_list value slice pins s σ H _ _ v u Q I rx ry ⟨p, xs, i, z, rfl, rfl, hq, he, q⟩ hs
  | true => exact ix_tup value slice pins s σ H _ _ v u Q I rx ry ⟨p, xs, i, z, rfl, rfl, hq, he, q⟩ hs
def rSqYLen : List V → Hp → VK → Prop := fun vs H Q => True
end
/-- a dict comprehension, over whatever is walked -/
theorem dc_it {J : It} {n : Nat} {G : Hp → Prop} {Y : Nat → Hp → V → Hp → Prop} (w : Walk J n G Y) {g : TG} {tt : TT} {tk tv : TE} {vs : List Nat} {σ : L2.St} {H1 : Hp} {D : Addr} {Qd : Hp → Prop} (Pv : Nat → Hp → Prop) (h0 : Pv 0 (upd H1 D (.dK []))) (hG : ∀ i H, i ≤ n → Pv i H → G H)
    (hs : ∀ i x H H', i < n → Pv i H → Y i H x H' → g x (wipe σ vs) H' fun σ2 H2 => wipe σ2 vs = wipe σ vs ∧ tt σ2 H2 fun b H3 =>
      if b = true then tk σ2 H3 fun y H4 => tv σ2 H4 fun z H5 => ∃ kvs k, y = kV k ∧ H5 D = some (.dK kvs) ∧ kvs.length < sizeLine ∧ Pv (i + 1) (upd H5 D (.dK (putK kvs k z))) else Pv (i + 1) H3) (hd : ∀ H, Pv n H → Qd H) :
    ∃ W : Nat → Nat → Hp → Prop, (∃ m, W 0 m (upd H1 D (.dK []))) ∧ ∀ i m H, W i m H →
      (J.stop i H ∧ Qd H) ∨ (J.go i H ∧ ∃ Nx : Hp → Prop, (∀ H', Nx H' → ∃ m', m' < m ∧ W (i + 1) m' H') ∧ ∀ x H', J.yld i H x H' → g x (wipe σ vs) H' fun σ2 H2 => wipe σ2 vs = wipe σ vs ∧ tt σ2 H2 fun b H3 =>
        if b = true then tk σ2 H3 fun y H4 => tv σ2 H4 fun z H5 => ∃ kvs k, y = kV k ∧ H5 D = some (.dK kvs) ∧ kvs.length < sizeLine ∧ Nx (upd H5 D (.dK (putK kvs k z))) else Nx H3) := by
  refine ⟨fun i m H => m = n - i ∧ i ≤ n ∧ Pv i H, ⟨n, by simp, Nat.zero_le _, h0⟩, ?_⟩
  rintro i m H ⟨rfl, hi, p⟩
  have q := hG i H hi p
  by_cases hlt : i < n
  · refine .inr ⟨w.goes i H hlt q, Pv (i + 1), fun H' p' => ⟨n - (i + 1), by omega, rfl, hlt, p'⟩, fun x H' y => ?_⟩
    exact hs i x H H' hlt p (w.yields i H x H' hlt q y)
  · obtain rfl : i = n := by omega
    exact .inl ⟨w.stops H q, hd H p⟩
/-! ### numbers on the heap -/
abbrev vN' (ns : List Nat) : List V := ns.map fun (n : Nat) => V.int (n : Nat)
theorem ints_get {ns : List Nat} {i : Nat} {x : V} (h : (vN' ns)[i]? = some x) : ∃ n, ns[i]? = some n ∧ x = .int (n : Nat) := by
  rw [List.getElem?_map, Option.map_eq_some_iff] at h
  obtain ⟨n, e, rfl⟩ := h
  exact ⟨n, e, rfl⟩
theorem ints_at {ns : List Nat} {i n : Nat} (h : ns[i]? = some n) : atI (vN' ns) ((i : Nat) : Int) = some (.int (n : Nat)) := by
  exact atI_nat (by rw [List.getElem?_map, h]; rfl)
theorem ints_len (ns : List Nat) : (vN' ns).length = ns.length := List.length_map _
theorem nats_snoc (ns : List Nat) (n : Nat) : vN' ns ++ [V.int (n : Nat)] = vN' (ns ++ [n]) := by
  show ns.map _ ++ _ = (ns ++ [n]).map _
  rw [List.map_append]
  rfl
/-- the places of what was met -/
def PlcK (kvs : List (Key × V)) (met : List Nat) : Prop := kvs.length = met.length ∧ ∀ s : Nat, valV kvs (Sum.inl (s : Int) : Key) = if met.any (fun x => beqN x s) = true then some (.int (placeM beqN met s : Nat)) else none
def EndK (kvs : List (Key × V)) (E : List Nat) : Prop := kvs.length ≤ E.length ∧ ∀ s : Nat, (valV kvs (Sum.inl (s : Int) : Key)).isSome = decide (s ∈ E)
theorem keyI_inj {s t : Nat} : ((Sum.inl (s : Int) : Key) = Sum.inl (t : Int)) ↔ s = t := ⟨fun h => by have := Sum.inl.inj h; omega, fun h => by rw [h]⟩
theorem PlcK.nil : PlcK [] [] := ⟨rfl, fun _ => rfl⟩
theorem place_snoc {met : List Nat} {s t : Nat} (n : met.any (fun x => beqN x s) = false) : placeM beqN (met ++ [s]) t = if t = s then met.length else if met.any (fun x => beqN x t) = true then placeM beqN met t else met.length + 1 := by
  unfold placeM
  rw [List.findIdx_append]
  by_cases e : t = s
  · subst e
    rw [if_pos rfl, if_neg, List.findIdx_cons]
    · simp [beqN]
    · rw [List.findIdx_lt_length]
      intro ⟨x, hx, q⟩
      have : met.any (fun x => beqN x t) = true := List.any_eq_true.mpr ⟨x, hx, q⟩
      rw [n] at this
      cases this
  · rw [if_neg e]
    by_cases c : met.any (fun x => beqN x t) = true
    · rw [if_pos c, if_pos]
      obtain ⟨x, hx, q⟩ := List.any_eq_true.mp c
      exact (List.findIdx_lt_length (p := fun x => beqN x t)).mpr ⟨x, hx, q⟩
    · rw [if_neg c, if_neg]
      · have e2 : beqN s t = false := by unfold beqN; rw [beq_eq_false_iff_ne]; exact fun z => e z.symm
        rw [List.findIdx_cons, e2]
        simp
        omega
      · intro l
        obtain ⟨x, hx, q⟩ := List.findIdx_lt_length.mp l
        exact c (List.any_eq_true.mpr ⟨x, hx, q⟩)
theorem PlcK.put {kvs : List (Key × V)} {met : List Nat} (h : PlcK kvs met) {s : Nat} (n : met.any (fun x => beqN x s) = false) : PlcK (putK kvs (Sum.inl (s : Int) : Key) (.int (met.length : Nat))) (met ++ [s]) := by
  have h0 : valV kvs (Sum.inl (s : Int) : Key) = none := by rw [h.2 s, n]; rfl
  refine ⟨?_, fun t => ?_⟩
  · rw [putK_new _ h0, List.length_append, List.length_append, h.1]
    rfl
  · rw [L2.valV_put, place_snoc n, h.2 t, List.any_append]
    by_cases e : t = s
    · subst e
      rw [if_pos rfl, if_pos rfl]
      have : beqN t t = true := by simp [beqN]
      simp [this]
    · rw [if_neg e, if_neg (fun z => e (keyI_inj.mp z))]
      have e2 : beqN s t = false := by unfold beqN; rw [beq_eq_false_iff_ne]; exact fun z => e z.symm
      by_cases c : met.any (fun x => beqN x t) = true
      · rw [if_pos c]
        simp [c]
      · have c' : met.any (fun x => beqN x t) = false := by simpa using c
        rw [if_neg c, c']
        simp [e2]
theorem EndK.nil : EndK [] [] := ⟨Nat.le_refl _, fun _ => rfl⟩
theorem EndK.put {kvs : List (Key × V)} {E : List Nat} (h : EndK kvs E) (s : Nat) (v : V) : EndK (putK kvs (Sum.inl (s : Int) : Key) v) (E ++ [s]) := by
  refine ⟨?_, fun t => ?_⟩
  · have := length_putK kvs (Sum.inl (s : Int) : Key) v
    rw [List.length_append]
    have h1 := h.1
    show _ ≤ E.length + 1
    omega
  · rw [L2.valV_put]
    by_cases e : t = s
    · subst e
      rw [if_pos rfl]
      simp
    · rw [if_neg (fun z => e (keyI_inj.mp z)), h.2 t]
      have : (t ∈ E ++ [s]) ↔ t ∈ E := by simp [e]
      exact (decide_eq_decide.mpr this).symm
/-- rows as they come: lists or tuples of lists or tuples of numbers -/
def RowY (K : PySem.W.Frag) (H : Hp) (x : V) (r : List Nat) : Prop := ∃ a : Addr, x = .ref a ∧ SqY K H a (vN' r)
def RowsY (K : PySem.W.Frag) (H : Hp) (v : V) (R : Rws) : Prop := ∃ (a : Addr) (xs : List V), v = .ref a ∧ SqY K H a xs ∧ Paired (RowY K H) xs R
def IntsY (K : PySem.W.Frag) (H : Hp) (v : V) (E : List Nat) : Prop := ∃ a : Addr, v = .ref a ∧ SqY K H a (vN' E)
theorem RowsY.same {K : PySem.W.Frag} {H H' : Hp} {v : V} {R : Rws} (s : Same H H') (h : RowsY K H v R) : RowsY K H' v R := by
  obtain ⟨a, xs, e, q, p⟩ := h
  exact ⟨a, xs, e, q.same s, L2.Paired.mapP p fun _ _ ⟨b, e, q⟩ => ⟨b, e, q.same s⟩⟩
theorem IntsY.same {K : PySem.W.Frag} {H H' : Hp} {v : V} {E : List Nat} (s : Same H H') (h : IntsY K H v E) : IntsY K H' v E := by
  obtain ⟨a, e, q⟩ := h
  exact ⟨a, e, q.same s⟩
/-- rows as new ones: tuples -/
def RowT (H : Hp) (x : V) (r : List Nat) : Prop := ∃ a : Addr, x = .ref a ∧ H a = some (.tup (vN' r))
def RowsT (H : Hp) (xs : List V) (R : Rws) : Prop := Paired (RowT H) xs R
theorem RowsT.same {H H' : Hp} {xs : List V} {R : Rws} (s : ∀ a o, H a = some (.tup o) → H' a = some (.tup o)) (h : RowsT H xs R) : RowsT H' xs R := L2.Paired.mapP h fun _ _ ⟨b, e, q⟩ => ⟨b, e, s _ _ q⟩
def FormAt (H : Hp) (v : V) (R : Rws) (E : List Nat) : Prop := ∃ (t L D : Addr) (xs : List V), v = .ref t ∧ H t = some (.tup [.ref L, .ref D]) ∧ H L = some (.lst xs) ∧ RowsT H xs R ∧ H D = some (.lst (vN' E))
def FormN (H0 H : Hp) (v : V) (R : Rws) (E : List Nat) : Prop := ∃ (t L D : Addr) (xs : List V), v = .ref t ∧ H t = some (.tup [.ref L, .ref D]) ∧ H L = some (.lst xs) ∧ RowsT H xs R ∧ H D = some (.lst (vN' E)) ∧ H0 L = none ∧ H0 D = none
theorem FormN.back {H0 H1 H : Hp} {v : V} {R : Rws} {E : List Nat} (s : Same H0 H1) (h : FormN H1 H v R E) : FormN H0 H v R E := by
  obtain ⟨t, L, D, xs, e, h1, h2, h3, h4, h5, h6⟩ := h
  exact ⟨t, L, D, xs, e, h1, h2, h3, h4, s.none h5, s.none h6⟩
end FL
namespace FL
open PySem PySem.Spec PyProof.Rows L2
/-! ### what stays where only the pot changes -/
theorem But.rules {p : Addr} {H H' : Hp} {xs : List V} {rs : List Rule} (b : But p H H') (hp : PotAt H p) (h : RulesAt H xs rs) : RulesAt H' xs rs := RulesAt.imp h (b.tups hp)
theorem pot_list {H : Hp} {p : Addr} {xs : List V} {rs : List Rule} (hp : PotAt H p) (h : H p = some (.lst xs)) (r : RulesAt H xs rs) : False := by
  obtain ⟨a, b, e, _⟩ := hp
  rw [e] at h
  cases h
  cases r with
  | cons x _ =>
    obtain ⟨t, q, _⟩ := x
    cases q
theorem But.sqR {K : PySem.W.Frag} {p D : Addr} {H H' : Hp} {xs : List V} {rs : List Rule} (b : But p H H') (hp : PotAt H p) (h : SqL K H D xs) (r : RulesAt H xs rs) : SqL K H' D xs := by
  rcases h with (h | ⟨o, h⟩) | h
  · refine .inl (.inl (b _ _ h fun e => ?_))
    subst e
    exact pot_list hp h r
  · refine .inl (.inr ⟨o, b _ _ h fun e => ?_⟩)
    obtain ⟨_, _, q, _⟩ := hp
    rw [e, q] at h
    cases h
  · exact .inr h
theorem Deal.but {K : PySem.W.Frag} {H H' : Hp} {D p : Addr} {z : Str} {rs : List Rule} (d : Deal K H D z rs) (hp : PotAt H p) (b : But p H H') : Deal K H' D z rs := by
  obtain ⟨xs, h1, h2⟩ := d.ex
  exact ⟨d.az, ⟨xs, b _ _ h1 (fun e => by subst e; exact pot_list hp h1 h2), b.rules hp h2⟩, d.ok, d.le⟩
theorem RelayAt.but {C : Addr} {H H' : Hp} {p q : Addr} {z : Str} {rs : List Rule} (h : RelayAt C H p z rs) (hq : PotAt H q) (b : But q H H') : RelayAt C H' p z rs := by
  obtain ⟨dx, ra, ia, xs, h1, h2, h3, kvs, h4, h5, h6⟩ := h
  obtain ⟨_, _, e, _⟩ := id hq
  have n : ∀ {c : Addr} {o : HO}, H c = some o → (∀ l, o ≠ .lst l) → c ≠ q := fun {c o} ec no q' => by
    rw [q', e] at ec
    exact no _ (Option.some.inj ec).symm
  refine ⟨dx, ra, ia, xs, b _ _ h1 (n h1 fun l z => by cases z), b _ _ h2 (fun q' => ?_), b.rules hq h3, kvs, b _ _ h4 (n h4 fun l z => by cases z), h5, h6.imp (b.tups hq)⟩
  subst q'
  exact pot_list hq h2 h3
theorem Same.pot {H H' : Hp} {p : Addr} (s : Same H H') (h : PotAt H p) : PotAt H' p := by
  obtain ⟨a, b, e, r⟩ := h
  exact ⟨a, b, s _ _ e, r⟩
/-! ### turned lines -/
theorem turn_note {z : Str} {b : Nat} : ∀ {rs : List Rule} {y : Str}, (∀ r ∈ rs, RuleOk z b r) → Over z y → Over z (turn rs y) ∧ (turn rs y).length ≤ y.length + b
  | [], y, _, o => ⟨o, Nat.le_add_right _ _⟩
  | r :: rs, y, h, o => by
    have hr := h r List.mem_cons_self
    show Over z (if fits r y = true then turnR r y else turn rs y) ∧ (if fits r y = true then turnR r y else turn rs y).length ≤ _
    by_cases hf : fits r y = true
    · rw [if_pos hf]
      obtain ⟨f, ol, nw⟩ := r
      cases f with
      | true =>
        show Over z (nw ++ cutS y (some (ol.length : Int)) none) ∧ (nw ++ cutS y (some (ol.length : Int)) none).length ≤ _
        refine ⟨over_app hr.n1 (over_cut o _ _), ?_⟩
        rw [len_app]
        have := cutS_length y (some (ol.length : Int)) none
        have h2 : nw.length ≤ b := hr.n2
        omega
      | false => exact ⟨hr.n1, Nat.le_trans hr.n2 (Nat.le_add_left _ _)⟩
    · rw [if_neg hf]
      exact turn_note (fun r' hr' => h r' (List.mem_cons_of_mem _ hr')) o
def spTurns (K : PySem.W.Frag) (C : Addr) : Sp := fun vs H Q _ => ∃ (q : Addr) (z : Str) (D p : Addr) (rs : List Rule), vs = [.ref q, .str z, .ref D, .ref p] ∧ PotAt H q ∧ Deal K H D z rs ∧ RelayAt C H p z rs ∧
  ∀ H', PotAt H' q → But q H H' → Q (.bl true) H'
/-- a line of the signs that is not too long -/
def Ln (z y : Str) : Prop := Over z y ∧ y.length ≤ 3000
theorem three_sm {z y : Str} (az : Abc z) (o : Over z y) (l : y.length ≤ 5000) : Sm 400000 (.list [.str y, .str y, .str y]) := by
  have s := (Sm.str (az.plain o)).mono (show 10 * y.length + 2 ≤ 50002 by omega)
  exact (Sm.list (k := 0) (SmL.cons s (Nat.le_refl _) (SmL.cons s (Nat.le_refl _) (SmL.cons s (Nat.le_refl _) SmL.nil))) (by decide)).mono (by decide)
end FL
namespace FL
open PySem PySem.Spec PyProof.Rows L2
theorem snoc_of {α : Type} : ∀ {l : List α}, 0 < l.length → ∃ i x, l = i ++ [x]
  | [], h => absurd h (Nat.lt_irrefl 0)
  | a :: r, _ => by
    cases r with
    | nil => exact ⟨[], a, rfl⟩
    | cons b r =>
      obtain ⟨i, x, e⟩ := snoc_of (l := b :: r) (Nat.succ_pos _)
      exact ⟨a :: i, x, by rw [e]; rfl⟩
theorem atI_0 {α : Type} {a b : α} {r : List α} : atI (a :: b :: r) 0 = some a := atI_nat (j := 0) rfl
theorem atI_1 {α : Type} {a b : α} {r : List α} : atI (a :: b :: r) 1 = some b := atI_nat (j := 1) rfl
theorem two_signs {z : Str} (h : 2 ≤ z.length) : ∃ a b r, z.cps.toList = a :: b :: r := by
  rw [str_len] at h
  cases e : z.cps.toList with
  | nil =>
    rw [e] at h
    exact absurd h (by decide)
  | cons a l =>
    cases l with
    | nil =>
      rw [e] at h
      simp at h
    | cons b r => exact ⟨a, b, r, rfl⟩
theorem over_rep {z : Str} {c n : Nat} (h : c ∈ z.cps.toList) : Over z (repS ⟨#[c]⟩ n) := fun d hd => by
  have := repS_mem hd
  have e : d = c := by simpa using this
  rw [e]
  exact h
theorem rep_len (c n : Nat) : (repS ⟨#[c]⟩ n).length = n := by
  rw [repS_len]
  show n * 1 = n
  exact Nat.mul_one n
end FL
namespace FL
open PySem PySem.Spec PyProof.Rows L2
/-! ### rules that are hidden -/
theorem cut_pre (y : Str) (n : Nat) : (cutS y none (some (n : Int))).cps.toList = y.cps.toList.take n := by
  show ((y.cps.toList.drop (HT.sIx y.length 0 none)).take (HT.sIx y.length y.length (some (n : Int)) - HT.sIx y.length 0 none)).toArray.toList = _
  rw [HT.sIx_nat, HT.sIx_none]
  show (y.cps.toList.drop 0).take (min n y.length - 0) = _
  rw [List.drop_zero, Nat.sub_zero, str_len]
  by_cases h : n ≤ y.cps.toList.length
  · rw [Nat.min_eq_left h]
  · rw [Nat.min_eq_right (by omega), List.take_of_length_le (Nat.le_refl _), List.take_of_length_le (by omega)]
theorem pre_iff {y b : Str} : cutS y none (some (b.length : Int)) = b ↔ y.cps.toList.take b.cps.toList.length = b.cps.toList := by
  rw [← str_len]
  constructor
  · intro h
    rw [← cut_pre, h]
  · intro h
    apply Str_ext
    rw [cut_pre, h]
/-- an earlier rule says all that this one says -/
def hides (e r : Rule) : Bool := (e.fr && decide (cutS r.old none (some (e.old.length : Int)) = e.old)) || (decide (e.fr = r.fr) && decide (e.old = r.old))
theorem pre_trans {y o b : Str} (h1 : cutS o none (some (b.length : Int)) = b) (h2 : cutS y none (some (o.length : Int)) = o) : cutS y none (some (b.length : Int)) = b := by
  rw [pre_iff] at h1 h2 ⊢
  have l := congrArg List.length h1
  rw [List.length_take] at l
  rw [← h2, List.take_take, Nat.min_eq_left (by omega)] at h1
  exact h1
theorem hides_fits {e r : Rule} {y : Str} (h : hides e r = true) (hf : fits r y = true) : fits e y = true := by
  unfold hides at h
  rcases Bool.or_eq_true_iff.mp h with h | h
  · obtain ⟨h1, h2⟩ := Bool.and_eq_true_iff.mp h
    have h3 := of_decide_eq_true h2
    clear h2
    obtain ⟨f, o, n⟩ := e
    obtain ⟨f', o', n'⟩ := r
    dsimp only at h1 h3
    subst h1
    show decide (cutS y none (some (o.length : Int)) = o) = true
    apply decide_eq_true
    cases f' with
    | true => exact pre_trans h3 (of_decide_eq_true hf)
    | false =>
      have e' : y = o' := of_decide_eq_true hf
      rw [e']
      exact h3
  · obtain ⟨h1, h2⟩ := Bool.and_eq_true_iff.mp h
    rw [fits_same (r := r) ⟨of_decide_eq_true h1, of_decide_eq_true h2⟩]
    exact hf
theorem turn_fit : ∀ {l s : List Rule} {y : Str}, (∃ r ∈ l, fits r y = true) → turn (l ++ s) y = turn l y
  | [], _, _, ⟨_, h, _⟩ => nomatch h
  | a :: l, s, y, ⟨r, hr, hf⟩ => by
    show (if fits a y = true then _ else turn (l ++ s) y) = (if fits a y = true then _ else turn l y)
    by_cases ha : fits a y = true
    · rw [if_pos ha, if_pos ha]
    · rw [if_neg ha, if_neg ha]
      rcases List.mem_cons.mp hr with rfl | h
      · exact absurd hf ha
      · exact turn_fit ⟨r, h, hf⟩
theorem turn_none : ∀ {l s : List Rule} {y : Str}, (∀ r ∈ l, fits r y = false) → turn (l ++ s) y = turn s y
  | [], _, _, _ => rfl
  | a :: l, s, y, h => by
    show (if fits a y = true then _ else turn (l ++ s) y) = _
    rw [h a List.mem_cons_self, if_neg Bool.false_ne_true]
    exact turn_none fun r hr => h r (List.mem_cons_of_mem _ hr)
theorem fit_or (l : List Rule) (y : Str) : (∃ r ∈ l, fits r y = true) ∨ ∀ r ∈ l, fits r y = false := by
  rcases exists_first (rs := l) (y := y) with h | ⟨i, r, h1, h2, _⟩
  · exact .inr h
  · exact .inl ⟨r, List.mem_of_getElem? h1, h2⟩
theorem turn_skip {l t : List Rule} {r : Rule} (h : l.any (fun e => hides e r) = true) (y : Str) : turn (l ++ r :: t) y = turn (l ++ t) y := by
  obtain ⟨e, he, hh⟩ := List.any_eq_true.mp h
  rcases fit_or l y with hl | hl
  · rw [turn_fit hl, turn_fit hl]
  · rw [turn_none hl, turn_none hl]
    have : fits r y = false := by
      cases q : fits r y with
      | false => rfl
      | true =>
        have := hides_fits hh q
        rw [hl e he] at this
        cases this
    show (if fits r y = true then _ else turn t y) = _
    rw [this, if_neg Bool.false_ne_true]
theorem turn_again {l t : List Rule} (h : ∀ r ∈ t, r ∈ l) (y : Str) : turn (l ++ t) y = turn l y := by
  rcases fit_or l y with hl | hl
  · exact turn_fit hl
  · rw [turn_none hl, turn_no hl, turn_no fun r hr => hl r (h r hr)]
theorem turn_void {l : List Rule} (y : Str) : turn (l ++ [⟨true, Str.ofString "", Str.ofString ""⟩]) y = turn l y := by
  rcases fit_or l y with hl | hl
  · exact turn_fit hl
  · rw [turn_none hl, turn_no hl]
    have e0 : (Str.ofString "").cps.toList = [] := by decide +kernel
    have l0 : (Str.ofString "").length = 0 := by decide +kernel
    have hf : fits ⟨true, Str.ofString "", Str.ofString ""⟩ y = true := by
      show decide (cutS y none (some ((Str.ofString "").length : Int)) = Str.ofString "") = true
      exact decide_eq_true (pre_iff.mpr (by rw [e0]; rfl))
    show (if fits ⟨true, Str.ofString "", Str.ofString ""⟩ y = true then Str.ofString "" ++ cutS y (some ((Str.ofString "").length : Int)) none else y) = y
    rw [if_pos hf, l0]
    apply Str_ext
    rw [Str.cps_append, Array.toList_append, e0]
    show ((y.cps.toList.drop (HT.sIx y.length 0 (some ((0 : Nat) : Int)))).take (HT.sIx y.length y.length none - HT.sIx y.length 0 (some ((0 : Nat) : Int)))).toArray.toList = _
    rw [HT.sIx_nat, HT.sIx_none, Nat.zero_min, Nat.sub_zero, List.drop_zero, List.take_of_length_le (by rw [← str_len]; exact Nat.le_refl _)]
theorem eqv_key (a b : Rule) : PyData.eqv (.tuple [.str (kd a.fr), .str a.old]) (.tuple [.str (kd b.fr), .str b.old]) = (decide (a.fr = b.fr) && decide (a.old = b.old)) := by
  obtain ⟨f, o, n⟩ := a
  obtain ⟨f', o', n'⟩ := b
  show ((kd f == kd f') && ((o == o') && true)) = _
  rw [Bool.and_true]
  have e1 : (kd f == kd f') = decide (f = f') := by
    by_cases h : f = f'
    · subst h
      simp
    · rw [decide_eq_false h]
      have : kd f ≠ kd f' := by
        cases f <;> cases f' <;> first | exact absurd rfl h | exact kd_ne | exact Ne.symm kd_ne
      simpa using this
  have e2 : (o == o') = decide (o = o') := by
    by_cases h : o = o'
    · subst h
      simp
    · rw [decide_eq_false h]
      simpa using h
  rw [e1, e2]
theorem pick_rules {H : Hp} {xs : List V} {rs : List Rule} (h : RulesAt H xs rs) : ∀ {ys : List V}, (∀ y ∈ ys, y ∈ xs) → ∃ ts, RulesAt H ys ts ∧ ∀ t ∈ ts, t ∈ rs
  | [], _ => ⟨[], .nil, fun _ q => nomatch q⟩
  | y :: ys, m => by
    obtain ⟨ts, h1, h2⟩ := pick_rules h (ys := ys) fun v hv => m v (List.mem_cons_of_mem _ hv)
    obtain ⟨t, ht, hr⟩ := paired_mem h (m y List.mem_cons_self)
    refine ⟨t :: ts, .cons hr h1, fun u hu => ?_⟩
    rcases List.mem_cons.mp hu with rfl | hu
    · exact ht
    · exact h2 u hu
theorem paired_app {α β : Type} {R : α → β → Prop} : ∀ {xs zs : List α} {ys ws : List β}, Paired R xs ys → Paired R zs ws → Paired R (xs ++ zs) (ys ++ ws)
  | _, _, _, _, .nil, h => h
  | _, _, _, _, .cons a b, h => .cons a (paired_app b h)
/-! ### a call of an instance, its reading without the context -/
def tCallP (C : Addr) (sp : Sp) (tf : TE) (t : TA) : TE := fun σ H Q => tf σ H fun y H1 => ∃ a, y = V.ref a ∧ t σ H1 fun vs H2 => (∃ dx fs, H2 a = some (.ins C dx fs)) ∧ sp (V.ref a :: vs) H2 Q E0
theorem pe_callP {X : Cx} {C g : Addr} {fd : FuncData} {ps : List Str} {sp : Sp} {k : Nat} {fe e : Expr} {es : List Expr} {pos : Pos} {tf : TE} {t : TA} (hf : PE X fe tf) (c : StX.CallO X.K C g) (F : FnOk X.prog X.w X.K X.mg X.base CX0 k g fd ps sp)
    (hb : Binds X.K fd ps []) (hr : Room k X.A) (ha : PA X (e :: es) t)
    (ht : eval (.Call fe (e :: es) [] pos) X.env = (do callWith pos (← eval fe X.env) [] (backTo pos (starEach (e :: es) X.env)) (backToKw pos (keywordEach [] X.env))) := by rfl)
    (he : starEach (e :: es) X.env = (false, eval e X.env) :: starEach es X.env := by rfl) (hpl : (backTo pos (starEach es X.env)).any (·.1) = false := by rfl) : PE X (.Call fe (e :: es) [] pos) (tCallP C sp tf t) := by
  have G := F.raw hb .nil
  refine ⟨fun pins s σ H Q I h => ?_⟩
  rw [ht]
  refine wpAny_bind (thn (hf.run pins s σ H _ I h) fun u s1 hu => ?_)
  obtain ⟨y, H1, I1, ry, a, ey, q⟩ := hu
  subst ey
  obtain rfl : u = Value.ref a := ry
  refine StX.callO_with (thn (ha.run pos pins s1 σ H1 _ I1 q) fun us s2 hw => ?_) he hpl
  obtain ⟨vs, H2, I2, r, ⟨dx, fs, ea⟩, q2⟩ := hw
  obtain ⟨ox, od, J, hd⟩ := StX.insC_at I2 (.inr ⟨dx, fs, ea⟩)
  refine ⟨⟨C, ox, od, J, hd⟩, StX.run_callO c G hr pass0 I2 (.inr ⟨dx, fs, ea⟩) r ?_⟩
  show sp ((V.ref a :: vs) ++ []) H2 Q E0
  rw [List.append_nil]
  exact q2
def spHidR (K : PySem.W.Frag) (C : Addr) : Sp := fun vs H Q _ => ∃ (q : Addr) (z : Str) (D p : Addr) (rs : List Rule), vs = [.ref q, .str z, .ref D, .ref p] ∧ PotAt H q ∧ Deal K H D z rs ∧ RelayAt C H p z rs ∧
  ∀ H', PotAt H' q → But q H H' → Q (.bl true) H'
end FL
namespace FL
open PySem PySem.Spec PyProof.Rows L2
theorem key_sm {f : Bool} {o : Str} (h : Plain o) (l : o.length ≤ 40) : Sm 2000 (.tuple [.str (kd f), .str o]) := by
  have a0 := Sm.str (kd_plain f)
  rw [kd_len] at a0
  exact (Sm.tuple (k := 0) (SmL.cons a0 (Nat.le_refl _) (SmL.cons ((Sm.str h).mono (show _ ≤ 500 by omega)) (Nat.le_refl _) SmL.nil)) (by decide)).mono (by decide)
theorem any_take {α : Type} {l : List α} {j : Nat} {e : α} (f : α → Bool) (h : l[j]? = some e) : (l.take (j + 1)).any f = ((l.take j).any f || f e) := by
  rw [take_snoc h, List.any_append]
  simp
theorem drop_at {α : Type} {l : List α} {i : Nat} {r : α} (h : l[i]? = some r) : l.drop i = r :: l.drop (i + 1) := by
  obtain ⟨hi, e⟩ := List.getElem?_eq_some_iff.mp h
  rw [List.drop_eq_getElem_cons hi, e]
theorem Same.tups {H H' : Hp} (s : Same H H') : ∀ t a, H t = some (.tup a) → H' t = some (.tup a) := fun t a e => s t _ e
end FL
namespace FL
open PySem PySem.Spec PyProof.Rows L2
theorem make_one {C : Addr} {H : Hp} {G : Hp → Prop} {z : Str} {v : V} {rs : List Rule} {x dx : Addr} (hz : Abc z) (ra : RuArg H v rs) (ok : ∀ r ∈ rs, RuleOk z 40 r) (l : rs.length ≤ 400) (hx : H x = none) (hd : H dx = none) (hne : dx ≠ x)
    (k : ∀ H', RelayAt C H' x z rs → Same H H' → G H') : spInit C [.ref x, .str z, v] (upd (upd H dx (.own x)) x (.ins C dx [])) (fun v H3 => v = .non ∧ G H3) E0 := by
  have s2 : Same H (upd (upd H dx (.own x)) x (.ins C dx [])) := ((Same.refl H).upd hd).upd hx
  refine ⟨x, dx, z, v, rs, rfl, upd_same, hz, ?_, ok, l, fun H' ra' rel _ b => ⟨rfl, k H' rel.at_ fun c o e => b c o (s2 c o e) (ne_of_none e hx)⟩⟩
  obtain ⟨a, xs, t, rfl, ea, hrs⟩ := ra
  exact ⟨a, xs, t, rfl, s2 _ _ ea, Same.rules s2 hrs⟩
end FL
namespace FL
open PySem PySem.Spec PyProof.Rows L2
theorem void_ok {z : Str} : RuleOk z 40 ⟨true, Str.ofString "", Str.ofString ""⟩ := by
  have e0 : (Str.ofString "").cps.toList = [] := by decide +kernel
  have l0 : (Str.ofString "").length = 0 := by decide +kernel
  have o : Over z (Str.ofString "") := fun c hc => by
    rw [e0] at hc
    cases hc
  exact ⟨o, by show (Str.ofString "").length ≤ 40; omega, o, by show (Str.ofString "").length ≤ 40; omega⟩
/-- three relays that turn each line as these rules do -/
structure Mate (C : Addr) (H : Hp) (x : Addr) (z : Str) (rs : List Rule) : Prop where
  ex : ∃ L, RelayAt C H x z L ∧ (∀ r ∈ L, r.old.length ≤ 40 ∧ r.new.length ≤ 1000) ∧ ∀ y, turn L y = turn rs y
theorem Mate.same {C : Addr} {H H' : Hp} {x : Addr} {z : Str} {rs : List Rule} (m : Mate C H x z rs) (s : Same H H') : Mate C H' x z rs := by
  obtain ⟨L, a, b, c⟩ := m.ex
  exact ⟨L, a.same s, b, c⟩
theorem ok_lens {z : Str} {rs : List Rule} (h : ∀ r ∈ rs, RuleOk z 40 r) : ∀ r ∈ rs, r.old.length ≤ 40 ∧ r.new.length ≤ 1000 := fun r hr => ⟨(h r hr).o2, Nat.le_trans (h r hr).n2 (by decide)⟩
end FL
namespace FL
open PySem PySem.Spec PyProof.Rows L2
theorem RelayAt.updL {C C' : Addr} {H : Hp} {p M a d : Addr} {f : List (Str × V)} {z : Str} {rs : List Rule} {vs ws : List V} (h : RelayAt C H p z rs) (hM : H M = some (.lst (.ref a :: vs))) (ha : H a = some (.ins C' d f)) : RelayAt C (upd H M (.lst ws)) p z rs := by
  obtain ⟨dx, ra, ia, xs, h1, h2, h3, kvs, h4, h5, h6⟩ := h
  have tp : ∀ t b, H t = some (.tup b) → upd H M (.lst ws) t = some (.tup b) := fun t b e => by
    rw [upd_ne (ne_of e hM (by intro q; cases q))]
    exact e
  refine ⟨dx, ra, ia, xs, ?_, ?_, RulesAt.imp h3 tp, kvs, ?_, h5, h6.imp tp⟩
  · rw [upd_ne (ne_of h1 hM (by intro q; cases q))]
    exact h1
  · have n : ra ≠ M := fun e => by
      subst e
      rw [hM] at h2
      cases h2
      cases h3 with
      | cons x _ =>
        obtain ⟨t, q, g⟩ := x
        cases q
        rw [ha] at g
        cases g
    rw [upd_ne n]
    exact h2
  · rw [upd_ne (ne_of h4 hM (by intro q; cases q))]
    exact h4
end FL
namespace FL
open PySem PySem.Spec PyProof.Rows L2
theorem make_oneR {C : Addr} {H : Hp} {G : Hp → Prop} {z : Str} {v : V} {rs : List Rule} {x dx : Addr} (hz : Abc z) (ra : RuArg H v rs) (ok : ∀ r ∈ rs, RuleOk z 40 r) (l : rs.length ≤ 400) (hx : H x = none) (hd : H dx = none) (hne : dx ≠ x)
    (k : ∀ (H' : Hp) (ra : Addr), RelayR C H' x z rs ra → H ra = none → Same H H' → G H') : spInit C [.ref x, .str z, v] (upd (upd H dx (.own x)) x (.ins C dx [])) (fun v H3 => v = .non ∧ G H3) E0 := by
  have s2 : Same H (upd (upd H dx (.own x)) x (.ins C dx [])) := ((Same.refl H).upd hd).upd hx
  refine ⟨x, dx, z, v, rs, rfl, upd_same, hz, ?_, ok, l, fun H' ra' rel hn b => ⟨rfl, k H' ra' rel (s2.none hn) fun c o e => b c o (s2 c o e) (ne_of_none e hx)⟩⟩
  obtain ⟨a, xs, t, rfl, ea, hrs⟩ := ra
  exact ⟨a, xs, t, rfl, s2 _ _ ea, Same.rules s2 hrs⟩
end FL
namespace FL
open PySem PySem.Spec PyProof.Rows L2
/-! ### lists of rules, gathered -/
def RL (H : Hp) (z : Str) (a : Addr) : Prop := ∃ xs rs, H a = some (.lst xs) ∧ RulesAt H xs rs ∧ (∀ r ∈ rs, RuleOk z 40 r) ∧ rs.length ≤ 400
theorem RL.same {H H' : Hp} {z : Str} {a : Addr} (h : RL H z a) (s : Same H H') : RL H' z a := by
  obtain ⟨xs, rs, h1, h2, h3, h4⟩ := h
  exact ⟨xs, rs, s _ _ h1, Same.rules s h2, h3, h4⟩
theorem RL.updS {H : Hp} {z : Str} {a S : Addr} {ss ws : List V} (h : RL H z a) (hS : H S = some (.lst ss)) (n : a ≠ S) : RL (upd H S (.lst ws)) z a := by
  obtain ⟨xs, rs, h1, h2, h3, h4⟩ := h
  refine ⟨xs, rs, by rw [upd_ne n]; exact h1, RulesAt.imp h2 fun t b e => ?_, h3, h4⟩
  rw [upd_ne (ne_of e hS (by intro q; cases q))]
  exact e
structure Sm1 (H : Hp) (S : Addr) (z : Str) (As : List Addr) : Prop where
  at_ : H S = some (.lst (As.map V.ref))
  all : ∀ a ∈ As, a ≠ S ∧ RL H z a
theorem Sm1.same {H H' : Hp} {S : Addr} {z : Str} {As : List Addr} (h : Sm1 H S z As) (s : Same H H') : Sm1 H' S z As :=
  ⟨s _ _ h.at_, fun a ha => ⟨(h.all a ha).1, (h.all a ha).2.same s⟩⟩
theorem Sm1.add {H : Hp} {S a : Addr} {z : Str} {As : List Addr} (h : Sm1 H S z As) (ha : RL H z a) (n : a ≠ S) : Sm1 (upd H S (.lst (As.map V.ref ++ [.ref a]))) S z (As ++ [a]) := by
  refine ⟨by rw [upd_same, List.map_append]; rfl, fun b hb => ?_⟩
  rcases List.mem_append.mp hb with hb | hb
  · exact ⟨(h.all b hb).1, (h.all b hb).2.updS h.at_ (h.all b hb).1⟩
  · rw [List.mem_singleton.mp hb]
    exact ⟨n, ha.updS h.at_ n⟩
theorem paired_take {α β : Type} {R : α → β → Prop} : ∀ {xs : List α} {ys : List β}, Paired R xs ys → ∀ n, Paired R (xs.take n) (ys.take n)
  | _, _, .nil, n => by rw [List.take_nil, List.take_nil]; exact .nil
  | _, _, .cons a b, 0 => .nil
  | _, _, .cons a b, n + 1 => .cons a (paired_take b n)
theorem paired_drop {α β : Type} {R : α → β → Prop} : ∀ {xs : List α} {ys : List β}, Paired R xs ys → ∀ n, Paired R (xs.drop n) (ys.drop n)
  | _, _, .nil, n => by rw [List.drop_nil, List.drop_nil]; exact .nil
  | _, _, .cons a b, 0 => .cons a b
  | _, _, .cons a b, n + 1 => paired_drop b n
theorem paired_rev {α β : Type} {R : α → β → Prop} : ∀ {xs : List α} {ys : List β}, Paired R xs ys → Paired R xs.reverse ys.reverse
  | _, _, .nil => .nil
  | _, _, .cons a b => by
    rw [List.reverse_cons, List.reverse_cons]
    exact paired_snoc (paired_rev b) a
/-- a slice of rules is one -/
theorem cut_rules {H : Hp} {xs : List V} {rs : List Rule} (h : RulesAt H xs rs) (lo hi : Option Int) : ∃ ts, RulesAt H (cutV xs lo hi) ts ∧ (∀ t ∈ ts, t ∈ rs) ∧ ts.length ≤ rs.length := by
  refine ⟨(rs.drop (HT.sIx xs.length 0 lo)).take (HT.sIx xs.length xs.length hi - HT.sIx xs.length 0 lo), paired_take (paired_drop h _) _, fun t ht => List.mem_of_mem_drop (List.mem_of_mem_take ht), ?_⟩
  rw [List.length_take, List.length_drop]
  omega
def spEqual (K : PySem.W.Frag) (C : Addr) : Sp := fun vs H Q _ => ∃ (q : Addr) (z : Str) (D p : Addr) (rs : List Rule), vs = [.ref q, .str z, .ref D, .ref p] ∧ Deal K H D z rs ∧ RelayAt C H p z rs ∧
  ∀ H', Same H H' → Q (.bl true) H'
theorem rp_ok {z : Str} {rs : List Rule} (az : Abc z) (h : ∀ r ∈ rs, RuleOk z 40 r) : RP 40 rs := fun r hr => ⟨az.plain (h r hr).o1, az.plain (h r hr).n1, (h r hr).o2, (h r hr).n2⟩
theorem bools_sm (a b c : Bool) : Sm 100 (.list [.bool a, .bool b, .bool c]) :=
  (Sm.list (k := 0) (SmL.cons (Sm.bool a) (Nat.le_refl _) (SmL.cons (Sm.bool b) (Nat.le_refl _) (SmL.cons (Sm.bool c) (Nat.le_refl _) SmL.nil))) (by decide)).mono (by decide)
end FL
namespace FL
open PySem PySem.Spec PyProof.Rows L2
theorem comp_tail {H0 Hi : Hp} {C T : Addr} {ws : List V} {ts : List Rule} {r : Rule} (sj : Same H0 Hi) (hC0 : H0 C = none) (hC : Hi C = some (.lst ws)) (hw : RulesAt Hi ws ts) (hT : Hi T = none) :
    (upd Hi T (.tup (ruleV r))) C = some (.lst ws) ∧ Same H0 (upd (upd Hi T (.tup (ruleV r))) C (.lst (ws ++ [.ref T]))) ∧ RulesAt (upd (upd Hi T (.tup (ruleV r))) C (.lst (ws ++ [.ref T]))) (ws ++ [.ref T]) (ts ++ [r]) := by
  have n : C ≠ T := ne_of_none hC hT
  refine ⟨by rw [upd_ne n]; exact hC, (sj.upd (sj.none hT)).upd hC0, paired_snoc (RulesAt.imp hw fun t a e => ?_) ⟨T, rfl, ?_⟩⟩
  · rw [upd_ne (ne_of e hC (by intro q; cases q)), upd_ne (ne_of_none e hT)]
    exact e
  · rw [upd_ne (Ne.symm n), upd_same]
theorem map_take {α β : Type} {l : List α} {i : Nat} {x : α} (f : α → β) (h : l[i]? = some x) : (l.take (i + 1)).map f = (l.take i).map f ++ [f x] := by
  rw [take_snoc h, List.map_append]
  rfl
theorem void_rule {H : Hp} {T : Addr} {f : Bool} (h : H T = some (.tup [.str (kd f), .str (Str.ofString ""), .str (Str.ofString "")])) : RuleAt H (.ref T) ⟨f, Str.ofString "", Str.ofString ""⟩ := ⟨T, rfl, h⟩
theorem void_ok2 {z : Str} {f : Bool} : RuleOk z 40 ⟨f, Str.ofString "", Str.ofString ""⟩ := ⟨(void_ok (z := z)).o1, (void_ok (z := z)).o2, (void_ok (z := z)).n1, (void_ok (z := z)).n2⟩
end FL
namespace FL
open PySem PySem.Spec PyProof.Rows L2
def flipR (r : Rule) : Rule := ⟨!r.fr, r.old, r.new⟩
def newR (c : Nat) (r : Rule) : Rule := ⟨r.fr, r.old, r.new ++ ⟨#[c]⟩⟩
def oldR (c : Nat) (r : Rule) : Rule := ⟨r.fr, r.old ++ ⟨#[c]⟩, r.new⟩
theorem flip_ok {z : Str} {rs : List Rule} (h : ∀ r ∈ rs, RuleOk z 40 r) : ∀ r ∈ rs, RuleOk z 40 (flipR r) := fun r hr => ⟨(h r hr).o1, (h r hr).o2, (h r hr).n1, (h r hr).n2⟩
theorem new_ok {z : Str} {c : Nat} (hc : c ∈ z.cps.toList) {rs : List Rule} (h : ∀ r ∈ rs, RuleOk z 30 r) : ∀ r ∈ rs, RuleOk z 40 (newR c r) := fun r hr =>
  ⟨(h r hr).o1, Nat.le_trans (h r hr).o2 (by decide), over_app (h r hr).n1 (over_one hc), by
    show (r.new ++ ⟨#[c]⟩).length ≤ 40
    rw [len_app, len_one]
    have := (h r hr).n2
    omega⟩
theorem old_ok {z : Str} {c : Nat} (hc : c ∈ z.cps.toList) {rs : List Rule} (h : ∀ r ∈ rs, RuleOk z 30 r) : ∀ r ∈ rs, RuleOk z 40 (oldR c r) := fun r hr =>
  ⟨over_app (h r hr).o1 (over_one hc), by
    show (r.old ++ ⟨#[c]⟩).length ≤ 40
    rw [len_app, len_one]
    have := (h r hr).o2
    omega, (h r hr).n1, Nat.le_trans (h r hr).n2 (by decide)⟩
end FL
namespace FL
open PySem PySem.Spec PyProof.Rows L2
theorem Deal.updL {K : PySem.W.Frag} {H : Hp} {D L : Addr} {z : Str} {rs : List Rule} {vs ws : List V} (d : Deal K H D z rs) (hL : H L = some (.lst vs)) (n : D ≠ L) : Deal K (upd H L (.lst ws)) D z rs := by
  obtain ⟨xs, h1, h2⟩ := d.ex
  refine ⟨d.az, ⟨xs, by rw [upd_ne n]; exact h1, RulesAt.imp h2 fun t b e => ?_⟩, d.ok, d.le⟩
  rw [upd_ne (ne_of e hL (by intro q; cases q))]
  exact e
def spRight : Sp := fun vs H Q _ => ∃ q : Addr, vs = [.ref q] ∧ PotAt H q ∧ ∀ H', PotAt H' q → But q H H' → Q (.bl true) H'
def spLaw (K : PySem.W.Frag) : Sp := fun vs H Q _ => ∃ (a : Addr) (ns : List Int), vs = [.ref a] ∧ SqL K H a (ns.map V.int) ∧ ns.length ≤ 63 ∧ ∀ H', Q (.bl true) H'
theorem repr_bare (z : Str) : reprR z [] = (Str.ofString "Relay(" ++ (PyData.str z).shown) ++ Str.ofString ", [])" := by
  rw [reprR_eq]
  have e : (PyData.list (([] : List Rule).map ruleD)).shown = Str.ofString "[]" := by decide +kernel
  rw [e]
  generalize Str.ofString "Relay(" ++ (PyData.str z).shown = x
  apply Str_ext
  have e2 : (Str.ofString ", ").cps.toList ++ ((Str.ofString "[]").cps.toList ++ (Str.ofString ")").cps.toList) = (Str.ofString ", [])").cps.toList := by decide +kernel
  rw [Str.cps_append, Str.cps_append, Str.cps_append, Str.cps_append, Array.toList_append, Array.toList_append, Array.toList_append, Array.toList_append, ← e2, List.append_assoc, List.append_assoc]
theorem all_true : ∀ n : Nat, (List.replicate n true).all id = true
  | 0 => rfl
  | n + 1 => by
    rw [List.replicate_succ]
    exact all_true n
end FL
namespace FL
open PySem PySem.Spec PyProof.Rows L2
/-! ### the end of a law whose promise wants that no repr is under way -/
/-- the script alone, locked, unless the module holds it -/
def onlyH (K : PySem.W.Frag) (a : Addr) (o : Obj) (ns : List Int) : Hp := fun b => if b = a ∧ K.lookup a = none then some (.frz o (.lst (ns.map V.int))) else none
theorem only_at {K : PySem.W.Frag} {a b : Addr} {o : Obj} {ns : List Int} {u : HO} (h : onlyH K a o ns b = some u) : b = a ∧ K.lookup a = none ∧ u = .frz o (.lst (ns.map V.int)) := by
  unfold onlyH at h
  by_cases c : b = a ∧ K.lookup a = none
  · rw [if_pos c] at h
    exact ⟨c.1, c.2, (Option.some.inj h).symm⟩
  · rw [if_neg c] at h
    cases h
theorem endG {P : Program} {w : World} {K : PySem.W.Frag} {mg mb : Str → Option Value} {k : Nat} {fa a : Addr} {fd : FuncData} {x : Str} {sp : Sp} {s : Shared} {vs : List Value} {ns : List Int}
    (kx : K.In s.heap) (gl : s.heap.Ns mainGlobals mg) (bl : s.heap.Ns builtinsNs mb) (bb : ∀ y : Str, y ≠ "__name__" → mb y = bootBuiltins y) (nl : s.heap.NoLimit) (ng : s.gens = #[])
    (oa : s.heap.get? a = some { cls := .type "list", data := .seq vs.toArray }) (hi : IntsAre vs ns) (le : ns.length ≤ sizeLine) (rm : Room k callerA)
    (F : ∀ base : Heap, K.In base → base.Ns mainGlobals mg → FnG P w K mg base CX0 k fa fd [x] sp) (bd : ∀ (s : Shared) (u : Value), BindsTo s fd ⟨[u], []⟩ [(x, u)])
    (pr : ∀ H : Hp, SqL K H a (ns.map V.int) → sp [.ref a] H (fun v _ => v = .bl true) fun _ _ _ => False) :
    codeAny (model P w) callerA (.call (.ref fa) ⟨[.ref a], []⟩) (fun r t => r = .ok (.ret (.bool true)) ∧ OldK s.heap t.heap ∧ t.os = s.os ∧ AllBare t.gens) s := by
  have rv := vals_ints hi
  have lv := hi.length
  let o : Obj := { cls := .type "list", data := .seq vs.toArray }
  let H : Hp := onlyH K a o ns
  have sq : SqL K H a (ns.map V.int) := by
    cases q : K.lookup a with
    | none => exact .inl (.inr ⟨o, if_pos ⟨rfl, q⟩⟩)
    | some o' =>
      have e := kx a o' q
      rw [oa] at e
      cases e
      exact .inr ⟨_, vs.toArray, _, q, rfl, rfl, rfl, by rw [List.size_toArray, lv]; exact le, by simpa using rv⟩
  have ok : HOk P w H s.heap := fun b u e => by
    obtain ⟨rfl, _, rfl⟩ := only_at e
    exact ⟨oa, by rw [List.length_map]; exact le, vs, _, rv, oa⟩
  have stay : ∀ {b : Addr} {m : Str → Option Value}, s.heap.Ns b m → (hidT s.heap H).Ns b m := fun {b m} n => by
    obtain ⟨ob, es, ep, e, d, r⟩ := n
    refine ⟨ob, es, ep, hidT_get e ?_, d, r⟩
    cases q : H b with
    | none => rfl
    | some u =>
      obtain ⟨rfl, _, _⟩ := only_at q
      rw [oa] at e
      cases e
      cases d
  have kb : K.In (hidT s.heap H) := fun b ob e => by
    refine hidT_get (kx b ob e) ?_
    cases q : H b with
    | none => rfl
    | some u =>
      obtain ⟨rfl, n, _⟩ := only_at q
      rw [n] at e
      cases e
  have md : Mod K mg (hidT s.heap H) := ⟨kb, stay gl, ⟨mb, stay bl, bb⟩, by
    obtain ⟨mc, n1, n2⟩ := nl
    exact ⟨mc, stay n1, n2⟩⟩
  have env : Env0 P w K mg (hidT s.heap H) callerA [] s H :=
    ⟨rfl, md, fun b ob e => of_hidT e, Nat.le_of_eq (hidT_size _ _), trivial, fun b q => absurd (show b ∈ ([] : List Addr) from q) (by simp), ok, .of_eq ng⟩
  have run := (F _ kb (stay gl)).goes callerA [] s H ⟨[.ref a], []⟩ [.ref a] [.ref a] _ _ rm rfl env (bd s (.ref a)) (.cons rfl .nil) (pr H sq)
  refine codeAny_mono run fun r t z => ?_
  cases r with
  | error e => exact False.elim z
  | ok fl =>
    cases fl with
    | next => exact False.elim z
    | brk => exact False.elim z
    | cont => exact False.elim z
    | ret u =>
      obtain ⟨v, H', so, br, un, ok', rr, q⟩ := z
      obtain rfl : v = .bl true := q
      obtain rfl : u = Value.bool true := rr
      refine ⟨rfl, OldK.of_keep fun b ob e => ?_, so, br⟩
      cases q : H b with
      | none => exact un.keep b ob e q (by intro n; exact absurd (show b ∈ ([] : List Addr) from n) (by simp)) (by simp)
      | some u =>
        obtain ⟨rfl, n, rfl⟩ := only_at q
        obtain ⟨e2, _⟩ := ok' b _ (un.frzs b o _ q)
        rw [oa] at e
        cases e
        exact e2
theorem walkG {l : PySem.W.OpenLaw} {n k : Nat} {q : Program} {loose : List Str} {XP : (Str → Option Value) → Heap → Prop} {YP : World → Heap → Prop} {d : DefRec} {x : Str} (hn : l.most = some n) (hs : n ≤ sizeLine) (hd : d.params.defaults = []) (rm : Room k callerA)
    (F : ∀ (w : World) (mg : Str → Option Value) (fa : Addr) (h : Heap), YP w h → h.Ns mainGlobals mg → mg d.name = some (.ref fa) → ∃ (K : PySem.W.Frag) (fd : FuncData) (sp : Sp), K.In h ∧ (∀ (s : Shared) (u : Value), BindsTo s fd ⟨[u], []⟩ [(x, u)])
      ∧ (∀ (H : Hp) (a : Addr) (ns : List Int), ns.length ≤ n → SqL K H a (ns.map V.int) → sp [.ref a] H (fun v _ => v = .bl true) fun _ _ _ => False)
      ∧ ∀ base : Heap, K.In base → base.Ns mainGlobals mg → FnG l.prog w K mg base CX0 k fa fd [x] sp) :
    PySem.W.WalkO q loose XP YP l.row.toRowW d [] (fun f vs => PySem.call f vs) := by
  refine Att.attach_call hn hd ?_
  intro w s₀ s₁ mg mb fa o pm cd doc a vs ns G Y ho hd' hcd hmg hobj hints hlen hg
  obtain ⟨K, fd, sp, kx, bd, pr, FF⟩ := F w mg fa _ Y G.T.g hmg
  exact endG kx G.T.g G.T.b G.T.builtins G.T.nolimit hg hobj hints (Nat.le_trans hlen hs) rm FF bd fun H sq => pr H a ns hlen sq
end FL
namespace FL
open PySem PySem.Spec PyProof.Rows L2
/-! ### sorted(lines, key=f), f a def of one's own that tells (length, line) -/
def lineKey (z : V × Str) : PyData := .tuple [.int ((z.2.length : Nat) : Int), .str z.2]
def keyT (b : Str) : List V := [.int ((b.length : Nat) : Int), .str b]
def sortL (zs : List (V × Str)) : List (V × Str) := zs.mergeSort (PySem.W.dataLe false lineKey)
/-- an object of ours that no one tracks -/
structure Own (X : Cx) (pins : List (Addr × Obj)) (b : Addr) : Prop where
  new : b ∈ X.ex ∨ X.s_0.heap.objs.size ≤ b
  loc : b ≠ X.env.locals
  cel : ∀ x c, X.env.cells.lookup x = some c → c ≠ b
  pin : ∀ p ∈ X.pn ++ pins, p.1 ≠ b
  nfs : b ∉ X.fs
section
variable {X : Cx} {pins : List (Addr × Obj)} {σ : L2.St} {H : Hp} {s : Shared}
theorem Own.of (I : Inv X pins σ H s) {b : Addr} (h : s.heap.objs.size ≤ b) : Own X pins b := by
  refine ⟨.inr (Nat.le_trans I.sz h), fun e => ?_, fun x c e z => ?_, fun p hp e => ?_, I.nofs h⟩
  · have q := I.lt
    rw [← e] at q
    exact Nat.lt_irrefl _ (Nat.lt_of_lt_of_le q h)
  · obtain ⟨v, o, ho, _⟩ := I.cell x c e
    have q := Heap.lt_size ho
    rw [z] at q
    exact Nat.lt_irrefl _ (Nat.lt_of_lt_of_le q h)
  · have q := Heap.lt_size (I.pin p hp).1
    rw [e] at q
    exact Nat.lt_irrefl _ (Nat.lt_of_lt_of_le q h)
theorem Own.cons {b c : Addr} {o : Obj} (h : Own X pins b) (n : c ≠ b) : Own X ((c, o) :: pins) b :=
  ⟨h.new, h.loc, h.cel, fun p hp => by
    rcases List.mem_append.mp hp with hp | hp
    · exact h.pin p (List.mem_append_left _ hp)
    · rcases List.mem_cons.mp hp with rfl | hp
      · exact n
      · exact h.pin p (List.mem_append_right _ hp), h.nfs⟩
theorem drop_pin {q : Addr × Obj} (I : Inv X (q :: pins) σ H s) : Inv X pins σ H s :=
  I.pins_of fun p hp => I.pin p (List.mem_append_right _ (List.mem_cons_of_mem _ hp))
theorem put_pin {b : Addr} {o : Obj} (I : Inv X pins σ H s) (w : Own X pins b) (e : s.heap.get? b = some o) (n : H b = none) (nd : ∀ v, o.data ≠ .cell v) : Inv X ((b, o) :: pins) σ H s := by
  refine I.pins_of fun p hp => ?_
  rcases List.mem_cons.mp hp with rfl | hp
  · exact ⟨e, n, w.loc, w.nfs, nd⟩
  · exact I.pin p (List.mem_append_right _ hp)
theorem re_pin {b : Addr} {o o' : Obj} {h' : Heap} {t' : Nat} (I : Inv X ((b, o) :: pins) σ H s) (w : Own X pins b) (hs : Heap.SameBut b s.heap h') (e : h'.get? b = some o') (nd : ∀ v, o'.data ≠ .cell v) :
    Inv X ((b, o') :: pins) σ H { s with heap := h', toks := t' } := by
  have n : H b = none := (I.pin (b, o) (List.mem_append_right _ List.mem_cons_self)).2.1
  have I1 : Inv X pins σ H { s with heap := h', toks := t' } := (drop_pin I).turned (fun c u hc q => (hs.2 c hc).trans q) n w.loc w.new w.cel w.pin
  exact put_pin I1 w e n nd
theorem seq_nd {t : String} {xs : Array Value} {n : Nat} : ∀ v, (seqObj t xs n).data ≠ .cell v := fun _ e => by cases e

/-- what a call f(x) must do: a new tuple (length, line), all else as it was -/
def KeyTurn (X : Cx) (A' : Around) (f : Value) (H : Hp) (σ : L2.St) (zs : List (V × Str)) : Prop :=
  ∀ (pins : List (Addr × Obj)) (s : Shared) (Hi : Hp) (u : Value) (z : V × Str), z ∈ zs → Inv X pins σ Hi s → (∀ b o, H b = some o → Hi b = some o) → RelV z.1 u →
    wpAny (model X.prog X.w) A' (call f [u]) (EP X pins σ fun v H' => ∃ p, v = .ref p ∧ Hi p = none ∧ H' = upd Hi p (.tup (keyT z.2))) (fun _ _ => False) s
theorem key_reads (I : Inv X pins σ H s) {p : Addr} {b : Str} (h : H p = some (.tup (keyT b))) : ∃ as, Reads s.heap (.ref p) (.tuple [.int ((b.length : Nat) : Int), .str b]) as :=
  Dp.reads I _ (.ref p) (.ref p) (.tup (SqT.of h) (.cons (.int _) (.cons (.str _) .nil))) rfl
theorem each_mono_mem {α β : Type} {R R' : α → β → Prop} {as : List α} {bs : List β} (h : PySem.W.EachIs R as bs) (k : ∀ a b, R a b → R' a b) : PySem.W.EachIs R' as bs := h.mono k
theorem hide1 {h : Heap} {a kS : Addr} : PySem.W.KeepsBut a (PySem.W.hideAll h [kS]) h := fun _ _ _ e => PySem.W.of_hideAll _ e
theorem alike_keys (zs : List (V × Str)) : PySem.W.AllAlike (zs.map lineKey) := PySem.W.AllAlike.of fun b b' => by simp [PySem.W.alike, PySem.W.alikeAll, lineKey]
theorem sortable_keys (zs : List (V × Str)) : PySem.W.Sortable (zs.map lineKey) := PySem.W.Sortable.tuples fun _ => ⟨_, _, rfl⟩
theorem depth_key (z : V × Str) : (lineKey z).depth = 1 := by simp [lineKey, PyData.depth, PyData.depthAll]
theorem vals_each : ∀ {zs : List (V × Str)} {us : List Value}, PySem.W.EachIs (fun u (z : V × Str) => RelV z.1 u) us zs → Vals (zs.map Prod.fst) us
  | _, _, .nil => .nil
  | _, _, .cons h t => .cons h (vals_each t)
theorem each_vals : ∀ {zs : List (V × Str)} {us : List Value}, Vals (zs.map Prod.fst) us → PySem.W.EachIs (fun u (z : V × Str) => RelV z.1 u) us zs
  | [], _, h => by cases h; exact .nil
  | _ :: _, _, h => by
    cases h with
    | cons h t => exact .cons h (each_vals t)
theorem key_rest {A' : Around} {f : Value} {a kS : Addr} {e1 : Nat} {us : List Value} {zs : List (V × Str)} {E : Value → Shared → Prop} {P : PySem.Fin → Shared → Prop}
    (I : Inv X ((kS, seqObj "list" #[] 0) :: (a, seqObj "list" #[] e1) :: pins) σ H s) (wa : Own X pins a) (wk : Own X pins kS) (hka : kS ≠ a) (r : Vals (zs.map Prod.fst) us) (hZ : zs.length ≤ sizeLine)
    (hu : A'.units + 1 < cLine) (turn : KeyTurn X A' f H σ zs)
    (h : ∀ (s' : Shared) (H' : Hp), Inv X pins σ H' s' → (∀ b o, H b = some o → H' b = some o) → H a = none → H' a = some (.lst ((sortL zs).map Prod.fst)) → P (.done (.ret .none)) s') :
    wpAny (model X.prog X.w) A' (ksk_rest a f false us.toArray e1 (.ref kS)) P E s := by
  have hl : us.length = zs.length := by rw [← r.length, List.length_map]
  have na0 : H a = none := (I.pin (a, seqObj "list" #[] e1) (List.mem_append_right _ (List.mem_cons_of_mem _ List.mem_cons_self))).2.1
  unfold ksk_rest
  refine wpAny_bind (wpAny_rule ?_)
  first
    | rw [List.forIn_toArray]
    | (rw [← Array.forIn_toList]; simp only [List.toList_toArray])
    | rw [← Array.forIn_toList]
  refine wpAny_bind (ksk_fold (fun i s' => ∃ Hi kA e, Inv X ((kS, seqObj "list" kA e) :: (a, seqObj "list" #[] e1) :: pins) σ Hi s' ∧ (∀ b o, H b = some o → Hi b = some o)
      ∧ PySem.W.EachIs (fun (v : Value) (z : V × Str) => ∃ p, v = .ref p ∧ Hi p = some (.tup (keyT z.2))) kA.toList (zs.take i)) us 0 s
    ⟨H, #[], 0, I, fun _ _ e => e, by rw [List.take_zero]; exact .nil⟩ ?step ?done)
  case step =>
    rintro j x s' hx ⟨Hi, kA, e, I', kp, ek⟩
    simp only [Nat.zero_add] at ek ⊢
    have hj : j < us.length := (List.getElem?_eq_some_iff.mp hx).1
    have hjz : j < zs.length := by omega
    have hz : zs[j]? = some zs[j] := List.getElem?_eq_getElem hjz
    have hxf : (zs.map Prod.fst)[j]? = some zs[j].1 := by rw [List.getElem?_map, hz]; rfl
    obtain ⟨u', hu', ru⟩ := r.get hxf
    rw [hx] at hu'
    obtain rfl : x = u' := Option.some.inj hu'
    refine wpAny_bind (wpAny_attempt (wpAny_mono (turn _ s' Hi x zs[j] (List.getElem_mem hjz) I' kp ru) (fun v s'' he => ?_) fun _ _ hF => hF.elim))
    obtain ⟨v', H'', I2, rv, p, rfl, np, rfl⟩ := he
    obtain rfl : v = Value.ref p := rv
    try dsimp only
    have pk := I2.pin (kS, seqObj "list" kA e) (List.mem_append_right _ List.mem_cons_self)
    have s1 := Heap.SameBut.update s''.heap kS (Obj.mapSeq (·.push (Value.ref p)))
    obtain ⟨c2, hc2⟩ : ∃ c2, (s''.heap.update kS (Obj.mapSeq (·.push (Value.ref p)))).get? kS = some (seqObj "list" (kA.push (Value.ref p)) c2) := ⟨_, get?_update_seq pk.1 (·.push (Value.ref p))⟩
    have hz2 : kA.size ≤ sizeLine := by
      have h1 := ek.length
      rw [Array.length_toList, List.length_take] at h1
      omega
    refine wpAny_bind (listUpdate_at pk.1 rfl ?_ hz2 (Nat.le_trans (Nat.le_of_eq (Array.size_push ..)) (Nat.succ_le_succ hz2)))
    have kp2 : ∀ b o, Hi b = some o → (upd Hi p (.tup (keyT zs[j].2))) b = some o := fun b o q => by rw [upd_ne (ne_of_none q np)]; exact q
    refine wpAny_pure ⟨rfl, upd Hi p (.tup (keyT zs[j].2)), kA.push (.ref p), c2, re_pin (t' := s''.toks) I2 (wk.cons hka.symm) s1 hc2 seq_nd, fun b o q => kp2 b o (kp b o q), ?_⟩
    have e2 : zs.take (j + 1) = zs.take j ++ [zs[j]] := by rw [List.take_add_one, hz]; simp
    have e3 : (kA.push (Value.ref p)).toList = kA.toList ++ [Value.ref p] := by simp
    rw [e2, e3]
    exact PySem.W.each_snoc (R := fun (v : Value) (z : V × Str) => ∃ q, v = .ref q ∧ (upd Hi p (.tup (keyT zs[j].2))) q = some (.tup (keyT z.2))) ⟨p, rfl, upd_same⟩ (ek.mono fun _ _ ⟨q, e, hq⟩ => ⟨q, e, kp2 _ _ hq⟩)
  case done =>
    rintro s' ⟨Hi, kA, e, I', kp, ek⟩
    have e3 : zs.take (0 + us.length) = zs := List.take_of_length_le (by omega)
    rw [e3] at ek
    have pk := I'.pin (kS, seqObj "list" kA e) (List.mem_append_right _ List.mem_cons_self)
    have pa := I'.pin (a, seqObj "list" #[] e1) (List.mem_append_right _ (List.mem_cons_of_mem _ List.mem_cons_self))
    have ek' : PySem.W.EachIs (fun (v : Value) (z : V × Str) => ∃ as, Reads s'.heap v (lineKey z) as) kA.toList zs := ek.mono fun v z ⟨p, e, hp⟩ => by
      subst e
      exact key_reads I' hp
    have hk' : PySem.W.EachIs (fun v k => ∃ as, Reads s'.heap v k as) kA.toList (zs.map lineKey) := PySem.W.each_map (R := fun v k => ∃ as, Reads s'.heap v k as) lineKey ek'
    have hsz : kA.size = us.length := by
      have h1 := ek.length
      rw [Array.length_toList] at h1
      omega
    try dsimp only
    refine wpAny_bind (listItems_at pk.1 rfl ?_)
    refine PySem.W.keyH_end (κ := PySem.W.dataKind s'.heap (zs.map lineKey)) (h₁ := PySem.W.hideAll s'.heap [kS]) hide1 (PySem.W.hideAll_none _ List.mem_cons_self) pk.1 pa.1 hka
      (PySem.W.SortsAt.data hk' (alike_keys zs) (sortable_keys zs) (PySem.W.bound_map (A := A') fun z _ => by rw [depth_key]; exact hu)) hsz (by omega) fun h' tk c kp3 ha3 => ?_
    have eo : PySem.W.EachIs (fun u (z : V × Str) => RelV z.1 u) (PySem.W.sortVals (PySem.W.dataKind s'.heap (zs.map lineKey)) false kA.toList us) (sortL zs) :=
      PySem.W.keyedOut_each lineKey ⟨s'.heap, kA.toList, alike_keys zs, rfl, hk'⟩ (each_vals r)
    generalize PySem.W.sortVals (PySem.W.dataKind s'.heap (zs.map lineKey)) false kA.toList us = out at eo ha3
    have I0 : Inv X pins σ Hi s' := drop_pin (drop_pin I')
    have na : Hi a = none := pa.2.1
    have nk : Hi kS = none := pk.2.1
    have keepAll : ∀ b o, b ∉ [a, kS] → s'.heap.get? b = some o → h'.get? b = some o := fun b o hb q =>
      kp3 b o (fun z => hb (by rw [z]; exact List.mem_cons_self)) (PySem.W.hideAll_get _ q fun z => hb (List.mem_cons_of_mem _ z))
    have nt : ∀ b u, Hi b = some u → b ∉ [a, kS] := fun b u q z => by
      rcases List.mem_cons.mp z with z | z
      · rw [z, na] at q; cases q
      · rw [List.mem_singleton.mp z, nk] at q; cases q
    have kpU : ∀ b o, Hi b = some o → (upd Hi a (.lst ((sortL zs).map Prod.fst))) b = some o := fun b o q => by rw [upd_ne (ne_of_none q na)]; exact q
    refine h { s' with heap := h', toks := tk } (upd Hi a (.lst ((sortL zs).map Prod.fst))) ?_ (fun b o q => kpU b o (kp b o q)) na0 upd_same
    refine I0.step (g' := s'.gens) (d' := s'.drawn) (ch := [a, kS]) (fun b hb => ?_) (fun b o _ _ hc q _ => keepAll b o hc q) (fun b o _ _ hc q _ => ⟨o.slots, keepAll b o hc q⟩)
      (fun b o hc _ n => by rw [upd_ne (fun z => hc (by rw [z]; exact List.mem_cons_self))]; exact n) (fun b o hc q => ⟨o, keepAll b o hc q⟩) (fun b xs q => kpU b _ q) (fun b o u q => kpU b _ q) (fun b ps q => ⟨#[], by rw [kpU b _ q]; simp⟩) (fun m hm => ?_) (fun b u q => ?_) I0.bare
    · rcases List.mem_cons.mp hb with rfl | hb
      · exact ⟨wa.new, wa.loc, wa.cel, wa.pin⟩
      · rw [List.mem_singleton.mp hb]
        exact ⟨wk.new, wk.loc, wk.cel, wk.pin⟩
    · obtain ⟨o, es, ep, ho, q⟩ := hm
      refine ⟨o, es, ep, keepAll _ o (fun z => ?_) ho, q⟩
      rcases List.mem_cons.mp z with z | z
      · exact wa.loc z.symm
      · exact wk.loc (List.mem_singleton.mp z).symm
    · by_cases hb : b = a
      · rw [hb] at q ⊢
        rw [upd_same] at q
        cases q
        refine ⟨?_, out, c, vals_each eo, ha3⟩
        have h1 := (vals_each eo).length
        rw [List.length_map]
        have h2 : (sortL zs).length = zs.length := (List.mergeSort_perm _ _).length_eq
        omega
      · rw [upd_ne hb] at q
        exact (I0.hok b u q).stay (fun d v hd y => keepAll d v (by
          rcases hd with z | z
          · rw [z]; exact nt b u q
          · exact nt d _ z) y) (fun d y => kpU d _ y) fun d xs y => kpU d _ y

theorem key_sorted {f l : Addr} {zs : List (V × Str)} {Q : VK} (I : Inv X pins σ H s) (hl : SqL X.K H l (zs.map Prod.fst)) (hu : X.A.units + 64 < cLine) (turn : KeyTurn X X.A.in1.in1 (.ref f) H σ zs)
    (h : ∀ (H' : Hp) (a : Addr), (∀ b o, H b = some o → H' b = some o) → H a = none → H' a = some (.lst ((sortL zs).map Prod.fst)) → Q (.ref a) H') :
    wpAny (model X.prog X.w) X.A (call (.builtin "sorted") [.ref l] [(Str.ofString "key", .ref f)]) (EP X pins σ Q) X.xe s := by
  obtain ⟨us, r, hL, hz⟩ := I.list hl
  have hzl : zs.length = us.length := by rw [← r.length, List.length_map]
  rw [List.length_map] at hz
  refine PySem.W.sorted_of_sort hL.isList (by omega) (ksk_s1 _ _) (fun _ => ksk_l1 _ _) fun E' => ?_
  rw [ksk_t1]
  have fresh : s.heap.objs.size ≤ s.heap.objs.size + 1 := Nat.le_succ _
  have wa0 : Own X pins (s.heap.objs.size + 1) := Own.of I fresh
  have hna : H (s.heap.objs.size + 1) = none := I.hok.fresh fresh
  have ho := PySem.W.copyHeap_at s.heap us
  have hsz : (PySem.W.copyHeap s.heap us).objs.size = s.heap.objs.size + 2 := by
    unfold PySem.W.copyHeap
    rw [size_push', Heap.size_update, size_push']
  obtain ⟨e1, ho1⟩ : ∃ e1, ((PySem.W.copyHeap s.heap us).update (s.heap.objs.size + 1) (Obj.mapSeq fun _ => (#[] : Array Value))).get? (s.heap.objs.size + 1) = some (seqObj "list" #[] e1) := ⟨_, get?_update_seq ho fun _ => #[]⟩
  unfold ksk_tree
  refine wpAny_bind (listItems_at ho rfl ?_)
  refine wpAny_bind (listUpdate_at ho rfl ?_ (by rw [List.size_toArray]; omega) (Nat.zero_le _))
  refine wpAny_bind (seqEpoch_at ho1 rfl ?_)
  refine wpAny_bind (wpAny_newTuple ?_ (by show us.length ≤ _; omega))
  refine wpAny_bind (wpAny_newList ?_ (Nat.zero_le _))
  refine wpAny_holding ?_
  have hkS : (((PySem.W.copyHeap s.heap us).update (s.heap.objs.size + 1) (Obj.mapSeq fun _ => (#[] : Array Value))).push (seqObj "tuple" us.toArray 0)).objs.size = s.heap.objs.size + 3 := by
    rw [size_push', Heap.size_update, hsz]
  have wk0 : Own X pins (s.heap.objs.size + 3) := Own.of I (Nat.le_add_right _ _)
  have hnk : H (s.heap.objs.size + 3) = none := I.hok.fresh (Nat.le_add_right _ _)
  have ne : s.heap.objs.size + 3 ≠ s.heap.objs.size + 1 := by omega
  have kp : ∀ b o, s.heap.get? b = some o → ((((PySem.W.copyHeap s.heap us).update (s.heap.objs.size + 1) (Obj.mapSeq fun _ => (#[] : Array Value))).push (seqObj "tuple" us.toArray 0)).push (seqObj "list" #[] 0)).get? b = some o := fun b o q => PySem.W.sorting_copy_old q
  have I1 : Inv X pins σ H { s with heap := (((PySem.W.copyHeap s.heap us).update (s.heap.objs.size + 1) (Obj.mapSeq fun _ => (#[] : Array Value))).push (seqObj "tuple" us.toArray 0)).push (seqObj "list" #[] 0) } := I.kept (t' := s.toks) kp
  have atA : ((((PySem.W.copyHeap s.heap us).update (s.heap.objs.size + 1) (Obj.mapSeq fun _ => (#[] : Array Value))).push (seqObj "tuple" us.toArray 0)).push (seqObj "list" #[] 0)).get? (s.heap.objs.size + 1) = some (seqObj "list" #[] e1) := Heap.get?_push_of_some _ (Heap.get?_push_of_some _ ho1)
  have atK : ((((PySem.W.copyHeap s.heap us).update (s.heap.objs.size + 1) (Obj.mapSeq fun _ => (#[] : Array Value))).push (seqObj "tuple" us.toArray 0)).push (seqObj "list" #[] 0)).get? (s.heap.objs.size + 3) = some (seqObj "list" #[] 0) := by
    have q := Heap.get?_push_size (h := ((PySem.W.copyHeap s.heap us).update (s.heap.objs.size + 1) (Obj.mapSeq fun _ => (#[] : Array Value))).push (seqObj "tuple" us.toArray 0)) (o := seqObj "list" #[] 0) rfl
    rw [hkS] at q
    exact q
  have I2 := put_pin (put_pin I1 wa0 atA hna seq_nd) (wk0.cons ne.symm) atK hnk seq_nd
  rw [hkS]
  exact key_rest I2 wa0 wk0 ne r (by omega) (by show X.A.units + 1 + 1 + 1 < cLine; omega) turn fun s' H' I' kp' na ha => ⟨rfl, .ref _, H', I', rfl, h H' _ kp' na ha⟩
end

/-! ### line_order, and sorted by it -/
def lineD (b : Str) : PyData := .tuple [.int ((b.length : Nat) : Int), .str b]
def ordL (bs : List Str) : List Str := bs.mergeSort (PySem.W.dataLe false lineD)
theorem sortL_map (bs : List Str) : ((sortL (bs.map fun b => (V.str b, b))).map Prod.fst) = (ordL bs).map V.str := by
  have e : sortL (bs.map fun b => (V.str b, b)) = (ordL bs).map fun b => (V.str b, b) := by
    unfold sortL ordL
    have q := List.map_mergeSort (r := PySem.W.dataLe false lineD) (s := PySem.W.dataLe false lineKey) (f := fun b : Str => (V.str b, b)) (l := bs) (fun a _ b _ => rfl)
    exact q.symm
  rw [e, List.map_map]
  rfl
def spOrder : Sp := fun vs H Q _ => ∃ b : Str, vs = [.str b] ∧ b.length ≤ sizeLine ∧ ∀ p, H p = none → Q (.ref p) (upd H p (.tup (keyT b)))
def rSortF (K : PySem.W.Frag) (f : Addr) : List V → List V → Hp → VK → Prop := fun vs ws H Q => ∃ (l : Addr) (bs : List Str), vs = [.ref l] ∧ ws = [.ref f] ∧ SqL K H l (bs.map V.str) ∧ (∀ b ∈ bs, b.length ≤ sizeLine)
  ∧ ∀ H' a, (∀ b o, H b = some o → H' b = some o) → H a = none → H' a = some (.lst ((ordL bs).map V.str)) → Q (.ref a) H'
section
variable {X : Cx}
theorem call_sortF {f : Addr} {fd : FuncData} {k : Nat} (F : FnOk X.prog X.w X.K X.mg X.base CX0 k f fd ["line"] spOrder) (hb : Binds X.K fd ["line"] []) (hr : Room (k + 2) X.A) :
    CallRK X (.builtin "sorted") [Str.ofString "key"] (rSortF X.K f) := by
  intro pins s σ H vs ws us us2 Q I r1 r2 h
  obtain ⟨l, bs, rfl, rfl, hl, hbs, q⟩ := h
  obtain rfl := Vals.ref1 r1
  obtain rfl := Vals.ref1 r2
  have e1 : (bs.map fun b => (V.str b, b)).map Prod.fst = bs.map V.str := by rw [List.map_map]; rfl
  refine key_sorted (zs := bs.map fun b => (V.str b, b)) I (by rw [e1]; exact hl) (by have := hr.un; omega) (fun pins2 s2 Hi u z hz I2 kp ru => ?_) fun H' a kp na ha => q H' a kp na (by rw [← sortL_map]; exact ha)
  obtain ⟨b, hbm, rfl⟩ := List.mem_map.mp hz
  have rv : Vals [V.str b] ([u] ++ []) := .cons ru .nil
  refine wpAny_call (codeAny_mono (F.run X.A.in1.in1 X.stack s2 Hi ⟨[u], []⟩ ([u] ++ []) [V.str b] (fun v H' => ∃ p, v = .ref p ∧ Hi p = none ∧ H' = upd Hi p (.tup (keyT b))) E0 hr.in1.in1 I2.env0.in1.in1 (hb s2 [u] I2.kIn rfl) rv ⟨b, rfl, hbs b hbm, fun p hp => ⟨p, rfl, hp, rfl⟩⟩) fun r s' hq => ?_)
  cases r with
  | error e => exact hq
  | ok fl =>
    cases fl with
    | ret u => exact I2.after hq
    | next => exact False.elim hq
    | brk => exact False.elim hq
    | cont => exact False.elim hq
end
end FL
namespace FL
open PySem PySem.Spec PyProof.Rows L2
/-! ### where a turning of lines is even -/
abbrev Lns := List Nat
abbrev ls (y : Str) : Lns := y.cps.toList
abbrev st (l : Lns) : Str := ⟨l.toArray⟩
theorem ls_st (l : Lns) : ls (st l) = l := rfl
theorem st_ls (y : Str) : st (ls y) = y := Str_ext rfl
theorem ls_inj {a b : Str} (h : ls a = ls b) : a = b := Str_ext h
theorem ls_app (a b : Str) : ls (a ++ b) = ls a ++ ls b := by
  show (a ++ b).cps.toList = _
  rw [Str.cps_append, Array.toList_append]
theorem cut_take (y : Str) (n : Nat) : ls (cutS y none (some (n : Int))) = (ls y).take n := by
  show ((y.cps.toList.drop (HT.sIx y.length 0 none)).take (HT.sIx y.length y.length (some ((n : Nat) : Int)) - HT.sIx y.length 0 none)).toArray.toList = _
  rw [HT.sIx_nat, HT.sIx_none]
  show (List.drop 0 y.cps.toList).take (min n y.length - 0) = _
  rw [List.drop_zero, Nat.sub_zero, str_len]
  by_cases h : n ≤ y.cps.toList.length
  · rw [Nat.min_eq_left h]
  · rw [Nat.min_eq_right (by omega), List.take_of_length_le (Nat.le_refl _), List.take_of_length_le (show (ls y).length ≤ n by show y.cps.toList.length ≤ n; omega)]
theorem cut_drop (y : Str) (n : Nat) : ls (cutS y (some (n : Int)) none) = (ls y).drop n := by
  show ((y.cps.toList.drop (HT.sIx y.length 0 (some ((n : Nat) : Int)))).take (HT.sIx y.length y.length none - HT.sIx y.length 0 (some ((n : Nat) : Int)))).toArray.toList = _
  rw [HT.sIx_nat, HT.sIx_none]
  show (List.drop (min n y.length) y.cps.toList).take (y.length - min n y.length) = _
  rw [str_len]
  by_cases h : n ≤ y.cps.toList.length
  · rw [Nat.min_eq_left h, List.take_of_length_le (by rw [List.length_drop]; omega)]
  · rw [Nat.min_eq_right (by omega), List.drop_of_length_le (Nat.le_refl _), List.drop_of_length_le (show (ls y).length ≤ n by show y.cps.toList.length ≤ n; omega), List.take_nil]
/-- the turning by rules, on lists -/
def tL : List Rule → Lns → Lns
  | [], l => l
  | r :: rs, l => match r.fr with
    | true => if ls r.old <+: l then ls r.new ++ l.drop (ls r.old).length else tL rs l
    | false => if l = ls r.old then ls r.new else tL rs l
theorem fits_front {r : Rule} {y : Str} (h : r.fr = true) : fits r y = true ↔ ls r.old <+: ls y := by
  unfold fits
  rw [h]
  show decide (cutS y none (some (r.old.length : Int)) = r.old) = true ↔ _
  rw [decide_eq_true_eq]
  constructor
  · intro e
    have e2 : ls (cutS y none (some (r.old.length : Int))) = ls r.old := by rw [e]
    rw [cut_take] at e2
    rw [← e2]
    exact List.take_prefix _ _
  · intro e
    apply ls_inj
    rw [cut_take]
    have e3 := List.prefix_iff_eq_take.mp e
    rw [str_len]
    exact e3.symm
theorem turn_list : ∀ (rs : List Rule) (y : Str), ls (turn rs y) = tL rs (ls y)
  | [], _ => rfl
  | r :: rs, y => by
    show ls (if fits r y = true then turnR r y else turn rs y) = _
    unfold tL
    cases e : r.fr with
    | true =>
      simp only
      by_cases h : ls r.old <+: ls y
      · rw [if_pos h, if_pos ((fits_front e).mpr h)]
        unfold turnR
        rw [e]
        show ls (r.new ++ cutS y (some (r.old.length : Int)) none) = _
        rw [ls_app, cut_drop, str_len]
      · rw [if_neg h, if_neg (fun q => h ((fits_front e).mp q)), turn_list rs y]
    | false =>
      simp only
      have hf : fits r y = decide (y = r.old) := by unfold fits; rw [e]
      rw [hf]
      by_cases h : y = r.old
      · rw [if_pos (by simpa using h), if_pos (by rw [h])]
        unfold turnR
        rw [e]
      · rw [if_neg (by simpa using h), if_neg (fun q => h (ls_inj q)), turn_list rs y]
/-- rules that ask for no beginning u turn u and what stands behind it alike -/
theorem tL_app {u s : Lns} : ∀ {rs : List Rule}, (∀ r ∈ rs, ¬ u <+: ls r.old) → tL rs (u ++ s) = tL rs u ++ s
  | [], _ => rfl
  | r :: rs, h => by
    have h1 := h r List.mem_cons_self
    have ih := tL_app (s := s) fun r' hr' => h r' (List.mem_cons_of_mem _ hr')
    unfold tL
    cases e : r.fr with
    | true =>
      simp only
      by_cases hp : ls r.old <+: u
      · have hp2 : ls r.old <+: u ++ s := hp.trans (List.prefix_append _ _)
        rw [if_pos hp, if_pos hp2, List.append_assoc, List.drop_append_of_le_length hp.length_le]
      · have hp2 : ¬ ls r.old <+: u ++ s := fun q => by
          rcases Nat.le_total (ls r.old).length u.length with hl | hl
          · exact hp (List.prefix_of_prefix_length_le q (List.prefix_append _ _) hl)
          · exact h1 (List.prefix_of_prefix_length_le (List.prefix_append _ _) q hl)
        rw [if_neg hp, if_neg hp2, ih]
    | false =>
      simp only
      have n1 : ¬ u = ls r.old := fun q => h1 (by rw [q]; exact List.prefix_rfl)
      have n2 : ¬ u ++ s = ls r.old := fun q => h1 (by rw [← q]; exact List.prefix_append _ _)
      rw [if_neg n1, if_neg n2, ih]
section
variable (z : Lns) (F : Lns → Lns)
/-- even at u, for what stands behind of the signs z -/
def Evn (u : Lns) : Prop := ∀ s, (∀ c ∈ s, c ∈ z) → F (u ++ s) = F u ++ s
variable {z F}
theorem Evn.one {u : Lns} (h : Evn z F u) {c : Nat} (hc : c ∈ z) : F (u ++ [c]) = F u ++ [c] := h [c] fun d hd => by rw [List.mem_singleton.mp hd]; exact hc
theorem Evn.down {u s : Lns} (h : Evn z F u) (hs : ∀ c ∈ s, c ∈ z) : Evn z F (u ++ s) := fun t ht => by
  rw [List.append_assoc, h (s ++ t) (fun c hc => (List.mem_append.mp hc).elim (hs c) (ht c)), h s hs, List.append_assoc]
theorem evn_step {u : Lns} : Evn z F u ↔ ∀ c ∈ z, Evn z F (u ++ [c]) ∧ F (u ++ [c]) = F u ++ [c] := by
  constructor
  · intro h c hc
    exact ⟨h.down fun d hd => by rw [List.mem_singleton.mp hd]; exact hc, h.one hc⟩
  · intro h s hs
    cases s with
    | nil => rw [List.append_nil, List.append_nil]
    | cons c s =>
      have hc := h c (hs c List.mem_cons_self)
      have e := hc.1 s fun d hd => hs d (List.mem_cons_of_mem _ hd)
      rw [List.append_assoc] at e
      show F (u ++ ([c] ++ s)) = F u ++ (c :: s)
      rw [e, hc.2, List.append_assoc]
      rfl
/-- a cell's line -/
def Cell (z : Lns) (F : Lns → Lns) (l : Lns) : Prop := l = [] ∨ ¬ Evn z F l ∨ ∃ u c, c ∈ z ∧ l = u ++ [c] ∧ ¬ Evn z F u
theorem Evn.congr {G : Lns → Lns} {u : Lns} (hu : ∀ c ∈ u, c ∈ z) (e : ∀ l, (∀ c ∈ l, c ∈ z) → F l = G l) : Evn z F u ↔ Evn z G u := by
  constructor
  · intro h s hs
    rw [← e _ (fun c hc => (List.mem_append.mp hc).elim (hu c) (hs c)), ← e u hu]
    exact h s hs
  · intro h s hs
    rw [e _ (fun c hc => (List.mem_append.mp hc).elim (hu c) (hs c)), e u hu]
    exact h s hs
/-- each line is that of a whole cell, or stands behind a front cell's -/
theorem cell_of : ∀ (n : Nat) (l : Lns), l.length = n → (∀ c ∈ l, c ∈ z) → ¬ Evn z F l ∨ ∃ u s, l = u ++ s ∧ Evn z F u ∧ Cell z F u
  | 0, l, h, _ => by
    have e : l = [] := List.eq_nil_of_length_eq_zero h
    by_cases hv : Evn z F l
    · exact .inr ⟨l, [], by rw [List.append_nil], hv, .inl e⟩
    · exact .inl hv
  | n + 1, l, h, hz => by
    by_cases hv : Evn z F l
    · right
      have hne : l ≠ [] := fun e => by rw [e] at h; cases h
      obtain ⟨u, c, rfl⟩ : ∃ u c, l = u ++ [c] := ⟨l.dropLast, l.getLast hne, (List.dropLast_concat_getLast hne).symm⟩
      have hc : c ∈ z := hz c (List.mem_append_right _ (List.mem_singleton.mpr rfl))
      rcases cell_of n u (by rw [List.length_append] at h; exact Nat.succ.inj h) (fun d hd => hz d (List.mem_append_left _ hd)) with q | ⟨u', s, e, h1, h2⟩
      · exact ⟨u ++ [c], [], by rw [List.append_nil], hv, .inr (.inr ⟨u, c, hc, rfl, q⟩)⟩
      · exact ⟨u', s ++ [c], by rw [e, List.append_assoc], h1, h2⟩
    · exact .inl hv
/-- two turnings that agree at the cells of both agree at each line -/
theorem agree {G : Lns → Lns} (h : ∀ l, (∀ c ∈ l, c ∈ z) → Cell z F l ∨ Cell z G l → F l = G l) : ∀ (n : Nat) (l : Lns), l.length = n → (∀ c ∈ l, c ∈ z) → F l = G l
  | 0, l, e, hz => h l hz (.inl (.inl (List.eq_nil_of_length_eq_zero e)))
  | n + 1, l, e, hz => by
    have hne : l ≠ [] := fun q => by rw [q] at e; cases e
    obtain ⟨u, c, rfl⟩ : ∃ u c, l = u ++ [c] := ⟨l.dropLast, l.getLast hne, (List.dropLast_concat_getLast hne).symm⟩
    have hc : c ∈ z := hz c (List.mem_append_right _ (List.mem_singleton.mpr rfl))
    have hu : ∀ d ∈ u, d ∈ z := fun d hd => hz d (List.mem_append_left _ hd)
    by_cases h1 : Evn z F u
    · by_cases h2 : Evn z G u
      · rw [h1.one hc, h2.one hc, agree h n u (by rw [List.length_append] at e; exact Nat.succ.inj e) hu]
      · exact h _ hz (.inr (.inr (.inr ⟨u, c, hc, rfl, h2⟩)))
    · exact h _ hz (.inl (.inr (.inr ⟨u, c, hc, rfl, h1⟩)))
end
end FL
namespace FL
open PySem PySem.Spec PyProof.Rows L2
/-! ### dicts whose keys are texts -/
def KeysOf (kvs : List (Key × V)) (bs : List Str) : Prop := kvs.map (·.1) = bs.map Sum.inr ∧ bs.Nodup
def addB (bs : List Str) (b : Str) : List Str := if b ∈ bs then bs else bs ++ [b]
theorem mem_addB {bs : List Str} {b x : Str} : x ∈ addB bs b ↔ x ∈ bs ∨ x = b := by
  unfold addB
  by_cases h : b ∈ bs
  · rw [if_pos h]
    exact ⟨.inl, fun q => q.elim id fun e => by rw [e]; exact h⟩
  · rw [if_neg h, List.mem_append, List.mem_singleton]
theorem addB_len (bs : List Str) (b : Str) : (addB bs b).length ≤ bs.length + 1 := by
  unfold addB
  by_cases h : b ∈ bs
  · rw [if_pos h]; omega
  · rw [if_neg h, List.length_append]; exact Nat.le_refl _
theorem addB_nodup {bs : List Str} {b : Str} (h : bs.Nodup) : (addB bs b).Nodup := by
  unfold addB
  by_cases q : b ∈ bs
  · rw [if_pos q]; exact h
  · rw [if_neg q]
    refine List.nodup_append.mpr ⟨h, by simp, fun x hx y hy e => ?_⟩
    rw [List.mem_singleton.mp hy] at e
    exact q (e ▸ hx)
theorem KeysOf.mem {kvs : List (Key × V)} {bs : List Str} (h : KeysOf kvs bs) {b : Str} : b ∈ bs ↔ ∃ kv ∈ kvs, kv.1 = Sum.inr b := by
  constructor
  · intro hb
    have : Sum.inr b ∈ kvs.map (·.1) := by rw [h.1]; exact List.mem_map.mpr ⟨b, hb, rfl⟩
    obtain ⟨kv, h1, h2⟩ := List.mem_map.mp this
    exact ⟨kv, h1, h2⟩
  · rintro ⟨kv, h1, h2⟩
    have : (Sum.inr b : Key) ∈ bs.map Sum.inr := by rw [← h.1]; exact List.mem_map.mpr ⟨kv, h1, h2⟩
    obtain ⟨x, h3, h4⟩ := List.mem_map.mp this
    rw [← Sum.inr.inj h4]
    exact h3
theorem KeysOf.val {kvs : List (Key × V)} {bs : List Str} (h : KeysOf kvs bs) {b : Str} : valV kvs (Sum.inr b) ≠ none ↔ b ∈ bs := by
  rw [h.mem]
  have q := valV_any (kvs := kvs) (k := (Sum.inr b : Key))
  constructor
  · intro hn
    have e : (kvs.any fun kv => decide (kv.1 = (Sum.inr b : Key))) = true := by
      rw [q]
      cases e : valV kvs (Sum.inr b : Key) with
      | none => exact absurd e hn
      | some v => rfl
    obtain ⟨kv, h1, h2⟩ := List.any_eq_true.mp e
    exact ⟨kv, h1, of_decide_eq_true h2⟩
  · rintro ⟨kv, h1, h2⟩ hn
    have e : (kvs.any fun kv => decide (kv.1 = (Sum.inr b : Key))) = true := List.any_eq_true.mpr ⟨kv, h1, decide_eq_true h2⟩
    rw [q, hn] at e
    cases e
theorem KeysOf.put {kvs : List (Key × V)} {bs : List Str} (h : KeysOf kvs bs) (b : Str) (v : V) : KeysOf (putK kvs (Sum.inr b) v) (addB bs b) := by
  refine ⟨?_, addB_nodup h.2⟩
  unfold addB
  by_cases q : b ∈ bs
  · rw [if_pos q]
    have hv := h.val.mpr q
    have e : (kvs.any fun kv => decide (kv.1 = (Sum.inr b : Key))) = true := by
      rw [valV_any]
      cases e : valV kvs (Sum.inr b : Key) with
      | none => exact absurd e hv
      | some v => rfl
    unfold putK
    rw [if_pos e, ← h.1, List.map_map]
    refine List.map_congr_left fun kv _ => ?_
    show (if kv.1 = Sum.inr b then (kv.1, v) else kv).1 = kv.1
    by_cases z : kv.1 = Sum.inr b
    · rw [if_pos z]
    · rw [if_neg z]
  · rw [if_neg q]
    have hv : valV kvs (Sum.inr b : Key) = none := by
      cases e : valV kvs (Sum.inr b : Key) with
      | none => rfl
      | some v => exact absurd (h.val.mp (by rw [e]; exact fun z => nomatch z)) q
    rw [putK_new _ hv, List.map_append, h.1, List.map_append]
    rfl
theorem KeysOf.len {kvs : List (Key × V)} {bs : List Str} (h : KeysOf kvs bs) : kvs.length = bs.length := by
  have := congrArg List.length h.1
  rw [List.length_map, List.length_map] at this
  exact this
/-- a lock is taken off -/
theorem same_unlock {H H' : Hp} {d : Addr} {o : Obj} {u : HO} (hd : H d = some u) (s : Same (upd H d (.frz o u)) H') : Same H (upd H' d u) := fun c x e => by
  by_cases h : c = d
  · rw [h] at e ⊢
    rw [upd_same, ← e, hd]
  · rw [upd_ne h]
    refine s c x ?_
    rw [upd_ne h]
    exact e
end FL
namespace FL
open PySem PySem.Spec PyProof.Rows L2
/-! ### relays one after another -/
def thr (rss : List (List Rule)) (y : Str) : Str := rss.foldl (fun y rs => turn rs y) y
theorem turnR_len {r : Rule} {y : Str} {b : Nat} (h : r.new.length ≤ b) : (turnR r y).length ≤ y.length + b := by
  unfold turnR
  split
  · rw [len_app]
    have := cutS_length y (some (r.old.length : Int)) none
    omega
  · omega
theorem turn_len {b : Nat} : ∀ {rs : List Rule} {y : Str}, (∀ r ∈ rs, r.new.length ≤ b) → (turn rs y).length ≤ y.length + b
  | [], y, _ => Nat.le_add_right _ _
  | r :: rs, y, h => by
    show (if fits r y = true then turnR r y else turn rs y).length ≤ _
    by_cases q : fits r y = true
    · rw [if_pos q]; exact turnR_len (h r List.mem_cons_self)
    · rw [if_neg q]; exact turn_len fun r' hr' => h r' (List.mem_cons_of_mem _ hr')
theorem thr_len {b : Nat} : ∀ {rss : List (List Rule)} {y : Str}, (∀ rs ∈ rss, ∀ r ∈ rs, r.new.length ≤ b) → (thr rss y).length ≤ y.length + rss.length * b
  | [], y, _ => Nat.le_add_right _ _
  | rs :: rss, y, h => by
    have h1 := turn_len (y := y) (h rs List.mem_cons_self)
    have h2 := thr_len (rss := rss) (y := turn rs y) fun rs' h' => h rs' (List.mem_cons_of_mem _ h')
    show (thr rss (turn rs y)).length ≤ _
    rw [List.length_cons, Nat.add_mul]
    omega
theorem IdxAt.same {H H' : Hp} {d : Addr} {rs : List Rule} (h : IdxAt H d rs) (s : Same H H') : IdxAt H' d rs := by
  obtain ⟨kvs, h1, h2, h3⟩ := h
  exact ⟨kvs, s _ _ h1, h2, h3.imp fun t a e => s t _ e⟩
structure Idxs (K : PySem.W.Frag) (H : Hp) (L : Addr) (rss : List (List Rule)) : Prop where
  ex : ∃ ds : List Addr, SqL K H L (ds.map V.ref) ∧ Paired (IdxAt H) ds rss
  few : rss.length ≤ 2
  rb : ∀ rs ∈ rss, ∀ r ∈ rs, r.old.length ≤ 40 ∧ r.new.length ≤ 1000
theorem paired_map {α β : Type} {R R' : α → β → Prop} : ∀ {as : List α} {bs : List β}, Paired R as bs → (∀ a b, R a b → R' a b) → Paired R' as bs
  | _, _, .nil, _ => .nil
  | _, _, .cons h t, k => .cons (k _ _ h) (paired_map t k)
end FL
namespace FL
open PySem PySem.Spec PyProof.Rows L2
/-! ### the order of lines -/
def lineLe (a b : Str) : Bool := PySem.W.dataLe false lineD a b
theorem lineLe_iff {a b : Str} : lineLe a b = true ↔ a.length < b.length ∨ (a.length = b.length ∧ ls a ≤ ls b) := by
  have e : lineLe a b = !(PySem.W.dataLt (lineD b) (lineD a)) := rfl
  rw [e]
  unfold lineD
  rw [PySem.W.dataLt_pair (by simp [PySem.W.alike]) (by simp [PySem.W.alike]), PySem.W.dataLt_int, PySem.W.dataLt_str]
  simp only [PyData.eqv, beq_iff_eq]
  by_cases h1 : ((b.length : Nat) : Int) = ((a.length : Nat) : Int)
  · have h1' : a.length = b.length := by omega
    rw [if_pos h1]
    by_cases h2 : b = a
    · rw [if_pos h2, h2]
      simp
    · rw [if_neg h2]
      constructor
      · intro q
        refine .inr ⟨h1', ?_⟩
        have q2 : ¬ (b.cps.toList < a.cps.toList) := by simpa using q
        exact List.not_lt.mp q2
      · rintro (q | ⟨_, q⟩)
        · omega
        · have q2 : ¬ (b.cps.toList < a.cps.toList) := List.not_lt.mpr q
          simpa using q2
  · rw [if_neg h1]
    constructor
    · intro q
      have q2 : ¬ ((b.length : Nat) : Int) < ((a.length : Nat) : Int) := by simpa using q
      exact .inl (by omega)
    · rintro (q | ⟨q, _⟩)
      · have q2 : ¬ ((b.length : Nat) : Int) < ((a.length : Nat) : Int) := by omega
        simpa using q2
      · omega
theorem lineLe_total : PySem.W.TotalLe lineLe := PySem.W.sortLe_total (PyProof.Rows.listOrd PyProof.Rows.itemOrd) false (fun b : Str => PySem.W.keyToks (lineD b))
theorem lineLe_len {a b : Str} (h : lineLe a b = true) : a.length ≤ b.length := by
  rcases lineLe_iff.mp h with q | ⟨q, _⟩ <;> omega
theorem lineLe_anti {a b : Str} (h1 : lineLe a b = true) (h2 : lineLe b a = true) : a = b := by
  rcases lineLe_iff.mp h1 with q | ⟨q, q1⟩
  · have := lineLe_len h2
    omega
  · rcases lineLe_iff.mp h2 with r | ⟨_, q2⟩
    · omega
    · exact ls_inj (List.le_antisymm q1 q2)
theorem ordL_sorted (bs : List Str) : (ordL bs).Pairwise fun a b => lineLe a b = true := PySem.W.sort_pairwise lineLe_total bs
theorem ordL_perm (bs : List Str) : (ordL bs).Perm bs := List.mergeSort_perm _ _
theorem mem_ordL {bs : List Str} {b : Str} : b ∈ ordL bs ↔ b ∈ bs := (ordL_perm bs).mem_iff
theorem ordL_len (bs : List Str) : (ordL bs).length = bs.length := (ordL_perm bs).length_eq
/-- the order of lines depends on the set alone -/
theorem ordL_of {bs cs : List Str} (hb : bs.Nodup) (hc : cs.Nodup) (h : ∀ b, b ∈ bs ↔ b ∈ cs) : ordL bs = ordL cs := by
  have hp : bs.Perm cs := (List.perm_ext_iff_of_nodup hb hc).mpr h
  exact List.Perm.eq_of_pairwise (fun a b _ _ h1 h2 => lineLe_anti h1 h2) (ordL_sorted bs) (ordL_sorted cs) ((ordL_perm bs).trans (hp.trans (ordL_perm cs).symm))
theorem ordL_is {bs cs : List Str} (hb : bs.Nodup) (hc : cs.Nodup) (hs : cs.Pairwise fun a b => lineLe a b = true) (h : ∀ b, b ∈ bs ↔ b ∈ cs) : ordL bs = cs := by
  have hp : bs.Perm cs := (List.perm_ext_iff_of_nodup hb hc).mpr h
  exact List.Perm.eq_of_pairwise (fun a b _ _ h1 h2 => lineLe_anti h1 h2) (ordL_sorted bs) hs ((ordL_perm bs).trans hp)
end FL
namespace FL
open PySem PySem.Spec PyProof.Rows L2
/-! ### min(xs, key=f), min(xs, key=f, default=d), f a def of one's own whose answers read as data -/
mutual
theorem Dp.same {K : PySem.W.Frag} {H H' : Hp} (s : ∀ c u, H c = some u → H' c = some u) : ∀ {v : V} {d : PyData}, Dp K H v d → Dp K H' v d
  | _, _, .non => .non
  | _, _, .bl b => .bl b
  | _, _, .int i => .int i
  | _, _, .str x => .str x
  | _, _, .lst h t => .lst (Same.sqL s h) (DpAll.same s t)
  | _, _, .tup h t => .tup (by
      rcases h with (h | ⟨o, h⟩) | h
      · exact .inl (.inl (s _ _ h))
      · exact .inl (.inr ⟨o, s _ _ h⟩)
      · exact .inr h) (DpAll.same s t)
theorem DpAll.same {K : PySem.W.Frag} {H H' : Hp} (s : ∀ c u, H c = some u → H' c = some u) : ∀ {vs : List V} {ds : List PyData}, DpAll K H vs ds → DpAll K H' vs ds
  | _, _, .nil => .nil
  | _, _, .cons h t => .cons (Dp.same s h) (DpAll.same s t)
end
section
variable {X : Cx} {pins : List (Addr × Obj)} {σ : L2.St} {H : Hp} {s : Shared}
theorem swap_pin {p q : Addr × Obj} (I : Inv X (p :: q :: pins) σ H s) : Inv X (q :: p :: pins) σ H s :=
  I.pins_of fun r hr => I.pin r (List.mem_append_right _ (by
    rcases List.mem_cons.mp hr with rfl | hr
    · exact List.mem_cons_of_mem _ List.mem_cons_self
    · rcases List.mem_cons.mp hr with rfl | hr
      · exact List.mem_cons_self
      · exact List.mem_cons_of_mem _ (List.mem_cons_of_mem _ hr)))
theorem re_pin2 {b : Addr} {o o' : Obj} {h' : Heap} {t' : Nat} (I : Inv X ((b, o) :: pins) σ H s) (w : Own X pins b) (hs : ∀ c u, c ≠ b → s.heap.get? c = some u → h'.get? c = some u) (e : h'.get? b = some o') (nd : ∀ v, o'.data ≠ .cell v) :
    Inv X ((b, o') :: pins) σ H { s with heap := h', toks := t' } := by
  have n : H b = none := (I.pin (b, o) (List.mem_append_right _ List.mem_cons_self)).2.1
  have I1 : Inv X pins σ H { s with heap := h', toks := t' } := (drop_pin I).turned hs n w.loc w.new w.cel w.pin
  exact put_pin I1 w e n nd
/-- what a call f(x) must do -/
def MinTurn (X : Cx) (A' : Around) (f : Value) (H : Hp) (σ : L2.St) (zs : List V) (kd : Nat → PyData) : Prop :=
  ∀ (pins : List (Addr × Obj)) (s : Shared) (Hi : Hp) (u : Value) (i : Nat) (z : V), zs[i]? = some z → Inv X pins σ Hi s → Same H Hi → RelV z u →
    wpAny (model X.prog X.w) A' (call f [u]) (EP X pins σ fun v H' => Same Hi H' ∧ Dp X.K H' v (kd i)) (fun _ _ => False) s
structure KeysOk (kd : Nat → PyData) : Prop where
  al : ∀ i j, PySem.W.alike (kd i) (kd j) = true
  nn : ∀ i, kd i ≠ .none
  dp : ∀ i, (kd i).depth ≤ 8
def leK (kd : Nat → PyData) (i j : Nat) : Bool := PySem.W.dataLe false kd i j
theorem leK_total (kd : Nat → PyData) : PySem.W.TotalLe (leK kd) := PySem.W.sortLe_total (PyProof.Rows.listOrd PyProof.Rows.itemOrd) false (fun i => PySem.W.keyToks (kd i))
theorem leK_lt (kd : Nat → PyData) (i j : Nat) : leK kd i j = !(PySem.W.dataLt (kd j) (kd i)) := rfl
theorem iter_nd {o : Obj} {l : Addr} {i : Nat} {t : Tok} (h : o.data = .fields #[.ref l, .int i t]) : ∀ v, o.data ≠ .cell v := fun v e => by rw [h] at e; cases e
variable {zs : List V} {kd : Nat → PyData} {It S l q : Addr} {kw : List (Str × Value)} {R : Result → Shared → Prop}
theorem min_loopI (hh : X.A.handled = none) (hu : X.A.units + 64 < cLine) (ko : KeysOk kd) (wS : Own X pins S) (wI : Own X pins It) (hSI : S ≠ It) (hl : SqL X.K H l zs) (nlI : l ≠ It) (turn : MinTurn X X.A.in1 (.ref q) H σ zs kd)
    (hR : ∀ (i : Nat) (z : V) (v : Value) (s' : Shared) (H' : Hp), zs[i]? = some z → RelV z v → (∀ j, j < zs.length → leK kd i j = true) → Inv X pins σ H' s' → Same H H' → R (.ok (.ret v)) s') :
    ∀ (k j : Nat) (s : Shared) (Hi : Hp) (vb kb : Value) (zb kv : V) (i c : Nat) (oI : Obj), zs.length - (j + 1) = k → j + 1 ≤ zs.length → Inv X ((S, seqObj "list" #[vb, kb] c) :: (It, oI) :: pins) σ Hi s → Same H Hi →
      s.heap.IsListIter It l (j + 1) → i ≤ j → zs[i]? = some zb → RelV zb vb → RelV kv kb → Dp X.K Hi kv (kd i) → (∀ j', j' ≤ j → leK kd i j' = true) →
      codeAny (model X.prog X.w) X.A (.builtin "min.loop" ⟨[.ref It, .ref q, .ref S], kw⟩) R s := by
  have hname : (toString "min" ++ toString ".loop" : String) = "min.loop" := by decide
  have wSI : ∀ {o : Obj}, Own X ((It, o) :: pins) S := wS.cons hSI.symm
  have wIS : ∀ {o : Obj}, Own X ((S, o) :: pins) It := wI.cons hSI
  intro k
  induction k with
  | zero =>
    intro j s Hi vb kb zb kv i c oI hk hj I sm hit hij hzb rz rk hd hbest
    have hin : j + 1 = zs.length := by omega
    obtain ⟨us, r, hL, hz⟩ := I.list (sm.sqL hl)
    have hul : us.length = zs.length := r.length.symm
    have pS := I.pin (S, seqObj "list" #[vb, kb] c) (List.mem_append_right _ List.mem_cons_self)
    refine codeAny_builtin PySem.F.entry_min_loop ?_
    rw [Around.under_plainId PySem.F.plain_min_loop _]
    show wpAny _ X.A.in1 (seqItems? (.ref S) >>= _) _ _ s
    refine wpAny_bind (wpAny_seqItems pS.1 rfl ?_)
    show wpAny _ X.A.in1 (tryCatch (pyNext (.ref It)) _ >>= _) _ _ s
    refine wpAny_bind (wpAny_tryCatch (wpAny_pyNext_list_end (A := X.A.in1) hh hit hL.isList (by rw [hin, ← hul]; simp) fun h' he' => ?_))
    have I1 : Inv X ((S, seqObj "list" #[vb, kb] c) :: pins) σ Hi { s with heap := h' } :=
      (drop_pin (swap_pin I)).turned (t' := s.toks) (fun b o hb e => he' b o hb e) (I.pin (It, oI) (List.mem_append_right _ (List.mem_cons_of_mem _ List.mem_cons_self))).2.1 wI.loc wI.new wI.cel (wIS (o := seqObj "list" #[vb, kb] c)).pin
    have pS1 := I1.pin (S, seqObj "list" #[vb, kb] c) (List.mem_append_right _ List.mem_cons_self)
    show wpAny _ X.A.in1 (updateSeq S (fun _ => #[]) >>= _) _ _ _
    refine wpAny_bind ?_
    refine wpAny_updateSeq pS1.1 rfl (wpAny_bind (wpAny_letGo (wpAny_pure ?_)))
    refine hR i zb vb _ Hi hzb rz (fun j' hj' => hbest j' (by omega)) ?_ sm
    exact (drop_pin I1).turned (t' := s.toks) (fun b o hb e => (Heap.get?_update_other _ _ (Ne.symm hb)).trans e) pS1.2.1 wS.loc wS.new wS.cel wS.pin
  | succ k ih =>
    intro j s Hi vb kb zb kv i c oI hk hj I sm hit hij hzb rz rk hd hbest
    have hlt : j + 1 < zs.length := by omega
    obtain ⟨us, r, hL, hz⟩ := I.list (sm.sqL hl)
    have hul : us.length = zs.length := r.length.symm
    have pS := I.pin (S, seqObj "list" #[vb, kb] c) (List.mem_append_right _ List.mem_cons_self)
    obtain ⟨zx, hzx⟩ : ∃ zx, zs[j + 1]? = some zx := ⟨_, List.getElem?_eq_getElem hlt⟩
    obtain ⟨x, hx, rx⟩ := r.get hzx
    refine codeAny_builtin PySem.F.entry_min_loop ?_
    rw [Around.under_plainId PySem.F.plain_min_loop _]
    show wpAny _ X.A.in1 (seqItems? (.ref S) >>= _) _ _ s
    refine wpAny_bind (wpAny_seqItems pS.1 rfl ?_)
    show wpAny _ X.A.in1 (tryCatch (pyNext (.ref It)) _ >>= _) _ _ s
    refine wpAny_bind (wpAny_tryCatch (wpAny_pyNext_list_item (A := X.A.in1) hit hL.isList (x := x) (by simpa using hx) fun h' hit' he' => ?_))
    obtain ⟨oI', hoI', hoc, hod⟩ := id hit'
    have I1 : Inv X ((S, seqObj "list" #[vb, kb] c) :: (It, oI') :: pins) σ Hi { s with heap := h', toks := s.toks } := swap_pin (re_pin2 (t' := s.toks) (swap_pin I) wIS (fun b o hb e => (he'.2 b hb).trans e) hoI' (iter_nd hod))
    show wpAny _ X.A.in1 (tryCatch (holding [x] (call (.ref q) [x])) _ >>= _) _ _ _
    refine wpAny_bind (wpAny_tryCatch (wpAny_holding (wpAny_mono (turn _ _ Hi x (j + 1) zx hzx I1 sm rx) (fun kx s'' he => ?_) fun _ _ hF => hF.elim)))
    obtain ⟨kxv, H2, I2, rkx, s2, hdx⟩ := he
    have sm2 := sm.trans s2
    have pS2 := I2.pin (S, seqObj "list" #[vb, kb] c) (List.mem_append_right _ List.mem_cons_self)
    have pI2 := I2.pin (It, oI') (List.mem_append_right _ (List.mem_cons_of_mem _ List.mem_cons_self))
    have hit2 : s''.heap.IsListIter It l (j + 1 + 1) := ⟨oI', pI2.1, hoc, hod⟩
    obtain ⟨as1, ra1⟩ := Dp.reads I2 _ _ _ hdx rkx
    obtain ⟨as2, ra2⟩ := Dp.reads I2 _ _ _ (Dp.same s2 hd) rk
    show wpAny _ X.A.in1 (tryCatch (holding [x, kx] (richCompare .Lt kx kb >>= _)) _ >>= _) _ _ _
    refine wpAny_bind (wpAny_tryCatch (wpAny_holding (wpAny_bind (PySem.W.lt_data ra1 ra2 (ko.al _ _) (ko.nn _) (by
      have h1 := ko.dp (j + 1)
      show X.A.units + 1 + min _ _ < cLine
      omega) ?_))))
    refine wpAny_bind (wpAny_holding (wpAny_truthy_bool ?_))
    refine wpAny_bind (wpAny_letGo (wpAny_pure ?_))
    cases hb : PySem.W.dataLt (kd (j + 1)) (kd i) with
    | true =>
      simp only [if_true]
      refine wpAny_bind ?_
      obtain ⟨c2, hc2⟩ : ∃ c2, (s''.heap.update S (Obj.mapSeq fun _ => #[x, kx])).get? S = some (seqObj "list" #[x, kx] c2) := ⟨_, get?_update_seq pS2.1 fun _ => #[x, kx]⟩
      refine wpAny_updateSeq pS2.1 rfl (wpAny_bind (wpAny_letGo ?_))
      rw [hname]
      have I3 : Inv X ((S, seqObj "list" #[x, kx] c2) :: (It, oI') :: pins) σ H2 { s'' with heap := s''.heap.update S (Obj.mapSeq fun _ => #[x, kx]), toks := s''.toks } :=
        re_pin2 I2 wSI (fun b o hb e => (Heap.get?_update_other _ _ (Ne.symm hb)).trans e) hc2 seq_nd
      refine wpAny_pure ⟨plainId_quiet PySem.F.plain_min_loop _, ih (j + 1) _ H2 x kx zx kxv (j + 1) c2 oI' (by omega) hlt I3 sm2 ⟨oI', (Heap.get?_update_other _ _ hSI).trans pI2.1, hoc, hod⟩ (Nat.le_refl _) hzx rx rkx hdx fun j' hj' => ?_⟩
      have h1 : leK kd (j + 1) i = true := by
        rcases (leK_total kd).total (j + 1) i with h | h
        · exact h
        · rw [leK_lt, hb] at h
          cases h
      by_cases e : j' = j + 1
      · subst e
        rcases (leK_total kd).total (j + 1) (j + 1) with h | h <;> exact h
      · exact (leK_total kd).trans _ _ _ h1 (hbest j' (by omega))
    | false =>
      simp only [Bool.false_eq_true, if_false]
      refine wpAny_bind (wpAny_letGo ?_)
      rw [hname]
      refine wpAny_pure ⟨plainId_quiet PySem.F.plain_min_loop _, ih (j + 1) _ H2 vb kb zb kv i c oI' (by omega) hlt I2 sm2 hit2 (by omega) hzb rz rk (Dp.same s2 hd) fun j' hj' => ?_⟩
      by_cases e : j' = j + 1
      · subst e
        rw [leK_lt, hb]
        rfl
      · exact hbest j' (by omega)
theorem min_firstI (hh : X.A.handled = none) (hu : X.A.units + 64 < cLine) (ko : KeysOk kd) (wS : Own X pins S) (wI : Own X pins It) (hSI : S ≠ It) (hl : SqL X.K H l zs) (nlI : l ≠ It) (turn : MinTurn X X.A.in1 (.ref q) H σ zs kd) (hn : 0 < zs.length)
    (hR : ∀ (i : Nat) (z : V) (v : Value) (s' : Shared) (H' : Hp), zs[i]? = some z → RelV z v → (∀ j, j < zs.length → leK kd i j = true) → Inv X pins σ H' s' → Same H H' → R (.ok (.ret v)) s')
    {c : Nat} {oI : Obj} (I : Inv X ((S, seqObj "list" #[] c) :: (It, oI) :: pins) σ H s) (hit : s.heap.IsListIter It l 0) :
      codeAny (model X.prog X.w) X.A (.builtin "min.loop" ⟨[.ref It, .ref q, .ref S], kw⟩) R s := by
  have hname : (toString "min" ++ toString ".loop" : String) = "min.loop" := by decide
  have wSI : ∀ {o : Obj}, Own X ((It, o) :: pins) S := wS.cons hSI.symm
  have wIS : ∀ {o : Obj}, Own X ((S, o) :: pins) It := wI.cons hSI
  obtain ⟨us, r, hL, hz⟩ := I.list hl
  have pS := I.pin (S, seqObj "list" #[] c) (List.mem_append_right _ List.mem_cons_self)
  obtain ⟨zx, hzx⟩ : ∃ zx, zs[0]? = some zx := ⟨_, List.getElem?_eq_getElem hn⟩
  obtain ⟨x, hx, rx⟩ := r.get hzx
  refine codeAny_builtin PySem.F.entry_min_loop ?_
  rw [Around.under_plainId PySem.F.plain_min_loop _]
  show wpAny _ X.A.in1 (seqItems? (.ref S) >>= _) _ _ s
  refine wpAny_bind (wpAny_seqItems pS.1 rfl ?_)
  show wpAny _ X.A.in1 (tryCatch (pyNext (.ref It)) _ >>= _) _ _ s
  refine wpAny_bind (wpAny_tryCatch (wpAny_pyNext_list_item (A := X.A.in1) hit hL.isList (x := x) (by simpa using hx) fun h' hit' he' => ?_))
  obtain ⟨oI', hoI', hoc, hod⟩ := id hit'
  have I1 : Inv X ((S, seqObj "list" #[] c) :: (It, oI') :: pins) σ H { s with heap := h', toks := s.toks } := swap_pin (re_pin2 (t' := s.toks) (swap_pin I) wIS (fun b o hb e => (he'.2 b hb).trans e) hoI' (iter_nd hod))
  show wpAny _ X.A.in1 (tryCatch (holding [x] (call (.ref q) [x])) _ >>= _) _ _ _
  refine wpAny_bind (wpAny_tryCatch (wpAny_holding (wpAny_mono (turn _ _ H x 0 zx hzx I1 (Same.refl H) rx) (fun kx s'' he => ?_) fun _ _ hF => hF.elim)))
  obtain ⟨kxv, H2, I2, rkx, s2, hdx⟩ := he
  have pS2 := I2.pin (S, seqObj "list" #[] c) (List.mem_append_right _ List.mem_cons_self)
  have pI2 := I2.pin (It, oI') (List.mem_append_right _ (List.mem_cons_of_mem _ List.mem_cons_self))
  obtain ⟨c2, hc2⟩ : ∃ c2, (s''.heap.update S (Obj.mapSeq fun _ => #[x, kx])).get? S = some (seqObj "list" #[x, kx] c2) := ⟨_, get?_update_seq pS2.1 fun _ => #[x, kx]⟩
  show wpAny _ X.A.in1 (updateSeq S (fun _ => #[x, kx]) >>= _) _ _ _
  refine wpAny_bind ?_
  refine wpAny_updateSeq pS2.1 rfl ?_
  rw [hname]
  have I3 : Inv X ((S, seqObj "list" #[x, kx] c2) :: (It, oI') :: pins) σ H2 { s'' with heap := s''.heap.update S (Obj.mapSeq fun _ => #[x, kx]), toks := s''.toks } :=
    re_pin2 I2 wSI (fun b o hb e => (Heap.get?_update_other _ _ (Ne.symm hb)).trans e) hc2 seq_nd
  refine wpAny_pure ⟨plainId_quiet PySem.F.plain_min_loop _, min_loopI hh hu ko wS wI hSI hl nlI turn hR _ 0 _ H2 x kx zx kxv 0 c2 oI' rfl hn I3 s2 ⟨oI', (Heap.get?_update_other _ _ hSI).trans pI2.1, hoc, hod⟩ (Nat.le_refl _) hzx rx rkx hdx fun j' hj' => ?_⟩
  obtain rfl : j' = 0 := by omega
  rcases (leK_total kd).total 0 0 with h | h <;> exact h
end
def rMinF (K : PySem.W.Frag) (f : Addr) (sp : Sp) : List V → List V → Hp → VK → Prop := fun vs ws H Q => ∃ (l : Addr) (zs : List V) (kd : Nat → PyData), vs = [.ref l] ∧ ws = [.ref f] ∧ SqL K H l zs ∧ 0 < zs.length ∧ KeysOk kd
  ∧ (∀ (Hi : Hp) (i : Nat) (z : V), zs[i]? = some z → Same H Hi → sp [z] Hi (fun v H' => Same Hi H' ∧ Dp K H' v (kd i)) E0) ∧ ∀ (H' : Hp) (i : Nat) (z : V), Same H H' → zs[i]? = some z → (∀ j, j < zs.length → leK kd i j = true) → Q z H'
def rMinFD (K : PySem.W.Frag) (f : Addr) (sp : Sp) : List V → List V → Hp → VK → Prop := fun vs ws H Q => ∃ (l : Addr) (zs : List V) (kd : Nat → PyData) (d : V), vs = [.ref l] ∧ ws = [.ref f, d] ∧ SqL K H l zs ∧ KeysOk kd
  ∧ (∀ (Hi : Hp) (i : Nat) (z : V), zs[i]? = some z → Same H Hi → sp [z] Hi (fun v H' => Same Hi H' ∧ Dp K H' v (kd i)) E0) ∧ (zs = [] → ∀ H' : Hp, Same H H' → Q d H') ∧ ∀ (H' : Hp) (i : Nat) (z : V), Same H H' → zs[i]? = some z → (∀ j, j < zs.length → leK kd i j = true) → Q z H'
section
variable {X : Cx} {pins : List (Addr × Obj)} {σ : L2.St} {H : Hp} {s : Shared}
theorem min_turn {f : Addr} {fd : FuncData} {k : Nat} {ps : List Str} {sp : Sp} {zs : List V} {kd : Nat → PyData} (F : FnOk X.prog X.w X.K X.mg X.base CX0 k f fd ps sp) (hb : Binds X.K fd ps []) (hp : ps.length = 1) (hr : Room (k + 1) X.A)
    (h : ∀ (Hi : Hp) (i : Nat) (z : V), zs[i]? = some z → Same H Hi → sp [z] Hi (fun v H' => Same Hi H' ∧ Dp X.K H' v (kd i)) E0) : MinTurn X X.A.in1 (.ref f) H σ zs kd := by
  intro pins2 s2 Hi u i z hz I2 sm ru
  have rv : Vals [z] ([u] ++ []) := .cons ru .nil
  refine wpAny_call (codeAny_mono (F.run X.A.in1 X.stack s2 Hi ⟨[u], []⟩ ([u] ++ []) [z] _ E0 hr.in1 I2.env0.in1 (hb s2 [u] I2.kIn (by rw [hp]; rfl)) rv (h Hi i z hz sm)) fun r s' hq => ?_)
  cases r with
  | error e => exact hq
  | ok fl =>
    cases fl with
    | ret u => exact I2.after hq
    | next => exact False.elim hq
    | brk => exact False.elim hq
    | cont => exact False.elim hq
theorem iter_pins {l : Addr} (I : Inv X pins σ H s) :
    Own X pins s.heap.objs.size ∧ Own X pins (s.heap.objs.size + 1) ∧ ∃ oI, Inv X ((s.heap.objs.size + 1, seqObj "list" #[] 0) :: (s.heap.objs.size, oI) :: pins) σ H
      { s with heap := (s.heap.push { cls := .type "list_iterator", data := .fields #[.ref l, .int 0 0] }).push { cls := .type "list", data := .seq #[] 0 } }
      ∧ ((s.heap.push { cls := .type "list_iterator", data := .fields #[.ref l, .int 0 0] }).push { cls := .type "list", data := .seq #[] 0 }).IsListIter s.heap.objs.size l 0 := by
  have wI : Own X pins s.heap.objs.size := Own.of I (Nat.le_refl _)
  have wS : Own X pins (s.heap.objs.size + 1) := Own.of I (Nat.le_succ _)
  have hnI : H s.heap.objs.size = none := I.hok.fresh (Nat.le_refl _)
  have hnS : H (s.heap.objs.size + 1) = none := I.hok.fresh (Nat.le_succ _)
  have kp : ∀ b o, s.heap.get? b = some o → ((s.heap.push { cls := .type "list_iterator", data := .fields #[.ref l, .int 0 0] }).push { cls := .type "list", data := .seq #[] 0 }).get? b = some o := fun b o e => Heap.get?_push_of_some _ (Heap.get?_push_of_some _ e)
  have I1 := I.kept (t' := s.toks) kp
  have gI : ((s.heap.push { cls := .type "list_iterator", data := .fields #[.ref l, .int 0 0] }).push { cls := .type "list", data := .seq #[] 0 }).get? s.heap.objs.size = some { cls := .type "list_iterator", data := .fields #[.ref l, .int 0 0] } :=
    Heap.get?_push_of_some _ (Heap.get?_push_size _ rfl)
  have gS : ((s.heap.push { cls := .type "list_iterator", data := .fields #[.ref l, .int 0 0] }).push { cls := .type "list", data := .seq #[] 0 }).get? (s.heap.objs.size + 1) = some (seqObj "list" #[] 0) := by
    have q := Heap.get?_push_size (h := s.heap.push { cls := .type "list_iterator", data := .fields #[.ref l, .int 0 0] }) (o := { cls := .type "list", data := .seq #[] 0 }) rfl
    rw [size_push'] at q
    exact q
  have I2 := put_pin I1 wI gI hnI (fun v e => by cases e)
  exact ⟨wI, wS, _, put_pin I2 (wS.cons (Nat.ne_of_lt (Nat.lt_succ_self _))) gS hnS seq_nd, ⟨_, gI, rfl, rfl⟩⟩
theorem call_minF {f : Addr} {fd : FuncData} {k : Nat} {ps : List Str} {sp : Sp} (hc : X.calm = true) (F : FnOk X.prog X.w X.K X.mg X.base CX0 k f fd ps sp) (hb : Binds X.K fd ps []) (hp : ps.length = 1) (hr : Room (k + 1) X.A) :
    CallRK X (.builtin "min") [Str.ofString "key"] (rMinF X.K f sp) := by
  intro pins s σ H vs ws us us2 Q I r1 r2 h
  obtain ⟨l, zs, kd, rfl, rfl, hl, hn, ko, hf, q⟩ := h
  obtain rfl := Vals.ref1 r1
  obtain rfl := Vals.ref1 r2
  obtain ⟨us, r, hL, hz⟩ := I.list hl
  obtain ⟨ol, hol, _⟩ := id hL.isList
  have hll : l < s.heap.objs.size := Heap.lt_size hol
  have hu : X.A.units + 64 < cLine := by
    have := hr.un
    omega
  have hname : (toString "min" ++ toString ".loop" : String) = "min.loop" := by decide
  refine PyProof.Rows.kmk_tree PySem.F.kind_min PySem.F.plain_min PySem.F.entry_min (PyProof.Rows.kmk_min_key _ _) ?_
  show wpAny _ X.A.in1 (Builtin.Builtins.bindParams "min" ["key", "default"] 0 ⟨[], [(Str.ofString "key", .ref f)]⟩ >>= _) _ _ s
  refine wpAny_bind (wpAny_of_eq (show Builtin.Builtins.bindParams "min" ["key", "default"] 0 ⟨[], [(Str.ofString "key", .ref f)]⟩ = pure [some (.ref f), none] from rfl) ?_)
  refine wpAny_bind (wpAny_pure ?_)
  refine wpAny_bind (wpAny_pyIter_list hL.isList ?_)
  refine wpAny_bind (wpAny_newObj_type ?_)
  rw [hname]
  obtain ⟨wI, wS, oI, I2, hit⟩ := iter_pins (l := l) I
  have e2 : (s.heap.push { cls := .type "list_iterator", data := .fields #[.ref l, .int 0 0] }).objs.size = s.heap.objs.size + 1 := size_push' ..
  refine wpAny_pure ⟨plainId_quiet PySem.F.plain_min_loop _, ?_⟩
  rw [e2]
  exact min_firstI (I.ok.hd hc) hu ko wS wI (Nat.succ_ne_self _) hl (Nat.ne_of_lt hll) (min_turn F hb hp hr hf) hn (fun i z v s' H' hzi rz hbest I' sm => ⟨z, H', I', rz, q H' i z sm hzi hbest⟩) I2 hit
theorem call_minFD {f : Addr} {fd : FuncData} {k : Nat} {ps : List Str} {sp : Sp} (hc : X.calm = true) (F : FnOk X.prog X.w X.K X.mg X.base CX0 k f fd ps sp) (hb : Binds X.K fd ps []) (hp : ps.length = 1) (hr : Room (k + 1) X.A) :
    CallRK X (.builtin "min") [Str.ofString "key", Str.ofString "default"] (rMinFD X.K f sp) := by
  intro pins s σ H vs ws us us2 Q I r1 r2 h
  obtain ⟨l, zs, kd, d, rfl, rfl, hl, ko, hf, q0, q⟩ := h
  obtain rfl := Vals.ref1 r1
  obtain ⟨u1, u2, rfl, ru1, ru2⟩ := vals2 r2
  obtain rfl : u1 = Value.ref f := ru1
  obtain ⟨us, r, hL, hz⟩ := I.list hl
  obtain ⟨ol, hol, _⟩ := id hL.isList
  have hll : l < s.heap.objs.size := Heap.lt_size hol
  have hu : X.A.units + 64 < cLine := by
    have := hr.un
    omega
  have hname : (toString "min" ++ toString ".loop" : String) = "min.loop" := by decide
  refine PyProof.Rows.kmk_tree PySem.F.kind_min PySem.F.plain_min PySem.F.entry_min (args_min_key_default _ _ _) ?_
  show wpAny _ X.A.in1 (Builtin.Builtins.bindParams "min" ["key", "default"] 0 ⟨[], [(Str.ofString "key", .ref f), (Str.ofString "default", u2)]⟩ >>= _) _ _ s
  refine wpAny_bind (wpAny_of_eq (show Builtin.Builtins.bindParams "min" ["key", "default"] 0 ⟨[], [(Str.ofString "key", .ref f), (Str.ofString "default", u2)]⟩ = pure [some (.ref f), some u2] from rfl) ?_)
  refine wpAny_bind (wpAny_pure ?_)
  refine wpAny_bind (wpAny_pyIter_list hL.isList ?_)
  refine wpAny_bind (wpAny_newObj_type ?_)
  rw [hname]
  obtain ⟨wI, wS, oI, I2, hit⟩ := iter_pins (l := l) I
  have e2 : (s.heap.push { cls := .type "list_iterator", data := .fields #[.ref l, .int 0 0] }).objs.size = s.heap.objs.size + 1 := size_push' ..
  refine wpAny_pure ⟨plainId_quiet PySem.F.plain_min_loop _, ?_⟩
  rw [e2]
  rcases Nat.eq_zero_or_pos zs.length with hn | hn
  · have ez : zs = [] := List.length_eq_zero_iff.mp hn
    have pS := I2.pin (_, seqObj "list" #[] 0) (List.mem_append_right _ List.mem_cons_self)
    obtain ⟨us', r', hL', _⟩ := I2.list hl
    refine codeAny_builtin PySem.F.entry_min_loop ?_
    rw [Around.under_plainId PySem.F.plain_min_loop _]
    show wpAny _ X.A.in1 (seqItems? (.ref (s.heap.objs.size + 1)) >>= _) _ _ _
    refine wpAny_bind (wpAny_seqItems pS.1 rfl ?_)
    show wpAny _ X.A.in1 (tryCatch (pyNext (.ref s.heap.objs.size)) _ >>= _) _ _ _
    refine wpAny_bind (wpAny_tryCatch (wpAny_pyNext_list_end (A := X.A.in1) (I.ok.hd hc) hit hL'.isList (by have := r'.length; rw [hn] at this; simp [← this]) fun h' he' => ?_))
    have I3 : Inv X pins σ H { s with heap := h' } :=
      (drop_pin (drop_pin I2)).turned (t' := s.toks) (fun b o hb e => he' b o hb e) (I2.pin (_, oI) (List.mem_append_right _ (List.mem_cons_of_mem _ List.mem_cons_self))).2.1 wI.loc wI.new wI.cel wI.pin
    show wpAny _ X.A.in1 (rule _ >>= _) _ _ _
    exact wpAny_bind (wpAny_rule (wpAny_pure ⟨d, H, I3, ru2, q0 ez H (Same.refl H)⟩))
  · exact min_firstI (I.ok.hd hc) hu ko wS wI (Nat.succ_ne_self _) hl (Nat.ne_of_lt hll) (min_turn F hb hp hr hf) hn (fun i z v s' H' hzi rz hbest I' sm => ⟨z, H', I', rz, q H' i z sm hzi hbest⟩) I2 hit
end
end FL
namespace FL
open PySem PySem.Spec PyProof.Rows L2
/-! ### sorted(things, key=f), f any: its keys by data -/
section
variable {α : Type}
def sortG (key : V × α → PyData) (zs : List (V × α)) : List (V × α) := zs.mergeSort (PySem.W.dataLe false key)
structure SortOk (key : V × α → PyData) (zs : List (V × α)) : Prop where
  al : PySem.W.AllAlike (zs.map key)
  so : PySem.W.Sortable (zs.map key)
  dp : ∀ z ∈ zs, (key z).depth ≤ 8
variable {X : Cx} {pins : List (Addr × Obj)} {σ : L2.St} {H : Hp} {s : Shared}
/-- what a call f(x) must do: its key, all else as it was -/
def TurnG (X : Cx) (A' : Around) (f : Value) (pins0 : List (Addr × Obj)) (H : Hp) (σ : L2.St) (zs : List (V × α)) (key : V × α → PyData) : Prop :=
  ∀ (pins : List (Addr × Obj)) (s : Shared) (Hi : Hp) (u : Value) (z : V × α), (∀ p ∈ pins0, p ∈ pins) → z ∈ zs → Inv X pins σ Hi s → (∀ b o, H b = some o → Hi b = some o) → RelV z.1 u →
    wpAny (model X.prog X.w) A' (call f [u]) (EP X pins σ fun v H' => (∀ b o, Hi b = some o → H' b = some o) ∧ Dp X.K H' v (key z)) (fun _ _ => False) s
theorem vals_eachG : ∀ {zs : List (V × α)} {us : List Value}, PySem.W.EachIs (fun u (z : V × α) => RelV z.1 u) us zs → Vals (zs.map Prod.fst) us
  | _, _, .nil => .nil
  | _, _, .cons h t => .cons h (vals_eachG t)
theorem each_valsG : ∀ {zs : List (V × α)} {us : List Value}, Vals (zs.map Prod.fst) us → PySem.W.EachIs (fun u (z : V × α) => RelV z.1 u) us zs
  | [], _, h => by cases h; exact .nil
  | _ :: _, _, h => by
    cases h with
    | cons h t => exact .cons h (each_valsG t)
theorem key_restG {A' : Around} {f : Value} {a kS : Addr} {e1 : Nat} {us : List Value} {zs : List (V × α)} {key : V × α → PyData} {E : Value → Shared → Prop} {P : PySem.Fin → Shared → Prop}
    (I : Inv X ((kS, seqObj "list" #[] 0) :: (a, seqObj "list" #[] e1) :: pins) σ H s) (wa : Own X pins a) (wk : Own X pins kS) (hka : kS ≠ a) (r : Vals (zs.map Prod.fst) us) (hZ : zs.length ≤ sizeLine)
    (hu : A'.units + 9 < cLine) (ko : SortOk key zs) (turn : TurnG X A' f pins H σ zs key)
    (h : ∀ (s' : Shared) (H' : Hp), Inv X pins σ H' s' → (∀ b o, H b = some o → H' b = some o) → H a = none → H' a = some (.lst ((sortG key zs).map Prod.fst)) → P (.done (.ret .none)) s') :
    wpAny (model X.prog X.w) A' (ksk_rest a f false us.toArray e1 (.ref kS)) P E s := by
  have hl : us.length = zs.length := by rw [← r.length, List.length_map]
  have na0 : H a = none := (I.pin (a, seqObj "list" #[] e1) (List.mem_append_right _ (List.mem_cons_of_mem _ List.mem_cons_self))).2.1
  unfold ksk_rest
  refine wpAny_bind (wpAny_rule ?_)
  first
    | rw [List.forIn_toArray]
    | (rw [← Array.forIn_toList]; simp only [List.toList_toArray])
    | rw [← Array.forIn_toList]
  refine wpAny_bind (ksk_fold (fun i s' => ∃ Hi kA e, Inv X ((kS, seqObj "list" kA e) :: (a, seqObj "list" #[] e1) :: pins) σ Hi s' ∧ (∀ b o, H b = some o → Hi b = some o)
      ∧ PySem.W.EachIs (fun (v : Value) (z : V × α) => ∃ vv, RelV vv v ∧ Dp X.K Hi vv (key z)) kA.toList (zs.take i)) us 0 s
    ⟨H, #[], 0, I, fun _ _ e => e, by rw [List.take_zero]; exact .nil⟩ ?step ?done)
  case step =>
    rintro j x s' hx ⟨Hi, kA, e, I', kp, ek⟩
    simp only [Nat.zero_add] at ek ⊢
    have hj : j < us.length := (List.getElem?_eq_some_iff.mp hx).1
    have hjz : j < zs.length := by omega
    have hz : zs[j]? = some zs[j] := List.getElem?_eq_getElem hjz
    have hxf : (zs.map Prod.fst)[j]? = some zs[j].1 := by rw [List.getElem?_map, hz]; rfl
    obtain ⟨u', hu', ru⟩ := r.get hxf
    rw [hx] at hu'
    obtain rfl : x = u' := Option.some.inj hu'
    refine wpAny_bind (wpAny_attempt (wpAny_mono (turn _ s' Hi x zs[j] (fun p hp => List.mem_cons_of_mem _ (List.mem_cons_of_mem _ hp)) (List.getElem_mem hjz) I' kp ru) (fun v s'' he => ?_) fun _ _ hF => hF.elim))
    obtain ⟨v', H'', I2, rv, kp2, hd2⟩ := he
    try dsimp only
    have pk := I2.pin (kS, seqObj "list" kA e) (List.mem_append_right _ List.mem_cons_self)
    have s1 := Heap.SameBut.update s''.heap kS (Obj.mapSeq (·.push v))
    obtain ⟨c2, hc2⟩ : ∃ c2, (s''.heap.update kS (Obj.mapSeq (·.push v))).get? kS = some (seqObj "list" (kA.push v) c2) := ⟨_, get?_update_seq pk.1 (·.push v)⟩
    have hz2 : kA.size ≤ sizeLine := by
      have h1 := ek.length
      rw [Array.length_toList, List.length_take] at h1
      omega
    refine wpAny_bind (listUpdate_at pk.1 rfl ?_ hz2 (Nat.le_trans (Nat.le_of_eq (Array.size_push ..)) (Nat.succ_le_succ hz2)))
    refine wpAny_pure ⟨rfl, H'', kA.push v, c2, re_pin (t' := s''.toks) I2 (wk.cons hka.symm) s1 hc2 seq_nd, fun b o q => kp2 b o (kp b o q), ?_⟩
    have e2 : zs.take (j + 1) = zs.take j ++ [zs[j]] := by rw [List.take_add_one, hz]; simp
    have e3 : (kA.push v).toList = kA.toList ++ [v] := by simp
    rw [e2, e3]
    exact PySem.W.each_snoc (R := fun (v : Value) (z : V × α) => ∃ vv, RelV vv v ∧ Dp X.K H'' vv (key z)) ⟨v', rv, hd2⟩ (ek.mono fun _ _ ⟨q, e, hq⟩ => ⟨q, e, Dp.same kp2 hq⟩)
  case done =>
    rintro s' ⟨Hi, kA, e, I', kp, ek⟩
    have e3 : zs.take (0 + us.length) = zs := List.take_of_length_le (by omega)
    rw [e3] at ek
    have pk := I'.pin (kS, seqObj "list" kA e) (List.mem_append_right _ List.mem_cons_self)
    have pa := I'.pin (a, seqObj "list" #[] e1) (List.mem_append_right _ (List.mem_cons_of_mem _ List.mem_cons_self))
    have ek' : PySem.W.EachIs (fun (v : Value) (z : V × α) => ∃ as, Reads s'.heap v (key z) as) kA.toList zs := ek.mono fun v z ⟨p, e, hp⟩ => Dp.reads I' _ _ _ hp e
    have hk' : PySem.W.EachIs (fun v k => ∃ as, Reads s'.heap v k as) kA.toList (zs.map key) := PySem.W.each_map (R := fun v k => ∃ as, Reads s'.heap v k as) key ek'
    have hsz : kA.size = us.length := by
      have h1 := ek.length
      rw [Array.length_toList] at h1
      omega
    try dsimp only
    refine wpAny_bind (listItems_at pk.1 rfl ?_)
    refine PySem.W.keyH_end (κ := PySem.W.dataKind s'.heap (zs.map key)) (h₁ := PySem.W.hideAll s'.heap [kS]) hide1 (PySem.W.hideAll_none _ List.mem_cons_self) pk.1 pa.1 hka
      (PySem.W.SortsAt.data hk' ko.al ko.so (PySem.W.bound_map (A := A') fun z hz => by have := ko.dp z hz; omega)) hsz (by omega) fun h' tk c kp3 ha3 => ?_
    have eo : PySem.W.EachIs (fun u (z : V × α) => RelV z.1 u) (PySem.W.sortVals (PySem.W.dataKind s'.heap (zs.map key)) false kA.toList us) (sortG key zs) :=
      PySem.W.keyedOut_each key ⟨s'.heap, kA.toList, ko.al, rfl, hk'⟩ (each_valsG r)
    generalize PySem.W.sortVals (PySem.W.dataKind s'.heap (zs.map key)) false kA.toList us = out at eo ha3
    have I0 : Inv X pins σ Hi s' := drop_pin (drop_pin I')
    have na : Hi a = none := pa.2.1
    have nk : Hi kS = none := pk.2.1
    have keepAll : ∀ b o, b ∉ [a, kS] → s'.heap.get? b = some o → h'.get? b = some o := fun b o hb q =>
      kp3 b o (fun z => hb (by rw [z]; exact List.mem_cons_self)) (PySem.W.hideAll_get _ q fun z => hb (List.mem_cons_of_mem _ z))
    have nt : ∀ b u, Hi b = some u → b ∉ [a, kS] := fun b u q z => by
      rcases List.mem_cons.mp z with z | z
      · rw [z, na] at q; cases q
      · rw [List.mem_singleton.mp z, nk] at q; cases q
    have kpU : ∀ b o, Hi b = some o → (upd Hi a (.lst ((sortG key zs).map Prod.fst))) b = some o := fun b o q => by rw [upd_ne (ne_of_none q na)]; exact q
    refine h { s' with heap := h', toks := tk } (upd Hi a (.lst ((sortG key zs).map Prod.fst))) ?_ (fun b o q => kpU b o (kp b o q)) na0 upd_same
    refine I0.step (g' := s'.gens) (d' := s'.drawn) (ch := [a, kS]) (fun b hb => ?_) (fun b o _ _ hc q _ => keepAll b o hc q) (fun b o _ _ hc q _ => ⟨o.slots, keepAll b o hc q⟩)
      (fun b o hc _ n => by rw [upd_ne (fun z => hc (by rw [z]; exact List.mem_cons_self))]; exact n) (fun b o hc q => ⟨o, keepAll b o hc q⟩) (fun b xs q => kpU b _ q) (fun b o u q => kpU b _ q) (fun b ps q => ⟨#[], by rw [kpU b _ q]; simp⟩) (fun m hm => ?_) (fun b u q => ?_) I0.bare
    · rcases List.mem_cons.mp hb with rfl | hb
      · exact ⟨wa.new, wa.loc, wa.cel, wa.pin⟩
      · rw [List.mem_singleton.mp hb]
        exact ⟨wk.new, wk.loc, wk.cel, wk.pin⟩
    · obtain ⟨o, es, ep, ho, q⟩ := hm
      refine ⟨o, es, ep, keepAll _ o (fun z => ?_) ho, q⟩
      rcases List.mem_cons.mp z with z | z
      · exact wa.loc z.symm
      · exact wk.loc (List.mem_singleton.mp z).symm
    · by_cases hb : b = a
      · rw [hb] at q ⊢
        rw [upd_same] at q
        cases q
        refine ⟨?_, out, c, vals_eachG eo, ha3⟩
        have h1 := (vals_eachG eo).length
        rw [List.length_map]
        have h2 : (sortG key zs).length = zs.length := (List.mergeSort_perm _ _).length_eq
        omega
      · rw [upd_ne hb] at q
        exact (I0.hok b u q).stay (fun d v hd y => keepAll d v (by
          rcases hd with z | z
          · rw [z]; exact nt b u q
          · exact nt d _ z) y) (fun d y => kpU d _ y) fun d xs y => kpU d _ y

theorem key_sortedG {f l : Addr} {zs : List (V × α)} {key : V × α → PyData} {Q : VK} (I : Inv X pins σ H s) (hl : SqL X.K H l (zs.map Prod.fst)) (hu : X.A.units + 64 < cLine) (ko : SortOk key zs) (turn : TurnG X X.A.in1.in1 (.ref f) pins H σ zs key)
    (h : ∀ (H' : Hp) (a : Addr), (∀ b o, H b = some o → H' b = some o) → H a = none → H' a = some (.lst ((sortG key zs).map Prod.fst)) → Q (.ref a) H') :
    wpAny (model X.prog X.w) X.A (call (.builtin "sorted") [.ref l] [(Str.ofString "key", .ref f)]) (EP X pins σ Q) X.xe s := by
  obtain ⟨us, r, hL, hz⟩ := I.list hl
  have hzl : zs.length = us.length := by rw [← r.length, List.length_map]
  rw [List.length_map] at hz
  refine PySem.W.sorted_of_sort hL.isList (by omega) (ksk_s1 _ _) (fun _ => ksk_l1 _ _) fun E' => ?_
  rw [ksk_t1]
  have fresh : s.heap.objs.size ≤ s.heap.objs.size + 1 := Nat.le_succ _
  have wa0 : Own X pins (s.heap.objs.size + 1) := Own.of I fresh
  have hna : H (s.heap.objs.size + 1) = none := I.hok.fresh fresh
  have ho := PySem.W.copyHeap_at s.heap us
  have hsz : (PySem.W.copyHeap s.heap us).objs.size = s.heap.objs.size + 2 := by
    unfold PySem.W.copyHeap
    rw [size_push', Heap.size_update, size_push']
  obtain ⟨e1, ho1⟩ : ∃ e1, ((PySem.W.copyHeap s.heap us).update (s.heap.objs.size + 1) (Obj.mapSeq fun _ => (#[] : Array Value))).get? (s.heap.objs.size + 1) = some (seqObj "list" #[] e1) := ⟨_, get?_update_seq ho fun _ => #[]⟩
  unfold ksk_tree
  refine wpAny_bind (listItems_at ho rfl ?_)
  refine wpAny_bind (listUpdate_at ho rfl ?_ (by rw [List.size_toArray]; omega) (Nat.zero_le _))
  refine wpAny_bind (seqEpoch_at ho1 rfl ?_)
  refine wpAny_bind (wpAny_newTuple ?_ (by show us.length ≤ _; omega))
  refine wpAny_bind (wpAny_newList ?_ (Nat.zero_le _))
  refine wpAny_holding ?_
  have hkS : (((PySem.W.copyHeap s.heap us).update (s.heap.objs.size + 1) (Obj.mapSeq fun _ => (#[] : Array Value))).push (seqObj "tuple" us.toArray 0)).objs.size = s.heap.objs.size + 3 := by
    rw [size_push', Heap.size_update, hsz]
  have wk0 : Own X pins (s.heap.objs.size + 3) := Own.of I (Nat.le_add_right _ _)
  have hnk : H (s.heap.objs.size + 3) = none := I.hok.fresh (Nat.le_add_right _ _)
  have ne : s.heap.objs.size + 3 ≠ s.heap.objs.size + 1 := by omega
  have kp : ∀ b o, s.heap.get? b = some o → ((((PySem.W.copyHeap s.heap us).update (s.heap.objs.size + 1) (Obj.mapSeq fun _ => (#[] : Array Value))).push (seqObj "tuple" us.toArray 0)).push (seqObj "list" #[] 0)).get? b = some o := fun b o q => PySem.W.sorting_copy_old q
  have I1 : Inv X pins σ H { s with heap := (((PySem.W.copyHeap s.heap us).update (s.heap.objs.size + 1) (Obj.mapSeq fun _ => (#[] : Array Value))).push (seqObj "tuple" us.toArray 0)).push (seqObj "list" #[] 0) } := I.kept (t' := s.toks) kp
  have atA : ((((PySem.W.copyHeap s.heap us).update (s.heap.objs.size + 1) (Obj.mapSeq fun _ => (#[] : Array Value))).push (seqObj "tuple" us.toArray 0)).push (seqObj "list" #[] 0)).get? (s.heap.objs.size + 1) = some (seqObj "list" #[] e1) := Heap.get?_push_of_some _ (Heap.get?_push_of_some _ ho1)
  have atK : ((((PySem.W.copyHeap s.heap us).update (s.heap.objs.size + 1) (Obj.mapSeq fun _ => (#[] : Array Value))).push (seqObj "tuple" us.toArray 0)).push (seqObj "list" #[] 0)).get? (s.heap.objs.size + 3) = some (seqObj "list" #[] 0) := by
    have q := Heap.get?_push_size (h := ((PySem.W.copyHeap s.heap us).update (s.heap.objs.size + 1) (Obj.mapSeq fun _ => (#[] : Array Value))).push (seqObj "tuple" us.toArray 0)) (o := seqObj "list" #[] 0) rfl
    rw [hkS] at q
    exact q
  have I2 := put_pin (put_pin I1 wa0 atA hna seq_nd) (wk0.cons ne.symm) atK hnk seq_nd
  rw [hkS]
  have turn_ := turn
  exact key_restG I2 wa0 wk0 ne r (by omega) (by show X.A.units + 1 + 1 + 9 < cLine; omega) ko turn_ fun s' H' I' kp' na ha => ⟨rfl, .ref _, H', I', rfl, h H' _ kp' na ha⟩
end
/-- sorted(l, key=f): what it asks -/
def rSortG {α : Type} (K : PySem.W.Frag) (f : Addr) (sp : Sp) : List V → List V → Hp → VK → Prop := fun vs ws H Q => ∃ (l : Addr) (zs : List (V × α)) (key : V × α → PyData), vs = [.ref l] ∧ ws = [.ref f] ∧ SqL K H l (zs.map Prod.fst) ∧ SortOk key zs
  ∧ (∀ (Hi : Hp) (z : V × α), z ∈ zs → Same H Hi → sp [z.1] Hi (fun v H' => Same Hi H' ∧ Dp K H' v (key z)) E0)
  ∧ ∀ H' a, Same H H' → H a = none → H' a = some (.lst ((sortG key zs).map Prod.fst)) → Q (.ref a) H'
section
variable {X : Cx}
theorem call_sortG {α : Type} {f : Addr} {fd : FuncData} {k : Nat} {ps : List Str} {sp : Sp} (F : FnOk X.prog X.w X.K X.mg X.base CX0 k f fd ps sp) (hb : Binds X.K fd ps []) (hp : ps.length = 1) (hr : Room (k + 2) X.A) :
    CallRK X (.builtin "sorted") [Str.ofString "key"] (rSortG (α := α) X.K f sp) := by
  intro pins s σ H vs ws us us2 Q I r1 r2 h
  obtain ⟨l, zs, key, rfl, rfl, hl, ko, hf, q⟩ := h
  obtain rfl := Vals.ref1 r1
  obtain rfl := Vals.ref1 r2
  refine key_sortedG I hl (by have := hr.un; omega) ko (fun pins2 s2 Hi u z _ hz I2 kp ru => ?_) fun H' a kp na ha => q H' a kp na ha
  have rv : Vals [z.1] ([u] ++ []) := .cons ru .nil
  refine wpAny_call (codeAny_mono (F.run X.A.in1.in1 X.stack s2 Hi ⟨[u], []⟩ ([u] ++ []) [z.1] (fun v H' => (∀ b o, Hi b = some o → H' b = some o) ∧ Dp X.K H' v (key z)) E0 hr.in1.in1 I2.env0.in1.in1 (hb s2 [u] I2.kIn (by rw [hp]; rfl)) rv (hf Hi z hz kp)) fun r s' hq => ?_)
  cases r with
  | error e => exact hq
  | ok fl =>
    cases fl with
    | ret u => exact I2.after hq
    | next => exact False.elim hq
    | brk => exact False.elim hq
    | cont => exact False.elim hq
end
end FL
namespace FL
open PySem PySem.Spec PyProof.Rows L2
/-! ### several clauses of one try, each 'except C as n' -/
/-- the name of slot i goes behind a suite -/
def gone (i : Nat) (D : Ends) : Ends :=
  { nx := fun τ G => D.nx (τ.set i none) G, rt := D.rt, bk := fun τ G => D.bk (τ.set i none) G, ct := fun τ G => D.ct (τ.set i none) G }
abbrev Clause : Type := Value × (Addr → Value → Option Addr → TS)
/-- what is wished of an error, clause by clause -/
def wClauses (K : PySem.W.Frag) (i : Nat) (out : WX) (D : Ends) : List Clause → WX
  | [] => out
  | q :: qs => fun c d τ G => ∃ hit, PySem.W.exmOne K c q.1 = some hit
      ∧ (hit = true → ∀ e, G e = none → q.2 e c d (gone i D) (τ.set i (some (.ref e))) G)
      ∧ (hit = false → wClauses K i out D qs c d τ G)
inductive Clauses (X : Cx) (n : Str) : List ExceptHandler → List Clause → Prop
  | done : Clauses X n [] []
  | more {nm : Str} {C : Value} {rd : Addr → Value → Option Addr → TS} {st : Stmt} {sts : List Stmt} {p1 p2 : Pos}
      {hs : List ExceptHandler} {qs : List Clause} (named : Names X nm C)
      (suite : ∀ (e : Addr) (oe : Obj) (c : Value) (d : Option Addr) (pn : List (Addr × Obj)), Zc c d oe →
        (∃ vs, oe.data = .fields vs) → PSs (X.suite e ((e, oe) :: pn)) (st :: sts) (rd e c d))
      (rest : Clauses X n hs qs) :
      Clauses X n (.ExceptHandler (some (.Name nm p1)) (some n) (st :: sts) p2 :: hs) ((C, rd) :: qs)
section
variable {X : Cx} {n : Str} {i : Nat} {pins : List (Addr × Obj)} {out : WX} {D : Ends}
/-- an error that has landed in front of the clauses -/
structure Landed (X : Cx) (pins : List (Addr × Obj)) (e : Addr) (c : Value) (d : Option Addr) (τ : L2.St) (G : Hp) (B : Heap) (sB t : Shared) : Prop where
  inv : Inv X pins τ G sB
  below : ∀ b o, sB.heap.get? b = some o → b ∉ frs X.stack → B.get? b = some o
  fly : HandSPX.FlyingZ B (X.env :: X.outer) e (Zc c d) t.heap
  up : sB.heap.UpToSlots t.heap
  free : G e = none
  os : t.os = sB.os
  bare : AllBare t.gens
theorem Landed.now {e : Addr} {c : Value} {d : Option Addr} {τ : L2.St} {G : Hp} {B : Heap} {sB t : Shared}
    (l : Landed X pins e c d τ G B sB t) : Inv X pins τ G t := l.inv.landed l.below l.fly.1 l.up l.os l.bare
/-- it is no frame's own address -/
theorem Landed.apart {e : Addr} {c : Value} {d : Option Addr} {τ : L2.St} {G : Hp} {B : Heap} {sB t : Shared}
    (l : Landed X pins e c d τ G B sB t) (fr : X.env.frame = some X.env.locals) : e ≠ X.env.locals ∧ e ∉ X.fs := by
  obtain ⟨oe, us, at_, _, dt⟩ := l.fly.there
  have no : e ∉ frs (X.env :: X.outer) := by
    intro m
    obtain ⟨_, u, at2, k⟩ := l.fly.2.2.1.mem m
    rw [at_] at at2
    cases at2
    exact k _ dt
  constructor
  · intro q
    exact no (List.mem_filterMap.mpr ⟨_, List.mem_cons_self, by rw [fr, q]⟩)
  · intro m
    obtain ⟨v, hv, q⟩ := List.mem_filterMap.mp m
    exact no (List.mem_filterMap.mpr ⟨v, List.mem_cons_of_mem _ hv, q⟩)
/-- no clause is left: it flies on -/
theorem none_left {e : Addr} {c : Value} {d : Option Addr} {τ : L2.St} {G : Hp} {B : Heap} {sB t : Shared}
    (l : Landed X pins e c d τ G B sB t) (st : X.stack = X.env :: X.outer) (fr : X.env.frame = some X.env.locals)
    (tk : Takes X out) (w : out c d τ G) : wpAny (model X.prog X.w) X.A (handleBy (.ref e) X.env []) (SP X pins D) X.xe t := by
  refine wpAny_handleBy_nil ?_
  obtain ⟨_, _, _, oe, us, T, oT, tv, at_, _, dt, f1, _⟩ := id l.fly
  unfold PySem.passOn
  refine wpAny_bind (wpAny_field at_ dt f1 ?_)
  rw [if_neg (by simp : ¬ ((Value.ref T == Value.none) = true))]
  have onward : wpAny (model X.prog X.w) X.A (setFlight (.ref e) X.env.frame)
      (fun _ u => wpAny (model X.prog X.w) X.A (throw (.ref e) : Sem Flow) (SP X pins D) X.xe u) X.xe t := by
    rw [fr]
    refine HandSPX.setFlight_upZ l.fly ?_
    intro h hh more
    have sky : Sky B X.stack e (Zc c d) X.env.locals h := by
      rw [st]
      exact .inr (.inr hh)
    exact wpAny_throw (tk _ _ ⟨e, B, sB, pins, τ, G, c, d, rfl, l.inv, l.below, l.up.trans more, sky, l.free, l.os, l.bare, w⟩)
  first
    | exact wpAny_bind onward
    | exact wpAny_bind (wpAny_pure (wpAny_bind onward))
/-- clause by clause -/
theorem by_clauses (st : X.stack = X.env :: X.outer) (fr : X.env.frame = some X.env.locals) (nd : X.N.Nodup) (hi : X.N[i]? = some n)
    (loc : X.env.kindOf n = some .local) (tk : Takes X out) (ok : X.Ok) {hs : List ExceptHandler} {qs : List Clause} (k : Clauses X n hs qs)
    {e : Addr} {c : Value} {d : Option Addr} {τ : L2.St} {G : Hp} {B : Heap} {sB t : Shared} (l : Landed X pins e c d τ G B sB t)
    (w : wClauses X.K i out D qs c d τ G) : wpAny (model X.prog X.w) X.A (handleBy (.ref e) X.env hs) (SP X pins D) X.xe t := by
  induction k with
  | done => exact none_left l st fr tk w
  | @more nm C rd b bs p1 p2 hs' qs' named suite rest ih =>
    obtain ⟨hit, eh, yes, no⟩ := w
    obtain ⟨a1, a2⟩ := l.apart fr
    have J := l.now
    obtain ⟨oe, us, at_, z, dt⟩ := l.fly.there
    have J1 := J.suite at_ dt l.free a1 a2
    refine wpAny_handleBy_cons (codeAny_handlers_test ?_) (fun q => nomatch q)
    have type : PySem.W.Looks (model X.prog X.w) t.heap (typeOf (.ref e)) c := by
      intro A' Q' E' s' keep q
      exact wpAny_typeOf_ref (keep _ _ at_) (by rw [z.1]; exact q)
    have ask := PySem.W.exm_one (M := model X.prog X.w) J.kIn type eh
    have read : ∀ {Q E : Value → Shared → Prop}, Q C t → wpAny (model X.prog X.w) (X.A.mark (some (.ref e))) (eval (.Name nm p1) X.env) Q E t := by
      intro Q E q
      obtain ⟨g, g2, m | ⟨m, v, nn⟩⟩ := named
      · exact ld_glob (X := X.suite e ((e, oe) :: (X.pn ++ pins))) J1 g m q g2
      · exact ld_blt (X := X.suite e ((e, oe) :: (X.pn ++ pins))) J1 g m v q nn g2
    refine read (ask.here ?_)
    cases hit with
    | false =>
      show wpAny _ X.A (handleBy (.ref e) X.env hs') _ _ _
      exact ih (no rfl)
    | true =>
      refine codeAny_handlers_suite_as ?_
      refine HandSPX.lands_againZ l.fly ?_
      intro h fly2 more
      have J2 : Inv X pins τ G { t with heap := h } := l.inv.landed l.below fly2.1 (l.up.trans more) l.os l.bare
      obtain ⟨oe2, us2, at2, z2, dt2⟩ := fly2.there
      have J3 := J2.suite at2 dt2 l.free a1 a2
      refine store_ok (X := X.suite e ((e, oe2) :: (X.pn ++ pins))) (v := .ref e) J3 nd hi (.inl loc) rfl ?_ (.inr loc)
      intro u J4
      have run := (suite e oe2 c d (X.pn ++ pins) z2 ⟨_, dt2⟩).run [] u _ G _ J4 (yes rfl e l.free)
      refine wpAny_mono run ?_ fun _ _ q => q.elim
      intro fl v after
      have leave : ∀ {τ' : L2.St} {G' : Hp} {R : Shared → Prop}, Inv (X.suite e ((e, oe2) :: (X.pn ++ pins))) [] τ' G' v →
          (∀ v', Inv X pins (τ'.set i none) G' v' → R v') →
          wpAny (model X.prog X.w) X.A (do bindName X.env n .none; unbindBehindTheSuite X.env n p2) (fun _ v' => R v') X.xe v := by
        intro τ' G' R J5 r
        exact gone_ok (J5.unsuite ok) nd hi loc r
      cases fl with
      | ret x =>
        obtain ⟨y, τ', G', J5, rx, q⟩ := after
        exact leave J5 fun _ J6 => ⟨y, _, _, J6, rx, q⟩
      | next =>
        obtain ⟨τ', G', J5, q⟩ := after
        exact leave J5 fun _ J6 => ⟨_, _, J6, q⟩
      | brk =>
        obtain ⟨τ', G', J5, q⟩ := after
        exact leave J5 fun _ J6 => ⟨_, _, J6, q⟩
      | cont =>
        obtain ⟨τ', G', J5, q⟩ := after
        exact leave J5 fun _ J6 => ⟨_, _, J6, q⟩
theorem ps_clauses {body : List Stmt} {h₀ : ExceptHandler} {hs : List ExceptHandler} {qs : List Clause} {pos : Pos} {tb : WX → TS}
    (st : X.stack = X.env :: X.outer) (fr : X.env.frame = some X.env.locals) (nd : X.N.Nodup) (hi : X.N[i]? = some n)
    (loc : X.env.kindOf n = some .local) (tk : Takes X out)
    (hb : ∀ (W : WX) (pn : List (Addr × Obj)) (xe : Value → Shared → Prop), Takes (X.tr pn xe) W →
      PassesOwn (model X.prog X.w) X.A X.env xe → PSs (X.tr pn xe) body (tb W))
    (k : Clauses X n (h₀ :: hs) qs) : PS X (.Try body (h₀ :: hs) [] [] pos) (fun D τ G => tb (wClauses X.K i out D qs) D τ G) := by
  constructor
  intro pins s τ G D I rd
  have ok := I.ok
  have frames : X.A.frames = some (X.env :: X.outer) := by rw [ok.frames, st]
  refine wpAny_Try_except ?_
  let catch_ : Value → Shared → Prop := fun x s1 =>
    wpAny (model X.prog X.w) X.A (noteFrame x X.env) (fun _ s2 => wpAny (model X.prog X.w) X.A (setFlight x none)
      (fun _ s3 => wpAny (model X.prog X.w) X.A (handleBy x X.env (h₀ :: hs)) (SP X pins D) X.xe s3) X.xe s2) X.xe s1
  have takes : Takes (X.tr (X.pn ++ pins) catch_) (wClauses X.K i out D qs) := by
    rintro x s1 ⟨e, B, sB, pins', τ1, G1, c, d, rfl, I1, below, up, sky, free, os, bare, w⟩
    have I2 : Inv X pins τ1 G1 sB := I1.ofTry ok
    have sky2 : Sky B (X.env :: X.outer) e (Zc c d) X.env.locals s1.heap := by
      rw [← st]
      exact sky
    show wpAny (model X.prog X.w) X.A (noteFrame (.ref e) X.env) _ _ _
    refine Sky.land Zc.steady frames fr sky2 ?_
    intro h fly more
    exact by_clauses st fr nd hi loc tk ok k ⟨I2, below, fly, up.trans more, free, os, bare⟩ w
  have run := (hb _ (X.pn ++ pins) catch_ takes PassesOwn.looking).run [] s τ G D (I.toTry _) rd
  refine wpAny_mono run ?_ fun _ _ q => q
  intro fl s1 after
  cases fl with
  | ret x =>
    obtain ⟨y, τ1, G1, I1, rx, q⟩ := after
    exact ⟨y, τ1, G1, I1.ofTry ok, rx, q⟩
  | next =>
    obtain ⟨τ1, G1, I1, q⟩ := after
    exact wpAny_execs_nil ⟨τ1, G1, I1.ofTry ok, q⟩
  | brk =>
    obtain ⟨τ1, G1, I1, q⟩ := after
    exact ⟨τ1, G1, I1.ofTry ok, q⟩
  | cont =>
    obtain ⟨τ1, G1, I1, q⟩ := after
    exact ⟨τ1, G1, I1.ofTry ok, q⟩
end
end FL
namespace FL
open PySem PySem.Spec PyProof.Rows L2
/-! ### isinstance(e, c), e an error with fields that the suite holds at a -/
theorem has_cls {K : PySem.W.Frag} {D : Addr} (h : PySem.W.hasDictIn K D = true) : (PySem.W.clsIn K D).isSome = true := by
  obtain ⟨cd, e, _⟩ := PySem.W.any_some h
  rw [e]
  rfl
def rIsY (K : PySem.W.Frag) (cls : Value) (d : Option Addr) (a : Addr) : List V → Hp → VK → Prop := fun xs H Q =>
  ∃ (D dd : Addr) (c : V) (cv : Value) (b : Bool) (fs : List (Str × V)), xs = [.ref a, c] ∧ cls = .ref D ∧ d = some dd ∧ ExcC K D
    ∧ (∀ u, RelV c u → u = cv) ∧ PySem.W.kitOne K (.ref D) cv = some b ∧ H dd = some (.xd fs) ∧ Q (.bl b) H
theorem call_isY {X : Cx} {a : Addr} {cls : Value} {d : Option Addr} {oe : Obj} {pn : List (Addr × Obj)} (hz : Zc cls d oe) (hf : ∃ vs, oe.data = .fields vs) :
    CallR (X.suite a ((a, oe) :: pn)) (.builtin "isinstance") (rIsY X.K cls d a) := by
  rintro pins s σ H xs us Q I r ⟨D, dd, c, cv, b, fs, rfl, rfl, rfl, C, only, e, at_, q⟩
  cases r with
  | cons r1 r2 =>
    cases r2 with
    | cons r2 r3 =>
      cases r3
      cases r1
      obtain rfl := only _ r2
      obtain ⟨vs, dt⟩ := hf
      have told := I.hok dd _ at_
      obtain ⟨m, ns, _⟩ : ∃ m, s.heap.Ns1 dd m ∧ ∀ f, RelO (fs.lookup f) (m f) := told
      obtain ⟨od, ho, _⟩ := lookIn_ns ns
      have here := (I.pin (a, oe) (List.mem_append.mpr (.inl List.mem_cons_self))).1
      have inst : PySem.W.InstAt s.heap a oe D (some od) := ⟨here, hz.1, by unfold PySem.W.notCls; rw [dt] <;> rfl, by rw [hz.2]; exact ho⟩
      refine PySem.W.kia_one (PySem.W.kitx_exc (has_cls C.hd) C.hg C.hk C.hs C.ha C.hn C.ht C.hm) I.kIn inst e (fun q => nomatch q) ?_
      intro tk
      exact ⟨.bl b, H, I.kept (t' := tk) fun _ _ k => k, rfl, q⟩
end FL
/-! errors with one field, raised and caught -/
namespace FL
open PySem PySem.Spec PyProof.Rows L2
/-- what the written part says of an error's class at C, of its __init__ at fI -/
structure ErC (K : PySem.W.Frag) (mg : Str → Option Value) (x n : Str) (C fI : Addr) : Prop where
  gC : mg x = some (.ref C)
  oex : OexC K C
  iC : PySem.W.findIn K (.ref C) "__init__" = some (some (.ref fI))
  tI : PySem.W.typeIn K (.ref fI) = some (.type "function")
  no : PySem.W.findIn K (.ref C) n = some none
  xf : XfC K C
  ec : ExcC K C
/-- __init__(self, value): self.value = value -/
def spErr (K : PySem.W.Frag) (n : Str) : Sp := fun vs H Q _ => ∃ (a C : Addr) (v : V), vs = [.ref a, v] ∧ OexC K C ∧ PySem.W.findIn K (.ref C) n = some none ∧ H a = some (exo a C none) ∧
  ∀ dx, H dx = none → dx ≠ a → Q .non (upd (upd H dx (exd dx [(n, v)])) a (exo a C (some dx)))
section
variable {P : Program} {w : World} {K : PySem.W.Frag} {mg : Str → Option Value} {base : Heap}
theorem ok_err {q : Str} {st : Stmt} {n : Str} {f : Addr} {fd : FuncData} {p1 p2 p3 p4 : Pos} (F : Fun K "__init__" q st f fd) (S : FnScope ["self", n] ["self", n] (defScope st))
    (hb : defBody st = [.Assign [.Attribute (.Name "self" p1) n p2] (.Name n p3) p4]) (hs : Vis (defScope st) "self") (hn : Vis (defScope st) n) (hd : (n == ("__debug__" : Str)) = false) (hcd : (n == ("__classdict__" : Str)) = false)
    (hsw : ∀ env : Env, swapsWith (.Name n p3) (some (.Attribute (.Name "self" p1) n p2)) p4.line env = pure false) :
    FnOk P w K mg base CX0 1 f fd ["self", n] (spErr K n) := by
  refine F.ok S (fun vs H Q E h => ?_) (fun cdv A outer s H vs Q E hr h => ?_)
  · obtain ⟨_, _, _, rfl, _⟩ := h
    rfl
  · obtain ⟨a, C, v, rfl, T, hno, ha, k⟩ := h
    rw [hb]
    refine ⟨_, pss_one (ps_ost (pe_var (i := 0) rfl hs) (pe_var (i := 1) rfl hn hd hcd) (hsw _)), ?_⟩
    exact ⟨_, rfl, _, rfl, a, C, rfl, T, hno, .inl ⟨ha, fun dx h1 h2 => k dx h1 h2⟩⟩
end
theorem del_upds {H : Hp} {a d : Addr} {o1 o2 o3 o4 : HO} (n : H a = none) (hd : d ≠ a) : upd (del (upd (upd (upd H a o1) d o2) a o3) a) d o4 = upd H d o4 := by
  funext b
  by_cases h1 : b = d
  · rw [h1, upd_same, upd_same]
  · rw [upd_ne h1, upd_ne h1]
    by_cases h2 : b = a
    · rw [h2, del_same, n]
    · rw [del_ne h2, upd_ne h2, upd_ne h1, upd_ne h2]
/-- what the making of an error asks -/
theorem mkErr {K : PySem.W.Frag} {n : Str} {C : Addr} {v : V} {H : Hp} {Q : XK} (T : OexC K C) (no : PySem.W.findIn K (.ref C) n = some none) (h : ∀ d, H d = none → Q (.ref C) (some d) (upd H d (.xd [(n, v)]))) :
    [v].length ≤ 1000 ∧ ∀ a, H a = none → spErr K n (.ref a :: ([v] ++ [])) (upd H a (exo a C none))
      (fun u H2 => u = .non ∧ ∃ (d : Addr) (fs : List (Str × V)), H2 a = some (exo a C (some d)) ∧ H2 d = some (exd d fs) ∧ H d = none ∧ Q (.ref C) (some d) (upd (del H2 a) d (.xd fs))) (fun _ _ _ => False) := by
  refine ⟨by show 1 ≤ 1000; decide, fun a ha => ⟨a, C, v, rfl, T, no, upd_same, fun dx h1 h2 => ⟨rfl, dx, [(n, v)], upd_same, ?_, ?_, ?_⟩⟩⟩
  · rw [upd_ne h2, upd_same]
  · rw [upd_ne h2] at h1
    exact h1
  · rw [upd_ne h2] at h1
    rw [del_upds ha h2]
    exact h dx h1
/-- all but tables stays -/
abbrev Ext := LamX.ExtN
theorem ext_of {H H' : Hp} (s : Same H H') : Ext H H' := .of s
end FL
namespace FL
open PySem PySem.Spec PyProof.Rows L2 LamX
/-- a wish may count on as many slots as there are names -/
theorem takes_len {X : Cx} {W : WX} (tk : Takes X W) : Takes X (fun c d τ G => τ.length = X.N.length → W c d τ G) := by
  rintro u s ⟨e, B, sB, pins, τ, G, c, d, q, I, x1, x2, x3, x4, x5, x6, w⟩
  exact tk u s ⟨e, B, sB, pins, τ, G, c, d, q, I, x1, x2, x3, x4, x5, x6, w I.len⟩
/-- as okG, with the def's code object -/
theorem okGC {P : Program} {w : World} {K : PySem.W.Frag} {mg : Str → Option Value} {base : Heap} {x qual : Str} {st : Stmt} {f : Addr} {fd : FuncData} {N ps : List Str} {k : Nat} {sp : Sp} {c : Addr}
    (F : Fun K x qual st f fd) (code : fd.code = .ref c) (S : FnScope N ps (defScope st))
    (size : ∀ vs H Q E, sp vs H Q E → vs.length = ps.length)
    (body : ∀ (A : Around) (outer : List Env) (s : Shared) (H : Hp) (vs : List V) (Q : VK) (E : XK),
      Room k (A.deeper (envOfC qual (defScope st) s.heap.objs.size f (.ref c))) → A.guards = some [] → sp vs H Q E →
      ∃ t, PSs (cxOf CX0 P w K mg base N qual (defScope st) f (.ref c) A outer s H E).nox (defBody st) t
        ∧ t { nx := fun _ H' => Q .non H', rt := Q } (start N vs) H) :
    FnG P w K mg base CX0 (k + 1) f fd ps sp := by
  obtain ⟨oc, od, kV, doc, pm, an, cdv, ct, osl, rfl, lk, hc⟩ := F.ex
  obtain rfl : cdv = .ref c := code
  refine ⟨size, ?_⟩
  intro A outer s H args us vs Q E hr hg e0 hb r hsp
  refine LamX.run_ofS (k := k) lk hc S hr e0 hb r (size _ _ _ _ hsp) ?_
  intro room
  obtain ⟨t, h1, h2⟩ := body A outer s H vs Q E room hg hsp
  exact ⟨t, h1.nox, h2⟩
end FL
namespace FL
open PySem PySem.Spec PyProof.Rows L2 LamX
/-! ### the end of a law one of whose defs makes lambdas: its table of code objects at T0 -/
abbrev bareTab : Obj := { cls := .none, data := .fields #[] }
def withT (T0 : Addr) (G : Hp) : Hp := fun b => if b = T0 then some (.tbl #[]) else G b
theorem with_at {T0 b : Addr} {G : Hp} {u : HO} (h : withT T0 G b = some u) : (b = T0 ∧ u = .tbl #[]) ∨ (b ≠ T0 ∧ G b = some u) := by
  unfold withT at h
  by_cases c : b = T0
  · rw [if_pos c] at h
    exact .inl ⟨c, (Option.some.inj h).symm⟩
  · rw [if_neg c] at h
    exact .inr ⟨c, h⟩
theorem endT {P : Program} {w : World} {K : PySem.W.Frag} {mg mb : Str → Option Value} {k : Nat} {fa a c0 T0 : Addr} {fd : FuncData} {x : Str} {sp : Sp} {s : Shared} {vs : List Value} {ns : List Int}
    (kx : K.In s.heap) (gl : s.heap.Ns mainGlobals mg) (bl : s.heap.Ns builtinsNs mb) (bb : ∀ y : Str, y ≠ "__name__" → mb y = bootBuiltins y) (nl : s.heap.NoLimit) (ng : s.gens = #[])
    (tab : s.heap.get? T0 = some bareTab) (out : K.lookup T0 = none) (cd : PySem.W.CodeHd s.heap c0 T0)
    (bmod : ∃ (bm : Addr) (ob : Obj), mg "__builtins__" = some (.ref bm) ∧ bm ≠ builtinsNs ∧ s.heap.get? bm = some ob ∧ ob.cls = .type "module" ∧ ob.dict = some builtinsNs ∧ ob.data = .plain)
    (oa : s.heap.get? a = some { cls := .type "list", data := .seq vs.toArray }) (hi : IntsAre vs ns) (le : ns.length ≤ sizeLine) (rm : Room k callerA)
    (F : ∀ base : Heap, K.In base → base.Ns mainGlobals mg → TabB base mg c0 T0 → FnG P w K mg base CX0 k fa fd [x] sp) (bd : ∀ (s : Shared) (u : Value), BindsTo s fd ⟨[u], []⟩ [(x, u)])
    (pr : ∀ H : Hp, H T0 = some (.tbl #[]) → SqL K H a (ns.map V.int) → sp [.ref a] H (fun v _ => v = .bl true) fun _ _ _ => False) :
    codeAny (model P w) callerA (.call (.ref fa) ⟨[.ref a], []⟩) (fun r t => r = .ok (.ret (.bool true)) ∧ OldK s.heap t.heap ∧ t.os = s.os ∧ AllBare t.gens) s := by
  have rv := vals_ints hi
  have lv := hi.length
  let o : Obj := { cls := .type "list", data := .seq vs.toArray }
  let H : Hp := withT T0 (onlyH K a o ns)
  have na : a ≠ T0 := fun z => by
    rw [z, tab] at oa
    cases oa
  have hT : H T0 = some (.tbl #[]) := if_pos rfl
  have hA : H a = onlyH K a o ns a := if_neg na
  have sq : SqL K H a (ns.map V.int) := by
    cases q : K.lookup a with
    | none => exact .inl (.inr ⟨o, hA.trans (if_pos ⟨rfl, q⟩)⟩)
    | some o' =>
      have e := kx a o' q
      rw [oa] at e
      cases e
      exact .inr ⟨_, vs.toArray, _, q, rfl, rfl, rfl, by rw [List.size_toArray, lv]; exact le, by simpa using rv⟩
  have ok : HOk P w H s.heap := fun b u e => by
    rcases with_at e with ⟨rfl, rfl⟩ | ⟨_, e⟩
    · exact tab
    · obtain ⟨rfl, _, rfl⟩ := only_at e
      exact ⟨oa, by rw [List.length_map]; exact le, vs, _, rv, oa⟩
  have seen : ∀ {b : Addr} {u : HO}, H b = some u → s.heap.get? b = some bareTab ∨ s.heap.get? b = some o := fun {b u} e => by
    rcases with_at e with ⟨rfl, _⟩ | ⟨_, e⟩
    · exact .inl tab
    · obtain ⟨rfl, _, _⟩ := only_at e
      exact .inr oa
  have stays : ∀ {b : Addr} {u : Obj}, s.heap.get? b = some u → (∀ v n, u.data ≠ .seq v n) → u.data ≠ .fields #[] → (hidT s.heap H).get? b = some u := fun {b u} e h1 h2 => by
    refine hidT_get e ?_
    cases q : H b with
    | none => rfl
    | some v =>
      rcases seen q with z | z
      · rw [e] at z
        cases z
        exact absurd rfl h2
      · rw [e] at z
        cases z
        exact absurd rfl (h1 _ _)
  have stay : ∀ {b : Addr} {m : Str → Option Value}, s.heap.Ns b m → (hidT s.heap H).Ns b m := fun {b m} n => by
    obtain ⟨ob, es, ep, e, d, r⟩ := n
    refine ⟨ob, es, ep, stays e (fun v n z => ?_) (fun z => ?_), d, r⟩
    · rw [d] at z
      cases z
    · rw [d] at z
      cases z
  have kb : K.In (hidT s.heap H) := fun b ob e => by
    refine hidT_get (kx b ob e) ?_
    cases q : H b with
    | none => rfl
    | some u =>
      rcases with_at q with ⟨rfl, _⟩ | ⟨_, q⟩
      · rw [out] at e
        cases e
      · obtain ⟨rfl, n, _⟩ := only_at q
        rw [n] at e
        cases e
  have md : Mod K mg (hidT s.heap H) := ⟨kb, stay gl, ⟨mb, stay bl, bb⟩, by
    obtain ⟨mc, n1, n2⟩ := nl
    exact ⟨mc, stay n1, n2⟩⟩
  have tb : TabB (hidT s.heap H) mg c0 T0 := by
    refine ⟨?_, ?_, ?_⟩
    · obtain ⟨u, us, f1, f2, f3, f4, f5, f6, f7, e1, r1, r2, r3, rest⟩ := cd
      refine ⟨u, us, f1, f2, f3, f4, f5, f6, f7, stays e1 (fun v n z => ?_) (fun z => ?_), r1, r2, r3, rest⟩
      · rw [r2] at z
        cases z
      · rw [r2] at z
        cases z
        simp at r3
    · obtain ⟨bm, ob, m1, m2, m3, m4, m5, m6⟩ := bmod
      refine ⟨bm, ob, m1, m2, fun q => ?_, fun q => ?_, stays m3 (fun v n z => ?_) (fun z => ?_), m4, m5, m6⟩
      · obtain ⟨u, es, ep, e, d, _⟩ := gl
        rw [q, e] at m3
        cases m3
        rw [d] at m6
        cases m6
      · rw [q, tab] at m3
        cases m3
        cases m6
      · rw [m6] at z
        cases z
      · rw [m6] at z
        cases z
    · intro q
      obtain ⟨u, es, ep, e, d, _⟩ := gl
      rw [q, tab] at e
      cases e
      cases d
  have env : Env0 P w K mg (hidT s.heap H) callerA [] s H :=
    ⟨rfl, md, fun b ob e => of_hidT e, Nat.le_of_eq (hidT_size _ _), trivial, fun b q => absurd (show b ∈ ([] : List Addr) from q) (by simp), ok, .of_eq ng⟩
  have run := (F _ kb (stay gl) tb).goes callerA [] s H ⟨[.ref a], []⟩ [.ref a] [.ref a] _ _ rm rfl env (bd s (.ref a)) (.cons rfl .nil) (pr H hT sq)
  refine codeAny_mono run fun r t z => ?_
  cases r with
  | error e => exact False.elim z
  | ok fl =>
    cases fl with
    | next => exact False.elim z
    | brk => exact False.elim z
    | cont => exact False.elim z
    | ret u =>
      obtain ⟨v, H', so, br, un, ok', rr, q⟩ := z
      obtain rfl : v = .bl true := q
      obtain rfl : u = Value.bool true := rr
      obtain ⟨more, gm⟩ : ∃ more : Array Value, t.heap.get? T0 = some { cls := .none, data := .fields more } := by
        obtain ⟨m, z⟩ := un.tbls T0 #[] hT
        exact ⟨_, ok' T0 _ z⟩
      have old : ∀ b ob, b ≠ T0 → s.heap.get? b = some ob → t.heap.get? b = some ob := fun b ob nb e => by
        cases q : H b with
        | none => exact un.keep b ob e q (by intro n; exact absurd (show b ∈ ([] : List Addr) from n) (by simp)) (by simp)
        | some u =>
          rcases with_at q with ⟨z, _⟩ | ⟨_, q2⟩
          · exact absurd z nb
          · obtain ⟨rfl, n, rfl⟩ := only_at q2
            obtain ⟨e2, _⟩ := ok' b _ (un.frzs b o _ q)
            rw [oa] at e
            cases e
            exact e2
      refine ⟨rfl, ⟨fun b ob e => ?_, fun b ob e => ?_⟩, so, br⟩
      · by_cases z : b = T0
        · subst z
          rw [tab] at e
          cases e
          exact .inr (.inl ⟨(cd.tab tab).isCodeTable, rfl, #[], more, rfl, by rw [Array.empty_append]; exact gm⟩)
        · exact .inl (old b ob z e)
      · by_cases z : b = T0
        · subst z
          exact ⟨_, gm⟩
        · exact ⟨ob, old b ob z e⟩
theorem walkT {l : PySem.W.OpenLaw} {n k : Nat} {q : Program} {loose : List Str} {XP : (Str → Option Value) → Heap → Prop} {YP : World → Heap → Prop} {d : DefRec} {x : Str} (hn : l.most = some n) (hs : n ≤ sizeLine) (hd : d.params.defaults = []) (rm : Room k callerA)
    (F : ∀ (w : World) (mg : Str → Option Value) (fa : Addr) (h : Heap), YP w h → h.Ns mainGlobals mg → mg d.name = some (.ref fa) → ∃ (K : PySem.W.Frag) (fd : FuncData) (sp : Sp) (c0 T0 : Addr), K.In h ∧ h.get? T0 = some bareTab ∧ K.lookup T0 = none ∧ PySem.W.CodeHd h c0 T0
      ∧ (∀ (s : Shared) (u : Value), BindsTo s fd ⟨[u], []⟩ [(x, u)])
      ∧ (∀ (H : Hp) (a : Addr) (ns : List Int), ns.length ≤ n → H T0 = some (.tbl #[]) → SqL K H a (ns.map V.int) → sp [.ref a] H (fun v _ => v = .bl true) fun _ _ _ => False)
      ∧ ∀ base : Heap, K.In base → base.Ns mainGlobals mg → TabB base mg c0 T0 → FnG l.prog w K mg base CX0 k fa fd [x] sp) :
    PySem.W.WalkO q loose XP YP l.row.toRowW d [] (fun f vs => PySem.call f vs) := by
  refine Att.attach_call hn hd ?_
  intro w s₀ s₁ mg mb fa o pm cd doc a vs ns G Y ho hd' hcd hmg hobj hints hlen hg
  obtain ⟨K, fd, sp, c0, T0, kx, tab, out, code, bd, pr, FF⟩ := F w mg fa _ Y G.T.g hmg
  exact endT kx G.T.g G.T.b G.T.builtins G.T.nolimit hg tab out code G.T.bmain hobj hints (Nat.le_trans hlen hs) rm FF bd fun H t0 sq => pr H a ns hlen t0 sq
end FL
namespace FL
open PySem PySem.Spec PyProof.Rows L2 LamX
/-! ### sorted(things, key=lambda x: body): a lambda of one parameter that captures nothing -/
/-- the lambda's body, run in a context of its own -/
abbrev lamX (X : Cx) (N : List Str) (scope : Scope) (f c' : Addr) (A : Around) (s : Shared) (H : Hp) : Cx :=
  cxOf CX0 X.prog X.w X.K X.mg X.base N (X.env.qual ++ "<lambda>") scope f (.ref c') A X.stack s H E0
section
variable {X : Cx} {pins : List (Addr × Obj)} {σ : L2.St} {H : Hp} {s : Shared}
theorem lam_pin {f : Addr} {obj : Obj} {fd : FuncData} (I : Inv X pins σ H s) (hf : s.heap.get? f = some obj) (hd : obj.data = .func fd) (hn : H f = none) (hfr : f ∉ frs X.stack) : Inv X ((f, obj) :: pins) σ H s := by
  refine I.pins_of fun p hp => ?_
  rcases List.mem_cons.mp hp with rfl | hp
  · refine ⟨hf, hn, fun e => ?_, fun z => hfr ?_, fun v e => ?_⟩
    · obtain ⟨m, ⟨o, es, ep, ho, q, _⟩, _⟩ := I.loc
      have e' : f = X.env.locals := e
      rw [← e', hf] at ho
      cases ho
      rw [hd] at q
      cases q
    · rcases I.ok.stk with e | ⟨e, _⟩
      · rw [e]; exact z
      · rw [e]
        unfold frs
        rw [List.filterMap_cons]
        split
        · exact z
        · exact List.mem_cons_of_mem _ z
    · have e' : obj.data = .cell v := e
      rw [hd] at e'
      cases e'
  · exact I.pin p (List.mem_append_right _ hp)
/-- a turn of the lambda -/
theorem lam_turn {α : Type} {N : List Str} {a : Str} {f c' : Addr} {pm ctv : Value} {params : Arguments} {body : Expr} {scope : Scope} {cl : List (Str × Addr)} {k : Nat} {tb : TE} {zs : List (V × α)} {key : V × α → PyData} {pins0 : List (Addr × Obj)} {A' : Around}
    (S : FnScope N [a] scope) (hbind : ∀ (u : Value), bindArgs (PySem.W.kla_fn "<lambda>" (X.env.qual ++ "<lambda>") params body scope cl pm (.ref c') ctv) ⟨[u], []⟩ = pure [(a, u)])
    (hpin : (f, PySem.W.kla_obj "<lambda>" (X.env.qual ++ "<lambda>") params body scope cl pm c' ctv) ∈ pins0) (hcl : cl = []) (hco : H c' = some (CodeO c' (X.env.qual ++ "<lambda>")))
    (hA : A'.frames = some X.stack) (hh : A'.handled = none) (hr : Room (k + 1) A')
    (hbody : ∀ (s : Shared) (H : Hp), Room k (A'.deeper (envOfC (X.env.qual ++ "<lambda>") scope s.heap.objs.size f (.ref c'))) → PE (lamX X N scope f c' A' s H) body tb)
    (ht : ∀ (Hi : Hp) (z : V × α), z ∈ zs → Same H Hi → tb (L2.start N [z.1]) Hi fun v H' => Same Hi H' ∧ Dp X.K H' v (key z)) :
    TurnG X A' (.ref f) pins0 H σ zs key := by
  intro pins2 s2 Hi u z hsub hz I2 kp ru
  have of1 := (I2.pin _ (List.mem_append_right _ (hsub _ hpin))).1
  obtain ⟨⟨oc, vs, t, hoc, hdc, hvc⟩, _, _⟩ := I2.hok c' _ (kp _ _ hco)
  have e0 : Env0 X.prog X.w X.K X.mg X.base A' X.stack s2 Hi := ⟨hA, I2.env0.mod, I2.env0.bs, I2.env0.bsz, I2.env0.funs, I2.env0.frf, I2.env0.hok, I2.env0.bare⟩
  have rv : Vals [z.1] [u] := .cons ru .nil
  have rc : codeAny (model X.prog X.w) A' (.call (.ref f) ⟨[u], []⟩) (CR CX0 X.stack X.prog X.w Hi s2 (fun v H' => Same Hi H' ∧ Dp X.K H' v (key z)) E0) s2 := by
    refine PySem.W.kla_callFunE hr.depth of1 rfl S.co S.gen rfl ⟨c', oc, vs, t, rfl, hoc, hdc, hvc⟩ ?_
    rw [hbind]
    have hkind : ∀ y ∈ [a].zip [u], scope.names.lookup y.1 = some .local ∨ (scope.names.lookup y.1 = some .cell ∧ ((cellsFrom (s2.heap.objs.size + 1) scope.names []).lookup y.1).isSome = true) := fun ⟨n, v⟩ hy => by
      rcases S.par n (List.of_mem_zip hy).1 with q | q
      · exact .inl q
      · exact .inr ⟨q, PySem.W.cellsFrom_some _ _ _ (.inl q)⟩
    subst hcl
    refine wpAny_pure (wpAny_newFunctionEnv_cells S.kind hkind fun env he s1 x => ?_)
    subst he
    refine ⟨I2.nolimit.keeps x.toInCall.keep, ?_⟩
    have J : Inv (lamX X N scope f c' A' s2 Hi) [] (L2.start N [z.1]) Hi s1 := inv_start S hh e0 rfl rv x
    refine PySem.W.kla_codeExpr (wpAny_mono ((hbody s2 Hi (hr.deeper _)).run [] s1 _ Hi _ J (ht Hi z hz kp)) (fun v s' hq => ?_) fun e s' hq => hq)
    obtain ⟨w', H', J', rv, q⟩ := hq
    exact ⟨w', H', J'.os, J'.bare, J'.base, J'.hok, rv, q⟩
  refine wpAny_call (codeAny_mono rc fun r s' hq => ?_)
  cases r with
  | error e => exact hq
  | ok fl =>
    cases fl with
    | ret u => exact I2.after hq
    | next => exact False.elim hq
    | brk => exact False.elim hq
    | cont => exact False.elim hq
end
/-- a new address, or a table's -/
def NewN (H : Hp) (a : Addr) : Prop := ∀ o, H a = some o → ∃ ps, o = .tbl ps
def tSortLam {α : Type} (K : PySem.W.Frag) (T : List (Addr × Str)) (N : List Str) (te : TA) (tb : TE) : TE := fun σ H Q => te σ H fun vs H1 => ∃ (l : Addr) (zs : List (V × α)) (key : V × α → PyData), vs = [.ref l] ∧ SqL K H1 l (zs.map Prod.fst) ∧ Tabs T H1 ∧ SortOk key zs
  ∧ (∀ (Hi : Hp) (z : V × α), z ∈ zs → ExtN H1 Hi → tb (L2.start N [z.1]) Hi fun v H' => Same Hi H' ∧ Dp K H' v (key z))
  ∧ ∀ H' a, ExtN H1 H' → Tabs T H' → NewN H1 a → H' a = some (.lst ((sortG key zs).map Prod.fst)) → Q (.ref a) H'
theorem extN_sqL {K : PySem.W.Frag} {H H' : Hp} (e : ExtN H H') {l : Addr} {xs : List V} (h : SqL K H l xs) : SqL K H' l xs := by
  rcases h with (h | ⟨o, h⟩) | h
  · exact .inl (.inl (e _ _ h fun _ z => by cases z))
  · exact .inl (.inr ⟨o, e _ _ h fun _ z => by cases z⟩)
  · exact .inr h
theorem pe_sortLam {X : Cx} {α : Type} {T : List (Addr × Str)} {N : List Str} {a : Str} {P c : Addr} {k : Nat} {params : Arguments} {body : Expr} {scope : Scope} {e : Expr} {te : TA} {tb : TE} {p lpos pos kpos : Pos}
    (hc : X.calm = true) (hg : Gl X "sorted") (hm : X.mg "sorted" = none) (ha : PA X [e] te) (TB : TabB X.base X.mg c P) (hcode : X.env.code = .ref c) (hmT : (P, X.env.qual ++ "<lambda>") ∈ T) (hu : ∀ p ∈ T, p.1 = P → p.2 = X.env.qual ++ "<lambda>")
    (S : FnScope N [a] scope) (hr : Room (k + 3) X.A) (hdef : defaultsOf params X.env = ([], [])) (hclo : ∀ cells, cloFrom cells scope.names [] = [])
    (hbind : ∀ (q : Str) (cl : List (Str × Addr)) (pm cv ctv : Value) (u : Value), bindArgs (PySem.W.kla_fn "<lambda>" q params body scope cl pm cv ctv) ⟨[u], []⟩ = pure [(a, u)])
    (hbody : ∀ (A : Around) (s : Shared) (H : Hp) (f c' : Addr), Room k (A.deeper (envOfC (X.env.qual ++ "<lambda>") scope s.heap.objs.size f (.ref c'))) → PE (lamX X N scope f c' A s H) body tb)
    (he : backTo pos (starEach [e] X.env) = (false, eval e X.env) :: backTo pos (starEach [] X.env) := by rfl) (hpl : (backTo pos (starEach [e] X.env)).any (·.1) = false := by rfl) :
    PE X (.Call (.Name "sorted" p) [e] [⟨some "key", .Lambda params body scope lpos, kpos⟩] pos) (tSortLam (α := α) X.K T N te tb) := by
  refine ⟨fun pins s σ H Q I h => ?_⟩
  refine wpAny_Call_Name_kw (ld_blt I hg hm (show bootBuiltins (Str.ofString "sorted") = some (.builtin "sorted") by decide +kernel) ?_ (by decide) (by decide))
  refine PyProof.Rows.callWith_kw (thn (ha.run pos pins s σ H _ I h) fun us s1 ⟨vs, H1, I1, r1, q1⟩ => ?_) he hpl (by rfl) (by rfl)
  obtain ⟨l, zs, key, rfl, hl, hT, ko, ht, hq⟩ := q1
  obtain rfl := Vals.ref1 r1
  show wpAny _ _ (evalAll ((do let v ← eval (.Lambda params body scope lpos) X.env; standAt pos; pure v) :: [])) _ _ s1
  refine wpAny_evalAll_cons (wpAny_bind (lam_make2 I1 TB hcode hmT hu hT hdef (fun y hy e => absurd e (S.nofree y hy)) fun f c' pm ctv H2 s2 I2 eN T2 hf hfn hfr hco => wpAny_bind (wpAny_standAt (wpAny_pure (wpAny_evalAll_nil ?_)))))
  show wpAny _ _ (call (.builtin "sorted") [.ref l] [(Str.ofString "key", .ref f)]) _ _ s2
  rw [hclo] at hf
  have I3 := lam_pin I2 hf rfl hfn hfr
  refine wpAny_mono (key_sortedG (Q := Q) I3 (extN_sqL eN hl) (by have := hr.un; omega) ko (lam_turn S (hbind _ _ _ _ _) List.mem_cons_self rfl hco I.ok.frames (I.ok.hd hc) hr.in1.in1 (fun s H => hbody _ s H f c') fun Hi z hz sm => ht Hi z hz (ExtN.trans eN (ExtN.of sm))) fun H' a' kp na ha => hq H' a' (ExtN.trans eN (ExtN.of kp)) (T2.ext kp) ?_ ha) (fun v s' hv => ?_) fun _ _ z => z
  · intro o q
    apply Classical.byContradiction
    intro n
    rw [eN a' o q fun ps e => n ⟨ps, e⟩] at na
    cases na
  · obtain ⟨v', H', I', rest⟩ := hv
    exact ⟨v', H', drop_pin I', rest⟩
end FL
namespace FL
open PySem PySem.Spec PyProof.Rows L2 LamX
/-- all but p and the tables of code objects stays -/
def ByX (p : Addr) (H H' : Hp) : Prop := ∀ c o, H c = some o → c ≠ p → (∀ ps, o ≠ .tbl ps) → H' c = some o
theorem ByX.refl (p : Addr) (H : Hp) : ByX p H H := fun _ _ e _ _ => e
theorem ByX.trans {p : Addr} {H H1 H2 : Hp} (a : ByX p H H1) (b : ByX p H1 H2) : ByX p H H2 := fun c o e n t => b c o (a c o e n t) n t
theorem ByX.but {p : Addr} {H H1 : Hp} (a : But p H H1) : ByX p H H1 := fun c o e n _ => a c o e n
theorem ByX.ext {p : Addr} {H H1 : Hp} (a : ExtN H H1) : ByX p H H1 := fun c o e _ t => a c o e t
theorem ByX.same {p : Addr} {H H1 : Hp} (a : Same H H1) : ByX p H H1 := fun c o e _ _ => a c o e
theorem not_tbl_l {xs : List V} : ∀ ps, (HO.lst xs) ≠ .tbl ps := fun _ z => by cases z
theorem not_tbl_t {xs : List V} : ∀ ps, (HO.tup xs) ≠ .tbl ps := fun _ z => by cases z
theorem pot_extN {H H' : Hp} {p : Addr} (h : PotAt H p) (s : ExtN H H') : PotAt H' p := by
  obtain ⟨a, b, e, r⟩ := h
  exact ⟨a, b, s _ _ e not_tbl_l, r⟩
theorem tabs_butX {T : List (Addr × Str)} {H H' : Hp} {p : Addr} (t : Tabs T H) (hp : PotAt H p) (b : But p H H') : Tabs T H' := fun q hq => by
  obtain ⟨_, _, hpe, _⟩ := hp
  obtain ⟨ps, h1, h2, h3⟩ := t q hq
  have ne : ∀ {c : Addr} {o : HO}, H c = some o → (∀ xs, o ≠ .lst xs) → c ≠ p := fun e n z => by
    rw [z, hpe] at e
    exact n _ (Option.some.inj e).symm
  refine ⟨ps, b _ _ h1 (ne h1 fun xs z => by cases z), h2, fun pos cv hc => ?_⟩
  obtain ⟨c, e1, e2⟩ := h3 pos cv hc
  exact ⟨c, e1, b _ _ e2 (ne e2 fun xs z => by unfold CodeO at z; cases z)⟩
theorem rules_byX {p : Addr} {H H' : Hp} {xs : List V} {rs : List Rule} (hp : PotAt H p) (b : ByX p H H') (h : RulesAt H xs rs) : RulesAt H' xs rs := RulesAt.imp h fun t a e => b t _ e (fun q => by
  obtain ⟨_, _, hpe, _⟩ := hp
  rw [q, hpe] at e
  cases e) not_tbl_t
theorem op_isnotB {X : Cx} : OpR X (compareOp .IsNot) (fun x y H Q => ∃ a b, x = .bl a ∧ y = .bl b ∧ Q (.bl (!decide (a = b))) H) := by
  intro pins s σ H x y v u Q I rx ry h
  obtain ⟨a, b, rfl, rfl, q⟩ := h
  cases rx
  cases ry
  show wpAny _ _ ((isSame (Value.bool a) (Value.bool b)) >>= fun z => pure (Value.bool (!z))) _ _ s
  refine wpAny_bind (wpAny_isSame_plain rfl (wpAny_pure (fin_bl I q ?_)))
  cases a <;> cases b <;> rfl
end FL
namespace FL
open PySem PySem.Spec PyProof.Rows L2
/-! ### all lines up to a length, in their order -/
def sg1 (c : Nat) : Str := ⟨#[c]⟩
def ext (z : Str) (y : Str) : List Str := z.cps.toList.map fun c => y ++ sg1 c
def lev (z : Str) : Nat → List Str
  | 0 => [Str.ofString ""]
  | i + 1 => (lev z i).flatMap (ext z)
def notesL (z : Str) : Nat → List Str
  | 0 => lev z 0
  | i + 1 => notesL z i ++ lev z (i + 1)
theorem ls_sg1 (y : Str) (c : Nat) : ls (y ++ sg1 c) = ls y ++ [c] := by
  rw [ls_app]
  rfl
theorem mem_lev {z : Str} : ∀ {i : Nat} {y : Str}, y ∈ lev z i ↔ Over z y ∧ y.length = i
  | 0, y => by
    show y ∈ [Str.ofString ""] ↔ _
    rw [List.mem_singleton]
    constructor
    · rintro rfl
      refine ⟨fun c hc => ?_, by decide +kernel⟩
      rw [show (Str.ofString "").cps.toList = [] by decide +kernel] at hc
      cases hc
    · rintro ⟨_, h⟩
      apply ls_inj
      rw [str_len] at h
      rw [show ls (Str.ofString "") = [] by decide +kernel]
      exact List.eq_nil_of_length_eq_zero h
  | i + 1, y => by
    show y ∈ (lev z i).flatMap (ext z) ↔ _
    rw [List.mem_flatMap]
    constructor
    · rintro ⟨u, hu, hy⟩
      obtain ⟨o, l⟩ := mem_lev.mp hu
      obtain ⟨c, hc, rfl⟩ := List.mem_map.mp hy
      refine ⟨over_app o (over_one hc), ?_⟩
      rw [len_app, l]
      rfl
    · rintro ⟨o, l⟩
      have hne : ls y ≠ [] := fun q => by
        rw [str_len] at l
        rw [show y.cps.toList = [] from q] at l
        cases l
      have e : (ls y).dropLast ++ [(ls y).getLast hne] = ls y := List.dropLast_concat_getLast hne
      refine ⟨st (ls y).dropLast, mem_lev.mpr ⟨fun c hc => o c (List.dropLast_subset _ hc), ?_⟩, List.mem_map.mpr ⟨(ls y).getLast hne, o _ (List.getLast_mem hne), ls_inj ?_⟩⟩
      · show (ls y).dropLast.length = i
        rw [List.length_dropLast]
        rw [str_len] at l
        show y.cps.toList.length - 1 = i
        omega
      · rw [ls_sg1]
        exact e
theorem lt_app : ∀ {a b s t : List Nat}, a.length = b.length → a < b → a ++ s < b ++ t
  | [], [], _, _, _, h => absurd h (by simp)
  | [], _ :: _, _, _, h, _ => nomatch h
  | _ :: _, [], _, _, h, _ => nomatch h
  | x :: a, y :: b, s, t, hl, h => by
    show x :: (a ++ s) < y :: (b ++ t)
    rw [List.cons_lt_cons_iff] at h ⊢
    rcases h with h | ⟨h1, h2⟩
    · exact .inl h
    · exact .inr ⟨h1, lt_app (Nat.succ.inj hl) h2⟩
theorem lt_app1 {c d : Nat} (h : c < d) : ∀ a : List Nat, a ++ [c] < a ++ [d]
  | [] => by
    show [c] < [d]
    rw [List.cons_lt_cons_iff]
    exact .inl h
  | x :: a => by
    show x :: (a ++ [c]) < x :: (a ++ [d])
    rw [List.cons_lt_cons_iff]
    exact .inr ⟨rfl, lt_app1 h a⟩
theorem lev_sorted {z : Str} (hz : z.cps.toList.Pairwise (· < ·)) : ∀ i, (lev z i).Pairwise fun a b => ls a < ls b
  | 0 => List.pairwise_singleton _ _
  | i + 1 => by
    show ((lev z i).flatMap (ext z)).Pairwise _
    have ih := lev_sorted hz i
    have hl : ∀ y ∈ lev z i, y.length = i := fun y hy => (mem_lev.mp hy).2
    rw [List.pairwise_flatMap]
    refine ⟨fun y hy => ?_, ?_⟩
    · unfold ext
      refine List.pairwise_map.mpr (hz.imp fun {c d} h => ?_)
      rw [ls_sg1, ls_sg1]
      exact lt_app1 h _
    · refine List.Pairwise.imp_of_mem (fun {a b} ha hb h x hx y hy => ?_) ih
      obtain ⟨c, _, rfl⟩ := List.mem_map.mp hx
      obtain ⟨d, _, rfl⟩ := List.mem_map.mp hy
      rw [ls_sg1, ls_sg1]
      have e1 := hl a ha
      have e2 := hl b hb
      rw [str_len] at e1 e2
      exact lt_app (e1.trans e2.symm) h
theorem mem_notes {z : Str} : ∀ {m : Nat} {y : Str}, y ∈ notesL z m ↔ Over z y ∧ y.length ≤ m
  | 0, y => by
    show y ∈ lev z 0 ↔ _
    rw [mem_lev]
    exact ⟨fun h => ⟨h.1, Nat.le_of_eq h.2⟩, fun h => ⟨h.1, by omega⟩⟩
  | m + 1, y => by
    show y ∈ notesL z m ++ lev z (m + 1) ↔ _
    rw [List.mem_append, mem_notes, mem_lev]
    constructor
    · rintro (⟨h1, h2⟩ | ⟨h1, h2⟩)
      · exact ⟨h1, by omega⟩
      · exact ⟨h1, by omega⟩
    · rintro ⟨h1, h2⟩
      by_cases e : y.length = m + 1
      · exact .inr ⟨h1, e⟩
      · exact .inl ⟨h1, by omega⟩
theorem notes_sorted {z : Str} (hz : z.cps.toList.Pairwise (· < ·)) : ∀ m, (notesL z m).Pairwise fun a b => lineLe a b = true
  | 0 => List.pairwise_singleton _ _
  | m + 1 => by
    show (notesL z m ++ lev z (m + 1)).Pairwise _
    refine List.pairwise_append.mpr ⟨notes_sorted hz m, List.Pairwise.imp_of_mem (fun {a b} ha hb h => ?_) (lev_sorted hz (m + 1)), fun a ha b hb => ?_⟩
    · refine lineLe_iff.mpr (.inr ⟨((mem_lev.mp ha).2).trans ((mem_lev.mp hb).2).symm, List.le_of_lt h⟩)
    · refine lineLe_iff.mpr (.inl ?_)
      have h1 := (mem_notes.mp ha).2
      have h2 := (mem_lev.mp hb).2
      omega
theorem lev_len (z : Str) : ∀ i, (lev z i).length = z.length ^ i
  | 0 => rfl
  | i + 1 => by
    show ((lev z i).flatMap (ext z)).length = _
    rw [List.length_flatMap]
    have : (lev z i).map (fun a => (ext z a).length) = (lev z i).map fun _ => z.length := List.map_congr_left fun a _ => by unfold ext; rw [List.length_map, str_len]
    rw [this, List.map_const', List.sum_replicate_nat, lev_len z i, Nat.pow_succ]
end FL
namespace FL
open PySem PySem.Spec PyProof.Rows L2
/-! ### stages of rules: where they may look behind a line -/
def tLs (rss : List (List Rule)) (l : Lns) : Lns := rss.foldl (fun l rs => tL rs l) l
theorem thr_list : ∀ (rss : List (List Rule)) (y : Str), ls (thr rss y) = tLs rss (ls y)
  | [], _ => rfl
  | rs :: rss, y => by
    show ls (thr rss (turn rs y)) = tLs rss (tL rs (ls y))
    rw [thr_list rss, turn_list]
def looksB (rs : List Rule) (y : Str) : Bool := rs.any fun r => decide (cutS r.old none (some ((y.length : Nat) : Int)) = y) && (!r.fr || decide (y.length < r.old.length))
def shortB : List (List Rule) → Str → Bool
  | [], _ => false
  | rs :: rss, y => looksB rs y || shortB rss (turn rs y)
theorem pre_take {a b : Str} : cutS b none (some ((a.length : Nat) : Int)) = a ↔ ls a <+: ls b := by
  constructor
  · intro h
    have e2 := congrArg ls h
    rw [cut_take] at e2
    rw [← e2]
    exact List.take_prefix _ _
  · intro h
    apply ls_inj
    rw [cut_take, str_len]
    exact (List.prefix_iff_eq_take.mp h).symm
theorem looks_iff {rs : List Rule} {y : Str} : looksB rs y = true ↔ ∃ r ∈ rs, ls y <+: ls r.old ∧ (r.fr = false ∨ y.length < r.old.length) := by
  unfold looksB
  rw [List.any_eq_true]
  constructor
  · rintro ⟨r, hr, h⟩
    obtain ⟨h1, h2⟩ := Bool.and_eq_true_iff.mp h
    refine ⟨r, hr, pre_take.mp (of_decide_eq_true h1), ?_⟩
    rcases Bool.or_eq_true_iff.mp h2 with h3 | h3
    · exact .inl (by simpa using h3)
    · exact .inr (of_decide_eq_true h3)
  · rintro ⟨r, hr, h1, h2⟩
    refine ⟨r, hr, Bool.and_eq_true_iff.mpr ⟨decide_eq_true (pre_take.mpr h1), ?_⟩⟩
    rcases h2 with h2 | h2
    · rw [h2]; rfl
    · rw [decide_eq_true h2, Bool.or_true]
theorem tL_far {u s : Lns} : ∀ {rs : List Rule}, (∀ r ∈ rs, u <+: ls r.old → r.fr = true ∧ (ls r.old).length ≤ u.length) → tL rs (u ++ s) = tL rs u ++ s
  | [], _ => rfl
  | r :: rs, h => by
    have h1 := h r List.mem_cons_self
    have ih := tL_far (s := s) fun r' hr' => h r' (List.mem_cons_of_mem _ hr')
    unfold tL
    cases e : r.fr with
    | true =>
      simp only
      by_cases hp : ls r.old <+: u
      · have hp2 : ls r.old <+: u ++ s := hp.trans (List.prefix_append _ _)
        rw [if_pos hp, if_pos hp2, List.append_assoc, List.drop_append_of_le_length hp.length_le]
      · have hp2 : ¬ ls r.old <+: u ++ s := fun q => by
          rcases Nat.le_total (ls r.old).length u.length with hl | hl
          · exact hp (List.prefix_of_prefix_length_le q (List.prefix_append _ _) hl)
          · have hu := List.prefix_of_prefix_length_le (List.prefix_append _ _) q hl
            have h2 := (h1 hu).2
            exact hp (List.prefix_of_prefix_length_le q (List.prefix_append _ _) h2)
        rw [if_neg hp, if_neg hp2, ih]
    | false =>
      simp only
      have n1 : ¬ u = ls r.old := fun q => by
        have := (h1 (by rw [q]; exact List.prefix_rfl)).1
        rw [e] at this
        cases this
      have n2 : ¬ u ++ s = ls r.old := fun q => by
        have := (h1 (by rw [← q]; exact List.prefix_append _ _)).1
        rw [e] at this
        cases this
      rw [if_neg n1, if_neg n2, ih]
theorem not_looks {rs : List Rule} {y : Str} (h : looksB rs y = false) : ∀ r ∈ rs, ls y <+: ls r.old → r.fr = true ∧ (ls r.old).length ≤ (ls y).length := fun r hr hp => by
  have key : ¬ (r.fr = false ∨ y.length < r.old.length) := fun q => by
    rw [looks_iff.mpr ⟨r, hr, hp, q⟩] at h
    cases h
  refine ⟨by cases e : r.fr with | true => rfl | false => exact absurd (.inl e) key, ?_⟩
  have := fun q => key (.inr q)
  rw [str_len, str_len] at this
  exact Nat.le_of_not_lt this
theorem far_evn {z : Lns} : ∀ {rss : List (List Rule)} {y : Str}, shortB rss y = false → Evn z (tLs rss) (ls y)
  | [], _, _ => fun _ _ => rfl
  | rs :: rss, y, h => fun s hs => by
    obtain ⟨h1, h2⟩ := Bool.or_eq_false_iff.mp h
    show tLs rss (tL rs (ls y ++ s)) = tLs rss (tL rs (ls y)) ++ s
    rw [tL_far (not_looks h1), ← turn_list]
    exact far_evn h2 s hs
theorem short_up : ∀ {rss : List (List Rule)} {y x : Str}, ls y <+: ls x → shortB rss x = true → shortB rss y = true
  | [], _, _, _, h => nomatch h
  | rs :: rss, y, x, hp, h => by
    show (looksB rs y || shortB rss (turn rs y)) = true
    cases e : looksB rs y with
    | true => rfl
    | false =>
      rw [Bool.false_or]
      obtain ⟨s, hs⟩ := hp
      rcases Bool.or_eq_true_iff.mp h with h1 | h1
      · obtain ⟨r, hr, q1, q2⟩ := looks_iff.mp h1
        have hp1 : ls y <+: ls r.old := (show ls y <+: ls x by rw [← hs]; exact List.prefix_append _ _).trans q1
        obtain ⟨n1, n2⟩ := not_looks e r hr hp1
        rcases q2 with q2 | q2
        · rw [q2] at n1; cases n1
        · have l1 : (ls y).length ≤ (ls x).length := by rw [← hs, List.length_append]; omega
          rw [str_len, str_len] at q2
          have q3 : (ls x).length < (ls r.old).length := q2
          omega
      · refine short_up (x := turn rs x) ?_ h1
        rw [turn_list, turn_list, ← hs, tL_far (not_looks e)]
        exact List.prefix_append _ _
theorem tL_len {M : Nat} : ∀ {rs : List Rule} {l : Lns}, (∀ r ∈ rs, r.old.length ≤ M) → l.length ≤ (tL rs l).length + M
  | [], l, _ => Nat.le_add_right _ _
  | r :: rs, l, h => by
    have h1 := h r List.mem_cons_self
    have ih := tL_len (l := l) fun r' hr' => h r' (List.mem_cons_of_mem _ hr')
    rw [str_len] at h1
    unfold tL
    cases e : r.fr with
    | true =>
      simp only
      by_cases hp : ls r.old <+: l
      · rw [if_pos hp, List.length_append, List.length_drop]
        have h2 : (ls r.old).length ≤ M := h1
        omega
      · rw [if_neg hp]; exact ih
    | false =>
      simp only
      by_cases hp : l = ls r.old
      · rw [if_pos hp, hp]
        have h2 : (ls r.old).length ≤ M := h1
        omega
      · rw [if_neg hp]; exact ih
theorem short_len {M : Nat} : ∀ {rss : List (List Rule)} {y : Str}, (∀ rs ∈ rss, ∀ r ∈ rs, r.old.length ≤ M) → shortB rss y = true → y.length ≤ rss.length * M
  | [], _, _, h => nomatch h
  | rs :: rss, y, hM, h => by
    rw [List.length_cons, Nat.succ_mul]
    rcases Bool.or_eq_true_iff.mp h with h1 | h1
    · obtain ⟨r, hr, q1, _⟩ := looks_iff.mp h1
      have l1 := q1.length_le
      have l2 := hM rs List.mem_cons_self r hr
      rw [str_len] at l2
      rw [str_len]
      have l3 : (ls r.old).length ≤ M := l2
      show (ls y).length ≤ _
      omega
    · have ih := short_len (fun rs' h' => hM rs' (List.mem_cons_of_mem _ h')) h1
      have l1 := tL_len (l := ls y) (hM rs List.mem_cons_self)
      rw [← turn_list] at l1
      rw [str_len] at ih
      rw [str_len]
      have ih2 : (ls (turn rs y)).length ≤ rss.length * M := ih
      show (ls y).length ≤ _
      omega
/-! ### the lines that are looked at, one behind another -/
def kids (z : Str) (rss : List (List Rule)) (y : Str) : List Str := if shortB rss y = true then ext z y else []
def lineLt (a b : Str) : Prop := a.length < b.length ∨ (a.length = b.length ∧ ls a < ls b)
theorem lineLt_len {a b : Str} (h : lineLt a b) : a.length ≤ b.length := by
  rcases h with h | h
  · omega
  · omega
theorem lineLt_le {a b : Str} (h : lineLt a b) : lineLe a b = true := lineLe_iff.mpr (h.imp id fun q => ⟨q.1, List.le_of_lt q.2⟩)
theorem lineLt_ne {a b : Str} (h : lineLt a b) : a ≠ b := fun e => by
  subst e
  rcases h with h | h
  · omega
  · exact List.lt_irrefl _ h.2
structure Bfs (z : Str) (rss : List (List Rule)) (N : List Str) (k : Nat) : Prop where
  le : k ≤ N.length
  eq : N = Str.ofString "" :: (N.take k).flatMap (kids z rss)
  srt : N.Pairwise lineLt
theorem Bfs.start (z : Str) (rss : List (List Rule)) : Bfs z rss [Str.ofString ""] 0 := ⟨Nat.zero_le _, rfl, List.pairwise_singleton _ _⟩
theorem mem_ext {z y x : Str} : x ∈ ext z y ↔ ∃ c ∈ ls z, x = y ++ sg1 c := by
  unfold ext
  rw [List.mem_map]
  exact ⟨fun ⟨c, h1, h2⟩ => ⟨c, h1, h2.symm⟩, fun ⟨c, h1, h2⟩ => ⟨c, h1, h2.symm⟩⟩
theorem mem_kids {z y x : Str} {rss : List (List Rule)} : x ∈ kids z rss y ↔ shortB rss y = true ∧ ∃ c ∈ ls z, x = y ++ sg1 c := by
  unfold kids
  by_cases h : shortB rss y = true
  · rw [if_pos h, mem_ext]
    exact ⟨fun q => ⟨h, q⟩, fun q => q.2⟩
  · rw [if_neg h]
    exact ⟨fun q => (nomatch q), fun q => absurd q.1 h⟩
theorem sg1_len (y : Str) (c : Nat) : (y ++ sg1 c).length = y.length + 1 := by
  rw [len_app]
  rfl
theorem kid_lt {a b : Str} {c d : Nat} (h : lineLt a b) : lineLt (a ++ sg1 c) (b ++ sg1 d) := by
  rcases h with h | ⟨h1, h2⟩
  · refine .inl ?_
    rw [sg1_len, sg1_len]
    omega
  · refine .inr ⟨by rw [sg1_len, sg1_len, h1], ?_⟩
    rw [ls_sg1, ls_sg1]
    rw [str_len, str_len] at h1
    exact lt_app h1 h2
theorem ext_sorted {z : Str} (hz : (ls z).Pairwise (· < ·)) (y : Str) : (ext z y).Pairwise lineLt := by
  unfold ext
  refine List.pairwise_map.mpr (hz.imp fun {c d} h => ?_)
  refine .inr ⟨by rw [sg1_len, sg1_len], ?_⟩
  rw [ls_sg1, ls_sg1]
  exact lt_app1 h _
theorem Bfs.mem {z : Str} {rss : List (List Rule)} {N : List Str} {k : Nat} (h : Bfs z rss N k) {x : Str} : x ∈ N ↔ x = Str.ofString "" ∨ ∃ u ∈ N.take k, shortB rss u = true ∧ ∃ c ∈ ls z, x = u ++ sg1 c := by
  conv => lhs; rw [h.eq]
  rw [List.mem_cons, List.mem_flatMap]
  refine or_congr Iff.rfl ?_
  exact ⟨fun ⟨u, h1, h2⟩ => ⟨u, h1, mem_kids.mp h2⟩, fun ⟨u, h1, h2⟩ => ⟨u, h1, mem_kids.mpr h2⟩⟩
theorem Bfs.step {z : Str} {rss : List (List Rule)} {N : List Str} {k : Nat} {y : Str} (hz : (ls z).Pairwise (· < ·)) (h : Bfs z rss N k) (hy : N[k]? = some y) : Bfs z rss (N ++ kids z rss y) (k + 1) := by
  have hk : k < N.length := (List.getElem?_eq_some_iff.mp hy).1
  have hyk : N[k] = y := (List.getElem?_eq_some_iff.mp hy).2
  refine ⟨by rw [List.length_append]; omega, ?_, List.pairwise_append.mpr ⟨h.srt, ?_, ?_⟩⟩
  · rw [List.take_append_of_le_length (by omega), take_snoc hy, List.flatMap_append]
    rw [List.flatMap_cons, List.flatMap_nil, List.append_nil]
    show N ++ kids z rss y = (Str.ofString "" :: (N.take k).flatMap (kids z rss)) ++ kids z rss y
    rw [← h.eq]
  · unfold kids
    split
    · exact ext_sorted hz y
    · exact .nil
  · intro a ha b hb
    obtain ⟨_, d, hd, rfl⟩ := mem_kids.mp hb
    rcases h.mem.mp ha with rfl | ⟨u, hu, _, c, hc, rfl⟩
    · refine .inl ?_
      rw [sg1_len]
      exact Nat.lt_of_lt_of_le (show (Str.ofString "").length < 1 by decide +kernel) (Nat.le_add_left _ _)
    · obtain ⟨i, hi, hie⟩ := List.mem_take_iff_getElem.mp hu
      refine kid_lt ?_
      rw [← hie, ← hyk]
      exact List.pairwise_iff_getElem.mp h.srt i k (by omega) hk (by omega)
theorem notes_len {z : Str} (hz : z.length ≤ 4) : ∀ m, (notesL z m).length ≤ 2 * 4 ^ m
  | 0 => by show 1 ≤ 2; decide
  | m + 1 => by
    have ih := notes_len hz m
    have h1 : (lev z (m + 1)).length ≤ 4 ^ (m + 1) := by
      rw [lev_len]
      exact Nat.pow_le_pow_left hz _
    show (notesL z m ++ lev z (m + 1)).length ≤ _
    rw [List.length_append]
    rw [Nat.pow_succ] at h1 ⊢
    omega
theorem nodup_of_lt {N : List Str} (h : N.Pairwise lineLt) : N.Nodup := h.imp fun {a b} q => lineLt_ne q
theorem nodup_sub {α : Type} [DecidableEq α] : ∀ {l m : List α}, l.Nodup → (∀ x ∈ l, x ∈ m) → l.length ≤ m.length
  | [], _, _, _ => Nat.zero_le _
  | x :: l, m, hn, hs => by
    obtain ⟨h1, h2⟩ := List.nodup_cons.mp hn
    have hx := hs x List.mem_cons_self
    have ih := nodup_sub (l := l) (m := m.erase x) h2 fun y hy => (List.mem_erase_of_ne (fun e => h1 (by rw [← e]; exact hy))).mpr (hs y (List.mem_cons_of_mem _ hy))
    rw [List.length_erase_of_mem hx] at ih
    have : 0 < m.length := List.length_pos_of_mem hx
    rw [List.length_cons]
    omega
theorem Bfs.ok {z : Str} {rss : List (List Rule)} {N : List Str} {k B : Nat} (hB : ∀ y, shortB rss y = true → y.length ≤ B) (h : Bfs z rss N k) : ∀ n, ∀ x ∈ N, x.length = n → Over z x ∧ x.length ≤ B + 1 := by
  intro n
  induction n with
  | zero =>
    intro x hx e
    refine ⟨fun c hc => ?_, by omega⟩
    have : ls x = [] := List.eq_nil_of_length_eq_zero (by rw [str_len] at e; exact e)
    rw [show x.cps.toList = [] from this] at hc
    cases hc
  | succ n ih =>
    intro x hx e
    rcases h.mem.mp hx with rfl | ⟨u, hu, hs, c, hc, rfl⟩
    · rw [show (Str.ofString "").length = 0 by decide +kernel] at e
      cases e
    · rw [sg1_len] at e ⊢
      obtain ⟨h1, _⟩ := ih u (List.mem_of_mem_take hu) (by omega)
      exact ⟨over_app h1 (over_one hc), Nat.succ_le_succ (hB u hs)⟩
theorem Bfs.few {z : Str} {rss : List (List Rule)} {N : List Str} {k B : Nat} (hz : z.length ≤ 4) (hB : ∀ y, shortB rss y = true → y.length ≤ B) (h : Bfs z rss N k) : N.length ≤ 2 * 4 ^ (B + 1) :=
  Nat.le_trans (nodup_sub (nodup_of_lt h.srt) fun x hx => mem_notes.mpr (h.ok hB _ x hx rfl)) (notes_len hz _)
/-- all that is not even is looked at -/
theorem Bfs.all {z : Str} {rss : List (List Rule)} {N : List Str} (h : Bfs z rss N N.length) : ∀ (n : Nat) (x : Str), x.length = n → Over z x → ¬ Evn (ls z) (tLs rss) (ls x) → x ∈ N
  | 0, x, e, _, _ => by
    refine h.mem.mpr (.inl (ls_inj ?_))
    rw [str_len] at e
    rw [show ls x = [] from List.eq_nil_of_length_eq_zero e]
    decide +kernel
  | n + 1, x, e, ho, hv => by
    have hne : ls x ≠ [] := fun q => by
      rw [str_len] at e
      rw [show x.cps.toList = [] from q] at e
      cases e
    have ex : x = st (ls x).dropLast ++ sg1 ((ls x).getLast hne) := ls_inj (by
      rw [ls_sg1]
      exact (List.dropLast_concat_getLast hne).symm)
    have hc : (ls x).getLast hne ∈ ls z := ho _ (List.getLast_mem hne)
    generalize (ls x).getLast hne = c at ex hc
    have hou : Over z (st (ls x).dropLast) := fun d hd => ho d (List.dropLast_subset _ hd)
    generalize st (ls x).dropLast = u at ex hou
    subst ex
    have hvu : ¬ Evn (ls z) (tLs rss) (ls u) := fun q => hv (by
      rw [ls_sg1]
      exact q.down fun d hd => by rw [List.mem_singleton.mp hd]; exact hc)
    have hu := Bfs.all h n u (by rw [sg1_len] at e; exact Nat.succ.inj e) hou hvu
    refine h.mem.mpr (.inr ⟨u, by rw [List.take_length]; exact hu, ?_, c, hc, rfl⟩)
    cases q : shortB rss u with
    | true => rfl
    | false => exact absurd (far_evn q) hvu
theorem Bfs.cells {z : Str} {rss : List (List Rule)} {N : List Str} (h : Bfs z rss N N.length) {x : Str} (ho : Over z x) (hc : Cell (ls z) (tLs rss) (ls x)) : x ∈ N := by
  rcases hc with q | q | ⟨u, c, hc, q, hu⟩
  · exact h.mem.mpr (.inl (ls_inj (by rw [q]; decide +kernel)))
  · exact h.all _ x rfl ho q
  · have ex : x = st u ++ sg1 c := ls_inj (by rw [q, ls_sg1])
    subst ex
    have hou : Over z (st u) := fun d hd => ho d (by
      show d ∈ ls (st u ++ sg1 c)
      rw [ls_sg1]
      exact List.mem_append_left _ hd)
    have hm := h.all _ (st u) rfl hou hu
    refine h.mem.mpr (.inr ⟨st u, by rw [List.take_length]; exact hm, ?_, c, hc, rfl⟩)
    cases e : shortB rss (st u) with
    | true => rfl
    | false => exact absurd (far_evn e) hu
end FL
namespace K11
open PySem PySem.Spec PyProof.Rows L2 FL
abbrev sNumbered : Stmt := topS 28
abbrev nNumbered : List Str := ["rows", "start", "ends", "met", "places", "met_rows", "row", "state", "is_end", "end", "place"]
theorem scNumbered : FnScope nNumbered ["rows", "start", "ends"] (defScope sNumbered) := ⟨rfl, rfl, rfl, by decide +kernel, rfl, by decide +kernel, by decide +kernel⟩
def spNumbered (K : PySem.W.Frag) : Sp := fun vs H Q _ => ∃ (v e : V) (s0 n m : Nat) (R : Rws) (E : List Nat), vs = [v, .int (s0 : Nat), e] ∧ RowsY K H v R ∧ Frm n m R ∧ s0 < n ∧ n ≤ 1000000 ∧ m ≤ 1000 ∧ IntsY K H e E ∧ E.length ≤ 1000000 ∧
  ∀ (x : V) (met : List Nat) (H' : Hp), Same H H' → BfsM (rowOf R) beqN [s0] 0 met → FormN H H' x (numRows (rowOf R) beqN met) (numEnds (fun s => decide (s ∈ E)) met) → Q x H'
theorem while_n {c : TT} {tb : TS} {D : Ends} {σ : L2.St} {H : Hp} (Pv : Nat → L2.St → Hp → Prop) {m0 : Nat} (h0 : Pv m0 σ H)
    (hs : ∀ m σ H, Pv m σ H → c σ H fun b H1 => if b = true then tb { D with nx := fun σ' H' => ∃ m', m' < m ∧ Pv m' σ' H', ct := fun σ' H' => ∃ m', m' < m ∧ Pv m' σ' H', bk := D.nx } σ H1 else D.nx σ H1)
    (mono : ∀ σ H Q Q', (∀ b H1, Q b H1 → Q' b H1) → c σ H Q → c σ H Q') : tWhile c tb D σ H := by
  refine ⟨Pv, ⟨_, h0⟩, ?_⟩
  intro m σ H p
  refine mono σ H _ _ (fun b H1 q => ?_) (hs m σ H p)
  cases b with
  | true => exact ⟨_, fun σ' H' h => h, q⟩
  | false => exact q
/-- the rows of the first ones that were met -/
def outR (R : Rws) (met : List Nat) (k : Nat) : Rws := (met.take k).map fun s => (rowOf R s).map (placeM beqN met)
theorem paired_getR {σ τ : Type} {R : σ → τ → Prop} : ∀ {as : List σ} {bs : List τ}, Paired R as bs → ∀ {i : Nat} {b : τ}, bs[i]? = some b → ∃ a, as[i]? = some a ∧ R a b
  | _, _, .cons x _, 0, _, e => by
    cases e
    exact ⟨_, rfl, x⟩
  | _, _, .cons _ y, i + 1, _, e => paired_getR y (i := i) e
theorem place_pre {met e : List Nat} {t : Nat} (h : met.any (fun x => beqN x t) = true) : placeM beqN (met ++ e) t = placeM beqN met t := by
  unfold placeM
  rw [List.findIdx_append, if_pos]
  obtain ⟨x, hx, q⟩ := List.any_eq_true.mp h
  exact (List.findIdx_lt_length (p := fun x => beqN x t)).mpr ⟨x, hx, q⟩
theorem beqN_refl (s : Nat) : beqN s s = true := by simp [beqN]
theorem addAll_take {row met : List Nat} {j s : Nat} (h : row[j]? = some s) : addAll beqN met (row.take (j + 1)) = addS beqN (addAll beqN met (row.take j)) s := by
  unfold addAll
  rw [take_snoc h, List.foldl_append]
  rfl
/-- how far one is -/
structure NumI (n m : Nat) (R : Rws) (s0 : Nat) (met : List Nat) (kk : Nat) : Prop where
  le : kk ≤ met.length
  cl : ∀ (i s : Nat), i < kk → met[i]? = some s → ∀ t ∈ rowOf R s, met.any (fun x => beqN x t) = true
  con : ∀ res, BfsM (rowOf R) beqN met kk res → BfsM (rowOf R) beqN [s0] 0 res
  lt : ∀ s ∈ met, s < n
  ap : met.Pairwise (fun x y => beqN x y = false)
theorem few_of {n : Nat} {met : List Nat} (lt : ∀ s ∈ met, s < n) (ap : met.Pairwise (fun x y => beqN x y = false)) : met.length ≤ n := by
  have nd : met.Nodup := ap.imp fun {a b} h e => by rw [e, beqN_refl] at h; cases h
  have := nodup_sub nd (m := List.range n) fun s hs => List.mem_range.mpr (lt s hs)
  rwa [List.length_range] at this
theorem NumI.few {n m : Nat} {R : Rws} {s0 : Nat} {met : List Nat} {kk : Nat} (h : NumI n m R s0 met kk) : met.length ≤ n := few_of h.lt h.ap
theorem NumI.start {n m : Nat} {R : Rws} {s0 : Nat} (h : s0 < n) : NumI n m R s0 [s0] 0 := ⟨Nat.zero_le _, fun i s hi => absurd hi (Nat.not_lt_zero _), fun _ h => h, fun s hs => by rw [List.mem_singleton.mp hs]; exact h, List.pairwise_singleton _ _⟩
theorem NumI.step {n m : Nat} {R : Rws} {s0 s : Nat} {met : List Nat} {kk : Nat} (F : Frm n m R) (h : NumI n m R s0 met kk) (e : met[kk]? = some s) : NumI n m R s0 (addAll beqN met (rowOf R s)) (kk + 1) ∧ outR R (addAll beqN met (rowOf R s)) (kk + 1) = outR R met kk ++ [(rowOf R s).map (placeM beqN (addAll beqN met (rowOf R s)))] := by
  obtain ⟨x, hx⟩ := addAll_pre beqN (rowOf R s) met
  have lk := (List.getElem?_eq_some_iff.mp e).1
  have hs := h.lt s (List.mem_of_getElem? e)
  refine ⟨⟨by rw [hx, List.length_append]; omega, fun i s' hi hs' t ht => ?_, fun res q => h.con res (.step e q), addAll_mem _ _ h.lt fun t ht => row_lt F hs t ht, addAll_apart _ _ h.ap⟩, ?_⟩
  · rw [hx, List.getElem?_append_left (by omega)] at hs'
    by_cases ik : i = kk
    · subst ik
      rw [e] at hs'
      cases hs'
      exact addAll_has beqN_refl _ _ t ht
    · rw [hx]
      exact any_append_left (h.cl i s' (by omega) hs' t ht)
  · unfold outR
    have e1 : (addAll beqN met (rowOf R s)).take (kk + 1) = met.take kk ++ [s] := by
      rw [hx, List.take_append_of_le_length (by omega), take_snoc e]
    rw [e1, List.map_append]
    congr 1
    refine List.map_congr_left fun s' hs' => List.map_congr_left fun t ht => ?_
    obtain ⟨i, hi, rfl⟩ := List.mem_iff_getElem.mp hs'
    rw [List.length_take] at hi
    rw [hx]
    refine place_pre (h.cl i _ (by omega) ?_ t ht)
    rw [List.getElem_take, List.getElem?_eq_getElem (by omega)]
theorem NumI.done {n m : Nat} {R : Rws} {s0 : Nat} {met : List Nat} {kk : Nat} (h : NumI n m R s0 met kk) (g : met.length ≤ kk) : BfsM (rowOf R) beqN [s0] 0 met ∧ outR R met kk = numRows (rowOf R) beqN met := by
  refine ⟨h.con met (.stop g), ?_⟩
  unfold outR numRows
  rw [List.take_of_length_le g]
theorem tups_lst {H : Hp} {M : Addr} {xs : List V} {o : HO} (e : H M = some (.lst xs)) : ∀ a u, H a = some (.tup u) → upd H M o a = some (.tup u) := fun a u q => by
  rw [upd_ne (ne_of q e (by intro z; cases z))]
  exact q
theorem tups_dK {H : Hp} {M : Addr} {kvs : List (Key × V)} {o : HO} (e : H M = some (.dK kvs)) : ∀ a u, H a = some (.tup u) → upd H M o a = some (.tup u) := fun a u q => by
  rw [upd_ne (ne_of q e (by intro z; cases z))]
  exact q
section
variable {P : Program} {w : World} {K : PySem.W.Frag} {mg : Str → Option Value} {base : Heap}
theorem ok_numbered {f : Addr} {fd : FuncData} (F : Fun K "numbered" "numbered" sNumbered f fd) (mN : mg "len" = none) (mT : mg "tuple" = none) (mE : mg "enumerate" = none) : FnOk P w K mg base CX0 1 f fd ["rows", "start", "ends"] (spNumbered K) := by
  refine F.ok scNumbered (fun vs H Q E h => ?_) (fun cdv A outer s H vs Q E hr h => ?_)
  · obtain ⟨_, _, _, _, _, _, _, rfl, _⟩ := h
    rfl
  · obtain ⟨v, e, s0, n, m, R, E, rfl, hR, fm, ls, bn, bm, hE, lE, k⟩ := h
    have nd := scNumbered.nd
    have hu : (A.deeper (envOfC "numbered" (defScope sNumbered) s.heap.objs.size f cdv)).units + 1 < cLine := by have := hr.un; omega
    have sz : sizeLine = 16777216 := rfl
    refine ⟨_, pss_cons (ps_set (i := 3) nd rfl (.inl rfl) (pe_lst (pa_cons (pv 1) pa_nil)))
      (pss_cons (ps_set (i := 4) nd rfl (.inr rfl) (pe_disp (pps_cons (pv 1) pe_int pps_nil) rfl rfl (List.cons_ne_nil _ _) (by decide)))
      (pss_cons (ps_set (i := 5) nd rfl (.inl rfl) (pe_lst pa_nil))
      (C8.pss_cut (ps_while PassesOwn.never (pt_cmpR op_lt (pe_callB callLen (by rfl) mN PySem.boot_len (pa_cons (pv 5) pa_nil)) (pe_callB callLen (by rfl) mN PySem.boot_len (pa_cons (pv 3) pa_nil)) (nomark _))
        (pss_cons (ps_set (i := 6) nd rfl (.inl rfl) (pe_ix ix_seqY (pv 0) (pe_ix ix_list (pv 3) (pe_callB callLen (by rfl) mN PySem.boot_len (pa_cons (pv 5) pa_nil)) (fun _ _ => rfl)) (fun _ _ => rfl)))
        (pss_cons (ps_for PassesOwn.never rfl (pi_seqY (pv 6)) (pg_name (i := 7) nd rfl (.inl rfl))
          (pss_one (ps_if (pt_cmp (pc_dnotin hu (pv 7) (pv 4)))
            (pss_cons (ps_dput hu (pv 4) (pv 7) (pe_callB callLen (by rfl) mN PySem.boot_len (pa_cons (pv 3) pa_nil)) rfl)
            (pss_one (ps_expr (pe_bm PySem.F.plainAttrs_list PySem.F.slot_list_append PySem.F.type_list_append mtAppend (pv 3) (pa_cons (pv 7) pa_nil))))) pss_nil)))
        (pss_one (ps_expr (pe_bm PySem.F.plainAttrs_list PySem.F.slot_list_append PySem.F.type_list_append mtAppend (pv 5)
          (pa_cons (pe_callTy call_tuple_of (by rfl) mT (by decide +kernel) (pa_cons (pe_lc (own := [("state", 7)]) (g := gName 7) (tt := tYes) rfl nd (pi_seqY (pv 6)) (blkOk_by (N := nNumbered) (sc := defScope sNumbered) (by decide +kernel)) (fun _ _ _ _ _ => pg_name (i := 7) nd rfl (Or.inl rfl)) (fun _ _ _ _ _ => pts_nil)
            (fun _ _ _ _ _ => pe_dget hu (pv 4) (pv 7) (fun _ _ => rfl))) pa_nil)) pa_nil)))))))
      (C8.pss_cut (ps_set (i := 8) nd rfl (.inr rfl) (pe_dc (own := [("end", 9)]) (g := gName 9) (tt := tYes) rfl nd (pi_seqY (pv 2)) (blkOk_by (N := nNumbered) (sc := defScope sNumbered) (by decide +kernel)) (fun _ _ _ _ _ => pg_name (i := 9) nd rfl (Or.inl rfl)) (fun _ _ _ _ _ => pts_nil) (fun _ _ _ _ _ => pv 9) (fun _ _ _ _ _ => pe_bl)))
      (pss_one (ps_ret (pe_tup (pa_cons (pv 5) (pa_cons (pe_lc (own := [("place", 10), ("state", 7)]) (g := gTup K 2 (gCons (gName 10) (gCons (gName 7) gNil))) rfl nd (pi_enum (by rfl) mE (pa_cons (pv 3) pa_nil)) (blkOk_by (N := nNumbered) (sc := defScope sNumbered) (by decide +kernel))
        (fun _ _ _ _ _ => pg_tup rfl (pgs_cons (pg_name (i := 10) nd rfl (Or.inl rfl)) (pgs_cons (pg_name (i := 7) nd rfl (Or.inl rfl)) pgs_nil))) (fun _ _ _ _ _ => pts_one (pt_cmp (pc_din hu (pv 7) (pv 8)))) (fun _ _ _ _ _ => pv 10)) pa_nil))))))))), ?_⟩
    obtain ⟨va, xs, rfl, qR, pR⟩ := hR
    obtain ⟨ea, rfl, qE⟩ := hE
    refine ⟨_, rfl, (by show 1 ≤ sizeLine; decide), fun M hM => ?_⟩
    have s1 : Same H (upd H M (.lst [.int (s0 : Nat)])) := (Same.refl H).upd hM
    have gM : upd H M (.lst [.int (s0 : Nat)]) M = some (.lst (vN' [s0])) := upd_same
    generalize upd H M (.lst [.int (s0 : Nat)]) = H1 at s1 gM ⊢
    intro D hD
    refine ⟨_, rfl, upd_same, [(Sum.inl (s0 : Int), .int 0)], rfl, (by show 1 ≤ 15; decide), ?_⟩
    have hD0 := s1.none hD
    have nMD : M ≠ D := ne_of_none gM hD
    have s2 : Same H (upd (upd H1 D (.dK [])) D (.dK (mergeK [] [(Sum.inl (s0 : Int), V.int 0)]))) := (s1.upd hD0).upd hD0
    have gD : upd (upd H1 D (.dK [])) D (.dK (mergeK [] [(Sum.inl (s0 : Int), V.int 0)])) D = some (.dK (mergeK [] [(Sum.inl (s0 : Int), V.int 0)])) := upd_same
    have gM2 : upd (upd H1 D (.dK [])) D (.dK (mergeK [] [(Sum.inl (s0 : Int), V.int 0)])) M = some (.lst (vN' [s0])) := by rw [upd_ne nMD, upd_ne nMD]; exact gM
    have pk0 : PlcK (mergeK [] [((Sum.inl (s0 : Int) : Key), V.int 0)]) [s0] := PlcK.put PlcK.nil rfl
    generalize (mergeK [] [((Sum.inl (s0 : Int) : Key), V.int 0)]) = kv0 at s2 gD gM2 pk0 ⊢
    generalize upd (upd H1 D (.dK [])) D (.dK kv0) = H2 at s2 gD gM2 ⊢
    refine ⟨(by decide), fun O hO => ?_⟩
    have hO0 := s2.none hO
    have nMO : M ≠ O := ne_of_none gM2 hO
    have nDO : D ≠ O := ne_of_none gD hO
    have s3 : Same H (upd H2 O (.lst [])) := s2.upd hO0
    have gO : upd H2 O (.lst []) O = some (.lst []) := upd_same
    have gM3 : upd H2 O (.lst []) M = some (.lst (vN' [s0])) := by rw [upd_ne nMO]; exact gM2
    have gD3 : upd H2 O (.lst []) D = some (.dK kv0) := by rw [upd_ne nDO]; exact gD
    generalize upd H2 O (.lst []) = H3 at s3 gO gM3 gD3 ⊢
    clear gM gD gM2 s2 s1
    refine ⟨fun σ' H' => ∃ (met : List Nat) (rs : List V) (o6 o7 : Option V), σ' = [some (.ref va), some (.int (s0 : Nat)), some (.ref ea), some (.ref M), some (.ref D), some (.ref O), o6, o7, none, none, none] ∧ Same H H' ∧ H' M = some (.lst (vN' met)) ∧ H' O = some (.lst rs) ∧ RowsT H' rs (numRows (rowOf R) beqN met) ∧ BfsM (rowOf R) beqN [s0] 0 met ∧ met.length ≤ n, ?_, ?_⟩
    · refine while_n (fun mm σ' H' => ∃ (met : List Nat) (kvs : List (Key × V)) (rs : List V) (o6 o7 : Option V), σ' = [some (.ref va), some (.int (s0 : Nat)), some (.ref ea), some (.ref M), some (.ref D), some (.ref O), o6, o7, none, none, none] ∧ Same H H' ∧ H' M = some (.lst (vN' met)) ∧ H' D = some (.dK kvs) ∧ PlcK kvs met ∧ H' O = some (.lst rs) ∧ RowsT H' rs (outR R met rs.length) ∧ NumI n m R s0 met rs.length ∧ mm = n - rs.length) (m0 := n) ?_ ?_ ?_
      · exact ⟨[s0], kv0, [], none, none, rfl, s3, gM3, gD3, pk0, gO, .nil, NumI.start ls, rfl⟩
      · rintro mm σ' Hi ⟨met, kvs, rs, o6, o7, rfl, si, gi, di, pk, oi, ri, ni, rfl⟩
        have few := ni.few
        refine ⟨_, rfl, _, rs.length, rfl, .inl ⟨_, SqL.of oi, rfl⟩, _, rfl, _, met.length, rfl, .inl ⟨_, SqL.of gi, (ints_len met).symm⟩, _, _, rfl, rfl, _, rfl, ?_⟩
        refine ite2 (fun hlt => ?_) (fun hlt => ?_)
        · have hk : rs.length < met.length := by have := of_decide_eq_true hlt; omega
          obtain ⟨s', hs'⟩ : ∃ s', met[rs.length]? = some s' := ⟨_, List.getElem?_eq_getElem hk⟩
          have ls' := ni.lt s' (List.mem_of_getElem? hs')
          obtain ⟨er, lr, gr⟩ := fm.rowOf ls'
          obtain ⟨nst, ost⟩ := ni.step fm hs'
          have fewS := nst.few
          obtain ⟨xr, exr, ar, rfl, qr⟩ := paired_getR pR er
          have pre : ∀ j, ∃ e, addAll beqN met (rowOf R s') = addAll beqN met ((rowOf R s').take j) ++ e := fun j => by
            have : addAll beqN met (rowOf R s') = addAll beqN (addAll beqN met ((rowOf R s').take j)) ((rowOf R s').drop j) := by
              unfold addAll
              rw [← List.foldl_append, List.take_append_drop]
            rw [this]
            exact addAll_pre _ _ _
          have fewJ : ∀ j, (addAll beqN met ((rowOf R s').take j)).length ≤ n := fun j => by
            obtain ⟨e, he⟩ := pre j
            have := congrArg List.length he
            rw [List.length_append] at this
            omega
          obtain ⟨tr, qr0⟩ := qr
          have qtr : ∀ {Hj : Hp}, Same H Hj → SqX K Hj ar (vN' (rowOf R s')) tr := fun sj => qr0.kept fun o e => sj _ _ e
          refine ⟨_, rfl, _, rfl, _, rfl, _, rs.length, rfl, .inl ⟨_, SqL.of oi, rfl⟩, M, _, _, _, rfl, rfl, SqL.of gi, ints_at hs', va, _, _, _, rfl, rfl, qR.same si, atI_nat exr, ?_⟩
          refine ⟨_, rfl, ar, vN' (rowOf R s'), tr, rfl, qtr si, for_it (walk_seqX (xs := vN' (rowOf R s'))) (fun j σ Hj => ∃ (kvs : List (Key × V)) (o7 : Option V), σ = [some (.ref va), some (.int (s0 : Nat)), some (.ref ea), some (.ref M), some (.ref D), some (.ref O), some (.ref ar), o7, none, none, none] ∧ Same H Hj ∧ Hj M = some (.lst (vN' (addAll beqN met ((rowOf R s').take j)))) ∧ Hj D = some (.dK kvs) ∧ PlcK kvs (addAll beqN met ((rowOf R s').take j)) ∧ Hj O = some (.lst rs) ∧ RowsT Hj rs (outR R met rs.length)) ?_ ?_ ?_ ?_⟩
          · exact ⟨kvs, o7, rfl, si, gi, di, pk, oi, ri⟩
          · rintro j σ Hj _ ⟨_, _, _, sj, _⟩
            exact qtr sj
          · rintro j x σ Hq Hj hj ⟨kvs', o7', rfl, sj, gj, dj, pj, oj, rj⟩ ⟨rfl, hx⟩
            obtain ⟨t, ht, rfl⟩ := ints_get hx
            have bnd := fewJ j
            refine ⟨_, rfl, _, rfl, D, _, rfl, DGet.k (k := Sum.inl (t : Int)) dj, _, rfl, ?_⟩
            rw [pj.2 t, addAll_take ht]
            unfold addS
            cases c : (addAll beqN met ((rowOf R s').take j)).any (fun x => beqN x t) with
            | true =>
              rw [if_pos rfl, if_pos rfl]
              refine iteF ?_
              exact ⟨_, _, rfl, sj, gj, dj, pj, oj, rj⟩
            | false =>
              rw [if_neg (show ¬ (false = true) by decide), if_neg (show ¬ (false = true) by decide)]
              refine iteT ?_
              have nMDj : M ≠ D := nMD
              refine ⟨_, rfl, _, _, rfl, .inl ⟨_, SqL.of gj, (ints_len _).symm⟩, _, rfl, _, rfl, D, _, rfl, DPut.k (k := Sum.inl (t : Int)) dj (by rw [pj.1, sz]; omega), ?_⟩
              have gj1 : upd Hj D (.dK (putK kvs' (Sum.inl (t : Int)) (.int ((addAll beqN met ((rowOf R s').take j)).length : Nat)))) M = some (.lst (vN' (addAll beqN met ((rowOf R s').take j)))) := by rw [upd_ne nMD]; exact gj
              refine ⟨_, rfl, .inl ⟨rfl, _, SqL.of gj1⟩, _, rfl, M, _, _, rfl, rfl, gj1, (by rw [ints_len, sz]; omega), ?_⟩
              refine ⟨_, _, rfl, (sj.upd hD0).upd hM, by rw [upd_same, nats_snoc], by rw [upd_ne (Ne.symm nMD), upd_same], pj.put c, by rw [upd_ne (Ne.symm nMO), upd_ne (Ne.symm nDO)]; exact oj, (rj.same (tups_dK dj)).same (tups_lst gj1)⟩
          · rintro σ Hj ⟨kvs', o7', rfl, sj, gj, dj, pj, oj, rj⟩
            have eT : (rowOf R s').take (vN' (rowOf R s')).length = rowOf R s' := by rw [ints_len, List.take_length]
            rw [eT] at gj pj
            refine ⟨_, rfl, .inl ⟨rfl, _, SqL.of oj⟩, _, rfl, ar, vN' (rowOf R s'), tr, rfl, qtr sj, fun C hC => ?_⟩
            have nMC : M ≠ C := ne_of_none gj hC
            have nDC : D ≠ C := ne_of_none dj hC
            have nOC : O ≠ C := ne_of_none oj hC
            refine lc_it (walk_seqX (xs := vN' (rowOf R s'))) (fun q Hq => Same Hj Hq ∧ Hq C = some (.lst (vN' (((rowOf R s').take q).map (placeM beqN (addAll beqN met (rowOf R s')))))) ) ?_ ?_ ?_ ?_
            · exact ⟨(Same.refl Hj).upd hC, upd_same⟩
            · rintro q Hq _ ⟨sq, _⟩
              exact qtr (sj.trans sq)
            · rintro q x Hq0 Hq hq ⟨sq, cq⟩ ⟨rfl, hx⟩
              obtain ⟨t, ht, rfl⟩ := ints_get hx
              have cov := addAll_has beqN_refl (rowOf R s') met t (List.mem_of_getElem? ht)
              refine ⟨rfl, _, rfl, _, rfl, D, .int (placeM beqN (addAll beqN met (rowOf R s')) t : Nat), rfl, ?_, ?_⟩
              · have := DGet.k (k := Sum.inl (t : Int)) (sq _ _ dj)
                rw [pj.2 t, if_pos cov] at this
                exact this
              · refine ⟨_, cq, (by rw [ints_len, List.length_map, List.length_take, sz]; omega), sq.upd hC, ?_⟩
                rw [upd_same, nats_snoc, take_snoc ht, List.map_append]
                rfl
            · rintro Hq ⟨sq, cq⟩
              rw [eT] at cq
              refine ⟨C, _, rfl, .inl ⟨SqL.of cq, fun T hT => ?_⟩⟩
              have oq := sq _ _ oj
              have nOT : O ≠ T := ne_of_none oq hT
              have s4 : Same Hj (upd Hq T (.tup (vN' ((rowOf R s').map (placeM beqN (addAll beqN met (rowOf R s'))))))) := sq.upd (sq.none hT)
              have gT : upd Hq T (.tup (vN' ((rowOf R s').map (placeM beqN (addAll beqN met (rowOf R s')))))) T = some (.tup (vN' ((rowOf R s').map (placeM beqN (addAll beqN met (rowOf R s')))))) := upd_same
              generalize upd Hq T (.tup (vN' ((rowOf R s').map (placeM beqN (addAll beqN met (rowOf R s')))))) = H5 at s4 gT ⊢
              have o5 := s4 _ _ oj
              refine ⟨O, _, _, rfl, rfl, o5, (by have := ni.le; rw [sz]; omega), ?_⟩
              have r5 : RowsT (upd H5 O (.lst (rs ++ [.ref T]))) (rs ++ [.ref T]) (outR R (addAll beqN met (rowOf R s')) (rs.length + 1)) := by
                rw [ost]
                exact paired_snoc ((RowsT.same (fun a u e => s4 a _ e) rj).same (tups_lst o5)) ⟨T, rfl, tups_lst o5 _ _ gT⟩
              refine ⟨n - (rs.length + 1), by omega, addAll beqN met (rowOf R s'), kvs', rs ++ [.ref T], _, _, rfl, (sj.trans s4).upd hO0, by rw [upd_ne nMO]; exact s4 _ _ gj, by rw [upd_ne nDO]; exact s4 _ _ dj, pj, upd_same, ?_, ?_, ?_⟩
              · rw [List.length_append]
                exact r5
              · rw [List.length_append]
                exact nst
              · rw [List.length_append]
                rfl
        · have hk : met.length ≤ rs.length := by
            have h1 : ¬ rs.length < met.length := fun q => hlt (decide_eq_true (by omega))
            omega
          obtain ⟨b1, b2⟩ := ni.done hk
          exact ⟨met, rs, o6, o7, rfl, si, gi, oi, by rw [← b2]; exact ri, b1, few⟩
      · rintro σ' Hi Q1 Q2 hq ⟨v, e1, u, n1, e2, l1, u2, e3, u4, n2, e4, l2, i, j, e5, e6, b, e7, q⟩
        exact ⟨v, e1, u, n1, e2, l1, u2, e3, u4, n2, e4, l2, i, j, e5, e6, b, e7, hq _ _ q⟩
    rintro σ' Hi ⟨met, rs, o6, o7, rfl, si, gi, oi, ri, b, few⟩
    obtain ⟨te, qe0⟩ := qE
    have qe : ∀ {Hj : Hp}, Same H Hj → SqX K Hj ea (vN' E) te := fun sj => qe0.kept fun o e => sj _ _ e
    refine ⟨fun σ' H' => ∃ (Z : Addr) (kve : List (Key × V)), σ' = [some (.ref va), some (.int (s0 : Nat)), some (.ref ea), some (.ref M), some (.ref D), some (.ref O), o6, o7, some (.ref Z), none, none] ∧ Same Hi H' ∧ H' Z = some (.dK kve) ∧ EndK kve E, ?_, ?_⟩
    · refine ⟨_, rfl, ea, vN' E, te, rfl, qe si, fun Z hZ => ?_⟩
      refine dc_it (walk_seqX (xs := vN' E)) (fun q Hq => Same Hi Hq ∧ ∃ kve, Hq Z = some (.dK kve) ∧ EndK kve (E.take q)) ?_ ?_ ?_ ?_
      · exact ⟨(Same.refl Hi).upd hZ, [], upd_same, EndK.nil⟩
      · rintro q Hq _ ⟨sq, _⟩
        exact qe (si.trans sq)
      · rintro q x Hq0 Hq hq ⟨sq, kve, zq, ek⟩ ⟨rfl, hx⟩
        obtain ⟨t, ht, rfl⟩ := ints_get hx
        refine ⟨rfl, _, rfl, kve, Sum.inl (t : Int), rfl, zq, (by have := ek.1; rw [List.length_take] at this; rw [sz]; omega), sq.upd hZ, _, upd_same, ?_⟩
        rw [take_snoc ht]
        exact ek.put t _
      · rintro Hq ⟨sq, kve, zq, ek⟩
        rw [ints_len, List.take_length] at ek
        exact ⟨Z, kve, rfl, sq, zq, ek⟩
    rintro σ' Hj ⟨Z, kve, rfl, sj, zj, ek⟩
    have gj := sj _ _ gi
    have oj := sj _ _ oi
    refine ⟨_, rfl, _, rfl, M, _, rfl, SqL.of gj, fun C hC => ?_⟩
    refine lc_it (walk_enum (xs := vN' met)) (fun q Hq => Same Hj Hq ∧ Hq C = some (.lst (vN' ((List.range q).filter fun i => (met[i]?).any fun s => decide (s ∈ E))))) ?_ ?_ ?_ ?_
    · exact ⟨(Same.refl Hj).upd hC, upd_same⟩
    · rintro q Hq _ ⟨sq, _⟩
      exact SqL.of (sq _ _ gj)
    · rintro q x Hq Hq' hq ⟨sq, cq⟩ ⟨T', p, y, rfl, hT, rfl, e1, e2⟩
      obtain rfl : V.int (q : Nat) = p := Option.some.inj e1
      obtain ⟨t, ht, rfl⟩ := ints_get e2
      have nCT : C ≠ T' := ne_of_none cq hT
      have s2 : Same Hj (upd Hq T' (.tup [.int (q : Nat), .int (t : Nat)])) := sq.upd (sq.none hT)
      refine ⟨T', _, rfl, SqT.of upd_same, rfl, _, _, rfl, _, _, rfl, rfl, rfl, _, rfl, _, rfl, Z, _, rfl, DGet.k (k := Sum.inl (t : Int)) (s2 _ _ zj), _, rfl, ?_⟩
      have cq' : upd Hq T' (.tup [.int (q : Nat), .int (t : Nat)]) C = some (.lst (vN' ((List.range q).filter fun i => (met[i]?).any fun s => decide (s ∈ E)))) := by rw [upd_ne nCT]; exact cq
      have er : (List.range (q + 1)).filter (fun i => (met[i]?).any fun s => decide (s ∈ E)) = (List.range q).filter (fun i => (met[i]?).any fun s => decide (s ∈ E)) ++ if decide (t ∈ E) = true then [q] else [] := by
        rw [List.range_succ, List.filter_append, List.filter_cons, ht]
        rfl
      rw [ek.2 t]
      cases c : decide (t ∈ E) with
      | true =>
        refine iteT ?_
        refine ⟨_, rfl, _, cq', (by
          have := List.length_filter_le (fun i => (met[i]?).any fun s => decide (s ∈ E)) (List.range q)
          rw [List.length_range] at this
          have := ints_len met
          rw [ints_len, sz]
          omega), s2.upd hC, ?_⟩
        rw [upd_same, er, c, if_pos rfl, nats_snoc]
      | false =>
        refine iteF ?_
        refine ⟨s2, ?_⟩
        rw [er, c, if_neg (by decide), List.append_nil]
        exact cq'
    · rintro Hq ⟨sq, cq⟩
      rw [ints_len] at cq
      refine ⟨by show 2 ≤ sizeLine; decide, fun T hT => ?_⟩
      have s5 : Same Hq (upd Hq T (.tup [.ref O, .ref C])) := (Same.refl Hq).upd hT
      have gT : upd Hq T (.tup [.ref O, .ref C]) T = some (.tup [.ref O, .ref C]) := upd_same
      generalize upd Hq T (.tup [.ref O, .ref C]) = H5 at s5 gT ⊢
      have sa := sj.trans (sq.trans s5)
      exact k _ met H5 (si.trans sa) b ⟨T, O, C, rs, rfl, gT, sa _ _ oi, ri.same (fun a u e => sa a _ e), s5 _ _ cq, hO0, (si.trans sj).none hC⟩
end
end K11
namespace K11
open PySem PySem.Spec PyProof.Rows L2 FL
/-! ### blocks on the heap: a list of lists of numbers -/
def BlkAt (H : Hp) (x : V) (B : List Nat) : Prop := ∃ a : Addr, x = .ref a ∧ H a = some (.lst (vN' B))
def BlksAt (H : Hp) (xs : List V) (bs : List (List Nat)) : Prop := Paired (BlkAt H) xs bs
theorem BlksAt.keep {H H' : Hp} {xs : List V} {bs : List (List Nat)} (s : ∀ a o, H a = some (.lst o) → (∃ B, o = vN' B ∧ V.ref a ∈ xs) → H' a = some (.lst o)) (h : BlksAt H xs bs) : BlksAt H' xs bs := by
  induction h with
  | nil => exact .nil
  | cons x _ ih =>
    obtain ⟨a, rfl, e⟩ := x
    exact .cons ⟨a, rfl, s a _ e ⟨_, rfl, List.mem_cons_self⟩⟩ (ih fun b o e ⟨B, q, m⟩ => s b o e ⟨B, q, List.mem_cons_of_mem _ m⟩)
theorem BlksAt.same {H H' : Hp} {xs : List V} {bs : List (List Nat)} (s : Same H H') (h : BlksAt H xs bs) : BlksAt H' xs bs := h.keep fun a o e _ => s a _ e
abbrev sHalves : Stmt := topS 34
abbrev sFirst : Stmt := topS 30
abbrev sPlaces : Stmt := topS 31
abbrev nHalves : List Str := ["block", "part", "is_in", "rest", "state"]
abbrev nFirst : List Str := ["states", "ends", "is_end", "others", "end", "state", "block"]
abbrev nPlaces : List Str := ["blocks", "where", "place", "block", "state", "_"]
theorem scHalves : FnScope nHalves ["block", "part"] (defScope sHalves) := ⟨rfl, rfl, rfl, by decide +kernel, rfl, by decide +kernel, by decide +kernel⟩
theorem scFirst : FnScope nFirst ["states", "ends"] (defScope sFirst) := ⟨rfl, rfl, rfl, by decide +kernel, rfl, by decide +kernel, by decide +kernel⟩
theorem scPlaces : FnScope nPlaces ["blocks"] (defScope sPlaces) := ⟨rfl, rfl, rfl, by decide +kernel, rfl, by decide +kernel, by decide +kernel⟩
/-- what is split off, the smaller one first -/
def restOf (B part : List Nat) : List Nat := B.filter fun s => !decide (s ∈ part)
def spHalves : Sp := fun vs H Q _ => ∃ (a b : Addr) (B part : List Nat), vs = [.ref a, .ref b] ∧ H a = some (.lst (vN' B)) ∧ H b = some (.lst (vN' part)) ∧ B.length ≤ 1000000 ∧ part.length ≤ 1000000 ∧
  ∀ (t x y : Addr) (small large : List Nat) (H' : Hp), Same H H' → H' t = some (.tup [.ref x, .ref y]) → H' x = some (.lst (vN' small)) → H' y = some (.lst (vN' large)) → (x = y → False) → (x = a ∨ x = b ∨ H x = none) → (y = a ∨ y = b ∨ H y = none) →
    ((part.length = B.length ∧ small = [] ∧ large = B ∧ y = a) ∨ (part.length ≠ B.length ∧ ((small = part ∧ large = restOf B part) ∨ (small = restOf B part ∧ large = part)))) → Q (.ref t) H'
/-- keys of a list -/
theorem endK_take {E : List Nat} {kvs : List (Key × V)} {q t : Nat} (h : EndK kvs (E.take q)) (e : E[q]? = some t) (v : V) : EndK (putK kvs (Sum.inl (t : Int) : Key) v) (E.take (q + 1)) := by
  rw [take_snoc e]
  exact h.put t v
section
variable {P : Program} {w : World} {K : PySem.W.Frag} {mg : Str → Option Value} {base : Heap}
theorem ok_halves {f : Addr} {fd : FuncData} (F : Fun K "halves" "halves" sHalves f fd) (mN : mg "len" = none) : FnOk P w K mg base CX0 1 f fd ["block", "part"] spHalves := by
  refine F.ok scHalves (fun vs H Q E h => ?_) (fun cdv A outer s H vs Q E hr h => ?_)
  · obtain ⟨_, _, _, _, rfl, _⟩ := h
    rfl
  · obtain ⟨a, b, B, part, rfl, gB, gP, lB, lP, k⟩ := h
    have nd := scHalves.nd
    have hu : (A.deeper (envOfC "halves" (defScope sHalves) s.heap.objs.size f cdv)).units + 1 < cLine := by have := hr.un; omega
    have sz : sizeLine = 16777216 := rfl
    refine ⟨_, pss_cons (ps_if (pt_cmpR op_eq (pe_callB callLen (by rfl) mN PySem.boot_len (pa_cons (pv 1) pa_nil)) (pe_callB callLen (by rfl) mN PySem.boot_len (pa_cons (pv 0) pa_nil)) (nomark _)) (pss_one (ps_ret (pe_tup (pa_cons (pe_lst pa_nil) (pa_cons (pv 0) pa_nil))))) pss_nil)
      (C8.pss_cut (ps_set (i := 2) nd rfl (.inr rfl) (pe_dc (own := [("state", 4)]) (g := gName 4) (tt := tYes) rfl nd (pi_list (pv 1)) (blkOk_by (N := nHalves) (sc := defScope sHalves) (by decide +kernel)) (fun _ _ _ _ _ => pg_name (i := 4) nd rfl (Or.inl rfl)) (fun _ _ _ _ _ => pts_nil) (fun _ _ _ _ _ => pv 4) (fun _ _ _ _ _ => pe_bl)))
      (C8.pss_cut (ps_setLc (i := 3) (own := [("state", 4)]) (g := gName 4) rfl nd rfl rfl (sw_true rfl rfl rfl (by decide +kernel)) (pi_list (pv 0)) (blkOk_by (N := nHalves) (sc := defScope sHalves) (by decide +kernel)) (fun _ _ _ _ _ => pg_name (i := 4) nd rfl (Or.inl rfl)) (fun _ _ _ _ _ => pts_one (pt_cmp (pc_dnotin hu (pv 4) (pv 2)))) (fun _ _ _ _ _ => pv 4))
      (pss_one (ps_ret (pe_ifExp (pt_cmpR op_lt (pe_callB callLen (by rfl) mN PySem.boot_len (pa_cons (pv 1) pa_nil)) (pe_callB callLen (by rfl) mN PySem.boot_len (pa_cons (pv 3) pa_nil)) (nomark _)) (pe_tup (pa_cons (pv 1) (pa_cons (pv 3) pa_nil))) (pe_tup (pa_cons (pv 3) (pa_cons (pv 1) pa_nil)))))))), ?_⟩
    refine ⟨_, rfl, _, part.length, rfl, .inl ⟨_, SqL.of gP, (ints_len _).symm⟩, _, rfl, _, B.length, rfl, .inl ⟨_, SqL.of gB, (ints_len _).symm⟩, rfl, ?_⟩
    by_cases el : part.length = B.length
    · rw [show decide (V.int (part.length : Nat) = V.int (B.length : Nat)) = true from decide_eq_true (by rw [el])]
      refine ⟨_, rfl, ?_⟩
      refine iteT ?_
      refine ⟨by decide, fun x hx => ?_⟩
      have s1 : Same H (upd H x (.lst [])) := (Same.refl H).upd hx
      have gx : upd H x (.lst []) x = some (.lst (vN' [])) := upd_same
      generalize upd H x (.lst []) = H1 at s1 gx ⊢
      refine ⟨_, rfl, (by show 2 ≤ sizeLine; decide), fun T hT => ?_⟩
      have s2 : Same H1 (upd H1 T (.tup [.ref x, .ref a])) := (Same.refl H1).upd hT
      have nxa : x = a → False := fun e => by rw [← e, hx] at gB; cases gB
      exact k T x a [] B _ (s1.trans s2) upd_same (s2 _ _ gx) (s2 _ _ (s1 _ _ gB)) nxa (.inr (.inr hx)) (.inl rfl) (.inl ⟨el, rfl, rfl, rfl⟩)
    · rw [show decide (V.int (part.length : Nat) = V.int (B.length : Nat)) = false from decide_eq_false (fun z => el (by have := V.int.inj z; omega))]
      refine ⟨_, rfl, ?_⟩
      refine iteF ?_
      refine ⟨fun σ' H' => ∃ (Z : Addr) (kve : List (Key × V)), σ' = [some (.ref a), some (.ref b), some (.ref Z), none, none] ∧ Same H H' ∧ H' Z = some (.dK kve) ∧ EndK kve part, ?_, ?_⟩
      · refine ⟨_, rfl, b, rfl, ⟨_, SqL.of gP⟩, fun Z hZ => ?_⟩
        refine dc_it (walk_list (xs := vN' part)) (fun q Hq => Same H Hq ∧ ∃ kve, Hq Z = some (.dK kve) ∧ EndK kve (part.take q)) ?_ ?_ ?_ ?_
        · exact ⟨(Same.refl H).upd hZ, [], upd_same, EndK.nil⟩
        · rintro q Hq _ ⟨sq, _⟩
          exact SqL.of (sq _ _ gP)
        · rintro q x Hq0 Hq hq ⟨sq, kve, zq, ek⟩ ⟨rfl, hx⟩
          obtain ⟨t, ht, rfl⟩ := ints_get hx
          exact ⟨rfl, _, rfl, kve, Sum.inl (t : Int), rfl, zq, (by have := ek.1; rw [List.length_take] at this; rw [sz]; omega), sq.upd hZ, _, upd_same, endK_take ek ht _⟩
        · rintro Hq ⟨sq, kve, zq, ek⟩
          rw [ints_len, List.take_length] at ek
          exact ⟨Z, kve, rfl, sq, zq, ek⟩
      rintro σ' Hj ⟨Z, kve, rfl, sj, zj, ek⟩
      have gBj := sj _ _ gB
      refine ⟨fun σ' H' => ∃ C : Addr, σ' = [some (.ref a), some (.ref b), some (.ref Z), some (.ref C), none] ∧ Same Hj H' ∧ H' C = some (.lst (vN' (restOf B part))) ∧ Hj C = none, ?_, ?_⟩
      · refine ⟨_, rfl, a, rfl, ⟨_, SqL.of gBj⟩, fun C hC => ?_⟩
        refine lc_it (walk_list (xs := vN' B)) (fun q Hq => Same Hj Hq ∧ Hq C = some (.lst (vN' (restOf (B.take q) part)))) ?_ ?_ ?_ ?_
        · exact ⟨(Same.refl Hj).upd hC, upd_same⟩
        · rintro q Hq _ ⟨sq, _⟩
          exact SqL.of (sq _ _ gBj)
        · rintro q x Hq0 Hq hq ⟨sq, cq⟩ ⟨rfl, hx⟩
          obtain ⟨t, ht, rfl⟩ := ints_get hx
          have er : restOf (B.take (q + 1)) part = restOf (B.take q) part ++ if (!decide (t ∈ part)) = true then [t] else [] := by
            unfold restOf
            rw [take_snoc ht, List.filter_append, List.filter_cons]
            rfl
          refine ⟨rfl, _, rfl, _, rfl, Z, _, rfl, DGet.k (k := Sum.inl (t : Int)) (sq _ _ zj), _, rfl, ?_⟩
          rw [ek.2 t]
          cases c : decide (t ∈ part) with
          | true =>
            refine iteF ?_
            refine ⟨sq, ?_⟩
            rw [er, c]
            show Hq C = some (.lst (vN' (restOf (B.take q) part ++ [])))
            rw [List.append_nil]
            exact cq
          | false =>
            refine iteT ?_
            refine ⟨_, rfl, _, cq, (by
              have := List.length_filter_le (fun s => !decide (s ∈ part)) (B.take q)
              rw [List.length_take] at this
              rw [ints_len, sz]
              unfold restOf
              omega), sq.upd hC, ?_⟩
            rw [upd_same, er, c, nats_snoc]
            rfl
        · rintro Hq ⟨sq, cq⟩
          rw [ints_len, List.take_length] at cq
          exact ⟨C, rfl, sq, cq, hC⟩
      rintro σ' Hq ⟨C, rfl, sq, cq, hC⟩
      have gPq := sq _ _ (sj _ _ gP)
      have nbC : b ≠ C := fun e => by
        have := sj _ _ gP
        rw [e, hC] at this
        cases this
      refine ⟨_, rfl, _, part.length, rfl, .inl ⟨_, SqL.of gPq, (ints_len _).symm⟩, _, rfl, _, (restOf B part).length, rfl, .inl ⟨_, SqL.of cq, (ints_len _).symm⟩, _, _, rfl, rfl, _, rfl, ?_⟩
      refine ite2 (fun _ => ?_) (fun _ => ?_)
      · refine ⟨_, rfl, _, rfl, (by show 2 ≤ sizeLine; decide), fun T hT => ?_⟩
        have s5 : Same Hq (upd Hq T (.tup [.ref b, .ref C])) := (Same.refl Hq).upd hT
        exact k T b C part (restOf B part) _ ((sj.trans sq).trans s5) upd_same (s5 _ _ gPq) (s5 _ _ cq) nbC (.inr (.inl rfl)) (.inr (.inr (sj.none hC))) (.inr ⟨el, .inl ⟨rfl, rfl⟩⟩)
      · refine ⟨_, rfl, _, rfl, (by show 2 ≤ sizeLine; decide), fun T hT => ?_⟩
        have s5 : Same Hq (upd Hq T (.tup [.ref C, .ref b])) := (Same.refl Hq).upd hT
        exact k T C b (restOf B part) part _ ((sj.trans sq).trans s5) upd_same (s5 _ _ cq) (s5 _ _ gPq) (fun e => nbC e.symm) (.inr (.inr (sj.none hC))) (.inr (.inl rfl)) (.inr ⟨el, .inr ⟨rfl, rfl⟩⟩)
end
end K11
namespace K11
open PySem PySem.Spec PyProof.Rows L2 FL
theorem it_gen {J : It} {n : Nat} {G : Hp → Prop} {Y : Nat → Hp → V → Hp → Prop} (w : Walk J n G Y) {body : V → Hp → (Hp → Prop) → Prop} {H0 : Hp} {Qd : Hp → Prop} (Pv : Nat → Hp → Prop) (h0 : Pv 0 H0) (hG : ∀ i H, i ≤ n → Pv i H → G H)
    (hs : ∀ i x H H', i < n → Pv i H → Y i H x H' → body x H' (Pv (i + 1))) (hd : ∀ H, Pv n H → Qd H) :
    ∃ W : Nat → Nat → Hp → Prop, (∃ m, W 0 m H0) ∧ ∀ i m H, W i m H → (J.stop i H ∧ Qd H) ∨ (J.go i H ∧ ∃ Nx : Hp → Prop, (∀ H', Nx H' → ∃ m', m' < m ∧ W (i + 1) m' H') ∧ ∀ x H', J.yld i H x H' → body x H' Nx) := by
  refine ⟨fun i m H => m = n - i ∧ i ≤ n ∧ Pv i H, ⟨n, by simp, Nat.zero_le _, h0⟩, ?_⟩
  rintro i m H ⟨rfl, hi, p⟩
  have q := hG i H hi p
  by_cases hlt : i < n
  · exact .inr ⟨w.goes i H hlt q, Pv (i + 1), fun H' p' => ⟨n - (i + 1), by omega, rfl, hlt, p'⟩, fun x H' y => hs i x H H' hlt p (w.yields i H x H' hlt q y)⟩
  · obtain rfl : i = n := by omega
    exact .inl ⟨w.stops H q, hd H p⟩
/-- numbers by a function -/
def fnL (n : Nat) (g : Nat → Nat) : List Nat := (List.range n).map g
theorem fnL_len (n : Nat) (g : Nat → Nat) : (fnL n g).length = n := by unfold fnL; rw [List.length_map, List.length_range]
theorem fnL_get {n : Nat} {g : Nat → Nat} {s : Nat} (h : s < n) : (fnL n g)[s]? = some (g s) := by
  unfold fnL
  rw [List.getElem?_map, List.getElem?_range h]
  rfl
theorem fnL_set {n : Nat} {g : Nat → Nat} {s v : Nat} : (fnL n g).set s v = fnL n fun t => if t = s then v else g t := by
  refine List.ext_getElem? fun t => ?_
  by_cases ht : t < n
  · rw [fnL_get ht, List.getElem?_set]
    by_cases e : s = t
    · subst e
      rw [if_pos rfl, if_pos (by rw [fnL_len]; exact ht), if_pos rfl]
    · rw [if_neg e, if_neg fun z => e z.symm, fnL_get ht]
  · rw [List.getElem?_eq_none (by rw [List.length_set, fnL_len]; omega), List.getElem?_eq_none (by rw [fnL_len]; omega)]
theorem fnL_congr {n : Nat} {g h : Nat → Nat} (e : ∀ s, s < n → g s = h s) : fnL n g = fnL n h := List.map_congr_left fun s hs => e s (List.mem_range.mp hs)
theorem ixN_of {n j : Nat} (h : j < n) : ixN n ((j : Nat) : Int) = some j := by
  unfold ixN
  rw [if_pos (by omega), if_pos (by omega)]
  rfl
theorem ints_set (ns : List Nat) (i v : Nat) : (vN' ns).set i (.int (v : Nat)) = vN' (ns.set i v) := by
  show (ns.map _).set i _ = (ns.set i v).map _
  rw [List.map_set]
/-! the blocks as their places -/
theorem _root_.FL.Pt.total {n : Nat} {bs : List (List Nat)} {wh : Nat → Nat} (h : Pt n bs wh) : (bs.flatMap id).length = n := by
  have nd : (bs.flatMap id).Nodup := by
    refine List.pairwise_flatMap.mpr ⟨fun B hB => h.nd B hB, List.pairwise_iff_getElem.mpr fun i j hi hj ij s hs t ht e => ?_⟩
    subst e
    have a := (h.mem i _ (List.getElem?_eq_getElem hi) s).mp hs
    have b := (h.mem j _ (List.getElem?_eq_getElem hj) s).mp ht
    omega
  have mm : ∀ s, s ∈ bs.flatMap id ↔ s < n := fun s => by
    rw [List.mem_flatMap]
    constructor
    · rintro ⟨B, hB, hs⟩
      obtain ⟨i, hi, rfl⟩ := List.mem_iff_getElem.mp hB
      exact ((h.mem i _ (List.getElem?_eq_getElem hi) s).mp hs).1
    · intro hs
      have l := h.lt s hs
      exact ⟨_, List.getElem_mem l, (h.mem _ _ (List.getElem?_eq_getElem l) s).mpr ⟨hs, rfl⟩⟩
  have a := nodup_sub nd (m := List.range n) fun s hs => List.mem_range.mpr ((mm s).mp hs)
  have b := nodup_sub (l := List.range n) List.nodup_range (m := bs.flatMap id) fun s hs => (mm s).mpr (List.mem_range.mp hs)
  rw [List.length_range] at a b
  omega
/-- the first blocks -/
def firstB (n : Nat) (E : List Nat) : List (List Nat) := [E, (List.range n).filter fun s => !decide (s ∈ E)].filter fun B => !B.isEmpty
theorem first_pt {n : Nat} {E : List Nat} (lt : ∀ e ∈ E, e < n) (nd : E.Nodup) : ∃ wh : Nat → Nat, Pt n (firstB n E) wh ∧ ∀ s t, s < n → t < n → (wh s = wh t ↔ (s ∈ E ↔ t ∈ E)) := by
  have mO : ∀ s, s ∈ (List.range n).filter (fun s => !decide (s ∈ E)) ↔ s < n ∧ s ∉ E := fun s => by
    rw [List.mem_filter, List.mem_range]
    simp
  have nO : ((List.range n).filter fun s => !decide (s ∈ E)).Nodup := List.nodup_range.filter _
  generalize hO : ((List.range n).filter fun s => !decide (s ∈ E)) = O at mO nO
  have eF : firstB n E = [E, O].filter fun B => !B.isEmpty := by unfold firstB; rw [hO]
  rw [eF]
  match E, O, lt, nd, mO, nO with
  | [], O, _, _, mO, nO =>
    match O, mO, nO with
    | [], mO, _ =>
      refine ⟨fun _ => 0, ⟨fun b blk e => (by cases e), fun s hs => ?_, (fun _ h => nomatch h), (fun _ h => nomatch h)⟩, fun s t hs _ => ?_⟩
      · have := (mO s).mpr ⟨hs, fun h => nomatch h⟩
        cases this
      · have := (mO s).mpr ⟨hs, fun h => nomatch h⟩
        cases this
    | x :: O, mO, nO =>
      refine ⟨fun _ => 0, ⟨fun b blk e s => ?_, fun s hs => (by show 0 < 1; decide), fun B h => ?_, fun B h => ?_⟩, fun s t _ _ => ⟨fun _ => ⟨(fun h => nomatch h), (fun h => nomatch h)⟩, fun _ => rfl⟩⟩
      · match b, e with
        | 0, e =>
          cases e
          rw [mO]
          exact ⟨fun z => ⟨z.1, rfl⟩, fun z => ⟨z.1, fun h => nomatch h⟩⟩
      · rw [List.mem_singleton.mp (show B ∈ [x :: O] from h)]
        exact List.cons_ne_nil _ _
      · rw [List.mem_singleton.mp (show B ∈ [x :: O] from h)]
        exact nO
  | y :: E, O, lt, nd, mO, nO =>
    match O, mO, nO with
    | [], mO, _ =>
      have all : ∀ s, s < n → s ∈ y :: E := fun s hs => by
        by_cases c : s ∈ y :: E
        · exact c
        · have := (mO s).mpr ⟨hs, c⟩
          cases this
      refine ⟨fun _ => 0, ⟨fun b blk e s => ?_, fun s hs => (by show 0 < 1; decide), fun B h => ?_, fun B h => ?_⟩, fun s t hs ht => ⟨fun _ => ⟨fun _ => all t ht, fun _ => all s hs⟩, fun _ => rfl⟩⟩
      · match b, e with
        | 0, e =>
          cases e
          exact ⟨fun z => ⟨lt s z, rfl⟩, fun z => all s z.1⟩
      · rw [List.mem_singleton.mp (show B ∈ [y :: E] from h)]
        exact List.cons_ne_nil _ _
      · rw [List.mem_singleton.mp (show B ∈ [y :: E] from h)]
        exact nd
    | x :: O, mO, nO =>
      refine ⟨fun s => if s ∈ y :: E then 0 else 1, ⟨fun b blk e s => ?_, fun s hs => (by show (if s ∈ y :: E then 0 else 1) < 2; split <;> decide), fun B h => ?_, fun B h => ?_⟩, fun s t hs ht => ?_⟩
      · match b, e with
        | 0, e =>
          cases e
          split
          · rename_i c
            exact ⟨fun z => ⟨lt s z, rfl⟩, fun _ => c⟩
          · rename_i c
            exact ⟨fun z => absurd z c, fun z => absurd z.2 (by decide)⟩
        | 1, e =>
          cases e
          rw [mO]
          split
          · rename_i c
            exact ⟨fun z => absurd c z.2, fun z => absurd z.2 (by decide)⟩
          · rename_i c
            exact ⟨fun z => ⟨z.1, rfl⟩, fun z => ⟨z.1, c⟩⟩
      · rcases List.mem_cons.mp (show B ∈ [y :: E, x :: O] from h) with rfl | h
        · exact List.cons_ne_nil _ _
        · rw [List.mem_singleton.mp h]
          exact List.cons_ne_nil _ _
      · rcases List.mem_cons.mp (show B ∈ [y :: E, x :: O] from h) with rfl | h
        · exact nd
        · rw [List.mem_singleton.mp h]
          exact nO
      · show ((if s ∈ y :: E then 0 else 1) = (if t ∈ y :: E then 0 else 1)) ↔ _
        split <;> split <;> simp_all
def tTruK (K : PySem.W.Frag) (ta : TE) : TT := fun σ H Q => ta σ H fun x H' => ∃ k, TruV K x H' k ∧ Q k H'
theorem pt_truthK {X : Cx} {K : PySem.W.Frag} {a : Expr} {ta : TE} (hK : X.K = K) (ha : PE X a ta) (he : ∀ whole, isTrue a X.env whole = (do let v ← whole; standAt a.pos; holding [v] (truthy v))) :
    PT X a (tTruK K ta) := by
  subst hK
  exact pt_truth ha he
theorem pi_listK {X : Cx} {K : PySem.W.Frag} {tg l : Expr} {tl : TE} (hK : X.K = K) (hl : PE X l tl) : PI X tg l (iList K tl) := by
  subst hK
  exact pi_list hl
def spFirst : Sp := fun vs H Q _ => ∃ (n : Nat) (e : Addr) (E : List Nat), vs = [.int (n : Nat), .ref e] ∧ H e = some (.lst (vN' E)) ∧ n ≤ 1000000 ∧ E.length ≤ 1000000 ∧
  ∀ (L : Addr) (xs : List V) (H' : Hp), Same H H' → H' L = some (.lst xs) → BlksAt H' xs (firstB n E) → (∀ x ∈ xs, ∀ a, x = .ref a → H a = none) → H L = none → Q (.ref L) H'
def spPlaces : Sp := fun vs H Q _ => ∃ (a : Addr) (xs : List V) (bs : List (List Nat)) (n : Nat) (wh : Nat → Nat), vs = [.ref a] ∧ H a = some (.lst xs) ∧ BlksAt H xs bs ∧ Pt n bs wh ∧ n ≤ 1000000 ∧
  ∀ (W : Addr) (H' : Hp), Same H H' → H W = none → H' W = some (.lst (vN' (fnL n wh))) → Q (.ref W) H'
section
variable {P : Program} {w : World} {K : PySem.W.Frag} {mg : Str → Option Value} {base : Heap}
theorem ok_first {f : Addr} {fd : FuncData} (F : Fun K "first_blocks" "first_blocks" sFirst f fd) (mR : mg "range" = none) (mL : mg "list" = none) : FnOk P w K mg base CX0 1 f fd ["states", "ends"] spFirst := by
  refine F.ok scFirst (fun vs H Q E h => ?_) (fun cdv A outer s H vs Q E hr h => ?_)
  · obtain ⟨_, _, _, rfl, _⟩ := h
    rfl
  · obtain ⟨n, e, E, rfl, gE, ln, lE, k⟩ := h
    have nd := scFirst.nd
    have hu : (A.deeper (envOfC "first_blocks" (defScope sFirst) s.heap.objs.size f cdv)).units + 1 < cLine := by have := hr.un; omega
    have sz : sizeLine = 16777216 := rfl
    refine ⟨_, C8.pss_cut (ps_set (i := 2) nd rfl (.inr rfl) (pe_dc (own := [("end", 4)]) (g := gName 4) (tt := tYes) rfl nd (pi_list (pv 1)) (blkOk_by (N := nFirst) (sc := defScope sFirst) (by decide +kernel)) (fun _ _ _ _ _ => pg_name (i := 4) nd rfl (Or.inl rfl)) (fun _ _ _ _ _ => pts_nil) (fun _ _ _ _ _ => pv 4) (fun _ _ _ _ _ => pe_bl)))
      (C8.pss_cut (ps_setLc (i := 3) (own := [("state", 5)]) (g := gName 5) rfl nd rfl rfl (sw_true rfl rfl rfl (by decide +kernel)) (pi_range1 (by rfl) mR (pa_cons (pv 0) pa_nil)) (blkOk_by (N := nFirst) (sc := defScope sFirst) (by decide +kernel)) (fun _ _ _ _ _ => pg_name (i := 5) nd rfl (Or.inl rfl)) (fun _ _ _ _ _ => pts_one (pt_cmp (pc_dnotin hu (pv 5) (pv 2)))) (fun _ _ _ _ _ => pv 5))
      (pss_one (ps_ret (pe_lc (own := [("block", 6)]) (g := gName 6) rfl nd (pi_tup (pe_tup (pa_cons (pe_callTy call_list_of (by rfl) mL (by decide +kernel) (pa_cons (pv 1) pa_nil)) (pa_cons (pv 3) pa_nil)))) (blkOk_by (N := nFirst) (sc := defScope sFirst) (by decide +kernel)) (fun _ _ _ _ _ => pg_name (i := 6) nd rfl (Or.inl rfl)) (fun _ _ _ _ _ => pts_one (pt_truthK (K := K) rfl (pv 6) (by intro _; rfl))) (fun _ _ _ _ _ => pv 6))))), ?_⟩
    refine ⟨fun σ' H' => ∃ (Z : Addr) (kve : List (Key × V)), σ' = [some (.int (n : Nat)), some (.ref e), some (.ref Z), none, none, none, none] ∧ Same H H' ∧ H' Z = some (.dK kve) ∧ EndK kve E, ?_, ?_⟩
    · refine ⟨_, rfl, e, rfl, ⟨_, SqL.of gE⟩, fun Z hZ => ?_⟩
      refine dc_it (walk_list (xs := vN' E)) (fun q Hq => Same H Hq ∧ ∃ kve, Hq Z = some (.dK kve) ∧ EndK kve (E.take q)) ?_ ?_ ?_ ?_
      · exact ⟨(Same.refl H).upd hZ, [], upd_same, EndK.nil⟩
      · rintro q Hq _ ⟨sq, _⟩
        exact SqL.of (sq _ _ gE)
      · rintro q x Hq0 Hq hq ⟨sq, kve, zq, ek⟩ ⟨rfl, hx⟩
        obtain ⟨t, ht, rfl⟩ := ints_get hx
        exact ⟨rfl, _, rfl, kve, Sum.inl (t : Int), rfl, zq, (by have := ek.1; rw [List.length_take] at this; rw [sz]; omega), sq.upd hZ, _, upd_same, endK_take ek ht _⟩
      · rintro Hq ⟨sq, kve, zq, ek⟩
        rw [ints_len, List.take_length] at ek
        exact ⟨Z, kve, rfl, sq, zq, ek⟩
    rintro σ' Hj ⟨Z, kve, rfl, sj, zj, ek⟩
    have gEj := sj _ _ gE
    refine ⟨fun σ' H' => ∃ C : Addr, σ' = [some (.int (n : Nat)), some (.ref e), some (.ref Z), some (.ref C), none, none, none] ∧ Same Hj H' ∧ H' C = some (.lst (vN' ((List.range n).filter fun s => !decide (s ∈ E)))) ∧ Hj C = none, ?_, ?_⟩
    · refine ⟨_, rfl, _, rfl, (by omega), (by omega), fun C hC => ?_⟩
      refine lc_range (lo := 0) (n := n) (fun q Hq => Same Hj Hq ∧ Hq C = some (.lst (vN' ((List.range q).filter fun s => !decide (s ∈ E))))) ?_ ?_ ?_
      · exact ⟨(Same.refl Hj).upd hC, upd_same⟩
      · rintro q Hq hq ⟨sq, cq⟩
        have er : (List.range (q + 1)).filter (fun s => !decide (s ∈ E)) = (List.range q).filter (fun s => !decide (s ∈ E)) ++ if (!decide (q ∈ E)) = true then [q] else [] := by
          rw [List.range_succ, List.filter_append, List.filter_cons]
          rfl
        have e0 : (0 : Int) + (q : Nat) = (q : Nat) := by omega
        rw [e0]
        refine ⟨rfl, _, rfl, _, rfl, Z, _, rfl, DGet.k (k := Sum.inl (q : Int)) (sq _ _ zj), _, rfl, ?_⟩
        rw [ek.2 q]
        cases c : decide (q ∈ E) with
        | true =>
          refine iteF ?_
          refine ⟨sq, ?_⟩
          rw [er, c]
          show Hq C = some (.lst (vN' (_ ++ [])))
          rw [List.append_nil]
          exact cq
        | false =>
          refine iteT ?_
          refine ⟨_, rfl, _, cq, (by
            have := List.length_filter_le (fun s => !decide (s ∈ E)) (List.range q)
            rw [List.length_range] at this
            rw [ints_len, sz]
            omega), sq.upd hC, ?_⟩
          rw [upd_same, er, c, nats_snoc]
          rfl
      · rintro Hq ⟨sq, cq⟩
        exact ⟨C, rfl, sq, cq, hC⟩
    rintro σ' Hq ⟨O, rfl, sq, oq, hO⟩
    have gEq := sq _ _ gEj
    have sHq := sj.trans sq
    refine ⟨_, rfl, e, _, rfl, .inl (SqL.of gEq), fun L1 h1 => ?_⟩
    have s1 : Same Hq (upd Hq L1 (.lst (vN' E))) := (Same.refl Hq).upd h1
    have g1 : upd Hq L1 (.lst (vN' E)) L1 = some (.lst (vN' E)) := upd_same
    generalize upd Hq L1 (.lst (vN' E)) = H1 at s1 g1 ⊢
    refine ⟨_, rfl, (by show 2 ≤ sizeLine; decide), fun T hT => ?_⟩
    have s2 : Same H1 (upd H1 T (.tup [.ref L1, .ref O])) := (Same.refl H1).upd hT
    have g2 : upd H1 T (.tup [.ref L1, .ref O]) T = some (.tup [.ref L1, .ref O]) := upd_same
    generalize upd H1 T (.tup [.ref L1, .ref O]) = H2 at s2 g2 ⊢
    have gL2 := s2 _ _ g1
    have gO2 := s2 _ _ (s1 _ _ oq)
    have hHL : H L1 = none := sHq.none h1
    have hHO : H O = none := sj.none hO
    have sH2 := (sHq.trans s1).trans s2
    refine ⟨T, rfl, ⟨_, SqT.of g2⟩, fun C hC => ?_⟩
    have blk : ∀ {q : Nat} {x : V}, [V.ref L1, V.ref O][q]? = some x → ∃ (b : Addr) (B : List Nat), x = .ref b ∧ H b = none ∧ H2 b = some (.lst (vN' B)) ∧ [E, (List.range n).filter fun s => !decide (s ∈ E)][q]? = some B := fun {q x} hx => by
      match q, hx with
      | 0, hx => cases hx; exact ⟨L1, E, rfl, hHL, gL2, rfl⟩
      | 1, hx => cases hx; exact ⟨O, _, rfl, hHO, gO2, rfl⟩
    refine lc_it (walk_tup (xs := [.ref L1, .ref O])) (fun q Hq => Same H2 Hq ∧ ∃ ys : List V, Hq C = some (.lst ys) ∧ ys.length ≤ q ∧ BlksAt H2 ys (([E, (List.range n).filter fun s => !decide (s ∈ E)].take q).filter fun B => !B.isEmpty) ∧ ∀ x ∈ ys, ∀ a, x = .ref a → H a = none) ?_ ?_ ?_ ?_
    · exact ⟨(Same.refl H2).upd hC, [], upd_same, Nat.le_refl _, .nil, fun _ h => nomatch h⟩
    · rintro q Hq _ ⟨sq, _⟩
      exact SqT.of (sq _ _ g2)
    · rintro q x Hq0 Hr hq ⟨sr, ys, cr, ly, by_, fr⟩ ⟨rfl, hx⟩
      obtain ⟨b, B, rfl, hb, gb, eB⟩ := blk hx
      refine ⟨rfl, _, rfl, _, .inl ⟨_, SqL.of (sr _ _ gb), rfl⟩, ?_⟩
      have eb : (vN' B).isEmpty = B.isEmpty := by cases B <;> rfl
      rw [eb]
      have q2 : q < 2 := hq
      have et : ([E, (List.range n).filter fun s => !decide (s ∈ E)].take (q + 1)).filter (fun B => !B.isEmpty) = ([E, (List.range n).filter fun s => !decide (s ∈ E)].take q).filter (fun B => !B.isEmpty) ++ if (!B.isEmpty) = true then [B] else [] := by
        rw [take_snoc eB, List.filter_append, List.filter_cons]
        rfl
      cases c : (!B.isEmpty) with
      | true =>
        refine iteT ?_
        refine ⟨_, rfl, ys, cr, (by rw [sz]; omega), sr.upd hC, ys ++ [.ref b], upd_same, (by rw [List.length_append]; show ys.length + 1 ≤ q + 1; omega), ?_, fun x hx a ea => ?_⟩
        · rw [et, c]
          exact paired_snoc by_ ⟨b, rfl, gb⟩
        · rcases List.mem_append.mp hx with h | h
          · exact fr x h a ea
          · rw [List.mem_singleton.mp h] at ea
            cases ea
            exact hb
      | false =>
        refine iteF ?_
        refine ⟨sr, ys, cr, by omega, ?_, fr⟩
        rw [et, c]
        show BlksAt H2 ys (_ ++ [])
        rw [List.append_nil]
        exact by_
    · rintro Hr ⟨sr, ys, cr, ly, by_, fr⟩
      exact k C ys Hr (sH2.trans sr) cr (by_.same sr) fr (sH2.none hC)
theorem ok_places {f : Addr} {fd : FuncData} (F : Fun K "block_places" "block_places" sPlaces f fd) (mE : mg "enumerate" = none) : FnOk P w K mg base CX0 1 f fd ["blocks"] spPlaces := by
  refine F.ok scPlaces (fun vs H Q E h => ?_) (fun cdv A outer s H vs Q E hr h => ?_)
  · obtain ⟨_, _, _, _, _, rfl, _⟩ := h
    rfl
  · obtain ⟨a, xs, bs, n, wh, rfl, ga, hb, pt, ln, k⟩ := h
    have nd := scPlaces.nd
    have sz : sizeLine = 16777216 := rfl
    refine ⟨_, C8.pss_cut (ps_setLc2 (i := 1) (own := [("block", 3), ("_", 5)]) (vs1 := [5]) (g := gName 3) (g1 := gName 5) (tt := tYes) (tt1 := tYes) rfl nd rfl rfl (sw_true rfl rfl rfl (by decide +kernel)) (pi_list (pv 0)) (blkOk_by (N := nPlaces) (sc := defScope sPlaces) (by decide +kernel)) (by decide) (fun _ _ _ _ _ => pg_name (i := 3) nd rfl (Or.inl rfl)) (fun _ _ _ _ _ => pts_nil)
        (fun _ _ _ _ _ => pi_listK (K := K) rfl (pv 3)) (fun _ _ _ _ _ => pg_name (i := 5) nd rfl (Or.inl rfl)) (fun _ _ _ _ _ => pts_nil) (fun _ _ _ _ _ => pe_int))
      (pss_cons (ps_for PassesOwn.never rfl (pi_enum (by rfl) mE (pa_cons (pv 0) pa_nil)) (pg_tup rfl (pgs_cons (pg_name (i := 2) nd rfl (.inl rfl)) (pgs_cons (pg_name (i := 3) nd rfl (.inl rfl)) pgs_nil)))
        (pss_one (ps_for PassesOwn.never rfl (pi_list (pv 3)) (pg_name (i := 4) nd rfl (.inl rfl)) (pss_one (ps_asg (pv 2) (pg_sub (pv 1) (pv 4) set_list))))))
      (pss_one (ps_ret (pv 1)))), ?_⟩
    have bx : ∀ {q : Nat} {x : V}, xs[q]? = some x → ∃ (b : Addr) (B : List Nat), bs[q]? = some B ∧ x = .ref b ∧ H b = some (.lst (vN' B)) := fun {q x} hx => by
      obtain ⟨B, eB, b, rfl, gb⟩ := paired_getM hb hx
      exact ⟨b, B, eB, rfl, gb⟩
    have lb : xs.length = bs.length := paired_lenM hb
    have tot := pt.total
    have pre : ∀ q, ((bs.take q).flatMap id).length ≤ n := fun q => by
      have : bs.flatMap id = (bs.take q).flatMap id ++ (bs.drop q).flatMap id := by rw [← List.flatMap_append, List.take_append_drop]
      have := congrArg List.length this
      rw [List.length_append] at this
      omega
    have pre1 : ∀ {q : Nat} {B : List Nat}, bs[q]? = some B → ((bs.take (q + 1)).flatMap id).length = ((bs.take q).flatMap id).length + B.length := fun {q B} e => by
      rw [take_snoc e, List.flatMap_append, List.length_append]
      show _ + ([B].flatMap id).length = _
      simp
    refine ⟨fun σ' H' => ∃ W : Addr, σ' = [some (.ref a), some (.ref W), none, none, none, none] ∧ Same H H' ∧ H' W = some (.lst (vN' (List.replicate n 0))) ∧ H W = none, ?_, ?_⟩
    · refine ⟨_, rfl, a, rfl, ⟨_, SqL.of ga⟩, fun W hW => ?_⟩
      refine it_gen (walk_list (xs := xs)) (fun q Hq => Same H Hq ∧ Hq W = some (.lst (vN' (List.replicate ((bs.take q).flatMap id).length 0)))) ?_ ?_ ?_ ?_
      · exact ⟨(Same.refl H).upd hW, upd_same⟩
      · rintro q Hq _ ⟨sq, _⟩
        exact SqL.of (sq _ _ ga)
      · rintro q x Hq0 Hq hq ⟨sq, cq⟩ ⟨rfl, hx⟩
        obtain ⟨b, B, eB, rfl, gb⟩ := bx hx
        refine ⟨rfl, _, rfl, b, rfl, ⟨_, SqL.of (sq _ _ gb)⟩, ?_⟩
        refine it_gen (walk_list (xs := vN' B)) (fun j Hj => Same H Hj ∧ Hj W = some (.lst (vN' (List.replicate (((bs.take q).flatMap id).length + j) 0)))) ⟨sq, cq⟩ ?_ ?_ ?_
        · rintro j Hj _ ⟨sj, _⟩
          exact SqL.of (sj _ _ gb)
        · rintro j y Hj0 Hj hj ⟨sj, cj⟩ ⟨rfl, hy⟩
          refine ⟨rfl, ?_⟩
          have := pre (q + 1)
          rw [pre1 eB] at this
          have hj' : j < B.length := by rw [← ints_len B]; exact hj
          refine ⟨_, cj, (by rw [ints_len, List.length_replicate, sz]; omega), sj.upd hW, ?_⟩
          rw [upd_same, show V.int 0 = V.int ((0 : Nat) : Int) from rfl, nats_snoc, ← List.replicate_succ']
          rfl
        · rintro Hj ⟨sj, cj⟩
          rw [ints_len] at cj
          refine ⟨sj, ?_⟩
          rw [pre1 eB]
          exact cj
      · rintro Hq ⟨sq, cq⟩
        rw [lb, List.take_length, tot] at cq
        exact ⟨W, rfl, sq, cq, hW⟩
    rintro σ' H1 ⟨W, rfl, s1, w1, hW⟩
    have w1' : H1 W = some (.lst (vN' (fnL n fun s => if wh s < 0 then wh s else 0))) := by
      rw [w1]
      have : List.replicate n 0 = fnL n fun s => if wh s < 0 then wh s else 0 := by
        refine List.ext_getElem? fun t => ?_
        by_cases ht : t < n
        · rw [fnL_get ht, List.getElem?_replicate, if_pos ht, if_neg (Nat.not_lt_zero _)]
        · rw [List.getElem?_eq_none (by rw [List.length_replicate]; omega), List.getElem?_eq_none (by rw [fnL_len]; omega)]
      rw [this]
    have naW : a ≠ W := ne_of_none ga hW
    refine ⟨_, rfl, a, xs, rfl, SqL.of (s1 _ _ ga), for_it (walk_enum (xs := xs)) (fun q σ Hq => ∃ o2 o3 o4 : Option V, σ = [some (.ref a), some (.ref W), o2, o3, o4, none] ∧ Same H Hq ∧ Hq W = some (.lst (vN' (fnL n fun s => if wh s < q then wh s else 0)))) ?_ ?_ ?_ ?_⟩
    · exact ⟨none, none, none, rfl, s1, w1'⟩
    · rintro q σ Hq _ ⟨_, _, _, _, sq, _⟩
      exact SqL.of (sq _ _ ga)
    · rintro q x σ Hq0 Hq hq ⟨o2, o3, o4, rfl, sq, wq⟩ ⟨T', p, y, rfl, hT, rfl, e1, e2⟩
      obtain rfl : V.int (q : Nat) = p := Option.some.inj e1
      obtain ⟨b, B, eB, rfl, gb⟩ := bx e2
      have mB := pt.mem q B eB
      have s2 : Same H (upd Hq0 T' (.tup [.int (q : Nat), .ref b])) := sq.upd (sq.none hT)
      have nWT : W ≠ T' := ne_of_none wq hT
      have wq' : upd Hq0 T' (.tup [.int (q : Nat), .ref b]) W = some (.lst (vN' (fnL n fun s => if wh s < q then wh s else 0))) := by rw [upd_ne nWT]; exact wq
      refine ⟨T', _, rfl, SqT.of upd_same, rfl, _, _, rfl, _, _, rfl, rfl, ?_⟩
      generalize upd Hq0 T' (.tup [.int (q : Nat), .ref b]) = H2 at s2 wq' ⊢
      refine ⟨_, rfl, b, rfl, ⟨_, SqL.of (s2 _ _ gb)⟩, for_it (walk_list (xs := vN' B)) (fun j σ Hj => ∃ o4 : Option V, σ = [some (.ref a), some (.ref W), some (.int (q : Nat)), some (.ref b), o4, none] ∧ Same H Hj ∧ Hj W = some (.lst (vN' (fnL n fun s => if wh s < q ∨ s ∈ B.take j then wh s else 0)))) ?_ ?_ ?_ ?_⟩
      · refine ⟨o4, rfl, s2, ?_⟩
        rw [wq']
        have : (fnL n fun s => if wh s < q then wh s else 0) = fnL n fun s => if wh s < q ∨ s ∈ B.take 0 then wh s else 0 := fnL_congr fun s _ => by
          simp
        rw [this]
      · rintro j σ Hj _ ⟨_, _, sj, _⟩
        exact SqL.of (sj _ _ gb)
      · rintro j z σ Hj0 Hj hj ⟨o4', rfl, sj, wj⟩ ⟨rfl, hz⟩
        obtain ⟨t, ht, rfl⟩ := ints_get hz
        have tB := (mB t).mp (List.mem_of_getElem? ht)
        refine ⟨_, rfl, _, rfl, _, rfl, W, _, _, t, rfl, rfl, wj, ?_, ?_⟩
        · rw [ints_len, fnL_len]
          exact ixN_of tB.1
        · refine ⟨_, rfl, sj.upd hW, ?_⟩
          rw [upd_same, ints_set, fnL_set]
          have : (fnL n fun t' => if t' = t then q else if wh t' < q ∨ t' ∈ B.take j then wh t' else 0) = fnL n fun s => if wh s < q ∨ s ∈ B.take (j + 1) then wh s else 0 := fnL_congr fun s _ => by
            rw [take_snoc ht]
            by_cases e : s = t
            · subst e
              rw [if_pos rfl, if_pos (.inr (List.mem_append_right _ (List.mem_singleton.mpr rfl)))]
              exact tB.2.symm
            · rw [if_neg e]
              simp [e]
          rw [this]
      · rintro σ Hj ⟨o4', rfl, sj, wj⟩
        refine ⟨_, _, _, rfl, sj, ?_⟩
        rw [wj]
        have : (fnL n fun s => if wh s < q ∨ s ∈ B.take (vN' B).length then wh s else 0) = fnL n fun s => if wh s < q + 1 then wh s else 0 := fnL_congr fun s hs => by
          rw [ints_len, List.take_length]
          have ms := mB s
          by_cases c : wh s < q
          · rw [if_pos (.inl c), if_pos (by omega)]
          · by_cases d : wh s = q
            · rw [if_pos (.inr (ms.mpr ⟨hs, d⟩)), if_pos (by omega)]
            · rw [if_neg (fun z => z.elim c fun z => d (ms.mp z).2), if_neg (by omega)]
        rw [this]
    · rintro σ Hq ⟨o2, o3, o4, rfl, sq, wq⟩
      refine ⟨_, rfl, ?_⟩
      refine k W Hq sq hW ?_
      rw [wq]
      have : (fnL n fun s => if wh s < xs.length then wh s else 0) = fnL n wh := fnL_congr fun s hs => by
        rw [if_pos (by rw [lb]; exact pt.lt s hs)]
      rw [this]
end
end K11
namespace FL
open PySem PySem.Spec PyProof.Rows L2 FL
/-! ### pairs of numbers, sorted -/
def PrT (H : Hp) (x : V) (p : Nat × Nat) : Prop := ∃ t : Addr, x = .ref t ∧ H t = some (.tup [.int (p.1 : Nat), .int (p.2 : Nat)])
def lexLe (p q : Nat × Nat) : Prop := p.1 < q.1 ∨ (p.1 = q.1 ∧ p.2 ≤ q.2)
def kP (H : Hp) (x : V) : Int × Int := match x with
  | .ref t => match H t with
    | some (.tup [.int i, .int j]) => (i, j)
    | _ => (0, 0)
  | _ => (0, 0)
theorem kP_of {H : Hp} {x : V} {p : Nat × Nat} (h : PrT H x p) : kP H x = ((p.1 : Int), (p.2 : Int)) := by
  obtain ⟨t, rfl, e⟩ := h
  unfold kP
  simp only [e]
def rSortP2 (K : PySem.W.Frag) : List V → Hp → VK → Prop := fun vs H Q => ∃ (a : Addr) (xs : List V) (ps : List (Nat × Nat)), vs = [V.ref a] ∧ SqL K H a xs ∧ Paired (PrT H) xs ps ∧
  ∀ (ys : List V) (qs : List (Nat × Nat)) (p : Addr), Paired (PrT H) ys qs → qs.Perm ps → qs.Pairwise lexLe → H p = none → Q (.ref p) (upd H p (.lst ys))
theorem cr_sortedP2 {X : Cx} : CallR X (.builtin "sorted") (rSortP2 X.K) := by
  intro pins s σ H vs us Q I r h
  obtain ⟨a, xs, ps, rfl, hs, hp, q⟩ := h
  have each : ∀ x ∈ xs, ∃ p, PrT H x p := fun x hx => by
    obtain ⟨i, hi, rfl⟩ := List.mem_iff_getElem.mp hx
    obtain ⟨p, _, e⟩ := paired_getM hp (List.getElem?_eq_getElem hi)
    exact ⟨p, e⟩
  have eps : xs.map (fun y => ((kP H y).1.toNat, (kP H y).2.toNat)) = ps := by
    clear each hs r q I
    induction hp with
    | nil => rfl
    | cons x _ ih =>
      rw [List.map_cons, ih, kP_of x]
      rfl
  refine cr_sortedPO pins s σ H _ us Q I r ⟨a, xs, kP H, rfl, hs, fun x hx => ?_, fun ys p hS hB hn => ?_⟩
  · obtain ⟨pp, h⟩ := each x hx
    have := kP_of h
    obtain ⟨t, e, g⟩ := h
    exact ⟨t, e, by rw [this]; exact g⟩
  · refine q ys (ys.map fun y => ((kP H y).1.toNat, (kP H y).2.toNat)) p ?_ ?_ ?_ hn
    · have : ∀ y ∈ ys, ∃ p, PrT H y p := fun y hy => each y (hB.perm.mem_iff.mp hy)
      clear hS hB q eps each
      induction ys with
      | nil => exact .nil
      | cons y ys ih =>
        obtain ⟨pp, h⟩ := this y List.mem_cons_self
        refine .cons ?_ (ih fun y hy => this y (List.mem_cons_of_mem _ hy))
        show PrT H y ((kP H y).1.toNat, (kP H y).2.toNat)
        rw [kP_of h]
        exact h
    · have := hB.perm.map fun y => ((kP H y).1.toNat, (kP H y).2.toNat)
      rw [eps] at this
      exact this
    · refine List.pairwise_map.mpr (List.Pairwise.imp_of_mem (fun {x y} hx hy h => ?_) hS)
      obtain ⟨p1, h1⟩ := each x (hB.perm.mem_iff.mp hx)
      obtain ⟨p2, h2⟩ := each y (hB.perm.mem_iff.mp hy)
      have := SrtO.lexB_no.mp (show SrtO.lexB (kP H y) (kP H x) = false from h)
      rw [kP_of h1, kP_of h2] at this ⊢
      show _ < _ ∨ (_ = _ ∧ _ ≤ _)
      simp only at this ⊢
      omega
/-! ### what leads to a state -/
structure BackIs (n : Nat) (R : Rws) (a : Nat) (st : Nat → Nat) (src : List Nat) : Prop where
  sl : ∀ t, t < n → st t ≤ st (t + 1) ∧ st (t + 1) ≤ src.length
  mem : ∀ t, t < n → ∀ s, s ∈ (src.drop (st t)).take (st (t + 1) - st t) ↔ s < n ∧ nxt R s a = t
  nd : ∀ t, t < n → ((src.drop (st t)).take (st (t + 1) - st t)).Nodup
def stepsOf (n : Nat) (R : Rws) (a : Nat) : List (Nat × Nat) := (List.range n).map fun s => (nxt R s a, s)
def below (qs : List (Nat × Nat)) (t : Nat) : Nat := (qs.filter fun p => decide (p.1 < t)).length
theorem sorted_cut : ∀ {qs : List (Nat × Nat)}, qs.Pairwise lexLe → ∀ t, qs = qs.filter (fun p => decide (p.1 < t)) ++ qs.filter (fun p => !decide (p.1 < t))
  | [], _, _ => rfl
  | p :: qs, h, t => by
    obtain ⟨h1, h2⟩ := List.pairwise_cons.mp h
    rw [List.filter_cons, List.filter_cons]
    by_cases c : p.1 < t
    · rw [if_pos (decide_eq_true c), if_neg (by rw [decide_eq_true c]; decide)]
      rw [List.cons_append, ← sorted_cut h2 t]
    · rw [if_neg (by rw [decide_eq_false c]; decide), if_pos (by rw [decide_eq_false c]; rfl)]
      have e : qs.filter (fun p => decide (p.1 < t)) = [] := List.filter_eq_nil_iff.mpr fun q hq => by
        have := h1 q hq
        unfold lexLe at this
        rw [decide_eq_true_iff]
        omega
      have e2 : qs.filter (fun p => !decide (p.1 < t)) = qs := List.filter_eq_self.mpr fun q hq => by
        have := h1 q hq
        unfold lexLe at this
        rw [decide_eq_false (by omega)]
        rfl
      rw [e, e2]
      rfl
theorem below_slice {qs : List (Nat × Nat)} (h : qs.Pairwise lexLe) (t : Nat) : below qs t ≤ below qs (t + 1) ∧ below qs (t + 1) ≤ qs.length ∧ (qs.drop (below qs t)).take (below qs (t + 1) - below qs t) = qs.filter fun p => decide (p.1 = t) := by
  have c1 := sorted_cut h t
  have hd : qs.drop (below qs t) = qs.filter fun p => !decide (p.1 < t) := by
    have : (qs.filter (fun p => decide (p.1 < t)) ++ qs.filter (fun p => !decide (p.1 < t))).drop (qs.filter fun p => decide (p.1 < t)).length = qs.filter fun p => !decide (p.1 < t) := List.drop_left
    rw [← c1] at this
    exact this
  have h2 : (qs.filter fun p => !decide (p.1 < t)).Pairwise lexLe := h.sublist List.filter_sublist
  have c2 := sorted_cut h2 (t + 1)
  have e1 : (qs.filter fun p => !decide (p.1 < t)).filter (fun p => decide (p.1 < t + 1)) = qs.filter fun p => decide (p.1 = t) := by
    rw [List.filter_filter]
    refine List.filter_congr fun p _ => ?_
    by_cases c : p.1 = t
    · rw [decide_eq_true c, decide_eq_true (show p.1 < t + 1 by omega), decide_eq_false (show ¬ p.1 < t by omega)]
      rfl
    · rw [decide_eq_false c]
      by_cases d : p.1 < t
      · rw [decide_eq_true d]
        simp
      · rw [decide_eq_false (show ¬ p.1 < t + 1 by omega)]
        rfl
  have l1 : below qs (t + 1) = below qs t + (qs.filter fun p => decide (p.1 = t)).length := by
    have e3 : (qs.filter (fun p => decide (p.1 < t)) ++ qs.filter (fun p => !decide (p.1 < t))).filter (fun p => decide (p.1 < t + 1)) = (qs.filter fun p => decide (p.1 < t)).filter (fun p => decide (p.1 < t + 1)) ++ (qs.filter fun p => !decide (p.1 < t)).filter (fun p => decide (p.1 < t + 1)) := List.filter_append ..
    rw [← c1, e1] at e3
    unfold below
    rw [e3, List.length_append]
    congr 1
    rw [List.filter_filter]
    congr 1
    refine List.filter_congr fun p _ => ?_
    by_cases d : p.1 < t
    · rw [decide_eq_true d, decide_eq_true (show p.1 < t + 1 by omega)]
      rfl
    · rw [decide_eq_false d]
      simp
  refine ⟨by omega, List.length_filter_le _ _, ?_⟩
  rw [hd, l1, Nat.add_sub_cancel_left]
  have : ((qs.filter fun p => !decide (p.1 < t)).filter (fun p => decide (p.1 < t + 1)) ++ (qs.filter fun p => !decide (p.1 < t)).filter (fun p => !decide (p.1 < t + 1))).take ((qs.filter fun p => !decide (p.1 < t)).filter (fun p => decide (p.1 < t + 1))).length = (qs.filter fun p => !decide (p.1 < t)).filter (fun p => decide (p.1 < t + 1)) := List.take_left
  rw [← c2, e1] at this
  exact this
theorem back_of {n : Nat} {R : Rws} {a : Nat} {qs : List (Nat × Nat)} (hp : qs.Perm (stepsOf n R a)) (hs : qs.Pairwise lexLe) : BackIs n R a (below qs) (qs.map (·.2)) := by
  have mq : ∀ t s, (t, s) ∈ qs ↔ s < n ∧ nxt R s a = t := fun t s => by
    rw [hp.mem_iff]
    unfold stepsOf
    rw [List.mem_map]
    constructor
    · rintro ⟨u, hu, e⟩
      cases e
      exact ⟨List.mem_range.mp hu, rfl⟩
    · rintro ⟨h, rfl⟩
      exact ⟨s, List.mem_range.mpr h, rfl⟩
  have ndq : qs.Nodup := hp.symm.nodup (by
    unfold stepsOf
    refine List.pairwise_map.mpr (List.nodup_range.imp fun {x y} h e => h ?_)
    exact (Prod.mk.inj e).2)
  have sl : ∀ t, ((qs.map (·.2)).drop (below qs t)).take (below qs (t + 1) - below qs t) = (qs.filter fun p => decide (p.1 = t)).map (·.2) := fun t => by
    rw [← List.map_drop, ← List.map_take, (below_slice hs t).2.2]
  refine ⟨fun t _ => ⟨(below_slice hs t).1, by rw [List.length_map]; exact (below_slice hs t).2.1⟩, fun t _ s => ?_, fun t _ => ?_⟩
  · rw [sl, List.mem_map]
    constructor
    · rintro ⟨p, hp', rfl⟩
      obtain ⟨h1, h2⟩ := List.mem_filter.mp hp'
      have e := of_decide_eq_true h2
      refine (mq t p.2).mp ?_
      rw [← e]
      exact h1
    · intro h
      exact ⟨(t, s), List.mem_filter.mpr ⟨(mq t s).mpr h, decide_eq_true rfl⟩, rfl⟩
  · rw [sl]
    refine List.pairwise_map.mpr (List.Pairwise.imp_of_mem (fun {p q} hp' hq' h e => h ?_) (ndq.filter _))
    have e1 := of_decide_eq_true (List.mem_filter.mp hp').2
    have e2 := of_decide_eq_true (List.mem_filter.mp hq').2
    exact Prod.ext (e1.trans e2.symm) e
end FL
namespace FL
open PySem PySem.Spec PyProof.Rows L2 FL
/-! ### pairs cut where the first one changes -/
def keyC (qs : List (Nat × Nat)) (i : Nat) : Nat := (qs.getD i (0, 0)).1
def isCut (qs : List (Nat × Nat)) (i : Nat) : Bool := decide (i = 0) || !decide (keyC qs i = keyC qs (i - 1))
def cutsOf (qs : List (Nat × Nat)) : List Nat := (List.range qs.length).filter (isCut qs)
def cutAt (qs : List (Nat × Nat)) (j : Nat) : Nat := ((cutsOf qs)[j]?).getD qs.length
def partOf (qs : List (Nat × Nat)) (j : Nat) : List Nat := ((qs.drop (cutAt qs j)).take (cutAt qs (j + 1) - cutAt qs j)).map (·.2)
section
variable {qs : List (Nat × Nat)}
theorem keyC_of {i : Nat} {p : Nat × Nat} (h : qs[i]? = some p) : keyC qs i = p.1 := by
  unfold keyC
  rw [List.getD_eq_getElem?_getD, h]
  rfl
theorem cutAt_mem {j : Nat} (h : j < (cutsOf qs).length) : cutAt qs j < qs.length ∧ isCut qs (cutAt qs j) = true ∧ (cutsOf qs)[j]? = some (cutAt qs j) := by
  obtain ⟨x, hx⟩ : ∃ x, (cutsOf qs)[j]? = some x := ⟨_, List.getElem?_eq_getElem h⟩
  have m : x ∈ (List.range qs.length).filter (isCut qs) := List.mem_of_getElem? hx
  obtain ⟨m1, m2⟩ := List.mem_filter.mp m
  have e : cutAt qs j = x := by unfold cutAt; rw [hx]; rfl
  rw [e]
  exact ⟨List.mem_range.mp m1, m2, hx⟩
theorem cut_end {j : Nat} (h : (cutsOf qs).length ≤ j) : cutAt qs j = qs.length := by
  unfold cutAt
  rw [List.getElem?_eq_none h]
  rfl
theorem cutAt_lt {j k : Nat} (jk : j < k) (h : k ≤ (cutsOf qs).length) : cutAt qs j < cutAt qs k := by
  obtain ⟨m1, _, m3⟩ := cutAt_mem (qs := qs) (j := j) (by omega)
  by_cases e : k = (cutsOf qs).length
  · rw [cut_end (j := k) (by omega)]
    exact m1
  · obtain ⟨_, _, n3⟩ := cutAt_mem (qs := qs) (j := k) (by omega)
    have pw : (cutsOf qs).Pairwise (· < ·) := (List.pairwise_lt_range (n := qs.length)).filter _
    have := List.pairwise_iff_getElem.mp pw j k (by omega) (by omega) jk
    rw [List.getElem?_eq_getElem (by omega)] at m3 n3
    rw [Option.some.inj m3, Option.some.inj n3] at this
    exact this
theorem cutAt_le {j : Nat} : cutAt qs j ≤ qs.length := by
  by_cases h : j < (cutsOf qs).length
  · exact Nat.le_of_lt (cutAt_mem h).1
  · rw [cut_end (by omega)]
    exact Nat.le_refl _
theorem cut_of {i : Nat} (h : i < qs.length) (c : isCut qs i = true) : ∃ j, j < (cutsOf qs).length ∧ cutAt qs j = i := by
  have m : i ∈ cutsOf qs := List.mem_filter.mpr ⟨List.mem_range.mpr h, c⟩
  obtain ⟨j, hj, e⟩ := List.mem_iff_getElem.mp m
  refine ⟨j, hj, ?_⟩
  unfold cutAt
  rw [List.getElem?_eq_getElem hj, e]
  rfl
theorem cut_find : ∀ (i : Nat), i < qs.length → ∃ j, j < (cutsOf qs).length ∧ cutAt qs j ≤ i ∧ i < cutAt qs (j + 1)
  | 0, h => by
    obtain ⟨j, hj, e⟩ := cut_of h (by unfold isCut; rfl)
    have := cutAt_lt (qs := qs) (Nat.lt_add_one j) hj
    exact ⟨j, hj, by omega, by omega⟩
  | i + 1, h => by
    obtain ⟨j, hj, h1, h2⟩ := cut_find i (by omega)
    by_cases c : i + 1 < cutAt qs (j + 1)
    · exact ⟨j, hj, by omega, c⟩
    · have lj : j + 1 < (cutsOf qs).length := by
        by_cases l : j + 1 < (cutsOf qs).length
        · exact l
        · rw [cut_end (j := j + 1) (by omega)] at c
          omega
      have := cutAt_lt (qs := qs) (Nat.lt_add_one (j + 1)) lj
      exact ⟨j + 1, lj, by omega, by omega⟩
theorem cut_same {j : Nat} (hj : j < (cutsOf qs).length) : ∀ (i : Nat), cutAt qs j ≤ i → i < cutAt qs (j + 1) → keyC qs i = keyC qs (cutAt qs j)
  | 0, h1, _ => by rw [show cutAt qs j = 0 by omega]
  | i + 1, h1, h2 => by
    by_cases e : cutAt qs j = i + 1
    · rw [e]
    · have ih := cut_same hj i (by omega) (by omega)
      have nc : isCut qs (i + 1) = false := by
        cases c : isCut qs (i + 1) with
        | false => rfl
        | true =>
          have := cutAt_le (qs := qs) (j := j + 1)
          obtain ⟨k, hk, ek⟩ := cut_of (by omega) c
          rcases Nat.lt_trichotomy k j with l | l | l
          · have := cutAt_lt (qs := qs) l (by omega)
            omega
          · rw [l] at ek
            omega
          · rcases Nat.lt_or_ge k (j + 1) with l2 | l2
            · omega
            · rcases Nat.eq_or_lt_of_le l2 with l3 | l3
              · rw [l3] at h2
                omega
              · have := cutAt_lt (qs := qs) l3 (by omega)
                omega
      have : keyC qs (i + 1) = keyC qs i := by
        unfold isCut at nc
        simpa using nc
      rw [this, ih]
theorem key_mono (hs : qs.Pairwise lexLe) {i k : Nat} (ik : i ≤ k) (hk : k < qs.length) : keyC qs i ≤ keyC qs k := by
  rcases Nat.eq_or_lt_of_le ik with e | l
  · rw [e]
    exact Nat.le_refl _
  · have := List.pairwise_iff_getElem.mp hs i k (by omega) hk l
    rw [keyC_of (List.getElem?_eq_getElem (show i < qs.length by omega)), keyC_of (List.getElem?_eq_getElem hk)]
    unfold lexLe at this
    omega
theorem key_lt (hs : qs.Pairwise lexLe) {j k : Nat} (jk : j < k) (hk : k < (cutsOf qs).length) : keyC qs (cutAt qs j) < keyC qs (cutAt qs k) := by
  obtain ⟨m1, m2, _⟩ := cutAt_mem hk
  have l := cutAt_lt (qs := qs) jk (by omega)
  have h1 := key_mono hs (i := cutAt qs j) (k := cutAt qs k - 1) (by omega) (by omega)
  have h2 := key_mono hs (i := cutAt qs k - 1) (k := cutAt qs k) (by omega) m1
  have h3 : keyC qs (cutAt qs k) ≠ keyC qs (cutAt qs k - 1) := by
    unfold isCut at m2
    rw [decide_eq_false (show ¬ cutAt qs k = 0 by omega)] at m2
    simpa using m2
  omega
theorem part_mem {j s : Nat} : s ∈ partOf qs j ↔ ∃ i t, cutAt qs j ≤ i ∧ i < cutAt qs (j + 1) ∧ qs[i]? = some (t, s) := by
  unfold partOf
  rw [List.mem_map]
  constructor
  · rintro ⟨p, hp, rfl⟩
    obtain ⟨i, hi⟩ := List.mem_iff_getElem?.mp hp
    rw [List.getElem?_take] at hi
    split at hi
    · rename_i l
      rw [List.getElem?_drop] at hi
      exact ⟨cutAt qs j + i, p.1, by omega, by omega, hi⟩
    · cases hi
  · rintro ⟨i, t, h1, h2, e⟩
    refine ⟨(t, s), List.mem_iff_getElem?.mpr ⟨i - cutAt qs j, ?_⟩, rfl⟩
    rw [List.getElem?_take, if_pos (by omega), List.getElem?_drop, show cutAt qs j + (i - cutAt qs j) = i by omega]
    exact e
/-- the parts, each with the number of its block -/
theorem parts_are {n a : Nat} {R : Rws} {wh : Nat → Nat} {C lead : List Nat} (hl : lead.Nodup) (ml : ∀ s, s ∈ lead ↔ s < n ∧ nxt R s a ∈ C) (hp : qs.Perm (lead.map fun s => (wh s, s))) (hs : qs.Pairwise lexLe) :
    ∃ ids : List Nat, Paired (PartIs n R wh C a) ids ((List.range (cutsOf qs).length).map (partOf qs)) ∧ ids.Nodup ∧ ∀ s, s < n → nxt R s a ∈ C → ∃ part ∈ (List.range (cutsOf qs).length).map (partOf qs), s ∈ part := by
  have mq : ∀ {i t s : Nat}, qs[i]? = some (t, s) → t = wh s ∧ s < n ∧ nxt R s a ∈ C := fun {i t s} e => by
    obtain ⟨u, hu, q⟩ := List.mem_map.mp (hp.mem_iff.mp (List.mem_of_getElem? e))
    cases q
    exact ⟨rfl, (ml s).mp hu⟩
  have at_ : ∀ {s : Nat}, s < n → nxt R s a ∈ C → ∃ i, i < qs.length ∧ qs[i]? = some (wh s, s) := fun {s} h1 h2 => by
    have : (wh s, s) ∈ qs := hp.mem_iff.mpr (List.mem_map.mpr ⟨s, (ml s).mpr ⟨h1, h2⟩, rfl⟩)
    obtain ⟨i, hi, e⟩ := List.mem_iff_getElem.mp this
    exact ⟨i, hi, by rw [List.getElem?_eq_getElem hi, e]⟩
  have nd2 : (qs.map (·.2)).Nodup := by
    refine (hp.map (·.2)).symm.nodup ?_
    rw [List.map_map]
    have : (((fun p : Nat × Nat => p.2) ∘ fun s => (wh s, s)) : Nat → Nat) = id := rfl
    rw [this, List.map_id]
    exact hl
  refine ⟨(List.range (cutsOf qs).length).map fun j => keyC qs (cutAt qs j), ?_, ?_, ?_⟩
  · refine paired_of_get (by rw [List.length_map, List.length_map]) fun j b part e1 e2 => ?_
    rw [List.getElem?_map, Option.map_eq_some_iff] at e1 e2
    obtain ⟨j1, q1, rfl⟩ := e1
    obtain ⟨j2, q2, rfl⟩ := e2
    rw [q1] at q2
    cases q2
    have hj1 := List.mem_range.mp (List.mem_of_getElem? q1)
    clear q1
    have lt := cutAt_lt (qs := qs) (Nat.lt_add_one j1) hj1
    have le := cutAt_le (qs := qs) (j := j1 + 1)
    refine ⟨fun e => ?_, ?_, fun s => ?_⟩
    · have : (partOf qs j1).length = 0 := by rw [e]; rfl
      unfold partOf at this
      rw [List.length_map, List.length_take, List.length_drop] at this
      omega
    · unfold partOf
      rw [List.map_take, List.map_drop]
      exact (nd2.sublist (List.drop_sublist _ _)).sublist (List.take_sublist _ _)
    · rw [part_mem]
      constructor
      · rintro ⟨i, t, h1, h2, e⟩
        obtain ⟨rfl, h3, h4⟩ := mq e
        refine ⟨h3, ?_, h4⟩
        rw [← cut_same hj1 i h1 h2, keyC_of e]
      · rintro ⟨h3, h5, h4⟩
        obtain ⟨i, hi, e⟩ := at_ h3 h4
        have ke := keyC_of e
        simp only at ke
        refine ⟨i, wh s, ?_, ?_, e⟩
        · rcases Nat.lt_or_ge i (cutAt qs j1) with l | l
          · exfalso
            obtain ⟨m1, m2, _⟩ := cutAt_mem hj1
            have k1 := key_mono hs (i := i) (k := cutAt qs j1 - 1) (by omega) (by omega)
            have k2 := key_mono hs (i := cutAt qs j1 - 1) (k := cutAt qs j1) (by omega) m1
            unfold isCut at m2
            rw [decide_eq_false (show ¬ cutAt qs j1 = 0 by omega)] at m2
            have m3 : keyC qs (cutAt qs j1) ≠ keyC qs (cutAt qs j1 - 1) := by simpa using m2
            omega
          · exact l
        · rcases Nat.lt_or_ge i (cutAt qs (j1 + 1)) with l | l
          · exact l
          · exfalso
            have lj : j1 + 1 < (cutsOf qs).length := by
              by_cases l2 : j1 + 1 < (cutsOf qs).length
              · exact l2
              · rw [cut_end (j := j1 + 1) (by omega)] at l
                omega
            have k1 := key_lt hs (Nat.lt_add_one j1) lj
            have k2 := key_mono hs l hi
            omega
  · refine List.pairwise_map.mpr (List.Pairwise.imp_of_mem (fun {j k} hj hk jk => ?_) (List.pairwise_lt_range (n := (cutsOf qs).length)))
    have := key_lt hs jk (List.mem_range.mp hk)
    omega
  · intro s h1 h2
    obtain ⟨i, hi, e⟩ := at_ h1 h2
    obtain ⟨j, hj, l1, l2⟩ := cut_find i hi
    exact ⟨_, List.mem_map.mpr ⟨j, List.mem_range.mpr hj, rfl⟩, part_mem.mpr ⟨i, _, l1, l2, e⟩⟩
/-- what leads into a block -/
def leadOf (st : Nat → Nat) (src C : List Nat) : List Nat := C.flatMap fun t => (src.drop (st t)).take (st (t + 1) - st t)
theorem lead_are {n a : Nat} {R : Rws} {C src : List Nat} {st : Nat → Nat} (b : BackIs n R a st src) (hC : C.Nodup) (lt : ∀ t ∈ C, t < n) : (leadOf st src C).Nodup ∧ ∀ s, s ∈ leadOf st src C ↔ s < n ∧ nxt R s a ∈ C := by
  unfold leadOf
  refine ⟨List.pairwise_flatMap.mpr ⟨fun t ht => b.nd t (lt t ht), List.Pairwise.imp_of_mem (fun {t u} ht hu h s hs s' hs' e => ?_) hC⟩, fun s => ?_⟩
  · subst e
    have e1 := ((b.mem t (lt t ht) s).mp hs).2
    have e2 := ((b.mem u (lt u hu) s).mp hs').2
    exact h (e1.symm.trans e2)
  · rw [List.mem_flatMap]
    constructor
    · rintro ⟨t, ht, hs⟩
      obtain ⟨h1, h2⟩ := (b.mem t (lt t ht) s).mp hs
      exact ⟨h1, by rw [h2]; exact ht⟩
    · rintro ⟨h1, h2⟩
      exact ⟨_, h2, (b.mem _ (lt _ h2) s).mpr ⟨h1, rfl⟩⟩
theorem lead_few {n a : Nat} {R : Rws} {C src : List Nat} {st : Nat → Nat} (b : BackIs n R a st src) (hC : C.Nodup) (lt : ∀ t ∈ C, t < n) : (leadOf st src C).length ≤ n := by
  obtain ⟨h1, h2⟩ := lead_are b hC lt
  have := nodup_sub h1 (m := List.range n) fun s hs => List.mem_range.mpr ((h2 s).mp hs).1
  rwa [List.length_range] at this
end
end FL
namespace K11
open PySem PySem.Spec PyProof.Rows L2 FL
abbrev sBack : Stmt := topS 32
abbrev nBack : List Str := ["rows", "place", "steps", "starts", "target", "_", "state", "row"]
theorem scBack : FnScope nBack ["rows", "place"] (defScope sBack) := ⟨rfl, rfl, rfl, by decide +kernel, rfl, by decide +kernel, by decide +kernel⟩
theorem ix_tupK {X : Cx} {K : PySem.W.Frag} (hK : X.K = K) : IxR X (rIxT K) := by
  subst hK
  exact ix_tup
theorem ix_listK {X : Cx} {K : PySem.W.Frag} (hK : X.K = K) : IxR X (rIxL K) := by
  subst hK
  exact ix_list
def BackAt (H : Hp) (v : V) (n : Nat) (R : Rws) (a : Nat) : Prop := ∃ (T S C : Addr) (st : Nat → Nat) (src : List Nat), v = .ref T ∧ H T = some (.tup [.ref S, .ref C]) ∧ H S = some (.lst (vN' (fnL (n + 1) st))) ∧ H C = some (.lst (vN' src)) ∧ src.length = n ∧ BackIs n R a st src
theorem BackAt.same {H H' : Hp} {v : V} {n : Nat} {R : Rws} {a : Nat} (s : Same H H') (h : BackAt H v n R a) : BackAt H' v n R a := by
  obtain ⟨T, S, C, st, src, e, g1, g2, g3, b⟩ := h
  exact ⟨T, S, C, st, src, e, s _ _ g1, s _ _ g2, s _ _ g3, b⟩
def spBack : Sp := fun vs H Q _ => ∃ (v : Addr) (xs : List V) (n m a : Nat) (R : Rws), vs = [.ref v, .int (a : Nat)] ∧ H v = some (.lst xs) ∧ RowsT H xs R ∧ Frm n m R ∧ a < m ∧ n ≤ 1000000 ∧
  ∀ (x : V) (H' : Hp), Same H H' → BackAt H' x n R a → Q x H'
def cntF (qs : List (Nat × Nat)) (t : Nat) : Nat := (qs.filter fun p => decide (p.1 + 1 = t)).length
theorem cntF_snoc (qs : List (Nat × Nat)) (p : Nat × Nat) (t : Nat) : cntF (qs ++ [p]) t = if t = p.1 + 1 then cntF qs t + 1 else cntF qs t := by
  unfold cntF
  rw [List.filter_append, List.length_append, List.filter_cons]
  by_cases e : p.1 + 1 = t
  · rw [if_pos (decide_eq_true e), if_pos e.symm]
    rfl
  · rw [if_neg (by rw [decide_eq_true_iff]; exact e), if_neg fun z => e z.symm]
    rfl
theorem below_zero (qs : List (Nat × Nat)) : below qs 0 = 0 ∧ cntF qs 0 = 0 := by
  unfold below cntF
  rw [List.filter_eq_nil_iff.mpr fun p _ => by simp, List.filter_eq_nil_iff.mpr fun p _ => by simp]
  exact ⟨rfl, rfl⟩
theorem below_succ (qs : List (Nat × Nat)) (t : Nat) : below qs (t + 1) = cntF qs (t + 1) + below qs t := by
  unfold below cntF
  induction qs with
  | nil => rfl
  | cons p qs ih =>
    rw [List.filter_cons, List.filter_cons, List.filter_cons]
    by_cases c : p.1 < t
    · rw [if_pos (decide_eq_true (show p.1 < t + 1 by omega)), if_neg (by rw [decide_eq_true_iff]; omega), if_pos (decide_eq_true c), List.length_cons, List.length_cons, ih]
      omega
    · by_cases d : p.1 = t
      · rw [if_pos (decide_eq_true (show p.1 < t + 1 by omega)), if_pos (decide_eq_true (show p.1 + 1 = t + 1 by omega)), if_neg (by rw [decide_eq_true_iff]; omega), List.length_cons, List.length_cons, ih]
        omega
      · rw [if_neg (by rw [decide_eq_true_iff]; omega), if_neg (by rw [decide_eq_true_iff]; omega), if_neg (by rw [decide_eq_true_iff]; omega), ih]
section
variable {P : Program} {w : World} {K : PySem.W.Frag} {mg : Str → Option Value} {base : Heap}
theorem ok_back {f : Addr} {fd : FuncData} (F : Fun K "back_steps" "back_steps" sBack f fd) (mE : mg "enumerate" = none) (mS : mg "sorted" = none) (mR : mg "range" = none) (mN : mg "len" = none) : FnOk P w K mg base CX0 1 f fd ["rows", "place"] spBack := by
  refine F.ok scBack (fun vs H Q E h => ?_) (fun cdv A outer s H vs Q E hr h => ?_)
  · obtain ⟨_, _, _, _, _, _, rfl, _⟩ := h
    rfl
  · obtain ⟨v, xs, n, m, a, R, rfl, gv, hR, fm, ha, ln, k⟩ := h
    have nd := scBack.nd
    have sz : sizeLine = 16777216 := rfl
    refine ⟨_, C8.pss_cut (ps_set (i := 2) nd rfl (.inl rfl) (pe_callB cr_sortedP2 (by rfl) mS (by decide +kernel) (pa_cons (pe_lc (own := [("state", 6), ("row", 7)]) (g := gTup K 2 (gCons (gName 6) (gCons (gName 7) gNil))) (tt := tYes) rfl nd (pi_enum (by rfl) mE (pa_cons (pv 0) pa_nil)) (blkOk_by (N := nBack) (sc := defScope sBack) (by decide +kernel))
          (fun _ _ _ _ _ => pg_tup rfl (pgs_cons (pg_name (i := 6) nd rfl (Or.inl rfl)) (pgs_cons (pg_name (i := 7) nd rfl (Or.inl rfl)) pgs_nil))) (fun _ _ _ _ _ => pts_nil) (fun _ _ _ _ _ => pe_tup (pa_cons (pe_ix (ix_tupK (K := K) rfl) (pv 7) (pv 1) (fun _ _ => rfl)) (pa_cons (pv 6) pa_nil)))) pa_nil)))
      (C8.pss_cut (ps_setLc (i := 3) (own := [("_", 5)]) (g := gName 5) (tt := tYes) rfl nd rfl rfl (sw_true rfl rfl rfl (by decide +kernel)) (pi_range1 (by rfl) mR (pa_cons (pe_op op_add (pe_callB callLen (by rfl) mN PySem.boot_len (pa_cons (pv 0) pa_nil)) pe_int) pa_nil)) (blkOk_by (N := nBack) (sc := defScope sBack) (by decide +kernel)) (fun _ _ _ _ _ => pg_name (i := 5) nd rfl (Or.inl rfl)) (fun _ _ _ _ _ => pts_nil) (fun _ _ _ _ _ => pe_int))
      (C8.pss_cut (ps_for PassesOwn.never rfl (pi_list (pv 2)) (pg_tup rfl (pgs_cons (pg_name (i := 4) nd rfl (.inl rfl)) (pgs_cons (pg_name (i := 5) nd rfl (.inl rfl)) pgs_nil)))
        (pss_one (ps_asg (pe_op op_add (pe_ix ix_list (pv 3) (pe_op op_add (pv 4) pe_int) (fun _ _ => rfl)) pe_int) (pg_sub (pv 3) (pe_op op_add (pv 4) pe_int) set_list))))
      (C8.pss_cut (ps_for PassesOwn.never rfl (pi_range1 (by rfl) mR (pa_cons (pe_callB callLen (by rfl) mN PySem.boot_len (pa_cons (pv 0) pa_nil)) pa_nil)) (pg_name (i := 6) nd rfl (.inl rfl))
        (pss_one (ps_asg (pe_op op_add (pe_ix ix_list (pv 3) (pe_op op_add (pv 6) pe_int) (fun _ _ => rfl)) (pe_ix ix_list (pv 3) (pv 6) (fun _ _ => rfl))) (pg_sub (pv 3) (pe_op op_add (pv 6) pe_int) set_list))))
      (pss_one (ps_ret (pe_tup (pa_cons (pv 3) (pa_cons (pe_lc (own := [("_", 5), ("state", 6)]) (g := gTup K 2 (gCons (gName 5) (gCons (gName 6) gNil))) (tt := tYes) rfl nd (pi_list (pv 2)) (blkOk_by (N := nBack) (sc := defScope sBack) (by decide +kernel))
          (fun _ _ _ _ _ => pg_tup rfl (pgs_cons (pg_name (i := 5) nd rfl (Or.inl rfl)) (pgs_cons (pg_name (i := 6) nd rfl (Or.inl rfl)) pgs_nil))) (fun _ _ _ _ _ => pts_nil) (fun _ _ _ _ _ => pv 6)) pa_nil)))))))), ?_⟩
    have lx : xs.length = n := by rw [paired_lenM hR, fm.len]
    refine ⟨fun σ' H' => ∃ (L : Addr) (ys : List V) (qs : List (Nat × Nat)), σ' = [some (.ref v), some (.int (a : Nat)), some (.ref L), none, none, none, none, none] ∧ Same H H' ∧ H' L = some (.lst ys) ∧ Paired (PrT H') ys qs ∧ qs.Perm (stepsOf n R a) ∧ qs.Pairwise lexLe, ?_, ?_⟩
    · refine ⟨_, rfl, v, xs, rfl, SqL.of gv, fun C hC => ?_⟩
      refine lc_it (walk_enum (xs := xs)) (fun q Hq => Same H Hq ∧ ∃ zs, Hq C = some (.lst zs) ∧ zs.length = q ∧ Paired (PrT Hq) zs (stepsOf q R a)) ?_ ?_ ?_ ?_
      · exact ⟨(Same.refl H).upd hC, [], upd_same, rfl, .nil⟩
      · rintro q Hq _ ⟨sq, _⟩
        exact SqL.of (sq _ _ gv)
      · rintro q x Hq0 Hq hq ⟨sq, zs, cq, lz, pz⟩ ⟨T', p, y, rfl, hT, rfl, e1, e2⟩
        obtain rfl : V.int (q : Nat) = p := Option.some.inj e1
        obtain ⟨r, er, b, rfl, gb⟩ := paired_getM hR e2
        have hq' : q < n := by rw [← lx]; exact hq
        have nCT : C ≠ T' := ne_of_none cq hT
        have s2 : Same H (upd Hq0 T' (.tup [.int (q : Nat), .ref b])) := sq.upd (sq.none hT)
        have s2' : Same Hq0 (upd Hq0 T' (.tup [.int (q : Nat), .ref b])) := (Same.refl Hq0).upd hT
        refine ⟨T', _, rfl, SqT.of upd_same, rfl, _, _, rfl, _, _, rfl, rfl, rfl, ?_⟩
        generalize upd Hq0 T' (.tup [.int (q : Nat), .ref b]) = H2 at s2 s2' ⊢
        obtain ⟨er', _, gr⟩ := fm.rowOf hq'
        rw [er] at er'
        cases er'
        refine ⟨_, rfl, _, rfl, b, _, _, _, rfl, rfl, SqT.of (s2 _ _ gb), ints_at (gr a ha), _, rfl, (by show 2 ≤ sizeLine; decide), fun T hT2 => ?_⟩
        have s3 : Same H2 (upd H2 T (.tup [.int (nxt R q a : Nat), .int (q : Nat)])) := (Same.refl H2).upd hT2
        have g3 : upd H2 T (.tup [.int (nxt R q a : Nat), .int (q : Nat)]) T = some (.tup [.int (nxt R q a : Nat), .int (q : Nat)]) := upd_same
        generalize upd H2 T (.tup [.int (nxt R q a : Nat), .int (q : Nat)]) = H3 at s3 g3 ⊢
        have cq3 := (s2'.trans s3) _ _ cq
        refine ⟨zs, cq3, (by rw [lz, sz]; omega), (s2.trans s3).upd hC, zs ++ [.ref T], upd_same, (by rw [List.length_append, lz]; rfl), ?_⟩
        have : stepsOf (q + 1) R a = stepsOf q R a ++ [(nxt R q a, q)] := by
          unfold stepsOf
          rw [List.range_succ, List.map_append]
          rfl
        rw [this]
        refine paired_snoc (L2.Paired.mapP pz fun _ _ ⟨t, e, g⟩ => ⟨t, e, tups_lst cq3 _ _ ((s2'.trans s3) _ _ g)⟩) ⟨T, rfl, tups_lst cq3 _ _ g3⟩
      · rintro Hq ⟨sq, zs, cq, lz, pz⟩
        rw [lx] at pz
        refine ⟨C, zs, _, rfl, SqL.of cq, pz, fun ys qs L py hp hs hL => ?_⟩
        have s4 : Same Hq (upd Hq L (.lst ys)) := (Same.refl Hq).upd hL
        exact ⟨L, ys, qs, rfl, sq.trans s4, upd_same, L2.Paired.mapP py fun _ _ ⟨t, e, g⟩ => ⟨t, e, s4 _ _ g⟩, hp, hs⟩
    rintro σ' H1 ⟨L, ys, qs, rfl, s1, gL, py, hp, hs⟩
    have lz : qs.length = n := by
      have := hp.length_eq
      unfold stepsOf at this
      rw [List.length_map, List.length_range] at this
      exact this
    have ly : ys.length = qs.length := paired_lenM py
    have mq : ∀ {t s : Nat}, (t, s) ∈ qs → t < n := fun {t s} h => by
      have := hp.mem_iff.mp h
      unfold stepsOf at this
      obtain ⟨u, hu, e⟩ := List.mem_map.mp this
      cases e
      exact fm.nxt_lt (List.mem_range.mp hu) ha
    refine ⟨fun σ' H' => ∃ S : Addr, σ' = [some (.ref v), some (.int (a : Nat)), some (.ref L), some (.ref S), none, none, none, none] ∧ Same H1 H' ∧ H' S = some (.lst (vN' (fnL (n + 1) fun _ => 0))) ∧ H1 S = none, ?_, ?_⟩
    · refine ⟨_, rfl, _, xs.length, rfl, .inl ⟨_, SqL.of (s1 _ _ gv), rfl⟩, _, _, rfl, rfl, ((n + 1 : Nat) : Int), (by rw [lx]; rfl), (by omega), (by omega), fun C hC => ?_⟩
      refine lc_range (lo := 0) (n := n + 1) (fun q Hq => Same H1 Hq ∧ Hq C = some (.lst (vN' (fnL q fun _ => 0)))) ?_ ?_ ?_
      · exact ⟨(Same.refl H1).upd hC, upd_same⟩
      · rintro q Hq hq ⟨sq, cq⟩
        refine ⟨rfl, _, cq, (by rw [ints_len, fnL_len, sz]; omega), sq.upd hC, ?_⟩
        rw [upd_same, show V.int 0 = V.int ((0 : Nat) : Int) from rfl, nats_snoc]
        unfold fnL
        rw [List.range_succ, List.map_append]
        rfl
      · rintro Hq ⟨sq, cq⟩
        exact ⟨C, rfl, sq, cq, hC⟩
    rintro σ' H2 ⟨S, rfl, s2, gS, hS⟩
    have gv1 := s1 _ _ gv
    have nLS : L ≠ S := ne_of_none gL hS
    have at_ : ∀ {i t s : Nat}, qs[i]? = some (t, s) → t < n := fun e => mq (List.mem_of_getElem? e)
    refine ⟨fun σ' H' => ∃ o4 o5 : Option V, σ' = [some (.ref v), some (.int (a : Nat)), some (.ref L), some (.ref S), o4, o5, none, none] ∧ Same H1 H' ∧ H' S = some (.lst (vN' (fnL (n + 1) (cntF qs)))), ?_, ?_⟩
    · refine ⟨_, rfl, L, rfl, ⟨_, SqL.of (s2 _ _ gL)⟩, for_it (walk_list (xs := ys)) (fun q σ Hq => ∃ o4 o5 : Option V, σ = [some (.ref v), some (.int (a : Nat)), some (.ref L), some (.ref S), o4, o5, none, none] ∧ Same H1 Hq ∧ Hq S = some (.lst (vN' (fnL (n + 1) (cntF (qs.take q)))))) ?_ ?_ ?_ ?_⟩
      · refine ⟨none, none, rfl, s2, ?_⟩
        exact gS
      · rintro q σ Hq _ ⟨_, _, _, sq, _⟩
        exact SqL.of (sq _ _ gL)
      · rintro q x σ Hq0 Hq hq ⟨o4, o5, rfl, sq, wq⟩ ⟨rfl, hx⟩
        obtain ⟨p, ep, T, rfl, gT⟩ := paired_getM py hx
        have hp1 : p.1 < n := at_ ep
        have bq : ∀ t, cntF (qs.take q) t ≤ n := fun t => by
          have := List.length_filter_le (fun p : Nat × Nat => decide (p.1 + 1 = t)) (qs.take q)
          rw [List.length_take] at this
          unfold cntF
          omega
        have gc : (vN' (fnL (n + 1) (cntF (qs.take q))))[p.1 + 1]? = some (.int (cntF (qs.take q) (p.1 + 1) : Nat)) := by
          rw [List.getElem?_map, fnL_get (by omega)]
          rfl
        refine ⟨T, _, rfl, SqT.of (sq _ _ gT), rfl, _, _, rfl, _, _, rfl, rfl, _, rfl, _, rfl, _, _, rfl, rfl, S, _, ((p.1 + 1 : Nat) : Int), _, rfl, rfl, SqL.of wq, atI_nat gc, _, _, rfl, rfl, _, rfl, _, rfl, _, _, rfl, rfl, S, _, ((p.1 + 1 : Nat) : Int), p.1 + 1, rfl, rfl, wq, ?_, ?_⟩
        · rw [ints_len, fnL_len]
          exact ixN_of (by omega)
        · refine ⟨_, _, rfl, sq.upd hS, ?_⟩
          rw [upd_same]
          show some (HO.lst ((vN' _).set _ (V.int ((cntF (qs.take q) (p.1 + 1) + 1 : Nat) : Int)))) = _
          rw [ints_set, fnL_set]
          have : (fnL (n + 1) fun t => if t = p.1 + 1 then cntF (qs.take q) (p.1 + 1) + 1 else cntF (qs.take q) t) = fnL (n + 1) (cntF (qs.take (q + 1))) := fnL_congr fun t _ => by
            rw [take_snoc ep, cntF_snoc]
            by_cases e : t = p.1 + 1
            · rw [if_pos e, if_pos e, e]
            · rw [if_neg e, if_neg e]
          rw [this]
      · rintro σ Hq ⟨o4, o5, rfl, sq, wq⟩
        rw [ly, List.take_length] at wq
        exact ⟨o4, o5, rfl, sq, wq⟩
    rintro σ' H3 ⟨o4, o5, rfl, s3, g3⟩
    refine ⟨fun σ' H' => ∃ o6 : Option V, σ' = [some (.ref v), some (.int (a : Nat)), some (.ref L), some (.ref S), o4, o5, o6, none] ∧ Same H1 H' ∧ H' S = some (.lst (vN' (fnL (n + 1) (below qs)))), ?_, ?_⟩
    · refine ⟨_, rfl, _, xs.length, rfl, .inl ⟨_, SqL.of (s3 _ _ gv1), rfl⟩, ((n : Nat) : Int), (by rw [lx]), (by omega), (by omega), for_range (lo := 0) (n := n) (fun q σ Hq => ∃ o6 : Option V, σ = [some (.ref v), some (.int (a : Nat)), some (.ref L), some (.ref S), o4, o5, o6, none] ∧ Same H1 Hq ∧ Hq S = some (.lst (vN' (fnL (n + 1) fun t => if t ≤ q then below qs t else cntF qs t)))) ?_ ?_ ?_⟩
      · refine ⟨none, rfl, s3, ?_⟩
        rw [g3]
        have : fnL (n + 1) (cntF qs) = fnL (n + 1) fun t => if t ≤ 0 then below qs t else cntF qs t := fnL_congr fun t _ => by
          split
          · rw [show t = 0 by omega, (below_zero qs).1, (below_zero qs).2]
          · rfl
        rw [this]
      · rintro q σ Hq hq ⟨o6, rfl, sq, wq⟩
        have e0 : (0 : Int) + (q : Nat) = (q : Nat) := by omega
        rw [e0]
        have gc : (vN' (fnL (n + 1) fun t => if t ≤ q then below qs t else cntF qs t))[q + 1]? = some (.int (cntF qs (q + 1) : Nat)) := by
          rw [List.getElem?_map, fnL_get (by omega), if_neg (by omega)]
          rfl
        have gd : (vN' (fnL (n + 1) fun t => if t ≤ q then below qs t else cntF qs t))[q]? = some (.int (below qs q : Nat)) := by
          rw [List.getElem?_map, fnL_get (by omega), if_pos (by omega)]
          rfl
        refine ⟨_, rfl, _, rfl, _, _, rfl, rfl, S, _, ((q + 1 : Nat) : Int), _, rfl, rfl, SqL.of wq, atI_nat gc, _, rfl, _, rfl, S, _, _, _, rfl, rfl, SqL.of wq, atI_nat gd, _, _, rfl, rfl, _, rfl, _, rfl, _, _, rfl, rfl, S, _, ((q + 1 : Nat) : Int), q + 1, rfl, rfl, wq, ?_, ?_⟩
        · rw [ints_len, fnL_len]
          exact ixN_of (by omega)
        · refine ⟨_, rfl, sq.upd hS, ?_⟩
          rw [upd_same]
          show some (HO.lst ((vN' _).set _ (V.int ((cntF qs (q + 1) + below qs q : Nat) : Int)))) = _
          rw [ints_set, fnL_set, ← below_succ]
          have : (fnL (n + 1) fun t => if t = q + 1 then below qs (q + 1) else if t ≤ q then below qs t else cntF qs t) = fnL (n + 1) fun t => if t ≤ q + 1 then below qs t else cntF qs t := fnL_congr fun t _ => by
            by_cases e : t = q + 1
            · rw [if_pos e, if_pos (by omega), e]
            · rw [if_neg e]
              by_cases l : t ≤ q
              · rw [if_pos l, if_pos (by omega)]
              · rw [if_neg l, if_neg (by omega)]
          rw [this]
      · rintro σ Hq ⟨o6, rfl, sq, wq⟩
        refine ⟨o6, rfl, sq, ?_⟩
        rw [wq]
        have : (fnL (n + 1) fun t => if t ≤ n then below qs t else cntF qs t) = fnL (n + 1) (below qs) := fnL_congr fun t ht => by
          rw [if_pos (by omega)]
        rw [this]
    rintro σ' H4 ⟨o6, rfl, s4, g4⟩
    refine ⟨_, rfl, _, rfl, L, rfl, ⟨_, SqL.of (s4 _ _ gL)⟩, fun C hC => ?_⟩
    refine lc_it (walk_list (xs := ys)) (fun q Hq => Same H4 Hq ∧ Hq C = some (.lst (vN' ((qs.take q).map (·.2))))) ?_ ?_ ?_ ?_
    · exact ⟨(Same.refl H4).upd hC, upd_same⟩
    · rintro q Hq _ ⟨sq, _⟩
      exact SqL.of (sq _ _ (s4 _ _ gL))
    · rintro q x Hq0 Hq hq ⟨sq, cq⟩ ⟨rfl, hx⟩
      obtain ⟨p, ep, T, rfl, gT⟩ := paired_getM py hx
      refine ⟨T, _, rfl, SqT.of (sq _ _ (s4 _ _ gT)), rfl, _, _, rfl, _, _, rfl, rfl, rfl, _, rfl, _, cq, (by rw [ints_len, List.length_map, List.length_take, sz]; omega), sq.upd hC, ?_⟩
      rw [upd_same, take_snoc ep, List.map_append, nats_snoc]
      rfl
    · rintro Hq ⟨sq, cq⟩
      rw [ly, List.take_length] at cq
      refine ⟨by show 2 ≤ sizeLine; decide, fun T hT => ?_⟩
      have s5 : Same Hq (upd Hq T (.tup [.ref S, .ref C])) := (Same.refl Hq).upd hT
      exact k _ _ (((s1.trans s4).trans sq).trans s5) ⟨T, S, C, below qs, qs.map (·.2), rfl, upd_same, s5 _ _ (sq _ _ g4), s5 _ _ cq, by rw [List.length_map, lz], back_of hp hs⟩
end
end K11
namespace K11
open PySem PySem.Spec PyProof.Rows L2 FL
theorem sl_listK {X : Cx} {K : PySem.W.Frag} (hK : X.K = K) : SlR X (rSlL K) := by
  subst hK
  exact sl_list
theorem cutV_nat {xs : List V} {a b : Nat} (h1 : a ≤ b) (h2 : b ≤ xs.length) : cutV xs (some ((a : Nat) : Int)) (some ((b : Nat) : Int)) = (xs.drop a).take (b - a) := by
  show (xs.drop (HT.sIx xs.length 0 (some ((a : Nat) : Int)))).take (HT.sIx xs.length xs.length (some ((b : Nat) : Int)) - HT.sIx xs.length 0 (some ((a : Nat) : Int))) = _
  rw [HT.sIx_nat, HT.sIx_nat, Nat.min_eq_left h2, Nat.min_eq_left (Nat.le_trans h1 h2)]
theorem cutV_from {xs : List V} {a : Nat} (h1 : a ≤ xs.length ∨ a ≤ 1) : cutV xs (some ((a : Nat) : Int)) none = xs.drop a := by
  show (xs.drop (HT.sIx xs.length 0 (some ((a : Nat) : Int)))).take (HT.sIx xs.length xs.length none - HT.sIx xs.length 0 (some ((a : Nat) : Int))) = _
  rw [HT.sIx_nat, HT.sIx_none]
  by_cases c : a ≤ xs.length
  · rw [Nat.min_eq_left c]
    exact List.take_of_length_le (by rw [List.length_drop]; exact Nat.le_refl _)
  · have : xs.length = 0 := by omega
    rw [List.length_eq_zero_iff.mp this]
    simp
theorem ints_drop (ns : List Nat) (i : Nat) : (vN' ns).drop i = vN' (ns.drop i) := by
  show (ns.map _).drop i = (ns.drop i).map _
  rw [List.map_drop]
theorem ints_take (ns : List Nat) (i : Nat) : (vN' ns).take i = vN' (ns.take i) := by
  show (ns.map _).take i = (ns.take i).map _
  rw [List.map_take]
theorem ints_app (ns ms : List Nat) : vN' ns ++ vN' ms = vN' (ns ++ ms) := by
  show ns.map _ ++ ms.map _ = (ns ++ ms).map _
  rw [List.map_append]
theorem paired_dropM {σ τ : Type} {R : σ → τ → Prop} : ∀ (k : Nat) {as : List σ} {bs : List τ}, Paired R as bs → Paired R (as.drop k) (bs.drop k)
  | 0, _, _, h => h
  | k + 1, _, _, .nil => .nil
  | k + 1, _, _, .cons _ b => paired_dropM k b
theorem paired_takeM {σ τ : Type} {R : σ → τ → Prop} : ∀ (k : Nat) {as : List σ} {bs : List τ}, Paired R as bs → Paired R (as.take k) (bs.take k)
  | 0, _, _, _ => .nil
  | k + 1, _, _, .nil => .nil
  | k + 1, _, _, .cons a b => .cons a (paired_takeM k b)
abbrev sLeading : Stmt := topS 33
abbrev nLeading : List Str := ["splitter", "back", "where", "starts", "sources", "leading", "ranked", "cuts", "state", "source", "at", "pair", "low", "high"]
theorem scLeading : FnScope nLeading ["splitter", "back", "where"] (defScope sLeading) := ⟨rfl, rfl, rfl, by decide +kernel, rfl, by decide +kernel, by decide +kernel⟩
/-- new lists of numbers -/
def NewB (H0 H : Hp) (x : V) (B : List Nat) : Prop := ∃ a : Addr, x = .ref a ∧ H0 a = none ∧ H a = some (.lst (vN' B))
def spLeading : Sp := fun vs H Q _ => ∃ (sp wr : Addr) (bk : V) (C : List Nat) (n a : Nat) (R : Rws) (wh : Nat → Nat), vs = [.ref sp, bk, .ref wr] ∧ H sp = some (.lst (vN' C)) ∧ C.Nodup ∧ (∀ s ∈ C, s < n) ∧ BackAt H bk n R a ∧ H wr = some (.lst (vN' (fnL n wh))) ∧ n ≤ 1000000 ∧
  ∀ (L : Addr) (xs : List V) (parts : List (List Nat)) (ids : List Nat) (H' : Hp), Same H H' → H L = none → H' L = some (.lst xs) → Paired (NewB H H') xs parts → Paired (PartIs n R wh C a) ids parts → ids.Nodup → (∀ s, s < n → nxt R s a ∈ C → ∃ part ∈ parts, s ∈ part) → Q (.ref L) H'
section
variable {P : Program} {w : World} {K : PySem.W.Frag} {mg : Str → Option Value} {base : Heap}
theorem ok_leading {f : Addr} {fd : FuncData} (F : Fun K "parts_leading" "parts_leading" sLeading f fd) (mZ : mg "zip" = none) (mS : mg "sorted" = none) (mR : mg "range" = none) (mN : mg "len" = none) : FnOk P w K mg base CX0 1 f fd ["splitter", "back", "where"] spLeading := by
  refine F.ok scLeading (fun vs H Q E h => ?_) (fun cdv A outer s H vs Q E hr h => ?_)
  · obtain ⟨_, _, _, _, _, _, _, _, rfl, _⟩ := h
    rfl
  · obtain ⟨sp, wr, bk, C, n, a, R, wh, rfl, gC, nC, lC, hB, gW, ln, k⟩ := h
    have nd := scLeading.nd
    have sz : sizeLine = 16777216 := rfl
    have hu : (A.deeper (envOfC "parts_leading" (defScope sLeading) s.heap.objs.size f cdv)).units + 1 < cLine := by have := hr.un; omega
    refine ⟨_, pss_cons (ps_asg (pv 1) (pg_tup rfl (pgs_cons (pg_name (i := 3) nd rfl (.inr rfl)) (pgs_cons (pg_name (i := 4) nd rfl (.inr rfl)) pgs_nil))))
      (C8.pss_cut (ps_setLc2 (i := 5) (own := [("state", 8), ("source", 9)]) (vs1 := [9]) (g := gName 8) (g1 := gName 9) (tt := tYes) (tt1 := tYes) rfl nd rfl rfl (sw_true rfl rfl rfl (by decide +kernel)) (pi_list (pv 0)) (blkOk_by (N := nLeading) (sc := defScope sLeading) (by decide +kernel)) (by decide) (fun _ _ _ _ _ => pg_name (i := 8) nd rfl (Or.inl rfl)) (fun _ _ _ _ _ => pts_nil)
        (fun _ _ _ _ _ => pi_listK (K := K) rfl (pe_slice (sl_listK (K := K) rfl) (pv 4) (po_some (pe_ix (ix_listK (K := K) rfl) (pv 3) (pv 8) (fun _ _ => rfl))) (po_some (pe_ix (ix_listK (K := K) rfl) (pv 3) (pe_op op_add (pv 8) pe_int) (fun _ _ => rfl))))) (fun _ _ _ _ _ => pg_name (i := 9) nd rfl (Or.inl rfl)) (fun _ _ _ _ _ => pts_nil) (fun _ _ _ _ _ => pv 9))
      (C8.pss_cut (ps_set (i := 6) nd rfl (.inr rfl) (pe_callB cr_sortedP2 (by rfl) mS (by decide +kernel) (pa_cons (pe_lc (own := [("source", 9)]) (g := gName 9) (tt := tYes) rfl nd (pi_list (pv 5)) (blkOk_by (N := nLeading) (sc := defScope sLeading) (by decide +kernel))
          (fun _ _ _ _ _ => pg_name (i := 9) nd rfl (Or.inl rfl)) (fun _ _ _ _ _ => pts_nil) (fun _ _ _ _ _ => pe_tup (pa_cons (pe_ix (ix_listK (K := K) rfl) (pv 2) (pv 9) (fun _ _ => rfl)) (pa_cons (pv 9) pa_nil)))) pa_nil)))
      (C8.pss_cut (ps_setLc (i := 7) (own := [("at", 10)]) (g := gName 10) rfl nd rfl rfl (sw_true rfl rfl rfl (by decide +kernel)) (pi_range1 (by rfl) mR (pa_cons (pe_callB callLen (by rfl) mN PySem.boot_len (pa_cons (pv 6) pa_nil)) pa_nil)) (blkOk_by (N := nLeading) (sc := defScope sLeading) (by decide +kernel)) (fun _ _ _ _ _ => pg_name (i := 10) nd rfl (Or.inl rfl))
        (fun _ _ _ _ _ => pts_one (PW.pt (pw_or (pt_cmpR op_eq (pv 10) pe_int (nomark _)) (pw_or1 (pt_cmpR op_ne (pe_ix (ix_tupK (K := K) rfl) (pe_ix (ix_listK (K := K) rfl) (pv 6) (pv 10) (fun _ _ => rfl)) pe_int (fun _ _ => rfl)) (pe_ix (ix_tupK (K := K) rfl) (pe_ix (ix_listK (K := K) rfl) (pv 6) (pe_op op_sub (pv 10) pe_int) (fun _ _ => rfl)) pe_int (fun _ _ => rfl)) (nomark _)))))) (fun _ _ _ _ _ => pv 10))
      (pss_one (ps_ret (pe_lc (own := [("low", 12), ("high", 13)]) (g := gTup K 2 (gCons (gName 12) (gCons (gName 13) gNil))) (tt := tYes) (te := tLc (iList K (tSl (rSlL K) (tVar 6) (tPart (tVar 12)) (tPart (tVar 13)))) (gName 11) tYes (tOp (rIxT K) (tVar 11) (tC (V.int 1))) [11]) rfl nd
        (pi_zip (by rfl) mZ (pa_cons (pv 7) (pa_cons (pe_op op_cat (pe_slice sl_list (pv 7) (po_some pe_int) po_none) (pe_lst (pa_cons (pe_callB callLen (by rfl) mN PySem.boot_len (pa_cons (pv 6) pa_nil)) pa_nil))) pa_nil))) (blkOk_by (N := nLeading) (sc := defScope sLeading) (by decide +kernel))
        (fun _ _ _ _ _ => pg_tup rfl (pgs_cons (pg_name (i := 12) nd rfl (Or.inl rfl)) (pgs_cons (pg_name (i := 13) nd rfl (Or.inl rfl)) pgs_nil))) (fun _ _ _ _ _ => pts_nil)
        (fun _ _ _ _ _ => pe_lc (own := [("pair", 11)]) (g := gName 11) (tt := tYes) rfl nd (pi_listK (K := K) rfl (pe_slice (sl_listK (K := K) rfl) (pv 6) (po_some (pv 12)) (po_some (pv 13)))) (blkOk_by (by kernel_rfl)) (fun _ _ _ _ _ => pg_name (i := 11) nd rfl (Or.inl rfl)) (fun _ _ _ _ _ => pts_nil)
          (fun _ _ _ _ _ => pe_ix (ix_tupK (K := K) rfl) (pv 11) pe_int (fun _ _ => rfl))))))))), ?_⟩
    obtain ⟨T, S, U, st, src, rfl, gT, gS, gU, lsrc, bi⟩ := hB
    obtain ⟨nL, mL⟩ := lead_are bi nC lC
    have fL := lead_few bi nC lC
    have preL : ∀ q, (leadOf st src (C.take q)).length ≤ n := fun q => by
      have : leadOf st src C = leadOf st src (C.take q) ++ leadOf st src (C.drop q) := by
        unfold leadOf
        rw [← List.flatMap_append, List.take_append_drop]
      have := congrArg List.length this
      rw [List.length_append] at this
      omega
    have preL1 : ∀ {q t : Nat}, C[q]? = some t → leadOf st src (C.take (q + 1)) = leadOf st src (C.take q) ++ (src.drop (st t)).take (st (t + 1) - st t) := fun {q t} e => by
      unfold leadOf
      rw [take_snoc e, List.flatMap_append]
      simp
    refine ⟨_, rfl, T, _, rfl, SqT.of gT, rfl, _, _, rfl, _, _, rfl, rfl, ?_⟩
    refine ⟨fun σ' H' => ∃ D : Addr, σ' = [some (.ref sp), some (.ref T), some (.ref wr), some (.ref S), some (.ref U), some (.ref D), none, none, none, none, none, none, none, none] ∧ Same H H' ∧ H' D = some (.lst (vN' (leadOf st src C))), ?_, ?_⟩
    · refine ⟨_, rfl, sp, rfl, ⟨_, SqL.of gC⟩, fun D hD => ?_⟩
      refine it_gen (walk_list (xs := vN' C)) (fun q Hq => Same H Hq ∧ Hq D = some (.lst (vN' (leadOf st src (C.take q))))) ?_ ?_ ?_ ?_
      · exact ⟨(Same.refl H).upd hD, upd_same⟩
      · rintro q Hq _ ⟨sq, _⟩
        exact SqL.of (sq _ _ gC)
      · rintro q x Hq0 Hq hq ⟨sq, cq⟩ ⟨rfl, hx⟩
        obtain ⟨t, ht, rfl⟩ := ints_get hx
        have lt := lC t (List.mem_of_getElem? ht)
        obtain ⟨s1, s2⟩ := bi.sl t lt
        have g1 : (vN' (fnL (n + 1) st))[t]? = some (.int (st t : Nat)) := by
          rw [List.getElem?_map, fnL_get (by omega)]
          rfl
        have g2 : (vN' (fnL (n + 1) st))[t + 1]? = some (.int (st (t + 1) : Nat)) := by
          rw [List.getElem?_map, fnL_get (by omega)]
          rfl
        refine ⟨rfl, _, rfl, _, rfl, _, rfl, S, _, _, _, rfl, rfl, SqL.of (sq _ _ gS), atI_nat g1, _, rfl, _, rfl, _, rfl, _, _, rfl, rfl, S, _, ((t + 1 : Nat) : Int), _, rfl, rfl, SqL.of (sq _ _ gS), atI_nat g2, _, rfl, U, _, rfl, SqL.of (sq _ _ gU), fun p hp => ?_⟩
        rw [cutV_nat s1 (by rw [ints_len]; exact s2), ints_drop, ints_take]
        have sp1 : Same Hq (upd Hq p (.lst (vN' ((src.drop (st t)).take (st (t + 1) - st t))))) := (Same.refl Hq).upd hp
        have gp : upd Hq p (.lst (vN' ((src.drop (st t)).take (st (t + 1) - st t)))) p = some (.lst (vN' ((src.drop (st t)).take (st (t + 1) - st t)))) := upd_same
        generalize upd Hq p (.lst (vN' ((src.drop (st t)).take (st (t + 1) - st t)))) = Hp1 at sp1 gp ⊢
        have pl := preL (q + 1)
        rw [preL1 ht, List.length_append] at pl
        have eL := preL1 ht
        generalize (src.drop (st t)).take (st (t + 1) - st t) = B at gp pl eL ⊢
        have npD : p ≠ D := fun e => by rw [e, cq] at hp; cases hp
        refine ⟨p, rfl, ⟨_, SqL.of gp⟩, ?_⟩
        refine it_gen (walk_list (xs := vN' B)) (fun j Hj => Same H Hj ∧ Hj p = some (.lst (vN' B)) ∧ Hj D = some (.lst (vN' (leadOf st src (C.take q) ++ B.take j)))) ⟨sq.trans sp1, gp, ?_⟩ ?_ ?_ ?_
        · show Hp1 D = some (.lst (vN' (_ ++ [])))
          rw [List.append_nil]
          exact sp1 _ _ cq
        · rintro j Hj _ ⟨sj, pj, _⟩
          exact SqL.of pj
        · rintro j y Hj0 Hj hj ⟨sj, pj, cj⟩ ⟨rfl, hy⟩
          obtain ⟨u, hu', rfl⟩ := ints_get hy
          have hj' : j < B.length := by rw [← ints_len B]; exact hj
          refine ⟨rfl, _, rfl, _, cj, (by rw [ints_len, List.length_append, List.length_take, sz]; omega), sj.upd hD, by rw [upd_ne npD]; exact pj, ?_⟩
          rw [upd_same, nats_snoc, take_snoc hu', List.append_assoc]
        · rintro Hj ⟨sj, pj, cj⟩
          rw [ints_len, List.take_length] at cj
          refine ⟨sj, ?_⟩
          rw [cj, eL]
      · rintro Hq ⟨sq, cq⟩
        rw [ints_len, List.take_length] at cq
        exact ⟨D, rfl, sq, cq⟩
    rintro σ' H1 ⟨D, rfl, s1, gD⟩
    generalize hlead : leadOf st src C = lead at nL mL fL gD
    clear preL preL1
    refine ⟨fun σ' H' => ∃ (L : Addr) (ys : List V) (qs : List (Nat × Nat)), σ' = [some (.ref sp), some (.ref T), some (.ref wr), some (.ref S), some (.ref U), some (.ref D), some (.ref L), none, none, none, none, none, none, none] ∧ Same H1 H' ∧ H' L = some (.lst ys) ∧ Paired (PrT H') ys qs ∧ qs.Perm (lead.map fun s => (wh s, s)) ∧ qs.Pairwise lexLe, ?_, ?_⟩
    · refine ⟨_, rfl, D, rfl, ⟨_, SqL.of gD⟩, fun C' hC' => ?_⟩
      refine lc_it (walk_list (xs := vN' lead)) (fun q Hq => Same H1 Hq ∧ ∃ zs, Hq C' = some (.lst zs) ∧ zs.length = q ∧ Paired (PrT Hq) zs ((lead.take q).map fun s => (wh s, s))) ?_ ?_ ?_ ?_
      · exact ⟨(Same.refl H1).upd hC', [], upd_same, rfl, .nil⟩
      · rintro q Hq _ ⟨sq, _⟩
        exact SqL.of (sq _ _ gD)
      · rintro q x Hq0 Hq hq ⟨sq, zs, cq, lz, pz⟩ ⟨rfl, hx⟩
        obtain ⟨u, hu', rfl⟩ := ints_get hx
        have lu := ((mL u).mp (List.mem_of_getElem? hu')).1
        have gw : (vN' (fnL n wh))[u]? = some (.int (wh u : Nat)) := by
          rw [List.getElem?_map, fnL_get lu]
          rfl
        have lq : q < lead.length := by rw [← ints_len lead]; exact hq
        refine ⟨rfl, _, rfl, _, rfl, wr, _, _, _, rfl, rfl, SqL.of ((s1.trans sq) _ _ gW), atI_nat gw, _, rfl, (by show 2 ≤ sizeLine; decide), fun T2 hT2 => ?_⟩
        have s3 : Same Hq (upd Hq T2 (.tup [.int (wh u : Nat), .int (u : Nat)])) := (Same.refl Hq).upd hT2
        have g3 : upd Hq T2 (.tup [.int (wh u : Nat), .int (u : Nat)]) T2 = some (.tup [.int (wh u : Nat), .int (u : Nat)]) := upd_same
        generalize upd Hq T2 (.tup [.int (wh u : Nat), .int (u : Nat)]) = H3 at s3 g3 ⊢
        have cq3 := s3 _ _ cq
        refine ⟨zs, cq3, (by rw [lz, sz]; omega), (sq.trans s3).upd hC', zs ++ [.ref T2], upd_same, (by rw [List.length_append, lz]; rfl), ?_⟩
        rw [take_snoc hu', List.map_append]
        refine paired_snoc (L2.Paired.mapP pz fun _ _ ⟨t, e, g⟩ => ⟨t, e, tups_lst cq3 _ _ (s3 _ _ g)⟩) ⟨T2, rfl, tups_lst cq3 _ _ g3⟩
      · rintro Hq ⟨sq, zs, cq, lz, pz⟩
        rw [ints_len, List.take_length] at pz
        refine ⟨C', zs, _, rfl, SqL.of cq, pz, fun ys qs L py hp hs hL => ?_⟩
        have s4 : Same Hq (upd Hq L (.lst ys)) := (Same.refl Hq).upd hL
        exact ⟨L, ys, qs, rfl, sq.trans s4, upd_same, L2.Paired.mapP py fun _ _ ⟨t, e, g⟩ => ⟨t, e, s4 _ _ g⟩, hp, hs⟩
    rintro σ' H2 ⟨L, ys, qs, rfl, s2, gL, py, hp, hs⟩
    have sH2 := s1.trans s2
    have ly : ys.length = qs.length := paired_lenM py
    have lq : qs.length ≤ n := by
      have := hp.length_eq
      rw [List.length_map] at this
      omega
    have at_ : ∀ {i : Nat}, i < qs.length → ∃ (T1 : Addr) (j : Nat), ys[i]? = some (.ref T1) ∧ H2 T1 = some (.tup [.int (keyC qs i : Nat), .int (j : Nat)]) ∧ qs[i]? = some (keyC qs i, j) := fun {i} hi => by
      obtain ⟨x, ex, T1, rfl, g⟩ := paired_getR py (List.getElem?_eq_getElem hi)
      have ek := keyC_of (List.getElem?_eq_getElem hi)
      exact ⟨T1, _, ex, by rw [ek]; exact g, by rw [ek]; exact List.getElem?_eq_getElem hi⟩
    refine ⟨fun σ' H' => ∃ Cu : Addr, σ' = [some (.ref sp), some (.ref T), some (.ref wr), some (.ref S), some (.ref U), some (.ref D), some (.ref L), some (.ref Cu), none, none, none, none, none, none] ∧ Same H2 H' ∧ H' Cu = some (.lst (vN' (cutsOf qs))), ?_, ?_⟩
    · refine ⟨_, rfl, _, ys.length, rfl, .inl ⟨_, SqL.of gL, rfl⟩, ((qs.length : Nat) : Int), (by rw [ly]), (by omega), (by omega), fun Cu hCu => ?_⟩
      refine lc_range (lo := 0) (n := qs.length) (fun q Hq => Same H2 Hq ∧ Hq Cu = some (.lst (vN' ((List.range q).filter (isCut qs))))) ?_ ?_ ?_
      · exact ⟨(Same.refl H2).upd hCu, upd_same⟩
      · rintro q Hq hq ⟨sq, cq⟩
        have e0 : (0 : Int) + (q : Nat) = (q : Nat) := by omega
        rw [e0]
        have er : (List.range (q + 1)).filter (isCut qs) = (List.range q).filter (isCut qs) ++ if isCut qs q = true then [q] else [] := by
          rw [List.range_succ, List.filter_append, List.filter_cons]
          rfl
        have bd : (vN' ((List.range q).filter (isCut qs))).length < sizeLine := by
          have := List.length_filter_le (isCut qs) (List.range q)
          rw [List.length_range] at this
          rw [ints_len, sz]
          omega
        refine ⟨rfl, _, rfl, rfl, _, rfl, ?_⟩
        match q, hq with
        | 0, hq =>
          refine ite2 (fun _ => ?_) (fun h => absurd h (by decide))
          refine iteT ?_
          refine ⟨_, rfl, _, cq, bd, sq.upd hCu, ?_⟩
          rw [upd_same]
          rfl
        | r + 1, hq =>
          refine ite2 (fun h => absurd (of_decide_eq_true h) (fun z => by have := V.int.inj z; omega)) (fun _ => ?_)
          obtain ⟨T1, j1, e1, g1, _⟩ := at_ hq
          obtain ⟨T2, j2, e2, g2, _⟩ := at_ (show r < qs.length by omega)
          refine ⟨_, rfl, _, rfl, L, _, _, _, rfl, rfl, SqL.of (sq _ _ gL), atI_nat e1, T1, _, ((0 : Nat) : Int), _, rfl, rfl, SqT.of (sq _ _ g1), rfl, _, rfl, _, rfl, _, _, rfl, rfl, L, _, ((r : Nat) : Int), _, rfl, (by show V.int _ = _; congr 1; omega), SqL.of (sq _ _ gL), atI_nat e2, T2, _, ((0 : Nat) : Int), _, rfl, rfl, SqT.of (sq _ _ g2), rfl, rfl, _, rfl, ?_⟩
          have ec : isCut qs (r + 1) = !decide (V.int (keyC qs (r + 1) : Nat) = V.int (keyC qs r : Nat)) := by
            unfold isCut
            rw [decide_eq_false (show ¬ r + 1 = 0 by omega), Bool.false_or, Nat.add_sub_cancel]
            congr 1
            refine decide_eq_decide.mpr ⟨fun h => by rw [h], fun h => by have := V.int.inj h; omega⟩
          rw [← ec]
          cases c : isCut qs (r + 1) with
          | true =>
            refine iteT ?_
            refine ⟨_, rfl, _, cq, bd, sq.upd hCu, ?_⟩
            rw [upd_same, er, c, if_pos rfl, nats_snoc]
          | false =>
            refine iteF ?_
            refine ⟨sq, ?_⟩
            rw [er, c, if_neg (by decide), List.append_nil]
            exact cq
      · rintro Hq ⟨sq, cq⟩
        exact ⟨Cu, rfl, sq, cq⟩
    rintro σ' H3 ⟨Cu, rfl, s3, gCu⟩
    have gL3 := s3 _ _ gL
    have lcu : (cutsOf qs).length ≤ qs.length := by
      have := List.length_filter_le (isCut qs) (List.range qs.length)
      rw [List.length_range] at this
      exact this
    refine ⟨_, rfl, _, rfl, _, rfl, Cu, _, rfl, SqL.of gCu, fun p1 hp1 => ?_⟩
    rw [show cutV (vN' (cutsOf qs)) (some 1) none = vN' ((cutsOf qs).drop 1) from (cutV_from (a := 1) (.inr (Nat.le_refl _))).trans (ints_drop _ _)]
    have sp1 : Same H3 (upd H3 p1 (.lst (vN' ((cutsOf qs).drop 1)))) := (Same.refl H3).upd hp1
    have gp1 : upd H3 p1 (.lst (vN' ((cutsOf qs).drop 1))) p1 = some (.lst (vN' ((cutsOf qs).drop 1))) := upd_same
    generalize upd H3 p1 (.lst (vN' ((cutsOf qs).drop 1))) = H4 at sp1 gp1 ⊢
    refine ⟨_, rfl, _, ys.length, rfl, .inl ⟨_, SqL.of (sp1 _ _ gL3), rfl⟩, (by show 1 ≤ sizeLine; decide), fun p2 hp2 => ?_⟩
    have sp2 : Same H4 (upd H4 p2 (.lst [.int (ys.length : Nat)])) := (Same.refl H4).upd hp2
    have gp2 : upd H4 p2 (.lst [.int (ys.length : Nat)]) p2 = some (.lst (vN' [qs.length])) := by
      rw [upd_same, ly]
      rfl
    generalize upd H4 p2 (.lst [.int (ys.length : Nat)]) = H5 at sp2 gp2 ⊢
    refine ⟨p1, p2, _, _, rfl, rfl, sp2 _ _ gp1, gp2, (by rw [ints_len, ints_len, List.length_drop, sz]; show _ + 1 ≤ _; omega), fun p3 hp3 => ?_⟩
    rw [ints_app]
    have sp3 : Same H5 (upd H5 p3 (.lst (vN' ((cutsOf qs).drop 1 ++ [qs.length])))) := (Same.refl H5).upd hp3
    have gp3 : upd H5 p3 (.lst (vN' ((cutsOf qs).drop 1 ++ [qs.length]))) p3 = some (.lst (vN' ((cutsOf qs).drop 1 ++ [qs.length]))) := upd_same
    generalize upd H5 p3 (.lst (vN' ((cutsOf qs).drop 1 ++ [qs.length]))) = H6 at sp3 gp3 ⊢
    have s36 := (sp1.trans sp2).trans sp3
    have nxt_ : ∀ q, q < (cutsOf qs).length → ((cutsOf qs).drop 1 ++ [qs.length])[q]? = some (cutAt qs (q + 1)) := fun q h => by
      by_cases c : q + 1 < (cutsOf qs).length
      · rw [List.getElem?_append_left (by rw [List.length_drop]; omega), List.getElem?_drop, Nat.add_comm]
        exact (cutAt_mem c).2.2
      · rw [List.getElem?_append_right (by rw [List.length_drop]; omega), List.length_drop, show q - ((cutsOf qs).length - 1) = 0 by omega, cut_end (j := q + 1) (by omega)]
        rfl
    have lmin : (cutsOf qs).length = min (vN' (cutsOf qs)).length (vN' ((cutsOf qs).drop 1 ++ [qs.length])).length := by
      rw [ints_len, ints_len, List.length_append, List.length_drop]
      show _ = min _ (_ + 1)
      omega
    refine ⟨Cu, p3, _, _, rfl, SqL.of (s36 _ _ gCu), SqL.of gp3, fun Rs hRs => ?_⟩
    have hRs' : H Rs = none := ((sH2.trans s3).trans s36).none hRs
    refine lc_it (walk_zip lmin) (fun q Hq => Same H6 Hq ∧ ∃ zs, Hq Rs = some (.lst zs) ∧ zs.length = q ∧ Paired (fun x B => NewB H Hq x B ∧ x ≠ .ref Rs) zs ((List.range q).map (partOf qs))) ?_ ?_ ?_ ?_
    · exact ⟨(Same.refl H6).upd hRs, [], upd_same, rfl, .nil⟩
    · rintro q Hq _ ⟨sq, _⟩
      exact ⟨SqL.of (sq _ _ (s36 _ _ gCu)), SqL.of (sq _ _ gp3)⟩
    · rintro q x Hq0 Hq hq ⟨sq, zs, cq, lz, pz⟩ ⟨T', p, y, rfl, hT, rfl, e1, e2⟩
      obtain ⟨lo, elo, rfl⟩ := ints_get e1
      obtain ⟨hi, ehi, rfl⟩ := ints_get e2
      obtain ⟨m1, m2, m3⟩ := cutAt_mem hq
      rw [elo] at m3
      cases m3
      rw [nxt_ q hq] at ehi
      cases ehi
      have llh := cutAt_lt (qs := qs) (Nat.lt_add_one q) hq
      have lhi := cutAt_le (qs := qs) (j := q + 1)
      have s7 : Same H6 (upd Hq0 T' (.tup [.int (cutAt qs q : Nat), .int (cutAt qs (q + 1) : Nat)])) := sq.upd (sq.none hT)
      have s7' : Same Hq0 (upd Hq0 T' (.tup [.int (cutAt qs q : Nat), .int (cutAt qs (q + 1) : Nat)])) := (Same.refl Hq0).upd hT
      refine ⟨T', _, rfl, SqT.of upd_same, rfl, _, _, rfl, _, _, rfl, rfl, rfl, ?_⟩
      generalize upd Hq0 T' (.tup [.int (cutAt qs q : Nat), .int (cutAt qs (q + 1) : Nat)]) = H7 at s7 s7' ⊢
      refine ⟨_, rfl, _, rfl, _, rfl, _, rfl, _, rfl, L, _, rfl, SqL.of ((s36.trans s7) _ _ gL3), fun p hp0 => ?_⟩
      rw [cutV_nat (Nat.le_of_lt llh) (by rw [ly]; exact lhi)]
      have psl : Paired (PrT H2) ((ys.drop (cutAt qs q)).take (cutAt qs (q + 1) - cutAt qs q)) ((qs.drop (cutAt qs q)).take (cutAt qs (q + 1) - cutAt qs q)) := paired_takeM _ (paired_dropM _ py)
      have epart : ((qs.drop (cutAt qs q)).take (cutAt qs (q + 1) - cutAt qs q)).map (·.2) = partOf qs q := rfl
      have lps : ((qs.drop (cutAt qs q)).take (cutAt qs (q + 1) - cutAt qs q)).length ≤ n := by
        rw [List.length_take, List.length_drop]
        omega
      generalize (qs.drop (cutAt qs q)).take (cutAt qs (q + 1) - cutAt qs q) = ps at psl epart lps
      generalize (ys.drop (cutAt qs q)).take (cutAt qs (q + 1) - cutAt qs q) = sl at psl ⊢
      have s8 : Same H7 (upd H7 p (.lst sl)) := (Same.refl H7).upd hp0
      have gp : upd H7 p (.lst sl) p = some (.lst sl) := upd_same
      generalize upd H7 p (.lst sl) = H8 at s8 gp ⊢
      have lsl := paired_lenM psl
      have s28 := ((s3.trans s36).trans s7).trans s8
      refine ⟨p, rfl, ⟨_, SqL.of gp⟩, fun C2 hC2 => ?_⟩
      refine lc_it (walk_list (xs := sl)) (fun j Hj => Same H8 Hj ∧ Hj C2 = some (.lst (vN' ((ps.take j).map (·.2))))) ?_ ?_ ?_ ?_
      · exact ⟨(Same.refl H8).upd hC2, upd_same⟩
      · rintro j Hj _ ⟨sj, _⟩
        exact SqL.of (sj _ _ gp)
      · rintro j z Hj0 Hj hj ⟨sj, cj⟩ ⟨rfl, hz⟩
        obtain ⟨pr, ep, T2, rfl, g2⟩ := paired_getM psl hz
        refine ⟨rfl, _, rfl, T2, _, ((1 : Nat) : Int), _, rfl, rfl, SqT.of ((s28.trans sj) _ _ g2), rfl, _, cj, (by rw [ints_len, List.length_map, List.length_take, sz]; omega), sj.upd hC2, ?_⟩
        rw [upd_same, take_snoc ep, List.map_append, nats_snoc]
        rfl
      · rintro Hj ⟨sj, cj⟩
        rw [lsl, List.take_length, epart] at cj
        have s0j := (s7'.trans s8).trans sj
        have gR := s0j _ _ cq
        have nC2 : C2 ≠ Rs := fun e => by
          rw [e] at hC2
          rw [(s7'.trans s8) _ _ cq] at hC2
          cases hC2
        refine ⟨zs, gR, (by rw [lz, sz]; omega), ((s7.trans s8).trans sj).upd hRs, zs ++ [.ref C2], upd_same, (by rw [List.length_append, lz]; rfl), ?_⟩
        rw [List.range_succ, List.map_append]
        refine paired_snoc (L2.Paired.mapP pz fun x B ⟨⟨b, e, g1, g2⟩, ne⟩ => ⟨⟨b, e, g1, ?_⟩, ne⟩) ⟨⟨C2, rfl, (sH2.trans s28).none hC2, ?_⟩, fun e => nC2 (V.ref.inj e)⟩
        · rw [upd_ne (fun z => ne (by rw [e, z]))]
          exact s0j _ _ g2
        · rw [upd_ne nC2]
          exact cj
    · rintro Hq ⟨sq, zs, cq, lz, pz⟩
      obtain ⟨ids, i1, i2, i3⟩ := parts_are nL mL hp hs
      exact k Rs zs _ ids Hq (((sH2.trans s3).trans s36).trans sq) hRs' cq (L2.Paired.mapP pz fun _ _ h => h.1) i1 i2 i3
end
end K11
namespace K11
open PySem PySem.Spec PyProof.Rows L2 FL
/-! ### kept but for some -/
def SmX (D : List Addr) (H H' : Hp) : Prop := ∀ a o, H a = some o → a ∉ D → H' a = some o
theorem SmX.refl (D : List Addr) (H : Hp) : SmX D H H := fun _ _ h _ => h
theorem SmX.trans {D : List Addr} {H H' H'' : Hp} (h : SmX D H H') (g : SmX D H' H'') : SmX D H H'' := fun a o e n => g a o (h a o e n) n
theorem SmX.of {D : List Addr} {H H' : Hp} (h : Same H H') : SmX D H H' := fun a o e _ => h a o e
theorem SmX.put {D : List Addr} {H H' : Hp} {a : Addr} {o : HO} (h : SmX D H H') (m : a ∈ D) : SmX D H (upd H' a o) := fun b x e n => by
  rw [upd_ne (fun z => n (by rw [z]; exact m))]
  exact h b x e n
theorem SmX.sub {D D' : List Addr} {H H' : Hp} (h : SmX D H H') (s : ∀ a ∈ D, a ∈ D') : SmX D' H H' := fun a o e n => h a o e fun m => n (s a m)
theorem SmX.same {D : List Addr} {H0 H H' : Hp} (s : Same H0 H) (h : SmX D H H') (n : ∀ a ∈ D, H0 a = none) : Same H0 H' := fun a o e => h a o (s a o e) fun m => by rw [n a m] at e; cases e
theorem paired_setM {σ τ : Type} {R : σ → τ → Prop} {x : σ} {y : τ} (h : R x y) : ∀ (i : Nat) {as : List σ} {bs : List τ}, Paired R as bs → Paired R (as.set i x) (bs.set i y)
  | _, _, _, .nil => .nil
  | 0, _, _, .cons _ b => .cons h b
  | i + 1, _, _, .cons a b => .cons a (paired_setM h i b)
theorem ints_refs {ns : List Nat} {zs : List V} (l : 0 < ns.length) (r : ∀ (i : Nat) (x : V), zs[i]? = some x → ∃ T : Addr, x = .ref T) (e : vN' ns = zs) : False := by
  subst e
  obtain ⟨T, h⟩ := r 0 (.int (ns[0] : Nat)) (by rw [List.getElem?_map, List.getElem?_eq_getElem l]; rfl)
  cases h
theorem BackAt.put {H : Hp} {x : V} {n i : Nat} {R : Rws} {Bk : Addr} {bks : List V} {o : HO} (h : BackAt H x n R i) (pn : 0 < n) (g : H Bk = some (.lst bks)) (r : ∀ (i : Nat) (x : V), bks[i]? = some x → ∃ T : Addr, x = .ref T) : BackAt (upd H Bk o) x n R i := by
  obtain ⟨T, S, C, st, src, e, g1, g2, g3, ls, b⟩ := h
  refine ⟨T, S, C, st, src, e, ?_, ?_, ?_, ls, b⟩
  · rw [upd_ne (fun z => by rw [z, g] at g1; cases g1)]
    exact g1
  · rw [upd_ne (fun z => by
      rw [z, g] at g2
      exact ints_refs (by rw [fnL_len]; omega) r (HO.lst.inj (Option.some.inj g2)).symm)]
    exact g2
  · rw [upd_ne (fun z => by
      rw [z, g] at g3
      exact ints_refs (by omega) r (HO.lst.inj (Option.some.inj g3)).symm)]
    exact g3
theorem BackAt.ref {H : Hp} {x : V} {n i : Nat} {R : Rws} (h : BackAt H x n R i) : ∃ T : Addr, x = .ref T := by
  obtain ⟨T, _, _, _, _, e, _⟩ := h
  exact ⟨T, e⟩
/-- what is on the heap -/
structure ABk (n : Nat) (H1 : Hp) (Bl Wh Td : Addr) (Hi : Hp) (xs : List V) (bs : List (List Nat)) (wh : Nat → Nat) (W : List Nat) : Prop where
  sm : Same H1 Hi
  gB : Hi Bl = some (.lst xs)
  gW : Hi Wh = some (.lst (vN' (fnL n wh)))
  gT : Hi Td = some (.lst (vN' W))
  bl : BlksAt Hi xs bs
  av : ∀ a, V.ref a ∈ xs → a ∉ [Bl, Wh, Td]
  wl : ∀ c ∈ W, c < bs.length
theorem ABk.same {n : Nat} {H1 : Hp} {Bl Wh Td : Addr} {Hi H' : Hp} {xs : List V} {bs : List (List Nat)} {wh : Nat → Nat} {W : List Nat} (h : ABk n H1 Bl Wh Td Hi xs bs wh W) (s : Same Hi H') : ABk n H1 Bl Wh Td H' xs bs wh W :=
  ⟨h.sm.trans s, s _ _ h.gB, s _ _ h.gW, s _ _ h.gT, h.bl.same s, h.av, h.wl⟩
theorem drop_of {α : Type} {l : List α} {j : Nat} {x : α} (h : l[j]? = some x) : l.drop j = x :: l.drop (j + 1) := by
  obtain ⟨hj, rfl⟩ := List.getElem?_eq_some_iff.mp h
  exact List.drop_eq_getElem_cons hj
theorem _root_.FL.Pt.most {n : Nat} {bs : List (List Nat)} {wh : Nat → Nat} (h : Pt n bs wh) : bs.length ≤ n := h.few (eq := fun s t => s = t) (fun s t _ _ e => by rw [e]) fun l lt nd => by
  have := nodup_sub (l := l) nd (m := List.range n) fun s hs => List.mem_range.mpr (lt s hs)
  rwa [List.length_range] at this
theorem spW_ref {n : Nat} {bs : List (List Nat)} {wh : Nat → Nat} (p : Pt n bs wh) {b : Nat} {B small : List Nat} (hb : bs[b]? = some B) (hs : ∀ s ∈ small, s ∈ B) {s t : Nat} (ls : s < n) (lt : t < n) (q : spW wh small bs.length s = spW wh small bs.length t) : wh s = wh t := by
  have mB := p.mem b B hb
  unfold spW at q
  have l1 := p.lt s ls
  have l2 := p.lt t lt
  split at q
  · split at q
    · rename_i m1 m2
      rw [((mB s).mp (hs s m1)).2, ((mB t).mp (hs t m2)).2]
    · omega
  · split at q
    · omega
    · exact q
theorem part_all {B part : List Nat} (np : part.Nodup) (sb : ∀ s ∈ part, s ∈ B) (l : B.length ≤ part.length) (nB : B.Nodup) : ∀ s ∈ B, s ∈ part := fun s hs => by
  by_cases c : s ∈ part
  · exact c
  · have := nodup_sub (l := s :: part) (List.nodup_cons.mpr ⟨c, np⟩) (m := B) fun t ht => by
      rcases List.mem_cons.mp ht with rfl | ht
      · exact hs
      · exact sb t ht
    rw [List.length_cons] at this
    omega
abbrev sAlike : Stmt := topS 29
abbrev nAlike : List Str := ["rows", "ends", "most", "backs", "blocks", "where", "todo", "splitter", "back", "parts", "part", "place", "small", "large", "state"]
theorem scAlike : FnScope nAlike ["rows", "ends", "most"] (defScope sAlike) := ⟨rfl, rfl, rfl, by decide +kernel, rfl, by decide +kernel, by decide +kernel⟩
def spAlike : Sp := fun vs H Q _ => ∃ (v e : Addr) (xs : List V) (n m most : Nat) (R : Rws) (E : List Nat), vs = [.ref v, .ref e, .int (most : Nat)] ∧ H v = some (.lst xs) ∧ RowsT H xs R ∧ Frm n m R ∧ 0 < n ∧ n ≤ 100000 ∧ m ≤ 1000 ∧ H e = some (.lst (vN' E)) ∧ E.Nodup ∧ (∀ s ∈ E, s < n)
  ∧ (∀ l : List Nat, (∀ s ∈ l, s < n) → l.Pairwise (fun s t => ¬ eqvM R E m s t) → l.length ≤ most)
  ∧ ∀ (L : Addr) (zs : List V) (bs : List (List Nat)) (wh : Nat → Nat) (H' : Hp), Same H H' → H' L = some (.lst zs) → BlksAt H' zs bs → Pt n bs wh → (∀ s t, s < n → t < n → (wh s = wh t ↔ eqvM R E m s t)) → Q (.ref L) H'
section
variable {P : Program} {w : World} {K : PySem.W.Frag} {mg : Str → Option Value} {base : Heap}
theorem ok_alike {f : Addr} {fd : FuncData} (F : Fun K "alike_blocks" "alike_blocks" sAlike f fd) (mR : mg "range" = none) (mN : mg "len" = none) (mL : mg "list" = none)
    (cB : Ca P w K mg base "back_steps" 1 ["rows", "place"] spBack) (cF : Ca P w K mg base "first_blocks" 1 ["states", "ends"] spFirst) (cP : Ca P w K mg base "block_places" 1 ["blocks"] spPlaces) (cL : Ca P w K mg base "parts_leading" 1 ["splitter", "back", "where"] spLeading) (cH : Ca P w K mg base "halves" 1 ["block", "part"] spHalves) :
    FnOk P w K mg base CX0 2 f fd ["rows", "ends", "most"] spAlike := by
  refine F.ok scAlike (fun vs H Q E h => ?_) (fun cdv A outer s H vs Q E hr h => ?_)
  · obtain ⟨_, _, _, _, _, _, _, _, rfl, _⟩ := h
    rfl
  · obtain ⟨v, e, xs0, n, m, most, R, E, rfl, gv, hR, fm, pn, ln, lm, gE, nE, lE, hm, k⟩ := h
    have nd := scAlike.nd
    have sz : sizeLine = 16777216 := rfl
    refine ⟨_, C8.pss_cut (ps_setLc (i := 3) (own := [("place", 11)]) (g := gName 11) (tt := tYes) (te := tCall spBack [] E0 (tCons (tVar 0) (tCons (tVar 11) tNil))) rfl nd rfl rfl (sw_true rfl rfl rfl (by decide +kernel)) (pi_range1 (by rfl) mR (pa_cons (pe_callB callLen (by rfl) mN PySem.boot_len (pa_cons (pe_ix ix_list (pv 0) pe_int (fun _ _ => rfl)) pa_nil)) pa_nil)) (blkOk_by (N := nAlike) (sc := defScope sAlike) (by decide +kernel)) (fun _ _ _ _ _ => pg_name (i := 11) nd rfl (Or.inl rfl)) (fun _ _ _ _ _ => pts_nil)
        (fun _ _ _ _ _ => pe_ca cB hr (by rfl) (pa_cons (pv 0) (pa_cons (pv 11) pa_nil))))
      (pss_cons (ps_set (i := 4) nd rfl (.inl rfl) (pe_callTy call_list_of (by rfl) mL (by decide +kernel) (pa_cons (pe_ca cF hr (by rfl) (pa_cons (pe_callB callLen (by rfl) mN PySem.boot_len (pa_cons (pv 0) pa_nil)) (pa_cons (pv 1) pa_nil))) pa_nil)))
      (pss_cons (ps_set (i := 5) nd rfl (.inl rfl) (pe_callTy call_list_of (by rfl) mL (by decide +kernel) (pa_cons (pe_ca cP hr (by rfl) (pa_cons (pv 4) pa_nil)) pa_nil)))
      (pss_cons (ps_set (i := 6) nd rfl (.inl rfl) (pe_listRg rfl (by rfl) mL (prg_1 (by rfl) mR (pe_callB callLen (by rfl) mN PySem.boot_len (pa_cons (pv 4) pa_nil)))))
      (C8.pss_cut (ps_while PassesOwn.never (pt_truth (pv 6) (by intro _; rfl))
        (pss_cons (ps_set (i := 7) nd rfl (.inl rfl) (pe_ix ix_list (pv 4) (pe_bm0 PySem.F.plainAttrs_list PySem.F.slot_list_pop PySem.F.type_list_pop mt_pop (pv 6)) (fun _ _ => rfl)))
        (pss_one (ps_for PassesOwn.never rfl (pi_list (pv 3)) (pg_name (i := 8) nd rfl (.inl rfl))
          (pss_cons (ps_set (i := 9) nd rfl (.inl rfl) (pe_ca cL hr (by rfl) (pa_cons (pv 7) (pa_cons (pv 8) (pa_cons (pv 5) pa_nil)))))
          (pss_one (ps_for PassesOwn.never rfl (pi_list (pv 9)) (pg_name (i := 10) nd rfl (.inl rfl))
            (pss_cons (ps_set (i := 11) nd rfl (.inl rfl) (pe_ix ix_list (pv 5) (pe_ix ix_list (pv 10) pe_int (fun _ _ => rfl)) (fun _ _ => rfl)))
            (pss_cons (ps_asg (pe_ca cH hr (by rfl) (pa_cons (pe_ix ix_list (pv 4) (pv 11) (fun _ _ => rfl)) (pa_cons (pv 10) pa_nil))) (pg_tup rfl (pgs_cons (pg_name (i := 12) nd rfl (.inl rfl)) (pgs_cons (pg_name (i := 13) nd rfl (.inl rfl)) pgs_nil))))
            (C8.pss_cut (ps_if (pt_truth (pv 12) (by intro _; rfl))
              (pss_cons (ps_asg (pv 13) (pg_sub (pv 4) (pv 11) set_list))
              (pss_cons (ps_for PassesOwn.never rfl (pi_list (pv 12)) (pg_name (i := 14) nd rfl (.inl rfl)) (pss_one (ps_asg (pe_callB callLen (by rfl) mN PySem.boot_len (pa_cons (pv 4) pa_nil)) (pg_sub (pv 5) (pv 14) set_list))))
              (pss_cons (ps_expr (pe_bm PySem.F.plainAttrs_list PySem.F.slot_list_append PySem.F.type_list_append mtAppend (pv 6) (pa_cons (pe_callB callLen (by rfl) mN PySem.boot_len (pa_cons (pv 4) pa_nil)) pa_nil)))
              (pss_one (ps_expr (pe_bm PySem.F.plainAttrs_list PySem.F.slot_list_append PySem.F.type_list_append mtAppend (pv 4) (pa_cons (pv 12) pa_nil)))))))
              pss_nil)
            (pss_one (ps_if (pt_cmpR op_gt (pe_callB callLen (by rfl) mN PySem.boot_len (pa_cons (pv 4) pa_nil)) (pv 2) (nomark _)) (pss_one ps_never) pss_nil))))))))))))
      (pss_one (ps_ret (pv 4))))))), ?_⟩
    have lx : xs0.length = n := by rw [paired_lenM hR, fm.len]
    obtain ⟨r0, er0, _, lr0⟩ := fm.row pn
    obtain ⟨x0, ex0, b0, rfl, gb0⟩ := paired_getR hR er0
    have lv0 : LenV K (.ref b0) H m := by
      have := (SqY.tup (K := K) gb0).len
      rwa [ints_len, lr0] at this
    refine ⟨fun σ' H' => ∃ (Bk : Addr) (bks : List V), σ' = [some (.ref v), some (.ref e), some (.int (most : Nat)), some (.ref Bk), none, none, none, none, none, none, none, none, none, none, none] ∧ Same H H' ∧ H' Bk = some (.lst bks) ∧ bks.length = m ∧ ∀ i x, bks[i]? = some x → BackAt H' x n R i, ?_, ?_⟩
    · refine ⟨_, rfl, v, _, ((0 : Nat) : Int), _, rfl, rfl, SqL.of gv, atI_nat ex0, _, m, rfl, lv0, _, rfl, (by omega), (by omega), fun Bk hBk => ?_⟩
      refine lc_range (lo := 0) (n := m) (fun q Hq => Same H Hq ∧ ∃ bks, Hq Bk = some (.lst bks) ∧ bks.length = q ∧ ∀ i x, bks[i]? = some x → BackAt Hq x n R i) ?_ ?_ ?_
      · exact ⟨(Same.refl H).upd hBk, [], upd_same, rfl, fun i x h => nomatch h⟩
      · rintro q Hq hq ⟨sq, bks, cq, lq, bq⟩
        have e0 : (0 : Int) + (q : Nat) = (q : Nat) := by omega
        rw [e0]
        refine ⟨rfl, _, rfl, _, rfl, v, xs0, n, m, q, R, rfl, sq _ _ gv, hR.same (fun a u e => sq a _ e), fm, hq, by omega, fun x H' s' hx => ?_⟩
        have cq' := s' _ _ cq
        have rf : ∀ (i : Nat) (x : V), bks[i]? = some x → ∃ T : Addr, x = .ref T := fun i x e => (bq i x e).ref
        refine ⟨bks, cq', (by rw [lq, sz]; omega), (sq.trans s').upd hBk, bks ++ [x], upd_same, (by rw [List.length_append, lq]; rfl), fun i y e => ?_⟩
        by_cases l : i < bks.length
        · rw [List.getElem?_append_left l] at e
          exact ((bq i y e).same s').put pn cq' rf
        · rw [List.getElem?_append_right (by omega)] at e
          have l0 := (List.getElem?_eq_some_iff.mp e).1
          rw [List.length_singleton] at l0
          obtain rfl : i = bks.length := by omega
          rw [Nat.sub_self] at e
          cases e
          rw [lq]
          exact hx.put pn cq' rf
      · rintro Hq ⟨sq, bks, cq, lq, bq⟩
        exact ⟨Bk, bks, rfl, sq, cq, lq, bq⟩
    rintro σ' H1 ⟨Bk, bks, rfl, s1, gBk, lbk, hbk⟩
    have gv1 := s1 _ _ gv
    refine ⟨_, rfl, _, xs0.length, rfl, .inl ⟨_, SqL.of gv1, rfl⟩, _, rfl, n, e, E, (by rw [lx]; rfl), s1 _ _ gE, (by omega), (by have := nodup_sub nE (m := List.range n) fun s hs => List.mem_range.mpr (lE s hs); rw [List.length_range] at this; omega), fun L0 fs H2 s2 gL0 hfs fr hL0 => ?_⟩
    obtain ⟨wh0, pt0, sw0⟩ := first_pt lE nE
    -- the blocks
    refine ⟨L0, fs, rfl, .inl (SqL.of gL0), fun Bl hBl => ?_⟩
    have s3 : Same H2 (upd H2 Bl (.lst fs)) := (Same.refl H2).upd hBl
    have gBl : upd H2 Bl (.lst fs) Bl = some (.lst fs) := upd_same
    generalize upd H2 Bl (.lst fs) = H3 at s3 gBl ⊢
    refine ⟨_, rfl, Bl, fs, _, n, wh0, rfl, gBl, hfs.same s3, pt0, (by omega), fun W0 H4 s4 hW0 gW0 => ?_⟩
    refine ⟨W0, _, rfl, .inl (SqL.of gW0), fun Wh hWh => ?_⟩
    have s5 : Same H4 (upd H4 Wh (.lst (vN' (fnL n wh0)))) := (Same.refl H4).upd hWh
    have gWh : upd H4 Wh (.lst (vN' (fnL n wh0))) Wh = some (.lst (vN' (fnL n wh0))) := upd_same
    generalize upd H4 Wh (.lst (vN' (fnL n wh0))) = H5 at s5 gWh ⊢
    have gBl5 := s5 _ _ (s4 _ _ gBl)
    have lfs : fs.length = (firstB n E).length := paired_lenM hfs
    refine ⟨_, rfl, _, fs.length, rfl, .inl ⟨_, SqL.of gBl5, rfl⟩, ?_⟩
    have lfn := pt0.most
    refine ⟨_, rfl, ⟨by omega, by omega, by omega, by omega, by omega⟩, fun Td hTd => ?_⟩
    have erg : rgV 0 ((fs.length : Nat) : Int) = vN' (List.range (firstB n E).length) := by
      show (List.range _).map _ = (List.range _).map _
      rw [← lfs, show (((fs.length : Nat) : Int) - 0).toNat = fs.length by omega]
      refine List.map_congr_left fun i _ => ?_
      show V.int (0 + (i : Int)) = _
      rw [Int.zero_add]
    rw [erg]
    have s6 : Same H5 (upd H5 Td (.lst (vN' (List.range (firstB n E).length)))) := (Same.refl H5).upd hTd
    have gTd : upd H5 Td (.lst (vN' (List.range (firstB n E).length))) Td = some (.lst (vN' (List.range (firstB n E).length))) := upd_same
    generalize upd H5 Td (.lst (vN' (List.range (firstB n E).length))) = H6 at s6 gTd ⊢
    have s16 : Same H1 H6 := (((s2.trans s3).trans s4).trans s5).trans s6
    have nBl : H1 Bl = none := s2.none hBl
    have nWh : H1 Wh = none := ((s2.trans s3).trans s4).none hWh
    have nTd : H1 Td = none := (((s2.trans s3).trans s4).trans s5).none hTd
    have dBW : Bl ≠ Wh := ne_of_none (s4 _ _ gBl) hWh
    have dBT : Bl ≠ Td := ne_of_none gBl5 hTd
    have dWT : Wh ≠ Td := ne_of_none gWh hTd
    have nD : ∀ a ∈ [Bl, Wh, Td], H1 a = none := fun a ha => by
      rcases List.mem_cons.mp ha with rfl | ha
      · exact nBl
      · rcases List.mem_cons.mp ha with rfl | ha
        · exact nWh
        · rw [List.mem_singleton.mp ha]
          exact nTd
    have ab0 : ABk n H1 Bl Wh Td H6 fs (firstB n E) wh0 (List.range (firstB n E).length) := by
      refine ⟨s16, s6 _ _ gBl5, s6 _ _ gWh, gTd, hfs.same (((s3.trans s4).trans s5).trans s6), fun a ha hD => ?_, fun c hc => List.mem_range.mp hc⟩
      obtain ⟨i, hi, e⟩ := List.mem_iff_getElem.mp ha
      obtain ⟨B, _, b, e2, g⟩ := paired_getM hfs (List.getElem?_eq_getElem hi)
      rw [e] at e2
      cases e2
      rcases List.mem_cons.mp hD with rfl | hD
      · rw [g] at hBl
        cases hBl
      · rcases List.mem_cons.mp hD with rfl | hD
        · rw [s4 _ _ (s3 _ _ g)] at hWh
          cases hWh
        · rw [List.mem_singleton.mp hD] at g
          rw [s5 _ _ (s4 _ _ (s3 _ _ g))] at hTd
          cases hTd
    have co0 : ∀ s t, s < n → t < n → eqvM R E m s t → wh0 s = wh0 t := fun s t ls lt q => (sw0 s t ls lt).mpr q.ends
    have en0 : ∀ s t, s < n → t < n → wh0 s = wh0 t → (s ∈ E ↔ t ∈ E) := fun s t ls lt q => (sw0 s t ls lt).mp q
    have hi0 : HInv n m R (firstB n E) wh0 (List.range (firstB n E).length) [] := HInv.start
    generalize firstB n E = bs0 at pt0 ab0 hi0
    generalize hW0 : List.range bs0.length = Wt0 at ab0 hi0
    have lW0 : Wt0.length = bs0.length := by rw [← hW0, List.length_range]
    clear hW0 hfs fr sw0 gTd gBl5 gWh gBl gL0 gW0 hBl hWh hTd hL0 erg s6 s5 s4 s3
    clear s2 lfs lfn
    refine ⟨fun σ' H' => ∃ (xs : List V) (bs : List (List Nat)) (wh : Nat → Nat) (o7 o8 o9 o10 o11 o12 o13 o14 : Option V), σ' = [some (.ref v), some (.ref e), some (.int (most : Nat)), some (.ref Bk), some (.ref Bl), some (.ref Wh), some (.ref Td), o7, o8, o9, o10, o11, o12, o13, o14]
      ∧ ABk n H1 Bl Wh Td H' xs bs wh [] ∧ Pt n bs wh ∧ (∀ s t, s < n → t < n → eqvM R E m s t → wh s = wh t) ∧ (∀ s t, s < n → t < n → wh s = wh t → (s ∈ E ↔ t ∈ E)) ∧ HInv n m R bs wh [] [], ?_, ?_⟩
    · refine while_n (fun mm σ' H' => ∃ (xs : List V) (bs : List (List Nat)) (wh : Nat → Nat) (W : List Nat) (o7 o8 o9 o10 o11 o12 o13 o14 : Option V), σ' = [some (.ref v), some (.ref e), some (.int (most : Nat)), some (.ref Bk), some (.ref Bl), some (.ref Wh), some (.ref Td), o7, o8, o9, o10, o11, o12, o13, o14]
        ∧ ABk n H1 Bl Wh Td H' xs bs wh W ∧ Pt n bs wh ∧ (∀ s t, s < n → t < n → eqvM R E m s t → wh s = wh t) ∧ (∀ s t, s < n → t < n → wh s = wh t → (s ∈ E ↔ t ∈ E)) ∧ HInv n m R bs wh W [] ∧ mm = 2 * (n - bs.length) + W.length ∧ mm ≤ 2 * n) (m0 := 2 * (n - bs0.length) + Wt0.length) ?_ ?_ ?_
      · exact ⟨fs, bs0, wh0, Wt0, none, none, none, none, none, none, none, none, rfl, ab0, pt0, co0, en0, hi0, rfl, by have := pt0.most; omega⟩
      · rintro mm σ' Hi ⟨xs, bs, wh, W, o7, o8, o9, o10, o11, o12, o13, o14, rfl, ab, pt, co, en, hi, emm, lmm⟩
        have pm := pt.most
        refine ⟨_, rfl, _, .inl ⟨_, SqL.of ab.gT, rfl⟩, ?_⟩
        refine ite2 (fun hne => ?_) (fun hne => ?_)
        · have hW : W ≠ [] := fun e => by rw [e] at hne; cases hne
          obtain ⟨W', c, rfl⟩ : ∃ W' c, W = W' ++ [c] := ⟨W.dropLast, W.getLast hW, (List.dropLast_concat_getLast hW).symm⟩
          have lc := ab.wl c (List.mem_append_right _ (List.mem_singleton.mpr rfl))
          obtain ⟨C, hC⟩ : ∃ C, bs[c]? = some C := ⟨_, List.getElem?_eq_getElem lc⟩
          obtain ⟨z, ez, sp, rfl, gsp⟩ := paired_getR ab.bl hC
          have mC := pt.mem c C hC
          have nspD := ab.av sp (List.mem_of_getElem? ez)
          have nspD0 := nspD
          have gl : (vN' (W' ++ [c]))[(vN' (W' ++ [c])).length - 1]? = some (.int (c : Nat)) := by
            rw [ints_len, List.length_append, List.length_singleton, Nat.add_sub_cancel, List.getElem?_map, List.getElem?_append_right (Nat.le_refl _), Nat.sub_self]
            rfl
          have gd : (vN' (W' ++ [c])).dropLast = vN' W' := by
            show ((W' ++ [c]).map _).dropLast = W'.map _
            rw [List.map_append]
            exact List.dropLast_concat
          refine ⟨_, rfl, _, rfl, .inl ⟨rfl, _, SqL.of ab.gT⟩, Td, _, _, rfl, rfl, ab.gT, gl, ?_⟩
          rw [gd]
          have hBlD : Bl ∈ [Bl, Wh, Td] := List.mem_cons_self
          have hWhD : Wh ∈ [Bl, Wh, Td] := List.mem_cons_of_mem _ List.mem_cons_self
          have hTdD : Td ∈ [Bl, Wh, Td] := List.mem_cons_of_mem _ (List.mem_cons_of_mem _ List.mem_cons_self)
          have x7 : SmX [Bl, Wh, Td] Hi (upd Hi Td (.lst (vN' W'))) := (SmX.refl _ _).put hTdD
          have ab7 : ABk n H1 Bl Wh Td (upd Hi Td (.lst (vN' W'))) xs bs wh W' := by
            refine ⟨x7.same ab.sm nD, by rw [upd_ne dBT]; exact ab.gB, by rw [upd_ne dWT]; exact ab.gW, upd_same, ab.bl.keep fun a o e2 ⟨B, q, mm⟩ => x7 a _ e2 (ab.av a mm), ab.av, fun c' hc' => ab.wl c' (List.mem_append_left _ hc')⟩
          have gsp7 := x7 _ _ gsp nspD
          generalize upd Hi Td (.lst (vN' W')) = H7 at x7 ab7 gsp7 ⊢
          refine ⟨Bl, xs, _, _, rfl, rfl, SqL.of ab7.gB, atI_nat ez, ?_⟩
          have cC : ∀ s t, s < n → t < n → eqvM R E m s t → (s ∈ C ↔ t ∈ C) := fun s t ls lt q => by
            rw [mC, mC, co s t ls lt q]
            exact ⟨fun z => ⟨lt, z.2⟩, fun z => ⟨ls, z.2⟩⟩
          have nC : C.Nodup := pt.nd C (List.mem_of_getElem? hC)
          have lC : ∀ s ∈ C, s < n := fun s hs => ((mC s).mp hs).1
          have hi7 := hi.pop hC
          have mm7 : 2 * (n - bs.length) + W'.length < mm := by rw [emm, List.length_append]; show _ < _ + (_ + 1); omega
          clear hi gl gd hne hW ab x7
          refine ⟨_, rfl, Bk, rfl, ⟨_, SqL.of (ab7.sm _ _ gBk)⟩, for_it (walk_list (xs := bks)) (fun q σ Hq => ∃ (xs : List V) (bs : List (List Nat)) (wh : Nat → Nat) (W : List Nat) (o8 o9 o10 o11 o12 o13 o14 : Option V), σ = [some (.ref v), some (.ref e), some (.int (most : Nat)), some (.ref Bk), some (.ref Bl), some (.ref Wh), some (.ref Td), some (.ref sp), o8, o9, o10, o11, o12, o13, o14]
            ∧ ABk n H1 Bl Wh Td Hq xs bs wh W ∧ Pt n bs wh ∧ (∀ s t, s < n → t < n → eqvM R E m s t → wh s = wh t) ∧ (∀ s t, s < n → t < n → wh s = wh t → (s ∈ E ↔ t ∈ E)) ∧ HInv n m R bs wh W C ∧ 2 * (n - bs.length) + W.length < mm ∧ (∀ a, a < q → ∀ s t, s < n → t < n → wh s = wh t → (nxt R s a ∈ C ↔ nxt R t a ∈ C)) ∧ Hq sp = some (.lst (vN' C))) ?_ ?_ ?_ ?_⟩
          · exact ⟨xs, bs, wh, W', o8, o9, o10, o11, o12, o13, o14, rfl, ab7, pt, co, en, hi7, mm7, fun a ha => absurd ha (Nat.not_lt_zero _), gsp7⟩
          · rintro q σ Hq _ ⟨_, _, _, _, _, _, _, _, _, _, _, _, ab, _⟩
            exact SqL.of (ab.sm _ _ gBk)
          · clear ab7 pt co en hi7 mm7 gsp7 mC ez pm hC nspD lc
            rintro q xx σ Hq0 Hq hq ⟨xs, bs, wh, W, o8, o9, o10, o11, o12, o13, o14, rfl, ab, pt, co, en, hi, mmq, stq, gsp⟩ ⟨rfl, hx⟩
            have hqm : q < m := by rw [← lbk]; exact hq
            refine ⟨_, rfl, _, rfl, _, rfl, sp, Wh, xx, C, n, q, R, wh, rfl, gsp, nC, lC, (hbk q xx hx).same ab.sm, ab.gW, (by omega), fun Lp ps parts ids H8 s8 hLp gLp pN pP ndI sbP => ?_⟩
            have ab8 := ab.same s8
            have nLpD : Lp ∉ [Bl, Wh, Td] := fun hD => by
              rcases List.mem_cons.mp hD with rfl | hD
              · rw [ab.gB] at hLp; cases hLp
              · rcases List.mem_cons.mp hD with rfl | hD
                · rw [ab.gW] at hLp; cases hLp
                · rw [List.mem_singleton.mp hD, ab.gT] at hLp; cases hLp
            have lpp : ps.length = parts.length := paired_lenM pN
            have lpi : ids.length = parts.length := paired_lenM pP
            have gsp8 := s8 _ _ gsp
            have nspD : sp ∉ [Bl, Wh, Td] := nspD0
            refine ⟨_, rfl, Lp, rfl, ⟨_, SqL.of gLp⟩, for_it (walk_list (xs := ps)) (fun j σ Hj => ∃ (xs : List V) (bs' : List (List Nat)) (wh' : Nat → Nat) (W : List Nat) (o10 o11 o12 o13 o14 : Option V), σ = [some (.ref v), some (.ref e), some (.int (most : Nat)), some (.ref Bk), some (.ref Bl), some (.ref Wh), some (.ref Td), some (.ref sp), some xx, some (.ref Lp), o10, o11, o12, o13, o14]
              ∧ SmX [Bl, Wh, Td] H8 Hj ∧ ABk n H1 Bl Wh Td Hj xs bs' wh' W ∧ Ph n m R E C q bs' wh' W (parts.drop j) (ids.drop j) ∧ 2 * (n - bs'.length) + W.length < mm ∧ (∀ s t, s < n → t < n → wh' s = wh' t → wh s = wh t)) ?_ ?_ ?_ ?_⟩
            · exact ⟨xs, bs, wh, W, o10, o11, o12, o13, o14, rfl, SmX.refl _ _, ab8, ⟨pt, co, hi, pP, ndI, fun s t ls lt e h => .inr (sbP s ls h), en⟩, mmq, fun _ _ _ _ h => h⟩
            · rintro j σ Hj _ ⟨_, _, _, _, _, _, _, _, _, _, xj, _⟩
              exact SqL.of (xj _ _ gLp nLpD)
            · clear mmq hi co en
              rintro j y σ Hj0 Hj hj ⟨xs, bs', wh', W, o10, o11, o12, o13, o14, rfl, xj, abj, ph, mmj, rf⟩ ⟨rfl, hy⟩
              obtain ⟨part, epart, b, rfl, hb0, gb8⟩ := paired_getM pN hy
              obtain ⟨id, eid, _⟩ := paired_getR pP epart
              have nbD : b ∉ [Bl, Wh, Td] := fun hD => by
                rcases List.mem_cons.mp hD with rfl | hD
                · rw [ab.gB] at hb0; cases hb0
                · rcases List.mem_cons.mp hD with rfl | hD
                  · rw [ab.gW] at hb0; cases hb0
                  · rw [List.mem_singleton.mp hD, ab.gT] at hb0; cases hb0
              have gbj := xj _ _ gb8 nbD
              rw [drop_of epart, drop_of eid] at ph
              obtain ⟨np, dp, mp⟩ : PartIs n R wh' C q id part := by
                cases ph.ps with
                | cons p _ => exact p
              obtain ⟨s0, es0⟩ : ∃ s0, part[0]? = some s0 := by
                cases part with
                | nil => exact absurd rfl np
                | cons s0 _ => exact ⟨s0, rfl⟩
              obtain ⟨ls0, ws0, _⟩ := (mp s0).mp (List.mem_of_getElem? es0)
              have gw0 : (vN' (fnL n wh'))[s0]? = some (.int (id : Nat)) := by
                rw [List.getElem?_map, fnL_get ls0, ws0]
                rfl
              have lid : id < bs'.length := by rw [← ws0]; exact ph.pt.lt s0 ls0
              obtain ⟨B, eB⟩ : ∃ B, bs'[id]? = some B := ⟨_, List.getElem?_eq_getElem lid⟩
              obtain ⟨z, ez, ba, rfl, gba⟩ := paired_getR abj.bl eB
              have mB := ph.pt.mem id B eB
              have nB : B.Nodup := ph.pt.nd B (List.mem_of_getElem? eB)
              have lB : B.length ≤ n := by
                have := nodup_sub nB (m := List.range n) fun s hs => List.mem_range.mpr ((mB s).mp hs).1
                rwa [List.length_range] at this
              have lP : part.length ≤ n := by
                have := nodup_sub dp (m := List.range n) fun s hs => List.mem_range.mpr ((mp s).mp hs).1
                rwa [List.length_range] at this
              have pB : ∀ s ∈ part, s ∈ B := fun s hs => (mB s).mpr ⟨((mp s).mp hs).1, ((mp s).mp hs).2.1⟩
              have nbaD := abj.av ba (List.mem_of_getElem? ez)
              refine ⟨_, rfl, _, rfl, b, _, ((0 : Nat) : Int), _, rfl, rfl, SqL.of gbj, ints_at es0, Wh, _, _, _, rfl, rfl, SqL.of abj.gW, atI_nat gw0, ?_⟩
              refine ⟨_, rfl, _, rfl, Bl, _, _, _, rfl, rfl, SqL.of abj.gB, atI_nat ez, _, rfl, ba, b, B, part, rfl, gba, gbj, (by omega), (by omega), fun t x y small large H9 s9 gt gx gy nxy fx fy alt => ?_⟩
              refine ⟨t, _, rfl, SqT.of gt, rfl, _, _, rfl, _, _, rfl, rfl, ?_⟩
              have ab9 := abj.same s9
              have xj9 := xj.trans (SmX.of s9)
              have frD : ∀ {z : Addr}, (z = ba ∨ z = b ∨ Hj z = none) → z ∉ [Bl, Wh, Td] := fun {z} hz => by
                rcases hz with rfl | rfl | hz
                · exact nbaD
                · exact nbD
                · exact fun hD => by
                    rcases List.mem_cons.mp hD with rfl | hD
                    · rw [abj.gB] at hz; cases hz
                    · rcases List.mem_cons.mp hD with rfl | hD
                      · rw [abj.gW] at hz; cases hz
                      · rw [List.mem_singleton.mp hD, abj.gT] at hz; cases hz
              have nxD := frD fx
              have nyD := frD fy
              refine ⟨fun σ' H' => ∃ (xs : List V) (bs' : List (List Nat)) (wh' : Nat → Nat) (W : List Nat) (o14 : Option V), σ' = [some (.ref v), some (.ref e), some (.int (most : Nat)), some (.ref Bk), some (.ref Bl), some (.ref Wh), some (.ref Td), some (.ref sp), some xx, some (.ref Lp), some (.ref b), some (.int (id : Nat)), some (.ref x), some (.ref y), o14]
                ∧ SmX [Bl, Wh, Td] H8 H' ∧ ABk n H1 Bl Wh Td H' xs bs' wh' W ∧ Ph n m R E C q bs' wh' W (parts.drop (j + 1)) (ids.drop (j + 1)) ∧ 2 * (n - bs'.length) + W.length < mm ∧ (∀ s t, s < n → t < n → wh' s = wh' t → wh s = wh t), ?_, ?_⟩
              · refine ⟨_, rfl, _, .inl ⟨_, SqL.of gx, rfl⟩, ?_⟩
                refine ite2 (fun hne => ?_) (fun hne => ?_)
                · have hs : small ≠ [] := fun e => by rw [e] at hne; cases hne
                  rcases alt with ⟨_, e, _⟩ | ⟨nl, alt⟩
                  · exact absurd e hs
                  have hr_ : ∀ s, s ∈ restOf B part ↔ s ∈ B ∧ s ∉ part := fun s => by
                    unfold restOf
                    rw [List.mem_filter]
                    simp
                  have nr : restOf B part ≠ [] := fun e => by
                    refine nl ?_
                    have h1 : B.length ≤ part.length := nodup_sub nB fun s hs => by
                      by_cases c : s ∈ part
                      · exact c
                      · have := (hr_ s).mpr ⟨hs, c⟩
                        rw [e] at this
                        cases this
                    have h2 := nodup_sub dp pB
                    omega
                  have phN := ph.split fm hqm cC eB hr_ nr (nB.filter _) alt
                  have sB : ∀ s ∈ small, s ∈ B := by
                    rcases alt with ⟨rfl, _⟩ | ⟨rfl, _⟩
                    · exact pB
                    · exact fun s h => ((hr_ s).mp h).1
                  have lxs : xs.length = bs'.length := paired_lenM ab9.bl
                  have lenS : ((xs.set id (.ref y)) : List V).length = bs'.length := by rw [List.length_set, lxs]
                  have m9 := ph.pt.most
                  have dTW : Td ∉ [Wh] := fun h => dWT (List.mem_singleton.mp h).symm
                  have dBW' : Bl ∉ [Wh] := fun h => dBW (List.mem_singleton.mp h)
                  refine ⟨_, rfl, _, rfl, _, rfl, Bl, xs, _, id, rfl, rfl, ab9.gB, ixN_of (by rw [lxs]; exact lid), ?_⟩
                  have x10 : SmX [Bl, Wh, Td] H9 (upd H9 Bl (.lst (xs.set id (.ref y)))) := (SmX.refl _ _).put hBlD
                  have gB10 : upd H9 Bl (.lst (xs.set id (.ref y))) Bl = some (.lst (xs.set id (.ref y))) := upd_same
                  have gW10 : upd H9 Bl (.lst (xs.set id (.ref y))) Wh = some (.lst (vN' (fnL n wh'))) := by rw [upd_ne dBW.symm]; exact ab9.gW
                  have gT10 : upd H9 Bl (.lst (xs.set id (.ref y))) Td = some (.lst (vN' W)) := by rw [upd_ne dBT.symm]; exact ab9.gT
                  generalize upd H9 Bl (.lst (xs.set id (.ref y))) = H10 at x10 gB10 gW10 gT10 ⊢
                  have gx10 := x10 _ _ gx nxD
                  refine ⟨_, rfl, x, rfl, ⟨_, SqL.of gx10⟩, for_it (walk_list (xs := vN' small)) (fun u σ Hu => ∃ o14 : Option V, σ = [some (.ref v), some (.ref e), some (.int (most : Nat)), some (.ref Bk), some (.ref Bl), some (.ref Wh), some (.ref Td), some (.ref sp), some xx, some (.ref Lp), some (.ref b), some (.int (id : Nat)), some (.ref x), some (.ref y), o14]
                    ∧ SmX [Wh] H10 Hu ∧ Hu Wh = some (.lst (vN' (fnL n fun s => if s ∈ small.take u then bs'.length else wh' s)))) ?_ ?_ ?_ ?_⟩
                  · exact ⟨o14, rfl, SmX.refl _ _, gW10⟩
                  · rintro u σ Hu _ ⟨_, _, xu, _⟩
                    exact SqL.of (xu _ _ gx10 fun h => nxD (by rw [List.mem_singleton.mp h]; exact hWhD))
                  · rintro u z σ Hu0 Hu hu ⟨o14, rfl, xu, wu⟩ ⟨rfl, hz⟩
                    obtain ⟨s, hs', rfl⟩ := ints_get hz
                    have ls := ((mB s).mp (sB s (List.mem_of_getElem? hs'))).1
                    refine ⟨_, rfl, _, bs'.length, rfl, .inl ⟨_, SqL.of (xu _ _ gB10 dBW'), lenS.symm⟩, _, rfl, _, rfl, Wh, _, _, s, rfl, rfl, wu, ?_, ?_⟩
                    · rw [ints_len, fnL_len]
                      exact ixN_of ls
                    · refine ⟨_, rfl, xu.put (List.mem_singleton.mpr rfl), ?_⟩
                      rw [upd_same, ints_set, fnL_set]
                      have : (fnL n fun t => if t = s then bs'.length else if t ∈ small.take u then bs'.length else wh' t) = fnL n fun t => if t ∈ small.take (u + 1) then bs'.length else wh' t := fnL_congr fun t _ => by
                        rw [take_snoc hs']
                        by_cases e : t = s
                        · rw [if_pos e, if_pos (List.mem_append_right _ (List.mem_singleton.mpr e))]
                        · rw [if_neg e]
                          simp [e]
                      rw [this]
                  · rintro σ Hu ⟨o14', rfl, xu, wu⟩
                    rw [ints_len, List.take_length] at wu
                    have gBu := xu _ _ gB10 dBW'
                    have gTu := xu _ _ gT10 dTW
                    have x9u := x10.trans (xu.sub fun a h => by rw [List.mem_singleton.mp h]; exact hWhD)
                    have mN := phN.pt.most
                    rw [List.length_append, List.length_set] at mN
                    refine ⟨_, rfl, .inl ⟨rfl, _, SqL.of gTu⟩, _, rfl, _, bs'.length, rfl, .inl ⟨_, SqL.of gBu, lenS.symm⟩, Td, _, _, rfl, rfl, gTu, (by rw [ints_len, sz]; omega), ?_⟩
                    rw [nats_snoc]
                    have x11 : SmX [Bl, Wh, Td] H9 (upd Hu Td (.lst (vN' (W ++ [bs'.length])))) := x9u.put hTdD
                    have gB11 : upd Hu Td (.lst (vN' (W ++ [bs'.length]))) Bl = some (.lst (xs.set id (.ref y))) := by rw [upd_ne dBT]; exact gBu
                    have gW11 : upd Hu Td (.lst (vN' (W ++ [bs'.length]))) Wh = some (.lst (vN' (fnL n (spW wh' small bs'.length)))) := by rw [upd_ne dWT]; exact wu
                    have gT11 : upd Hu Td (.lst (vN' (W ++ [bs'.length]))) Td = some (.lst (vN' (W ++ [bs'.length]))) := upd_same
                    generalize upd Hu Td (.lst (vN' (W ++ [bs'.length]))) = H11 at x11 gB11 gW11 gT11 ⊢
                    refine ⟨_, rfl, .inl ⟨rfl, _, SqL.of gB11⟩, _, rfl, Bl, _, _, rfl, rfl, gB11, (by rw [lenS, sz]; omega), ?_⟩
                    have x12 : SmX [Bl, Wh, Td] H9 (upd H11 Bl (.lst (xs.set id (.ref y) ++ [.ref x]))) := x11.put hBlD
                    refine ⟨xs.set id (.ref y) ++ [.ref x], bs'.set id large ++ [small], spW wh' small bs'.length, W ++ [bs'.length], _, rfl, xj9.trans x12, ⟨x12.same ab9.sm nD, upd_same, by rw [upd_ne dBW.symm]; exact gW11, by rw [upd_ne dBT.symm]; exact gT11, ?_, ?_, ?_⟩, phN, ?_, fun s t ls lt h => rf s t ls lt (spW_ref ph.pt eB sB ls lt h)⟩
                    · exact paired_snoc (paired_setM ⟨y, rfl, x12 _ _ gy nyD⟩ id (ab9.bl.keep fun a o e2 ⟨B, q, mm⟩ => x12 a _ e2 (ab9.av a mm))) ⟨x, rfl, x12 _ _ gx nxD⟩
                    · intro a ha
                      rcases List.mem_append.mp ha with ha | ha
                      · rcases List.mem_or_eq_of_mem_set ha with ha | ha
                        · exact ab9.av a ha
                        · rw [V.ref.inj ha]
                          exact nyD
                      · rw [V.ref.inj (List.mem_singleton.mp ha)]
                        exact nxD
                    · intro c hc
                      rw [List.length_append, List.length_set]
                      show c < _ + 1
                      rcases List.mem_append.mp hc with hc | hc
                      · have := ab9.wl c hc
                        omega
                      · rw [List.mem_singleton.mp hc]
                        omega
                    · rw [List.length_append, List.length_set, List.length_append]
                      show 2 * (n - (_ + 1)) + (_ + 1) < mm
                      simp only [List.length_singleton] at mN
                      omega
                · have hs : small = [] := by
                    cases small with
                    | nil => rfl
                    | cons c W => exact absurd rfl hne
                  refine ⟨xs, bs', wh', W, _, rfl, xj9, ab9, ph.skip eB ?_, mmj, rf⟩
                  rcases alt with ⟨le, _⟩ | ⟨nl, alt⟩
                  · exact part_all dp pB (by omega) nB
                  · exfalso
                    rcases alt with ⟨e1, _⟩ | ⟨e1, _⟩
                    · exact np (e1.symm.trans hs)
                    · rw [hs] at e1
                      refine nl ?_
                      have h1 : B.length ≤ part.length := nodup_sub nB fun s hs => by
                        by_cases c : s ∈ part
                        · exact c
                        · have : s ∈ restOf B part := List.mem_filter.mpr ⟨hs, by rw [decide_eq_false c]; rfl⟩
                          rw [← e1] at this
                          cases this
                      have h2 := nodup_sub dp pB
                      omega
              rintro σ' Hk ⟨xs, bs', wh', W, o14, rfl, xk, abk, ph, mmk, rfk⟩
              have lbs : xs.length = bs'.length := paired_lenM abk.bl
              have few : bs'.length ≤ most := ph.pt.few ph.co hm
              refine ⟨_, rfl, _, xs.length, rfl, .inl ⟨_, SqL.of abk.gB, rfl⟩, _, rfl, _, _, rfl, rfl, _, rfl, ?_⟩
              refine ite2 (fun h => ?_) (fun _ => ?_)
              · have := of_decide_eq_true h
                omega
              · exact ⟨xs, bs', wh', W, _, _, _, _, _, rfl, xk, abk, ph, mmk, rfk⟩
            · rintro σ Hj ⟨xs, bs', wh', W, o10, o11, o12, o13, o14, rfl, xj, abj, ph, mmj, rf⟩
              rw [lpp, List.drop_length, ← lpi, List.drop_length] at ph
              have stb := ph.stable
              refine ⟨xs, bs', wh', W, _, _, _, _, _, _, _, rfl, abj, ph.pt, ph.co, ph.en, ph.hi, mmj, fun a ha s t ls lt h => ?_, xj _ _ gsp8 nspD⟩
              by_cases ea : a = q
              · subst ea
                exact stb s t ls lt h
              · exact stq a (by omega) s t ls lt (rf s t ls lt h)
          · rintro σ Hq ⟨xs, bs, wh, W, o8, o9, o10, o11, o12, o13, o14, rfl, ab, pt, co, en, hi, mmq, stq, gsp⟩
            rw [lbk] at stq
            exact ⟨_, mmq, xs, bs, wh, W, _, _, _, _, _, _, _, _, rfl, ab, pt, co, en, hi.done fun s t ls lt h a ha => stq a ha s t ls lt h, rfl, by omega⟩
        · have hW : W = [] := by
            cases W with
            | nil => rfl
            | cons c W => exact absurd rfl hne
          subst hW
          exact ⟨xs, bs, wh, _, _, _, _, _, _, _, _, rfl, ab, pt, co, en, hi⟩
      · exact fun σ H Q Q' hq => fun ⟨x, e1, b, tb, q⟩ => ⟨x, e1, b, tb, hq _ _ q⟩
    rintro σ' Hj ⟨xs, bs, wh, o7, o8, o9, o10, o11, o12, o13, o14, rfl, ab, pt, co, en, hi⟩
    refine ⟨_, rfl, ?_⟩
    exact k Bl xs bs wh Hj (s1.trans ab.sm) ab.gB ab.bl pt fun s t ls lt => hi.final fm pt co en ls lt
end
end K11
namespace K11
open PySem PySem.Spec PyProof.Rows L2 FL
theorem pi_tupK {X : Cx} {K : PySem.W.Frag} {tg l : Expr} {tl : TE} (hK : X.K = K) (hl : PE X l tl) : PI X tg l (iTup K tl) := by
  subst hK
  exact pi_tup hl
/-- so many classes as before -/
theorem few_num {n m most : Nat} {R : Rws} {E met : List Nat} (F : Frm n m R) (M : Met n m R E beqN met) (hm : ∀ l : List Nat, (∀ s ∈ l, s < n) → l.Pairwise (fun s t => ¬ eqvM R E m s t) → l.length ≤ most) :
    ∀ l : List Nat, (∀ p ∈ l, p < met.length) → l.Pairwise (fun p q => ¬ eqvM (numRows (rowOf R) beqN met) (numEnds (fun s => decide (s ∈ E)) met) m p q) → l.length ≤ most := fun l lt ap => by
  have st : ∀ p, p < met.length → Stands R E m met p (met.getD p 0) := fun p hp => ⟨met.getD p 0, by rw [List.getD_eq_getElem?_getD, List.getElem?_eq_getElem hp]; rfl, eqvM.refl _ _ _ _⟩
  have := hm (l.map fun p => met.getD p 0) (fun s hs => by
    obtain ⟨p, hp, rfl⟩ := List.mem_map.mp hs
    obtain ⟨x, ex, _⟩ := st p (lt p hp)
    have e2 : met.getD p 0 = x := by rw [List.getD_eq_getElem?_getD, ex]; rfl
    rw [e2]
    exact M.lt x (List.mem_of_getElem? ex)) (List.pairwise_map.mpr (List.Pairwise.imp_of_mem (fun {p q} hp hq h z => h ((stands_eqv F M beq_eqv (st p (lt p hp)) (st q (lt q hq))).mpr z)) ap))
  rwa [List.length_map] at this
abbrev sLeastForm : Stmt := topS 27
abbrev nLeastForm : List Str := ["rows", "ends", "most", "met_rows", "met_ends", "blocks", "where", "is_end", "block_rows", "block_ends", "end", "block", "state", "place"]
theorem scLeastForm : FnScope nLeastForm ["rows", "ends", "most"] (defScope sLeastForm) := ⟨rfl, rfl, rfl, by decide +kernel, rfl, by decide +kernel, by decide +kernel⟩
def spLeastForm (K : PySem.W.Frag) : Sp := fun vs H Q _ => ∃ (v e : V) (n m most : Nat) (R : Rws) (E : List Nat), vs = [v, e, .int (most : Nat)] ∧ RowsY K H v R ∧ Frm n m R ∧ 0 < n ∧ n ≤ 100000 ∧ m ≤ 1000 ∧ IntsY K H e E ∧ E.length ≤ 1000000
  ∧ (∀ l : List Nat, (∀ s ∈ l, s < n) → l.Pairwise (fun s t => ¬ eqvM R E m s t) → l.length ≤ most)
  ∧ ∀ (x : V) (R' : Rws) (E' : List Nat) (H' : Hp), Same H H' → FormN H H' x R' E' → LeastF R E m R' E' → Q x H'
section
variable {P : Program} {w : World} {K : PySem.W.Frag} {mg : Str → Option Value} {base : Heap}
theorem ok_leastform {f : Addr} {fd : FuncData} (F : Fun K "least_form" "least_form" sLeastForm f fd) (mE : mg "enumerate" = none)
    (cN : Ca P w K mg base "numbered" 1 ["rows", "start", "ends"] (spNumbered K)) (cA : Ca P w K mg base "alike_blocks" 2 ["rows", "ends", "most"] spAlike) (cP : Ca P w K mg base "block_places" 1 ["blocks"] spPlaces) :
    FnOk P w K mg base CX0 3 f fd ["rows", "ends", "most"] (spLeastForm K) := by
  refine F.ok scLeastForm (fun vs H Q E h => ?_) (fun cdv A outer s H vs Q Ex hr h => ?_)
  · obtain ⟨_, _, _, _, _, _, _, rfl, _⟩ := h
    rfl
  · obtain ⟨v, e, n, m, most, R, E, rfl, hR, fm, pn, ln, lm, hE, lE, hm, k⟩ := h
    have nd := scLeastForm.nd
    have sz : sizeLine = 16777216 := rfl
    have hr1 : Room 1 (A.deeper (envOfC "least_form" (defScope sLeastForm) s.heap.objs.size f cdv)) := hr.mono (by decide)
    have hu : (A.deeper (envOfC "least_form" (defScope sLeastForm) s.heap.objs.size f cdv)).units + 1 < cLine := by have := hr.un; omega
    refine ⟨_, pss_cons (ps_asg (pe_ca cN hr1 (by rfl) (pa_cons (pv 0) (pa_cons pe_int (pa_cons (pv 1) pa_nil)))) (pg_tup rfl (pgs_cons (pg_name (i := 3) nd rfl (.inr rfl)) (pgs_cons (pg_name (i := 4) nd rfl (.inl rfl)) pgs_nil))))
      (pss_cons (ps_set (i := 5) nd rfl (.inl rfl) (pe_ca cA hr (by rfl) (pa_cons (pv 3) (pa_cons (pv 4) (pa_cons (pv 2) pa_nil)))))
      (pss_cons (ps_set (i := 6) nd rfl (.inr rfl) (pe_ca cP hr1 (by rfl) (pa_cons (pv 5) pa_nil)))
      (C8.pss_cut (ps_set (i := 7) nd rfl (.inr rfl) (pe_dc (own := [("end", 10)]) (g := gName 10) (tt := tYes) rfl nd (pi_list (pv 4)) (blkOk_by (N := nLeastForm) (sc := defScope sLeastForm) (by decide +kernel)) (fun _ _ _ _ _ => pg_name (i := 10) nd rfl (Or.inl rfl)) (fun _ _ _ _ _ => pts_nil) (fun _ _ _ _ _ => pv 10) (fun _ _ _ _ _ => pe_bl)))
      (C8.pss_cut (ps_setLc (i := 8) (own := [("block", 11)]) (g := gName 11) (tt := tYes) (te := tLc (iTup K (tOp (rIxL K) (tVar 3) (tOp (rIxL K) (tVar 11) (tC (V.int 0))))) (gName 12) tYes (tOp (rIxL K) (tVar 6) (tVar 12)) [12]) rfl nd rfl rfl (sw_true rfl rfl rfl (by decide +kernel)) (pi_list (pv 5)) (blkOk_by (N := nLeastForm) (sc := defScope sLeastForm) (by decide +kernel)) (fun _ _ _ _ _ => pg_name (i := 11) nd rfl (Or.inl rfl)) (fun _ _ _ _ _ => pts_nil)
        (fun _ _ _ _ _ => pe_lc (own := [("state", 12)]) (g := gName 12) (tt := tYes) rfl nd (pi_tupK (K := K) rfl (pe_ix (ix_listK (K := K) rfl) (pv 3) (pe_ix (ix_listK (K := K) rfl) (pv 11) pe_int (fun _ _ => rfl)) (fun _ _ => rfl))) (blkOk_by (by kernel_rfl)) (fun _ _ _ _ _ => pg_name (i := 12) nd rfl (Or.inl rfl)) (fun _ _ _ _ _ => pts_nil)
          (fun _ _ _ _ _ => pe_ix (ix_listK (K := K) rfl) (pv 6) (pv 12) (fun _ _ => rfl))))
      (C8.pss_cut (ps_setLc (i := 9) (own := [("place", 13), ("block", 11)]) (g := gTup K 2 (gCons (gName 13) (gCons (gName 11) gNil))) rfl nd rfl rfl (sw_true rfl rfl rfl (by decide +kernel)) (pi_enum (by rfl) mE (pa_cons (pv 5) pa_nil)) (blkOk_by (N := nLeastForm) (sc := defScope sLeastForm) (by decide +kernel))
          (fun _ _ _ _ _ => pg_tup rfl (pgs_cons (pg_name (i := 13) nd rfl (Or.inl rfl)) (pgs_cons (pg_name (i := 11) nd rfl (Or.inl rfl)) pgs_nil))) (fun _ _ _ _ _ => pts_one (pt_cmp (pc_din hu (pe_ix (ix_listK (K := K) rfl) (pv 11) pe_int (fun _ _ => rfl)) (pv 7)))) (fun _ _ _ _ _ => pv 13))
      (pss_one (ps_ret (pe_ca cN hr1 (by rfl) (pa_cons (pv 8) (pa_cons (pe_ix ix_list (pv 6) pe_int (fun _ _ => rfl)) (pa_cons (pv 9) pa_nil))))))))))), ?_⟩
    refine ⟨_, rfl, _, rfl, v, e, 0, n, m, R, E, rfl, hR, fm, pn, by omega, lm, hE, lE, fun x met H1 s1 bf hx => ?_⟩
    obtain ⟨T, L1, D1, xs, rfl, gT, gL, hxs, gD, _, _⟩ := hx
    have M := met_of (E := E) fm pn (fun s => beqN_refl s) bf
    have F2 := num_frm fm M.lt M.cl
    have fewM : met.length ≤ n := few_of M.lt M.ap
    have pos2 : 0 < met.length := (List.getElem?_eq_some_iff.mp M.z).1
    have hm2 := few_num fm M hm
    have lt2 : ∀ p ∈ numEnds (fun s => decide (s ∈ E)) met, p < met.length := fun p h => numEnds_lt h
    have nd2 : (numEnds (fun s => decide (s ∈ E)) met).Nodup := (numEnds_sorted _ met).imp fun h => Nat.ne_of_lt h
    have back : ∀ {R' : Rws} {E' : List Nat}, LeastF (numRows (rowOf R) beqN met) (numEnds (fun s => decide (s ∈ E)) met) m R' E' → LeastF R E m R' E' := (least_num fm pn M beq_eqv).mp
    generalize numRows (rowOf R) beqN met = R2 at hxs F2 hm2 back
    generalize numEnds (fun s => decide (s ∈ E)) met = E2 at gD hm2 lt2 nd2 back ⊢
    generalize hn2 : met.length = n2 at F2 fewM pos2 hm2 lt2
    have lE2 : E2.length ≤ n2 := by
      have := nodup_sub nd2 (m := List.range n2) fun s hs => List.mem_range.mpr (lt2 s hs)
      rwa [List.length_range] at this
    refine ⟨T, _, rfl, SqT.of gT, rfl, _, _, rfl, _, _, rfl, rfl, ?_⟩
    refine ⟨_, rfl, _, rfl, _, rfl, L1, D1, xs, n2, m, most, R2, E2, rfl, gL, hxs, F2, pos2, by omega, lm, gD, nd2, lt2, hm2, fun Lb zs bs wh H2 s2 gb hb pt ok => ?_⟩
    refine ⟨_, rfl, Lb, zs, bs, n2, wh, rfl, gb, hb, pt, by omega, fun W H3 s3 hW gW => ?_⟩
    have s13 := s2.trans s3
    have gL3 := s13 _ _ gL
    have gD3 := s13 _ _ gD
    have gb3 := s3 _ _ gb
    have hb3 := hb.same s3
    have lzb : zs.length = bs.length := paired_lenM hb
    have lbn := pt.most
    have blk : ∀ {q : Nat} {x : V}, zs[q]? = some x → ∃ (b : Addr) (B : List Nat) (s0 : Nat), bs[q]? = some B ∧ x = .ref b ∧ H3 b = some (.lst (vN' B)) ∧ B[0]? = some s0 ∧ B.headD 0 = s0 ∧ s0 < n2 := fun {q x} hx => by
      obtain ⟨B, eB, b, rfl, g⟩ := paired_getM hb3 hx
      have ne := pt.ne B (List.mem_of_getElem? eB)
      cases B with
      | nil => exact absurd rfl ne
      | cons s0 B => exact ⟨b, _, s0, eB, rfl, g, rfl, rfl, ((pt.mem q _ eB s0).mp List.mem_cons_self).1⟩
    refine ⟨fun σ' H' => ∃ (Z : Addr) (kve : List (Key × V)), σ' = [some v, some e, some (.int (most : Nat)), some (.ref L1), some (.ref D1), some (.ref Lb), some (.ref W), some (.ref Z), none, none, none, none, none, none] ∧ Same H3 H' ∧ H' Z = some (.dK kve) ∧ EndK kve E2, ?_, ?_⟩
    · refine ⟨_, rfl, D1, rfl, ⟨_, SqL.of gD3⟩, fun Z hZ => ?_⟩
      refine dc_it (walk_list (xs := vN' E2)) (fun q Hq => Same H3 Hq ∧ ∃ kve, Hq Z = some (.dK kve) ∧ EndK kve (E2.take q)) ?_ ?_ ?_ ?_
      · exact ⟨(Same.refl H3).upd hZ, [], upd_same, EndK.nil⟩
      · rintro q Hq _ ⟨sq, _⟩
        exact SqL.of (sq _ _ gD3)
      · rintro q x Hq0 Hq hq ⟨sq, kve, zq, ek⟩ ⟨rfl, hx⟩
        obtain ⟨t, ht, rfl⟩ := ints_get hx
        exact ⟨rfl, _, rfl, kve, Sum.inl (t : Int), rfl, zq, (by have := ek.1; rw [List.length_take] at this; rw [sz]; omega), sq.upd hZ, _, upd_same, endK_take ek ht _⟩
      · rintro Hq ⟨sq, kve, zq, ek⟩
        rw [ints_len, List.take_length] at ek
        exact ⟨Z, kve, rfl, sq, zq, ek⟩
    rintro σ' H4 ⟨Z, kve, rfl, s4, gZ, ek⟩
    have s34 := s13.trans s4
    have wget : ∀ {s : Nat}, s < n2 → (vN' (fnL n2 wh))[s]? = some (.int (wh s : Nat)) := fun {s} h => by
      rw [List.getElem?_map, fnL_get h]
      rfl
    refine ⟨fun σ' H' => ∃ (Ba : Addr) (ys : List V), σ' = [some v, some e, some (.int (most : Nat)), some (.ref L1), some (.ref D1), some (.ref Lb), some (.ref W), some (.ref Z), some (.ref Ba), none, none, none, none, none] ∧ Same H4 H' ∧ H' Ba = some (.lst ys) ∧ Paired (RowY K H') ys (bs.map fun B => (rowOf R2 (B.headD 0)).map wh), ?_, ?_⟩
    · refine ⟨_, rfl, Lb, rfl, ⟨_, SqL.of (s4 _ _ gb3)⟩, fun Ba hBa => ?_⟩
      refine lc_it (walk_list (xs := zs)) (fun q Hq => Same H4 Hq ∧ ∃ ys, Hq Ba = some (.lst ys) ∧ ys.length = q ∧ Paired (fun x r => ∃ c : Addr, x = .ref c ∧ c ≠ Ba ∧ Hq c = some (.lst (vN' r))) ys ((bs.take q).map fun B => (rowOf R2 (B.headD 0)).map wh)) ?_ ?_ ?_ ?_
      · exact ⟨(Same.refl H4).upd hBa, [], upd_same, rfl, .nil⟩
      · rintro q Hq _ ⟨sq, _⟩
        exact SqL.of (sq _ _ (s4 _ _ gb3))
      · rintro q x Hq0 Hq hq ⟨sq, ys, cq, lq, pq⟩ ⟨rfl, hx⟩
        obtain ⟨b, B, s0, eB, rfl, g, e0, eh, ls0⟩ := blk hx
        obtain ⟨er, lr, gr⟩ := F2.rowOf ls0
        obtain ⟨xr, exr, T2, rfl, gT2⟩ := paired_getR hxs er
        have hq' : q < zs.length := hq
        refine ⟨rfl, _, rfl, _, rfl, b, _, ((0 : Nat) : Int), _, rfl, rfl, SqL.of ((s4.trans sq) _ _ g), ints_at e0, L1, _, _, _, rfl, rfl, SqL.of ((s34.trans sq) _ _ gL), atI_nat exr, T2, rfl, ⟨_, SqT.of ((s34.trans sq) _ _ gT2)⟩, fun C2 hC2 => ?_⟩
        refine lc_it (walk_tup (xs := vN' (rowOf R2 s0))) (fun j Hj => Same Hq Hj ∧ Hj C2 = some (.lst (vN' (((rowOf R2 s0).take j).map wh)))) ?_ ?_ ?_ ?_
        · exact ⟨(Same.refl Hq).upd hC2, upd_same⟩
        · rintro j Hj _ ⟨sj, _⟩
          exact SqT.of (sj _ _ ((s34.trans sq) _ _ gT2))
        · rintro j y Hj0 Hj hj ⟨sj, cj⟩ ⟨rfl, hy⟩
          obtain ⟨t, ht, rfl⟩ := ints_get hy
          have lt := row_lt F2 ls0 t (List.mem_of_getElem? ht)
          refine ⟨rfl, _, rfl, _, rfl, W, _, _, _, rfl, rfl, SqL.of (((s4.trans sq).trans sj) _ _ gW), atI_nat (wget lt), _, cj, (by rw [ints_len, List.length_map, List.length_take, sz]; omega), sj.upd hC2, ?_⟩
          rw [upd_same, take_snoc ht, List.map_append, nats_snoc]
          rfl
        · rintro Hj ⟨sj, cj⟩
          rw [ints_len, List.take_length] at cj
          have gR := sj _ _ cq
          have nC2 : C2 ≠ Ba := fun e => by rw [e, cq] at hC2; cases hC2
          refine ⟨ys, gR, (by rw [lq, sz]; omega), (sq.trans sj).upd hBa, ys ++ [.ref C2], upd_same, (by rw [List.length_append, lq]; rfl), ?_⟩
          rw [take_snoc eB, List.map_append]
          refine paired_snoc (L2.Paired.mapP pq fun x r ⟨c, e, ne, g⟩ => ⟨c, e, ne, by rw [upd_ne ne]; exact sj _ _ g⟩) ⟨C2, rfl, nC2, ?_⟩
          show upd Hj Ba _ C2 = some (HO.lst (vN' ((rowOf R2 (B.headD 0)).map wh)))
          rw [upd_ne nC2, eh]
          exact cj
      · rintro Hq ⟨sq, ys, cq, lq, pq⟩
        rw [lzb, List.take_length] at pq
        exact ⟨Ba, ys, rfl, sq, cq, L2.Paired.mapP pq fun x r ⟨c, e, _, g⟩ => ⟨c, e, SqY.lst g⟩⟩
    rintro σ' H5 ⟨Ba, ys, rfl, s5, gBa, hys⟩
    have s35 := s4.trans s5
    refine ⟨fun σ' H' => ∃ (Ea : Addr), σ' = [some v, some e, some (.int (most : Nat)), some (.ref L1), some (.ref D1), some (.ref Lb), some (.ref W), some (.ref Z), some (.ref Ba), some (.ref Ea), none, none, none, none] ∧ Same H5 H' ∧ H' Ea = some (.lst (vN' ((List.range bs.length).filter fun i => (bs[i]?).any fun B => decide (B.headD 0 ∈ E2)))), ?_, ?_⟩
    · refine ⟨_, rfl, Lb, _, rfl, SqL.of (s35 _ _ gb3), fun Ea hEa => ?_⟩
      refine lc_it (walk_enum (xs := zs)) (fun q Hq => Same H5 Hq ∧ Hq Ea = some (.lst (vN' ((List.range q).filter fun i => (bs[i]?).any fun B => decide (B.headD 0 ∈ E2))))) ?_ ?_ ?_ ?_
      · exact ⟨(Same.refl H5).upd hEa, upd_same⟩
      · rintro q Hq _ ⟨sq, _⟩
        exact SqL.of (sq _ _ (s35 _ _ gb3))
      · rintro q x Hq0 Hq hq ⟨sq, cq⟩ ⟨T', p, y, rfl, hT, rfl, e1, e2⟩
        obtain rfl : V.int (q : Nat) = p := Option.some.inj e1
        obtain ⟨b, B, s0, eB, rfl, g, e0, eh, ls0⟩ := blk e2
        have hq' : q < zs.length := hq
        have nET : Ea ≠ T' := ne_of_none cq hT
        have s2' : Same H5 (upd Hq0 T' (.tup [.int (q : Nat), .ref b])) := sq.upd (sq.none hT)
        have cq' : upd Hq0 T' (.tup [.int (q : Nat), .ref b]) Ea = some (.lst (vN' ((List.range q).filter fun i => (bs[i]?).any fun B => decide (B.headD 0 ∈ E2)))) := by rw [upd_ne nET]; exact cq
        refine ⟨T', _, rfl, SqT.of upd_same, rfl, _, _, rfl, _, _, rfl, rfl, rfl, ?_⟩
        generalize upd Hq0 T' (.tup [.int (q : Nat), .ref b]) = H6 at s2' cq' ⊢
        refine ⟨_, rfl, b, _, ((0 : Nat) : Int), _, rfl, rfl, SqL.of ((s35.trans s2') _ _ g), ints_at e0, _, rfl, Z, _, rfl, DGet.k (k := Sum.inl (s0 : Int)) ((s5.trans s2') _ _ gZ), _, rfl, ?_⟩
        have er : (List.range (q + 1)).filter (fun i => (bs[i]?).any fun B => decide (B.headD 0 ∈ E2)) = (List.range q).filter (fun i => (bs[i]?).any fun B => decide (B.headD 0 ∈ E2)) ++ if decide (s0 ∈ E2) = true then [q] else [] := by
          rw [List.range_succ, List.filter_append, List.filter_cons, eB]
          show _ ++ (if decide (B.headD 0 ∈ E2) = true then _ else _) = _
          rw [eh]
          rfl
        rw [ek.2 s0]
        cases c : decide (s0 ∈ E2) with
        | true =>
          refine iteT ?_
          refine ⟨_, rfl, _, cq', (by
            have := List.length_filter_le (fun i => (bs[i]?).any fun B => decide (B.headD 0 ∈ E2)) (List.range q)
            rw [List.length_range] at this
            rw [ints_len, sz]
            omega), s2'.upd hEa, ?_⟩
          rw [upd_same, er, c, if_pos rfl, nats_snoc]
        | false =>
          refine iteF ?_
          refine ⟨s2', ?_⟩
          rw [er, c, if_neg (by decide), List.append_nil]
          exact cq'
      · rintro Hq ⟨sq, cq⟩
        rw [lzb] at cq
        exact ⟨Ea, rfl, sq, cq⟩
    rintro σ' H6 ⟨Ea, rfl, s6, gEa⟩
    have hd : ∀ B ∈ bs, B.headD 0 < n2 := fun B hB => by
      have ne := pt.ne B hB
      obtain ⟨i, hi, rfl⟩ := List.mem_iff_getElem.mp hB
      match eB : bs[i], ne with
      | s0 :: B', _ => exact ((pt.mem i _ (by rw [List.getElem?_eq_getElem hi, eB]) s0).mp List.mem_cons_self).1
    have FB : Frm bs.length m (bs.map fun B => (rowOf R2 (B.headD 0)).map wh) := by
      refine ⟨List.length_map _, fun r hr => ?_, fun r hr t ht => ?_⟩
      · obtain ⟨B, hB, rfl⟩ := List.mem_map.mp hr
        rw [List.length_map]
        exact (F2.rowOf (hd B hB)).2.1
      · obtain ⟨B, hB, rfl⟩ := List.mem_map.mp hr
        obtain ⟨u, hu', rfl⟩ := List.mem_map.mp ht
        exact pt.lt _ (row_lt F2 (hd B hB) u hu')
    have lBE : ((List.range bs.length).filter fun i => (bs[i]?).any fun B => decide (B.headD 0 ∈ E2)).length ≤ 1000000 := by
      have := List.length_filter_le (fun i => (bs[i]?).any fun B => decide (B.headD 0 ∈ E2)) (List.range bs.length)
      rw [List.length_range] at this
      omega
    have ee : ∀ b B, bs[b]? = some B → (b ∈ ((List.range bs.length).filter fun i => (bs[i]?).any fun B => decide (B.headD 0 ∈ E2)) ↔ B.headD 0 ∈ E2) := fun b B eB => by
      rw [List.mem_filter, List.mem_range, eB]
      simp [(List.getElem?_eq_some_iff.mp eB).1]
    have s06 := (((s1.trans s13).trans s4).trans s5).trans s6
    refine ⟨_, rfl, _, rfl, W, _, ((0 : Nat) : Int), _, rfl, rfl, SqL.of ((s35.trans s6) _ _ gW), atI_nat (wget pos2), _, rfl, .ref Ba, .ref Ea, wh 0, bs.length, m, _, _, rfl, ⟨Ba, ys, rfl, SqY.lst (s6 _ _ gBa), L2.Paired.mapP hys fun x r ⟨c, e, g⟩ => ⟨c, e, g.same s6⟩⟩, FB, pt.lt 0 pos2, by omega, lm, ⟨Ea, rfl, SqY.lst gEa⟩, lBE, fun x met2 H7 s7 bf2 hx => ?_⟩
    exact k x _ _ H7 (s06.trans s7) (hx.back s06) (back (least_blocks F2 pos2 pt ok rfl ee ⟨met2, bf2, rfl, rfl⟩))
end
end K11
namespace FL
open PySem PySem.Spec PyProof.Rows L2
/-! ### a method called by keywords alone -/
def tMethK (C : Addr) (m : Str) (n : Nat) (sp : Sp) (gV : List V → List V → List V) (E : XK) (ta : TE) (tk : TA) : TE := fun σ H Q => ta σ H fun x H1 => ∃ a dx fs, x = .ref a ∧ H1 a = some (.ins C dx fs) ∧ fs.lookup m = none ∧
  tk σ H1 fun zs H2 => zs.length = n ∧ sp (gV [.ref a] zs) H2 Q E
section
variable {X : Cx} {CX : CXT} {k : Nat} {C f : Addr} {fd : FuncData} {ps ks : List Str} {sp : Sp} {E : XK} {m : Str} {o : Expr} {kws : List Keyword} {ta : TE} {tk : TA} {apos pos : Pos} {gg : List Value → List Value → List Value} {gV : List V → List V → List V}
theorem pe_methK {pl : Sem Bool} (he : PE X o ta) (c : Cls X.K C) (hm : Meth X.K C m f) (F : FnOk X.prog X.w X.K X.mg X.base CX k f fd ps sp) (hr : Room k X.A) (hb : KBn X.K fd ps 1 ks gg gV) (hx : Passes CX X E) (hkw : PK X kws tk)
    (hall : (backToKw pos (keywordEach kws X.env)).all (·.1.isSome) = true := by rfl) (hks : (backToKw pos (keywordEach kws X.env)).filterMap (·.1) = ks := by rfl)
    (hpl : ((backTo pos (starEach [] X.env)).any (·.1) || (backToKw pos (keywordEach kws X.env)).any (·.1.isNone)) = false := by rfl)
    (ht : eval (.Call (.Attribute o m apos) [] kws pos) X.env = (do
      let ov ← eval o X.env
      standAt apos.atName
      let (f, first) ← holding [ov] (getMethod ov m pl)
      callWith pos f first (backTo pos (starEach [] X.env)) (backToKw pos (keywordEach kws X.env))) := by rfl) :
    PE X (.Call (.Attribute o m apos) [] kws pos) (tMethK C m ks.length sp gV E ta tk) := by
  refine ⟨fun pins s σ H Q I h => ?_⟩
  refine PySem.W.methodCall_KW (pl := pl) (thn (he.run pins s σ H _ I h) fun u s1 ⟨x, H1, I1, rx, a, dx, fs, ex, ea, l, q⟩ => ?_) ht
  subst ex
  obtain rfl : u = Value.ref a := rx
  refine getmeth_ok I1 ea c hm l ?_
  refine PySem.W.callWith_KW0 (first := [.ref a]) (h₀ := X.base) I.ok.mod.kin hm.kp hall (thn (hkw.run pos pins s1 σ H1 _ I1 q) fun ws s2 ⟨zs, H2, I2, rz, l2, q2⟩ => ⟨I2.kIn, ?_⟩) hpl
  rw [hks]
  exact run_fnN F hr hb hx I2 (show Vals [V.ref a] [Value.ref a] from .cons rfl .nil) rz rfl l2 q2
end
end FL
namespace FL
open PySem PySem.Spec PyProof.Rows L2
section
variable {X : Cx}
/-! ### sorted(text), d.update(e) -/
def rSortT : List V → Hp → VK → Prop := fun xs H Q => ∃ z : Str, xs = [.str z] ∧ z.length < 64 ∧ ∀ (ys : List Str) (p : Addr), ys.Perm (z.cps.toList.map one) → sortedS ys = true → H p = none → Q (.ref p) (upd H p (.lst (ys.map V.str)))
theorem cr_sortedT (hc : X.calm = true) : CallR X (.builtin "sorted") rSortT := by
  intro pins s σ H xs us Q I r h
  obtain ⟨z, rfl, h64, q⟩ := h
  obtain ⟨u, rfl, t, rfl⟩ := vals1 r
  have sz : sizeLine = 16777216 := rfl
  refine Calls.call_function_entry PyProof.Rows.kind_sorted PyProof.Rows.plain_sorted PyProof.Rows.entry_sorted (PyProof.Rows.args_sorted1 _) ?_
  unfold Builtin.«sorted»
  refine wpAny_bind (m := checkCount "sorted" 1 1 _) (wpAny_pure ?_)
  have hz : z.cps.size < 64 := h64
  have hh : X.A.in1.handled = none := I.ok.hd hc
  refine wpAny_bind (wpAny_collect_str (hn := by rw [sz]; omega) hh z t fun s' acc hk hg hd ho hacc => ?_)
  obtain ⟨hp, gg, dd, tk, os⟩ := s'
  simp only at hk hg hd ho
  subst hg hd ho
  have vS := vals_signs hacc
  have e1 : z.cps.toList.map sign = (z.cps.toList.map one).map V.str := by rw [List.map_map]; rfl
  rw [e1] at vS
  have hS := vS.strs
  have hl : acc.toList.length < 64 := by rw [← vS.length, List.length_map, List.length_map, Array.length_toList]; exact hz
  refine wpAny_bind (wpAny_newList ?_ (by rw [sz]; omega))
  have hoL : (hp.push (seqObj "list" acc.toList.toArray 0)).get? hp.objs.size = some (seqObj "list" acc.toList.toArray 0) := Heap.get?_push_size _ rfl
  refine wpAny_bind (wpAny_holding (wpAny_call_entry PyProof.Rows.slot_list_sort ⟨_, hoL, rfl⟩ PyProof.Rows.entry_list_sort (list_sort_treeK strKind_oneLt hoL hS.keysOf (fun v₁ v₂ rest e => keyKind_strs (by rw [← e]; exact hS)) hl fun st' a1 a2 => ⟨_, rfl, ?_⟩) (PyProof.Rows.args_list_sort _)))
  refine wpAny_pure ⟨_, rfl, ?_⟩
  obtain ⟨ss', h1, h2, h3⟩ := sorted_out_str hS a1 a2
  obtain ⟨ep, he'⟩ := PyProof.Rows.sortedHeap_at (vs := acc.toList) (out := (PyProof.Rows.arrOf st').map (·.2)) hoL
  have hlen : (ss'.map V.str).length ≤ sizeLine := by rw [List.length_map, h2.length_eq, List.length_map, Array.length_toList, sz]; omega
  have kp : ∀ b o, hp.get? b = some o → (PyProof.Rows.sortedHeap (hp.push (seqObj "list" acc.toList.toArray 0)) hp.objs.size acc.toList ((PyProof.Rows.arrOf st').map (·.2))).get? b = some o := fun b o e => by
    have e3 : (hp.push (seqObj "list" acc.toList.toArray 0)).get? b = some o := Heap.get?_push_of_some _ e
    rw [PyProof.Rows.sortedHeap_old (Nat.ne_of_lt (Heap.lt_size e)) (Heap.lt_size e3)]
    exact e3
  have J : Inv X pins σ H { s with heap := hp, toks := tk } := I.kept hk
  exact ⟨.ref hp.objs.size, upd H hp.objs.size (.lst (ss'.map V.str)), J.laid (t' := tk) kp (Nat.le_refl _) ⟨hlen, _, ep, vals_of_strs h1, he'⟩, rfl, q ss' _ h2 h3 (J.hok.fresh (Nat.le_refl _))⟩
def rDUpd : V → List V → Hp → VK → Prop := fun x vs H Q => ∃ (a b : Addr) (kvs kws : List (Key × V)), x = .ref a ∧ vs = [.ref b] ∧ H a = some (.dK kvs) ∧ H b = some (.dK kws) ∧ a ≠ b ∧ kvs.length + kws.length ≤ sizeLine ∧ Q .non (upd H a (.dK (mergeK kvs kws)))
theorem mtd_update : MtR X "dict.update" rDUpd := by
  intro pins s σ H x vs v us Q I rx rv h
  obtain ⟨a, b, kvs, kws, ex, ev, ea, eb, hne, hl, q⟩ := h
  subst ex
  subst ev
  obtain rfl : v = Value.ref a := rx
  cases rv with
  | cons r1 r2 =>
    cases r2
    cases r1
    obtain ⟨z, hd, vs, rel, dd⟩ := dk_of I.hok ea
    obtain ⟨z2, hd2, vs2, rel2, dd2⟩ := dk_of I.hok eb
    refine call_meetsIn PySem.F.slot_dict_update dd.typeIs PySem.F.entry_dict_update (PySem.F.args_dict_update_2 _ _) (meets_dict_update (mixKind X.prog X.w) a b hne hd2)
      ⟨vs, vs2, dd, dd2, by rw [← rel.length, ← rel2.length]; exact hl, fun h' dd' _ hs => ?_⟩
    have he : ∃ q, h'.get? a = some q := let ⟨q, _, _, hq, _⟩ := dd'; ⟨q, hq⟩
    exact ⟨.non, _, d_write (t' := s.toks) I (by rw [ea]; exact True.intro) hs he (dk_new (Nat.le_trans (length_mergeK kws kvs) hl) hd (KV.merge rel2 rel) dd'), rfl, q⟩
end
end FL
namespace K11
open PySem PySem.Spec PyProof.Rows L2 FL
abbrev sIsSigns : Stmt := topS 14
abbrev sIsLine : Stmt := topS 15
section
variable {P : Program} {w : World} {K : PySem.W.Frag} {mg : Str → Option Value} {base : Heap}
theorem scIsLine : FnScope ["signs", "value"] ["signs", "value"] (defScope sIsLine) :=
  ⟨rfl, rfl, rfl, by decide +kernel, rfl, by decide +kernel, by decide +kernel⟩
theorem ok_isline {f : Addr} {fd : FuncData} (F : Fun K "is_line" "is_line" sIsLine f fd)
    (mI : mg "isinstance" = none) (mS : mg "str" = none) :
    FnOk P w K mg base CX0 1 f fd ["signs", "value"] spLine := by
  refine F.ok scIsLine (fun vs H Q E h => ?_) (fun cdv A outer s H vs Q E hr h => ?_)
  · obtain ⟨_, _, _, rfl, _⟩ := h
    rfl
  · obtain ⟨sg, v, n, rfl, an, sh, k⟩ := h
    refine ⟨_, pss_one (ps_ret (pe_and (pe_callB call_isA (by rfl) mI (by decide +kernel)
        (pa_cons (pv 1) (pa_cons (pe_bltn (v := .ty "str") (by rfl) mS (by decide +kernel) rfl) pa_nil)))
      (pe_one (pe_cmpR op_eq (pe_bm PySem.F.plainAttrs_str PySem.F.slot_str_strip PySem.F.type_str_strip mt_stripChars (pv 1) (pa_cons (pv 0) pa_nil)) pe_str (nomark _))))), ?_⟩
    refine ⟨v, rfl, v, n, "str", rfl, an, by decide, _, rfl, ?_⟩
    cases an with
    | str z =>
      refine ⟨.str z, rfl, rfl, .str sg, rfl, z, sg, rfl, rfl, sh z rfl, rfl, ?_⟩
      have e : decide (V.str (Txt.stripChars z sg) = V.str (Str.ofString "")) = lineB sg (.str z) := by
        show _ = decide (Txt.stripChars z sg = (Str.ofString ""))
        by_cases h : Txt.stripChars z sg = Str.ofString ""
        · rw [h]
          simp
        · rw [decide_eq_false h, decide_eq_false]
          intro q
          exact h (V.str.inj q)
      rw [e]
      exact k
    | _ => exact k
abbrev nIsSigns : List Str := ["value", "rising", "first", "second"]
theorem scIsSigns : FnScope nIsSigns ["value"] (defScope sIsSigns) :=
  ⟨rfl, rfl, rfl, by decide +kernel, rfl, by decide +kernel, by decide +kernel⟩
theorem ok_issigns {f g : Addr} {fd gd : FuncData} (F : Fun K "is_signs" "is_signs" sIsSigns f fd)
    (G : FnOk P w K mg base CX0 1 g gd ["signs", "value"] spLine) (bG : Binds K gd ["signs", "value"] [])
    (kG : PySem.W.keepIn K (.ref g) = true) (mG : mg "is_line" = some (.ref g)) {tk : Tok}
    (mC : mg "SIGN_CHARACTERS" = some (.str signChars tk))
    (mI : mg "isinstance" = none) (mS : mg "str" = none) (mN : mg "len" = none) (mA : mg "all" = none) (mZ : mg "zip" = none) :
    FnOk P w K mg base CX0 2 f fd ["value"] spSigns := by
  refine F.ok scIsSigns (fun vs H Q E h => ?_) (fun cdv A outer s H vs Q E hr h => ?_)
  · obtain ⟨_, _, rfl, _⟩ := h
    rfl
  · obtain ⟨v, n, rfl, an, sh, k⟩ := h
    have nd := scIsSigns.nd
    refine ⟨_, pss_cons (ps_if (PW.pt (pw_or (pt_not (pt_val (pe_callB call_isA (by rfl) mI (by decide +kernel)
          (pa_cons (pv 0) (pa_cons (pe_bltn (v := .ty "str") (by rfl) mS (by decide +kernel) rfl) pa_nil)))))
        (pw_or (pt_cmpR op_lt (pe_callB callLen (by rfl) mN PySem.boot_len (pa_cons (pv 0) pa_nil)) pe_int (nomark _))
        (pw_or1 (pt_cmpR op_gt (pe_callB callLen (by rfl) mN PySem.boot_len (pa_cons (pv 0) pa_nil)) pe_int (nomark _))))))
        (pss_one (ps_ret pe_bl)) pss_nil)
      (pss_cons (ps_set (i := 1) nd rfl (.inl rfl) (pe_callB (cr_all rfl) (by rfl) mA (by decide +kernel)
        (pa_cons (pe_lc (own := [("first", 2), ("second", 3)]) (g := gTup K 2 (gCons (gName 2) (gCons (gName 3) gNil))) (tt := tYes) rfl nd
          (pi_zipS (by rfl) mZ (pa_cons (pv 0) (pa_cons (pe_slice sl_str (pv 0) (po_some pe_int) po_none) pa_nil)))
          (blkOk_by (N := nIsSigns) (sc := defScope sIsSigns) (by decide +kernel))
          (fun _ _ _ _ _ => pg_tup rfl (pgs_cons (pg_name (i := 2) nd rfl (Or.inl rfl)) (pgs_cons (pg_name (i := 3) nd rfl (Or.inl rfl)) pgs_nil)))
          (fun _ _ _ _ _ => pts_nil)
          (fun _ _ _ _ _ => pe_cmpR op_lt_str (pv 2) (pv 3) (nomark _))) pa_nil)))
      (pss_one (ps_ret (pe_and (pv 1) (pe_one (pe_call G hr (by rfl) mG kG bG .nil pass0 (pa_cons (pe_glob (v := .str signChars) rfl mC ⟨_, rfl⟩) (pa_cons (pv 0) pa_nil)))))))), ?_⟩
    refine ⟨v, rfl, v, n, "str", rfl, an, by decide, _, rfl, ?_⟩
    cases an with
    | str z =>
      have lz : z.length ≤ sizeLine := sh z rfl
      have hl := str_len z
      refine iteF ?_
      refine ⟨_, rfl, _, z.length, rfl, ⟨lz, rfl⟩, _, _, rfl, rfl, _, rfl, ?_⟩
      by_cases h2 : (z.length : Int) < 2
      · rw [decide_eq_true h2]
        refine iteT ?_
        refine iteT ?_
        have e : signsB (.str z) = false := by
          show (decide (2 ≤ z.length) && _) = false
          rw [decide_eq_false (by omega)]
          rfl
        have := k H (Same.refl H)
        rw [e] at this
        exact this
      rw [decide_eq_false h2]
      refine iteF ?_
      refine ⟨_, rfl, _, z.length, rfl, ⟨lz, rfl⟩, _, _, rfl, rfl, _, rfl, ?_⟩
      by_cases h4 : (z.length : Int) > 4
      · rw [decide_eq_true h4]
        refine iteT ?_
        have e : signsB (.str z) = false := by
          show (decide (2 ≤ z.length) && (decide (z.length ≤ 4) && _)) = false
          rw [decide_eq_false (show ¬ z.length ≤ 4 by omega)]
          simp
        have := k H (Same.refl H)
        rw [e] at this
        exact this
      rw [decide_eq_false h4]
      refine iteF ?_
      refine ⟨_, rfl, _, rfl, 1, rfl, z, rfl, lz, z, cutS z (some 1) none, rfl, fun D hD => ?_⟩
      have sz : sizeLine = 16777216 := rfl
      have ltail : (cutS z (some 1) none).cps.size = z.cps.toList.tail.length := by rw [← cut_tail, Array.length_toList]
      refine lc_it walk_zipS (fun t Ht => Same H Ht ∧ Ht D = some (.lst (((rise z.cps.toList).take t).map V.bl))) ?_ (fun _ _ _ _ => trivial) ?_ ?_
      · exact ⟨(Same.refl H).upd hD, upd_same⟩
      · rintro t x Ht _ ht ⟨g1, g2⟩ ⟨T, a, b, rfl, hT, rfl, ha, hb⟩
        refine ⟨T, _, rfl, SqT.of upd_same, rfl, _, _, rfl, _, _, rfl, rfl, rfl, ?_⟩
        refine ⟨_, rfl, _, rfl, _, _, rfl, rfl, ?_⟩
        have nDT : D ≠ T := ne_of_none g2 hT
        have ra : z.cps.toList[t]? = some a := by simpa using ha
        have rb : z.cps.toList.tail[t]? = some b := by
          rw [← cut_tail]
          simpa using hb
        refine ⟨_, by rw [upd_ne nDT]; exact g2, ?_, (g1.upd (g1.none hT)).upd hD, ?_⟩
        · rw [List.length_map, List.length_take, sz]
          have : t < z.cps.size := by omega
          have : z.cps.size = z.length := rfl
          omega
        · rw [upd_same, take_snoc (rise_get ra rb), List.map_append]
          rfl
      · rintro Ht ⟨g1, g2⟩
        refine ⟨D, (rise z.cps.toList).take _, rfl, SqL.of g2, ?_⟩
        have eall : (rise z.cps.toList).take (min z.cps.size (cutS z (some 1) none).cps.size) = rise z.cps.toList := by
          apply List.take_of_length_le
          unfold rise
          rw [List.length_zipWith, ltail, Array.length_toList]
          exact Nat.le_refl _
        rw [eall]
        refine ⟨_, rfl, _, rfl, ?_⟩
        have es : signsB (.str z) = ((rise z.cps.toList).all id && lineB signChars (.str z)) := by
          show (decide (2 ≤ z.length) && (decide (z.length ≤ 4) && _)) = _
          rw [decide_eq_true (show 2 ≤ z.length by omega), decide_eq_true (show z.length ≤ 4 by omega)]
          rfl
        have kk := k Ht g1
        rw [es] at kk
        cases hq : (rise z.cps.toList).all id with
        | true =>
          rw [hq] at kk
          exact ⟨_, rfl, signChars, .str z, "str", rfl, .str z, sh, kk⟩
        | false =>
          rw [hq] at kk
          exact kk
    | _ => exact k H (Same.refl H)
end
end K11
namespace K11
open PySem PySem.Spec PyProof.Rows L2 FL
abbrev sIsList : Stmt := topS 13
abbrev sCheckSigns : Stmt := topS 17
abbrev sIsInt : Stmt := topS 12
section
variable {P : Program} {w : World} {K : PySem.W.Frag} {mg : Str → Option Value} {base : Heap}
theorem scCheckSigns : FnScope ["signs"] ["signs"] (defScope sCheckSigns) := ⟨rfl, rfl, rfl, by decide +kernel, rfl, by decide +kernel, by decide +kernel⟩
theorem ok_checksigns {f g : Addr} {fd gd : FuncData} (F : Fun K "check_signs" "check_signs" sCheckSigns f fd)
    (G : FnOk P w K mg base CX0 2 g gd ["value"] spSigns) (bG : Binds K gd ["value"] [])
    (kG : PySem.W.keepIn K (.ref g) = true) (mG : mg "is_signs" = some (.ref g)) : FnOk P w K mg base CX0 3 f fd ["signs"] spCheckSigns := by
  refine F.ok scCheckSigns (fun vs H Q E h => ?_) (fun cdv A outer s H vs Q E hr h => ?_)
  · obtain ⟨_, rfl, _⟩ := h
    rfl
  · obtain ⟨z, rfl, hz, k⟩ := h
    refine ⟨_, pss_one (ps_if (pt_not (pt_val (pe_call G hr (by rfl) mG kG bG .nil pass0 (pa_cons (pv 0) pa_nil)))) (pss_one ps_never) pss_nil), ?_⟩
    refine ⟨_, rfl, .str z, "str", rfl, .str z, ?_, fun H' sm => ?_⟩
    · intro y e
      cases e
      have := hz.hi
      exact Nat.le_trans this (by decide)
    · rw [abc_signs hz]
      exact ⟨_, rfl, k H' sm⟩
theorem scIsList : FnScope ["value"] ["value"] (defScope sIsList) := ⟨rfl, rfl, rfl, by decide +kernel, rfl, by decide +kernel, by decide +kernel⟩
theorem ok_islist {f : Addr} {fd : FuncData} (F : Fun K "is_list" "is_list" sIsList f fd)
    (mI : mg "isinstance" = none) (mL : mg "list" = none) (mT : mg "tuple" = none) : FnOk P w K mg base CX0 1 f fd ["value"] spIsList := by
  refine F.ok scIsList (fun vs H Q E h => ?_) (fun cdv A outer s H vs Q E hr h => ?_)
  · obtain ⟨_, _, rfl, _⟩ := h
    rfl
  · obtain ⟨v, n, rfl, an, k⟩ := h
    refine ⟨_, pss_one (ps_ret (pe_callB call_isiT (by rfl) mI (by decide +kernel) (pa_cons (pv 0) (pa_cons
      (pe_tup (pa_cons (pe_bltn (v := .ty "list") (by rfl) mL (by decide +kernel) rfl) (pa_cons (pe_bltn (v := .ty "tuple") (by rfl) mT (by decide +kernel) rfl) pa_nil))) pa_nil)))), ?_⟩
    refine ⟨_, rfl, by decide, fun p hp => ?_⟩
    have an2 : Any (upd H p (.tup [.ty "list", .ty "tuple"])) v n := an.same fun a o _ e => by rw [upd_ne (ne_of_none e hp)]; exact e
    exact ⟨v, p, _, _, _, _, rfl, upd_same, .cons (.ty "list") (.cons (.ty "tuple") .nil), an2.tyx, kit_lt an.kind, k _ ((Same.refl H).upd hp)⟩
def spInt1 : Sp := fun vs H Q _ => ∃ (i : Int), vs = [.int i] ∧ Q (.bl true) H
theorem scIsInt : FnScope ["value"] ["value"] (defScope sIsInt) := ⟨rfl, rfl, rfl, by decide +kernel, rfl, by decide +kernel, by decide +kernel⟩
theorem ok_isint {f : Addr} {fd : FuncData} (F : Fun K "is_integer" "is_integer" sIsInt f fd) (mI : mg "isinstance" = none) (mN : mg "int" = none) (mB : mg "bool" = none) :
    FnOk P w K mg base CX0 1 f fd ["value"] spInt1 := by
  refine F.ok scIsInt (fun vs H Q E h => ?_) (fun cdv A outer s H vs Q E hr h => ?_)
  · obtain ⟨_, rfl, _⟩ := h
    rfl
  · obtain ⟨i, rfl, k⟩ := h
    refine ⟨_, pss_one (ps_ret (pe_and (pe_callB call_isA (by rfl) mI (by decide +kernel)
        (pa_cons (pv 0) (pa_cons (pe_bltn (v := .ty "int") (by rfl) mN (by decide +kernel) rfl) pa_nil)))
      (pe_one (pe_not (pe_callB call_isA (by rfl) mI (by decide +kernel)
        (pa_cons (pv 0) (pa_cons (pe_bltn (v := .ty "bool") (by rfl) mB (by decide +kernel) rfl) pa_nil))))))), ?_⟩
    exact ⟨_, rfl, _, "int", "int", rfl, .int i, by decide, _, rfl, _, rfl, _, "int", "bool", rfl, .int i, by decide, _, rfl, k⟩
end
end K11
namespace K11
open PySem PySem.Spec PyProof.Rows L2 FL
abbrev sDraw : Stmt := topS 41
section
variable {P : Program} {w : World} {K : PySem.W.Frag} {mg : Str → Option Value} {base : Heap}
theorem scDraw : FnScope ["_law_pot_here", "_law_span", "_law_digit"] ["_law_pot_here", "_law_span"] (defScope sDraw) :=
  ⟨rfl, rfl, rfl, by decide +kernel, rfl, by decide +kernel, by decide +kernel⟩
theorem ok_draw {f : Addr} {fd : FuncData} (F : Fun K "_law_draw" "_law_draw" sDraw f fd)
    (mD : mg "divmod" = none) (mI : mg "int" = none) :
    FnOk P w K mg base CX0 1 f fd ["_law_pot_here", "_law_span"] spDraw := by
  refine F.ok scDraw (fun vs H Q E h => ?_) (fun cdv A outer s H vs Q E hr h => ?_)
  · obtain ⟨p, n, rfl, _⟩ := h
    rfl
  · obtain ⟨p, n, rfl, ⟨a, b, hp, a0, b0, b1⟩, n0, n1, k⟩ := h
    refine ⟨_, pss_cons (ps_if (pt_cmpR op_gt (pe_ix ix_list (pv 0) pe_int (fun _ _ => rfl)) pe_int (nomark _))
        (pss_cons (ps_asg (pe_callB call_divmod (by rfl) mD (by decide +kernel)
            (pa_cons (pe_ix ix_list (pv 0) pe_int (fun _ _ => rfl)) (pa_cons (pv 1) pa_nil)))
            (pg_tup rfl (pgs_cons (pg_sub (pv 0) pe_int set_list) (pgs_cons (pg_name (i := 2) scDraw.nd rfl (.inl rfl)) pgs_nil))))
          (pss_one (ps_ret (pv 2)))) pss_nil)
      (pss_cons (ps_asg (pe_op op_mod (pe_callTy call_int1 (by rfl) mI (by decide +kernel)
            (pa_cons (pe_op op_add (pe_op op_mul (pe_ix ix_list (pv 0) pe_int (fun _ _ => rfl)) pe_int) pe_int) pa_nil)) pe_int)
          (pg_sub (pv 0) pe_int set_list))
      (pss_one (ps_ret (pe_op op_mod (pe_callTy call_int1 (by rfl) mI (by decide +kernel)
        (pa_cons (pe_op op_fdiv (pe_op op_mod (pe_callTy call_int1 (by rfl) mI (by decide +kernel)
          (pa_cons (pe_op op_mul (pe_ix ix_list (pv 0) pe_int (fun _ _ => rfl)) (pe_ix ix_list (pv 0) pe_int (fun _ _ => rfl))) pa_nil)) pe_int) pe_int) pa_nil)) (pv 1))))), ?_⟩
    refine ⟨_, rfl, p, _, _, .int a, rfl, rfl, SqL.of hp, rfl, _, _, rfl, rfl, _, rfl, ?_⟩
    refine ite2 (fun hc => ?_) (fun hc => ?_)
    · refine ⟨_, rfl, p, _, _, .int a, rfl, rfl, SqL.of hp, rfl, _, rfl, a, n, rfl, ⟨n0, n1⟩, fun q hq => ?_⟩
      have npq : p ≠ q := ne_of_none hp hq
      have hp1 : upd H q (.tup [.int (a / n), .int (a % n)]) p = some (.lst [.int a, .int b]) := by
        rw [upd_ne npq]
        exact hp
      refine ⟨q, _, rfl, SqT.of upd_same, rfl, _, _, rfl, _, rfl, p, _, _, 0, rfl, rfl, hp1, rfl, _, _, rfl, rfl, _, rfl, ?_⟩
      refine k (a % n) _ (Int.emod_nonneg _ (by omega)) (Int.emod_lt_of_pos _ n0) ?_ fun c o e nc => ?_
      · exact ⟨a / n, b, upd_same, Int.ediv_nonneg a0 (by omega), b0, b1⟩
      · rw [upd_ne nc, upd_ne (ne_of_none e hq)]
        exact e
    · refine ⟨_, rfl, p, _, _, .int b, rfl, rfl, SqL.of hp, rfl, _, _, rfl, rfl, .inl ⟨by omega, by omega⟩, _, _, rfl, rfl, .inl ⟨_, rfl, _, _, rfl, rfl, (by show (0 : Int) < 2147483587; decide), ?_⟩⟩
      refine ⟨_, rfl, p, _, _, 1, rfl, rfl, hp, rfl, ?_⟩
      have c0 : 0 ≤ (b * 48271 + 12161) % 2147483587 := Int.emod_nonneg _ (by decide)
      have c1 : (b * 48271 + 12161) % 2147483587 < 2147483587 := Int.emod_lt_of_pos _ (by decide)
      refine ⟨_, rfl, p, _, _, _, rfl, rfl, SqL.of upd_same, rfl, _, rfl, p, _, _, _, rfl, rfl, SqL.of upd_same, rfl, _, _, rfl, rfl, .inl ⟨Int.lt_of_lt_of_le (by decide) c0, Int.lt_trans c1 (by decide)⟩, .inl ⟨_, rfl, _, _, rfl, rfl, (by show (0 : Int) < 2147483549; decide), _, _, rfl, rfl, ⟨by decide, by decide⟩, .inl ⟨_, rfl, _, rfl, _, _, rfl, rfl, n0, ?_⟩⟩⟩
      refine k _ _ (Int.emod_nonneg _ (by omega)) (Int.emod_lt_of_pos _ n0) ?_ fun c o e nc => ?_
      · exact ⟨a, _, upd_same, a0, c0, by omega⟩
      · rw [upd_ne nc]
        exact e
end
end K11
namespace K11
open PySem PySem.Spec PyProof.Rows L2 FL
abbrev sPot : Stmt := topS 40
abbrev sPick : Stmt := topS 42
section
variable {P : Program} {w : World} {K : PySem.W.Frag} {mg : Str → Option Value} {base : Heap}
theorem scPick : FnScope ["_law_pot_here", "_law_some"] ["_law_pot_here", "_law_some"] (defScope sPick) :=
  ⟨rfl, rfl, rfl, by decide +kernel, rfl, by decide +kernel, by decide +kernel⟩
theorem ok_pick {f g : Addr} {fd gd : FuncData} (F : Fun K "_law_pick" "_law_pick" sPick f fd)
    (G : FnOk P w K mg base CX0 1 g gd ["_law_pot_here", "_law_span"] spDraw) (bG : Binds K gd ["_law_pot_here", "_law_span"] [])
    (kG : PySem.W.keepIn K (.ref g) = true) (mG : mg "_law_draw" = some (.ref g)) (mL : mg "len" = none) :
    FnOk P w K mg base CX0 2 f fd ["_law_pot_here", "_law_some"] (spPick K) := by
  refine F.ok scPick (fun vs H Q E h => ?_) (fun cdv A outer s H vs Q E hr h => ?_)
  · obtain ⟨p, v, rfl, _⟩ := h
    rfl
  · obtain ⟨p, v, rfl, hp, h⟩ := h
    refine ⟨_, pss_one (ps_ret (pe_ix ix_seq (pv 1) (pe_call G hr (by rfl) mG kG bG .nil pass0
      (pa_cons (pv 0) (pa_cons (pe_callB call_len (by rfl) mL PySem.boot_len (pa_cons (pv 1) pa_nil)) pa_nil))) (fun _ _ => rfl))), ?_⟩
    rcases h with ⟨q, xs, rfl, nq, hq, l0, l1, k⟩ | ⟨z, rfl, l0, l1, k⟩
    · refine ⟨_, rfl, _, rfl, _, rfl, _, xs.length, rfl, .inl ⟨_, hq, rfl⟩, p, (xs.length : Int), rfl, hp, by omega, by omega, fun d H' d0 d1 hp' bt => ?_⟩
      obtain ⟨x, hx, e⟩ := atI_lt d0 d1
      exact .inl ⟨q, xs, d, x, rfl, rfl, bt.sqL nq hq, e, k x H' hx hp' bt⟩
    · refine ⟨_, rfl, _, rfl, _, rfl, _, z.length, rfl, ⟨Nat.le_trans l1 (by decide), rfl⟩, p, (z.length : Int), rfl, hp, by omega, by omega, fun d H' d0 d1 hp' bt => ?_⟩
      rw [str_len] at d1
      obtain ⟨x, hx, e⟩ := atI_lt d0 d1
      exact .inr (.inr ⟨z, d, x, rfl, rfl, Nat.le_trans l1 (by decide), e, k x H' hx hp' bt⟩)
end
end K11
namespace FL
open PySem PySem.Spec PyProof.Rows L2
def spMixed (K : PySem.W.Frag) : Sp := fun vs H Q _ => ∃ (p q : Addr) (xs : List V), vs = [.ref p, .ref q] ∧ PotAt H p ∧ SqL K H q xs ∧ q ≠ p ∧ xs.length ≤ 1000 ∧
  ∀ (D : Addr) (ys : List V) (H' : Hp), (∀ y ∈ ys, y ∈ xs) → ys.length = xs.length → H D = none → H' D = some (.lst ys) → PotAt H' p → But p H H' → Q (.ref D) H'
theorem seqIx {n : Nat} {d : Int} (h0 : 0 ≤ d) (h1 : d < (n : Int)) : seqIndex? d n = some d.toNat := by
  unfold seqIndex?
  simp
  omega
end FL
namespace K11
open PySem PySem.Spec PyProof.Rows L2 FL
/-- the same items in another sequence -/
def spMixedP (K : PySem.W.Frag) : Sp := fun vs H Q _ => ∃ (p q : Addr) (xs : List V), vs = [.ref p, .ref q] ∧ PotAt H p ∧ SqL K H q xs ∧ q ≠ p ∧ xs.length ≤ 1000 ∧
  ∀ (D : Addr) (ys : List V) (H' : Hp), ys.Perm xs → H D = none → H' D = some (.lst ys) → PotAt H' p → But p H H' → Q (.ref D) H'
abbrev sMixed : Stmt := topS 43
section
variable {P : Program} {w : World} {K : PySem.W.Frag} {mg : Str → Option Value} {base : Heap}
theorem scMixedP : FnScope ["_law_pot_here", "_law_some", "_law_pack", "_law_turn"] ["_law_pot_here", "_law_some"] (defScope sMixed) :=
  ⟨rfl, rfl, rfl, by decide +kernel, rfl, by decide +kernel, by decide +kernel⟩
theorem ok_mixedP {f g : Addr} {fd gd : FuncData} (F : Fun K "_law_mixed" "_law_mixed" sMixed f fd)
    (G : FnOk P w K mg base CX0 1 g gd ["_law_pot_here", "_law_span"] spDraw) (bG : Binds K gd ["_law_pot_here", "_law_span"] [])
    (kG : PySem.W.keepIn K (.ref g) = true) (mG : mg "_law_draw" = some (.ref g))
    (mL : mg "list" = none) (mN : mg "len" = none) (mR : mg "range" = none) :
    FnOk P w K mg base CX0 2 f fd ["_law_pot_here", "_law_some"] (spMixedP K) := by
  refine F.ok scMixedP (fun vs H Q E h => ?_) (fun cdv A outer s H vs Q E hr h => ?_)
  · obtain ⟨_, _, _, rfl, _⟩ := h
    rfl
  · obtain ⟨p, q, xs, rfl, hp, hq, nq, lx, k⟩ := h
    refine ⟨_, pss_cons (ps_set (i := 2) scMixedP.nd rfl (.inr rfl) (pe_callTy call_list_of (by rfl) mL (by decide +kernel) (pa_cons (pv 1) pa_nil)))
      (pss_one (ps_ret (pe_lc (own := [("_law_turn", 3)]) (g := gName 3) (tt := tYes) (te := tBM K "list" rPopAt (tVar 2) (tCons (tCall spDraw [] E0 (tCons (tVar 0) (tCons (tCB (FL.rLen K) (tCons (tVar 2) tNil)) tNil))) tNil)) rfl scMixedP.nd
        (pi_range1 (by rfl) mR (pa_cons (pe_callB callLen (by rfl) mN PySem.boot_len (pa_cons (pv 1) pa_nil)) pa_nil))
        (blkOk_by (N := ["_law_pot_here", "_law_some", "_law_pack", "_law_turn"]) (sc := defScope sMixed) (by decide +kernel))
        (fun _ _ _ _ _ => pg_name (i := 3) scMixedP.nd rfl (Or.inl rfl)) (fun _ _ _ _ _ => pts_nil)
        (fun _ _ _ _ _ => pe_bm PySem.F.plainAttrs_list PySem.F.slot_list_pop PySem.F.type_list_pop mtPopAt (pv 2)
          (pa_cons (pe_call G hr (by rfl) mG kG bG .nil pass0 (pa_cons (pv 0) (pa_cons (pe_callB callLen (by rfl) mN PySem.boot_len (pa_cons (pv 2) pa_nil)) pa_nil))) pa_nil))))), ?_⟩
    refine ⟨_, rfl, q, xs, rfl, .inl hq, fun B hB => ?_⟩
    have npB : p ≠ B := hp.ne hB
    refine ⟨_, rfl, _, xs.length, rfl, .inl ⟨_, sqL_upd hq hB, rfl⟩, (xs.length : Int), rfl, by omega, by omega, fun D hD => ?_⟩
    have hDB : D ≠ B := fun e => by
      rw [e, upd_same] at hD
      cases hD
    have hD0 : H D = none := by
      rw [upd_ne hDB] at hD
      exact hD
    have npD : p ≠ D := hp.ne hD0
    refine lc_range (lo := 0) (n := ((xs.length : Nat) : Int).toNat) (fun i Hi => PotAt Hi p ∧ But p H Hi ∧ ∃ rest acc : List V, Hi B = some (.lst rest) ∧ Hi D = some (.lst acc)
      ∧ acc.length = i ∧ rest.length + i = xs.length ∧ (rest ++ acc).Perm xs) ?_ ?_ ?_
    · refine ⟨(hp.upd npB).upd npD, ((But.refl p H).upd hB).upd hD0, xs, [], ?_, upd_same, rfl, rfl, by rw [List.append_nil]⟩
      rw [upd_ne (Ne.symm hDB), upd_same]
    · rintro i Hi hi ⟨hpi, bi, rest, acc, hr1, ha, l1, l2, pm⟩
      refine ⟨rfl, ?_⟩
      refine ⟨_, rfl, .inl ⟨rfl, _, SqL.of hr1⟩, _, rfl, _, rfl, _, rest.length, rfl, .inl ⟨_, SqL.of hr1, rfl⟩, p, (rest.length : Int), rfl, hpi, by omega, by omega, fun d H2 d0 d1 hp2 b2 => ?_⟩
      have hB2 := b2 B _ hr1 (Ne.symm npB)
      have hD2 := b2 D _ ha (Ne.symm npD)
      have hlt : d.toNat < rest.length := by omega
      refine ⟨B, rest, d, d.toNat, rest[d.toNat], rfl, rfl, hB2, by omega, by omega, seqIx d0 d1, List.getElem?_eq_getElem hlt, ?_⟩
      refine ⟨acc, by rw [upd_ne hDB]; exact hD2, ?_, ?_, ?_, rest.eraseIdx d.toNat, acc ++ [rest[d.toNat]], ?_, upd_same, ?_, ?_, ?_⟩
      · exact Nat.lt_of_lt_of_le (show acc.length < 2000 by omega) (by decide)
      · exact (hp2.upd npB).upd npD
      · exact ((bi.trans b2).upd hB).upd hD0
      · rw [upd_ne (Ne.symm hDB), upd_same]
      · rw [List.length_append, l1]
        rfl
      · rw [List.length_eraseIdx_of_lt hlt]
        omega
      · have q1 : (rest.eraseIdx d.toNat ++ (acc ++ [rest[d.toNat]])).Perm (rest[d.toNat] :: (rest.eraseIdx d.toNat ++ acc)) := by
          rw [← List.append_assoc]
          exact List.perm_append_singleton _ _
        exact q1.trans (((perm_erase rest d.toNat hlt).append_right acc).trans pm)
    · rintro Hi ⟨hpi, bi, rest, acc, hr1, ha, l1, l2, pm⟩
      have e0 : rest = [] := List.eq_nil_of_length_eq_zero (by omega)
      rw [e0, List.nil_append] at pm
      exact k D acc Hi pm hD0 ha hpi bi
end
end K11
namespace K11
open PySem PySem.Spec PyProof.Rows L2 FL
abbrev sPot2 : Stmt := topS 40
theorem scPot2 : FnScope ["_law_script", "_law_k", "_law_cell"] ["_law_script", "_law_k"] (defScope sPot2) :=
  ⟨rfl, rfl, rfl, by decide +kernel, rfl, by decide +kernel, by decide +kernel⟩
section
variable {P : Program} {w : World} {K : PySem.W.Frag} {mg : Str → Option Value} {base : Heap}
theorem ok_pot {f : Addr} {fd : FuncData} (F : Fun K "_law_pot" "_law_pot" sPot2 f fd)
    (mA : mg "abs" = none) (mL : mg "len" = none) (mM : mg "max" = none) (mI : mg "int" = none) :
    FnOk P w K mg base CX0 1 f fd ["_law_script", "_law_k"] (spPot K) := by
  refine F.ok scPot2 (fun vs H Q E h => ?_) (fun cdv A outer s H vs Q E hr h => ?_)
  · obtain ⟨_, _, _, rfl, _⟩ := h
    rfl
  · obtain ⟨a, ns, j, rfl, hs, j0, j1, hn, k⟩ := h
    refine ⟨_, pss_cons (ps_set (i := 2) scPot2.nd rfl (.inl rfl) (pe_op op_add (pe_op op_mul pe_int (pv 1)) pe_int))
      (C8.pss_cut (ps_if (pt_cmpR op_lt (pv 1) (pe_callB call_len (by rfl) mL PySem.boot_len (pa_cons (pv 0) pa_nil)) (nomark _))
          (pss_one (ps_set (i := 2) scPot2.nd rfl (.inl rfl) (pe_callB call_abs (by rfl) mA (by decide +kernel) (pa_cons (pe_ix ix_list (pv 0) (pv 1) (fun _ _ => rfl)) pa_nil)))) pss_nil)
      (pss_one (ps_ret (pe_lst (pa_cons (pe_callB (call_max2 rfl) (by rfl) mM (by decide +kernel)
          (pa_cons pe_int (pa_cons (pe_op op_sub (pv 2) (pe_op op_pow pe_int pe_int)) pa_nil)))
        (pa_cons (pe_op op_add (pe_op op_mod (pe_op op_mul (pe_callTy call_int1 (by rfl) mI (by decide +kernel)
          (pa_cons (pe_op op_add (pe_op op_mod (pe_callTy call_int1 (by rfl) mI (by decide +kernel) (pa_cons (pv 2) pa_nil)) pe_int) pe_int) pa_nil)) (pe_op op_pow (pe_op op_add (pe_op op_mul pe_int (pv 1)) pe_int) pe_int)) pe_int) pe_int) pa_nil)))))), ?_⟩
    refine ⟨_, rfl, _, _, rfl, rfl, .inl ⟨by decide, by decide⟩, _, _, rfl, rfl, ?_⟩
    refine ⟨fun σ' H' => ∃ z : Int, σ' = [some (.ref a), some (.int j), some (.int z)] ∧ H' = H, ?_, ?_⟩
    · refine ⟨_, rfl, _, rfl, _, _, rfl, .inl ⟨_, hs, rfl⟩, _, _, rfl, rfl, _, rfl, ?_⟩
      refine ite2 (fun hc => ?_) (fun hc => ?_)
      · have hlt : j < ((ns.map V.int).length : Int) := of_decide_eq_true hc
        obtain ⟨x, hx, e⟩ := atI_lt j0 hlt
        obtain ⟨i, _, rfl⟩ := List.mem_map.mp hx
        exact ⟨_, rfl, _, rfl, a, _, j, .int i, rfl, rfl, hs, e, i, rfl, _, rfl, rfl⟩
      · exact ⟨_, rfl, rfl⟩
    rintro σ' H' ⟨z, rfl, rfl⟩
    refine ⟨_, rfl, _, _, rfl, rfl, ⟨by decide, by decide, by decide⟩, _, _, rfl, rfl, _, _, rfl, ?_⟩
    have b0 : 0 ≤ z % 2147483549 := Int.emod_nonneg _ (by decide)
    have b1 : z % 2147483549 < 2147483549 := Int.emod_lt_of_pos _ (by decide)
    have c0 := Int.emod_nonneg ((z % 2147483549 + 11) * (2 * j + 3) ^ 3) (show (2147483477 : Int) ≠ 0 by decide)
    have c1 := Int.emod_lt_of_pos ((z % 2147483549 + 11) * (2 * j + 3) ^ 3) (show (0 : Int) < 2147483477 by decide)
    refine ⟨_, rfl, .inl ⟨_, rfl, _, _, rfl, rfl, (by show (0 : Int) < 2147483549; decide), _, _, rfl, rfl, .inl ⟨_, rfl, _, rfl, _, _, rfl, rfl, .inl ⟨by decide, by decide⟩, _, _, rfl, rfl, _, _, rfl, rfl, ⟨by decide, by decide, by omega⟩, _, _, rfl, rfl, .inl ⟨?_, ?_⟩, _, _, rfl, rfl, (by show (0 : Int) < 2147483477; decide), _, _, rfl, rfl, (by show 2 ≤ sizeLine; decide), fun p hp => ?_⟩⟩⟩
    · show -2 ^ 64 < z % 2147483549 + 11
      omega
    · show z % 2147483549 + 11 < 2 ^ 64
      omega
    · refine k p _ hp ⟨_, _, upd_same, ?_, ?_, ?_⟩ fun c o e => ?_
      · split <;> omega
      · show 0 ≤ (z % 2147483549 + 11) * (2 * j + 3) ^ 3 % 2147483477 + 1
        omega
      · show (z % 2147483549 + 11) * (2 * j + 3) ^ 3 % 2147483477 + 1 ≤ 2147483646
        omega
      · rw [upd_ne (ne_of_none e hp)]
        exact e
abbrev sAlpha2 : Stmt := topS 44
abbrev nAlpha2 : List Str := ["_law_pot_here", "_law_least_here", "_law_most", "_law_pack", "_law_found", "_law_turn"]
theorem pool_eq : (Str.ofString "-.0123456789=>abcdefghijklmnopqrstuvwxyz|").cps.toList = poolCodes := by decide +kernel
theorem scAlpha2 : FnScope nAlpha2 ["_law_pot_here", "_law_least_here", "_law_most"] (defScope sAlpha2) :=
  ⟨rfl, rfl, rfl, by decide +kernel, rfl, by decide +kernel, by decide +kernel⟩
def spAlpha2 : Sp := fun vs H Q _ => ∃ (p : Addr), vs = [.ref p, .int 2, .int 4] ∧ PotAt H p ∧
  ∀ (z : Str) (H' : Hp), Abc z → PotAt H' p → But p H H' → Q (.str z) H'
theorem ok_alpha {f : Addr} {fd : FuncData} (F : Fun K "_law_alpha" "_law_alpha" sAlpha2 f fd)
    (cD : Ca P w K mg base "_law_draw" 1 ["_law_pot_here", "_law_span"] spDraw)
    (mL : mg "list" = none) (mN : mg "len" = none) (mR : mg "range" = none) (mS : mg "sorted" = none) :
    FnOk P w K mg base CX0 2 f fd ["_law_pot_here", "_law_least_here", "_law_most"] spAlpha2 := by
  refine F.ok scAlpha2 (fun vs H Q E h => ?_) (fun cdv A outer s H vs Q E hr h => ?_)
  · obtain ⟨_, rfl, _⟩ := h
    rfl
  · obtain ⟨p, rfl, hp, k⟩ := h
    refine ⟨_, pss_cons (ps_par (i := 3) (j := 4) (by rfl) scAlpha2.nd rfl rfl (by decide) rfl rfl
        (pa_cons (pe_callTy (call_list_txt rfl) (by rfl) mL (by decide +kernel) (pa_cons pe_str pa_nil)) (pa_cons (pe_lst pa_nil) pa_nil)) (by rfl))
      (pss_cons (ps_for PassesOwn.never rfl (pi_range1 (by rfl) mR (pa_cons (pe_op op_add (pv 1) (pe_ca cD hr (by rfl)
            (pa_cons (pv 0) (pa_cons (pe_op op_add (pe_op op_sub (pv 2) (pv 1)) pe_int) pa_nil)))) pa_nil)) (pg_name (i := 5) scAlpha2.nd rfl (.inl rfl))
        (pss_one (ps_expr (pe_bm PySem.F.plainAttrs_list PySem.F.slot_list_append PySem.F.type_list_append mtAppend (pv 4)
          (pa_cons (pe_bm PySem.F.plainAttrs_list PySem.F.slot_list_pop PySem.F.type_list_pop mtPopAt (pv 3)
            (pa_cons (pe_ca cD hr (by rfl) (pa_cons (pv 0) (pa_cons (pe_callB callLen (by rfl) mN PySem.boot_len (pa_cons (pv 3) pa_nil)) pa_nil))) pa_nil)) pa_nil)))))
      (pss_one (ps_ret (pe_join pe_str (pe_callB cr_sortedS (by rfl) mS (by decide +kernel) (pa_cons (pv 4) pa_nil)))))), ?_⟩
    refine ⟨_, rfl, by decide, fun B hB => ?_⟩
    refine ⟨by decide, fun D hD => ?_⟩
    rw [pool_eq] at *
    have hDB : D ≠ B := fun e => by
      rw [e, upd_same] at hD
      cases hD
    have hD0 : H D = none := by
      rw [upd_ne hDB] at hD
      exact hD
    have npB : p ≠ B := hp.ne hB
    have npD : p ≠ D := hp.ne hD0
    have hp0 : PotAt (upd (upd H B (.lst (poolCodes.map sign))) D (.lst [])) p := (hp.upd npB).upd npD
    refine ⟨_, _, rfl, _, rfl, _, rfl, _, rfl, _, rfl, _, _, rfl, rfl, _, _, rfl, rfl, p, 3, rfl, hp0, by decide, by decide, fun d H1 d0 d1 hp1 b1 => ?_⟩
    refine ⟨2, d, rfl, rfl, 2 + d, rfl, by omega, by omega, ?_⟩
    have bB := b1 B _ (by rw [upd_ne (Ne.symm hDB), upd_same]) (Ne.symm npB)
    have bD := b1 D _ upd_same (Ne.symm npD)
    have b0 : But p H H1 := (((But.refl p H).upd hB).upd hD0).trans b1
    refine for_range (lo := 0) (n := (2 + d).toNat) (fun i σ Hi => ∃ (o : Option V) (rest cs : List Nat), σ = [some (.ref p), some (.int 2), some (.int 4), some (.ref B), some (.ref D), o]
      ∧ PotAt Hi p ∧ But p H Hi ∧ Hi B = some (.lst (rest.map sign)) ∧ Hi D = some (.lst (cs.map sign)) ∧ cs.length = i ∧ (cs ++ rest).Perm poolCodes) ?_ ?_ ?_
    · exact ⟨_, poolCodes, [], rfl, hp1, b0, bB, bD, rfl, List.Perm.refl _⟩
    · rintro i σ Hi hi ⟨o, rest, cs, rfl, hpi, bi, hBi, hDi, hl, hpm⟩
      have lr : cs.length + rest.length = 41 := by
        have := hpm.length_eq
        rw [List.length_append] at this
        rw [this]
        decide +kernel
      refine ⟨_, rfl, .inl ⟨rfl, _, SqL.of hDi⟩, _, rfl, .inl ⟨rfl, _, SqL.of hBi⟩, _, rfl, _, rfl, _, _, rfl, .inl ⟨_, SqL.of hBi, rfl⟩, p, _, rfl, hpi, ?_, ?_, fun e H2 e0 e1 hp2 b2 => ?_⟩
      · rw [List.length_map]
        omega
      · rw [List.length_map]
        omega
      rw [List.length_map] at e1
      have hlt : e.toNat < rest.length := by omega
      have hB2 := b2 B _ hBi (Ne.symm npB)
      have hD2 := b2 D _ hDi (Ne.symm npD)
      refine ⟨B, _, e, e.toNat, sign rest[e.toNat], rfl, rfl, hB2, by omega, by omega, seqIx e0 (by rw [List.length_map]; exact e1), ?_, ?_⟩
      · rw [List.getElem?_map, List.getElem?_eq_getElem hlt]
        rfl
      refine ⟨D, _, _, rfl, rfl, by rw [upd_ne hDB]; exact hD2, ?_, ?_⟩
      · rw [List.length_map]
        exact Nat.lt_of_lt_of_le (show cs.length < 2000 by omega) (by decide)
      refine ⟨_, rest.eraseIdx e.toNat, cs ++ [rest[e.toNat]], rfl, (hp2.upd npB).upd npD, ((bi.trans b2).upd hB).upd hD0, ?_, ?_, ?_, ?_⟩
      · rw [upd_ne (Ne.symm hDB), upd_same, erase_map]
      · rw [upd_same, List.map_append]
        rfl
      · rw [List.length_append, hl]
        rfl
      · rw [List.append_assoc]
        exact ((perm_erase rest e.toNat hlt).append_left cs).trans hpm
    · rintro σ Hi ⟨o, rest, cs, rfl, hpi, bi, hBi, hDi, hl, hpm⟩
      have e1 : cs.map sign = (cs.map one).map V.str := by
        rw [List.map_map]
        rfl
      rw [e1] at hDi
      refine ⟨⟨_, rfl⟩, _, rfl, D, cs.map one, rfl, SqL.of hDi, ?_, fun ys q pm so hq => ?_⟩
      · rw [List.length_map]
        omega
      obtain ⟨ds, rfl, pd⟩ := map_one pm
      have ld : ds.length = (2 + d).toNat := pd.length_eq.trans hl
      refine ⟨_, q, ds.map one, rfl, rfl, .inl (SqL.of upd_same), ?_, ?_⟩
      · have e2 : ((ds.map one).map (·.length)).sum = ds.length := by
          rw [List.map_map]
          clear pm so ld pd
          induction ds with
          | nil => rfl
          | cons c ds ih =>
            rw [List.map_cons, List.sum_cons, ih, List.length_cons, Nat.add_comm]
            rfl
        have e3 : (Str.ofString "").length = 0 := by decide +kernel
        rw [e2, e3]
        omega
      · have ej : Txt.join (Str.ofString "") (ds.map one) = ⟨ds.toArray⟩ := join_signs ds
        rw [ej]
        have nd : (cs ++ rest).Nodup := hpm.symm.nodup pool_nodup
        have nds : ds.Nodup := pd.symm.nodup (List.nodup_append.mp nd).1
        refine k _ _ ⟨?_, ?_, ?_, ?_⟩ (hpi.upd (hpi.ne hq)) (fun c u ec nc => ?_)
        · show 2 ≤ ds.toArray.size
          rw [List.size_toArray]
          omega
        · show ds.toArray.size ≤ 4
          rw [List.size_toArray]
          omega
        · exact strict (sorted_one ds so) nds
        · intro c hc
          exact hpm.mem_iff.mp (List.mem_append_left _ (pd.mem_iff.mp (by simpa using hc)))
        · rw [upd_ne (ne_of_none (bi c u ec nc) hq)]
          exact bi c u ec nc
end
end K11
namespace FL
open PySem PySem.Spec PyProof.Rows L2 FL
/-! ### rows and ends as they are passed: lists or tuples -/
def SqH (H : Hp) (a : Addr) (xs : List V) : Prop := H a = some (.lst xs) ∨ H a = some (.tup xs)
theorem SqH.same {H H' : Hp} {a : Addr} {xs : List V} (s : Same H H') (h : SqH H a xs) : SqH H' a xs := h.elim (fun e => .inl (s _ _ e)) fun e => .inr (s _ _ e)
theorem SqH.y {K : PySem.W.Frag} {H : Hp} {a : Addr} {xs : List V} (h : SqH H a xs) : SqY K H a xs := h.elim SqY.lst SqY.tup
theorem SqH.any {H : Hp} {a : Addr} {xs : List V} (h : SqH H a xs) : ∃ n, Any H (.ref a) n ∧ (n == "list" || n == "tuple") = true := h.elim (fun e => ⟨"list", .lst e, by decide⟩) fun e => ⟨"tuple", .tup e, by decide⟩
def RowZ (H : Hp) (x : V) (r : List Nat) : Prop := ∃ b : Addr, x = .ref b ∧ SqH H b (vN' r)
def RowsZ (H : Hp) (v : V) (R : Rws) : Prop := ∃ (a : Addr) (xs : List V), v = .ref a ∧ SqH H a xs ∧ Paired (RowZ H) xs R
def IntsZ (H : Hp) (v : V) (E : List Nat) : Prop := ∃ a : Addr, v = .ref a ∧ SqH H a (vN' E)
theorem RowsZ.same {H H' : Hp} {v : V} {R : Rws} (s : Same H H') (h : RowsZ H v R) : RowsZ H' v R := by
  obtain ⟨a, xs, e, q, p⟩ := h
  exact ⟨a, xs, e, q.same s, L2.Paired.mapP p fun _ _ ⟨b, e, q⟩ => ⟨b, e, q.same s⟩⟩
theorem IntsZ.same {H H' : Hp} {v : V} {E : List Nat} (s : Same H H') (h : IntsZ H v E) : IntsZ H' v E := by
  obtain ⟨a, e, q⟩ := h
  exact ⟨a, e, q.same s⟩
theorem RowsZ.y {K : PySem.W.Frag} {H : Hp} {v : V} {R : Rws} (h : RowsZ H v R) : RowsY K H v R := by
  obtain ⟨a, xs, e, q, p⟩ := h
  exact ⟨a, xs, e, q.y, L2.Paired.mapP p fun _ _ ⟨b, e, q⟩ => ⟨b, e, q.y⟩⟩
theorem IntsZ.y {K : PySem.W.Frag} {H : Hp} {v : V} {E : List Nat} (h : IntsZ H v E) : IntsY K H v E := by
  obtain ⟨a, e, q⟩ := h
  exact ⟨a, e, q.y⟩
/-! ### machines as objects -/
theorem SmL.allM {k m : Nat} {α : Type} {f : α → PyData} : ∀ {xs : List α}, (∀ x ∈ xs, Sm m (f x) ∧ (f x).depth ≤ k) → SmL k ((m + 2) * xs.length) (xs.map f)
  | [], _ => SmL.nil
  | x :: xs, h => by
    have ⟨h1, h2⟩ := h x List.mem_cons_self
    have ih := SmL.allM (xs := xs) fun y hy => h y (List.mem_cons_of_mem _ hy)
    have := SmL.cons h1 h2 ih
    rw [List.length_cons, Nat.mul_succ, Nat.add_comm]
    exact this
theorem SmL.monoM {k n m : Nat} {ds : List PyData} (h : SmL k n ds) (l : n ≤ m) : SmL k m ds := ⟨h.sh, h.nd, h.cl, h.dp, Nat.le_trans h.len l⟩
theorem depth_allM {k : Nat} {α : Type} {f : α → PyData} : ∀ {xs : List α}, (∀ x ∈ xs, (f x).depth ≤ k) → PyData.depthAll (xs.map f) ≤ k
  | [], _ => Nat.zero_le _
  | x :: xs, h => by
    have ih := depth_allM (xs := xs) fun y hy => h y (List.mem_cons_of_mem _ hy)
    show max (f x).depth (PyData.depthAll (xs.map f)) ≤ k
    exact Nat.max_le.mpr ⟨h x List.mem_cons_self, ih⟩
abbrev iD (n : Nat) : PyData := .int ((n : Nat) : Int)
def rowD (r : List Nat) : PyData := .tuple (r.map iD)
def rowsD (R : Rws) : PyData := .list (R.map rowD)
def endsD (E : List Nat) : PyData := .list (E.map iD)
section
variable {K : PySem.W.Frag} {H : Hp}
theorem dp_ints : ∀ (ns : List Nat), DpAll K H (vN' ns) (ns.map iD)
  | [] => .nil
  | _ :: ns => .cons (.int _) (dp_ints ns)
theorem dp_row {x : V} {r : List Nat} (h : RowT H x r) : Dp K H x (rowD r) := by
  obtain ⟨a, rfl, e⟩ := h
  exact .tup (SqT.of e) (dp_ints r)
theorem dp_rowsA : ∀ {xs : List V} {R : Rws}, RowsT H xs R → DpAll K H xs (R.map rowD)
  | _, _, .nil => .nil
  | _, _, .cons a b => .cons (dp_row a) (dp_rowsA b)
theorem dp_rowsD {a : Addr} {xs : List V} {R : Rws} (g : H a = some (.lst xs)) (h : RowsT H xs R) : Dp K H (.ref a) (rowsD R) := .lst (SqL.of g) (dp_rowsA h)
theorem dp_endsD {a : Addr} {E : List Nat} (g : H a = some (.lst (vN' E))) : Dp K H (.ref a) (endsD E) := .lst (SqL.of g) (dp_ints E)
end
theorem eqv_i (a b : Nat) : PyData.eqv (iD a) (iD b) = true ↔ a = b := by
  show (((a : Nat) : Int) == ((b : Nat) : Int)) = true ↔ _
  rw [beq_iff_eq]
  omega
theorem eqv_ints : ∀ (a b : List Nat), PyData.eqvAll (a.map iD) (b.map iD) = true ↔ a = b
  | [], [] => by simp [PyData.eqvAll]
  | [], _ :: _ => by simp [PyData.eqvAll]
  | _ :: _, [] => by simp [PyData.eqvAll]
  | x :: a, y :: b => by
    show (PyData.eqv (iD x) (iD y) && PyData.eqvAll (a.map iD) (b.map iD)) = true ↔ _
    rw [Bool.and_eq_true, eqv_i, eqv_ints a b]
    simp
theorem eqv_rows : ∀ (a b : Rws), PyData.eqvAll (a.map rowD) (b.map rowD) = true ↔ a = b
  | [], [] => by simp [PyData.eqvAll]
  | [], _ :: _ => by simp [PyData.eqvAll]
  | _ :: _, [] => by simp [PyData.eqvAll]
  | x :: a, y :: b => by
    show (PyData.eqvAll (x.map iD) (y.map iD) && PyData.eqvAll (a.map rowD) (b.map rowD)) = true ↔ _
    rw [Bool.and_eq_true, eqv_ints, eqv_rows a b]
    simp
theorem eqv_rowsD (a b : Rws) : PyData.eqv (rowsD a) (rowsD b) = decide (a = b) := by
  by_cases e : a = b
  · rw [decide_eq_true e]
    exact (eqv_rows a b).mpr e
  · rw [decide_eq_false e]
    cases c : PyData.eqv (rowsD a) (rowsD b) with
    | false => rfl
    | true => exact absurd ((eqv_rows a b).mp c) e
theorem eqv_endsD (a b : List Nat) : PyData.eqv (endsD a) (endsD b) = decide (a = b) := by
  by_cases e : a = b
  · rw [decide_eq_true e]
    exact (eqv_ints a b).mpr e
  · rw [decide_eq_false e]
    cases c : PyData.eqv (endsD a) (endsD b) with
    | false => rfl
    | true => exact absurd ((eqv_ints a b).mp c) e
theorem sm_small : ∀ n, n < 400 → Sm 5 (iD n) := by
  have h : ∀ n, n < 400 → (iD n).showable = true ∧ (iD n).hasDict = false ∧ (iD n).canLay0 = true ∧ (PyData.shown (iD n)).length ≤ 5 := by decide +kernel
  exact fun n hn => ⟨(h n hn).1, (h n hn).2.1, (h n hn).2.2.1, Nat.zero_le _, (h n hn).2.2.2⟩
theorem sm_row {r : List Nat} (h : ∀ t ∈ r, t < 400) : Sm (7 * r.length + 3) (rowD r) := Sm.tuple (k := 0) (SmL.allM (k := 0) (m := 5) fun t ht => ⟨sm_small t (h t ht), Nat.le_refl _⟩) (by decide)
theorem sm_rows {R : Rws} {m : Nat} (l : ∀ r ∈ R, r.length ≤ m) (h : ∀ r ∈ R, ∀ t ∈ r, t < 400) : Sm ((7 * m + 5) * R.length + 2) (rowsD R) := by
  refine Sm.list (k := 1) (SmL.allM (k := 1) (m := 7 * m + 3) fun r hr => ⟨(sm_row (h r hr)).mono (by have := l r hr; omega), ?_⟩) (by decide)
  show PyData.depthAll (r.map iD) + 1 ≤ 1
  have : PyData.depthAll (r.map iD) ≤ 0 := depth_allM fun x _ => Nat.le_refl _
  omega
theorem sm_ends {E : List Nat} (h : ∀ t ∈ E, t < 400) : Sm (7 * E.length + 2) (endsD E) := Sm.list (k := 0) (SmL.allM (k := 0) (m := 5) fun t ht => ⟨sm_small t (h t ht), Nat.le_refl _⟩) (by decide)
/-- the fields -/
def mfl (z : Str) (ra ea : Addr) : List (Str × V) := putF "_ends" (.ref ea) (putF "_rows" (.ref ra) (putF "_signs" (.str z) []))
theorem mn1 : ¬ ((Str.ofString "_rows") = Str.ofString "_ends") := by decide +kernel
theorem mn2 : ¬ ((Str.ofString "_signs") = Str.ofString "_ends") := by decide +kernel
theorem mn3 : ¬ ((Str.ofString "_signs") = Str.ofString "_rows") := by decide +kernel
theorem mtwo_len (z : Str) (ra : Addr) : (putF "_rows" (.ref ra) (putF "_signs" (.str z) [])).length < 1000 := by
  show (if Str.ofString "_signs" = Str.ofString "_rows" then [(Str.ofString "_signs", V.ref ra)] else (Str.ofString "_signs", V.str z) :: putF (Str.ofString "_rows") (.ref ra) []).length < 1000
  rw [if_neg mn3]
  show 2 < 1000
  decide
theorem mfl_signs (z : Str) (ra ea : Addr) : (mfl z ra ea).lookup (Str.ofString "_signs") = some (.str z) := by
  unfold mfl
  rw [lookup_putF, if_neg mn2, lookup_putF, if_neg mn3, lookup_putF, if_pos rfl]
theorem mfl_rows (z : Str) (ra ea : Addr) : (mfl z ra ea).lookup (Str.ofString "_rows") = some (.ref ra) := by
  unfold mfl
  rw [lookup_putF, if_neg mn1, lookup_putF, if_pos rfl]
theorem mfl_ends (z : Str) (ra ea : Addr) : (mfl z ra ea).lookup (Str.ofString "_ends") = some (.ref ea) := by
  unfold mfl
  rw [lookup_putF, if_pos rfl]
/-- a machine, none of its parts one of D -/
def MachX (D : List Addr) (C : Addr) (H : Hp) (p : Addr) (z : Str) (R : Rws) (E : List Nat) : Prop := ∃ (dx ra ea : Addr) (xs : List V), H p = some (.ins C dx (mfl z ra ea)) ∧ H ra = some (.lst xs) ∧ RowsT H xs R ∧ H ea = some (.lst (vN' E)) ∧ ra ∉ D ∧ ea ∉ D
theorem MachX.same {D : List Addr} {C : Addr} {H H' : Hp} {p : Addr} {z : Str} {R : Rws} {E : List Nat} (h : MachX D C H p z R E) (s : Same H H') : MachX D C H' p z R E := by
  obtain ⟨dx, ra, ea, xs, h1, h2, h3, h4, h5, h6⟩ := h
  exact ⟨dx, ra, ea, xs, s _ _ h1, s _ _ h2, h3.same fun a o e => s a _ e, s _ _ h4, h5, h6⟩
theorem MachX.but {D : List Addr} {C : Addr} {H H' : Hp} {p q : Addr} {z : Str} {R : Rws} {E : List Nat} (h : MachX D C H p z R E) (m : q ∈ D) {ys : List V} (hq : H q = some (.lst ys)) (s : ∀ c o, H c = some o → c ≠ q → H' c = some o) : MachX D C H' p z R E := by
  obtain ⟨dx, ra, ea, xs, h1, h2, h3, h4, h5, h6⟩ := h
  exact ⟨dx, ra, ea, xs, s _ _ h1 (fun e => by rw [e, hq] at h1; cases h1), s _ _ h2 (fun e => h5 (by rw [e]; exact m)), h3.same fun a o e => s a _ e (fun z => by rw [z, hq] at e; cases e), s _ _ h4 (fun e => h6 (by rw [e]; exact m)), h5, h6⟩
theorem MachX.mono {D D' : List Addr} {C : Addr} {H : Hp} {p : Addr} {z : Str} {R : Rws} {E : List Nat} (h : MachX D C H p z R E) (s : ∀ a ∈ D', a ∈ D) : MachX D' C H p z R E := by
  obtain ⟨dx, ra, ea, xs, h1, h2, h3, h4, h5, h6⟩ := h
  exact ⟨dx, ra, ea, xs, h1, h2, h3, h4, fun m => h5 (s _ m), fun m => h6 (s _ m)⟩
/-- a least form for so many signs -/
structure LfOk (m : Nat) (R : Rws) (E : List Nat) : Prop where
  few : R.length ≤ 300
  pos : 0 < R.length
  frm : Frm R.length m R
  lt : ∀ e ∈ E, e < R.length
  up : E.Pairwise (· < ·)
  me : m ≤ 4
theorem LfOk.ne {m : Nat} {R : Rws} {E : List Nat} (h : LfOk m R E) : E.length ≤ R.length := by
  have := nodup_sub (l := E) (h.up.imp fun h => Nat.ne_of_lt h) (m := List.range R.length) fun s hs => List.mem_range.mpr (h.lt s hs)
  rwa [List.length_range] at this
theorem LfOk.smR {m : Nat} {R : Rws} {E : List Nat} (h : LfOk m R E) : Sm 20000 (rowsD R) := by
  refine (sm_rows (m := 4) (fun r hr => by have := h.frm.col r hr; have := h.me; omega) (fun r hr t ht => by have := h.frm.lt r hr t ht; have := h.few; omega)).mono ?_
  have := h.few
  omega
theorem LfOk.smE {m : Nat} {R : Rws} {E : List Nat} (h : LfOk m R E) : Sm 20000 (endsD E) := (sm_ends (fun t ht => by have := h.lt t ht; have := h.few; omega)).mono (by have := h.ne; have := h.few; omega)
/-- the least form of so few states -/
theorem LfOk.of {n m : Nat} {R R' : Rws} {E E' : List Nat} (F : Frm n m R) (n0 : 0 < n) (ln : n ≤ 300) (lm : m ≤ 4) (h : LeastF R E m R' E') : LfOk m R' E' := by
  obtain ⟨k, k0, F', l, u⟩ := h.frm F n0
  obtain ⟨met, M, e1, e2⟩ := h.met F n0
  have lk : R'.length = k := F'.len
  have lmet : R'.length = met.length := by rw [e1]; exact List.length_map _
  have few : met.length ≤ n := by
    have nd : met.Nodup := M.ap.imp fun {a b} h e => by
      rw [e, sameN_iff.mpr (eqvM.refl R E m b)] at h
      cases h
    have := nodup_sub nd (m := List.range n) fun s hs => List.mem_range.mpr (M.lt s hs)
    rwa [List.length_range] at this
  exact ⟨by omega, by omega, by rw [lk]; exact F', fun e he => by rw [lk]; exact l e he, u, lm⟩
/-- what is needed of the class -/
structure MTxt (K : PySem.W.Frag) (mg : Str → Option Value) (C : Addr) : Prop where
  cl : Cls K C
  nS : NoAttr K C "_signs"
  nR : NoAttr K C "_rows"
  nE : NoAttr K C "_ends"
  mgC : mg "Machine" = some (.ref C)
  mo : ∃ mc u, ClX.CRead K C mc ∧ ClX.CVal K C mc "MOST_STATES" (.int 300) u
def spMInit (C : Addr) : Sp := fun vs H Q _ => ∃ (p dx : Addr) (z : Str) (v e : V) (R : Rws) (E : List Nat) (n m : Nat), vs = [.ref p, .str z, v, e] ∧ H p = some (.ins C dx []) ∧ Abc z ∧ z.length = m ∧ RowsZ H v R ∧ Frm n m R ∧ 0 < n ∧ n ≤ 300 ∧ IntsZ H e E ∧ E.Nodup ∧ (∀ x ∈ E, x < n) ∧
  ∀ (H' : Hp) (R' : Rws) (E' : List Nat), (∀ D : List Addr, (∀ a ∈ D, a = p ∨ H a ≠ none) → MachX D C H' p z R' E') → LeastF R E m R' E' → But p H H' → Q .non H'
def spMGet (C : Addr) : Sp := fun vs H Q _ => ∃ (p : Addr) (z : Str) (R : Rws) (E : List Nat), vs = [.ref p] ∧ MachX [] C H p z R E ∧ Q (.str z) H
def spMStates (C : Addr) : Sp := fun vs H Q _ => ∃ (p : Addr) (z : Str) (R : Rws) (E : List Nat), vs = [.ref p] ∧ MachX [] C H p z R E ∧ Q (.int (R.length : Nat)) H
def spMRows (C : Addr) : Sp := fun vs H Q _ => ∃ (p : Addr) (z : Str) (R : Rws) (E : List Nat), vs = [.ref p] ∧ MachX [] C H p z R E ∧ ∀ (D : Addr) (xs : List V) (H' : Hp), H D = none → H' D = some (.lst xs) → RowsT H' xs R → Same H H' → Q (.ref D) H'
def spMEnds (C : Addr) : Sp := fun vs H Q _ => ∃ (p : Addr) (z : Str) (R : Rws) (E : List Nat), vs = [.ref p] ∧ MachX [] C H p z R E ∧ ∀ (D : Addr) (H' : Hp), H D = none → H' D = some (.lst (vN' E)) → Same H H' → Q (.ref D) H'
def spMEq (C : Addr) : Sp := fun vs H Q _ => ∃ (p : Addr) (z : Str) (R : Rws) (E : List Nat) (m : Nat) (v : V), vs = [.ref p, v] ∧ MachX [] C H p z R E ∧ LfOk m R E ∧
  ((∃ n, Any H v n ∧ Q (.bl false) H) ∨ ∃ (q : Addr) (z' : Str) (R' : Rws) (E' : List Nat) (m' : Nat), v = .ref q ∧ MachX [] C H q z' R' E' ∧ LfOk m' R' E' ∧ Q (.bl (decide (z = z' ∧ R = R' ∧ E = E'))) H)
def reprM (z : Str) (R : Rws) (E : List Nat) : Str := (((((((Str.empty ++ Str.ofString "Machine(") ++ reprText z) ++ Str.ofString ", ") ++ (rowsD R).shown) ++ Str.ofString ", ") ++ (endsD E).shown) ++ Str.ofString ")")
def spMRepr (C : Addr) : Sp := fun vs H Q _ => ∃ (p : Addr) (z : Str) (R : Rws) (E : List Nat) (m : Nat), vs = [.ref p] ∧ MachX [] C H p z R E ∧ Abc z ∧ LfOk m R E ∧ Q (.str (reprM z R E)) H
end FL
namespace K11
open PySem PySem.Spec PyProof.Rows L2 FL
abbrev sIsPlace : Stmt := topS 19
abbrev sIsRow : Stmt := topS 20
abbrev sCheckRows : Stmt := topS 21
abbrev sCheckEnds : Stmt := topS 22
abbrev nIsRow : List Str := ["value", "size", "states", "state"]
abbrev nCheckRows : List Str := ["signs", "rows", "position", "row"]
abbrev nCheckEnds : List Str := ["states", "ends", "ahead", "position", "end"]
theorem scIsPlace : FnScope ["value", "many"] ["value", "many"] (defScope sIsPlace) := ⟨rfl, rfl, rfl, by decide +kernel, rfl, by decide +kernel, by decide +kernel⟩
theorem scIsRow : FnScope nIsRow ["value", "size", "states"] (defScope sIsRow) := ⟨rfl, rfl, rfl, by decide +kernel, rfl, by decide +kernel, by decide +kernel⟩
theorem scCheckRows : FnScope nCheckRows ["signs", "rows"] (defScope sCheckRows) := ⟨rfl, rfl, rfl, by decide +kernel, rfl, by decide +kernel, by decide +kernel⟩
theorem scCheckEnds : FnScope nCheckEnds ["states", "ends"] (defScope sCheckEnds) := ⟨rfl, rfl, rfl, by decide +kernel, rfl, by decide +kernel, by decide +kernel⟩
def spIsPlace : Sp := fun vs H Q _ => ∃ (i n : Nat), vs = [.int (i : Nat), .int (n : Nat)] ∧ i < n ∧ Q (.bl true) H
def spIsRow : Sp := fun vs H Q _ => ∃ (b : Addr) (r : List Nat) (m n : Nat), vs = [.ref b, .int (m : Nat), .int (n : Nat)] ∧ SqH H b (vN' r) ∧ r.length = m ∧ m ≤ 1000 ∧ (∀ t ∈ r, t < n) ∧ ∀ H', Same H H' → Q (.bl true) H'
def spCheckRows : Sp := fun vs H Q _ => ∃ (z : Str) (v : V) (n m : Nat) (R : Rws), vs = [.str z, v] ∧ z.length = m ∧ m ≤ 1000 ∧ RowsZ H v R ∧ Frm n m R ∧ 0 < n ∧ n ≤ 100000 ∧ ∀ H', Same H H' → Q .non H'
def spCheckEnds : Sp := fun vs H Q _ => ∃ (v : V) (n : Nat) (E : List Nat), vs = [.int (n : Nat), v] ∧ IntsZ H v E ∧ E.Nodup ∧ (∀ e ∈ E, e < n) ∧ n ≤ 100000 ∧ ∀ H', Same H H' → Q .non H'
section
variable {P : Program} {w : World} {K : PySem.W.Frag} {mg : Str → Option Value} {base : Heap}
theorem ok_isplace {f : Addr} {fd : FuncData} (F : Fun K "is_place" "is_place" sIsPlace f fd) (cI : Ca P w K mg base "is_integer" 1 ["value"] spInt1) : FnOk P w K mg base CX0 2 f fd ["value", "many"] spIsPlace := by
  refine F.ok scIsPlace (fun vs H Q E h => ?_) (fun cdv A outer s H vs Q E hr h => ?_)
  · obtain ⟨_, _, rfl, _⟩ := h
    rfl
  · obtain ⟨i, n, rfl, hi, k⟩ := h
    refine ⟨_, pss_one (ps_ret (pe_and (pe_ca cI hr (by rfl) (pa_cons (pv 0) pa_nil)) (pe_and (pe_cmpR op_ge (pv 0) pe_int (nomark _)) (pe_one (pe_cmpR op_lt (pv 0) (pv 1) (nomark _)))))), ?_⟩
    refine ⟨_, rfl, i, rfl, ?_⟩
    refine ⟨_, rfl, iteT ?_⟩
    refine ⟨_, rfl, _, _, rfl, rfl, _, rfl, ?_⟩
    refine ite2 (fun _ => ?_) (fun h => absurd (decide_eq_true (show (0 : Int) ≤ ((i : Nat) : Int) by omega)) h)
    refine ⟨_, rfl, _, rfl, _, _, rfl, rfl, ?_⟩
    show Q (V.bl (decide (((i : Nat) : Int) < ((n : Nat) : Int)))) H
    rw [show decide (((i : Nat) : Int) < ((n : Nat) : Int)) = true from decide_eq_true (by omega)]
    exact k
theorem ok_isrow {f : Addr} {fd : FuncData} (F : Fun K "is_row" "is_row" sIsRow f fd) (cL : Ca P w K mg base "is_list" 1 ["value"] spIsList) (cP : Ca P w K mg base "is_place" 2 ["value", "many"] spIsPlace) (mN : mg "len" = none) (mA : mg "all" = none) : FnOk P w K mg base CX0 3 f fd ["value", "size", "states"] spIsRow := by
  refine F.ok scIsRow (fun vs H Q E h => ?_) (fun cdv A outer s H vs Q E hr h => ?_)
  · obtain ⟨_, _, _, _, rfl, _⟩ := h
    rfl
  · obtain ⟨b, r, m, n, rfl, hb, lr, lm, lt, k⟩ := h
    have nd := scIsRow.nd
    have sz : sizeLine = 16777216 := rfl
    refine ⟨_, pss_cons (ps_if (PW.pt (pw_or (pt_not (pt_val (pe_ca cL (hr.mono (by decide)) (by rfl) (pa_cons (pv 0) pa_nil)))) (pw_or1 (pt_cmpR op_ne (pe_callB callLen (by rfl) mN PySem.boot_len (pa_cons (pv 0) pa_nil)) (pv 1) (nomark _))))) (pss_one (ps_ret pe_bl)) pss_nil)
      (pss_one (ps_ret (pe_callB (cr_all rfl) (by rfl) mA (by decide +kernel) (pa_cons (pe_lc (own := [("state", 3)]) (g := gName 3) (tt := tYes) (te := tCall spIsPlace [] E0 (tCons (tVar 3) (tCons (tVar 2) tNil))) rfl nd (pi_seqY (pv 0)) (blkOk_by (N := nIsRow) (sc := defScope sIsRow) (by decide +kernel)) (fun _ _ _ _ _ => pg_name (i := 3) nd rfl (Or.inl rfl)) (fun _ _ _ _ _ => pts_nil)
        (fun _ _ _ _ _ => pe_ca cP hr (by rfl) (pa_cons (pv 3) (pa_cons (pv 2) pa_nil)))) pa_nil)))), ?_⟩
    obtain ⟨nm, an, bn⟩ := hb.any
    refine ⟨_, rfl, _, nm, rfl, an, fun H1 s1 => ?_⟩
    rw [bn]
    refine ⟨_, rfl, ?_⟩
    refine iteF ?_
    have ll : LenV (cxOf CX0 P w K mg base nIsRow "is_row" (defScope sIsRow) f cdv A outer s H E).nox.K (.ref b) H1 m := by
      have := ((hb.same s1).y (K := K)).len
      rwa [ints_len, lr] at this
    refine ⟨_, rfl, _, m, rfl, ll, _, rfl, rfl, _, rfl, ?_⟩
    rw [show (!decide (V.int (m : Nat) = V.int (m : Nat))) = false by rw [decide_eq_true rfl]; rfl]
    refine iteF ?_
    obtain ⟨t, hy⟩ := (hb.same s1).y (K := K)
    refine ⟨_, rfl, b, vN' r, t, rfl, hy, fun D hD => ?_⟩
    refine lc_it (walk_seqX (xs := vN' r)) (fun q Hq => Same H1 Hq ∧ Hq D = some (.lst ((List.replicate q true).map V.bl))) ?_ ?_ ?_ ?_
    · exact ⟨(Same.refl H1).upd hD, upd_same⟩
    · rintro q Hq _ ⟨sq, _⟩
      exact hy.kept fun o e => sq _ _ e
    · rintro q x Hq0 Hq hq ⟨sq, cq⟩ ⟨rfl, hx⟩
      obtain ⟨u, hu', rfl⟩ := ints_get hx
      have hq' : q < r.length := by rw [← ints_len r]; exact hq
      refine ⟨rfl, _, rfl, _, rfl, u, n, rfl, lt u (List.mem_of_getElem? hu'), _, cq, (by rw [List.length_map, List.length_replicate, sz]; omega), sq.upd hD, ?_⟩
      rw [upd_same, List.replicate_succ', List.map_append]
      rfl
    · rintro Hq ⟨sq, cq⟩
      refine ⟨D, List.replicate _ true, rfl, SqL.of cq, ?_⟩
      have : ∀ j, (List.replicate j true).all id = true := fun j => by
        induction j with
        | zero => rfl
        | succ j ih => rw [List.replicate_succ, List.all_cons, ih]; rfl
      rw [this]
      exact k Hq (s1.trans sq)
theorem ok_checkrows {f : Addr} {fd : FuncData} (F : Fun K "check_rows" "check_rows" sCheckRows f fd) (cL : Ca P w K mg base "is_list" 1 ["value"] spIsList) (cR : Ca P w K mg base "is_row" 3 ["value", "size", "states"] spIsRow) (mN : mg "len" = none) (mE : mg "enumerate" = none) : FnOk P w K mg base CX0 4 f fd ["signs", "rows"] spCheckRows := by
  refine F.ok scCheckRows (fun vs H Q E h => ?_) (fun cdv A outer s H vs Q E hr h => ?_)
  · obtain ⟨_, _, _, _, _, rfl, _⟩ := h
    rfl
  · obtain ⟨z, v, n, m, R, rfl, lz, lm, hR, fm, pn, ln, k⟩ := h
    have nd := scCheckRows.nd
    have sz : sizeLine = 16777216 := rfl
    obtain ⟨va, xs, rfl, hs, pR⟩ := hR
    obtain ⟨t, ht⟩ : ∃ t, SqX K H va xs t := hs.y
    refine ⟨_, pss_cons (ps_if (PW.pt (pw_or (pt_not (pt_val (pe_ca cL (hr.mono (by decide)) (by rfl) (pa_cons (pv 1) pa_nil)))) (pw_or1 (pt_cmpR op_eq (pe_callB callLen (by rfl) mN PySem.boot_len (pa_cons (pv 1) pa_nil)) pe_int (nomark _))))) (pss_one ps_never) pss_nil)
      (pss_one (ps_for PassesOwn.never rfl (pi_enumX t (by rfl) mE (pa_cons (pv 1) pa_nil)) (pg_tup rfl (pgs_cons (pg_name (i := 2) nd rfl (.inl rfl)) (pgs_cons (pg_name (i := 3) nd rfl (.inl rfl)) pgs_nil)))
        (pss_one (ps_if (pt_not (pt_val (pe_ca cR hr (by rfl) (pa_cons (pv 3) (pa_cons (pe_callB callLen (by rfl) mN PySem.boot_len (pa_cons (pv 0) pa_nil)) (pa_cons (pe_callB callLen (by rfl) mN PySem.boot_len (pa_cons (pv 1) pa_nil)) pa_nil)))))) (pss_one ps_never) pss_nil)))), ?_⟩
    obtain ⟨nm, an, bn⟩ := hs.any
    have lx : xs.length = n := by rw [paired_lenM pR, fm.len]
    refine ⟨_, rfl, _, nm, rfl, an, fun H1 s1 => ?_⟩
    rw [bn]
    refine ⟨_, rfl, ?_⟩
    refine iteF ?_
    have ll : ∀ {Hj : Hp}, Same H1 Hj → LenV K (.ref va) Hj n := fun sj => by
      have := (((hs.same s1).same sj).y (K := K)).len
      rwa [lx] at this
    refine ⟨_, rfl, _, n, rfl, ll (Same.refl H1), rfl, _, rfl, ?_⟩
    rw [show decide (V.int (n : Nat) = V.int 0) = false from decide_eq_false (fun e => by have := V.int.inj e; omega)]
    refine iteF ?_
    refine ⟨_, rfl, va, xs, rfl, ht.kept (fun o e => s1 _ _ e), for_it (walk_enumX (t := t)) (fun i σ Hi => ∃ o1 o2 : Option V, σ = [some (.str z), some (.ref va), o1, o2] ∧ Same H1 Hi) ?_ ?_ ?_ ?_⟩
    · exact ⟨_, _, rfl, Same.refl _⟩
    · rintro i σ Hi _ ⟨_, _, _, sm⟩
      exact ht.kept fun o e => sm _ _ (s1 _ _ e)
    · rintro i x σ Hi0 Hi hi' ⟨o1, o2, rfl, sm⟩ ⟨T, p, q, rfl, hT, rfl, e1, e2⟩
      obtain rfl : V.int (i : Nat) = p := Option.some.inj e1
      obtain ⟨r, er, b, rfl, gb⟩ := paired_getM pR e2
      have s2 : Same H1 (upd Hi0 T (.tup [.int (i : Nat), .ref b])) := sm.upd (sm.none hT)
      refine ⟨T, _, rfl, SqT.of upd_same, rfl, _, _, rfl, _, _, rfl, rfl, ?_⟩
      generalize upd Hi0 T (.tup [.int (i : Nat), .ref b]) = H3 at s2 ⊢
      have mr := List.mem_of_getElem? er
      refine ⟨_, rfl, _, rfl, _, m, rfl, ⟨by rw [lz, sz]; omega, lz.symm⟩, _, rfl, _, n, rfl, ll s2, b, r, m, n, rfl, gb.same (s1.trans s2), fm.col r mr, lm, fm.lt r mr, fun H4 s4 => ?_⟩
      exact ⟨_, rfl, iteF ⟨_, _, rfl, s2.trans s4⟩⟩
    · rintro σ Hi ⟨o1, o2, rfl, sm⟩
      exact k _ (s1.trans sm)
theorem ok_checkends {f : Addr} {fd : FuncData} (F : Fun K "check_ends" "check_ends" sCheckEnds f fd) (cL : Ca P w K mg base "is_list" 1 ["value"] spIsList) (cP : Ca P w K mg base "is_place" 2 ["value", "many"] spIsPlace) (mE : mg "enumerate" = none) : FnOk P w K mg base CX0 3 f fd ["states", "ends"] spCheckEnds := by
  refine F.ok scCheckEnds (fun vs H Q E h => ?_) (fun cdv A outer s H vs Q Ex hr h => ?_)
  · obtain ⟨_, _, _, rfl, _⟩ := h
    rfl
  · obtain ⟨v, n, E, rfl, hE, nE, lE, ln, k⟩ := h
    have nd := scCheckEnds.nd
    have sz : sizeLine = 16777216 := rfl
    obtain ⟨va, rfl, hs⟩ := hE
    obtain ⟨t, ht⟩ : ∃ t, SqX K H va (vN' E) t := hs.y
    have hu : (A.deeper (envOfC "check_ends" (defScope sCheckEnds) s.heap.objs.size f cdv)).units + 1 < cLine := by have := hr.un; omega
    refine ⟨_, pss_cons (ps_if (pt_not (pt_val (pe_ca cL (hr.mono (by decide)) (by rfl) (pa_cons (pv 1) pa_nil)))) (pss_one ps_never) pss_nil)
      (pss_cons (ps_set (i := 2) nd rfl (.inl rfl) pe_dnewK)
      (pss_one (ps_for PassesOwn.never rfl (pi_enumX t (by rfl) mE (pa_cons (pv 1) pa_nil)) (pg_tup rfl (pgs_cons (pg_name (i := 3) nd rfl (.inl rfl)) (pgs_cons (pg_name (i := 4) nd rfl (.inl rfl)) pgs_nil)))
        (pss_cons (ps_if (PW.pt (pw_or (pt_not (pt_val (pe_ca cP hr (by rfl) (pa_cons (pv 4) (pa_cons (pv 0) pa_nil))))) (pw_or1 (pt_cmp (pc_din hu (pv 4) (pv 2)))))) (pss_one ps_never) pss_nil)
        (pss_one (ps_dput hu (pv 2) (pv 4) pe_bl rfl)))))), ?_⟩
    obtain ⟨nm, an, bn⟩ := hs.any
    have lEn : E.length ≤ n := by
      have := nodup_sub nE (m := List.range n) fun s hs => List.mem_range.mpr (lE s hs)
      rwa [List.length_range] at this
    refine ⟨_, rfl, _, nm, rfl, an, fun H1 s1 => ?_⟩
    rw [bn]
    refine ⟨_, rfl, ?_⟩
    refine iteF ?_
    intro D hD
    have nvD : va ≠ D := fun e => by
      have := (hs.same s1)
      rw [e] at this
      rcases this with q | q <;> rw [hD] at q <;> cases q
    have htj : ∀ {Hj : Hp}, Same H1 Hj → SqX K Hj va (vN' E) t := fun sj => ht.kept fun o e => sj _ _ (s1 _ _ e)
    refine ⟨_, rfl, va, vN' E, rfl, htj ((Same.refl H1).upd hD), for_it (walk_enumX (t := t)) (fun i σ Hi => ∃ (o3 o4 : Option V) (kve : List (Key × V)), σ = [some (.int (n : Nat)), some (.ref va), some (.ref D), o3, o4] ∧ Same H1 Hi ∧ Hi D = some (.dK kve) ∧ EndK kve (E.take i)) ?_ ?_ ?_ ?_⟩
    · exact ⟨_, _, [], rfl, (Same.refl H1).upd hD, upd_same, EndK.nil⟩
    · rintro i σ Hi _ ⟨_, _, _, _, sm, _⟩
      exact htj sm
    · rintro i x σ Hi0 Hi hi' ⟨o3, o4, kve, rfl, sm, gD, ek⟩ ⟨T, p, q, rfl, hT, rfl, e1, e2⟩
      obtain rfl : V.int (i : Nat) = p := Option.some.inj e1
      obtain ⟨u, hu', rfl⟩ := ints_get e2
      have nDT : D ≠ T := ne_of_none gD hT
      have s2 : Same H1 (upd Hi0 T (.tup [.int (i : Nat), .int (u : Nat)])) := sm.upd (sm.none hT)
      have gD2 : upd Hi0 T (.tup [.int (i : Nat), .int (u : Nat)]) D = some (.dK kve) := by rw [upd_ne nDT]; exact gD
      refine ⟨T, _, rfl, SqT.of upd_same, rfl, _, _, rfl, _, _, rfl, rfl, ?_⟩
      generalize upd Hi0 T (.tup [.int (i : Nat), .int (u : Nat)]) = H3 at s2 gD2 ⊢
      have un : decide (u ∈ E.take i) = false := decide_eq_false fun m => by
        obtain ⟨j, hj, ej⟩ := List.mem_iff_getElem.mp m
        rw [List.length_take] at hj
        rw [List.getElem_take] at ej
        obtain ⟨hi2, ei⟩ := List.getElem?_eq_some_iff.mp hu'
        have := (List.pairwise_iff_getElem.mp nE) j i (by omega) hi2 (by omega)
        exact this (ej.trans ei.symm)
      refine ⟨_, rfl, _, rfl, u, n, rfl, lE u (List.mem_of_getElem? hu'), _, rfl, ?_⟩
      refine iteF ?_
      refine ⟨_, rfl, _, rfl, D, _, rfl, DGet.k (k := Sum.inl (u : Int)) gD2, _, rfl, ?_⟩
      rw [ek.2 u, un]
      refine iteF ?_
      refine ⟨_, rfl, _, rfl, D, _, rfl, DPut.k (k := Sum.inl (u : Int)) gD2 (by have := ek.1; rw [List.length_take] at this; rw [sz]; omega), ?_⟩
      exact ⟨_, _, _, rfl, s2.upd hD, upd_same, endK_take ek hu' _⟩
    · rintro σ Hi ⟨o3, o4, kve, rfl, sm, gD, ek⟩
      exact k _ (s1.trans sm)
end
end K11
namespace K11
open PySem PySem.Spec PyProof.Rows L2 FL
abbrev sMach : Stmt := topS 37
abbrev sMInit : Stmt := inClass sMach 1
abbrev sMSigns : Stmt := inClass sMach 9
abbrev sMStates : Stmt := inClass sMach 10
abbrev sMRows : Stmt := inClass sMach 11
abbrev sMEnds : Stmt := inClass sMach 12
abbrev sMEq : Stmt := inClass sMach 25
abbrev sMRepr : Stmt := inClass sMach 26
abbrev nMInit : List Str := ["self", "signs", "rows", "ends", "least_rows", "least_ends"]
theorem scMInit : FnScope nMInit ["self", "signs", "rows", "ends"] (defScope sMInit) := ⟨rfl, rfl, rfl, by decide +kernel, rfl, by decide +kernel, by decide +kernel⟩
theorem scMSigns : FnScope ["self"] ["self"] (defScope sMSigns) := ⟨rfl, rfl, rfl, by decide +kernel, rfl, by decide +kernel, by decide +kernel⟩
theorem scMStates : FnScope ["self"] ["self"] (defScope sMStates) := ⟨rfl, rfl, rfl, by decide +kernel, rfl, by decide +kernel, by decide +kernel⟩
theorem scMRows : FnScope ["self"] ["self"] (defScope sMRows) := ⟨rfl, rfl, rfl, by decide +kernel, rfl, by decide +kernel, by decide +kernel⟩
theorem scMEnds : FnScope ["self"] ["self"] (defScope sMEnds) := ⟨rfl, rfl, rfl, by decide +kernel, rfl, by decide +kernel, by decide +kernel⟩
theorem scMEq : FnScope ["self", "other"] ["self", "other"] (defScope sMEq) := ⟨rfl, rfl, rfl, by decide +kernel, rfl, by decide +kernel, by decide +kernel⟩
theorem scMRepr : FnScope ["self"] ["self"] (defScope sMRepr) := ⟨rfl, rfl, rfl, by decide +kernel, rfl, by decide +kernel, by decide +kernel⟩
section
variable {P : Program} {w : World} {K : PySem.W.Frag} {mg : Str → Option Value} {base : Heap}
theorem ok_msigns {f C : Addr} {fd : FuncData} (F : Fun K "signs" "Machine.signs" sMSigns f fd) (T : MTxt K mg C) : FnOk P w K mg base CX0 1 f fd ["self"] (spMGet C) := by
  refine F.ok scMSigns (fun vs H Q E h => ?_) (fun cdv A outer s H vs Q E hr h => ?_)
  · obtain ⟨_, _, _, _, rfl, _⟩ := h
    rfl
  · obtain ⟨p, z, R, E, rfl, ⟨dx, ra, ea, xs, h1, h2, h3, h4, _, _⟩, k⟩ := h
    refine ⟨_, pss_one (ps_ret (pe_fld (pv 0) rfl)), ?_⟩
    exact ⟨_, rfl, p, C, dx, _, _, rfl, h1, T.cl, T.nS, mfl_signs z ra ea, k⟩
theorem ok_mstates {f C : Addr} {fd : FuncData} (F : Fun K "states" "Machine.states" sMStates f fd) (T : MTxt K mg C) (mN : mg "len" = none) : FnOk P w K mg base CX0 1 f fd ["self"] (spMStates C) := by
  refine F.ok scMStates (fun vs H Q E h => ?_) (fun cdv A outer s H vs Q E hr h => ?_)
  · obtain ⟨_, _, _, _, rfl, _⟩ := h
    rfl
  · obtain ⟨p, z, R, E, rfl, ⟨dx, ra, ea, xs, h1, h2, h3, h4, _, _⟩, k⟩ := h
    refine ⟨_, pss_one (ps_ret (pe_callB callLen (by rfl) mN PySem.boot_len (pa_cons (pe_fld (pv 0) rfl) pa_nil))), ?_⟩
    exact ⟨_, rfl, p, C, dx, _, _, rfl, h1, T.cl, T.nR, mfl_rows z ra ea, _, R.length, rfl, .inl ⟨_, SqL.of h2, (paired_lenM h3).symm⟩, k⟩
theorem ok_mrows {f C : Addr} {fd : FuncData} (F : Fun K "rows" "Machine.rows" sMRows f fd) (T : MTxt K mg C) (mL : mg "list" = none) : FnOk P w K mg base CX0 1 f fd ["self"] (spMRows C) := by
  refine F.ok scMRows (fun vs H Q E h => ?_) (fun cdv A outer s H vs Q E hr h => ?_)
  · obtain ⟨_, _, _, _, rfl, _⟩ := h
    rfl
  · obtain ⟨p, z, R, E, rfl, ⟨dx, ra, ea, xs, h1, h2, h3, h4, _, _⟩, k⟩ := h
    refine ⟨_, pss_one (ps_ret (pe_callTy call_list_of (by rfl) mL (by decide +kernel) (pa_cons (pe_fld (pv 0) rfl) pa_nil))), ?_⟩
    refine ⟨_, rfl, p, C, dx, _, _, rfl, h1, T.cl, T.nR, mfl_rows z ra ea, ra, xs, rfl, .inl (SqL.of h2), fun D hD => ?_⟩
    have sm : Same H (upd H D (.lst xs)) := (Same.refl H).upd hD
    exact k D xs _ hD upd_same (h3.same fun a o e => sm a _ e) sm
theorem ok_mends {f C : Addr} {fd : FuncData} (F : Fun K "ends" "Machine.ends" sMEnds f fd) (T : MTxt K mg C) (mL : mg "list" = none) : FnOk P w K mg base CX0 1 f fd ["self"] (spMEnds C) := by
  refine F.ok scMEnds (fun vs H Q E h => ?_) (fun cdv A outer s H vs Q E hr h => ?_)
  · obtain ⟨_, _, _, _, rfl, _⟩ := h
    rfl
  · obtain ⟨p, z, R, E, rfl, ⟨dx, ra, ea, xs, h1, h2, h3, h4, _, _⟩, k⟩ := h
    refine ⟨_, pss_one (ps_ret (pe_callTy call_list_of (by rfl) mL (by decide +kernel) (pa_cons (pe_fld (pv 0) rfl) pa_nil))), ?_⟩
    refine ⟨_, rfl, p, C, dx, _, _, rfl, h1, T.cl, T.nE, mfl_ends z ra ea, ea, _, rfl, .inl (SqL.of h4), fun D hD => ?_⟩
    exact k D _ hD upd_same ((Same.refl H).upd hD)
theorem ok_meq {f C : Addr} {fd : FuncData} (F : Fun K "__eq__" "Machine.__eq__" sMEq f fd) (T : MTxt K mg C) (I : IsT K C) (mI : mg "isinstance" = none) : FnOk P w K mg base CX0 1 f fd ["self", "other"] (spMEq C) := by
  refine F.ok scMEq (fun vs H Q E h => ?_) (fun cdv A outer s H vs Q E hr h => ?_)
  · obtain ⟨_, _, _, _, _, _, rfl, _⟩ := h
    rfl
  · obtain ⟨p, z, R, E, m, v, rfl, ⟨dx, ra, ea, xs, h1, h2, h3, h4, _, _⟩, lf, k⟩ := h
    refine ⟨_, pss_one (ps_ret (pe_and (pe_callB call_isi (by rfl) mI (by decide +kernel) (pa_cons (pv 1) (pa_cons (pe_glob (v := .ref C) rfl T.mgC rfl) pa_nil)))
      (pe_and (pe_cmpR op_eq (pe_fld (pv 0) rfl) (pe_fld (pv 1) rfl) (nomark _))
      (pe_and (pe_cmpR (op_eqD hr.units) (pe_fld (pv 0) rfl) (pe_fld (pv 1) rfl) (nomark _)) (pe_one (pe_cmpR (op_eqD hr.units) (pe_fld (pv 0) rfl) (pe_fld (pv 1) rfl) (nomark _))))))), ?_⟩
    rcases k with ⟨n, an, k⟩ | ⟨q, z', R', E', m', rfl, ⟨dy, rb, eb, ys, g1, g2, g3, g4, _, _⟩, lf', k⟩
    · exact ⟨_, rfl, v, .ref C, _, _, false, rfl, .own C, an.tyx, I.oth n an.kind, _, rfl, k⟩
    · refine ⟨_, rfl, _, .ref C, _, _, true, rfl, .own C, I.ins g1, I.self, _, rfl, ?_⟩
      refine ⟨_, rfl, p, C, dx, _, _, rfl, h1, T.cl, T.nS, mfl_signs z ra ea, _, rfl, q, C, dy, _, _, rfl, g1, T.cl, T.nS, mfl_signs z' rb eb, rfl, ?_⟩
      by_cases ez : z = z'
      · subst ez
        rw [decide_eq_true (show V.str z = V.str z from rfl)]
        refine ⟨_, rfl, ?_⟩
        refine iteT ?_
        refine ⟨_, rfl, p, C, dx, _, _, rfl, h1, T.cl, T.nR, mfl_rows z ra ea, _, rfl, q, C, dy, _, _, rfl, g1, T.cl, T.nR, mfl_rows z rb eb, _, _, dp_rowsD h2 h3, dp_rowsD g2 g3, lf.smR.shaped, lf'.smR.shaped, ?_⟩
        rw [eqv_rowsD]
        refine ⟨_, rfl, ?_⟩
        by_cases er : R = R'
        · subst er
          rw [decide_eq_true rfl]
          refine iteT ?_
          refine ⟨_, rfl, p, C, dx, _, _, rfl, h1, T.cl, T.nE, mfl_ends z ra ea, _, rfl, q, C, dy, _, _, rfl, g1, T.cl, T.nE, mfl_ends z rb eb, _, _, dp_endsD h4, dp_endsD g4, lf.smE.shaped, lf'.smE.shaped, ?_⟩
          rw [eqv_endsD]
          have : decide (z = z ∧ R = R ∧ E = E') = decide (E = E') := decide_eq_decide.mpr ⟨fun h => h.2.2, fun h => ⟨rfl, rfl, h⟩⟩
          rw [this] at k
          exact k
        · rw [decide_eq_false er]
          rw [decide_eq_false (fun h => er h.2.1)] at k
          exact iteF k
      · rw [decide_eq_false (fun h => ez (V.str.inj h))]
        rw [decide_eq_false (fun h => ez h.1)] at k
        exact ⟨_, rfl, iteF k⟩
theorem ok_mrepr {f C : Addr} {fd : FuncData} (F : Fun K "__repr__" "Machine.__repr__" sMRepr f fd) (T : MTxt K mg C) : FnG P w K mg base CX0 1 f fd ["self"] (spMRepr C) := by
  refine okG F scMRepr (fun vs H Q E h => ?_) (fun cdv A outer s H vs Q E hr hg h => ?_)
  · obtain ⟨_, _, _, _, _, rfl, _⟩ := h
    rfl
  · obtain ⟨p, z, R, E, m, rfl, ⟨dx, ra, ea, xs, h1, h2, h3, h4, _, _⟩, az, lf, k⟩ := h
    have sz : sizeLine = 16777216 := rfl
    refine ⟨_, pss_one (ps_ret (pe_joined (.cons pe_str (.cons (pe_fmtR (pe_fld (pv 0) rfl)) (.cons pe_str (.cons (pe_fmtL hg hr.units (pe_fld (pv 0) rfl)) (.cons pe_str (.cons (pe_fmtL hg hr.units (pe_fld (pv 0) rfl)) (.cons pe_str .nil))))))))), ?_⟩
    have l1 : (reprText z).length ≤ 42 := repr_abc az
    have l2 : (rowsD R).shown.length ≤ 20000 := lf.smR.len
    have l3 : (endsD E).shown.length ≤ 20000 := lf.smE.len
    have e1 : (Str.ofString "Machine(").length = 8 := by decide +kernel
    have e2 : (Str.ofString ", ").length = 2 := by decide +kernel
    have e3 : (Str.ofString ")").length = 1 := by decide +kernel
    have e0 : Str.empty.length = 0 := by decide +kernel
    refine ⟨_, rfl, (by rw [len_app, sz]; omega), ?_⟩
    refine ⟨_, rfl, p, C, dx, _, _, rfl, h1, T.cl, T.nS, mfl_signs z ra ea, .inl ⟨z, rfl, (by rw [sz]; omega), _, rfl, (by rw [len_app, len_app, sz]; omega), ?_⟩⟩
    refine ⟨_, rfl, (by rw [len_app, len_app, len_app, sz]; omega), ?_⟩
    refine ⟨_, rfl, p, C, dx, _, _, rfl, h1, T.cl, T.nR, mfl_rows z ra ea, ra, xs, _, rfl, SqL.of h2, dp_rowsD h2 h3, lf.smR.nd, lf.smR.nice (by decide), _, rfl, (by rw [len_app, len_app, len_app, len_app, sz]; omega), ?_⟩
    refine ⟨_, rfl, (by rw [len_app, len_app, len_app, len_app, len_app, sz]; omega), ?_⟩
    refine ⟨_, rfl, p, C, dx, _, _, rfl, h1, T.cl, T.nE, mfl_ends z ra ea, ea, _, _, rfl, SqL.of h4, dp_endsD h4, lf.smE.nd, lf.smE.nice (by decide), _, rfl, (by rw [len_app, len_app, len_app, len_app, len_app, len_app, sz]; omega), ?_⟩
    refine ⟨_, rfl, (by rw [len_app, len_app, len_app, len_app, len_app, len_app, len_app, sz]; omega), ?_⟩
    exact k
theorem ok_minit {f C : Addr} {fd : FuncData} (F : Fun K "__init__" "Machine.__init__" sMInit f fd) (T : MTxt K mg C) (mN : mg "len" = none)
    (cS : Ca P w K mg base "check_signs" 3 ["signs"] spCheckSigns) (cR : Ca P w K mg base "check_rows" 4 ["signs", "rows"] spCheckRows) (cE : Ca P w K mg base "check_ends" 3 ["states", "ends"] spCheckEnds) (cL : Ca P w K mg base "least_form" 3 ["rows", "ends", "most"] (spLeastForm K)) :
    FnOk P w K mg base CX0 5 f fd ["self", "signs", "rows", "ends"] (spMInit C) := by
  refine F.ok scMInit (fun vs H Q E h => ?_) (fun cdv A outer s H vs Q Ex hr h => ?_)
  · obtain ⟨_, _, _, _, _, _, _, _, _, rfl, _⟩ := h
    rfl
  · obtain ⟨p, dx, z, v, e, R, E, n, m, rfl, hp, az, lz, hR, fm, pn, ln, hE, nE, lE, k⟩ := h
    have nd := scMInit.nd
    have sz : sizeLine = 16777216 := rfl
    obtain ⟨mc, u, rdM, vlM⟩ := T.mo
    refine ⟨_, pss_cons (ps_expr (pe_ca cS (hr.mono (by decide)) (by rfl) (pa_cons (pv 1) pa_nil)))
      (pss_cons (ps_expr (pe_ca cR hr (by rfl) (pa_cons (pv 1) (pa_cons (pv 2) pa_nil))))
      (pss_cons (ps_expr (pe_ca cE (hr.mono (by decide)) (by rfl) (pa_cons (pe_callB callLen (by rfl) mN PySem.boot_len (pa_cons (pv 2) pa_nil)) (pa_cons (pv 3) pa_nil))))
      (pss_cons (ps_if (pt_cmpR op_gt (pe_callB callLen (by rfl) mN PySem.boot_len (pa_cons (pv 2) pa_nil)) (ClX.pe_cval (pe_glob (v := .ref C) rfl T.mgC rfl)) (nomark _)) (pss_one ps_never) pss_nil)
      (pss_cons (ps_asg (pe_ca cL (hr.mono (by decide)) (by rfl) (pa_cons (pv 2) (pa_cons (pv 3) (pa_cons (ClX.pe_cval (pe_glob (v := .ref C) rfl T.mgC rfl)) pa_nil)))) (pg_tup rfl (pgs_cons (pg_name (i := 4) nd rfl (.inl rfl)) (pgs_cons (pg_name (i := 5) nd rfl (.inl rfl)) pgs_nil))))
      (pss_cons (ps_fld (pv 0) (pv 1) rfl) (pss_cons (ps_fld (pv 0) (pv 4) rfl) (pss_one (ps_fld (pv 0) (pv 5) rfl)))))))), ?_⟩
    have lm : m ≤ 4 := by rw [← lz]; exact az.hi
    obtain ⟨va, xs, rfl, hs, pR⟩ := hR
    have lx : xs.length = n := by rw [paired_lenM pR, fm.len]
    have hR' : RowsZ H (.ref va) R := ⟨va, xs, rfl, hs, pR⟩
    have ll : ∀ {Hj : Hp}, Same H Hj → LenV K (.ref va) Hj n := fun sj => by
      have := ((hs.same sj).y (K := K)).len
      rwa [lx] at this
    refine ⟨_, rfl, z, rfl, az, fun H1 s1 => ?_⟩
    refine ⟨_, rfl, _, rfl, z, .ref va, n, m, R, rfl, lz, by omega, hR'.same s1, fm, pn, by omega, fun H2 s2 => ?_⟩
    have s12 := s1.trans s2
    refine ⟨_, rfl, _, n, rfl, ll s12, _, rfl, e, n, E, rfl, hE.same s12, nE, lE, by omega, fun H3 s3 => ?_⟩
    have s13 := s12.trans s3
    refine ⟨_, rfl, _, n, rfl, ll s13, C, mc, _, u, rfl, rdM, vlM, _, _, rfl, rfl, _, rfl, ?_⟩
    refine ite2 (fun h => absurd (of_decide_eq_true h) (by omega)) (fun _ => ?_)
    have fewE : ∀ l : List Nat, (∀ s ∈ l, s < n) → l.Pairwise (fun s t => ¬ eqvM R E m s t) → l.length ≤ 300 := fun l lt ap => by
      have := nodup_sub (l := l) (ap.imp fun {a b} h e => h (by rw [e]; exact eqvM.refl _ _ _ _)) (m := List.range n) fun s hs => List.mem_range.mpr (lt s hs)
      rw [List.length_range] at this
      omega
    have lEn : E.length ≤ n := by
      have := nodup_sub nE (m := List.range n) fun s hs => List.mem_range.mpr (lE s hs)
      rwa [List.length_range] at this
    refine ⟨_, rfl, _, rfl, C, mc, _, u, rfl, rdM, vlM, .ref va, e, n, m, 300, R, E, rfl, (hR'.same s13).y, fm, pn, by omega, by omega, (hE.same s13).y, by omega, fewE, fun x R' E' H4 s4 hx lf => ?_⟩
    obtain ⟨t, L, D, ys, rfl, gt, gL, hys, gD, nL, nD⟩ := hx
    refine ⟨t, _, rfl, SqT.of gt, rfl, _, _, rfl, _, _, rfl, rfl, ?_⟩
    have s14 := s13.trans s4
    have hp4 := s14 _ _ hp
    have nLp : L ≠ p := fun e => by rw [e, s13 _ _ hp] at nL; cases nL
    have nDp : D ≠ p := fun e => by rw [e, s13 _ _ hp] at nD; cases nD
    refine ⟨_, rfl, _, rfl, p, C, dx, [], rfl, hp4, T.cl, T.nS, (by show 0 < 1000; decide), ?_⟩
    refine ⟨_, rfl, _, rfl, p, C, dx, _, rfl, upd_same, T.cl, T.nR, (by show 1 < 1000; decide), ?_⟩
    refine ⟨_, rfl, _, rfl, p, C, dx, _, rfl, upd_same, T.cl, T.nE, mtwo_len z L, ?_⟩
    have bt : ∀ c o, H4 c = some o → c ≠ p → upd (upd (upd H4 p (.ins C dx (putF "_signs" (.str z) []))) p (.ins C dx (putF "_rows" (.ref L) (putF "_signs" (.str z) [])))) p (.ins C dx (putF "_ends" (.ref D) (putF "_rows" (.ref L) (putF "_signs" (.str z) [])))) c = some o := fun c o e nc => by
      rw [upd_ne nc, upd_ne nc, upd_ne nc]
      exact e
    refine k _ R' E' (fun Ds hDs => ⟨dx, L, D, ys, upd_same, bt _ _ gL nLp, hys.same fun a o e => bt a _ e (fun z => by rw [z, hp4] at e; cases e), bt _ _ gD nDp, fun mL => ?_, fun mD => ?_⟩) lf fun c o e nc => bt c o (s14 _ _ e) nc
    · rcases hDs L mL with e | e
      · exact nLp e
      · exact e (s13.none nL)
    · rcases hDs D mD with e | e
      · exact nDp e
      · exact e (s13.none nD)
end
end K11
namespace FL
open PySem PySem.Spec PyProof.Rows L2 FL
/-! ### told apart by lines of so many signs -/
def eqvK (R : Rws) (E : List Nat) (m k s t : Nat) : Prop := ∀ w : List Nat, w.length ≤ k → (∀ a ∈ w, a < m) → (runM R s w ∈ E ↔ runM R t w ∈ E)
section
variable {R : Rws} {E : List Nat} {m n k s t u : Nat}
theorem eqvK.refl (R : Rws) (E : List Nat) (m k s : Nat) : eqvK R E m k s s := fun _ _ _ => Iff.rfl
theorem eqvK.symm (h : eqvK R E m k s t) : eqvK R E m k t s := fun w l hw => (h w l hw).symm
theorem eqvK.trans (h : eqvK R E m k s t) (g : eqvK R E m k t u) : eqvK R E m k s u := fun w l hw => (h w l hw).trans (g w l hw)
theorem eqvK.mono {j : Nat} (l : j ≤ k) (h : eqvK R E m k s t) : eqvK R E m j s t := fun w lw hw => h w (Nat.le_trans lw l) hw
theorem eqvM.toK (h : eqvM R E m s t) : eqvK R E m k s t := fun w _ hw => h w hw
theorem eqvK.all (h : ∀ k, eqvK R E m k s t) : eqvM R E m s t := fun w hw => h w.length w (Nat.le_refl _) hw
theorem eqvK.ends (h : eqvK R E m k s t) : s ∈ E ↔ t ∈ E := h [] (Nat.zero_le _) (fun _ h => nomatch h)
theorem eqvK.step {a : Nat} (h : eqvK R E m (k + 1) s t) (ha : a < m) : eqvK R E m k (nxt R s a) (nxt R t a) := fun w l hw => h (a :: w) (Nat.succ_le_succ l) fun b hb => by
  rcases List.mem_cons.mp hb with rfl | hb
  · exact ha
  · exact hw b hb
theorem eqvK.of (he : s ∈ E ↔ t ∈ E) (h : ∀ a, a < m → eqvK R E m k (nxt R s a) (nxt R t a)) : eqvK R E m (k + 1) s t := fun w l hw => by
  cases w with
  | nil => exact he
  | cons a w => exact h a (hw a List.mem_cons_self) w (Nat.le_of_succ_le_succ l) fun b hb => hw b (List.mem_cons_of_mem _ hb)
theorem stable_all (F : Frm n m R) (st : ∀ s t, s < n → t < n → eqvK R E m k s t → eqvK R E m (k + 1) s t) : ∀ (j s t : Nat), s < n → t < n → eqvK R E m k s t → eqvK R E m j s t
  | 0, _, _, _, _, h => h.mono (Nat.zero_le _)
  | j + 1, s, t, ls, lt, h => eqvK.of h.ends fun a ha => stable_all F st j _ _ (F.nxt_lt ls ha) (F.nxt_lt lt ha) ((st s t ls lt h).step ha)
noncomputable def reps (n : Nat) (R : Rws) (E : List Nat) (m k : Nat) : List Nat := (List.range n).filter fun s => @decide (∀ t, t < s → ¬ eqvK R E m k t s) (Classical.propDecidable _)
theorem mem_reps : s ∈ reps n R E m k ↔ s < n ∧ ∀ t, t < s → ¬ eqvK R E m k t s := by
  unfold reps
  rw [List.mem_filter, List.mem_range]
  exact and_congr_right fun _ => @decide_eq_true_iff _ (Classical.propDecidable _)
open Classical in
theorem least_rep (R : Rws) (E : List Nat) (m k : Nat) : ∀ s, ∃ r, r ≤ s ∧ eqvK R E m k r s ∧ ∀ t, t < r → ¬ eqvK R E m k t r := fun s => by
  induction s using Nat.strongRecOn with
  | _ s ih =>
    by_cases h : ∃ t, t < s ∧ eqvK R E m k t s
    · obtain ⟨t, lt, e⟩ := h
      obtain ⟨r, l, er, lr⟩ := ih t lt
      exact ⟨r, by omega, er.trans e, lr⟩
    · exact ⟨s, Nat.le_refl _, eqvK.refl _ _ _ _ _, fun t lt e => h ⟨t, lt, e⟩⟩
theorem reps_more {a b : Nat} (la : a < n) (lb : b < n) (h : eqvK R E m k a b) (g : ¬ eqvK R E m (k + 1) a b) : (reps n R E m k).length + 1 ≤ (reps n R E m (k + 1)).length := by
  obtain ⟨r, lr, er, mr⟩ := least_rep R E m k a
  obtain ⟨u, lu, eu, nu⟩ : ∃ u, u < n ∧ eqvK R E m k r u ∧ ¬ eqvK R E m (k + 1) r u := by
    by_cases c : eqvK R E m (k + 1) r a
    · exact ⟨b, lb, er.trans h, fun z => g (c.symm.trans z)⟩
    · exact ⟨a, la, er, c⟩
  obtain ⟨r', lr', er', mr'⟩ := least_rep R E m (k + 1) u
  have nd : (reps n R E m k).Nodup := List.nodup_range.filter _
  have e1 : eqvK R E m k r r' := eu.trans (er'.symm.mono (Nat.le_succ _))
  have ne : r ≠ r' := fun e => nu (by rw [e]; exact er')
  have lt : r < r' := by
    rcases Nat.lt_or_ge r r' with l | l
    · exact l
    · exact absurd e1.symm (mr r' (by omega))
  have n1 : r' ∉ reps n R E m k := fun z => (mem_reps.mp z).2 r lt e1
  have := nodup_sub (l := r' :: reps n R E m k) (List.nodup_cons.mpr ⟨n1, nd⟩) (m := reps n R E m (k + 1)) fun s hs => by
    rcases List.mem_cons.mp hs with rfl | hs
    · exact mem_reps.mpr ⟨by omega, mr'⟩
    · obtain ⟨h1, h2⟩ := mem_reps.mp hs
      exact mem_reps.mpr ⟨h1, fun t lt e => h2 t lt (e.mono (Nat.le_succ _))⟩
  rwa [List.length_cons] at this
/-- so many signs as states are enough -/
theorem moore (F : Frm n m R) (ls : s < n) (lt : t < n) (h : eqvK R E m n s t) : eqvM R E m s t := by
  by_cases c : ∃ k, k < n ∧ ∀ s t, s < n → t < n → eqvK R E m k s t → eqvK R E m (k + 1) s t
  · obtain ⟨k, lk, st⟩ := c
    exact eqvK.all fun j => stable_all F st j s t ls lt (h.mono (Nat.le_of_lt lk))
  · exfalso
    have grow : ∀ k, k ≤ n → k + 1 ≤ (reps n R E m k).length := fun k => by
      induction k with
      | zero =>
        intro _
        have : 0 ∈ reps n R E m 0 := mem_reps.mpr ⟨by omega, fun t h => absurd h (Nat.not_lt_zero _)⟩
        exact List.length_pos_of_mem this
      | succ k ih =>
        intro hk
        have i1 := ih (by omega)
        by_cases d : ∀ s t, s < n → t < n → eqvK R E m k s t → eqvK R E m (k + 1) s t
        · exact absurd ⟨k, by omega, d⟩ c
        · have : ∃ s t, s < n ∧ t < n ∧ eqvK R E m k s t ∧ ¬ eqvK R E m (k + 1) s t := by
            refine Classical.byContradiction fun z => d fun s t h1 h2 h3 => Classical.byContradiction fun h4 => z ⟨s, t, h1, h2, h3, h4⟩
          obtain ⟨a, b, h1, h2, h3, h4⟩ := this
          have := reps_more h1 h2 h3 h4
          omega
    have g := grow n (Nat.le_refl _)
    have l : (reps n R E m n).length ≤ n := by
      unfold reps
      have := List.length_filter_le (fun s => @decide (∀ t, t < s → ¬ eqvK R E m n t s) (Classical.propDecidable _)) (List.range n)
      rwa [List.length_range] at this
    omega
end
/-! ### the table of states that are told apart -/
structure TabP (n m : Nat) (R : Rws) (E : List Nat) (k i j : Nat) (tb : Nat → Nat → Bool) : Prop where
  sound : ∀ a b, a < n → b < n → tb a b = true → ¬ eqvM R E m a b
  sym : ∀ a b, a < n → b < n → tb a b = tb b a
  comp : ∀ a b, a < n → b < n → ¬ eqvK R E m k a b → tb a b = true
  done : ∀ a b, a < n → b < a → (a < i ∨ (a = i ∧ b < j)) → ¬ eqvK R E m (k + 1) a b → tb a b = true
def mark (tb : Nat → Nat → Bool) (i j : Nat) : Nat → Nat → Bool := fun a b => if a = i ∧ b = j then true else tb a b
theorem mark_two (tb : Nat → Nat → Bool) (i j a b : Nat) : mark (mark tb i j) j i a b = if (a = i ∧ b = j) ∨ (a = j ∧ b = i) then true else tb a b := by
  unfold mark
  by_cases h1 : a = j ∧ b = i
  · rw [if_pos h1, if_pos (.inr h1)]
  · rw [if_neg h1]
    by_cases h2 : a = i ∧ b = j
    · rw [if_pos h2, if_pos (.inl h2)]
    · rw [if_neg h2, if_neg (fun z => z.elim h2 h1)]
section
variable {n m k i j : Nat} {R : Rws} {E : List Nat} {tb : Nat → Nat → Bool}
theorem TabP.start : TabP n m R E 0 0 0 fun a b => decide ((a ∈ E) ≠ (b ∈ E)) := by
  refine ⟨fun a b _ _ h e => ?_, fun a b _ _ => ?_, fun a b _ _ h => ?_, fun a b _ _ h => ?_⟩
  · have := of_decide_eq_true h
    exact this (propext e.ends)
  · exact decide_eq_decide.mpr ⟨Ne.symm, Ne.symm⟩
  · refine decide_eq_true fun z => h fun w l _ => ?_
    have : w = [] := List.length_eq_zero_iff.mp (by omega)
    rw [this]
    show a ∈ E ↔ b ∈ E
    rw [z]
  · omega
theorem TabP.row (h : TabP n m R E k i i tb) : TabP n m R E k (i + 1) 0 tb := ⟨h.sound, h.sym, h.comp, fun a b la lb c => h.done a b la lb (by omega)⟩
theorem TabP.turn (h : TabP n m R E k n 0 tb) : TabP n m R E (k + 1) 0 0 tb := by
  refine ⟨h.sound, h.sym, fun a b la lb c => ?_, fun a b _ _ h => by omega⟩
  rcases Nat.lt_trichotomy a b with l | l | l
  · rw [h.sym a b la lb]
    exact h.done b a lb l (.inl lb) fun z => c z.symm
  · exact absurd (by rw [l]; exact eqvK.refl _ _ _ _ _) c
  · exact h.done a b la l (.inl la) c
/-- a pair, told apart or not -/
theorem TabP.step {b : Bool} (F : Frm n m R) (h : TabP n m R E k i j tb) (hi : i < n) (hj : j < i) (hb : b = true ↔ ∃ a, a < m ∧ tb (nxt R i a) (nxt R j a) = true) : TabP n m R E k i (j + 1) (if b = true then mark (mark tb i j) j i else tb) := by
  have lj : j < n := by omega
  have dn : ∀ a c, a < n → c < a → (a < i ∨ (a = i ∧ c < j + 1)) → ¬ eqvK R E m (k + 1) a c → tb a c = true ∨ (a = i ∧ c = j ∧ b = true) := fun a c la lc q ne => by
    by_cases e : a = i ∧ c = j
    · obtain ⟨rfl, rfl⟩ := e
      by_cases he : (a ∈ E ↔ c ∈ E)
      · refine .inr ⟨rfl, rfl, hb.mpr ?_⟩
        refine Classical.byContradiction fun z => ne (eqvK.of he fun x hx => Classical.byContradiction fun y => z ⟨x, hx, h.comp _ _ (F.nxt_lt hi hx) (F.nxt_lt lj hx) y⟩)
      · exact .inl (h.comp a c hi lj fun z => he z.ends)
    · exact .inl (h.done a c la lc (by omega) ne)
  cases b with
  | false =>
    refine ⟨h.sound, h.sym, h.comp, fun a c la lc q ne => ?_⟩
    rcases dn a c la lc q ne with z | ⟨_, _, z⟩
    · exact z
    · cases z
  | true =>
    rw [if_pos rfl]
    obtain ⟨x, hx, ex⟩ := hb.mp rfl
    have ns : ¬ eqvM R E m i j := fun z => h.sound _ _ (F.nxt_lt hi hx) (F.nxt_lt lj hx) ex (z.step hx)
    refine ⟨fun a c la lc q => ?_, fun a c la lc => ?_, fun a c la lc q => ?_, fun a c la lc q ne => ?_⟩
    · rw [mark_two] at q
      by_cases z : (a = i ∧ c = j) ∨ (a = j ∧ c = i)
      · rcases z with ⟨rfl, rfl⟩ | ⟨rfl, rfl⟩
        · exact ns
        · exact fun z => ns z.symm
      · rw [if_neg z] at q
        exact h.sound a c la lc q
    · rw [mark_two, mark_two, h.sym a c la lc]
      by_cases z : (a = i ∧ c = j) ∨ (a = j ∧ c = i)
      · rw [if_pos z, if_pos (z.elim (fun y => .inr ⟨y.2, y.1⟩) fun y => .inl ⟨y.2, y.1⟩)]
      · rw [if_neg z, if_neg fun y => z (y.elim (fun y => .inr ⟨y.2, y.1⟩) fun y => .inl ⟨y.2, y.1⟩)]
    · rw [mark_two, h.comp a c la lc q]
      simp
    · rw [mark_two]
      rcases dn a c la lc q ne with z | ⟨z1, z2, _⟩
      · rw [z]
        simp
      · rw [if_pos (.inl ⟨z1, z2⟩)]
theorem TabP.final (F : Frm n m R) (h : TabP n m R E n 0 0 tb) {a b : Nat} (la : a < n) (lb : b < n) : tb a b = !sameN R E m a b := by
  cases c : sameN R E m a b with
  | true =>
    cases d : tb a b with
    | false => rfl
    | true => exact absurd (sameN_iff.mp c) (h.sound a b la lb d)
  | false =>
    refine h.comp a b la lb fun z => ?_
    rw [sameN_iff.mpr (moore F la lb z)] at c
    cases c
end
end FL
namespace K11
open PySem PySem.Spec PyProof.Rows L2 FL
/-! ### what the law holds on the heap -/
def GridX (D : List Addr) (H : Hp) (g : Addr) (R : Rws) : Prop := ∃ xs, H g = some (.lst xs) ∧ g ∉ D ∧ Paired (fun x r => ∃ b : Addr, x = .ref b ∧ b ∉ D ∧ H b = some (.lst (vN' r))) xs R
def IntsX (D : List Addr) (H : Hp) (s : Addr) (E : List Nat) : Prop := H s = some (.lst (vN' E)) ∧ s ∉ D
/-- told: a tuple of rows and ends -/
def ToldX (D : List Addr) (H : Hp) (t : Addr) (R : Rws) (E : List Nat) : Prop := ∃ (L S : Addr) (xs : List V), H t = some (.tup [.ref L, .ref S]) ∧ H L = some (.lst xs) ∧ RowsT H xs R ∧ H S = some (.lst (vN' E)) ∧ L ∉ D ∧ S ∉ D
def Lsts (D : List Addr) (H : Hp) : Prop := ∀ a ∈ D, ∃ ys, H a = some (.lst ys)
theorem GridX.smx {D D' : List Addr} {H H' : Hp} {g : Addr} {R : Rws} (h : GridX D H g R) (d : ∀ a ∈ D', a ∈ D) (s : SmX D' H H') : GridX D H' g R := by
  obtain ⟨xs, h1, h2, h3⟩ := h
  exact ⟨xs, s _ _ h1 (fun m => h2 (d _ m)), h2, L2.Paired.mapP h3 fun _ _ ⟨b, e, n, q⟩ => ⟨b, e, n, s _ _ q fun m => n (d _ m)⟩⟩
theorem IntsX.smx {D D' : List Addr} {H H' : Hp} {g : Addr} {E : List Nat} (h : IntsX D H g E) (d : ∀ a ∈ D', a ∈ D) (s : SmX D' H H') : IntsX D H' g E := ⟨s _ _ h.1 fun m => h.2 (d _ m), h.2⟩
theorem ToldX.smx {D D' : List Addr} {H H' : Hp} {t : Addr} {R : Rws} {E : List Nat} (h : ToldX D H t R E) (d : ∀ a ∈ D', a ∈ D) (l : Lsts D' H) (s : SmX D' H H') : ToldX D H' t R E := by
  obtain ⟨L, S, xs, h1, h2, h3, h4, h5, h6⟩ := h
  have tp : ∀ a o, H a = some (.tup o) → a ∉ D' := fun a o e m => by
    obtain ⟨ys, q⟩ := l a m
    rw [q] at e
    cases e
  exact ⟨L, S, xs, s _ _ h1 (tp _ _ h1), s _ _ h2 fun m => h5 (d _ m), h3.same fun a o e => s a _ e (tp a o e), s _ _ h4 fun m => h6 (d _ m), h5, h6⟩
theorem _root_.FL.MachX.smx {D D' : List Addr} {C : Addr} {H H' : Hp} {p : Addr} {z : Str} {R : Rws} {E : List Nat} (h : MachX D C H p z R E) (d : ∀ a ∈ D', a ∈ D) (l : Lsts D' H) (s : SmX D' H H') : MachX D C H' p z R E := by
  obtain ⟨dx, ra, ea, xs, h1, h2, h3, h4, h5, h6⟩ := h
  have tp : ∀ a o, H a = some o → (∀ ys, o ≠ .lst ys) → a ∉ D' := fun a o e n m => by
    obtain ⟨ys, q⟩ := l a m
    rw [q] at e
    cases e
    exact n ys rfl
  exact ⟨dx, ra, ea, xs, s _ _ h1 (tp _ _ h1 fun _ z => nomatch z), s _ _ h2 fun m => h5 (d _ m), h3.same fun a o e => s a _ e (tp a _ e fun _ z => nomatch z), s _ _ h4 fun m => h6 (d _ m), h5, h6⟩
theorem nomem {D D' : List Addr} {H : Hp} {b : Addr} {o : HO} (n : ∀ a ∈ D', a ∈ D ∨ H a = none) (h : b ∉ D) (e : H b = some o) : b ∉ D' := fun m => (n _ m).elim h fun z => by
  rw [e] at z
  cases z
theorem GridX.more {D D' : List Addr} {H : Hp} {g : Addr} {R : Rws} (h : GridX D H g R) (n : ∀ a ∈ D', a ∈ D ∨ H a = none) : GridX D' H g R := by
  obtain ⟨xs, h1, h2, h3⟩ := h
  exact ⟨xs, h1, nomem n h2 h1, L2.Paired.mapP h3 fun _ _ ⟨b, e, nb, q⟩ => ⟨b, e, nomem n nb q, q⟩⟩
theorem IntsX.more {D D' : List Addr} {H : Hp} {g : Addr} {E : List Nat} (h : IntsX D H g E) (n : ∀ a ∈ D', a ∈ D ∨ H a = none) : IntsX D' H g E := ⟨h.1, nomem n h.2 h.1⟩
theorem ToldX.more {D D' : List Addr} {H : Hp} {t : Addr} {R : Rws} {E : List Nat} (h : ToldX D H t R E) (n : ∀ a ∈ D', a ∈ D ∨ H a = none) : ToldX D' H t R E := by
  obtain ⟨L, S, xs, h1, h2, h3, h4, h5, h6⟩ := h
  exact ⟨L, S, xs, h1, h2, h3, h4, nomem n h5 h2, nomem n h6 h4⟩
theorem _root_.FL.MachX.more {D D' : List Addr} {C : Addr} {H : Hp} {p : Addr} {z : Str} {R : Rws} {E : List Nat} (h : MachX D C H p z R E) (n : ∀ a ∈ D', a ∈ D ∨ H a = none) : MachX D' C H p z R E := by
  obtain ⟨dx, ra, ea, xs, h1, h2, h3, h4, h5, h6⟩ := h
  exact ⟨dx, ra, ea, xs, h1, h2, h3, h4, nomem n h5 h2, nomem n h6 h4⟩
theorem SmX.but {p : Addr} {H H' : Hp} (s : But p H H') : SmX [p] H H' := fun a o e n => s a o e fun z => n (by rw [z]; exact List.mem_singleton.mpr rfl)
theorem SmX.to {p : Addr} {H H' : Hp} (s : SmX [p] H H') : But p H H' := fun a o e n => s a o e fun z => n (List.mem_singleton.mp z)
theorem _root_.FL.PotAt.lsts {H : Hp} {p : Addr} (h : PotAt H p) : Lsts [p] H := fun a m => by
  obtain ⟨a', b, e, _⟩ := h
  rw [List.mem_singleton.mp m]
  exact ⟨_, e⟩
theorem _root_.FL.PotAt.ex {H : Hp} {p : Addr} (h : PotAt H p) : H p ≠ none := by
  obtain ⟨a', b, e, _⟩ := h
  rw [e]
  exact fun z => nomatch z
theorem SmX.new {D : List Addr} {H H' : Hp} {a : Addr} {o : HO} (s : SmX D H H') (n : H a = none) : SmX D H (upd H' a o) := fun b x e nb => by
  rw [upd_ne (ne_of_none e n)]
  exact s b x e nb
theorem SmX.none {D : List Addr} {H H' : Hp} {a : Addr} (s : SmX D H H') (n : H' a = none) (d : a ∉ D) : H a = none := by
  cases e : H a with
  | none => rfl
  | some o =>
    rw [s a o e d] at n
    cases n
/-- what the law draws -/
structure Mdl (z : Str) (R : Rws) (E : List Nat) : Prop where
  pos : 0 < R.length
  few : R.length ≤ 7
  frm : Frm R.length z.length R
  up : E.Pairwise (· < ·)
  lt : ∀ e ∈ E, e < R.length
abbrev sModel : Stmt := topS 45
abbrev nModel : List Str := ["_law_pot_here", "_law_alpha_here", "_law_most", "_law_span", "_law_grid", "_law_state", "_law_letter"]
theorem scModel : FnScope nModel ["_law_pot_here", "_law_alpha_here", "_law_most"] (defScope sModel) := ⟨rfl, rfl, rfl, by decide +kernel, rfl, by decide +kernel, by decide +kernel⟩
def spModel : Sp := fun vs H Q _ => ∃ (p : Addr) (z : Str), vs = [.ref p, .str z, .int 7] ∧ PotAt H p ∧ Abc z ∧
  ∀ (t g s : Addr) (R : Rws) (E : List Nat) (H' : Hp), Mdl z R E → H' t = some (.tup [.ref g, .ref s]) → (∀ D : List Addr, (∀ a ∈ D, H a ≠ none) → GridX D H' g R ∧ IntsX D H' s E) → PotAt H' p → But p H H' → Q (.ref t) H'
section
variable {P : Program} {w : World} {K : PySem.W.Frag} {mg : Str → Option Value} {base : Heap}
theorem ok_model {f : Addr} {fd : FuncData} (F : Fun K "_law_model" "_law_model" sModel f fd) (cD : Ca P w K mg base "_law_draw" 1 ["_law_pot_here", "_law_span"] spDraw) (mR : mg "range" = none) :
    FnOk P w K mg base CX0 2 f fd ["_law_pot_here", "_law_alpha_here", "_law_most"] spModel := by
  refine F.ok scModel (fun vs H Q E h => ?_) (fun cdv A outer s H vs Q Ex hr h => ?_)
  · obtain ⟨_, _, rfl, _⟩ := h
    rfl
  · obtain ⟨p, z, rfl, hp, az, k⟩ := h
    have nd := scModel.nd
    have sz : sizeLine = 16777216 := rfl
    refine ⟨_, pss_cons (ps_asg (pe_tup (pa_cons (pe_op op_add pe_int (pe_ca cD hr (by rfl) (pa_cons (pv 0) (pa_cons (pv 2) pa_nil)))) (pa_cons (pe_lst pa_nil) pa_nil))) (pg_tup rfl (pgs_cons (pg_name (i := 3) nd rfl (.inr rfl)) (pgs_cons (pg_name (i := 4) nd rfl (.inl rfl)) pgs_nil))))
      (pss_cons (ps_for PassesOwn.never rfl (pi_range1 (by rfl) mR (pa_cons (pv 3) pa_nil)) (pg_name (i := 5) nd rfl (.inl rfl))
        (pss_one (ps_expr (pe_bm PySem.F.plainAttrs_list PySem.F.slot_list_append PySem.F.type_list_append mtAppend (pv 4) (pa_cons (pe_lc (own := [("_law_letter", 6)]) (g := gName 6) (tt := tYes) (te := tCall spDraw [] E0 (tCons (tVar 0) (tCons (tVar 3) tNil))) rfl nd
          (pi_str (pv 1)) (blkOk_by (N := nModel) (sc := defScope sModel) (by decide +kernel)) (fun _ _ _ _ _ => pg_name (i := 6) nd rfl (Or.inl rfl)) (fun _ _ _ _ _ => pts_nil)
          (fun _ _ _ _ _ => pe_ca cD hr (by rfl) (pa_cons (pv 0) (pa_cons (pv 3) pa_nil)))) pa_nil)))))
      (pss_one (ps_ret (pe_tup (pa_cons (pv 4) (pa_cons (pe_lc (own := [("_law_state", 5)]) (g := gName 5) (tt := tTest (tOp rEq (tCall spDraw [] E0 (tCons (tVar 0) (tCons (tC (V.int 3)) tNil))) (tC (V.int 0)))) rfl nd
          (pi_range1 (by rfl) mR (pa_cons (pv 3) pa_nil)) (blkOk_by (N := nModel) (sc := defScope sModel) (by decide +kernel)) (fun _ _ _ _ _ => pg_name (i := 5) nd rfl (Or.inl rfl))
          (fun _ _ _ _ _ => pts_one (pt_cmpR op_eq (pe_ca cD hr (by rfl) (pa_cons (pv 0) (pa_cons pe_int pa_nil))) pe_int (nomark _))) (fun _ _ _ _ _ => pv 5)) pa_nil)))))), ?_⟩
    refine ⟨_, rfl, _, rfl, p, 7, rfl, hp, by decide, by decide, fun d H1 d0 d1 hp1 b1 => ?_⟩
    obtain ⟨n, en⟩ : ∃ n : Nat, n = (1 + d).toNat := ⟨_, rfl⟩
    refine ⟨1, d, rfl, rfl, by decide, fun G hG => ?_⟩
    have hG0 : H G = none := by
      cases e : H G with
      | none => rfl
      | some o =>
        have npG : G ≠ p := fun z => by
          obtain ⟨a, b, q, _⟩ := hp1
          rw [z, q] at hG
          cases hG
        rw [b1 G o e npG] at hG
        cases hG
    have npG : p ≠ G := hp1.ne hG
    have b2 : But p H (upd H1 G (.lst [])) := b1.upd hG0
    have hp2 : PotAt (upd H1 G (.lst [])) p := hp1.upd npG
    have gG : upd H1 G (.lst []) G = some (.lst []) := upd_same
    generalize upd H1 G (.lst []) = H2 at b2 hp2 gG ⊢
    refine ⟨by show 2 ≤ sizeLine; decide, fun T hT => ?_⟩
    have npT : p ≠ T := hp2.ne hT
    have nGT : G ≠ T := ne_of_none gG hT
    have hT0 : H T = none := by
      cases e : H T with
      | none => rfl
      | some o =>
        rw [b2 T o e (Ne.symm npT)] at hT
        cases hT
    have b3 : But p H (upd H2 T (.tup [.int (1 + d), .ref G])) := b2.upd hT0
    have hp3 : PotAt (upd H2 T (.tup [.int (1 + d), .ref G])) p := hp2.upd npT
    have gG3 : upd H2 T (.tup [.int (1 + d), .ref G]) G = some (.lst []) := by rw [upd_ne nGT]; exact gG
    refine ⟨T, _, rfl, SqT.of upd_same, rfl, _, _, rfl, _, _, rfl, rfl, ?_⟩
    generalize upd H2 T (.tup [.int (1 + d), .ref G]) = H3 at b3 hp3 gG3 ⊢
    refine ⟨_, rfl, _, rfl, by omega, by omega, for_range (lo := 0) (n := (1 + d).toNat) (fun i σ Hi => ∃ (o5 : Option V) (xs : List V) (R : Rws), σ = [some (.ref p), some (.str z), some (.int 7), some (.int (1 + d)), some (.ref G), o5, none] ∧ PotAt Hi p ∧ But p H Hi ∧ Hi G = some (.lst xs) ∧ R.length = i ∧ (∀ r ∈ R, r.length = z.length ∧ ∀ t ∈ r, t < n)
      ∧ Paired (fun x r => ∃ b : Addr, x = .ref b ∧ H b = none ∧ b ≠ G ∧ b ≠ p ∧ Hi b = some (.lst (vN' r))) xs R) ?_ ?_ ?_⟩
    · exact ⟨none, [], [], rfl, hp3, b3, gG3, rfl, (fun _ h => nomatch h), .nil⟩
    · rintro i σ Hi hi ⟨o5, xs, R, rfl, hpi, bi, gi, lR, oR, pR⟩
      have lxs : xs.length = R.length := paired_lenM pR
      refine ⟨_, rfl, .inl ⟨rfl, _, SqL.of gi⟩, _, rfl, z, rfl, fun C hC => ?_⟩
      have npC : p ≠ C := hpi.ne hC
      have nGC : G ≠ C := ne_of_none gi hC
      have hC0 : H C = none := by
        cases e : H C with
        | none => rfl
        | some o =>
          rw [bi C o e (Ne.symm npC)] at hC
          cases hC
      refine lc_it walk_str (fun q Hq => PotAt Hq p ∧ But p Hi Hq ∧ ∃ r : List Nat, Hq C = some (.lst (vN' r)) ∧ r.length = q ∧ ∀ t ∈ r, t < n) ?_ (fun _ _ _ _ => trivial) ?_ ?_
      · exact ⟨hpi.upd npC, (But.refl p Hi).upd hC, [], upd_same, rfl, (fun _ h => nomatch h)⟩
      · rintro q x Hq _ hq ⟨hpq, bq, r, cq, lr, lt⟩ ⟨rfl, c, ec, rfl⟩
        have hq' : q < z.length := hq
        have z4 := az.hi
        refine ⟨rfl, _, rfl, _, rfl, p, 1 + d, rfl, hpq, by omega, by omega, fun d' H5 e0 e1 hp5 b5 => ?_⟩
        have cq5 := b5 C _ cq (Ne.symm npC)
        obtain ⟨k', rfl⟩ : ∃ k' : Nat, d' = ((k' : Nat) : Int) := ⟨d'.toNat, by omega⟩
        refine ⟨_, cq5, (by rw [ints_len, sz]; omega), hp5.upd npC, (bq.trans b5).upd hC, r ++ [k'], ?_, (by rw [List.length_append, lr]; rfl), fun t ht => ?_⟩
        · rw [upd_same, nats_snoc]
        · rcases List.mem_append.mp ht with h | h
          · exact lt t h
          · rw [List.mem_singleton.mp h]
            omega
      · rintro Hq ⟨hpq, bq, r, cq, lr, lt⟩
        have lr' : r.length = z.length := lr
        have gq := bq G _ gi (Ne.symm npG)
        refine ⟨G, _, _, rfl, rfl, gq, (by rw [lxs, lR, sz]; omega), ?_⟩
        refine ⟨_, xs ++ [.ref C], R ++ [r], rfl, hpq.upd npG, fun a o e na => ?_, upd_same, (by rw [List.length_append, lR]; rfl), fun r' hr' => ?_, ?_⟩
        · rw [upd_ne (fun z => by rw [z, hG0] at e; cases e)]
          exact bq a o (bi a o e na) na
        · rcases List.mem_append.mp hr' with h | h
          · exact oR r' h
          · rw [List.mem_singleton.mp h]
            exact ⟨lr', lt⟩
        · refine paired_snoc (L2.Paired.mapP pR fun x r ⟨b, e, h0, nb, np, g⟩ => ⟨b, e, h0, nb, np, ?_⟩) ⟨C, rfl, hC0, Ne.symm nGC, Ne.symm npC, ?_⟩
          · rw [upd_ne nb]
            exact bq b _ g np
          · rw [upd_ne (Ne.symm nGC)]
            exact cq
    · rintro σ Hi ⟨o5, xs, R, rfl, hpi, bi, gi, lR, oR, pR⟩
      refine ⟨_, rfl, _, rfl, _, rfl, by omega, by omega, fun C hC => ?_⟩
      have npC : p ≠ C := hpi.ne hC
      have hC0 : H C = none := by
        cases e : H C with
        | none => rfl
        | some o =>
          rw [bi C o e (Ne.symm npC)] at hC
          cases hC
      refine lc_range (lo := 0) (n := (1 + d).toNat) (fun q Hq => PotAt Hq p ∧ But p Hi Hq ∧ ∃ E : List Nat, Hq C = some (.lst (vN' E)) ∧ E.length ≤ q ∧ E.Pairwise (· < ·) ∧ ∀ e ∈ E, e < q) ?_ ?_ ?_
      · exact ⟨hpi.upd npC, (But.refl p Hi).upd hC, [], upd_same, Nat.le_refl _, .nil, fun _ h => nomatch h⟩
      · rintro q Hq hq ⟨hpq, bq, E, cq, lE, up, lt⟩
        have e0 : (0 : Int) + (q : Nat) = (q : Nat) := by omega
        rw [e0]
        refine ⟨rfl, _, rfl, p, 3, rfl, hpq, by decide, by decide, fun d' H5 _ _ hp5 b5 => ?_⟩
        have cq5 := b5 C _ cq (Ne.symm npC)
        refine ⟨rfl, _, rfl, ?_⟩
        refine ite2 (fun _ => ?_) (fun _ => ?_)
        · refine ⟨_, rfl, _, cq5, (by rw [ints_len, sz]; omega), hp5.upd npC, (bq.trans b5).upd hC, E ++ [q], ?_, (by rw [List.length_append]; show _ + 1 ≤ _; omega), List.pairwise_append.mpr ⟨up, List.pairwise_singleton _ _, fun a ha b hb => ?_⟩, fun e he => ?_⟩
          · rw [upd_same, nats_snoc]
          · rw [List.mem_singleton.mp hb]
            exact lt a ha
          · rcases List.mem_append.mp he with h | h
            · have := lt e h
              omega
            · rw [List.mem_singleton.mp h]
              omega
        · exact ⟨hp5, bq.trans b5, E, cq5, by omega, up, fun e he => by have := lt e he; omega⟩
      · rintro Hq ⟨hpq, bq, E, cq, lE, up, lt⟩
        refine ⟨by show 2 ≤ sizeLine; decide, fun T hT => ?_⟩
        have npT : p ≠ T := hpq.ne hT
        have gq := bq G _ gi (Ne.symm npG)
        have kp : ∀ {a : Addr} {o : HO}, Hi a = some o → a ≠ p → upd Hq T (.tup [.ref G, .ref C]) a = some o := fun {a o} e na => by
          have := bq a o e na
          rw [upd_ne (ne_of_none this hT)]
          exact this
        have lR' : R.length = n := by rw [lR, en]
        refine k T G C R E _ ⟨by omega, by omega, ⟨rfl, fun r hr => (oR r hr).1, fun r hr t ht => by have := (oR r hr).2 t ht; omega⟩, up, fun e he => by have := lt e he; omega⟩ upd_same (fun D hD => ⟨⟨xs, kp gi (Ne.symm npG), fun m => hD G m hG0, L2.Paired.mapP pR fun x r ⟨b, e, h0, nb, np, g⟩ => ⟨b, e, fun m => hD b m h0, kp g np⟩⟩, ?_, fun m => hD C m hC0⟩) (hpq.upd npT) fun a o e na => ?_
        · rw [upd_ne (ne_of_none cq hT)]
          exact cq
        · exact kp (bi a o e na) na
end
end K11
namespace K11
open PySem PySem.Spec PyProof.Rows L2 FL
theorem op_in_seqK {X : Cx} {K : PySem.W.Frag} (hK : X.K = K) : OpR X (compareOp .In) (rIn K false) := by
  subst hK
  exact op_in_seq
theorem flat_ints (ns : List Nat) : (vN' ns).all flatV = true := by
  induction ns with
  | nil => rfl
  | cons n ns ih => show (true && (vN' ns).all flatV) = true; rw [ih]; rfl
theorem in_ints (s : Nat) (ns : List Nat) : inV (.int (s : Nat)) (vN' ns) = decide (s ∈ ns) := by
  induction ns with
  | nil => rfl
  | cons n ns ih =>
    show (eqV (.int (n : Nat)) (.int (s : Nat)) || inV (.int (s : Nat)) (vN' ns)) = _
    rw [ih]
    by_cases e : s = n
    · subst e
      have : eqV (.int (s : Nat)) (.int (s : Nat)) = true := by simp [eqV]
      rw [this]
      simp
    · have : eqV (.int (n : Nat)) (.int (s : Nat)) = false := by
        simp [eqV]
        omega
      rw [this]
      simp [e]
abbrev sApart : Stmt := topS 46
abbrev nApart : List Str := ["_law_grid", "_law_stops", "_law_span", "_law_table", "_law_turn", "_law_here", "_law_there", "_law_near", "_law_far"]
theorem scApart : FnScope nApart ["_law_grid", "_law_stops"] (defScope sApart) := ⟨rfl, rfl, rfl, by decide +kernel, rfl, by decide +kernel, by decide +kernel⟩
/-- the table, its rows at these addresses -/
def TabAt (H : Hp) (T : Addr) (n : Nat) (ad : Nat → Addr) (tb : Nat → Nat → Bool) : Prop := H T = some (.lst ((List.range n).map fun i => V.ref (ad i))) ∧ (∀ i, i < n → H (ad i) = some (.lst ((List.range n).map fun j => V.bl (tb i j)))) ∧ (∀ i j, i < n → j < n → ad i = ad j → i = j) ∧ ∀ i, i < n → ad i ≠ T
theorem ne_bl {p q : Prop} [Decidable p] [Decidable q] : (!decide (V.bl (decide p) = V.bl (decide q))) = decide (p ≠ q) := by
  by_cases hp : p <;> by_cases hq : q <;> simp [hp, hq]
theorem TabAt.same {H H' : Hp} {T : Addr} {n : Nat} {ad : Nat → Addr} {tb : Nat → Nat → Bool} (h : TabAt H T n ad tb) (s : Same H H') : TabAt H' T n ad tb := ⟨s _ _ h.1, fun i hi => s _ _ (h.2.1 i hi), h.2.2.1, h.2.2.2⟩
theorem TabAt.mark {H : Hp} {T : Addr} {n i j : Nat} {ad : Nat → Addr} {tb : Nat → Nat → Bool} (h : TabAt H T n ad tb) (hi : i < n) (hj : j < n) : TabAt (upd H (ad i) (.lst (((List.range n).map fun b => V.bl (tb i b)).set j (V.bl true)))) T n ad (mark tb i j) := by
  obtain ⟨h1, h2, h3, h4⟩ := h
  refine ⟨by rw [upd_ne (Ne.symm (h4 i hi))]; exact h1, fun a ha => ?_, h3, h4⟩
  by_cases e : a = i
  · subst e
    rw [upd_same]
    congr 2
    refine List.ext_getElem? fun b => ?_
    by_cases hb : b < n
    · rw [List.getElem?_set, List.getElem?_map, List.getElem?_map, List.getElem?_range hb]
      unfold FL.mark
      by_cases q : j = b
      · subst q
        rw [if_pos rfl, if_pos (by rw [List.length_map, List.length_range]; exact hb)]
        simp
      · rw [if_neg q]
        show some (V.bl (tb a b)) = some (V.bl (if a = a ∧ b = j then true else tb a b))
        rw [if_neg fun z => q z.2.symm]
    · rw [List.getElem?_eq_none (by rw [List.length_set, List.length_map, List.length_range]; omega), List.getElem?_eq_none (by rw [List.length_map, List.length_range]; omega)]
  · rw [upd_ne fun z => e (h3 a i ha hi z), h2 a ha]
    congr 2
    refine List.map_congr_left fun b _ => ?_
    unfold FL.mark
    rw [if_neg fun z => e z.1]
def spApart : Sp := fun vs H Q _ => ∃ (g s : Addr) (R : Rws) (E : List Nat) (n m : Nat), vs = [.ref g, .ref s] ∧ GridX [] H g R ∧ IntsX [] H s E ∧ Frm n m R ∧ n ≤ 1000 ∧ m ≤ 1000 ∧
  ∀ (T : Addr) (ad : Nat → Addr) (tb : Nat → Nat → Bool) (H' : Hp), Same H H' → TabAt H' T n ad tb → (∀ i j, i < n → j < n → tb i j = !sameN R E m i j) → Q (.ref T) H'
section
variable {P : Program} {w : World} {K : PySem.W.Frag} {mg : Str → Option Value} {base : Heap}
theorem ok_apart {f : Addr} {fd : FuncData} (F : Fun K "_law_apart" "_law_apart" sApart f fd) (mR : mg "range" = none) (mN : mg "len" = none) (mA : mg "any" = none) (mZ : mg "zip" = none) :
    FnOk P w K mg base CX0 1 f fd ["_law_grid", "_law_stops"] spApart := by
  refine F.ok scApart (fun vs H Q E h => ?_) (fun cdv A outer s H vs Q Ex hr h => ?_)
  · obtain ⟨_, _, _, _, _, _, rfl, _⟩ := h
    rfl
  · obtain ⟨g, st, R, E, n, m, rfl, hg, hs, fm, ln, lm, k⟩ := h
    have nd := scApart.nd
    have sz : sizeLine = 16777216 := rfl
    refine ⟨_, pss_cons (ps_set (i := 2) nd rfl (.inr rfl) (pe_callB callLen (by rfl) mN PySem.boot_len (pa_cons (pv 0) pa_nil)))
      (C8.pss_cut (ps_set (i := 3) nd rfl (.inr rfl) (pe_lc (own := [("_law_here", 5)]) (g := gName 5) (tt := tYes) (te := tLc (iRng1 (tCons (tVar 2) tNil)) (gName 6) tYes (tOp rNe (tOp (rIn K false) (tVar 5) (tVar 1)) (tOp (rIn K false) (tVar 6) (tVar 1))) [6]) rfl nd (pi_range1 (by rfl) mR (pa_cons (pv 2) pa_nil)) (blkOk_by (N := nApart) (sc := defScope sApart) (by decide +kernel)) (fun _ _ _ _ _ => pg_name (i := 5) nd rfl (Or.inr rfl)) (fun _ _ _ _ _ => pts_nil)
        (fun _ _ _ _ _ => pe_lc (own := [("_law_there", 6)]) (g := gName 6) (tt := tYes) rfl nd (pi_range1 (by rfl) mR (pa_cons (pv 2) pa_nil)) (blkOk_by (by kernel_rfl)) (fun _ _ _ _ _ => pg_name (i := 6) nd rfl (Or.inl rfl)) (fun _ _ _ _ _ => pts_nil)
          (fun _ _ _ _ _ => pe_cmpR op_ne (pe_cmpR (op_in_seqK (K := K) rfl) (pv 5) (pv 1) (by rfl)) (pe_cmpR (op_in_seqK (K := K) rfl) (pv 6) (pv 1) (by rfl)) (nomark _)))))
      (pss_cons (ps_for PassesOwn.never rfl (pi_range1 (by rfl) mR (pa_cons (pv 2) pa_nil)) (pg_name (i := 4) nd rfl (.inl rfl))
        (pss_one (ps_for PassesOwn.never rfl (pi_range1 (by rfl) mR (pa_cons (pv 2) pa_nil)) (pg_name (i := 5) nd rfl (.inl rfl))
          (pss_one (ps_for PassesOwn.never rfl (pi_range1 (by rfl) mR (pa_cons (pv 5) pa_nil)) (pg_name (i := 6) nd rfl (.inl rfl))
            (pss_one (ps_if (pt_val (pe_callB (cr_any rfl) (by rfl) mA (by decide +kernel) (pa_cons (pe_lc (own := [("_law_near", 7), ("_law_far", 8)]) (g := gTup K 2 (gCons (gName 7) (gCons (gName 8) gNil))) (tt := tYes) rfl nd
                (pi_zip (by rfl) mZ (pa_cons (pe_ix ix_list (pv 0) (pv 5) (fun _ _ => rfl)) (pa_cons (pe_ix ix_list (pv 0) (pv 6) (fun _ _ => rfl)) pa_nil))) (blkOk_by (N := nApart) (sc := defScope sApart) (by decide +kernel))
                (fun _ _ _ _ _ => pg_tup rfl (pgs_cons (pg_name (i := 7) nd rfl (Or.inl rfl)) (pgs_cons (pg_name (i := 8) nd rfl (Or.inl rfl)) pgs_nil))) (fun _ _ _ _ _ => pts_nil)
                (fun _ _ _ _ _ => pe_ix (ix_listK (K := K) rfl) (pe_ix (ix_listK (K := K) rfl) (pv 3) (pv 7) (fun _ _ => rfl)) (pv 8) (fun _ _ => rfl))) pa_nil)))
              (pss_cons (ps_asg pe_bl (pg_sub (pe_ix ix_list (pv 3) (pv 5) (fun _ _ => rfl)) (pv 6) set_list))
              (pss_one (ps_asg pe_bl (pg_sub (pe_ix ix_list (pv 3) (pv 6) (fun _ _ => rfl)) (pv 5) set_list)))) pss_nil)))))))
      (pss_one (ps_ret (pv 3))))), ?_⟩
    obtain ⟨gs, hg1, _, hgr⟩ := hg
    have lgs : gs.length = n := by rw [paired_lenM hgr, fm.len]
    have hst := hs.1
    have lr0 : (((List.range n).length : Nat)) = n := List.length_range
    refine ⟨_, rfl, _, n, rfl, .inl ⟨_, SqL.of hg1, lgs.symm⟩, ?_⟩
    refine ⟨fun σ' H' => ∃ (T : Addr) (ad : Nat → Addr), σ' = [some (.ref g), some (.ref st), some (.int (n : Nat)), some (.ref T), none, none, none, none, none] ∧ Same H H' ∧ TabAt H' T n ad (fun a b => decide ((a ∈ E) ≠ (b ∈ E))) ∧ ∀ i, i < n → H (ad i) = none, ?_, ?_⟩
    · refine ⟨_, rfl, _, rfl, by omega, by omega, fun T hT => ?_⟩
      refine lc_range (lo := 0) (n := n) (fun q Hq => Same H Hq ∧ ∃ as : List Addr, Hq T = some (.lst (as.map V.ref)) ∧ as.length = q ∧ as.Nodup ∧ T ∉ as ∧ ∀ i a, as[i]? = some a → H a = none ∧ Hq a = some (.lst ((List.range n).map fun j => V.bl (decide ((i ∈ E) ≠ (j ∈ E)))))) ?_ ?_ ?_
      · exact ⟨(Same.refl H).upd hT, [], upd_same, rfl, .nil, (fun h => nomatch h), fun i a h => nomatch h⟩
      · rintro q Hq hq ⟨sq, as, cq, lq, nq, tq, aq⟩
        have e0 : (0 : Int) + (q : Nat) = (q : Nat) := by omega
        rw [e0]
        refine ⟨rfl, _, rfl, _, rfl, by omega, by omega, fun C hC => ?_⟩
        refine lc_range (lo := 0) (n := n) (fun j Hj => Same Hq Hj ∧ Hj C = some (.lst ((List.range j).map fun j => V.bl (decide ((q ∈ E) ≠ (j ∈ E)))))) ?_ ?_ ?_
        · exact ⟨(Same.refl Hq).upd hC, upd_same⟩
        · rintro j Hj hj ⟨sj, cj⟩
          have e1 : (0 : Int) + (j : Nat) = (j : Nat) := by omega
          rw [e1]
          have gs' := (sq.trans sj) _ _ hst
          refine ⟨rfl, _, rfl, _, rfl, st, _, rfl, .inl (SqL.of gs'), rfl, flat_ints E, _, rfl, _, rfl, st, _, rfl, .inl (SqL.of gs'), rfl, flat_ints E, rfl, _, cj, (by rw [List.length_map, List.length_range, sz]; omega), sj.upd hC, ?_⟩
          rw [upd_same, List.range_succ, List.map_append]
          show some (HO.lst (_ ++ [V.bl (!decide (V.bl (inV (.int (q : Nat)) (vN' E)) = V.bl (inV (.int (j : Nat)) (vN' E))))])) = _
          rw [in_ints, in_ints, ne_bl]
          rfl
        · rintro Hj ⟨sj, cj⟩
          have gR := sj _ _ cq
          have nCT : C ≠ T := fun e => by rw [e, cq] at hC; cases hC
          have hC0 := sq.none hC
          refine ⟨_, gR, (by rw [List.length_map, lq, sz]; omega), (sq.trans sj).upd hT, as ++ [C], ?_, (by rw [List.length_append, lq]; rfl), ?_, ?_, fun i a e => ?_⟩
          · rw [upd_same, List.map_append]
            rfl
          · refine List.nodup_append.mpr ⟨nq, by simp, fun a ha b hb e => ?_⟩
            rw [List.mem_singleton.mp hb] at e
            obtain ⟨i, hi, rfl⟩ := List.mem_iff_getElem.mp ha
            have := (aq i _ (List.getElem?_eq_getElem hi)).2
            rw [e, hC] at this
            cases this
          · intro m
            rcases List.mem_append.mp m with m | m
            · exact tq m
            · exact nCT (List.mem_singleton.mp m).symm
          · by_cases l : i < as.length
            · rw [List.getElem?_append_left l] at e
              obtain ⟨a1, a2⟩ := aq i a e
              refine ⟨a1, ?_⟩
              rw [upd_ne fun z => tq (by rw [← z]; exact List.mem_of_getElem? e)]
              exact sj _ _ a2
            · rw [List.getElem?_append_right (by omega)] at e
              have l0 := (List.getElem?_eq_some_iff.mp e).1
              rw [List.length_singleton] at l0
              obtain rfl : i = as.length := by omega
              rw [Nat.sub_self] at e
              cases e
              refine ⟨hC0, ?_⟩
              rw [upd_ne nCT, lq]
              exact cj
      · rintro Hq ⟨sq, as, cq, lq, nq, tq, aq⟩
        have gd : ∀ i, i < n → as[i]? = some (as.getD i 0) := fun i hi => by
          rw [List.getD_eq_getElem?_getD, List.getElem?_eq_getElem (by omega)]
          rfl
        refine ⟨T, fun i => as.getD i 0, rfl, sq, ⟨?_, fun i hi => (aq i _ (gd i hi)).2, fun i j hi hj e => ?_, fun i hi e => tq (by rw [← e]; exact List.mem_of_getElem? (gd i hi))⟩, fun i hi => (aq i _ (gd i hi)).1⟩
        · rw [cq]
          congr 2
          refine List.ext_getElem? fun i => ?_
          by_cases hi : i < n
          · rw [List.getElem?_map, List.getElem?_map, gd i hi, List.getElem?_range hi]
            rfl
          · rw [List.getElem?_eq_none (by rw [List.length_map]; omega), List.getElem?_eq_none (by rw [List.length_map, List.length_range]; omega)]
        · have h1 := gd i hi
          have h2 := gd j hj
          simp only at e
          rw [e] at h1
          exact (List.getElem?_inj (by omega) nq).mp (h1.trans h2.symm)
    rintro σ' H1 ⟨T, ad, rfl, s1, tab1, fr⟩
    have tp0 : TabP n m R E 0 0 0 fun a b => decide ((a ∈ E) ≠ (b ∈ E)) := TabP.start
    generalize (fun a b : Nat => decide ((a ∈ E) ≠ (b ∈ E))) = tb0 at tab1 tp0
    refine ⟨_, rfl, _, rfl, by omega, by omega, for_range (lo := 0) (n := n) (fun t σ Ht => ∃ (o4 o5 o6 : Option V) (tb : Nat → Nat → Bool), σ = [some (.ref g), some (.ref st), some (.int (n : Nat)), some (.ref T), o4, o5, o6, none, none] ∧ Same H Ht ∧ TabAt Ht T n ad tb ∧ TabP n m R E t 0 0 tb) ?_ ?_ ?_⟩
    · exact ⟨none, none, none, tb0, rfl, s1, tab1, tp0⟩
    · rintro t σ Ht ht ⟨o4, o5, o6, tb, rfl, st1, tab, tp⟩
      refine ⟨_, rfl, _, rfl, by omega, by omega, for_range (lo := 0) (n := n) (fun i σ Hi => ∃ (o5 o6 : Option V) (tb : Nat → Nat → Bool), σ = [some (.ref g), some (.ref st), some (.int (n : Nat)), some (.ref T), some (.int (0 + (t : Nat))), o5, o6, none, none] ∧ Same H Hi ∧ TabAt Hi T n ad tb ∧ TabP n m R E t i 0 tb) ?_ ?_ ?_⟩
      · exact ⟨o5, o6, tb, rfl, st1, tab, tp⟩
      · rintro i σ Hi hi ⟨o5, o6, tb, rfl, si, tab, tp⟩
        have ei : (0 : Int) + (i : Nat) = (i : Nat) := by omega
        rw [ei]
        refine ⟨_, rfl, _, rfl, by omega, by omega, for_range (lo := 0) (n := i) (fun j σ Hj => ∃ (o6 : Option V) (tb : Nat → Nat → Bool), σ = [some (.ref g), some (.ref st), some (.int (n : Nat)), some (.ref T), some (.int (0 + (t : Nat))), some (.int (i : Nat)), o6, none, none] ∧ Same H Hj ∧ TabAt Hj T n ad tb ∧ TabP n m R E t i j tb) ?_ ?_ ?_⟩
        · exact ⟨o6, tb, rfl, si, tab, tp⟩
        · rintro j σ Hj hj ⟨o6, tb, rfl, sj, tab, tp⟩
          have ej : (0 : Int) + (j : Nat) = (j : Nat) := by omega
          rw [ej]
          have lj : j < n := by omega
          obtain ⟨er, lr, gr⟩ := fm.rowOf hi
          obtain ⟨er', lr', gr'⟩ := fm.rowOf lj
          obtain ⟨xi, exi, bi, rfl, _, gbi⟩ := paired_getR hgr er
          obtain ⟨xj, exj, bj, rfl, _, gbj⟩ := paired_getR hgr er'
          have hg1j := sj _ _ hg1
          refine ⟨_, rfl, _, rfl, g, _, _, _, rfl, rfl, SqL.of hg1j, atI_nat exi, _, rfl, _, rfl, g, _, _, _, rfl, rfl, SqL.of hg1j, atI_nat exj, bi, bj, _, _, rfl, SqL.of (sj _ _ gbi), SqL.of (sj _ _ gbj), fun D hD => ?_⟩
          have hmin : m = min (vN' (rowOf R i)).length (vN' (rowOf R j)).length := by rw [ints_len, ints_len, lr, lr']; omega
          refine lc_it (walk_zip hmin) (fun q Hq => Same Hj Hq ∧ Hq D = some (.lst (((List.range q).map fun a => tb (nxt R i a) (nxt R j a)).map V.bl))) ?_ ?_ ?_ ?_
          · exact ⟨(Same.refl Hj).upd hD, upd_same⟩
          · rintro q Hq _ ⟨sq, _⟩
            exact ⟨SqL.of (sq _ _ (sj _ _ gbi)), SqL.of (sq _ _ (sj _ _ gbj))⟩
          · rintro q x Hq0 Hq hq ⟨sq, cq⟩ ⟨T', p, y, rfl, hT', rfl, e1, e2⟩
            have e1' : (vN' (rowOf R i))[q]? = some (.int (nxt R i q : Nat)) := by rw [List.getElem?_map, gr q hq]; rfl
            have e2' : (vN' (rowOf R j))[q]? = some (.int (nxt R j q : Nat)) := by rw [List.getElem?_map, gr' q hq]; rfl
            obtain rfl := Option.some.inj (e1'.symm.trans e1)
            obtain rfl := Option.some.inj (e2'.symm.trans e2)
            have lni := fm.nxt_lt hi hq
            have lnj := fm.nxt_lt lj hq
            have nDT : D ≠ T' := ne_of_none cq hT'
            have s2 : Same Hj (upd Hq0 T' (.tup [.int (nxt R i q : Nat), .int (nxt R j q : Nat)])) := sq.upd (sq.none hT')
            have cq2 : upd Hq0 T' (.tup [.int (nxt R i q : Nat), .int (nxt R j q : Nat)]) D = some (.lst (((List.range q).map fun a => tb (nxt R i a) (nxt R j a)).map V.bl)) := by rw [upd_ne nDT]; exact cq
            refine ⟨T', _, rfl, SqT.of upd_same, rfl, _, _, rfl, _, _, rfl, rfl, rfl, ?_⟩
            generalize upd Hq0 T' (.tup [.int (nxt R i q : Nat), .int (nxt R j q : Nat)]) = H2 at s2 cq2 ⊢
            obtain ⟨t1, t2, _, _⟩ := tab.same s2
            have g1 : ((List.range n).map fun i => V.ref (ad i))[nxt R i q]? = some (.ref (ad (nxt R i q))) := by rw [List.getElem?_map, List.getElem?_range lni]; rfl
            have g2 : ((List.range n).map fun b => V.bl (tb (nxt R i q) b))[nxt R j q]? = some (.bl (tb (nxt R i q) (nxt R j q))) := by rw [List.getElem?_map, List.getElem?_range lnj]; rfl
            refine ⟨_, rfl, _, rfl, T, _, _, _, rfl, rfl, SqL.of t1, atI_nat g1, _, rfl, ad (nxt R i q), _, _, _, rfl, rfl, SqL.of (t2 _ lni), atI_nat g2, _, cq2, (by rw [List.length_map, List.length_map, List.length_range, sz]; have : q < m := hq; omega), s2.upd hD, ?_⟩
            rw [upd_same, List.range_succ, List.map_append, List.map_append]
            rfl
          · rintro Hq ⟨sq, cq⟩
            refine ⟨D, _, rfl, SqL.of cq, _, rfl, ?_⟩
            have hb : (((List.range m).map fun a => tb (nxt R i a) (nxt R j a)).any id) = true ↔ ∃ a, a < m ∧ tb (nxt R i a) (nxt R j a) = true := by
              rw [List.any_eq_true]
              constructor
              · rintro ⟨x, hx, e⟩
                obtain ⟨a, ha, rfl⟩ := List.mem_map.mp hx
                exact ⟨a, List.mem_range.mp ha, e⟩
              · rintro ⟨a, ha, e⟩
                exact ⟨_, List.mem_map.mpr ⟨a, List.mem_range.mpr ha, rfl⟩, e⟩
            have tpN := tp.step fm hi hj hb
            generalize (((List.range m).map fun a => tb (nxt R i a) (nxt R j a)).any id) = b at tpN ⊢
            have tabq := tab.same sq
            have sHq := sj.trans sq
            cases b with
            | false =>
              refine iteF ?_
              exact ⟨_, tb, rfl, sHq, tabq, tpN⟩
            | true =>
              refine iteT ?_
              have gT : ∀ {a : Nat}, a < n → ((List.range n).map fun i => V.ref (ad i))[a]? = some (.ref (ad a)) := fun h => by rw [List.getElem?_map, List.getElem?_range h]; rfl
              refine ⟨_, rfl, _, rfl, T, _, _, _, rfl, rfl, SqL.of tabq.1, atI_nat (gT hi), _, rfl, ad i, _, _, j, rfl, rfl, tabq.2.1 i hi, ixN_of (by rw [List.length_map, List.length_range]; exact lj), ?_⟩
              have tab2 := tabq.mark hi lj
              have s2 : Same H (upd Hq (ad i) (.lst (((List.range n).map fun b => V.bl (tb i b)).set j (V.bl true)))) := sHq.upd (fr i hi)
              generalize upd Hq (ad i) (.lst (((List.range n).map fun b => V.bl (tb i b)).set j (V.bl true))) = H3 at tab2 s2 ⊢
              refine ⟨_, rfl, _, rfl, T, _, _, _, rfl, rfl, SqL.of tab2.1, atI_nat (gT lj), _, rfl, ad j, _, _, i, rfl, rfl, tab2.2.1 j lj, ixN_of (by rw [List.length_map, List.length_range]; exact hi), ?_⟩
              exact ⟨_, _, rfl, s2.upd (fr j lj), tab2.mark lj hi, tpN⟩
        · rintro σ Hj ⟨o6, tb, rfl, sj, tab, tp⟩
          exact ⟨_, o6, tb, rfl, sj, tab, tp.row⟩
      · rintro σ Hi ⟨o5, o6, tb, rfl, si, tab, tp⟩
        exact ⟨_, o5, o6, tb, rfl, si, tab, tp.turn⟩
    · rintro σ Ht ⟨o4, o5, o6, tb, rfl, st1, tab, tp⟩
      exact ⟨_, rfl, k T ad tb Ht st1 tab fun i j hi hj => tp.final fm hi hj⟩
end
end K11
namespace K11
open PySem PySem.Spec PyProof.Rows L2 FL
/-! ### numbered as met, states alike -/
theorem place_preG {same : Nat → Nat → Bool} {met e : List Nat} {t : Nat} (h : met.any (fun x => same x t) = true) : placeM same (met ++ e) t = placeM same met t := by
  unfold placeM
  rw [List.findIdx_append, if_pos]
  obtain ⟨x, hx, q⟩ := List.any_eq_true.mp h
  exact (List.findIdx_lt_length (p := fun x => same x t)).mpr ⟨x, hx, q⟩
theorem addAll_takeG {same : Nat → Nat → Bool} {row met : List Nat} {j s : Nat} (h : row[j]? = some s) : addAll same met (row.take (j + 1)) = addS same (addAll same met (row.take j)) s := by
  unfold addAll
  rw [take_snoc h, List.foldl_append]
  rfl
def outG (R : Rws) (same : Nat → Nat → Bool) (met : List Nat) (k : Nat) : Rws := (met.take k).map fun s => (rowOf R s).map (placeM same met)
structure NumG (n : Nat) (R : Rws) (same : Nat → Nat → Bool) (s0 : Nat) (met : List Nat) (kk : Nat) : Prop where
  le : kk ≤ met.length
  cl : ∀ (i s : Nat), i < kk → met[i]? = some s → ∀ t ∈ rowOf R s, met.any (fun x => same x t) = true
  con : ∀ res, BfsM (rowOf R) same met kk res → BfsM (rowOf R) same [s0] 0 res
  lt : ∀ s ∈ met, s < n
  ap : met.Pairwise (fun x y => same x y = false)
theorem few_ofG {n : Nat} {same : Nat → Nat → Bool} {met : List Nat} (rf : ∀ s, same s s = true) (lt : ∀ s ∈ met, s < n) (ap : met.Pairwise (fun x y => same x y = false)) : met.length ≤ n := by
  have nd : met.Nodup := ap.imp fun {a b} h e => by rw [e, rf] at h; cases h
  have := nodup_sub nd (m := List.range n) fun s hs => List.mem_range.mpr (lt s hs)
  rwa [List.length_range] at this
theorem NumG.start {n : Nat} {R : Rws} {same : Nat → Nat → Bool} {s0 : Nat} (h : s0 < n) : NumG n R same s0 [s0] 0 := ⟨Nat.zero_le _, fun i s hi => absurd hi (Nat.not_lt_zero _), fun _ h => h, fun s hs => by rw [List.mem_singleton.mp hs]; exact h, List.pairwise_singleton _ _⟩
theorem NumG.step {n m : Nat} {R : Rws} {same : Nat → Nat → Bool} {s0 s : Nat} {met : List Nat} {kk : Nat} (rf : ∀ s, same s s = true) (F : Frm n m R) (h : NumG n R same s0 met kk) (e : met[kk]? = some s) : NumG n R same s0 (addAll same met (rowOf R s)) (kk + 1) ∧ outG R same (addAll same met (rowOf R s)) (kk + 1) = outG R same met kk ++ [(rowOf R s).map (placeM same (addAll same met (rowOf R s)))] := by
  obtain ⟨x, hx⟩ := addAll_pre same (rowOf R s) met
  have lk := (List.getElem?_eq_some_iff.mp e).1
  have hs := h.lt s (List.mem_of_getElem? e)
  refine ⟨⟨by rw [hx, List.length_append]; omega, fun i s' hi hs' t ht => ?_, fun res q => h.con res (.step e q), addAll_mem _ _ h.lt fun t ht => row_lt F hs t ht, addAll_apart _ _ h.ap⟩, ?_⟩
  · rw [hx, List.getElem?_append_left (by omega)] at hs'
    by_cases ik : i = kk
    · subst ik
      rw [e] at hs'
      cases hs'
      exact addAll_has rf _ _ t ht
    · rw [hx]
      exact any_append_left (h.cl i s' (by omega) hs' t ht)
  · unfold outG
    have e1 : (addAll same met (rowOf R s)).take (kk + 1) = met.take kk ++ [s] := by
      rw [hx, List.take_append_of_le_length (by omega), take_snoc e]
    rw [e1, List.map_append]
    congr 1
    refine List.map_congr_left fun s' hs' => List.map_congr_left fun t ht => ?_
    obtain ⟨i, hi, rfl⟩ := List.mem_iff_getElem.mp hs'
    rw [List.length_take] at hi
    rw [hx]
    refine place_preG (h.cl i _ (by omega) ?_ t ht)
    rw [List.getElem_take, List.getElem?_eq_getElem (by omega)]
theorem NumG.done {n : Nat} {R : Rws} {same : Nat → Nat → Bool} {s0 : Nat} {met : List Nat} {kk : Nat} (h : NumG n R same s0 met kk) (g : met.length ≤ kk) : BfsM (rowOf R) same [s0] 0 met ∧ outG R same met kk = numRows (rowOf R) same met := by
  refine ⟨h.con met (.stop g), ?_⟩
  unfold outG numRows
  rw [List.take_of_length_le g]
theorem ends_none {p : Nat → Bool} {met : List Nat} (h : met.any p = false) : numEnds p met = [] := List.filter_eq_nil_iff.mpr fun i hi => by
  have li := List.mem_range.mp hi
  rw [List.getElem?_eq_getElem li]
  have := (List.any_eq_false.mp h) _ (List.getElem_mem li)
  simpa using this
theorem ends_first {p : Nat → Bool} {met : List Nat} (h : met.any p = true) : ∃ xs, numEnds p met = met.findIdx p :: xs := by
  obtain ⟨x, hx, px⟩ := List.any_eq_true.mp h
  have li : met.findIdx p < met.length := List.findIdx_lt_length.mpr ⟨x, hx, px⟩
  have pi : p met[met.findIdx p] = true := List.findIdx_getElem
  have mi : met.findIdx p ∈ numEnds p met := (mem_numEnds (List.getElem?_eq_getElem li)).mpr pi
  have so := numEnds_sorted p met
  match e : numEnds p met, mi, so with
  | a :: xs, mi, so =>
    have ma : a ∈ numEnds p met := by rw [e]; exact List.mem_cons_self
    have la := numEnds_lt ma
    have pa : p met[a] = true := (mem_numEnds (List.getElem?_eq_getElem la)).mp ma
    have h1 : met.findIdx p ≤ a := by
      rcases Nat.lt_or_ge a (met.findIdx p) with l | l
      · exact absurd pa (by simpa using List.not_of_lt_findIdx l)
      · exact l
    rcases List.mem_cons.mp mi with q | q
    · exact ⟨xs, by rw [← q]⟩
    · have := (List.pairwise_cons.mp so).1 _ q
      omega
theorem ends_succ {p : Nat → Bool} {met : List Nat} {q s : Nat} (e : met[q]? = some s) : (List.range (q + 1)).filter (fun i => (met[i]?).any p) = (List.range q).filter (fun i => (met[i]?).any p) ++ if p s = true then [q] else [] := by
  rw [List.range_succ, List.filter_append, List.filter_cons, e]
  rfl
theorem place_newG {same : Nat → Nat → Bool} {met : List Nat} {s : Nat} (rf : same s s = true) (h : met.any (fun x => same x s) = false) : placeM same (met ++ [s]) s = met.length := by
  unfold placeM
  rw [List.findIdx_append, if_neg, List.findIdx_cons, rf]
  · simp
  · intro l
    obtain ⟨x, hx, q⟩ := List.findIdx_lt_length.mp l
    rw [List.any_eq_true.mpr ⟨x, hx, q⟩] at h
    cases h
theorem TabAt.smx {D : List Addr} {H H' : Hp} {T : Addr} {n : Nat} {ad : Nat → Addr} {tb : Nat → Nat → Bool} (h : TabAt H T n ad tb) (s : SmX D H H') (nT : T ∉ D) (na : ∀ i, i < n → ad i ∉ D) : TabAt H' T n ad tb := ⟨s _ _ h.1 nT, fun i hi => s _ _ (h.2.1 i hi) (na i hi), h.2.2.1, h.2.2.2⟩
theorem not_two {a b x : Addr} (h : x ∉ [a, b]) : x ≠ a ∧ x ≠ b := ⟨fun e => h (by rw [e]; exact List.mem_cons_self), fun e => h (by rw [e]; exact List.mem_cons_of_mem _ (List.mem_singleton.mpr rfl))⟩
theorem two_not {a b x : Addr} (h1 : x ≠ a) (h2 : x ≠ b) : x ∉ [a, b] := fun m => by
  rcases List.mem_cons.mp m with q | q
  · exact h1 q
  · exact h2 (List.mem_singleton.mp q)
abbrev sLeast : Stmt := topS 47
abbrev nLeast : List Str := ["_law_grid", "_law_stops", "_law_table", "_law_met", "_law_told", "_law_row", "_law_state", "_law_near", "_law_at"]
theorem scLeast : FnScope nLeast ["_law_grid", "_law_stops"] (defScope sLeast) := ⟨rfl, rfl, rfl, by decide +kernel, rfl, by decide +kernel, by decide +kernel⟩
def spLeast : Sp := fun vs H Q _ => ∃ (g s : Addr) (R : Rws) (E : List Nat) (n m : Nat), vs = [.ref g, .ref s] ∧ GridX [] H g R ∧ IntsX [] H s E ∧ Frm n m R ∧ 0 < n ∧ n ≤ 300 ∧ m ≤ 1000 ∧
  ∀ (t : Addr) (R' : Rws) (E' : List Nat) (H' : Hp), Same H H' → (∀ D : List Addr, (∀ a ∈ D, H a ≠ none) → ToldX D H' t R' E') → LeastF R E m R' E' → Q (.ref t) H'
section
variable {P : Program} {w : World} {K : PySem.W.Frag} {mg : Str → Option Value} {base : Heap}
theorem ok_least {f : Addr} {fd : FuncData} (F : Fun K "_law_least" "_law_least" sLeast f fd) (cA : Ca P w K mg base "_law_apart" 1 ["_law_grid", "_law_stops"] spApart) (mR : mg "range" = none) (mN : mg "len" = none) (mT : mg "tuple" = none) :
    FnOk P w K mg base CX0 2 f fd ["_law_grid", "_law_stops"] spLeast := by
  refine F.ok scLeast (fun vs H Q E h => ?_) (fun cdv A outer s H vs Q Ex hr h => ?_)
  · obtain ⟨_, _, _, _, _, _, rfl, _⟩ := h
    rfl
  · obtain ⟨g, st, R, E, n, m, rfl, hg, hs, fm, pn, ln, lm, k⟩ := h
    have nd := scLeast.nd
    have sz : sizeLine = 16777216 := rfl
    refine ⟨_, pss_cons (ps_asg (pe_tup (pa_cons (pe_ca cA hr (by rfl) (pa_cons (pv 0) (pa_cons (pv 1) pa_nil))) (pa_cons (pe_lst (pa_cons pe_int pa_nil)) (pa_cons (pe_lst pa_nil) pa_nil)))) (pg_tup rfl (pgs_cons (pg_name (i := 2) nd rfl (.inr rfl)) (pgs_cons (pg_name (i := 3) nd rfl (.inr rfl)) (pgs_cons (pg_name (i := 4) nd rfl (.inl rfl)) pgs_nil)))))
      (C8.pss_cut (ps_while PassesOwn.never (pt_cmpR op_lt (pe_callB callLen (by rfl) mN PySem.boot_len (pa_cons (pv 4) pa_nil)) (pe_callB callLen (by rfl) mN PySem.boot_len (pa_cons (pv 3) pa_nil)) (nomark _))
        (pss_cons (ps_set (i := 5) nd rfl (.inl rfl) (pe_lst pa_nil))
        (pss_cons (ps_for PassesOwn.never rfl (pi_list (pe_ix ix_list (pv 0) (pe_ix ix_list (pv 3) (pe_callB callLen (by rfl) mN PySem.boot_len (pa_cons (pv 4) pa_nil)) (fun _ _ => rfl)) (fun _ _ => rfl))) (pg_name (i := 6) nd rfl (.inr rfl))
          (C8.pss_cut (ps_setLc (i := 7) (own := [("_law_at", 8)]) (g := gName 8) (tt := tNot (tTest (tOp (rIxL K) (tOp (rIxL K) (tVar 2) (tOp (rIxL K) (tVar 3) (tVar 8))) (tVar 6)))) rfl nd rfl rfl (sw_true rfl rfl rfl (by decide +kernel)) (pi_range1 (by rfl) mR (pa_cons (pe_callB callLen (by rfl) mN PySem.boot_len (pa_cons (pv 3) pa_nil)) pa_nil)) (blkOk_by (N := nLeast) (sc := defScope sLeast) (by decide +kernel)) (fun _ _ _ _ _ => pg_name (i := 8) nd rfl (Or.inl rfl))
            (fun _ _ _ _ _ => pts_one (pt_not (pt_val (pe_ix (ix_listK (K := K) rfl) (pe_ix (ix_listK (K := K) rfl) (pv 2) (pe_ix (ix_listK (K := K) rfl) (pv 3) (pv 8) (fun _ _ => rfl)) (fun _ _ => rfl)) (pv 6) (fun _ _ => rfl))))) (fun _ _ _ _ _ => pv 8))
          (C8.pss_cut (ps_if (pt_cmpR (op_eqD hr.units) (pv 7) (pe_lst pa_nil) (nomark _))
            (pss_cons (ps_expr (pe_bm PySem.F.plainAttrs_list PySem.F.slot_list_append PySem.F.type_list_append mtAppend (pv 3) (pa_cons (pv 6) pa_nil)))
            (pss_one (ps_set (i := 7) nd rfl (.inl rfl) (pe_lst (pa_cons (pe_op op_sub (pe_callB callLen (by rfl) mN PySem.boot_len (pa_cons (pv 3) pa_nil)) pe_int) pa_nil))))) pss_nil)
          (pss_one (ps_expr (pe_bm PySem.F.plainAttrs_list PySem.F.slot_list_append PySem.F.type_list_append mtAppend (pv 5) (pa_cons (pe_ix ix_list (pv 7) pe_int (fun _ _ => rfl)) pa_nil)))))))
        (pss_one (ps_expr (pe_bm PySem.F.plainAttrs_list PySem.F.slot_list_append PySem.F.type_list_append mtAppend (pv 4) (pa_cons (pe_callTy call_tuple_of (by rfl) mT (by decide +kernel) (pa_cons (pv 5) pa_nil)) pa_nil)))))))
      (pss_one (ps_ret (pe_tup (pa_cons (pv 4) (pa_cons (pe_lc (own := [("_law_at", 8)]) (g := gName 8) (tt := tTest (tOp (rIn K false) (tOp (rIxL K) (tVar 3) (tVar 8)) (tVar 1))) rfl nd (pi_range1 (by rfl) mR (pa_cons (pe_callB callLen (by rfl) mN PySem.boot_len (pa_cons (pv 3) pa_nil)) pa_nil)) (blkOk_by (N := nLeast) (sc := defScope sLeast) (by decide +kernel)) (fun _ _ _ _ _ => pg_name (i := 8) nd rfl (Or.inl rfl))
        (fun _ _ _ _ _ => pts_one (pt_cmpR (op_in_seqK (K := K) rfl) (pe_ix (ix_listK (K := K) rfl) (pv 3) (pv 8) (fun _ _ => rfl)) (pv 1) (by rfl))) (fun _ _ _ _ _ => pv 8)) pa_nil)))))), ?_⟩
    refine ⟨_, rfl, _, rfl, g, st, R, E, n, m, rfl, hg, hs, fm, by omega, lm, fun T ad tb H1 s1 tab1 htb => ?_⟩
    obtain ⟨gs, hg1, _, hgr⟩ := hg
    have hst := hs.1
    have rf : ∀ s, sameN R E m s s = true := fun s => sameN_iff.mpr (eqvM.refl _ _ _ _)
    have lsm : ∀ {R' : Rws} {E' : List Nat}, IsNum (rowOf R) (sameN R E m) (fun s => decide (s ∈ E)) 0 R' E' → LeastF R E m R' E' := fun h => h
    generalize sameN R E m = same at htb rf lsm
    refine ⟨by show 1 ≤ sizeLine; decide, fun M hM => ?_⟩
    have s2 : Same H1 (upd H1 M (.lst [.int 0])) := (Same.refl H1).upd hM
    have gM2 : upd H1 M (.lst [.int 0]) M = some (.lst (vN' [0])) := upd_same
    have tab2 := tab1.same s2
    have nMT : M ≠ T := fun e => by rw [e, tab1.1] at hM; cases hM
    have nMa : ∀ i, i < n → ad i ≠ M := fun i hi e => by rw [← e, tab1.2.1 i hi] at hM; cases hM
    generalize upd H1 M (.lst [.int 0]) = H2 at s2 gM2 tab2 ⊢
    refine ⟨by decide, fun O hO => ?_⟩
    have s3 : Same H2 (upd H2 O (.lst [])) := (Same.refl H2).upd hO
    have gO3 : upd H2 O (.lst []) O = some (.lst []) := upd_same
    have tab3 := tab2.same s3
    have nOT : O ≠ T := fun e => by rw [e, tab2.1] at hO; cases hO
    have nOa : ∀ i, i < n → ad i ≠ O := fun i hi e => by rw [← e, tab2.2.1 i hi] at hO; cases hO
    have nMO : M ≠ O := ne_of_none gM2 hO
    have gM3 := s3 _ _ gM2
    generalize upd H2 O (.lst []) = H3 at s3 gO3 tab3 gM3 ⊢
    refine ⟨by show 3 ≤ sizeLine; decide, fun Tp hTp => ?_⟩
    have s4 : Same H3 (upd H3 Tp (.tup [.ref T, .ref M, .ref O])) := (Same.refl H3).upd hTp
    refine ⟨Tp, _, rfl, SqT.of upd_same, rfl, _, _, rfl, _, _, rfl, _, _, rfl, rfl, ?_⟩
    have gM4 := s4 _ _ gM3
    have gO4 := s4 _ _ gO3
    have tab4 := tab3.same s4
    have sH4 := ((s1.trans s2).trans s3).trans s4
    have hM0 : H M = none := s1.none hM
    have hO0 : H O = none := (s1.trans s2).none hO
    have nD0 : ∀ a ∈ [M, O], H a = none := fun a ha => by
      rcases List.mem_cons.mp ha with rfl | ha
      · exact hM0
      · rw [List.mem_singleton.mp ha]
        exact hO0
    generalize upd H3 Tp (.tup [.ref T, .ref M, .ref O]) = H4 at s4 gM4 gO4 tab4 sH4 ⊢
    clear s4 gM3 gO3 tab3 s3 s2 tab2 gM2 tab1 hO hM hTp
    refine ⟨fun σ' H' => ∃ (met : List Nat) (rs : List V) (o5 o6 o7 : Option V), σ' = [some (.ref g), some (.ref st), some (.ref T), some (.ref M), some (.ref O), o5, o6, o7, none] ∧ SmX [M, O] H4 H' ∧ H' M = some (.lst (vN' met)) ∧ H' O = some (.lst rs) ∧ RowsT H' rs (numRows (rowOf R) same met) ∧ BfsM (rowOf R) same [0] 0 met ∧ met.length ≤ n, ?_, ?_⟩
    · refine while_n (fun mm σ' H' => ∃ (met : List Nat) (rs : List V) (o5 o6 o7 : Option V), σ' = [some (.ref g), some (.ref st), some (.ref T), some (.ref M), some (.ref O), o5, o6, o7, none] ∧ SmX [M, O] H4 H' ∧ H' M = some (.lst (vN' met)) ∧ H' O = some (.lst rs) ∧ RowsT H' rs (outG R same met rs.length) ∧ NumG n R same 0 met rs.length ∧ mm = n - rs.length) (m0 := n) ?_ ?_ ?_
      · exact ⟨[0], [], none, none, none, rfl, SmX.refl _ _, gM4, gO4, .nil, NumG.start pn, rfl⟩
      · rintro mm σ' Hi ⟨met, rs, o5, o6, o7, rfl, xi, gi, oi, ri, ni, rfl⟩
        have few := few_ofG rf ni.lt ni.ap
        have sHi : Same H Hi := xi.same sH4 nD0
        have tabi : TabAt Hi T n ad tb := tab4.smx xi (two_not (Ne.symm nMT) (Ne.symm nOT)) fun i hi => two_not (nMa i hi) (nOa i hi)
        refine ⟨_, rfl, _, rs.length, rfl, .inl ⟨_, SqL.of oi, rfl⟩, _, rfl, _, met.length, rfl, .inl ⟨_, SqL.of gi, (ints_len met).symm⟩, _, _, rfl, rfl, _, rfl, ?_⟩
        refine ite2 (fun hlt => ?_) (fun hlt => ?_)
        · have hk : rs.length < met.length := by have := of_decide_eq_true hlt; omega
          obtain ⟨s', hs'⟩ : ∃ s', met[rs.length]? = some s' := ⟨_, List.getElem?_eq_getElem hk⟩
          have ls' := ni.lt s' (List.mem_of_getElem? hs')
          obtain ⟨er, lr, gr⟩ := fm.rowOf ls'
          obtain ⟨nst, ost⟩ := ni.step rf fm hs'
          have fewS := few_ofG rf nst.lt nst.ap
          obtain ⟨xr, exr, ar, rfl, _, gar⟩ := paired_getR hgr er
          have fewJ : ∀ j, (addAll same met ((rowOf R s').take j)).length ≤ n ∧ ∀ x ∈ addAll same met ((rowOf R s').take j), x < n := fun j => by
            have lt : ∀ x ∈ addAll same met ((rowOf R s').take j), x < n := addAll_mem _ _ ni.lt fun t ht => row_lt fm ls' t (List.mem_of_mem_take ht)
            exact ⟨few_ofG rf lt (addAll_apart _ _ ni.ap), lt⟩
          refine ⟨by decide, fun B hB => ?_⟩
          have nMB : M ≠ B := ne_of_none gi hB
          have nOB : O ≠ B := ne_of_none oi hB
          have sB : Same Hi (upd Hi B (.lst [])) := (Same.refl Hi).upd hB
          have gB : upd Hi B (.lst []) B = some (.lst (vN' [])) := upd_same
          have hB0 : H B = none := sHi.none hB
          have nBT : B ≠ T := fun e => by rw [e, tabi.1] at hB; cases hB
          have nBa : ∀ i, i < n → ad i ≠ B := fun i hi e => by rw [← e, tabi.2.1 i hi] at hB; cases hB
          have tab5 := tabi.same sB
          have sH5 := sHi.trans sB
          have gM5 := sB _ _ gi
          have gO5 := sB _ _ oi
          have r5 : RowsT (upd Hi B (.lst [])) rs (outG R same met rs.length) := ri.same fun a o e => sB a _ e
          generalize upd Hi B (.lst []) = H5 at sB gB tab5 sH5 gM5 gO5 r5 ⊢
          have nD5 : ∀ a ∈ [M, B], H a = none := fun a ha => by
            rcases List.mem_cons.mp ha with rfl | ha
            · exact hM0
            · rw [List.mem_singleton.mp ha]
              exact hB0
          refine ⟨_, rfl, _, rfl, _, rfl, _, rs.length, rfl, .inl ⟨_, SqL.of gO5, rfl⟩, M, _, _, _, rfl, rfl, SqL.of gM5, ints_at hs', g, _, _, _, rfl, rfl, SqL.of (sH5 _ _ hg1), atI_nat exr, ar, rfl, ⟨_, SqL.of (sH5 _ _ gar)⟩, for_it (walk_list (xs := vN' (rowOf R s'))) (fun j σ Hj => ∃ (o6 o7 : Option V), σ = [some (.ref g), some (.ref st), some (.ref T), some (.ref M), some (.ref O), some (.ref B), o6, o7, none] ∧ SmX [M, B] H5 Hj ∧ Hj M = some (.lst (vN' (addAll same met ((rowOf R s').take j)))) ∧ Hj B = some (.lst (vN' (((rowOf R s').take j).map (placeM same (addAll same met ((rowOf R s').take j)))))) ∧ ∀ t ∈ (rowOf R s').take j, (addAll same met ((rowOf R s').take j)).any (fun x => same x t) = true) ?_ ?_ ?_ ?_⟩
          · exact ⟨o6, o7, rfl, SmX.refl _ _, gM5, gB, fun _ h => nomatch h⟩
          · rintro j σ Hj _ ⟨_, _, _, xj, _⟩
            exact SqL.of ((xj.same sH5 nD5) _ _ gar)
          · rintro j x σ Hj0 Hj hj ⟨o6, o7, rfl, xj, gj, bj, cov⟩ ⟨rfl, hx⟩
            obtain ⟨s, hsx, rfl⟩ := ints_get hx
            obtain ⟨lenJ, ltJ⟩ := fewJ j
            have lsn := row_lt fm ls' s (List.mem_of_getElem? hsx)
            have eJ := addAll_takeG (same := same) (met := met) hsx
            have hj' : j < (rowOf R s').length := by rw [← ints_len (rowOf R s')]; exact hj
            have tabj : TabAt Hj T n ad tb := tab5.smx xj (two_not (Ne.symm nMT) (Ne.symm nBT)) fun i hi => two_not (nMa i hi) (nBa i hi)
            have eT : (rowOf R s').take (j + 1) = (rowOf R s').take j ++ [s] := take_snoc hsx
            generalize hmj : addAll same met ((rowOf R s').take j) = mj at gj bj cov lenJ ltJ eJ
            refine ⟨fun σ' H' => ∃ C : Addr, σ' = [some (.ref g), some (.ref st), some (.ref T), some (.ref M), some (.ref O), some (.ref B), some (.int (s : Nat)), some (.ref C), none] ∧ Same Hj H' ∧ H' C = some (.lst (vN' (numEnds (fun x => same x s) mj))), ?_, ?_⟩
            · refine ⟨_, rfl, _, mj.length, rfl, .inl ⟨_, SqL.of gj, (ints_len mj).symm⟩, _, rfl, by omega, by omega, fun C hC => ?_⟩
              refine lc_range (lo := 0) (n := mj.length) (fun q Hq => Same Hj Hq ∧ Hq C = some (.lst (vN' ((List.range q).filter fun i => (mj[i]?).any fun x => same x s)))) ?_ ?_ ?_
              · exact ⟨(Same.refl Hj).upd hC, upd_same⟩
              · rintro q Hq hq ⟨sq, cq⟩
                have e0 : (0 : Int) + (q : Nat) = (q : Nat) := by omega
                rw [e0]
                obtain ⟨x, ex⟩ : ∃ x, mj[q]? = some x := ⟨_, List.getElem?_eq_getElem hq⟩
                have lx := ltJ x (List.mem_of_getElem? ex)
                obtain ⟨t1, t2, _, _⟩ := tabj.same sq
                have g1 : ((List.range n).map fun i => V.ref (ad i))[x]? = some (.ref (ad x)) := by rw [List.getElem?_map, List.getElem?_range lx]; rfl
                have g2 : ((List.range n).map fun b => V.bl (tb x b))[s]? = some (.bl (tb x s)) := by rw [List.getElem?_map, List.getElem?_range lsn]; rfl
                refine ⟨rfl, _, rfl, _, rfl, _, rfl, M, _, _, _, rfl, rfl, SqL.of (sq _ _ gj), ints_at ex, T, _, _, _, rfl, rfl, SqL.of t1, atI_nat g1, _, rfl, ad x, _, _, _, rfl, rfl, SqL.of (t2 x lx), atI_nat g2, _, rfl, ?_⟩
                rw [htb x s lx lsn]
                cases c : same x s with
                | true =>
                  refine iteT ?_
                  refine ⟨_, rfl, _, cq, (by
                    have := List.length_filter_le (fun i => (mj[i]?).any fun x => same x s) (List.range q)
                    rw [List.length_range] at this
                    rw [ints_len, sz]
                    omega), sq.upd hC, ?_⟩
                  rw [upd_same, ends_succ ex, c, if_pos rfl, nats_snoc]
                | false =>
                  refine iteF ?_
                  refine ⟨sq, ?_⟩
                  rw [ends_succ ex, c, if_neg (by decide), List.append_nil]
                  exact cq
              · rintro Hq ⟨sq, cq⟩
                exact ⟨C, rfl, sq, cq⟩
            rintro σ' Hq ⟨C, rfl, sq, cq⟩
            have gq := sq _ _ gj
            have bq := sq _ _ bj
            have xq : SmX [M, B] H5 Hq := xj.trans (SmX.of sq)
            refine ⟨fun σ' H' => ∃ (N : Addr) (rest : List V), σ' = [some (.ref g), some (.ref st), some (.ref T), some (.ref M), some (.ref O), some (.ref B), some (.int (s : Nat)), some (.ref N), none] ∧ SmX [M, B] H5 H' ∧ H' M = some (.lst (vN' (addS same mj s))) ∧ H' B = some (.lst (vN' (((rowOf R s').take j).map (placeM same mj)))) ∧ H' N = some (.lst (.int (placeM same (addS same mj s) s : Nat) :: rest)), ?_, ?_⟩
            · refine ⟨_, rfl, by decide, fun Z hZ => ?_⟩
              have sZ : Same Hq (upd Hq Z (.lst [])) := (Same.refl Hq).upd hZ
              have gZ : upd Hq Z (.lst []) Z = some (.lst []) := upd_same
              generalize upd Hq Z (.lst []) = H6 at sZ gZ ⊢
              have cq6 := sZ _ _ cq
              have ltC : ∀ t ∈ numEnds (fun x => same x s) mj, t < 400 := fun t ht => by have := numEnds_lt ht; omega
              refine ⟨_, _, dp_endsD cq6, .lst (SqL.of gZ) .nil, (sm_ends ltC).shaped, (Sm.list (k := 0) SmL.nil (by decide)).shaped, _, rfl, ?_⟩
              cases any : mj.any (fun x => same x s) with
              | true =>
                obtain ⟨xs, ex⟩ := ends_first any
                rw [ex] at cq6 ⊢
                refine iteF ?_
                have ea : addS same mj s = mj := by unfold addS; rw [if_pos any]
                rw [ea]
                exact ⟨C, vN' xs, rfl, xq.trans (SmX.of sZ), sZ _ _ gq, sZ _ _ bq, cq6⟩
              | false =>
                rw [ends_none any]
                refine iteT ?_
                have ea : addS same mj s = mj ++ [s] := by unfold addS; rw [any]; rfl
                rw [ea]
                refine ⟨_, rfl, .inl ⟨rfl, _, SqL.of (sZ _ _ gq)⟩, _, rfl, M, _, _, rfl, rfl, sZ _ _ gq, (by rw [ints_len, sz]; omega), ?_⟩
                rw [nats_snoc]
                have x7 : SmX [M, B] H5 (upd H6 M (.lst (vN' (mj ++ [s])))) := (xq.trans (SmX.of sZ)).put List.mem_cons_self
                have gM7 : upd H6 M (.lst (vN' (mj ++ [s]))) M = some (.lst (vN' (mj ++ [s]))) := upd_same
                have gB7 : upd H6 M (.lst (vN' (mj ++ [s]))) B = some (.lst (vN' (((rowOf R s').take j).map (placeM same mj)))) := by rw [upd_ne (Ne.symm nMB)]; exact sZ _ _ bq
                generalize upd H6 M (.lst (vN' (mj ++ [s]))) = H7 at x7 gM7 gB7 ⊢
                refine ⟨_, rfl, _, (mj ++ [s]).length, rfl, .inl ⟨_, SqL.of gM7, (ints_len _).symm⟩, _, _, rfl, rfl, (by show 1 ≤ sizeLine; decide), fun N hN => ?_⟩
                have s8 : Same H7 (upd H7 N (.lst [(fun i j => V.int (i - j)) (((mj ++ [s]).length : Nat) : Int) 1])) := (Same.refl H7).upd hN
                refine ⟨N, [], rfl, x7.trans (SmX.of s8), s8 _ _ gM7, s8 _ _ gB7, ?_⟩
                rw [upd_same, place_newG (rf s) any]
                have : V.int ((((mj ++ [s]).length : Nat) : Int) - 1) = V.int ((mj.length : Nat) : Int) := by
                  rw [List.length_append]
                  congr 1
                  show (((mj.length + 1 : Nat)) : Int) - 1 = _
                  omega
                show some (HO.lst [V.int ((((mj ++ [s]).length : Nat) : Int) - 1)]) = _
                rw [this]
            rintro σ' Hr ⟨N, rest, rfl, xr, gr', br, nr⟩
            refine ⟨_, rfl, .inl ⟨rfl, _, SqL.of br⟩, _, rfl, N, _, ((0 : Nat) : Int), _, rfl, rfl, SqL.of nr, atI_nat (show (V.int (placeM same (addS same mj s) s : Nat) :: rest)[0]? = some _ from rfl), B, _, _, rfl, rfl, br, (by rw [ints_len, List.length_map, List.length_take, sz]; omega), ?_⟩
            have pre : ∀ t ∈ (rowOf R s').take j, placeM same (addS same mj s) t = placeM same mj t := fun t ht => by
              unfold addS
              split
              · rfl
              · exact place_preG (cov t ht)
            refine ⟨_, _, rfl, xr.put (List.mem_cons_of_mem _ (List.mem_singleton.mpr rfl)), ?_, ?_, ?_⟩
            · rw [upd_ne nMB, gr', eJ]
            · have e1 : ((rowOf R s').take j).map (placeM same mj) = ((rowOf R s').take j).map (placeM same (addS same mj s)) := List.map_congr_left fun t ht => (pre t ht).symm
              rw [upd_same, nats_snoc, eJ, eT, List.map_append, e1]
              rfl
            · rw [eJ, eT]
              intro t ht
              have grow : ∀ t, mj.any (fun x => same x t) = true → (addS same mj s).any (fun x => same x t) = true := fun t h => by
                unfold addS
                split
                · exact h
                · exact any_append_left h
              rcases List.mem_append.mp ht with h | h
              · exact grow t (cov t h)
              · rw [List.mem_singleton.mp h]
                unfold addS
                split
                · assumption
                · rw [List.any_append]
                  simp [rf]
          · rintro σ Hj ⟨o6, o7, rfl, xj, gj, bj, cov⟩
            have eT : (rowOf R s').take (vN' (rowOf R s')).length = rowOf R s' := by rw [ints_len, List.take_length]
            rw [eT] at gj bj
            have nO2 : O ∉ [M, B] := two_not (Ne.symm nMO) nOB
            have oj := xj _ _ gO5 nO2
            refine ⟨_, rfl, .inl ⟨rfl, _, SqL.of oj⟩, _, rfl, B, _, rfl, .inl ⟨SqL.of bj, fun Tt hTt => ?_⟩⟩
            have s8 : Same Hj (upd Hj Tt (.tup (vN' ((rowOf R s').map (placeM same (addAll same met (rowOf R s'))))))) := (Same.refl Hj).upd hTt
            have gT8 : upd Hj Tt (.tup (vN' ((rowOf R s').map (placeM same (addAll same met (rowOf R s')))))) Tt = some (.tup (vN' ((rowOf R s').map (placeM same (addAll same met (rowOf R s')))))) := upd_same
            generalize upd Hj Tt (.tup (vN' ((rowOf R s').map (placeM same (addAll same met (rowOf R s')))))) = H8 at s8 gT8 ⊢
            have o8 := s8 _ _ oj
            have lM2 : ∀ a o, H5 a = some (.tup o) → a ∉ [M, B] := fun a o e => two_not (fun z => by rw [z, gM5] at e; cases e) (fun z => by rw [z, gB] at e; cases e)
            refine ⟨O, _, _, rfl, rfl, o8, (by have := ni.le; rw [sz]; omega), ?_⟩
            refine ⟨n - (rs.length + 1), by omega, addAll same met (rowOf R s'), rs ++ [.ref Tt], _, _, _, rfl, fun a o e na => ?_, by rw [upd_ne nMO]; exact s8 _ _ gj, upd_same, ?_, ?_, ?_⟩
            · have e1 := xi a o e na
              have naB : a ≠ B := ne_of_none e1 hB
              rw [upd_ne (not_two na).2]
              exact s8 _ _ (xj _ _ (sB _ _ e1) (two_not (not_two na).1 naB))
            · rw [List.length_append]
              show RowsT _ _ (outG R same (addAll same met (rowOf R s')) (rs.length + 1))
              rw [ost]
              exact paired_snoc ((RowsT.same (fun a u e => s8 a _ (xj a _ e (lM2 a u e))) r5).same (tups_lst o8)) ⟨Tt, rfl, tups_lst o8 _ _ gT8⟩
            · rw [List.length_append]
              exact nst
            · rw [List.length_append]
              rfl
        · have g2 : met.length ≤ rs.length := by
            have : ¬ ((rs.length : Nat) : Int) < ((met.length : Nat) : Int) := fun z => hlt (decide_eq_true z)
            omega
          obtain ⟨d1, d2⟩ := ni.done g2
          rw [d2] at ri
          exact ⟨met, rs, _, _, _, rfl, xi, gi, oi, ri, d1, few⟩
      · rintro σ' Hi Q1 Q2 hq ⟨v, e1, u, n1, e2, l1, u2, e3, u4, n2, e4, l2, i, j, e5, e6, b, e7, q⟩
        exact ⟨v, e1, u, n1, e2, l1, u2, e3, u4, n2, e4, l2, i, j, e5, e6, b, e7, hq _ _ q⟩
    rintro σ' Hj ⟨met, rs, o5, o6, o7, rfl, xj, gj, oj, rj, b, few⟩
    have sj : Same H Hj := xj.same sH4 nD0
    refine ⟨_, rfl, _, rfl, _, met.length, rfl, .inl ⟨_, SqL.of gj, (ints_len met).symm⟩, _, rfl, by omega, by omega, fun C hC => ?_⟩
    refine lc_range (lo := 0) (n := met.length) (fun q Hq => Same Hj Hq ∧ Hq C = some (.lst (vN' ((List.range q).filter fun i => (met[i]?).any fun s => decide (s ∈ E))))) ?_ ?_ ?_
    · exact ⟨(Same.refl Hj).upd hC, upd_same⟩
    · rintro q Hq hq ⟨sq, cq⟩
      have e0 : (0 : Int) + (q : Nat) = (q : Nat) := by omega
      rw [e0]
      obtain ⟨x, ex⟩ : ∃ x, met[q]? = some x := ⟨_, List.getElem?_eq_getElem hq⟩
      refine ⟨rfl, _, rfl, _, rfl, M, _, _, _, rfl, rfl, SqL.of (sq _ _ gj), ints_at ex, _, rfl, st, _, rfl, .inl (SqL.of ((sj.trans sq) _ _ hst)), rfl, flat_ints E, _, rfl, ?_⟩
      show (if inV (.int (x : Nat)) (vN' E) = true then _ else _)
      rw [in_ints]
      cases c : decide (x ∈ E) with
      | true =>
        refine iteT ?_
        refine ⟨_, rfl, _, cq, (by
          have := List.length_filter_le (fun i => (met[i]?).any fun s => decide (s ∈ E)) (List.range q)
          rw [List.length_range] at this
          rw [ints_len, sz]
          omega), sq.upd hC, ?_⟩
        rw [upd_same, ends_succ ex, c, if_pos rfl, nats_snoc]
      | false =>
        refine iteF ?_
        refine ⟨sq, ?_⟩
        rw [ends_succ ex, c, if_neg (by decide), List.append_nil]
        exact cq
    · rintro Hq ⟨sq, cq⟩
      refine ⟨by show 2 ≤ sizeLine; decide, fun T' hT' => ?_⟩
      have s9 : Same Hq (upd Hq T' (.tup [.ref O, .ref C])) := (Same.refl Hq).upd hT'
      have sA := sq.trans s9
      exact k T' _ _ _ (sj.trans sA) (fun D hD => ⟨O, C, rs, upd_same, sA _ _ oj, rj.same fun a o e => sA a _ e, s9 _ _ cq, fun m => hD O m hO0, fun m => hD C m (sj.none hC)⟩) (lsm ⟨met, b, rfl, rfl⟩)
end
end K11
namespace K11
open PySem PySem.Spec PyProof.Rows L2 FL
theorem twin_least {n k m : Nat} {R R2 : Rws} {E E2 : List Nat} {src : Nat → Nat} (F : Frm n m R) (F2 : Frm k m R2) (k0 : 0 < k) (lt : ∀ i, i < k → src i < n) (hn : ∀ i, i < k → ∀ a, a < m → src (nxt R2 i a) = nxt R (src i) a) (he : ∀ i, i < k → (i ∈ E2 ↔ src i ∈ E)) (h0 : src 0 = 0) {A : Rws} {B : List Nat}
    (h : LeastF R2 E2 m A B) : LeastF R E m A B := by
  have bool : ∀ {a b : Bool}, (a = true ↔ b = true) → a = b := fun {a b} h => by cases a <;> cases b <;> simp_all
  refine IsNum.sim (R := fun i s => i < k ∧ src i = s) (fun i s q => ?_) (fun i s i' s' q q' => bool ?_) (fun i s q => bool ?_) ⟨k0, h0⟩ h
  · obtain ⟨hi, rfl⟩ := q
    exact rows_paired F2 F hi (lt i hi) fun a ha => ⟨F2.nxt_lt hi ha, hn i hi a ha⟩
  · rw [sameN_iff, sameN_iff]
    exact eqv_map (P := fun i s => i < k ∧ src i = s) (fun i s q a ha => ⟨F2.nxt_lt q.1 ha, by rw [hn i q.1 a ha, q.2]⟩) (fun i s q => by rw [← q.2]; exact he i q.1) q q'
  · rw [decide_eq_true_iff, decide_eq_true_iff, ← q.2]
    exact he i q.1
def plcs : List Nat → Nat → List (Key × V)
  | [], _ => []
  | s :: ss, i => ((Sum.inl (s : Int) : Key), V.int ((i : Nat) : Int)) :: plcs ss (i + 1)
theorem plcs_plc : ∀ (ss met : List Nat) (kvs : List (Key × V)), PlcK kvs met → (met ++ ss).Nodup → PlcK (mergeK kvs (plcs ss met.length)) (met ++ ss)
  | [], met, kvs, h, _ => by
    rw [List.append_nil]
    exact h
  | s :: ss, met, kvs, h, nd => by
    have ns : met.any (fun x => beqN x s) = false := List.any_eq_false.mpr fun x hx e => by
      have e' : x = s := by simpa [beqN] using e
      have := (List.nodup_append.mp nd).2.2 x hx s List.mem_cons_self
      exact this e'
    have h1 := h.put ns
    have := plcs_plc ss (met ++ [s]) _ h1 (by rw [List.append_assoc]; exact nd)
    rw [List.length_append, List.append_assoc] at this
    exact this
theorem plcs_snoc : ∀ (a : List Nat) (s i : Nat), plcs (a ++ [s]) i = plcs a i ++ [((Sum.inl (s : Int) : Key), V.int (((i + a.length : Nat)) : Int))]
  | [], s, i => rfl
  | x :: a, s, i => by
    show ((Sum.inl (x : Int) : Key), V.int ((i : Nat) : Int)) :: plcs (a ++ [s]) (i + 1) = _ :: (plcs a (i + 1) ++ _)
    rw [plcs_snoc a s (i + 1), List.length_cons, Nat.add_right_comm, Nat.add_assoc i a.length 1]
def unI (v : V) : Nat := match v with
  | .int i => i.toNat
  | _ => 0
theorem perm_ints {ys : List V} {ns : List Nat} (h : ys.Perm (vN' ns)) : ∃ ps, ys = vN' ps ∧ ps.Perm ns := by
  refine ⟨ys.map unI, ?_, ?_⟩
  · have : ∀ y ∈ ys, V.int ((unI y : Nat) : Int) = y := fun y hy => by
      obtain ⟨n, _, rfl⟩ := List.mem_map.mp (h.mem_iff.mp hy)
      rfl
    show ys = (ys.map unI).map _
    rw [List.map_map]
    have e : ys.map ((fun (n : Nat) => V.int (n : Nat)) ∘ unI) = ys.map id := List.map_congr_left fun y hy => this y hy
    rw [e, List.map_id]
  · have := h.map unI
    have e : (vN' ns).map unI = ns := by
      show (ns.map _).map unI = ns
      rw [List.map_map]
      have : ns.map (unI ∘ fun (n : Nat) => V.int (n : Nat)) = ns.map id := List.map_congr_left fun y _ => rfl
      rw [this, List.map_id]
    rwa [e] at this
abbrev sTwin : Stmt := topS 48
abbrev nTwin : List Str := ["_law_pot_here", "_law_grid", "_law_stops", "_law_span", "_law_spots", "_law_places", "_law_double", "_law_found", "_law_kept", "_law_at", "_law_state", "_law_source", "_law_row", "_law_goal"]
theorem scTwin : FnScope nTwin ["_law_pot_here", "_law_grid", "_law_stops"] (defScope sTwin) := ⟨rfl, rfl, rfl, by decide +kernel, rfl, by decide +kernel, by decide +kernel⟩
def spTwin : Sp := fun vs H Q _ => ∃ (p g s : Addr) (R : Rws) (E : List Nat) (n m : Nat), vs = [.ref p, .ref g, .ref s] ∧ PotAt H p ∧ GridX [p] H g R ∧ IntsX [p] H s E ∧ Frm n m R ∧ 0 < n ∧ n ≤ 100 ∧ m ≤ 1000 ∧
  ∀ (t g2 s2 : Addr) (R2 : Rws) (E2 : List Nat) (H' : Hp), H' t = some (.tup [.ref g2, .ref s2]) → (∀ D : List Addr, (∀ a ∈ D, H a ≠ none) → GridX D H' g2 R2 ∧ IntsX D H' s2 E2) → Frm (n + 1) m R2 → E2.Nodup → (∀ e ∈ E2, e < n + 1) →
    (∀ A B, LeastF R2 E2 m A B → LeastF R E m A B) → PotAt H' p → But p H H' → Q (.ref t) H'
section
variable {P : Program} {w : World} {K : PySem.W.Frag} {mg : Str → Option Value} {base : Heap}
theorem ok_twin {f : Addr} {fd : FuncData} (F : Fun K "_law_twin" "_law_twin" sTwin f fd) (cD : Ca P w K mg base "_law_draw" 1 ["_law_pot_here", "_law_span"] spDraw) (cM : Ca P w K mg base "_law_mixed" 2 ["_law_pot_here", "_law_some"] (spMixedP K)) (mR : mg "range" = none) (mN : mg "len" = none) (mL : mg "list" = none) (mD : mg "dict" = none) (mE : mg "enumerate" = none) :
    FnOk P w K mg base CX0 3 f fd ["_law_pot_here", "_law_grid", "_law_stops"] spTwin := by
  refine F.ok scTwin (fun vs H Q E h => ?_) (fun cdv A outer s H vs Q Ex hr h => ?_)
  · obtain ⟨_, _, _, _, _, _, _, rfl, _⟩ := h
    rfl
  · obtain ⟨p, g, st, R, E, n, m, rfl, hp, hg, hs, fm, pn, ln, lm, k⟩ := h
    have nd := scTwin.nd
    have sz : sizeLine = 16777216 := rfl
    have hr1 : Room 1 (A.deeper (envOfC "_law_twin" (defScope sTwin) s.heap.objs.size f cdv)) := hr.mono (by decide)
    have hu : (A.deeper (envOfC "_law_twin" (defScope sTwin) s.heap.objs.size f cdv)).units + 1 < cLine := by have := hr.un; omega
    refine ⟨_, pss_cons (ps_set (i := 3) nd rfl (.inl rfl) (pe_callB callLen (by rfl) mN PySem.boot_len (pa_cons (pv 1) pa_nil)))
      (pss_cons (ps_set (i := 4) nd rfl (.inl rfl) (pe_op op_cat (pe_lst (pa_cons pe_int pa_nil)) (pe_ca cM hr (by rfl) (pa_cons (pv 0) (pa_cons (pe_listRg rfl (by rfl) mL (prg_2 (by rfl) mR pe_int (pe_op op_add (pv 3) pe_int))) pa_nil)))))
      (C8.pss_cut (ps_set (i := 5) nd rfl (.inl rfl) (pe_callTy (call_dictP rfl) (by rfl) mD (by decide +kernel) (pa_cons (pe_lc (own := [("_law_at", 9), ("_law_state", 10)]) (g := gTup K 2 (gCons (gName 9) (gCons (gName 10) gNil))) (tt := tYes) rfl nd (pi_enum (by rfl) mE (pa_cons (pv 4) pa_nil)) (blkOk_by (N := nTwin) (sc := defScope sTwin) (by decide +kernel))
          (fun _ _ _ _ _ => pg_tup rfl (pgs_cons (pg_name (i := 9) nd rfl (Or.inl rfl)) (pgs_cons (pg_name (i := 10) nd rfl (Or.inl rfl)) pgs_nil))) (fun _ _ _ _ _ => pts_nil) (fun _ _ _ _ _ => pe_tup (pa_cons (pv 10) (pa_cons (pv 9) pa_nil)))) pa_nil)))
      (pss_cons (ps_set (i := 6) nd rfl (.inl rfl) (pe_ca cD hr1 (by rfl) (pa_cons (pv 0) (pa_cons (pv 3) pa_nil))))
      (pss_cons (ps_par (i := 7) (j := 8) (by rfl) nd rfl rfl (by decide) rfl rfl (pa_cons (pe_lst pa_nil) (pa_cons (pe_lst pa_nil) pa_nil)) (by rfl))
      (pss_cons (ps_for PassesOwn.never rfl (pi_enum (by rfl) mE (pa_cons (pv 4) pa_nil)) (pg_tup rfl (pgs_cons (pg_name (i := 9) nd rfl (.inl rfl)) (pgs_cons (pg_name (i := 10) nd rfl (.inl rfl)) pgs_nil)))
        (C8.pss_cut (ps_set (i := 11) nd rfl (.inl rfl) (pe_ifExp (pt_cmpR op_eq (pv 10) (pv 3) (nomark _)) (pv 6) (pv 10)))
        (pss_cons (ps_set (i := 12) nd rfl (.inl rfl) (pe_lst pa_nil))
        (pss_cons (ps_for PassesOwn.never rfl (pi_list (pe_ix ix_list (pv 1) (pv 11) (fun _ _ => rfl))) (pg_name (i := 13) nd rfl (.inl rfl))
          (pss_one (ps_expr (pe_bm PySem.F.plainAttrs_list PySem.F.slot_list_append PySem.F.type_list_append mtAppend (pv 12) (pa_cons (pe_dget hu (pv 5) (pe_ifExp (PW.pt (pw_and (pt_cmpR op_eq (pv 13) (pv 6) (nomark _)) (pw_and1 (pt_cmpR op_eq (pe_ca cD hr1 (by rfl) (pa_cons (pv 0) (pa_cons pe_int pa_nil))) pe_int (nomark _))))) (pv 3) (pv 13)) (fun _ _ => rfl)) pa_nil)))))
        (pss_cons (ps_expr (pe_bm PySem.F.plainAttrs_list PySem.F.slot_list_append PySem.F.type_list_append mtAppend (pv 7) (pa_cons (pv 12) pa_nil)))
        (pss_one (ps_if (pt_cmpR op_in_seq (pv 11) (pv 2) (by rfl)) (pss_one (ps_expr (pe_bm PySem.F.plainAttrs_list PySem.F.slot_list_append PySem.F.type_list_append mtAppend (pv 8) (pa_cons (pv 9) pa_nil)))) pss_nil)))))))
      (pss_one (ps_ret (pe_tup (pa_cons (pv 7) (pa_cons (pe_ca cM hr (by rfl) (pa_cons (pv 0) (pa_cons (pv 8) pa_nil))) pa_nil)))))))))), ?_⟩
    obtain ⟨gs, hg1, ngp, hgr⟩ := hg
    obtain ⟨hst, nsp⟩ := hs
    have lgs : gs.length = n := by rw [paired_lenM hgr, fm.len]
    have npg : g ≠ p := fun e => ngp (List.mem_singleton.mpr e)
    have nps : st ≠ p := fun e => nsp (List.mem_singleton.mpr e)
    refine ⟨_, rfl, _, n, rfl, .inl ⟨_, SqL.of hg1, lgs.symm⟩, ?_⟩
    refine ⟨by show 1 ≤ sizeLine; decide, fun Z hZ => ?_⟩
    have npZ : p ≠ Z := hp.ne hZ
    have s1 : Same H (upd H Z (.lst [.int 0])) := (Same.refl H).upd hZ
    have gZ1 : upd H Z (.lst [.int 0]) Z = some (.lst (vN' [0])) := upd_same
    have hp1 := hp.upd (o := .lst [.int 0]) npZ
    generalize upd H Z (.lst [.int 0]) = H1 at s1 gZ1 hp1 ⊢
    refine ⟨_, rfl, _, rfl, _, _, rfl, rfl, 1, _, rfl, rfl, ⟨by omega, by omega, by omega, by omega, by omega⟩, fun L hL => ?_⟩
    have erg : rgV 1 ((n : Int) + 1) = vN' ((List.range n).map (· + 1)) := by
      show (List.range _).map _ = ((List.range n).map (· + 1)).map _
      rw [show (((n : Nat) : Int) + 1 - 1).toNat = n by omega, List.map_map]
      refine List.map_congr_left fun i _ => ?_
      show V.int (1 + (i : Int)) = V.int (((i + 1 : Nat)) : Int)
      congr 1
      omega
    rw [show rgV 1 ((fun i j => i + j) ((n : Nat) : Int) 1) = vN' ((List.range n).map (· + 1)) from erg]
    have npL : p ≠ L := hp1.ne hL
    have s2 : Same H1 (upd H1 L (.lst (vN' ((List.range n).map (· + 1))))) := (Same.refl H1).upd hL
    have gL2 : upd H1 L (.lst (vN' ((List.range n).map (· + 1)))) L = some (.lst (vN' ((List.range n).map (· + 1)))) := upd_same
    have hp2 := hp1.upd (o := .lst (vN' ((List.range n).map (· + 1)))) npL
    generalize upd H1 L (.lst (vN' ((List.range n).map (· + 1)))) = H2 at s2 gL2 hp2 ⊢
    refine ⟨p, L, _, rfl, hp2, SqL.of gL2, Ne.symm npL, (by rw [ints_len, List.length_map, List.length_range]; omega), fun D ys H3 pm hD gD hp3 b3 => ?_⟩
    obtain ⟨ps, rfl, pps⟩ := perm_ints pm
    have lps : ps.length = n := by
      have := pps.length_eq
      rwa [List.length_map, List.length_range] at this
    have bH3 : But p H H3 := ((s1.trans s2).but).trans b3
    have gZ3 := b3 _ _ (s2 _ _ gZ1) (Ne.symm npZ)
    refine ⟨Z, D, _, _, rfl, rfl, gZ3, gD, (by rw [ints_len, ints_len, lps, sz]; show 1 + n ≤ _; omega), fun S hS => ?_⟩
    rw [ints_app]
    have npS : p ≠ S := hp3.ne hS
    have spm : ∀ x, x ∈ [0] ++ ps ↔ x < n + 1 := fun x => by
      rw [List.mem_append, pps.mem_iff, List.mem_map, List.mem_singleton]
      constructor
      · rintro (rfl | ⟨y, hy, rfl⟩)
        · omega
        · have := List.mem_range.mp hy
          omega
      · intro h
        by_cases e : x = 0
        · exact .inl e
        · exact .inr ⟨x - 1, List.mem_range.mpr (by omega), by omega⟩
    have spn : ([0] ++ ps).Nodup := by
      refine List.nodup_append.mpr ⟨by simp, pps.symm.nodup (List.pairwise_map.mpr (List.nodup_range.imp fun {a b} h e => h (by omega))), fun a ha b hb e => ?_⟩
      rw [List.mem_singleton.mp ha] at e
      obtain ⟨y, _, q⟩ := List.mem_map.mp (pps.mem_iff.mp hb)
      omega
    have spl : ([0] ++ ps).length = n + 1 := by rw [List.length_append, lps]; show 1 + n = _; omega
    have sp0 : ([0] ++ ps)[0]? = some 0 := rfl
    have s4 : Same H3 (upd H3 S (.lst (vN' ([0] ++ ps)))) := (Same.refl H3).upd hS
    have gS4 : upd H3 S (.lst (vN' ([0] ++ ps))) S = some (.lst (vN' ([0] ++ ps))) := upd_same
    have hp4 := hp3.upd (o := .lst (vN' ([0] ++ ps))) npS
    generalize upd H3 S (.lst (vN' ([0] ++ ps))) = H4 at s4 gS4 hp4 ⊢
    generalize ([0] ++ ps) = spt at spm spn spl sp0 gS4
    have bH4 : But p H H4 := bH3.same s4
    refine ⟨fun σ' H' => ∃ (Dd : Addr), σ' = [some (.ref p), some (.ref g), some (.ref st), some (.int (n : Nat)), some (.ref S), some (.ref Dd), none, none, none, none, none, none, none, none] ∧ Same H4 H' ∧ H4 Dd = none ∧ H' Dd = some (.dK (mergeK [] (plcs spt 0))), ?_, ?_⟩
    · refine ⟨_, rfl, S, _, rfl, SqL.of gS4, fun C hC => ?_⟩
      refine lc_it (walk_enum (xs := vN' spt)) (fun q Hq => Same H4 Hq ∧ ∃ ts : List Addr, Hq C = some (.lst (ts.map V.ref)) ∧ ts.length = q ∧ Paired (fun t kv => Hq t = some (.tup [kV kv.1, kv.2])) ts (plcs (spt.take q) 0)) ?_ ?_ ?_ ?_
      · exact ⟨(Same.refl H4).upd hC, [], upd_same, rfl, .nil⟩
      · rintro q Hq _ ⟨sq, _⟩
        exact SqL.of (sq _ _ gS4)
      · rintro q x Hq0 Hq hq ⟨sq, ts, cq, lq, pq⟩ ⟨T', pp, y, rfl, hT, rfl, e1, e2⟩
        obtain rfl : V.int (q : Nat) = pp := Option.some.inj e1
        obtain ⟨s', es, rfl⟩ := ints_get e2
        have hq' : q < spt.length := by rw [← ints_len spt]; exact hq
        have nCT : C ≠ T' := ne_of_none cq hT
        have s5 : Same Hq0 (upd Hq0 T' (.tup [.int (q : Nat), .int (s' : Nat)])) := (Same.refl Hq0).upd hT
        refine ⟨T', _, rfl, SqT.of upd_same, rfl, _, _, rfl, _, _, rfl, rfl, rfl, ?_⟩
        generalize upd Hq0 T' (.tup [.int (q : Nat), .int (s' : Nat)]) = H5 at s5 ⊢
        refine ⟨_, rfl, _, rfl, (by show 2 ≤ sizeLine; decide), fun T2 hT2 => ?_⟩
        have s6 : Same H5 (upd H5 T2 (.tup [.int (s' : Nat), .int (q : Nat)])) := (Same.refl H5).upd hT2
        have g6 : upd H5 T2 (.tup [.int (s' : Nat), .int (q : Nat)]) T2 = some (.tup [.int (s' : Nat), .int (q : Nat)]) := upd_same
        generalize upd H5 T2 (.tup [.int (s' : Nat), .int (q : Nat)]) = H6 at s6 g6 ⊢
        have s06 := s5.trans s6
        have cq6 := s06 _ _ cq
        refine ⟨_, cq6, (by rw [List.length_map, lq, sz]; omega), (sq.trans s06).upd hC, ts ++ [T2], by rw [upd_same, List.map_append]; rfl, (by rw [List.length_append, lq]; rfl), ?_⟩
        rw [take_snoc es, plcs_snoc]
        have lt : (0 + (spt.take q).length) = q := by rw [List.length_take]; omega
        rw [lt]
        exact paired_snoc (L2.Paired.mapP pq fun t kv e => tups_lst cq6 _ _ (s06 _ _ e)) (tups_lst cq6 _ _ g6)
      · rintro Hq ⟨sq, ts, cq, lq, pq⟩
        rw [ints_len, List.take_length] at pq
        refine ⟨C, ts, _, rfl, SqL.of cq, L2.Paired.mapP pq fun t kv e => SqT.of e, fun Dd hDd => ?_⟩
        exact ⟨Dd, rfl, sq.upd (sq.none hDd), sq.none hDd, upd_same⟩
    rintro σ' H5 ⟨Dd, rfl, s5, nDd, gDd⟩
    have plc : PlcK (mergeK [] (plcs spt 0)) spt := plcs_plc spt [] [] PlcK.nil spn
    generalize mergeK [] (plcs spt 0) = kvs at gDd plc
    have hp5 : PotAt H5 p := by
      obtain ⟨a, b, e, q⟩ := hp4
      exact ⟨a, b, s5 _ _ e, q⟩
    have bH5 : But p H H5 := bH4.same s5
    have gS5 := s5 _ _ gS4
    have npDd : Dd ≠ p := fun e => by
      obtain ⟨a, b, e', _⟩ := hp4
      rw [e, e'] at nDd
      cases nDd
    refine ⟨_, rfl, _, rfl, p, n, rfl, hp5, by omega, by omega, fun d H6 d0 d1 hp6 b6 => ?_⟩
    obtain ⟨dn, rfl⟩ : ∃ dn : Nat, d = ((dn : Nat) : Int) := ⟨d.toNat, by omega⟩
    have ldn : dn < n := by omega
    have bH6 : But p H H6 := bH5.trans b6
    have gS6 := b6 _ _ gS5 (Ne.symm npS)
    have gDd6 := b6 _ _ gDd npDd
    refine ⟨by decide, fun Fd hFd => ?_⟩
    have s7 : Same H6 (upd H6 Fd (.lst [])) := (Same.refl H6).upd hFd
    have gF7 : upd H6 Fd (.lst []) Fd = some (.lst []) := upd_same
    have hp7 := hp6.upd (o := .lst []) (hp6.ne hFd)
    have npF : p ≠ Fd := hp6.ne hFd
    generalize upd H6 Fd (.lst []) = H7 at s7 gF7 hp7 ⊢
    refine ⟨by decide, fun Kd hKd => ?_⟩
    have nFK : Fd ≠ Kd := ne_of_none gF7 hKd
    have npK : p ≠ Kd := hp7.ne hKd
    have s8 : Same H7 (upd H7 Kd (.lst [])) := (Same.refl H7).upd hKd
    have gK8 : upd H7 Kd (.lst []) Kd = some (.lst []) := upd_same
    have gF8 := s8 _ _ gF7
    have hp8 := hp7.upd (o := .lst []) npK
    generalize upd H7 Kd (.lst []) = H8 at s8 gK8 gF8 hp8 ⊢
    refine ⟨_, _, rfl, ?_⟩
    have b68 : But p H6 H8 := (s7.trans s8).but
    have hK6 : H6 Kd = none := s7.none hKd
    have btn : ∀ {a : Addr}, H6 a = none → a ≠ p → H a = none := fun {a} e n => by
      cases q : H a with
      | none => rfl
      | some o =>
        rw [bH6 a o q n] at e
        cases e
    have hF0 : H Fd = none := btn hFd (Ne.symm npF)
    have hK0 : H Kd = none := btn hK6 (Ne.symm npK)
    let src : Nat → Nat := fun i => if spt.getD i 0 = n then dn else spt.getD i 0
    have srcE : ∀ {i x : Nat}, spt[i]? = some x → src i = if x = n then dn else x := fun {i x} e => by
      show (if spt.getD i 0 = n then dn else spt.getD i 0) = _
      rw [List.getD_eq_getElem?_getD, e]
      rfl
    have srcL : ∀ i, i < n + 1 → src i < n := fun i hi => by
      obtain ⟨x, e⟩ : ∃ x, spt[i]? = some x := ⟨_, List.getElem?_eq_getElem (by omega)⟩
      rw [srcE e]
      have := (spm x).mp (List.mem_of_getElem? e)
      split <;> omega
    have plcE : ∀ {t : Nat}, t < n + 1 → valV kvs (Sum.inl (t : Int) : Key) = some (.int (placeM beqN spt t : Nat)) ∧ placeM beqN spt t < n + 1 ∧ spt[placeM beqN spt t]? = some t := fun {t} ht => by
      have an : spt.any (fun x => beqN x t) = true := List.any_eq_true.mpr ⟨t, (spm t).mpr ht, by simp [beqN]⟩
      obtain ⟨x, ex, q⟩ := place_get an
      have : x = t := by simpa [beqN] using q
      subst this
      refine ⟨by rw [plc.2 x, if_pos an], ?_, ex⟩
      have := (List.getElem?_eq_some_iff.mp ex).1
      omega
    refine ⟨_, rfl, S, _, rfl, SqL.of (b68 _ _ gS6 (Ne.symm npS)), for_it (walk_enum (xs := vN' spt)) (fun q σ Hq => ∃ (o9 o10 o11 o12 o13 : Option V) (xs : List V) (R2 : Rws), σ = [some (.ref p), some (.ref g), some (.ref st), some (.int (n : Nat)), some (.ref S), some (.ref Dd), some (.int (dn : Nat)), some (.ref Fd), some (.ref Kd), o9, o10, o11, o12, o13]
      ∧ PotAt Hq p ∧ But p H6 Hq ∧ Hq Fd = some (.lst xs) ∧ R2.length = q ∧ Paired (fun x r => ∃ b : Addr, x = .ref b ∧ H b = none ∧ b ≠ Fd ∧ b ≠ Kd ∧ b ≠ p ∧ Hq b = some (.lst (vN' r))) xs R2 ∧ (∀ i r, R2[i]? = some r → r.length = m ∧ ∀ a, a < m → ∃ t, r[a]? = some t ∧ t < n + 1 ∧ src t = nxt R (src i) a) ∧ Hq Kd = some (.lst (vN' ((List.range q).filter fun i => decide (src i ∈ E))))) ?_ ?_ ?_ ?_⟩
    · exact ⟨none, none, none, none, none, [], [], rfl, hp8, b68, gF8, rfl, .nil, (fun i r h => nomatch h), gK8⟩
    · rintro q σ Hq _ ⟨_, _, _, _, _, _, _, _, _, bq, _⟩
      exact SqL.of (bq _ _ gS6 (Ne.symm npS))
    · rintro q x σ Hq0 Hq hq ⟨o9, o10, o11, o12, o13, xs, R2, rfl, hpq, bq, gF, lR, pR, oR, gK⟩ ⟨T', pp, y, rfl, hT, rfl, e1, e2⟩
      obtain rfl : V.int (q : Nat) = pp := Option.some.inj e1
      obtain ⟨sq, es, rfl⟩ := ints_get e2
      have hq' : q < spt.length := by rw [← ints_len spt]; exact hq
      have hsq := srcE es
      have lsq := srcL q (by omega)
      have npT : p ≠ T' := hpq.ne hT
      have sT : Same Hq0 (upd Hq0 T' (.tup [.int (q : Nat), .int (sq : Nat)])) := (Same.refl Hq0).upd hT
      have hpT := hpq.upd (o := .tup [.int (q : Nat), .int (sq : Nat)]) npT
      refine ⟨T', _, rfl, SqT.of upd_same, rfl, _, _, rfl, _, _, rfl, rfl, ?_⟩
      generalize upd Hq0 T' (.tup [.int (q : Nat), .int (sq : Nat)]) = Ht at sT hpT ⊢
      refine ⟨fun σ' H' => σ' = [some (.ref p), some (.ref g), some (.ref st), some (.int (n : Nat)), some (.ref S), some (.ref Dd), some (.int (dn : Nat)), some (.ref Fd), some (.ref Kd), some (.int (q : Nat)), some (.int (sq : Nat)), some (.int (src q : Nat)), o12, o13] ∧ H' = Ht, ?_, ?_⟩
      · refine ⟨_, rfl, _, rfl, rfl, _, rfl, ?_⟩
        refine ite2 (fun h => ?_) (fun h => ?_)
        · have e : sq = n := by have := V.int.inj (of_decide_eq_true h); omega
          rw [e, if_pos rfl] at hsq
          refine ⟨_, rfl, ?_, rfl⟩
          rw [hsq]
          rfl
        · have e : ¬ sq = n := fun e => h (decide_eq_true (by rw [e]))
          rw [if_neg e] at hsq
          refine ⟨_, rfl, ?_, rfl⟩
          rw [hsq]
          rfl
      rintro _ Ht ⟨rfl, rfl⟩
      obtain ⟨er, lr, gr⟩ := fm.rowOf lsq
      obtain ⟨xr, exr, ar, rfl, nar, gar⟩ := paired_getR hgr er
      have nap : ar ≠ p := fun e => nar (List.mem_singleton.mpr e)
      have bT : But p H6 Ht := bq.same sT
      have bHT : But p H Ht := bH6.trans bT
      refine ⟨by decide, fun B hB => ?_⟩
      have npB : p ≠ B := hpT.ne hB
      have hB6 : H6 B = none := by
        cases e : H6 B with
        | none => rfl
        | some o =>
          rw [bT B o e (Ne.symm npB)] at hB
          cases hB
      have hB0 : H B = none := btn hB6 (Ne.symm npB)
      have gF' := sT _ _ gF
      have gK' := sT _ _ gK
      have nFB : Fd ≠ B := ne_of_none gF' hB
      have nKB : Kd ≠ B := ne_of_none gK' hB
      refine ⟨_, rfl, _, rfl, g, _, _, _, rfl, rfl, SqL.of (((Same.refl Ht).upd hB) _ _ (bHT _ _ hg1 npg)), atI_nat exr, ar, rfl, ⟨_, SqL.of (((Same.refl Ht).upd hB) _ _ (bHT _ _ gar nap))⟩, for_it (walk_list (xs := vN' (rowOf R (src q)))) (fun j σ Hj => ∃ (o13 : Option V) (r : List Nat), σ = [some (.ref p), some (.ref g), some (.ref st), some (.int (n : Nat)), some (.ref S), some (.ref Dd), some (.int (dn : Nat)), some (.ref Fd), some (.ref Kd), some (.int (q : Nat)), some (.int (sq : Nat)), some (.int (src q : Nat)), some (.ref B), o13]
        ∧ PotAt Hj p ∧ But p Ht Hj ∧ Hj B = some (.lst (vN' r)) ∧ r.length = j ∧ ∀ a, a < j → ∃ t, r[a]? = some t ∧ t < n + 1 ∧ src t = nxt R (src q) a) ?_ ?_ ?_ ?_⟩
      · exact ⟨o13, [], rfl, hpT.upd npB, (But.refl p Ht).upd hB, upd_same, rfl, fun a h => absurd h (Nat.not_lt_zero _)⟩
      · rintro j σ Hj _ ⟨_, _, _, _, bj, _⟩
        exact SqL.of (bj _ _ (bHT _ _ gar nap) nap)
      · rintro j x σ Hj0 Hj hj ⟨o13, r, rfl, hpj, bj, gB, lrj, orj⟩ ⟨rfl, hx⟩
        obtain ⟨t0, ht0, rfl⟩ := ints_get hx
        have hj' : j < m := by rw [← lr, ← ints_len]; exact hj
        have et0 : nxt R (src q) j = t0 := by
          have := gr j hj'
          rw [ht0] at this
          exact (Option.some.inj this).symm
        have lt0 : t0 < n := by rw [← et0]; exact fm.nxt_lt lsq hj'
        have gDdj := bj _ _ (bT _ _ gDd6 npDd) npDd
        have facts : ∀ (t : Nat) (Hk : Hp), (t = n ∧ t0 = dn ∨ t = t0) → But p Hj Hk → DGet Hk Dd (.int (t : Nat)) (some (.int (placeM beqN spt t : Nat))) ∧ Hk B = some (.lst (vN' r)) ∧ placeM beqN spt t < n + 1 ∧ src (placeM beqN spt t) = nxt R (src q) j := fun t Hk ht bk => by
          have lt : t < n + 1 := by omega
          obtain ⟨v1, v2, v3⟩ := plcE lt
          refine ⟨?_, bk _ _ gB (Ne.symm npB), v2, ?_⟩
          · have := DGet.k (k := Sum.inl (t : Int)) (bk _ _ gDdj npDd)
            rw [v1] at this
            exact this
          · rw [srcE v3, et0]
            rcases ht with ⟨e1, e2⟩ | e1
            · rw [if_pos e1, e2]
            · rw [if_neg (by omega), e1]
        have ends : ∀ (t : Nat) (Hk : Hp), (t = n ∧ t0 = dn ∨ t = t0) → PotAt Hk p → But p Hj Hk → ∃ (o13 : Option V) (r' : List Nat), [some (.ref p), some (.ref g), some (.ref st), some (.int (n : Nat)), some (.ref S), some (.ref Dd), some (.int (dn : Nat)), some (.ref Fd), some (.ref Kd), some (.int (q : Nat)), some (.int (sq : Nat)), some (.int (src q : Nat)), some (.ref B), some (.int (t0 : Nat))] = [some (.ref p), some (.ref g), some (.ref st), some (.int (n : Nat)), some (.ref S), some (.ref Dd), some (.int (dn : Nat)), some (.ref Fd), some (.ref Kd), some (.int (q : Nat)), some (.int (sq : Nat)), some (.int (src q : Nat)), some (.ref B), o13]
          ∧ PotAt (upd Hk B (.lst (vN' r ++ [.int (placeM beqN spt t : Nat)]))) p ∧ But p Ht (upd Hk B (.lst (vN' r ++ [.int (placeM beqN spt t : Nat)]))) ∧ (upd Hk B (.lst (vN' r ++ [.int (placeM beqN spt t : Nat)]))) B = some (.lst (vN' r')) ∧ r'.length = j + 1 ∧ ∀ a, a < j + 1 → ∃ t, r'[a]? = some t ∧ t < n + 1 ∧ src t = nxt R (src q) a := fun t Hk ht hpk bk => by
          obtain ⟨_, _, f3, f4⟩ := facts t Hk ht bk
          refine ⟨_, r ++ [placeM beqN spt t], rfl, hpk.upd npB, (bj.trans bk).upd hB, by rw [upd_same, nats_snoc], by rw [List.length_append, lrj]; rfl, fun a ha => ?_⟩
          by_cases l : a < j
          · obtain ⟨t', h1, h2, h3⟩ := orj a l
            exact ⟨t', by rw [List.getElem?_append_left (by omega)]; exact h1, h2, h3⟩
          · obtain rfl : a = j := by omega
            exact ⟨_, by rw [List.getElem?_append_right (by omega), lrj, Nat.sub_self]; rfl, f3, f4⟩
        have lenB : (vN' r).length < sizeLine := by rw [ints_len, sz]; omega
        refine ⟨_, rfl, .inl ⟨rfl, _, SqL.of gB⟩, _, rfl, _, rfl, _, rfl, rfl, _, rfl, ?_⟩
        refine ite2 (fun h => ?_) (fun h => ?_)
        · have ed : t0 = dn := by have := V.int.inj (of_decide_eq_true h); omega
          refine ⟨_, rfl, p, 2, rfl, hpj, by decide, by decide, fun d' H9 _ _ hp9 b9 => ?_⟩
          refine ⟨rfl, _, rfl, ?_⟩
          refine ite2 (fun h => ?_) (fun h => ?_)
          · have hc : (n = n ∧ t0 = dn ∨ n = t0) := .inl ⟨rfl, ed⟩
            obtain ⟨f1, f2, _, _⟩ := facts n H9 hc b9
            exact ⟨_, rfl, Dd, _, rfl, f1, B, _, _, rfl, rfl, f2, lenB, ends n H9 hc hp9 b9⟩
          · have hc : (t0 = n ∧ t0 = dn ∨ t0 = t0) := .inr rfl
            obtain ⟨f1, f2, _, _⟩ := facts t0 H9 hc b9
            exact ⟨_, rfl, Dd, _, rfl, f1, B, _, _, rfl, rfl, f2, lenB, ends t0 H9 hc hp9 b9⟩
        · have hc : (t0 = n ∧ t0 = dn ∨ t0 = t0) := .inr rfl
          obtain ⟨f1, f2, _, _⟩ := facts t0 Hj hc (But.refl p Hj)
          exact ⟨_, rfl, Dd, _, rfl, f1, B, _, _, rfl, rfl, f2, lenB, ends t0 Hj hc hpj (But.refl p Hj)⟩
      · rintro σ Hj ⟨o13, r, rfl, hpj, bj, gB, lrj, orj⟩
        rw [ints_len, lr] at lrj orj
        have gFj := bj _ _ gF' (Ne.symm npF)
        have gKj := bj _ _ gK' (Ne.symm npK)
        have lxs : xs.length = q := by rw [paired_lenM pR, lR]
        refine ⟨_, rfl, .inl ⟨rfl, _, SqL.of gFj⟩, _, rfl, Fd, _, _, rfl, rfl, gFj, (by rw [lxs, sz]; omega), ?_⟩
        have bF : But p H6 (upd Hj Fd (.lst (xs ++ [.ref B]))) := fun a o e na => by
          rw [upd_ne (fun z => by rw [z, hFd] at e; cases e)]
          exact bj a o (bT a o e na) na
        have hpF := hpj.upd (o := .lst (xs ++ [.ref B])) npF
        have gFF : upd Hj Fd (.lst (xs ++ [.ref B])) Fd = some (.lst (xs ++ [.ref B])) := upd_same
        have gKF : upd Hj Fd (.lst (xs ++ [.ref B])) Kd = some (.lst (vN' ((List.range q).filter fun i => decide (src i ∈ E)))) := by rw [upd_ne (Ne.symm nFK)]; exact gKj
        have pF : Paired (fun x r => ∃ b : Addr, x = .ref b ∧ H b = none ∧ b ≠ Fd ∧ b ≠ Kd ∧ b ≠ p ∧ (upd Hj Fd (.lst (xs ++ [.ref B]))) b = some (.lst (vN' r))) (xs ++ [.ref B]) (R2 ++ [r]) := by
          refine paired_snoc (L2.Paired.mapP pR fun x r ⟨b, e, h0, nf, nk, np, gb⟩ => ⟨b, e, h0, nf, nk, np, ?_⟩) ⟨B, rfl, hB0, Ne.symm nFB, Ne.symm nKB, Ne.symm npB, ?_⟩
          · rw [upd_ne nf]
            exact bj _ _ (sT _ _ gb) np
          · rw [upd_ne (Ne.symm nFB)]
            exact gB
        have oF : ∀ i r', (R2 ++ [r])[i]? = some r' → r'.length = m ∧ ∀ a, a < m → ∃ t, r'[a]? = some t ∧ t < n + 1 ∧ src t = nxt R (src i) a := fun i r' e => by
          by_cases l : i < R2.length
          · rw [List.getElem?_append_left l] at e
            exact oR i r' e
          · rw [List.getElem?_append_right (by omega)] at e
            have l0 := (List.getElem?_eq_some_iff.mp e).1
            rw [List.length_singleton] at l0
            obtain rfl : i = R2.length := by omega
            rw [Nat.sub_self] at e
            cases e
            rw [lR]
            exact ⟨lrj, orj⟩
        have lF : (R2 ++ [r]).length = q + 1 := by rw [List.length_append, lR]; rfl
        generalize upd Hj Fd (.lst (xs ++ [.ref B])) = H9 at bF hpF gFF gKF pF ⊢
        have er' : (List.range (q + 1)).filter (fun i => decide (src i ∈ E)) = (List.range q).filter (fun i => decide (src i ∈ E)) ++ if decide (src q ∈ E) = true then [q] else [] := by
          rw [List.range_succ, List.filter_append, List.filter_cons]
          rfl
        refine ⟨_, rfl, _, rfl, st, _, rfl, .inl (SqL.of (bF _ _ (bH6 _ _ hst nps) nps)), rfl, flat_ints E, _, rfl, ?_⟩
        show (if inV (.int (src q : Nat)) (vN' E) = true then _ else _)
        rw [in_ints]
        cases c : decide (src q ∈ E) with
        | true =>
          refine iteT ?_
          refine ⟨_, rfl, .inl ⟨rfl, _, SqL.of gKF⟩, _, rfl, Kd, _, _, rfl, rfl, gKF, (by
            have := List.length_filter_le (fun i => decide (src i ∈ E)) (List.range q)
            rw [List.length_range] at this
            rw [ints_len, sz]
            omega), ?_⟩
          refine ⟨_, _, _, _, _, xs ++ [.ref B], R2 ++ [r], rfl, hpF.upd npK, fun a o e na => ?_, ?_, lF, L2.Paired.mapP pF fun x r ⟨b, e, h0, nf, nk, np, gb⟩ => ⟨b, e, h0, nf, nk, np, ?_⟩, oF, ?_⟩
          · rw [upd_ne (fun z => by rw [z, hK6] at e; cases e)]
            exact bF a o e na
          · rw [upd_ne nFK]
            exact gFF
          · rw [upd_same, er', c, if_pos rfl, nats_snoc]
          · rw [upd_ne nk]
            exact gb
        | false =>
          refine iteF ?_
          refine ⟨_, _, _, _, _, xs ++ [.ref B], R2 ++ [r], rfl, hpF, bF, gFF, lF, pF, oF, ?_⟩
          rw [er', c, if_neg (by decide), List.append_nil]
          exact gKF
    · rintro σ Hq ⟨o9, o10, o11, o12, o13, xs, R2, rfl, hpq, bq, gF, lR, pR, oR, gK⟩
      rw [ints_len, spl] at gK lR
      have ltf : ∀ f : Nat → Bool, ((List.range (n + 1)).filter f).length ≤ n + 1 := fun f => by
        have := List.length_filter_le f (List.range (n + 1))
        rwa [List.length_range] at this
      refine ⟨_, rfl, _, rfl, _, rfl, p, Kd, _, rfl, hpq, SqL.of gK, Ne.symm npK, (by rw [ints_len]; have := ltf fun i => decide (src i ∈ E); omega), fun D2 ys2 H9 pm2 hD2 gD2 hp9 b9 => ?_⟩
      obtain ⟨E2, rfl, pE⟩ := perm_ints pm2
      refine ⟨by show 2 ≤ sizeLine; decide, fun T hT => ?_⟩
      have npT : p ≠ T := hp9.ne hT
      have hD0 : H D2 = none := by
        have e1 : H6 D2 = none := by
          cases e : H6 D2 with
          | none => rfl
          | some o =>
            rw [bq D2 o e (fun z => by obtain ⟨a, b, q, _⟩ := hpq; rw [z, q] at hD2; cases hD2)] at hD2
            cases hD2
        exact btn e1 fun z => by obtain ⟨a, b, q, _⟩ := hpq; rw [z, q] at hD2; cases hD2
      have kp : ∀ {a : Addr} {o : HO}, Hq a = some o → a ≠ p → upd H9 T (.tup [.ref Fd, .ref D2]) a = some o := fun {a o} e na => by
        have := b9 a o e na
        rw [upd_ne (ne_of_none this hT)]
        exact this
      have memE : ∀ i, i ∈ E2 ↔ i < n + 1 ∧ src i ∈ E := fun i => by
        rw [pE.mem_iff, List.mem_filter, List.mem_range, decide_eq_true_iff]
      have F2 : Frm (n + 1) m R2 := by
        refine ⟨lR, fun r hr => ?_, fun r hr t ht => ?_⟩
        · obtain ⟨i, hi, rfl⟩ := List.mem_iff_getElem.mp hr
          exact (oR i _ (List.getElem?_eq_getElem hi)).1
        · obtain ⟨i, hi, rfl⟩ := List.mem_iff_getElem.mp hr
          obtain ⟨l, o⟩ := oR i _ (List.getElem?_eq_getElem hi)
          obtain ⟨a, ha, rfl⟩ := List.mem_iff_getElem.mp ht
          obtain ⟨t, h1, h2, _⟩ := o a (by omega)
          rw [List.getElem?_eq_getElem ha] at h1
          cases h1
          exact h2
      refine k T Fd D2 R2 E2 _ upd_same (fun D hD => ⟨⟨xs, kp gF (Ne.symm npF), fun m => hD Fd m hF0, L2.Paired.mapP pR fun x r ⟨b, e, h0, nf, nk, np, gb⟩ => ⟨b, e, fun m => hD b m h0, kp gb np⟩⟩, ?_, fun m => hD D2 m hD0⟩) F2 (pE.symm.nodup (List.nodup_range.filter _)) (fun e he => ((memE e).mp he).1) (fun A B h => ?_) (hp9.upd npT) fun a o e na => ?_
      · rw [upd_ne (ne_of_none gD2 hT)]
        exact gD2
      · refine twin_least (src := src) fm F2 (Nat.succ_pos n) srcL (fun i hi a ha => ?_) (fun i hi => by rw [memE]; exact ⟨fun z => z.2, fun z => ⟨hi, z⟩⟩) ?_ h
        · obtain ⟨r, er, _, lr⟩ := F2.row hi
          obtain ⟨_, o⟩ := oR i r er
          obtain ⟨t, h1, _, h3⟩ := o a ha
          rw [nxt_of er h1]
          exact h3
        · rw [srcE sp0, if_neg (by omega)]
      · exact kp (bq a o (bH6 a o e na) na) na
end
end K11
namespace FL
open PySem PySem.Spec PyProof.Rows L2 FL
/-! ### what is shown of machines is plain -/
theorem plain_appM {a b : Str} (h1 : Plain a) (h2 : Plain b) : Plain (a ++ b) := fun c hc => by
  rw [Str.cps_append, Array.toList_append] at hc
  exact (List.mem_append.mp hc).elim (h1 c) (h2 c)
theorem plain_textFrom : ∀ (ts : List Str) (k : Nat) (acc : Str), Plain acc → (∀ t ∈ ts, Plain t) → Plain (textFrom k acc ts)
  | [], _, _, h, _ => h
  | t :: ts, k, acc, h, g => by
    show Plain (textFrom (k + 1) (acc ++ Str.ofString (if k > 0 then ", " else "") ++ t) ts)
    refine plain_textFrom ts _ _ (plain_appM (plain_appM h ?_) (g t List.mem_cons_self)) fun t' h' => g t' (List.mem_cons_of_mem _ h')
    have e : (∀ c ∈ (Str.ofString ", ").cps.toList, c < 128) ∧ (∀ c ∈ (Str.ofString "").cps.toList, c < 128) := by decide +kernel
    split
    · exact e.1
    · exact e.2
theorem plain_joinM : ∀ (ts : List Str), (∀ t ∈ ts, Plain t) → Plain (Str.join ", " ts)
  | [], _ => fun c hc => by
    have e : ∀ c ∈ (Str.empty).cps.toList, c < 128 := by decide +kernel
    exact e c hc
  | [t], g => g t List.mem_cons_self
  | t :: u :: ts, g => by
    show Plain (t ++ (Str.ofString ", ") ++ Str.join ", " (u :: ts))
    have e : (∀ c ∈ (Str.ofString ", ").cps.toList, c < 128) := by decide +kernel
    exact plain_appM (plain_appM (g t List.mem_cons_self) e) (plain_joinM (u :: ts) fun t' h' => g t' (List.mem_cons_of_mem _ h'))
theorem plain_list {ds : List PyData} (h : ∀ t ∈ PyData.shownAll ds, Plain t) : Plain (PyData.shown (.list ds)) := by
  show Plain (textFrom 0 (Str.ofString "[") (PyData.shownAll ds) ++ Str.ofString "]")
  have e : (∀ c ∈ (Str.ofString "[").cps.toList, c < 128) ∧ (∀ c ∈ (Str.ofString "]").cps.toList, c < 128) := by decide +kernel
  exact plain_appM (plain_textFrom _ _ _ e.1 h) e.2
theorem plain_tuple {ds : List PyData} (h : ∀ t ∈ PyData.shownAll ds, Plain t) : Plain (PyData.shown (.tuple ds)) := by
  show Plain (Str.ofString "(" ++ Str.join ", " (PyData.shownAll ds) ++ Str.ofString (if ((PyData.shownAll ds).length == 1) = true then ",)" else ")"))
  have e : (∀ c ∈ (Str.ofString "(").cps.toList, c < 128) ∧ (∀ c ∈ (Str.ofString ",)").cps.toList, c < 128) ∧ (∀ c ∈ (Str.ofString ")").cps.toList, c < 128) := by decide +kernel
  refine plain_appM (plain_appM e.1 (plain_joinM _ h)) ?_
  split
  · exact e.2.1
  · exact e.2.2
theorem shownAll_mem : ∀ {ds : List PyData} {t : Str}, t ∈ PyData.shownAll ds → ∃ d ∈ ds, t = d.shown
  | d :: ds, t, h => by
    rcases List.mem_cons.mp (show t ∈ d.shown :: PyData.shownAll ds from h) with rfl | h
    · exact ⟨d, List.mem_cons_self, rfl⟩
    · obtain ⟨e, h1, h2⟩ := shownAll_mem h
      exact ⟨e, List.mem_cons_of_mem _ h1, h2⟩
theorem plain_small : ∀ n, n < 400 → Plain (PyData.shown (iD n)) := by
  have h : ∀ n, n < 400 → ((PyData.shown (iD n)).cps.toList.all fun c => decide (c < 128)) = true := by decide +kernel
  exact fun n hn c hc => of_decide_eq_true (List.all_eq_true.mp (h n hn) c hc)
theorem plain_ints {ns : List Nat} (h : ∀ t ∈ ns, t < 400) : ∀ t ∈ PyData.shownAll (ns.map iD), Plain t := fun t ht => by
  obtain ⟨d, hd, rfl⟩ := shownAll_mem ht
  obtain ⟨n, hn, rfl⟩ := List.mem_map.mp hd
  exact plain_small n (h n hn)
theorem plain_ends {E : List Nat} (h : ∀ t ∈ E, t < 400) : Plain (PyData.shown (endsD E)) := plain_list (plain_ints h)
theorem plain_rows {R : Rws} (h : ∀ r ∈ R, ∀ t ∈ r, t < 400) : Plain (PyData.shown (rowsD R)) := plain_list fun t ht => by
  obtain ⟨d, hd, rfl⟩ := shownAll_mem ht
  obtain ⟨r, hr, rfl⟩ := List.mem_map.mp hd
  exact plain_tuple (plain_ints (h r hr))
theorem repr_fold (q : Nat) (hq : q = 34 ∨ q = 39) : ∀ (l : List Nat) (acc : Array Nat), (∀ c ∈ acc.toList, c < 128) → (∀ c ∈ l, c < 128) → ∀ c ∈ (l.foldl (fun out c => out ++ (Builtin.Str.reprChar q c).toArray) acc).toList, c < 128
  | [], _, h, _ => h
  | x :: l, acc, h, g => by
    refine repr_fold q hq l _ (fun c hc => ?_) fun c hc => g c (List.mem_cons_of_mem _ hc)
    rw [Array.toList_append] at hc
    rcases List.mem_append.mp hc with hc | hc
    · exact h c hc
    · have a : ∀ x, x < 128 → ((Builtin.Str.reprChar 34 x).all fun c => decide (c < 128)) = true ∧ ((Builtin.Str.reprChar 39 x).all fun c => decide (c < 128)) = true := by decide +kernel
      have hx := g x List.mem_cons_self
      have hc' : c ∈ Builtin.Str.reprChar q x := by simpa using hc
      rcases hq with rfl | rfl
      · exact of_decide_eq_true (List.all_eq_true.mp (a x hx).1 c hc')
      · exact of_decide_eq_true (List.all_eq_true.mp (a x hx).2 c hc')
theorem plain_repr {z : Str} (h : Plain z) : Plain (reprText z) := fun c hc => by
  have hq : reprQuote z = 34 ∨ reprQuote z = 39 := by
    unfold reprQuote
    split
    · exact .inl rfl
    · exact .inr rfl
  have q8 : reprQuote z < 128 := by omega
  unfold reprText at hc
  rw [Array.toList_push] at hc
  rcases List.mem_append.mp hc with hc | hc
  · rw [← Array.foldl_toList] at hc
    exact repr_fold _ hq z.cps.toList _ (fun c hc => by
      have : c = reprQuote z := by simpa using hc
      omega) h c hc
  · rw [List.mem_singleton.mp hc]
    exact q8
theorem plain_reprM {m : Nat} {z : Str} {R : Rws} {E : List Nat} (az : Abc z) (lf : LfOk m R E) : Plain (reprM z R E) := by
  have e : (∀ c ∈ (Str.empty).cps.toList, c < 128) ∧ (∀ c ∈ (Str.ofString "Machine(").cps.toList, c < 128) ∧ (∀ c ∈ (Str.ofString ", ").cps.toList, c < 128) ∧ (∀ c ∈ (Str.ofString ")").cps.toList, c < 128) := by decide +kernel
  obtain ⟨e0, e1, e2, e3⟩ := e
  have few := lf.few
  refine plain_appM (plain_appM (plain_appM (plain_appM (plain_appM (plain_appM (plain_appM e0 e1) (plain_repr (az.plain fun c hc => hc))) e2) (plain_rows fun r hr t ht => ?_)) e2) (plain_ends fun t ht => ?_)) e3
  · have := lf.frm.lt r hr t ht
    omega
  · have := lf.lt t ht
    omega
theorem len_reprM {m : Nat} {z : Str} {R : Rws} {E : List Nat} (az : Abc z) (lf : LfOk m R E) : (reprM z R E).length ≤ 41000 := by
  have l1 : (reprText z).length ≤ 42 := repr_abc az
  have l2 : (rowsD R).shown.length ≤ 20000 := lf.smR.len
  have l3 : (endsD E).shown.length ≤ 20000 := lf.smE.len
  have e1 : (Str.ofString "Machine(").length = 8 := by decide +kernel
  have e2 : (Str.ofString ", ").length = 2 := by decide +kernel
  have e3 : (Str.ofString ")").length = 1 := by decide +kernel
  have e0 : Str.empty.length = 0 := by decide +kernel
  unfold reprM
  rw [len_app, len_app, len_app, len_app, len_app, len_app, len_app]
  omega
/-- all that is told of a machine -/
def allD (z : Str) (R : Rws) (E : List Nat) : PyData := .list [rowsD R, endsD E, iD R.length, .str z, .str (reprM z R E)]
theorem sm_all {m : Nat} {z : Str} {R : Rws} {E : List Nat} (az : Abc z) (lf : LfOk m R E) : Sm 500000 (allD z R E) := by
  have pz := az.plain (y := z) fun c hc => hc
  have lz := az.hi
  have few := lf.few
  have dR : (rowsD R).depth ≤ 11 := by
    show PyData.depthAll (R.map rowD) + 1 ≤ 11
    have : PyData.depthAll (R.map rowD) ≤ 1 := depth_allM fun r _ => by
      show PyData.depthAll (r.map iD) + 1 ≤ 1
      have : PyData.depthAll (r.map iD) ≤ 0 := depth_allM fun x _ => Nat.le_refl _
      omega
    omega
  have dE : (endsD E).depth ≤ 11 := by
    show PyData.depthAll (E.map iD) + 1 ≤ 11
    have : PyData.depthAll (E.map iD) ≤ 0 := depth_allM fun x _ => Nat.le_refl _
    omega
  have lr := len_reprM az lf
  refine (Sm.list (k := 11) (SmL.cons lf.smR dR (SmL.cons lf.smE dE (SmL.cons (sm_small R.length (by omega)) (Nat.zero_le _) (SmL.cons (Sm.str pz) (Nat.zero_le _) (SmL.cons (Sm.str (plain_reprM az lf)) (Nat.zero_le _) SmL.nil))))) (by decide)).mono ?_
  omega
end FL
namespace K11
open PySem PySem.Spec PyProof.Rows L2 FL
/-- the class Machine, all that its users need -/
structure MachF (P : Program) (w : World) (K : PySem.W.Frag) (mg : Str → Option Value) (base : Heap) where
  C : Addr
  T : MTxt K mg C
  I : IsT K C
  fi : Addr
  di : FuncData
  mkc : Mk K C fi
  oi : FnOk P w K mg base CX0 5 fi di ["self", "signs", "rows", "ends"] (spMInit C)
  bi : Binds K di ["self", "signs", "rows", "ends"] []
  ki : KBn K di ["self", "signs", "rows", "ends"] 1 ["ends", "rows", "signs"] (fun us ws => us ++ ws.reverse) (fun vs zs => vs ++ zs.reverse)
  ps : ∃ f g d, PropOf K C "signs" f g ∧ FnOk P w K mg base CX0 1 g d ["self"] (spMGet C) ∧ Binds K d ["self"] []
  pt : ∃ f g d, PropOf K C "states" f g ∧ FnOk P w K mg base CX0 1 g d ["self"] (spMStates C) ∧ Binds K d ["self"] []
  mr : ∃ f d, Meth K C "rows" f ∧ FnOk P w K mg base CX0 1 f d ["self"] (spMRows C) ∧ Binds K d ["self"] []
  me : ∃ f d, Meth K C "ends" f ∧ FnOk P w K mg base CX0 1 f d ["self"] (spMEnds C) ∧ Binds K d ["self"] []
  fe : Addr
  de : FuncData
  te : EqT K C fe de
  oe : FnOk P w K mg base CX0 1 fe de ["self", "other"] (spMEq C)
  fz : Addr
  dz : FuncData
  zs : PySem.W.findIn K (.ref C) "__repr__" = some (some (.ref fz))
  zf : PySem.W.isFn K (.ref fz) = true
  oz : FnG P w K mg base CX0 1 fz dz ["self"] (spMRepr C)
  bz : Binds K dz ["self"] []
theorem make_mach {C : Addr} {H : Hp} {Q : VK} {z : Str} {v e : V} {R : Rws} {E : List Nat} {n m : Nat} (az : Abc z) (lz : z.length = m) (hR : RowsZ H v R) (fm : Frm n m R) (pn : 0 < n) (ln : n ≤ 300) (hE : IntsZ H e E) (nE : E.Nodup) (lE : ∀ x ∈ E, x < n)
    (k : ∀ (x : Addr) (H' : Hp) (R' : Rws) (E' : List Nat), (∀ D : List Addr, (∀ a ∈ D, H a ≠ none) → MachX D C H' x z R' E') → LeastF R E m R' E' → H x = none → Same H H' → Q (.ref x) H') :
    ∀ x dx, H x = none → H dx = none → dx ≠ x → spMInit C [.ref x, .str z, v, e] (upd (upd H dx (.own x)) x (.ins C dx [])) (fun v H3 => v = .non ∧ Q (.ref x) H3) E0 := by
  intro x dx hx hd hne
  have s2 : Same H (upd (upd H dx (.own x)) x (.ins C dx [])) := ((Same.refl H).upd hd).upd hx
  refine ⟨x, dx, z, v, e, R, E, n, m, rfl, upd_same, az, lz, hR.same s2, fm, pn, ln, hE.same s2, nE, lE, fun H' R' E' mx lf b => ⟨rfl, ?_⟩⟩
  refine k x H' R' E' (fun D hD => mx D fun a ha => .inr ?_) lf hx fun c o e => b c o (s2 c o e) (ne_of_none e hx)
  cases q : H a with
  | none => exact absurd q (hD a ha)
  | some o =>
    rw [s2 a o q]
    exact fun z => nomatch z
theorem make_machW {C : Addr} {H : Hp} {W : Hp → Prop} {z : Str} {v e : V} {R : Rws} {E : List Nat} {n m : Nat} {x dx : Addr} (hx : H x = none) (hd : H dx = none) (hne : dx ≠ x) (az : Abc z) (lz : z.length = m) (hR : RowsZ H v R) (fm : Frm n m R) (pn : 0 < n) (ln : n ≤ 300) (hE : IntsZ H e E) (nE : E.Nodup) (lE : ∀ x ∈ E, x < n)
    (k : ∀ (H' : Hp) (R' : Rws) (E' : List Nat), (∀ D : List Addr, (∀ a ∈ D, H a ≠ none) → MachX D C H' x z R' E') → LeastF R E m R' E' → Same H H' → W H') :
    spMInit C [.ref x, .str z, v, e] (upd (upd H dx (.own x)) x (.ins C dx [])) (fun v H3 => v = .non ∧ W H3) E0 := by
  have s2 : Same H (upd (upd H dx (.own x)) x (.ins C dx [])) := ((Same.refl H).upd hd).upd hx
  refine ⟨x, dx, z, v, e, R, E, n, m, rfl, upd_same, az, lz, hR.same s2, fm, pn, ln, hE.same s2, nE, lE, fun H' R' E' mx lf b => ⟨rfl, ?_⟩⟩
  refine k H' R' E' (fun D hD => mx D fun a ha => .inr ?_) lf fun c o e => b c o (s2 c o e) (ne_of_none e hx)
  cases q : H a with
  | none => exact absurd q (hD a ha)
  | some o =>
    rw [s2 a o q]
    exact fun z => nomatch z
theorem _root_.FL.MachX.nn {D : List Addr} {C : Addr} {H : Hp} {p : Addr} {z : Str} {R : Rws} {E : List Nat} (h : MachX D C H p z R E) : ∃ dx fs, H p = some (.ins C dx fs) ∧ (∀ {m : Str}, ¬ m = Str.ofString "_ends" → ¬ m = Str.ofString "_rows" → ¬ m = Str.ofString "_signs" → fs.lookup m = none) := by
  obtain ⟨dx, ra, ea, xs, h1, _⟩ := h
  refine ⟨dx, _, h1, fun {m} a b c => ?_⟩
  unfold mfl
  rw [lookup_putF, if_neg a, lookup_putF, if_neg b, lookup_putF, if_neg c]
  rfl
theorem mrows_no : ¬ (Str.ofString "rows") = Str.ofString "_ends" ∧ ¬ (Str.ofString "rows") = Str.ofString "_rows" ∧ ¬ (Str.ofString "rows") = Str.ofString "_signs" := by decide +kernel
theorem mends_no : ¬ (Str.ofString "ends") = Str.ofString "_ends" ∧ ¬ (Str.ofString "ends") = Str.ofString "_rows" ∧ ¬ (Str.ofString "ends") = Str.ofString "_signs" := by decide +kernel
def rTupOf (K : PySem.W.Frag) : List V → Hp → VK → Prop := fun xs H Q => ∃ p ys, xs = [.ref p] ∧ ((SqL K H p ys ∧ ∀ l, H l = none → Q (.ref l) (upd H l (.tup ys))) ∨ (SqT K H p ys ∧ Q (.ref p) H))
theorem call_tuple_ofK {X : Cx} {K : PySem.W.Frag} (hK : X.K = K) : CallR X (.type "tuple") (rTupOf K) := by
  subst hK
  exact call_tuple_of
abbrev sMade : Stmt := topS 49
abbrev sIs : Stmt := topS 50
abbrev nMade : List Str := ["_law_pot_here", "_law_alpha_here", "_law_grid", "_law_stops", "_law_given", "_law_row"]
abbrev nIs : List Str := ["_law_made_here", "_law_alpha_here", "_law_told", "_law_grid", "_law_stops", "_law_spelt", "_law_found"]
theorem scMade : FnScope nMade ["_law_pot_here", "_law_alpha_here", "_law_grid", "_law_stops"] (defScope sMade) := ⟨rfl, rfl, rfl, by decide +kernel, rfl, by decide +kernel, by decide +kernel⟩
theorem scIs : FnScope nIs ["_law_made_here", "_law_alpha_here", "_law_told"] (defScope sIs) := ⟨rfl, rfl, rfl, by decide +kernel, rfl, by decide +kernel, by decide +kernel⟩
def spMade (C : Addr) : Sp := fun vs H Q _ => ∃ (p g s : Addr) (z : Str) (R : Rws) (E : List Nat) (n m : Nat), vs = [.ref p, .str z, .ref g, .ref s] ∧ PotAt H p ∧ Abc z ∧ z.length = m ∧ GridX [p] H g R ∧ IntsX [p] H s E ∧ Frm n m R ∧ 0 < n ∧ n ≤ 300 ∧ E.Nodup ∧ (∀ x ∈ E, x < n) ∧
  ∀ (x : Addr) (R' : Rws) (E' : List Nat) (H' : Hp), (∀ D : List Addr, (∀ a ∈ D, H a ≠ none) → MachX D C H' x z R' E') → LeastF R E m R' E' → PotAt H' p → But p H H' → Q (.ref x) H'
def spIs (C : Addr) : Sp := fun vs H Q _ => ∃ (x t : Addr) (z : Str) (R : Rws) (E : List Nat) (m : Nat), vs = [.ref x, .str z, .ref t] ∧ Abc z ∧ MachX [] C H x z R E ∧ ToldX [] H t R E ∧ LfOk m R E ∧ ∀ H', Same H H' → Q (.bl true) H'
section
variable {P : Program} {w : World} {K : PySem.W.Frag} {mg : Str → Option Value} {base : Heap}
theorem ok_made {f : Addr} {fd : FuncData} (F : Fun K "_law_made" "_law_made" sMade f fd) (R : MachF P w K mg base) (cD : Ca P w K mg base "_law_draw" 1 ["_law_pot_here", "_law_span"] spDraw) (mT : mg "tuple" = none) :
    FnOk P w K mg base CX0 7 f fd ["_law_pot_here", "_law_alpha_here", "_law_grid", "_law_stops"] (spMade R.C) := by
  refine F.ok scMade (fun vs H Q E h => ?_) (fun cdv A outer s H vs Q Ex hr h => ?_)
  · obtain ⟨_, _, _, _, _, _, _, _, rfl, _⟩ := h
    rfl
  · obtain ⟨p, g, st, z, Rw, E, n, m, rfl, hp, az, lz, hg, hs, fm, pn, ln, nE, lE, k⟩ := h
    have nd := scMade.nd
    have sz : sizeLine = 16777216 := rfl
    have hr1 : Room 1 (A.deeper (envOfC "_law_made" (defScope sMade) s.heap.objs.size f cdv)) := hr.mono (by decide)
    refine ⟨_, C8.pss_cut (ps_setLc (i := 4) (own := [("_law_row", 5)]) (g := gName 5) (tt := tYes) (te := tIf (tTest (tOp rEq (tCall spDraw [] E0 (tCons (tVar 0) (tCons (tC (V.int 2)) tNil))) (tC (V.int 0)))) (tVar 5) (tCB (rTupOf K) (tCons (tVar 5) tNil))) rfl nd rfl rfl (sw_true rfl rfl rfl (by decide +kernel)) (pi_list (pv 2)) (blkOk_by (N := nMade) (sc := defScope sMade) (by decide +kernel)) (fun _ _ _ _ _ => pg_name (i := 5) nd rfl (Or.inl rfl)) (fun _ _ _ _ _ => pts_nil)
        (fun _ _ _ _ _ => pe_ifExp (pt_cmpR op_eq (pe_ca cD hr1 (by rfl) (pa_cons (pv 0) (pa_cons pe_int pa_nil))) pe_int (nomark _)) (pv 5) (pe_callTy (call_tuple_ofK (K := K) rfl) (by rfl) mT (by decide +kernel) (pa_cons (pv 5) pa_nil))))
      (pss_cons (ps_if (pt_cmpR op_eq (pe_ca cD hr1 (by rfl) (pa_cons (pv 0) (pa_cons pe_int pa_nil))) pe_int (nomark _)) (pss_one (ps_ret (pe_make R.mkc R.oi hr (by rfl) R.T.mgC R.bi .nil pass0 (pa_cons (pv 1) (pa_cons (pv 4) (pa_cons (pv 3) pa_nil)))))) pss_nil)
      (pss_one (ps_ret (pe_makeK0 (E := E0) R.mkc R.oi hr (by rfl) R.T.mgC R.ki pass0 (pk_cons (pe_callTy call_tuple_of (by rfl) mT (by decide +kernel) (pa_cons (pv 3) pa_nil)) (pk_cons (pe_callTy call_tuple_of (by rfl) mT (by decide +kernel) (pa_cons (pv 4) pa_nil)) (pk_cons (pv 1) pk_nil))))))), ?_⟩
    obtain ⟨gs, hg1, ngp, hgr⟩ := hg
    obtain ⟨hst, nsp⟩ := hs
    have npg : g ≠ p := fun e => ngp (List.mem_singleton.mpr e)
    have nps : st ≠ p := fun e => nsp (List.mem_singleton.mpr e)
    have lgs : gs.length = n := by rw [paired_lenM hgr, fm.len]
    refine ⟨fun σ' H' => ∃ (G : Addr) (xs : List V), σ' = [some (.ref p), some (.str z), some (.ref g), some (.ref st), some (.ref G), none] ∧ PotAt H' p ∧ But p H H' ∧ H' G = some (.lst xs) ∧ G ≠ p ∧ Paired (fun x r => ∃ b : Addr, x = .ref b ∧ b ≠ p ∧ SqH H' b (vN' r)) xs Rw, ?_, ?_⟩
    · refine ⟨_, rfl, g, rfl, ⟨_, SqL.of hg1⟩, fun G hG => ?_⟩
      have npG : p ≠ G := hp.ne hG
      refine lc_it (walk_list (xs := gs)) (fun q Hq => PotAt Hq p ∧ But p H Hq ∧ ∃ xs, Hq G = some (.lst xs) ∧ xs.length = q ∧ Paired (fun x r => ∃ b : Addr, x = .ref b ∧ b ≠ p ∧ b ≠ G ∧ SqH Hq b (vN' r)) xs (Rw.take q)) ?_ ?_ ?_ ?_
      · exact ⟨hp.upd npG, (But.refl p H).upd hG, [], upd_same, rfl, .nil⟩
      · rintro q Hq _ ⟨_, bq, _⟩
        exact SqL.of (bq _ _ hg1 npg)
      · rintro q x Hq0 Hq hq ⟨hpq, bq, xs, cq, lq, pq⟩ ⟨rfl, hx⟩
        obtain ⟨r, er, b, rfl, nb, gb⟩ := paired_getM hgr hx
        have nbp : b ≠ p := fun e => nb (List.mem_singleton.mpr e)
        have hq' : q < gs.length := hq
        have nbG : b ≠ G := fun e => by rw [e, hG] at gb; cases gb
        refine ⟨rfl, _, rfl, p, 2, rfl, hpq, by decide, by decide, fun d H5 _ _ hp5 b5 => ?_⟩
        have cq5 := b5 G _ cq (Ne.symm npG)
        have gb5 := b5 b _ (bq _ _ gb nbp) nbp
        have pq5 : Paired (fun x r => ∃ b : Addr, x = .ref b ∧ b ≠ p ∧ b ≠ G ∧ SqH H5 b (vN' r)) xs (Rw.take q) := L2.Paired.mapP pq fun x r ⟨b, e, n1, n2, s⟩ => ⟨b, e, n1, n2, s.elim (fun e => .inl (b5 b _ e n1)) fun e => .inr (b5 b _ e n1)⟩
        have fin : ∀ (b' : Addr) (H6 : Hp), Same H5 H6 → PotAt H6 p → b' ≠ p → b' ≠ G → SqH H6 b' (vN' r) → ∃ acc, H6 G = some (.lst acc) ∧ acc.length < sizeLine ∧ (PotAt (upd H6 G (.lst (acc ++ [.ref b']))) p ∧ But p H (upd H6 G (.lst (acc ++ [.ref b']))) ∧ ∃ xs, upd H6 G (.lst (acc ++ [.ref b'])) G = some (.lst xs) ∧ xs.length = q + 1 ∧ Paired (fun x r => ∃ b : Addr, x = .ref b ∧ b ≠ p ∧ b ≠ G ∧ SqH (upd H6 G (.lst (acc ++ [.ref b']))) b (vN' r)) xs (Rw.take (q + 1))) := fun b' H6 s6 hp6 n1 n2 sq => by
          refine ⟨xs, s6 _ _ cq5, (by rw [lq, sz]; omega), hp6.upd npG, ((bq.trans b5).same s6).upd hG, xs ++ [.ref b'], upd_same, (by rw [List.length_append, lq]; rfl), ?_⟩
          have keep : ∀ {a : Addr} {ys : List V}, a ≠ G → SqH H6 a ys → SqH (upd H6 G (.lst (xs ++ [.ref b']))) a ys := fun na s => s.elim (fun e => .inl (by rw [upd_ne na]; exact e)) fun e => .inr (by rw [upd_ne na]; exact e)
          rw [take_snoc er]
          exact paired_snoc (L2.Paired.mapP pq5 fun x r ⟨b, e, n1, n2, s⟩ => ⟨b, e, n1, n2, keep n2 (s.same s6)⟩) ⟨b', rfl, n1, n2, keep n2 sq⟩
        refine ⟨rfl, _, rfl, ?_⟩
        refine ite2 (fun _ => ?_) (fun _ => ?_)
        · exact ⟨_, rfl, fin b H5 (Same.refl _) hp5 nbp nbG (.inl gb5)⟩
        · refine ⟨_, rfl, b, _, rfl, .inl ⟨SqL.of gb5, fun T hT => ?_⟩⟩
          have npT : p ≠ T := hp5.ne hT
          exact fin T _ ((Same.refl H5).upd hT) (hp5.upd npT) (Ne.symm npT) (Ne.symm (ne_of_none cq5 hT)) (.inr upd_same)
      · rintro Hq ⟨hpq, bq, xs, cq, lq, pq⟩
        rw [lgs, ← fm.len, List.take_length] at pq
        exact ⟨G, xs, rfl, hpq, bq, cq, Ne.symm npG, L2.Paired.mapP pq fun x r ⟨b, e, n1, _, s⟩ => ⟨b, e, n1, s⟩⟩
    rintro σ' H1 ⟨G, xs, rfl, hp1, b1, gG, nGp, pR⟩
    refine ⟨_, rfl, p, 2, rfl, hp1, by decide, by decide, fun d H2 _ _ hp2 b2 => ?_⟩
    have gG2 := b2 G _ gG nGp
    have gst2 := b2 st _ (b1 st _ hst nps) nps
    have b12 := b1.trans b2
    have pR2 : Paired (RowZ H2) xs Rw := L2.Paired.mapP pR fun x r ⟨b, e, n1, s⟩ => ⟨b, e, s.elim (fun e => .inl (b2 b _ e n1)) fun e => .inr (b2 b _ e n1)⟩
    have ex2 : ∀ {a : Addr}, H a ≠ none → H2 a ≠ none := fun {a} h => by
      by_cases e : a = p
      · rw [e]
        exact hp2.ex
      · cases q : H a with
        | none => exact absurd q h
        | some o =>
          rw [b12 a o q e]
          exact fun z => nomatch z
    refine ⟨rfl, _, rfl, ?_⟩
    refine ite2 (fun _ => ?_) (fun _ => ?_)
    · refine ⟨_, rfl, _, rfl, _, rfl, make_mach az lz ⟨G, xs, rfl, .inl gG2, pR2⟩ fm pn ln ⟨st, rfl, .inl gst2⟩ nE lE fun x H3 R' E' mx lf hx s3 => ?_⟩
      exact k x R' E' H3 (fun D hD => mx D fun a ha => ex2 (hD a ha)) lf (Same.pot s3 hp2) (b12.same s3)
    · refine ⟨_, rfl, st, _, rfl, .inl ⟨SqL.of gst2, fun T1 hT1 => ?_⟩⟩
      have s3 : Same H2 (upd H2 T1 (.tup (vN' E))) := (Same.refl H2).upd hT1
      have g3 : upd H2 T1 (.tup (vN' E)) T1 = some (.tup (vN' E)) := upd_same
      generalize upd H2 T1 (.tup (vN' E)) = H3 at s3 g3 ⊢
      refine ⟨_, rfl, G, _, rfl, .inl ⟨SqL.of (s3 _ _ gG2), fun T2 hT2 => ?_⟩⟩
      have s4 : Same H3 (upd H3 T2 (.tup xs)) := (Same.refl H3).upd hT2
      have g4 : upd H3 T2 (.tup xs) T2 = some (.tup xs) := upd_same
      generalize upd H3 T2 (.tup xs) = H4 at s4 g4 ⊢
      have s24 := s3.trans s4
      refine ⟨_, rfl, rfl, rfl, make_mach az lz ⟨T2, xs, rfl, .inr g4, L2.Paired.mapP pR2 fun x r ⟨b, e, s⟩ => ⟨b, e, s.same s24⟩⟩ fm pn ln ⟨T1, rfl, .inr (s4 _ _ g3)⟩ nE lE fun x H5 R' E' mx lf hx s5 => ?_⟩
      have s25 := s24.trans s5
      refine k x R' E' H5 (fun D hD => mx D fun a ha => ?_) lf (Same.pot s25 hp2) (b12.same s25)
      cases q : H2 a with
      | none => exact absurd q (ex2 (hD a ha))
      | some o =>
        rw [s24 a o q]
        exact fun z => nomatch z
end
end K11
namespace K11
open PySem PySem.Spec PyProof.Rows L2 FL
theorem reprM_eq (z : Str) (R : Rws) (E : List Nat) : reprM z R E = (((((Str.ofString "Machine(" ++ (PyData.str z).shown) ++ Str.ofString ", ") ++ (rowsD R).shown) ++ Str.ofString ", ") ++ (endsD E).shown) ++ Str.ofString ")" := by
  show (((((((Str.empty ++ Str.ofString "Machine(") ++ (PyData.str z).shown) ++ Str.ofString ", ") ++ (rowsD R).shown) ++ Str.ofString ", ") ++ (endsD E).shown) ++ Str.ofString ")") = _
  rw [empty_app]
section
variable {P : Program} {w : World} {K : PySem.W.Frag} {mg : Str → Option Value} {base : Heap}
theorem ok_is {f : Addr} {fd : FuncData} (F : Fun K "_law_is" "_law_is" sIs f fd) (R : MachF P w K mg base) (mR : mg "repr" = none) (mN : mg "len" = none) :
    FnG P w K mg base CX0 3 f fd ["_law_made_here", "_law_alpha_here", "_law_told"] (spIs R.C) := by
  refine okG F scIs (fun vs H Q E h => ?_) (fun cdv A outer s H vs Q Ex hr hg h => ?_)
  · obtain ⟨_, _, _, _, _, _, rfl, _⟩ := h
    rfl
  · obtain ⟨x, t, z, Rw, E, m, rfl, az, mx, tx, lf, k⟩ := h
    have nd := scIs.nd
    have sz : sizeLine = 16777216 := rfl
    have hr1 := hr.mono (show 1 ≤ 2 by decide)
    obtain ⟨p1, q1, d1, prS, oS, bS⟩ := R.ps
    obtain ⟨p2, q2, d2, prT, oT, bT⟩ := R.pt
    obtain ⟨f3, d3, meR, oR, bR⟩ := R.mr
    obtain ⟨f4, d4, meE, oE, bE⟩ := R.me
    refine ⟨_, pss_cons (ps_asg (pv 2) (pg_tup rfl (pgs_cons (pg_name (i := 3) nd rfl (.inl rfl)) (pgs_cons (pg_name (i := 4) nd rfl (.inl rfl)) pgs_nil))))
      (pss_cons (ps_set (i := 5) nd rfl (.inl rfl) (pe_op op_add_str (pe_op op_add_str (pe_op op_add_str (pe_op op_add_str (pe_op op_add_str (pe_op op_add_str pe_str (pe_callB (call_repr hg hr.units) (by rfl) mR (by decide +kernel) (pa_cons (pv 1) pa_nil))) pe_str) (pe_callB (call_repr hg hr.units) (by rfl) mR (by decide +kernel) (pa_cons (pv 3) pa_nil))) pe_str) (pe_callB (call_repr hg hr.units) (by rfl) mR (by decide +kernel) (pa_cons (pv 4) pa_nil))) pe_str))
      (pss_cons (ps_set (i := 6) nd rfl (.inl rfl) (pe_lst (pa_cons (pe_meth0 (pv 0) R.T.cl meR oR hr1 bR .nil pass0) (pa_cons (pe_meth0 (pv 0) R.T.cl meE oE hr1 bE .nil pass0) (pa_cons (pe_prop (pv 0) R.T.cl prT oT hr bT .nil pass0 rfl) (pa_cons (pe_prop (pv 0) R.T.cl prS oS hr bS .nil pass0 rfl) (pa_cons (pe_callB (call_reprI (E := E0) R.oz R.bz hr hg R.zs R.zf) (by rfl) mR (by decide +kernel) (pa_cons (pv 0) pa_nil)) pa_nil)))))))
      (pss_one (ps_ret (pe_cmpR op_eq (pe_callB (call_repr hg hr.units) (by rfl) mR (by decide +kernel) (pa_cons (pv 6) pa_nil)) (pe_callB (call_repr hg hr.units) (by rfl) mR (by decide +kernel) (pa_cons (pe_lst (pa_cons (pv 3) (pa_cons (pv 4) (pa_cons (pe_callB callLen (by rfl) mN PySem.boot_len (pa_cons (pv 3) pa_nil)) (pa_cons (pv 1) (pa_cons (pv 5) pa_nil)))))) pa_nil)) (nomark _)))))), ?_⟩
    obtain ⟨L, S, ys, gt, gL, hys, gS, _, _⟩ := tx
    have pz : Plain z := az.plain fun c hc => hc
    have lz := az.hi
    have nz : NiceD (.str z) := nice_str pz (by omega)
    have nR : NiceD (rowsD Rw) := lf.smR.nice (by decide)
    have nE : NiceD (endsD E) := lf.smE.nice (by decide)
    have l1 : (reprText z).length ≤ 42 := repr_abc az
    have l2 : (rowsD Rw).shown.length ≤ 20000 := lf.smR.len
    have l3 : (endsD E).shown.length ≤ 20000 := lf.smE.len
    have e1 : (Str.ofString "Machine(").length = 8 := by decide +kernel
    have e2 : (Str.ofString ", ").length = 2 := by decide +kernel
    have e3 : (Str.ofString ")").length = 1 := by decide +kernel
    have lz2 : ((PyData.str z).shown).length ≤ 42 := l1
    refine ⟨_, rfl, t, _, rfl, SqT.of gt, rfl, _, _, rfl, _, _, rfl, rfl, ?_⟩
    refine ⟨_, rfl, .str z, .str z, rfl, sh_str z, nz, _, _, rfl, rfl, (by rw [sz]; omega), ?_⟩
    refine ⟨_, _, rfl, rfl, (by rw [len_app, sz]; omega), ?_⟩
    refine ⟨_, rfl, .ref L, rowsD Rw, rfl, .inl ⟨dp_rowsD gL hys, lf.smR.nd⟩, nR, _, _, rfl, rfl, (by rw [len_app, len_app, sz]; omega), ?_⟩
    refine ⟨_, _, rfl, rfl, (by rw [len_app, len_app, len_app, sz]; omega), ?_⟩
    refine ⟨_, rfl, .ref S, endsD E, rfl, .inl ⟨dp_endsD gS, lf.smE.nd⟩, nE, _, _, rfl, rfl, (by rw [len_app, len_app, len_app, len_app, sz]; omega), ?_⟩
    refine ⟨_, _, rfl, rfl, (by rw [len_app, len_app, len_app, len_app, len_app, sz]; omega), ?_⟩
    obtain ⟨dx, fs, ex, no⟩ := mx.nn
    obtain ⟨a1, a2, a3⟩ := mrows_no
    refine ⟨_, rfl, x, dx, fs, rfl, ex, no a1 a2 a3, x, z, Rw, E, rfl, mx, fun D1 xs1 H1 hD1 gD1 hx1 s1 => ?_⟩
    have mx1 := mx.same s1
    obtain ⟨dx1, fs1, ex1, no1⟩ := mx1.nn
    obtain ⟨b1, b2, b3⟩ := mends_no
    refine ⟨_, rfl, x, dx1, fs1, rfl, ex1, no1 b1 b2 b3, x, z, Rw, E, rfl, mx1, fun D2 H2 hD2 gD2 s2 => ?_⟩
    have mx2 := mx1.same s2
    obtain ⟨dx2, fs2, ex2, _⟩ := mx2.nn
    refine ⟨_, rfl, x, dx2, fs2, rfl, ex2, x, z, Rw, E, rfl, mx2, ?_⟩
    refine ⟨_, rfl, x, dx2, fs2, rfl, ex2, x, z, Rw, E, rfl, mx2, ?_⟩
    refine ⟨_, rfl, x, dx2, fs2, rfl, ex2, x, z, Rw, E, m, rfl, mx2, az, lf, _, rfl, ?_⟩
    refine ⟨by show 5 ≤ sizeLine; decide, fun L3 hL3 => ?_⟩
    have s3 : Same H2 (upd H2 L3 (.lst [.ref D1, .ref D2, .int (Rw.length : Nat), .str z, .str (reprM z Rw E)])) := (Same.refl H2).upd hL3
    have g3 : upd H2 L3 (.lst [.ref D1, .ref D2, .int (Rw.length : Nat), .str z, .str (reprM z Rw E)]) L3 = some (.lst [.ref D1, .ref D2, .int (Rw.length : Nat), .str z, .str (reprM z Rw E)]) := upd_same
    generalize upd H2 L3 (.lst [.ref D1, .ref D2, .int (Rw.length : Nat), .str z, .str (reprM z Rw E)]) = H3 at s3 g3 ⊢
    have s23 := s2.trans s3
    have sa := sm_all az lf
    have na : NiceD (allD z Rw E) := sa.nice (by decide)
    have dpa : ∀ {Hj : Hp} {a b c : Addr} {xs : List V} {w' : V}, Hj c = some (.lst [.ref a, .ref b, .int (Rw.length : Nat), .str z, .str (reprM z Rw E)]) → Hj a = some (.lst xs) → RowsT Hj xs Rw → Hj b = some (.lst (vN' E)) → Sh K Hj (.ref c) (allD z Rw E) := fun gc ga hx gb => .inl ⟨.lst (SqL.of gc) (.cons (dp_rowsD ga hx) (.cons (dp_endsD gb) (.cons (.int _) (.cons (.str _) (.cons (.str _) .nil))))), sa.nd⟩
    refine ⟨_, rfl, .ref L3, allD z Rw E, rfl, dpa (w' := .non) g3 (s23 _ _ gD1) (hx1.same fun a o e => s23 a _ e) (s3 _ _ gD2), na, ?_⟩
    have s03 := s1.trans s23
    have ly : ys.length = Rw.length := paired_lenM hys
    refine ⟨_, rfl, _, rfl, _, rfl, _, Rw.length, rfl, .inl ⟨_, SqL.of (s03 _ _ gL), ly.symm⟩, _, rfl, _, rfl, (by show 5 ≤ sizeLine; decide), fun L4 hL4 => ?_⟩
    rw [← reprM_eq]
    have s4 : Same H3 (upd H3 L4 (.lst [.ref L, .ref S, .int (Rw.length : Nat), .str z, .str (reprM z Rw E)])) := (Same.refl H3).upd hL4
    have g4 : upd H3 L4 (.lst [.ref L, .ref S, .int (Rw.length : Nat), .str z, .str (reprM z Rw E)]) L4 = some (.lst [.ref L, .ref S, .int (Rw.length : Nat), .str z, .str (reprM z Rw E)]) := upd_same
    generalize upd H3 L4 (.lst [.ref L, .ref S, .int (Rw.length : Nat), .str z, .str (reprM z Rw E)]) = H4 at s4 g4 ⊢
    have s04 := s03.trans s4
    refine ⟨.ref L4, allD z Rw E, rfl, dpa (w' := .non) g4 (s04 _ _ gL) (hys.same fun a o e => s04 a _ e) (s04 _ _ gS), na, rfl, ?_⟩
    show Q (V.bl (decide (V.str (allD z Rw E).shown = V.str (allD z Rw E).shown))) H4
    rw [decide_eq_true rfl]
    exact k H4 s04
end
end K11
namespace K11
open PySem PySem.Spec PyProof.Rows L2 FL
theorem sort_join {y : Str} {ys : List Str} (nd : y.cps.toList.Nodup) (inn : ∀ c ∈ y.cps.toList, c ∈ poolCodes) (lo : 2 ≤ y.length) (hi : y.length ≤ 4) (pm : ys.Perm (y.cps.toList.map one)) (so : sortedS ys = true) :
    (ys.map (·.length)).sum + ys.length * (Str.ofString "").length ≤ 16777216 ∧ Abc (Txt.join (Str.ofString "") ys) ∧ ∀ c, c ∈ (Txt.join (Str.ofString "") ys).cps.toList ↔ c ∈ y.cps.toList := by
  obtain ⟨ds, rfl, pd⟩ := map_one pm
  have ld : ds.length = y.length := by rw [pd.length_eq, str_len]
  have e2 : ((ds.map one).map (·.length)).sum = ds.length := by
    rw [List.map_map]
    clear pm so ld pd
    induction ds with
    | nil => rfl
    | cons c ds ih =>
      rw [List.map_cons, List.sum_cons, ih, List.length_cons, Nat.add_comm]
      rfl
  have e3 : (Str.ofString "").length = 0 := by decide +kernel
  have ej : Txt.join (Str.ofString "") (ds.map one) = ⟨ds.toArray⟩ := join_signs ds
  have nds : ds.Nodup := pd.symm.nodup nd
  rw [ej]
  refine ⟨by rw [e2, e3]; omega, ⟨?_, ?_, strict (sorted_one ds so) nds, fun c hc => inn c (pd.mem_iff.mp (by simpa using hc))⟩, fun c => ?_⟩
  · show 2 ≤ ds.toArray.size
    rw [List.size_toArray]
    omega
  · show ds.toArray.size ≤ 4
    rw [List.size_toArray]
    omega
  · show c ∈ ds.toArray.toList ↔ _
    rw [List.toList_toArray]
    exact pd.mem_iff
/-- all signs of z but the first one, and a strange one -/
theorem alien_ofM {z w : Str} {f : Nat} {ys : List Str} (az : Abc z) (nf : f ∉ z.cps.toList) (pf : f ∈ poolCodes) (hw : w.cps.toList = z.cps.toList.drop 1) (pm : ys.Perm ((w ++ (⟨#[f]⟩ : Str)).cps.toList.map one)) (so : sortedS ys = true) :
    (ys.map (·.length)).sum + ys.length * (Str.ofString "").length ≤ 16777216 ∧ Abc (Txt.join (Str.ofString "") ys) ∧ Txt.join (Str.ofString "") ys ≠ z ∧ (Txt.join (Str.ofString "") ys).length = z.length := by
  have e : (w ++ (⟨#[f]⟩ : Str)).cps.toList = z.cps.toList.drop 1 ++ [f] := by
    rw [Str.cps_append, Array.toList_append, hw]
  have lz : z.cps.toList.length = z.length := (str_len z).symm
  have lo := az.lo
  have hi := az.hi
  have len : (w ++ (⟨#[f]⟩ : Str)).length = z.length := by
    rw [str_len]
    show ((w ++ (⟨#[f]⟩ : Str)).cps.toList).length = _
    rw [e, List.length_append, List.length_drop, lz]
    show z.length - 1 + 1 = _
    omega
  have nd : (w ++ (⟨#[f]⟩ : Str)).cps.toList.Nodup := by
    rw [e]
    refine List.nodup_append.mpr ⟨(List.drop_sublist 1 _).nodup (az.up.imp fun h => Nat.ne_of_lt h), by simp, fun a ha b hb hab => ?_⟩
    rw [List.mem_singleton.mp hb] at hab
    exact nf (by rw [← hab]; exact List.mem_of_mem_drop ha)
  obtain ⟨h1, h2, h3⟩ := sort_join nd (fun c hc => by
    rw [e] at hc
    rcases List.mem_append.mp hc with q | q
    · exact az.inn c (List.mem_of_mem_drop q)
    · rw [List.mem_singleton.mp q]
      exact pf) (by rw [len]; omega) (by rw [len]; omega) pm so
  refine ⟨h1, h2, fun q => nf (by rw [← q]; exact (h3 f).mpr (by rw [e]; exact List.mem_append_right _ (List.mem_singleton.mpr rfl))), ?_⟩
  obtain ⟨ds, rfl, pd⟩ := map_one pm
  have ej : Txt.join (Str.ofString "") (ds.map one) = ⟨ds.toArray⟩ := join_signs ds
  rw [ej]
  show ds.toArray.size = _
  rw [List.size_toArray, pd.length_eq, ← str_len, len]
def rListOf (K : PySem.W.Frag) : List V → Hp → VK → Prop := fun xs H Q => ∃ p ys, xs = [.ref p] ∧ (SqL K H p ys ∨ SqT K H p ys) ∧ ∀ l, H l = none → Q (.ref l) (upd H l (.lst ys))
theorem call_list_ofK {X : Cx} {K : PySem.W.Frag} (hK : X.K = K) : CallR X (.type "list") (rListOf K) := by
  subst hK
  exact call_list_of
abbrev sRight : Stmt := topS 51
abbrev nRight : List Str := ["_law_pot_here", "_law_alpha_here", "_law_grid", "_law_stops", "_law_told", "_law_made_here", "_law_grid_two", "_law_stops_two", "_law_twin_here", "_law_flipped", "_law_kept", "_law_near", "_law_due", "_law_passed", "_law_given", "_law_later", "_law_fresh", "_law_alien", "_law_again", "_law_strange", "_law_state", "_law_row", "_law_letter", "_law_thing"]
theorem scRight : FnScope nRight ["_law_pot_here"] (defScope sRight) := ⟨rfl, rfl, rfl, by decide +kernel, rfl, by decide +kernel, by decide +kernel⟩
def spRightM : Sp := fun vs H Q _ => ∃ (p : Addr), vs = [.ref p] ∧ PotAt H p ∧ ∀ H', PotAt H' p → But p H H' → Q (.bl true) H'
/-- what stands when the drawn rows are made a machine -/
structure RSt (C : Addr) (H0 Hi : Hp) (p g st t x : Addr) (z : Str) (R : Rws) (E : List Nat) (R1 : Rws) (E1 : List Nat) : Prop where
  hp : PotAt Hi p
  b : But p H0 Hi
  gr : GridX [p] Hi g R
  gs : IntsX [p] Hi st E
  tx : ToldX [p] Hi t R1 E1
  mx : MachX [p] C Hi x z R1 E1
theorem RSt.but {C : Addr} {H0 Hi Hj : Hp} {p g st t x : Addr} {z : Str} {R R1 : Rws} {E E1 : List Nat} (h : RSt C H0 Hi p g st t x z R E R1 E1) (hp : PotAt Hj p) (b : But p Hi Hj) : RSt C H0 Hj p g st t x z R E R1 E1 :=
  ⟨hp, h.b.trans b, h.gr.smx (fun _ m => m) (SmX.but b), h.gs.smx (fun _ m => m) (SmX.but b), h.tx.smx (fun _ m => m) h.hp.lsts (SmX.but b), h.mx.smx (fun _ m => m) h.hp.lsts (SmX.but b)⟩
theorem RSt.same {C : Addr} {H0 Hi Hj : Hp} {p g st t x : Addr} {z : Str} {R R1 : Rws} {E E1 : List Nat} (h : RSt C H0 Hi p g st t x z R E R1 E1) (s : Same Hi Hj) : RSt C H0 Hj p g st t x z R E R1 E1 := h.but (Same.pot s h.hp) s.but
theorem GridX.nil {D : List Addr} {H : Hp} {g : Addr} {R : Rws} (h : GridX D H g R) : GridX [] H g R := by
  obtain ⟨xs, h1, _, h3⟩ := h
  exact ⟨xs, h1, (fun m => nomatch m), L2.Paired.mapP h3 fun _ _ ⟨b, e, _, q⟩ => ⟨b, e, (fun m => nomatch m), q⟩⟩
theorem IntsX.nil {D : List Addr} {H : Hp} {g : Addr} {E : List Nat} (h : IntsX D H g E) : IntsX [] H g E := ⟨h.1, fun m => nomatch m⟩
theorem ToldX.nil {D : List Addr} {H : Hp} {t : Addr} {R : Rws} {E : List Nat} (h : ToldX D H t R E) : ToldX [] H t R E := by
  obtain ⟨L, S, xs, h1, h2, h3, h4, _, _⟩ := h
  exact ⟨L, S, xs, h1, h2, h3, h4, (fun m => nomatch m), fun m => nomatch m⟩
theorem _root_.FL.MachX.nil {D : List Addr} {C : Addr} {H : Hp} {p : Addr} {z : Str} {R : Rws} {E : List Nat} (h : MachX D C H p z R E) : MachX [] C H p z R E := h.mono fun _ m => nomatch m
/-- what is told, as data -/
def toldD (R : Rws) (E : List Nat) : PyData := .tuple [rowsD R, endsD E]
theorem ToldX.dp {K : PySem.W.Frag} {D : List Addr} {H : Hp} {t : Addr} {R : Rws} {E : List Nat} (h : ToldX D H t R E) : Dp K H (.ref t) (toldD R E) := by
  obtain ⟨L, S, xs, h1, h2, h3, h4, _, _⟩ := h
  exact .tup (SqT.of h1) (.cons (dp_rowsD h2 h3) (.cons (dp_endsD h4) .nil))
theorem eqv_told (R R' : Rws) (E E' : List Nat) : PyData.eqv (toldD R E) (toldD R' E') = decide (R = R' ∧ E = E') := by
  show (PyData.eqv (rowsD R) (rowsD R') && (PyData.eqv (endsD E) (endsD E') && true)) = _
  rw [eqv_rowsD, eqv_endsD, Bool.and_true]
  by_cases h1 : R = R' <;> by_cases h2 : E = E' <;> simp [h1, h2]
theorem sm_told {m : Nat} {R : Rws} {E : List Nat} (lf : LfOk m R E) : Sm 50000 (toldD R E) := by
  have dR : (rowsD R).depth ≤ 11 := by
    show PyData.depthAll (R.map rowD) + 1 ≤ 11
    have : PyData.depthAll (R.map rowD) ≤ 1 := depth_allM fun r _ => by
      show PyData.depthAll (r.map iD) + 1 ≤ 1
      have : PyData.depthAll (r.map iD) ≤ 0 := depth_allM fun x _ => Nat.le_refl _
      omega
    omega
  have dE : (endsD E).depth ≤ 11 := by
    show PyData.depthAll (E.map iD) + 1 ≤ 11
    have : PyData.depthAll (E.map iD) ≤ 0 := depth_allM fun x _ => Nat.le_refl _
    omega
  exact (Sm.tuple (k := 11) (SmL.cons lf.smR dR (SmL.cons lf.smE dE SmL.nil)) (by decide)).mono (by omega)
/-- one end more or less -/
def flipE (n f : Nat) (E : List Nat) : List Nat := (List.range n).filter fun i => decide (i ∈ E) != decide (i = f)
theorem flip_mdl {z : Str} {R : Rws} {E : List Nat} (h : Mdl z R E) (f : Nat) : Mdl z R (flipE R.length f E) := ⟨h.pos, h.few, h.frm, List.pairwise_lt_range.filter _, fun e he => List.mem_range.mp (List.mem_filter.mp he).1⟩
theorem Mdl.nd {z : Str} {R : Rws} {E : List Nat} (h : Mdl z R E) : E.Nodup := h.up.imp fun h => Nat.ne_of_lt h
theorem ne_bl2 (p q : Bool) : (!decide (V.bl p = V.bl q)) = (p != q) := by cases p <;> cases q <;> rfl
theorem eqtwo {z : Str} {R R' : Rws} {E E' : List Nat} : V.bl (!decide (V.bl (decide (z = z ∧ R = R' ∧ E = E')) = V.bl (PyData.eqv (toldD R E) (toldD R' E')))) = V.bl false := by
  rw [eqv_told]
  by_cases h1 : R = R' <;> by_cases h2 : E = E' <;> simp [h1, h2]
theorem eqtwoN {z : Str} {R R' : Rws} {E E' : List Nat} : V.bl (!decide (V.bl (!decide (z = z ∧ R = R' ∧ E = E')) = V.bl (!PyData.eqv (toldD R E) (toldD R' E')))) = V.bl false := by
  rw [eqv_told]
  by_cases h1 : R = R' <;> by_cases h2 : E = E' <;> simp [h1, h2]
section
variable {P : Program} {w : World} {K : PySem.W.Frag} {mg : Str → Option Value} {base : Heap}
theorem ok_right {f : Addr} {fd : FuncData} (F : Fun K "_law_right" "_law_right" sRight f fd) (R : MachF P w K mg base)
    (cD : Ca P w K mg base "_law_draw" 1 ["_law_pot_here", "_law_span"] spDraw) (cA : Ca P w K mg base "_law_alpha" 2 ["_law_pot_here", "_law_least_here", "_law_most"] spAlpha2) (cMo : Ca P w K mg base "_law_model" 2 ["_law_pot_here", "_law_alpha_here", "_law_most"] spModel)
    (cLe : Ca P w K mg base "_law_least" 2 ["_law_grid", "_law_stops"] spLeast) (cTw : Ca P w K mg base "_law_twin" 3 ["_law_pot_here", "_law_grid", "_law_stops"] spTwin) (cMd : Ca P w K mg base "_law_made" 7 ["_law_pot_here", "_law_alpha_here", "_law_grid", "_law_stops"] (spMade R.C))
    (cIs : CaG P w K mg base "_law_is" 3 ["_law_made_here", "_law_alpha_here", "_law_told"] (spIs R.C)) (mR : mg "repr" = none) (mN : mg "len" = none) (mG : mg "range" = none) (mL : mg "list" = none) (mS : mg "sorted" = none) (mY : mg "any" = none) :
    FnG P w K mg base CX0 8 f fd ["_law_pot_here"] spRightM := by
  refine okG F scRight (fun vs H Q E h => ?_) (fun cdv A outer s H vs Q Ex hr hg h => ?_)
  · obtain ⟨_, rfl, _⟩ := h
    rfl
  · obtain ⟨p, rfl, hp, k⟩ := h
    have nd := scRight.nd
    have sz : sizeLine = 16777216 := rfl
    have hr1 : Room 1 (A.deeper (envOfC "_law_right" (defScope sRight) s.heap.objs.size f cdv)) := hr.mono (by decide)
    have hr2 : Room 2 (A.deeper (envOfC "_law_right" (defScope sRight) s.heap.objs.size f cdv)) := hr.mono (by decide)
    have hr3 : Room 3 (A.deeper (envOfC "_law_right" (defScope sRight) s.heap.objs.size f cdv)) := hr.mono (by decide)
    have hr6 : Room 6 (A.deeper (envOfC "_law_right" (defScope sRight) s.heap.objs.size f cdv)) := hr.mono (by decide)
    obtain ⟨f3, d3, meR, oR, bR⟩ := R.mr
    obtain ⟨f4, d4, meE, oE, bE⟩ := R.me
    have cz : (Str.ofString "-0az|").cps.toList = [45, 48, 97, 122, 124] := by decide +kernel
    refine ⟨_, pss_cons (ps_set (i := 1) nd rfl (.inr rfl) (pe_ca cA hr2 (by rfl) (pa_cons (pv 0) (pa_cons pe_int (pa_cons pe_int pa_nil)))))
      (pss_cons (ps_asg (pe_ca cMo hr2 (by rfl) (pa_cons (pv 0) (pa_cons (pv 1) (pa_cons pe_int pa_nil)))) (pg_tup rfl (pgs_cons (pg_name (i := 2) nd rfl (.inl rfl)) (pgs_cons (pg_name (i := 3) nd rfl (.inr rfl)) pgs_nil))))
      (pss_cons (ps_set (i := 4) nd rfl (.inl rfl) (pe_ca cLe hr2 (by rfl) (pa_cons (pv 2) (pa_cons (pv 3) pa_nil))))
      (pss_cons (ps_set (i := 5) nd rfl (.inr rfl) (pe_ca cMd hr (by rfl) (pa_cons (pv 0) (pa_cons (pv 1) (pa_cons (pv 2) (pa_cons (pv 3) pa_nil))))))
      (pss_cons (ps_if (pt_not (pt_val (pe_cg cIs hr3 hg (by rfl) (pa_cons (pv 5) (pa_cons (pv 1) (pa_cons (pv 4) pa_nil)))))) (pss_one (ps_ret pe_bl)) pss_nil)
      (pss_cons (ps_expr (pe_bm PySem.F.plainAttrs_list PySem.F.slot_list_append PySem.F.type_list_append mtAppend (pe_meth0 (pv 5) R.T.cl meR oR hr1 bR .nil pass0) (pa_cons pe_non pa_nil)))
      (pss_cons (ps_expr (pe_bm PySem.F.plainAttrs_list PySem.F.slot_list_append PySem.F.type_list_append mtAppend (pe_meth0 (pv 5) R.T.cl meE oE hr1 bE .nil pass0) (pa_cons pe_int pa_nil)))
      (pss_cons (ps_asg (pe_ca cTw hr3 (by rfl) (pa_cons (pv 0) (pa_cons (pv 2) (pa_cons (pv 3) pa_nil)))) (pg_tup rfl (pgs_cons (pg_name (i := 6) nd rfl (.inl rfl)) (pgs_cons (pg_name (i := 7) nd rfl (.inl rfl)) pgs_nil))))
      (pss_cons (ps_set (i := 8) nd rfl (.inl rfl) (pe_ca cMd hr (by rfl) (pa_cons (pv 0) (pa_cons (pv 1) (pa_cons (pv 6) (pa_cons (pv 7) pa_nil))))))
      (pss_cons (ps_if (PW.pt (pw_or (pt_not (pt_val (pe_cg cIs hr3 hg (by rfl) (pa_cons (pv 8) (pa_cons (pv 1) (pa_cons (pv 4) pa_nil)))))) (pw_or (pt_not (pt_cmpR (op_eqO R.te R.oe hr1) (pv 5) (pv 8) (nomark _))) (pw_or (pt_cmpR (op_neO R.te R.oe hr3) (pv 5) (pv 8) (nomark _)) (pw_or1 (pt_not (pt_val (pe_cg cIs hr3 hg (by rfl) (pa_cons (pv 5) (pa_cons (pv 1) (pa_cons (pv 4) pa_nil)))))))))))
          (pss_one (ps_ret pe_bl)) pss_nil)
      (pss_cons (ps_set (i := 9) nd rfl (.inr rfl) (pe_ca cD hr1 (by rfl) (pa_cons (pv 0) (pa_cons (pe_callB callLen (by rfl) mN PySem.boot_len (pa_cons (pv 2) pa_nil)) pa_nil))))
      (C8.pss_cut (ps_setLc (i := 10) (own := [("_law_state", 20)]) (g := gName 20) rfl nd rfl rfl (sw_true rfl rfl rfl (by decide +kernel)) (pi_range1 (by rfl) mG (pa_cons (pe_callB callLen (by rfl) mN PySem.boot_len (pa_cons (pv 2) pa_nil)) pa_nil)) (blkOk_by (N := nRight) (sc := defScope sRight) (by decide +kernel)) (fun _ _ _ _ _ => pg_name (i := 20) nd rfl (Or.inl rfl))
        (fun _ _ _ _ _ => pts_one (pt_cmpR op_ne (pe_cmpR (op_in_seqK (K := K) rfl) (pv 20) (pv 3) (by rfl)) (pe_cmpR op_eq (pv 20) (pv 9) (nomark _)) (nomark _))) (fun _ _ _ _ _ => pv 20))
      (pss_cons (ps_par (i := 11) (j := 12) (by rfl) nd rfl rfl (by decide) rfl rfl (pa_cons (pe_ca cMd hr (by rfl) (pa_cons (pv 0) (pa_cons (pv 1) (pa_cons (pv 2) (pa_cons (pv 10) pa_nil))))) (pa_cons (pe_ca cLe hr2 (by rfl) (pa_cons (pv 2) (pa_cons (pv 10) pa_nil))) pa_nil)) (by rfl))
      (pss_cons (ps_if (PW.pt (pw_or (pt_not (pt_val (pe_cg cIs hr3 hg (by rfl) (pa_cons (pv 11) (pa_cons (pv 1) (pa_cons (pv 12) pa_nil)))))) (pw_or (pt_cmpR op_ne (pe_cmpR (op_eqO R.te R.oe hr1) (pv 11) (pv 5) (nomark _)) (pe_cmpR (op_eqD hr.units) (pv 12) (pv 4) (nomark _)) (nomark _)) (pw_or1 (pt_cmpR op_ne (pe_cmpR (op_neO R.te R.oe hr3) (pv 11) (pv 5) (nomark _)) (pe_cmpR (op_neD hr.units) (pv 12) (pv 4) (nomark _)) (nomark _))))))
          (pss_one (ps_ret pe_bl)) pss_nil)
      (C8.pss_cut (ps_par (i := 13) (j := 14) (by rfl) nd rfl rfl (by decide) rfl rfl (pa_cons (pe_lc (own := [("_law_row", 21)]) (g := gName 21) (tt := tYes) (te := tCB (rListOf K) (tCons (tVar 21) tNil)) rfl nd (pi_list (pv 2)) (blkOk_by (N := nRight) (sc := defScope sRight) (by decide +kernel)) (fun _ _ _ _ _ => pg_name (i := 21) nd rfl (Or.inl rfl)) (fun _ _ _ _ _ => pts_nil)
          (fun _ _ _ _ _ => pe_callTy (call_list_ofK (K := K) rfl) (by rfl) mL (by decide +kernel) (pa_cons (pv 21) pa_nil))) (pa_cons (pe_callTy call_list_of (by rfl) mL (by decide +kernel) (pa_cons (pv 3) pa_nil)) pa_nil)) (by rfl))
      (pss_cons (ps_set (i := 15) nd rfl (.inl rfl) (pe_make R.mkc R.oi hr6 (by rfl) R.T.mgC R.bi .nil pass0 (pa_cons (pv 1) (pa_cons (pv 13) (pa_cons (pv 14) pa_nil)))))
      (pss_cons (ps_expr (pe_bm0 PySem.F.plainAttrs_list PySem.F.slot_list_clear PySem.F.type_list_clear mtClear (pe_ix ix_list (pv 13) pe_int (fun _ _ => rfl))))
      (pss_cons (ps_expr (pe_bm PySem.F.plainAttrs_list PySem.F.slot_list_append PySem.F.type_list_append mtAppend (pv 13) (pa_cons pe_non pa_nil)))
      (pss_cons (ps_expr (pe_bm PySem.F.plainAttrs_list PySem.F.slot_list_append PySem.F.type_list_append mtAppend (pv 14) (pa_cons pe_int pa_nil)))
      (pss_cons (ps_if (PW.pt (pw_or (pt_not (pt_val (pe_cg cIs hr3 hg (by rfl) (pa_cons (pv 15) (pa_cons (pv 1) (pa_cons (pv 4) pa_nil)))))) (pw_or1 (pt_cmpR (op_neO R.te R.oe hr3) (pv 15) (pv 5) (nomark _))))) (pss_one (ps_ret pe_bl)) pss_nil)
      (pss_cons (ps_set (i := 16) nd rfl (.inl rfl) (pe_ix ix_list (pe_lc (own := [("_law_letter", 22)]) (g := gName 22) (tt := tTest (tOp (fun x y H Q => ∃ i j, x = .str i ∧ y = .str j ∧ Q (.bl (!(!(Builtin.Str.occurrences j i 0 j.length 1).isEmpty))) H) (tVar 22) (tVar 1))) rfl nd (pi_str pe_str)
          (blkOk_by (N := nRight) (sc := defScope sRight) (by decide +kernel)) (fun _ _ _ _ _ => pg_name (i := 22) nd rfl (Or.inl rfl)) (fun _ _ _ _ _ => pts_one (pt_cmpR op_notin_str (pv 22) (pv 1) (by rfl))) (fun _ _ _ _ _ => pv 22)) pe_int (fun _ _ => rfl)))
      (pss_cons (ps_set (i := 17) nd rfl (.inl rfl) (pe_make R.mkc R.oi hr6 (by rfl) R.T.mgC R.bi .nil pass0 (pa_cons (pe_join pe_str (pe_callB (cr_sortedT rfl) (by rfl) mS (by decide +kernel) (pa_cons (pe_op op_add_str (pe_slice sl_str (pv 1) (po_some pe_int) po_none) (pv 16)) pa_nil))) (pa_cons (pv 2) (pa_cons (pv 3) pa_nil)))))
      (pss_cons (ps_if (PW.pt (pw_or (pt_cmpR (op_eqO R.te R.oe hr1) (pv 17) (pv 5) (nomark _)) (pw_or (pt_cmpR (op_eqO R.te R.oe hr1) (pv 5) (pv 17) (nomark _)) (pw_or (pt_not (pt_cmpR (op_neO R.te R.oe hr3) (pv 17) (pv 5) (nomark _))) (pw_or1 (pt_cmpR (op_neD hr.units) (pe_meth0 (pv 17) R.T.cl meR oR hr1 bR .nil pass0) (pe_meth0 (pv 5) R.T.cl meR oR hr1 bR .nil pass0) (nomark _)))))))
          (pss_one (ps_ret pe_bl)) pss_nil)
      (pss_cons (ps_set (i := 18) nd rfl (.inl rfl) (pe_make R.mkc R.oi hr6 (by rfl) R.T.mgC R.bi .nil pass0 (pa_cons (pv 1) (pa_cons (pe_meth0 (pv 5) R.T.cl meR oR hr1 bR .nil pass0) (pa_cons (pe_meth0 (pv 5) R.T.cl meE oE hr1 bE .nil pass0) pa_nil)))))
      (pss_cons (ps_set (i := 19) nd rfl (.inl rfl) (pe_lst (pa_cons pe_non (pa_cons pe_int (pa_cons (pv 1) (pa_cons (pe_meth0 (pv 5) R.T.cl meR oR hr1 bR .nil pass0) (pa_cons (pe_callB (call_reprI (E := E0) R.oz R.bz (hr.mono (by decide)) hg R.zs R.zf) (by rfl) mR (by decide +kernel) (pa_cons (pv 5) pa_nil))
          (pa_cons (pe_tup (pa_cons (pv 1) (pa_cons (pe_meth0 (pv 5) R.T.cl meR oR hr1 bR .nil pass0) (pa_cons (pe_meth0 (pv 5) R.T.cl meE oE hr1 bE .nil pass0) pa_nil)))) pa_nil))))))))
      (pss_one (ps_ret (pe_and (pe_cmpR (op_eqO R.te R.oe hr1) (pv 18) (pv 5) (nomark _)) (pe_and (pe_not (pe_callB (cr_any rfl) (by rfl) mY (by decide +kernel) (pa_cons (pe_lc (own := [("_law_thing", 23)]) (g := gName 23) (tt := tYes) (te := tOp (rEqO R.C (spMEq R.C)) (tVar 5) (tVar 23)) rfl nd (pi_list (pv 19))
          (blkOk_by (N := nRight) (sc := defScope sRight) (by decide +kernel)) (fun _ _ _ _ _ => pg_name (i := 23) nd rfl (Or.inl rfl)) (fun _ _ _ _ _ => pts_nil) (fun _ _ _ _ _ => pe_cmpR (op_eqO R.te R.oe hr1) (pv 5) (pv 23) (nomark _))) pa_nil)))
        (pe_one (pe_cg cIs hr3 hg (by rfl) (pa_cons (pv 5) (pa_cons (pv 1) (pa_cons (pv 4) pa_nil))))))))))))))))))))))))))))))))), ?_⟩
    refine ⟨_, rfl, p, rfl, hp, fun z H1 az hp1 b1 => ?_⟩
    have lo := az.lo
    have hi := az.hi
    have onlyP : ∀ {Hj : Hp}, PotAt Hj p → ∀ a ∈ [p], Hj a ≠ none := fun h a ha => by rw [List.mem_singleton.mp ha]; exact h.ex
    refine ⟨_, rfl, _, rfl, p, z, rfl, hp1, az, fun tt g st Rw E H2 md gtt hgr hp2 b2 => ?_⟩
    obtain ⟨gr2, gs2⟩ := hgr [p] (onlyP hp1)
    have fm := md.frm
    have pn := md.pos
    have few := md.few
    refine ⟨tt, _, rfl, SqT.of gtt, rfl, _, _, rfl, _, _, rfl, rfl, ?_⟩
    refine ⟨_, rfl, _, rfl, g, st, Rw, E, Rw.length, z.length, rfl, gr2.nil, gs2.nil, fm, pn, by omega, by omega, fun t R1 E1 H3 s3 htx lf1 => ?_⟩
    have hp3 := Same.pot s3 hp2
    have sp : ∀ a ∈ [p], a ∈ [p] := fun _ m => m
    refine ⟨_, rfl, _, rfl, _, rfl, _, rfl, p, g, st, z, Rw, E, Rw.length, z.length, rfl, hp3, az, rfl, gr2.smx sp (SmX.of s3), gs2.smx sp (SmX.of s3), fm, pn, by omega, md.nd, md.lt, fun x R1' E1' H4 hmx lf1' hp4 b4 => ?_⟩
    obtain ⟨rfl, rfl⟩ := lf1'.det lf1
    have lfo : LfOk z.length R1' E1' := LfOk.of fm pn (by omega) hi lf1
    have st4 : RSt R.C H H4 p g st t x z Rw E R1' E1' := by
      refine ⟨hp4, (b1.trans b2).trans ((s3.but).trans b4), ?_, ?_, ?_, hmx [p] (onlyP hp3)⟩
      · exact (gr2.smx sp (SmX.of s3)).smx sp (SmX.but b4)
      · exact (gs2.smx sp (SmX.of s3)).smx sp (SmX.but b4)
      · exact (htx [p] (onlyP hp2)).smx sp hp3.lsts (SmX.but b4)
    clear hmx htx gr2 gs2 hgr gtt b1 b2 b4 hp1 hp2 hp4 s3 hp3 lf1'
    have secK : ∀ {Hj : Hp} {u : Addr} {z2 : Str} {R'' : Rws} {E'' : List Nat} {D : List Addr}, MachX D R.C Hj u z2 R'' E'' → Sec R.C Hj (.ref u) := fun m => by
      obtain ⟨dx, fs, e, _⟩ := m.nn
      exact .inr ⟨_, dx, fs, rfl, e⟩
    refine ⟨_, rfl, _, rfl, _, rfl, _, _, z, _, _, z.length, rfl, az, st4.mx.nil, st4.tx.nil, lfo, fun H5 s5 => ?_⟩
    refine ⟨_, rfl, iteF ?_⟩
    have st5 := st4.same s5
    obtain ⟨dx5, fs5, ex5, no5⟩ := st5.mx.nn
    obtain ⟨a1, a2, a3⟩ := mrows_no
    obtain ⟨c1, c2, c3⟩ := mends_no
    refine ⟨_, rfl, x, dx5, fs5, rfl, ex5, no5 a1 a2 a3, x, z, R1', E1', rfl, st5.mx.nil, fun D1 xs1 H6 hD1 gD1 hx1 s6 => ?_⟩
    have lx1 : xs1.length = R1'.length := paired_lenM hx1
    have fewR := lfo.few
    refine ⟨.inl ⟨rfl, _, SqL.of gD1⟩, D1, _, _, rfl, rfl, gD1, (by rw [lx1, sz]; omega), ?_⟩
    have st6 := st5.same (s6.upd (o := .lst (xs1 ++ [.non])) hD1)
    generalize upd H6 D1 (.lst (xs1 ++ [.non])) = H6' at st6 ⊢
    obtain ⟨dx6, fs6, ex6, no6⟩ := st6.mx.nn
    refine ⟨_, rfl, x, dx6, fs6, rfl, ex6, no6 c1 c2 c3, x, z, R1', E1', rfl, st6.mx.nil, fun D2 H7 hD2 gD2 s7 => ?_⟩
    have fewE := lfo.ne
    refine ⟨.inl ⟨rfl, _, SqL.of gD2⟩, D2, _, _, rfl, rfl, gD2, (by rw [ints_len, sz]; omega), ?_⟩
    have st7 := st6.same (s7.upd (o := .lst (vN' E1' ++ [.int 0])) hD2)
    generalize upd H7 D2 (.lst (vN' E1' ++ [.int 0])) = H7' at st7 ⊢
    clear st4 st5 st6 s5 s6 s7 hD1 gD1 hx1 hD2 gD2 ex5 no5 ex6 no6
    -- the twin
    refine ⟨_, rfl, _, rfl, _, rfl, p, g, st, Rw, E, Rw.length, z.length, rfl, st7.hp, st7.gr, st7.gs, fm, pn, by omega, by omega, fun tw g2 s2 R2 E2 H8 gtw hg2 F2 nE2 lE2 least2 hp8 b8 => ?_⟩
    obtain ⟨gr8, gs8⟩ := hg2 [p] (onlyP st7.hp)
    have st8 := st7.but hp8 b8
    refine ⟨tw, _, rfl, SqT.of gtw, rfl, _, _, rfl, _, _, rfl, rfl, ?_⟩
    refine ⟨_, rfl, _, rfl, _, rfl, _, rfl, p, g2, s2, z, R2, E2, Rw.length + 1, z.length, rfl, hp8, az, rfl, gr8, gs8, F2, by omega, by omega, nE2, lE2, fun x2 R3 E3 H9 hmx2 lf3 hp9 b9 => ?_⟩
    obtain ⟨rfl, rfl⟩ := (least2 _ _ lf3).det lf1
    have st9 := st8.but hp9 b9
    have mx9 := hmx2 [p] (onlyP hp8)
    clear hmx2 gr8 gs8 hg2 gtw st7 st8 b8 b9 hp8 hp9 least2 F2 nE2 lE2 lf3
    refine ⟨_, rfl, _, rfl, _, rfl, _, _, z, _, _, z.length, rfl, az, mx9.nil, st9.tx.nil, lfo, fun H10 s10 => ?_⟩
    refine ⟨_, rfl, iteF ?_⟩
    have st10 := st9.same s10
    have mx10 := mx9.same s10
    obtain ⟨dx, fs, ex, _⟩ := st10.mx.nn
    refine ⟨_, rfl, _, rfl, x, dx, fs, rfl, ex, secK mx10, _, _, _, _, _, _, rfl, st10.mx.nil, lfo, .inr ⟨_, _, _, _, _, rfl, mx10.nil, lfo, _, rfl, true, congrArg V.bl (decide_eq_true ⟨rfl, rfl, rfl⟩), iteF ?_⟩⟩
    refine ⟨_, rfl, _, rfl, x, dx, fs, rfl, ex, secK mx10, _, _, _, _, _, _, rfl, st10.mx.nil, lfo, .inr ⟨_, _, _, _, _, rfl, mx10.nil, lfo, _, rfl, false, congrArg V.bl (by rw [decide_eq_true ⟨rfl, rfl, rfl⟩]; rfl), iteF ?_⟩⟩
    refine ⟨_, rfl, _, rfl, _, rfl, _, _, z, _, _, z.length, rfl, az, st10.mx.nil, st10.tx.nil, lfo, fun H11 s11 => ?_⟩
    refine ⟨_, rfl, iteF ?_⟩
    have st11 := st10.same s11
    clear st9 st10 mx9 mx10 ex s10 s11
    -- one end more or less
    obtain ⟨gs11, gg11, _, gp11⟩ := st11.gr
    have lg : gs11.length = Rw.length := paired_lenM gp11
    refine ⟨_, rfl, _, rfl, _, Rw.length, rfl, .inl ⟨_, SqL.of gg11, lg.symm⟩, p, Rw.length, rfl, st11.hp, by omega, by omega, fun d H12 d0 d1 hp12 b12 => ?_⟩
    obtain ⟨fl, rfl⟩ : ∃ fl : Nat, d = ((fl : Nat) : Int) := ⟨d.toNat, by omega⟩
    have st12 := st11.but hp12 b12
    have md2 := flip_mdl md fl
    obtain ⟨gs12, gg12, _, gp12⟩ := st12.gr
    have lg12 : gs12.length = Rw.length := paired_lenM gp12
    refine ⟨fun σ' H' => ∃ K1 : Addr, σ' = [some (.ref p), some (.str z), some (.ref g), some (.ref st), some (.ref t), some (.ref x), some (.ref g2), some (.ref s2), some (.ref x2), some (.int (fl : Nat)), some (.ref K1), none, none, none, none, none, none, none, none, none, none, none, none, none] ∧ Same H12 H' ∧ H12 K1 = none ∧ H' K1 = some (.lst (vN' (flipE Rw.length fl E))), ?_, ?_⟩
    · refine ⟨_, rfl, _, Rw.length, rfl, .inl ⟨_, SqL.of gg12, lg12.symm⟩, _, rfl, by omega, by omega, fun C hC => ?_⟩
      refine lc_range (lo := 0) (n := Rw.length) (fun q Hq => Same H12 Hq ∧ Hq C = some (.lst (vN' ((List.range q).filter fun i => decide (i ∈ E) != decide (i = fl))))) ?_ ?_ ?_
      · exact ⟨(Same.refl H12).upd hC, upd_same⟩
      · rintro q Hq hq ⟨sq, cq⟩
        have e0 : (0 : Int) + (q : Nat) = (q : Nat) := by omega
        rw [e0]
        refine ⟨rfl, _, rfl, _, rfl, st, _, rfl, .inl (SqL.of (sq _ _ st12.gs.1)), rfl, flat_ints E, _, rfl, _, rfl, rfl, rfl, _, rfl, ?_⟩
        show (if (!decide (V.bl (inV (.int (q : Nat)) (vN' E)) = V.bl (decide (V.int (q : Nat) = V.int (fl : Nat))))) = true then _ else _)
        have ei : decide (V.int ((q : Nat) : Int) = V.int ((fl : Nat) : Int)) = decide (q = fl) := decide_eq_decide.mpr ⟨fun h => by have := V.int.inj h; omega, fun h => by rw [h]⟩
        have er : (List.range (q + 1)).filter (fun i => decide (i ∈ E) != decide (i = fl)) = (List.range q).filter (fun i => decide (i ∈ E) != decide (i = fl)) ++ if (decide (q ∈ E) != decide (q = fl)) = true then [q] else [] := by
          rw [List.range_succ, List.filter_append, List.filter_cons]
          rfl
        rw [in_ints, ei, ne_bl2]
        cases c : (decide (q ∈ E) != decide (q = fl)) with
        | true =>
          refine iteT ?_
          refine ⟨_, rfl, _, cq, (by
            have := List.length_filter_le (fun i => decide (i ∈ E) != decide (i = fl)) (List.range q)
            rw [List.length_range] at this
            rw [ints_len, sz]
            omega), sq.upd hC, ?_⟩
          rw [upd_same, er, c, if_pos rfl, nats_snoc]
        | false =>
          refine iteF ?_
          refine ⟨sq, ?_⟩
          rw [er, c, if_neg (by decide), List.append_nil]
          exact cq
      · rintro Hq ⟨sq, cq⟩
        exact ⟨C, rfl, sq, hC, cq⟩
    rintro σ' H13 ⟨K1, rfl, s13, hK1, gK13⟩
    have st13 := st12.same s13
    have nKp : K1 ∉ [p] := fun m => by
      rw [List.mem_singleton.mp m] at hK1
      exact st12.hp.ex hK1
    clear st11 gs11 gg11 gp11 gs12 gg12 gp12 lg lg12 hp12 b12 d0 d1
    generalize flipE Rw.length fl E = EF at md2 gK13
    refine ⟨_, rfl, _, rfl, _, rfl, _, rfl, p, g, K1, z, Rw, EF, Rw.length, z.length, rfl, st13.hp, az, rfl, st13.gr, ⟨gK13, nKp⟩, fm, pn, by omega, md2.nd, md2.lt, fun x3 R5 E5 H14 hmx3 lf5 hp14 b14 => ?_⟩
    have st14 := st13.but hp14 b14
    have mx14 := hmx3 [p] (onlyP st13.hp)
    have gK14 := b14 _ _ gK13 fun e => nKp (List.mem_singleton.mpr e)
    refine ⟨_, rfl, _, rfl, g, K1, Rw, EF, Rw.length, z.length, rfl, st14.gr.nil, ⟨gK14, fun m => nomatch m⟩, fm, pn, by omega, by omega, fun t3 R6 E6 H15 s15 htx3 lf6 => ?_⟩
    obtain ⟨rfl, rfl⟩ := lf6.det lf5
    have lf5o : LfOk z.length R6 E6 := LfOk.of fm pn (by omega) hi lf5
    have st15 := st14.same s15
    have mx15 := mx14.same s15
    have tx15 := htx3 [p] (onlyP hp14)
    clear hmx3 htx3 st12 st13 st14 mx14 hp14 b14 s15 s13 gK13 gK14
    refine ⟨_, _, rfl, ?_⟩
    refine ⟨_, rfl, _, rfl, _, rfl, _, _, z, _, _, z.length, rfl, az, mx15.nil, tx15.nil, lf5o, fun H16 s16 => ?_⟩
    refine ⟨_, rfl, iteF ?_⟩
    have st16 := st15.same s16
    have mx16 := mx15.same s16
    have tx16 := tx15.smx sp st15.hp.lsts (SmX.of s16)
    obtain ⟨dx3, fs3, ex3, _⟩ := mx16.nn
    refine ⟨_, rfl, _, rfl, x3, dx3, fs3, rfl, ex3, secK st16.mx, _, _, _, _, _, _, rfl, mx16.nil, lf5o, .inr ⟨_, _, _, _, _, rfl, st16.mx.nil, lfo, _, rfl, _, rfl, _, rfl, _, _, tx16.dp, st16.tx.dp, (sm_told lf5o).shaped, (sm_told lfo).shaped, rfl, false, eqtwo, iteF ?_⟩⟩
    refine ⟨_, rfl, _, rfl, x3, dx3, fs3, rfl, ex3, secK st16.mx, _, _, _, _, _, _, rfl, mx16.nil, lf5o, .inr ⟨_, _, _, _, _, rfl, st16.mx.nil, lfo, _, rfl, _, rfl, _, rfl, _, _, tx16.dp, st16.tx.dp, (sm_told lf5o).shaped, (sm_told lfo).shaped, rfl, false, eqtwoN, iteF ?_⟩⟩
    clear st15 mx15 tx15 mx16 tx16 ex3 lf5o lf5 lf6 md2 s16
    -- what is passed can be changed later
    obtain ⟨gs16, gg16, _, gp16⟩ := st16.gr
    have lg16 : gs16.length = Rw.length := paired_lenM gp16
    refine ⟨fun σ' H' => ∃ (Pd Gv : Addr) (xs : List V), σ' = [some (.ref p), some (.str z), some (.ref g), some (.ref st), some (.ref t), some (.ref x), some (.ref g2), some (.ref s2), some (.ref x2), some (.int (fl : Nat)), some (.ref K1), some (.ref x3), some (.ref t3), some (.ref Pd), some (.ref Gv), none, none, none, none, none, none, none, none, none] ∧ Same H16 H' ∧ H16 Pd = none ∧ H16 Gv = none ∧ Pd ≠ Gv ∧ H' Pd = some (.lst xs) ∧ H' Gv = some (.lst (vN' E))
      ∧ Paired (fun x r => ∃ b : Addr, x = .ref b ∧ H16 b = none ∧ b ≠ Pd ∧ b ≠ Gv ∧ H' b = some (.lst (vN' r))) xs Rw, ?_, ?_⟩
    · refine ⟨_, rfl, g, rfl, ⟨_, SqL.of gg16⟩, fun Pd hPd => ?_⟩
      refine lc_it (walk_list (xs := gs16)) (fun q Hq => Same H16 Hq ∧ ∃ xs, Hq Pd = some (.lst xs) ∧ xs.length = q ∧ Paired (fun x r => ∃ b : Addr, x = .ref b ∧ H16 b = none ∧ b ≠ Pd ∧ Hq b = some (.lst (vN' r))) xs (Rw.take q)) ?_ ?_ ?_ ?_
      · exact ⟨(Same.refl H16).upd hPd, [], upd_same, rfl, .nil⟩
      · rintro q Hq _ ⟨sq, _⟩
        exact SqL.of (sq _ _ gg16)
      · rintro q y Hq0 Hq hq ⟨sq, xs, cq, lq, pq⟩ ⟨rfl, hy⟩
        obtain ⟨r, er, b, rfl, _, gb⟩ := paired_getM gp16 hy
        have hq' : q < gs16.length := hq
        refine ⟨rfl, _, rfl, b, _, rfl, .inl (SqL.of (sq _ _ gb)), fun L hL => ?_⟩
        have sL : Same Hq (upd Hq L (.lst (vN' r))) := (Same.refl Hq).upd hL
        have nLP : L ≠ Pd := fun e => by rw [e, cq] at hL; cases hL
        refine ⟨xs, sL _ _ cq, (by rw [lq, sz]; omega), (sq.trans sL).upd hPd, xs ++ [.ref L], upd_same, (by rw [List.length_append, lq]; rfl), ?_⟩
        rw [take_snoc er]
        refine paired_snoc (L2.Paired.mapP pq fun x r ⟨b, e, h0, n1, g⟩ => ⟨b, e, h0, n1, ?_⟩) ⟨L, rfl, sq.none hL, nLP, ?_⟩
        · rw [upd_ne n1]
          exact sL _ _ g
        · rw [upd_ne nLP]
          exact upd_same
      · rintro Hq ⟨sq, xs, cq, lq, pq⟩
        rw [lg16, List.take_length] at pq
        refine ⟨_, rfl, st, _, rfl, .inl (SqL.of (sq _ _ st16.gs.1)), fun Gv hGv => ?_⟩
        have sG : Same Hq (upd Hq Gv (.lst (vN' E))) := (Same.refl Hq).upd hGv
        refine ⟨_, _, rfl, Pd, Gv, xs, rfl, sq.trans sG, hPd, sq.none hGv, ne_of_none cq hGv, sG _ _ cq, upd_same, L2.Paired.mapP pq fun x r ⟨b, e, h0, n1, g⟩ => ⟨b, e, h0, n1, ne_of_none g hGv, sG _ _ g⟩⟩
    rintro σ' H17 ⟨Pd, Gv, xs, rfl, s17, hPd0, hGv0, nPG, gP17, gG17, pp17⟩
    have st17 := st16.same s17
    have lxs : xs.length = Rw.length := paired_lenM pp17
    obtain ⟨r0, er0, _, lr0⟩ := fm.row pn
    obtain ⟨xb0, exb0, b0, rfl, hb0, nbP, nbG, gb17⟩ := paired_getR pp17 er0
    refine ⟨_, rfl, _, rfl, _, rfl, fun x4 dxx hxx hdx hne => make_machW hxx hdx hne az rfl ⟨Pd, xs, rfl, .inl gP17, L2.Paired.mapP pp17 fun x r ⟨b, e, _, _, _, g⟩ => ⟨b, e, .inl g⟩⟩ fm pn (by omega) ⟨Gv, rfl, .inl gG17⟩ md.nd md.lt (fun H18 R7 E7 hmx4 lf7 s18 => ?_)⟩
    obtain ⟨rfl, rfl⟩ := lf7.det lf1
    have mx18 := hmx4 [Pd, Gv, b0, p] fun a ha => by
      rcases List.mem_cons.mp ha with rfl | ha
      · rw [gP17]
        exact fun z => nomatch z
      · rcases List.mem_cons.mp ha with rfl | ha
        · rw [gG17]
          exact fun z => nomatch z
        · rcases List.mem_cons.mp ha with rfl | ha
          · rw [gb17]
            exact fun z => nomatch z
          · rw [List.mem_singleton.mp ha]
            exact st17.hp.ex
    have gP18 := s18 _ _ gP17
    have gG18 := s18 _ _ gG17
    have gb18 := s18 _ _ gb17
    have s1618 := s17.trans s18
    refine ⟨_, rfl, Pd, _, ((0 : Nat) : Int), _, rfl, rfl, SqL.of gP18, atI_nat exb0, .inl ⟨rfl, _, SqL.of gb18⟩, b0, _, rfl, rfl, gb18, ?_⟩
    have x19 : SmX [Pd, Gv, b0, p] H18 (upd H18 b0 (.lst [])) := (SmX.refl _ _).put (List.mem_cons_of_mem _ (List.mem_cons_of_mem _ List.mem_cons_self))
    have gP19 : upd H18 b0 (.lst []) Pd = some (.lst xs) := by rw [upd_ne (Ne.symm nbP)]; exact gP18
    have gG19 : upd H18 b0 (.lst []) Gv = some (.lst (vN' E)) := by rw [upd_ne (Ne.symm nbG)]; exact gG18
    have s19 : Same H16 (upd H18 b0 (.lst [])) := s1618.upd hb0
    generalize upd H18 b0 (.lst []) = H19 at x19 gP19 gG19 s19 ⊢
    refine ⟨_, rfl, .inl ⟨rfl, _, SqL.of gP19⟩, Pd, _, _, rfl, rfl, gP19, (by rw [lxs, sz]; omega), ?_⟩
    have x20 : SmX [Pd, Gv, b0, p] H18 (upd H19 Pd (.lst (xs ++ [.non]))) := x19.put List.mem_cons_self
    have gG20 : upd H19 Pd (.lst (xs ++ [.non])) Gv = some (.lst (vN' E)) := by rw [upd_ne (Ne.symm nPG)]; exact gG19
    have s20 : Same H16 (upd H19 Pd (.lst (xs ++ [.non]))) := s19.upd hPd0
    generalize upd H19 Pd (.lst (xs ++ [.non])) = H20 at x20 gG20 s20 ⊢
    have lE : E.length ≤ Rw.length := by
      have := nodup_sub md.nd (m := List.range Rw.length) fun s hs => List.mem_range.mpr (md.lt s hs)
      rwa [List.length_range] at this
    refine ⟨_, rfl, .inl ⟨rfl, _, SqL.of gG20⟩, Gv, _, _, rfl, rfl, gG20, (by rw [ints_len, sz]; omega), ?_⟩
    have x21 : SmX [Pd, Gv, b0, p] H18 (upd H20 Gv (.lst (vN' E ++ [.int 0]))) := x20.put (List.mem_cons_of_mem _ List.mem_cons_self)
    have s21 : Same H16 (upd H20 Gv (.lst (vN' E ++ [.int 0]))) := s20.upd hGv0
    generalize upd H20 Gv (.lst (vN' E ++ [.int 0])) = H21 at x21 s21 ⊢
    have st21 := st16.same s21
    have mx21 := mx18.smx (fun _ m => m) (fun a ha => by
      rcases List.mem_cons.mp ha with rfl | ha
      · exact ⟨_, gP18⟩
      · rcases List.mem_cons.mp ha with rfl | ha
        · exact ⟨_, gG18⟩
        · rcases List.mem_cons.mp ha with rfl | ha
          · exact ⟨_, gb18⟩
          · exact (Same.pot s18 st17.hp).lsts a ha) x21
    clear hmx4 mx18 x19 x20 x21 s19 s20 gP19 gG19 gG20 gP18 gG18 gb18 gb17 gP17 gG17 pp17 st16 st17 s17 s18 s1618 gg16 gp16 lf7
    refine ⟨_, rfl, _, rfl, _, rfl, _, _, z, _, _, z.length, rfl, az, mx21.nil, st21.tx.nil, lfo, fun H22 s22 => ?_⟩
    refine ⟨_, rfl, iteF ?_⟩
    have st22 := st21.same s22
    have mx22 := mx21.same s22
    obtain ⟨dx4, fs4, ex4, _⟩ := mx22.nn
    refine ⟨_, rfl, _, rfl, x4, dx4, fs4, rfl, ex4, secK st22.mx, _, _, _, _, _, _, rfl, mx22.nil, lfo, .inr ⟨_, _, _, _, _, rfl, st22.mx.nil, lfo, _, rfl, false, congrArg V.bl (by rw [decide_eq_true ⟨rfl, rfl, rfl⟩]; rfl), iteF ?_⟩⟩
    clear mx21 mx22 ex4 st21 s21 s22
    -- other signs
    refine ⟨_, rfl, fun C hC => ?_⟩
    have keepF : ∀ c, (!decide (c ∈ z.cps.toList)) = true → c ∉ z.cps.toList := fun c h q => by rw [decide_eq_true q] at h; cases h
    refine lc_it walk_str (fun j Hj => Same H22 Hj ∧ Hj C = some (.lst ((([45, 48, 97, 122, 124].take j).filter fun c => !decide (c ∈ z.cps.toList)).map sign))) ?_ ?_ ?_ ?_
    · exact ⟨(Same.refl H22).upd hC, upd_same⟩
    · intro _ _ _ _
      trivial
    · rintro j xv Hj0 Hj hj ⟨sj, gC⟩ ⟨rfl, c, hc, rfl⟩
      have hc : ([45, 48, 97, 122, 124] : List Nat)[j]? = some c := by rw [← cz]; simpa using hc
      refine ⟨rfl, _, rfl, _, rfl, _, _, rfl, rfl, _, rfl, ?_⟩
      rw [PySem.StrLaws.found_one, take_snoc hc, List.filter_append, List.map_append]
      cases hb : decide (c ∈ z.cps.toList) with
      | true =>
        refine iteF ⟨sj, ?_⟩
        rw [List.filter_cons, hb]
        show Hj C = some (.lst (_ ++ []))
        rw [List.append_nil]
        exact gC
      | false =>
        refine iteT ⟨_, rfl, _, gC, ?_, sj.upd hC, ?_⟩
        · rw [List.length_map]
          have h1 := List.length_filter_le (fun c => !decide (c ∈ z.cps.toList)) (([45, 48, 97, 122, 124] : List Nat).take j)
          have h2 : (([45, 48, 97, 122, 124] : List Nat).take j).length ≤ 5 := by rw [List.length_take]; exact Nat.min_le_right _ _
          rw [sz]
          omega
        · rw [upd_same, List.filter_cons, hb]
          rfl
    rintro H23 ⟨s23, gC⟩
    have etk : ([45, 48, 97, 122, 124] : List Nat).take (Str.ofString "-0az|").cps.size = [45, 48, 97, 122, 124] := by decide +kernel
    rw [etk] at gC
    obtain ⟨c, l, el⟩ : ∃ c l, ([45, 48, 97, 122, 124] : List Nat).filter (fun c => !decide (c ∈ z.cps.toList)) = c :: l := by
      cases e : ([45, 48, 97, 122, 124] : List Nat).filter (fun c => !decide (c ∈ z.cps.toList)) with
      | cons c l => exact ⟨c, l, rfl⟩
      | nil =>
        exfalso
        have all := List.filter_eq_nil_iff.mp e
        have := nodup_sub (l := [45, 48, 97, 122, 124]) (m := z.cps.toList) (by decide) fun c hc => by
          have := all c hc
          simpa using this
        rw [← str_len] at this
        have h2 : ([45, 48, 97, 122, 124] : List Nat).length = 5 := rfl
        omega
    rw [el] at gC
    have mc : c ∈ ([45, 48, 97, 122, 124] : List Nat).filter (fun c => !decide (c ∈ z.cps.toList)) := by rw [el]; exact List.mem_cons_self
    obtain ⟨m1, m2⟩ := List.mem_filter.mp mc
    have ncz := keepF c m2
    have cpool : c ∈ poolCodes := by
      have a : ∀ c ∈ ([45, 48, 97, 122, 124] : List Nat), c ∈ poolCodes := by decide +kernel
      exact a c m1
    have st23 := st22.same s23
    have lz : z.length ≤ sizeLine := by rw [sz]; omega
    have lcut := cutS_length z (some 1) none
    have l1 : (⟨#[c]⟩ : Str).length = 1 := rfl
    refine ⟨C, _, 0, sign c, rfl, rfl, SqL.of gC, atI_nat (j := 0) rfl, ?_⟩
    refine ⟨⟨_, rfl⟩, _, rfl, 1, rfl, z, rfl, lz, _, rfl, _, _, rfl, rfl, (by rw [l1, sz]; omega), _, rfl, (by rw [len_app, l1]; omega), fun ys q pm so hq => ?_⟩
    obtain ⟨j1, j2, j3, j4⟩ := alien_ofM az ncz cpool (by rw [cut_tail, List.drop_one]) pm so
    refine ⟨_, q, ys, rfl, rfl, .inl (SqL.of upd_same), j1, ?_⟩
    have st24 := st23.same ((Same.refl H23).upd (o := .lst (ys.map V.str)) hq)
    generalize upd H23 q (.lst (ys.map V.str)) = H24 at st24 ⊢
    generalize Txt.join (Str.ofString "") ys = zz at j2 j3 j4 ⊢
    obtain ⟨gs24, gg24, _, gp24⟩ := st24.gr
    refine ⟨_, rfl, _, rfl, fun x5 dxx hxx hdx hne => make_machW hxx hdx hne j2 j4 ⟨g, gs24, rfl, .inl gg24, L2.Paired.mapP gp24 fun x r ⟨b, e, _, gb⟩ => ⟨b, e, .inl gb⟩⟩ fm pn (by omega) ⟨st, rfl, .inl st24.gs.1⟩ md.nd md.lt (fun H25 R8 E8 hmx5 lf8 s25 => ?_)⟩
    obtain ⟨rfl, rfl⟩ := lf8.det lf1
    have st25 := st24.same s25
    have mx25 := hmx5 [] (fun _ m => nomatch m)
    clear hmx5 lf8 gg24 gp24 st22 st23 st24 s23 gC hC pm so hq j1
    obtain ⟨dx5, fs5, ex5, no5⟩ := mx25.nn
    obtain ⟨dx, fs, ex, no⟩ := st25.mx.nn
    have nzz : ∀ {q : Prop}, ¬ (zz = z ∧ q) := fun h => j3 h.1
    have nzz2 : ∀ {q : Prop}, ¬ (z = zz ∧ q) := fun h => j3 h.1.symm
    refine ⟨_, rfl, _, rfl, x5, dx5, fs5, rfl, ex5, secK st25.mx, _, _, _, _, _, _, rfl, mx25, lfo, .inr ⟨_, _, _, _, _, rfl, st25.mx.nil, lfo, _, rfl, false, congrArg V.bl (decide_eq_false nzz), iteF ?_⟩⟩
    refine ⟨_, rfl, _, rfl, x, dx, fs, rfl, ex, secK mx25, _, _, _, _, _, _, rfl, st25.mx.nil, lfo, .inr ⟨_, _, _, _, _, rfl, mx25, lfo, _, rfl, false, congrArg V.bl (decide_eq_false nzz2), iteF ?_⟩⟩
    refine ⟨_, rfl, _, rfl, x5, dx5, fs5, rfl, ex5, secK st25.mx, _, _, _, _, _, _, rfl, mx25, lfo, .inr ⟨_, _, _, _, _, rfl, st25.mx.nil, lfo, _, rfl, true, congrArg V.bl (by rw [decide_eq_false nzz]; rfl), iteF ?_⟩⟩
    refine ⟨_, rfl, x5, dx5, fs5, rfl, ex5, no5 a1 a2 a3, x5, zz, _, _, rfl, mx25, fun D5 ys5 H26 hD5 gD5 hy5 s26 => ?_⟩
    have st26 := st25.same s26
    obtain ⟨dx6, fs6, ex6, no6⟩ := st26.mx.nn
    refine ⟨_, rfl, x, dx6, fs6, rfl, ex6, no6 a1 a2 a3, x, z, _, _, rfl, st26.mx.nil, fun D6 ys6 H27 hD6 gD6 hy6 s27 => ?_⟩
    have st27 := st26.same s27
    refine ⟨_, _, dp_rowsD (s27 _ _ gD5) (hy5.same fun a o e => s27 a _ e), dp_rowsD gD6 hy6, lfo.smR.shaped, lfo.smR.shaped, false, congrArg V.bl (by rw [eqv_rowsD, decide_eq_true rfl]; rfl), iteF ?_⟩
    clear st25 st26 mx25 ex5 no5 ex no ex6 no6 hD5 gD5 hy5 hD6 gD6 hy6 s25 s26 s27
    -- the same one again
    obtain ⟨dx, fs, ex, no⟩ := st27.mx.nn
    refine ⟨_, rfl, _, rfl, x, dx, fs, rfl, ex, no a1 a2 a3, x, z, _, _, rfl, st27.mx.nil, fun D7 ys7 H28 hD7 gD7 hy7 s28 => ?_⟩
    have st28 := st27.same s28
    obtain ⟨dx8, fs8, ex8, no8⟩ := st28.mx.nn
    refine ⟨_, rfl, x, dx8, fs8, rfl, ex8, no8 c1 c2 c3, x, z, _, _, rfl, st28.mx.nil, fun D8 H29 hD8 gD8 s29 => ?_⟩
    have st29 := st28.same s29
    refine fun x6 dxx hxx hdx hne => make_machW hxx hdx hne az rfl ⟨D7, ys7, rfl, .inl (s29 _ _ gD7), L2.Paired.mapP hy7 fun x r ⟨b, e, gb⟩ => ⟨b, e, .inr (s29 _ _ gb)⟩⟩ lfo.frm lfo.pos lfo.few ⟨D8, rfl, .inl gD8⟩ (lfo.up.imp fun h => Nat.ne_of_lt h) lfo.lt (fun H30 R9 E9 hmx6 lf9 s30 => ?_)
    obtain ⟨rfl, rfl⟩ := lf9.det (lf1.self fm pn)
    have st30 := st29.same s30
    have mx30 := hmx6 [] (fun _ m => nomatch m)
    clear hmx6 lf9 st27 st28 st29 ex no ex8 no8 hD7 gD7 hy7 hD8 gD8 s28 s29 s30
    obtain ⟨dx, fs, ex, no⟩ := st30.mx.nn
    refine ⟨_, rfl, _, rfl, x, dx, fs, rfl, ex, no a1 a2 a3, x, z, _, _, rfl, st30.mx.nil, fun A1 ys1 H31 hA1 gA1 hy1 s31 => ?_⟩
    have st31 := st30.same s31
    obtain ⟨dx1, fs1, ex1, no1⟩ := st31.mx.nn
    refine ⟨_, rfl, x, dx1, fs1, rfl, ex1, x, z, _, _, z.length, rfl, st31.mx.nil, az, lfo, _, rfl, ?_⟩
    refine ⟨_, rfl, _, rfl, x, dx1, fs1, rfl, ex1, no1 a1 a2 a3, x, z, _, _, rfl, st31.mx.nil, fun A2 ys2 H32 hA2 gA2 hy2 s32 => ?_⟩
    have st32 := st31.same s32
    obtain ⟨dx2, fs2, ex2, no2⟩ := st32.mx.nn
    refine ⟨_, rfl, x, dx2, fs2, rfl, ex2, no2 c1 c2 c3, x, z, _, _, rfl, st32.mx.nil, fun A3 H33 hA3 gA3 s33 => ?_⟩
    refine ⟨by show 3 ≤ sizeLine; decide, fun T hT => ?_⟩
    have s34 : Same H33 (upd H33 T (.tup [.str z, .ref A2, .ref A3])) := (Same.refl H33).upd hT
    have gT : upd H33 T (.tup [.str z, .ref A2, .ref A3]) T = some (.tup [.str z, .ref A2, .ref A3]) := upd_same
    generalize upd H33 T (.tup [.str z, .ref A2, .ref A3]) = H34 at s34 gT ⊢
    have gA34 := s34 _ _ (s33 _ _ (s32 _ _ gA1))
    refine ⟨by show 6 ≤ sizeLine; decide, fun S hS => ?_⟩
    have s3034 := s31.trans (s32.trans (s33.trans s34))
    have gS0 : upd H34 S (.lst [.non, .int 0, .str z, .ref A1, .str (reprM z R9 E9), .ref T]) S = some (.lst [.non, .int 0, .str z, .ref A1, .str (reprM z R9 E9), .ref T]) := upd_same
    have s3035 : Same H30 (upd H34 S (.lst [.non, .int 0, .str z, .ref A1, .str (reprM z R9 E9), .ref T])) := s3034.upd (s3034.none hS)
    have s3435 : Same H34 (upd H34 S (.lst [.non, .int 0, .str z, .ref A1, .str (reprM z R9 E9), .ref T])) := (Same.refl H34).upd hS
    generalize upd H34 S (.lst [.non, .int 0, .str z, .ref A1, .str (reprM z R9 E9), .ref T]) = H35 at gS0 s3035 s3435 ⊢
    have st35 := st30.same s3035
    have mx35 := mx30.same s3035
    have gA35 := s3435 _ _ gA34
    have gT35 := s3435 _ _ gT
    have each : ∀ (q : Nat) (v : V), [V.non, .int 0, .str z, .ref A1, .str (reprM z R9 E9), .ref T][q]? = some v → ∃ n, Any H35 v n := fun q v e => by
      match q, e with
      | 0, e => cases e; exact ⟨_, .non⟩
      | 1, e => cases e; exact ⟨_, .int 0⟩
      | 2, e => cases e; exact ⟨_, .str z⟩
      | 3, e => cases e; exact ⟨_, .lst gA35⟩
      | 4, e => cases e; exact ⟨_, .str _⟩
      | 5, e => cases e; exact ⟨_, .tup gT35⟩
    clear ex no ex1 no1 ex2 no2 hA1 gA1 hy1 hA2 gA2 hy2 hA3 gA3 st30 mx30 st31 st32 s31 s32 s33 s34 s3034 gT gA34 hT hS
    obtain ⟨dx7, fs7, ex7, _⟩ := mx35.nn
    obtain ⟨dx8, fs8, ex8, _⟩ := st35.mx.nn
    refine ⟨_, rfl, _, rfl, x6, dx7, fs7, rfl, ex7, secK st35.mx, _, _, _, _, _, _, rfl, mx35, lfo, .inr ⟨_, _, _, _, _, rfl, st35.mx.nil, lfo, _, rfl, true, congrArg V.bl (decide_eq_true ⟨rfl, rfl, rfl⟩), iteT ?_⟩⟩
    refine ⟨_, rfl, S, rfl, ⟨_, SqL.of gS0⟩, fun D hD => ?_⟩
    refine lc_it (walk_list (xs := [V.non, .int 0, .str z, .ref A1, .str (reprM z R9 E9), .ref T])) (fun q Hq => Same H35 Hq ∧ Hq D = some (.lst ((List.replicate q false).map V.bl))) ?_ ?_ ?_ ?_
    · exact ⟨(Same.refl H35).upd hD, upd_same⟩
    · rintro q Hq _ ⟨sq, _⟩
      exact SqL.of (sq _ _ gS0)
    · rintro q v Hq0 Hq hq ⟨sq, cq⟩ ⟨rfl, hv⟩
      obtain ⟨n, an⟩ := each q v hv
      have an' : Any Hq v n := an.same fun a o _ e => sq a o e
      have hq6 : q < 6 := hq
      refine ⟨rfl, _, rfl, _, rfl, x, dx8, fs8, rfl, sq _ _ ex8, .inl ⟨n, an'⟩, _, _, _, _, _, _, rfl, (st35.mx.nil).same sq, lfo, .inl ⟨n, an', _, rfl, _, cq, (by rw [List.length_map, List.length_replicate, sz]; omega), sq.upd hD, ?_⟩⟩
      rw [upd_same, List.replicate_succ', List.map_append]
      rfl
    · rintro H36 ⟨s36, cq⟩
      refine ⟨D, List.replicate _ false, rfl, SqL.of cq, ?_⟩
      have anyF : ∀ j, (List.replicate j false).any id = false := fun j => by
        induction j with
        | zero => rfl
        | succ j ih => rw [List.replicate_succ, List.any_cons, ih]; rfl
      rw [anyF]
      refine ⟨_, rfl, _, rfl, iteT ?_⟩
      have st36 := st35.same s36
      refine ⟨_, rfl, _, rfl, _, rfl, _, _, z, _, _, z.length, rfl, az, st36.mx.nil, st36.tx.nil, lfo, fun H37 s37 => ?_⟩
      have st37 := st36.same s37
      exact k H37 st37.hp st37.b
end
end K11
namespace K11
open PySem PySem.Spec PyProof.Rows L2 FL
abbrev sLaw : Stmt := topS 52
theorem scLaw : FnScope ["_law_script", "_law_k"] ["_law_script"] (defScope sLaw) := ⟨rfl, rfl, rfl, by decide +kernel, rfl, by decide +kernel, by decide +kernel⟩
theorem all_trueM : ∀ n, (List.replicate n true).all id = true := fun j => by
  induction j with
  | zero => rfl
  | succ j ih => rw [List.replicate_succ, List.all_cons, ih]; rfl
section
variable {P : Program} {w : World} {K : PySem.W.Frag} {mg : Str → Option Value} {base : Heap}
theorem ok_law {f : Addr} {fd : FuncData} (F : Fun K "law" "law" sLaw f fd) (mA : mg "all" = none) (mG : mg "range" = none) (mX : mg "max" = none) (mI : mg "min" = none) (mN : mg "len" = none)
    (cP : Ca P w K mg base "_law_pot" 1 ["_law_script", "_law_k"] (spPot K)) (cR : CaG P w K mg base "_law_right" 8 ["_law_pot_here"] spRightM) :
    FnG P w K mg base CX0 9 f fd ["_law_script"] (FL.spLaw K) := by
  refine okG F scLaw (fun vs H Q E h => ?_) (fun cdv A outer s H vs Q E hr hg h => ?_)
  · obtain ⟨_, _, rfl, _⟩ := h
    rfl
  · obtain ⟨a, ns, rfl, hs, ln, k⟩ := h
    have nd := scLaw.nd
    have hr1 := hr.mono (show 1 ≤ 8 by decide)
    refine ⟨_, pss_one (ps_ret (pe_callB (cr_all rfl) (by rfl) mA (by decide +kernel) (pa_cons (pe_lc (own := [("_law_k", 1)]) (g := gName 1) (tt := tYes)
      (te := tCall spRightM [] E0 (tCons (tCall (spPot K) [] E0 (tCons (tVar 0) (tCons (tVar 1) tNil))) tNil)) rfl nd
      (pi_range1 (by rfl) mG (pa_cons (pe_callB (call_max2 rfl) (by rfl) mX (by decide +kernel) (pa_cons pe_int (pa_cons (pe_callB (call_min2 rfl) (by rfl) mI (by decide +kernel)
        (pa_cons (pe_callB callLen (by rfl) mN PySem.boot_len (pa_cons (pv 0) pa_nil)) (pa_cons pe_int pa_nil))) pa_nil))) pa_nil))
      (blkOk_by (N := ["_law_script", "_law_k"]) (sc := defScope sLaw) (by decide +kernel)) (fun _ _ _ _ _ => pg_name (i := 1) nd rfl (Or.inl rfl)) (fun _ _ _ _ _ => pts_nil)
      (fun _ _ _ _ _ => pe_cg cR hr hg (by rfl) (pa_cons (pe_ca cP hr1 (by rfl) (pa_cons (pv 0) (pa_cons (pv 1) pa_nil))) pa_nil))) pa_nil))), ?_⟩
    have sz : sizeLine = 16777216 := rfl
    refine ⟨_, rfl, _, ns.length, rfl, .inl ⟨_, hs, (List.length_map _).symm⟩, _, _, rfl, _, _, rfl, ?_⟩
    refine ⟨_, rfl, (by split <;> split <;> omega), (by split <;> split <;> omega), fun D hD => ?_⟩
    refine lc_range (lo := 0) (n := _) (fun i Hi => Same H Hi ∧ Hi D = some (.lst ((List.replicate i true).map V.bl))) ?_ ?_ ?_
    · exact ⟨(Same.refl H).upd hD, upd_same⟩
    · rintro i Hi hi ⟨si, hDi⟩
      have hi4 : i < 4 := by
        revert hi
        split <;> split <;> omega
      refine ⟨rfl, _, rfl, _, rfl, a, ns, _, rfl, si.sqL hs, by omega, by omega, ln, fun q H2 hq hp2 s2 => ?_⟩
      refine ⟨q, rfl, hp2, fun H3 hp3 b3 => ?_⟩
      have nDq : D ≠ q := ne_of_none hDi hq
      have hD3 := b3 D _ (s2 _ _ hDi) nDq
      have s3 : Same Hi H3 := fun c o e => b3 c o (s2 c o e) (ne_of_none e hq)
      refine ⟨_, hD3, (by rw [List.length_map, List.length_replicate, sz]; omega), (si.trans s3).upd hD, ?_⟩
      rw [upd_same, List.replicate_succ', List.map_append]
      rfl
    · rintro Hi ⟨si, hDi⟩
      refine ⟨D, _, rfl, SqL.of hDi, ?_⟩
      rw [all_trueM]
      exact k Hi
end
end K11
namespace K11
open PySem PySem.Spec PyProof.Rows L2 FL
section
variable {P : Program} {w : World} {K : PySem.W.Frag} {mg : Str → Option Value} {h : Heap}
theorem getr_rec {m : Str} (c : recB K m = true) : ∃ rest, PySem.W.recIn K (He.ma K (He.ga K "Machine") m) "property" = some (.ref (getr m K) :: rest) := by
  unfold recB at c
  show ∃ rest, PySem.W.recIn K (me m K) "property" = _
  split at c
  · rename_i g rest e
    refine ⟨rest, ?_⟩
    unfold getr
    rw [e]
  · cases c
theorem prop_of {m : Str} (c : recB K m = true) (b : propB K m = true) : PropOf K (He.ga K "Machine") m (He.ma K (He.ga K "Machine") m) (getr m K) := by
  unfold propB at b
  simp only [Bool.and_eq_true] at b
  exact ⟨He.eqO_ok b.2.2, He.eqO_ok b.1, of_decide_eq_true b.2.1, getr_rec c⟩
theorem mo_of {C : Addr} (c : moB K C = true) : ∃ mc u, ClX.CRead K C mc ∧ ClX.CVal K C mc "MOST_STATES" (.int 300) u := by
  unfold moB at c
  simp only [Bool.and_eq_true] at c
  obtain ⟨c1, c2, c3⟩ := c
  split at c3
  · rename_i i t e
    have : i = 300 := of_decide_eq_true c3
    subst this
    exact ⟨.type "type", .int 300 t, ⟨c1, He.eqO_ok c2⟩, ⟨e, ⟨t, rfl⟩⟩⟩
  · cases c3
structure Facts (K : PySem.W.Frag) : Prop where
  gs : ∀ x ∈ glos, (He.Fa.glo x).ok K = true
  gs2 : ∀ x ∈ glos2, (He.Fa.glo x).ok K = true
  fr : ∀ x ∈ free1, (He.Fa.free x).ok K = true
  i4 : (He.Fa.str "SIGN_CHARACTERS" signChars).ok K = true
  cl : Cls K (He.ga K "Machine")
  n1 : NoAttr K (He.ga K "Machine") "_signs"
  n2 : NoAttr K (He.ga K "Machine") "_rows"
  n3 : NoAttr K (He.ga K "Machine") "_ends"
  mk_ : Mk K (He.ga K "Machine") (He.ma K (He.ga K "Machine") "__init__")
  m0 : Meth K (He.ga K "Machine") "rows" (He.ma K (He.ga K "Machine") "rows")
  m1 : Meth K (He.ga K "Machine") "ends" (He.ma K (He.ga K "Machine") "ends")
  m2 : Meth K (He.ga K "Machine") "__eq__" (He.ma K (He.ga K "Machine") "__eq__")
  m3 : Meth K (He.ga K "Machine") "__repr__" (He.ma K (He.ga K "Machine") "__repr__")
  rc_signs : recB K "signs" = true
  rc_states : recB K "states" = true
  pb_signs : propB K "signs" = true
  pb_states : propB K "states" = true
  mo : moB K (He.ga K "Machine") = true
  it : IsT K (He.ga K "Machine")
  kin : ∀ n ∈ FL.kinds, PySem.W.mroIn K (He.ga K "Machine") (.type n) = some false
  ne : PySem.W.findIn K (.ref (He.ga K "Machine")) "__ne__" = some (some (.builtin "object.__ne__"))
theorem facts_of (c : exs K = true) : Facts K := by
  unfold exs clsB at c
  simp only [Bool.and_eq_true] at c
  obtain ⟨g, g2, f, i4, cl, n1, n2, n3, mk_, m0, m1, m2, m3, rc_signs, rc_states, pb_signs, pb_states, mo, q1, q2, q3, q4, q5⟩ := c
  have kk := List.all_eq_true.mp q4
  exact ⟨List.all_eq_true.mp g, List.all_eq_true.mp g2, List.all_eq_true.mp f, i4, He.cls_ok cl, He.noat_ok n1, He.noat_ok n2, He.noat_ok n3, He.mkr_ok mk_, He.meth_ok m0, He.meth_ok m1, He.meth_ok m2, He.meth_ok m3, rc_signs, rc_states, pb_signs, pb_states, mo,
    ⟨He.cls_ok cl, He.eqO_ok q1, of_decide_eq_true q2, of_decide_eq_true q3, fun n hn => of_decide_eq_true (Bool.and_eq_true_iff.mp (kk n hn)).1⟩, fun n hn => of_decide_eq_true (Bool.and_eq_true_iff.mp (kk n hn)).2, He.eqO_ok q5⟩
end
end K11
namespace K11
open PySem PySem.Spec PyProof.Rows L2 FL
section
variable {P : Program} {w : World} {K : PySem.W.Frag} {mg : Str → Option Value} {base : Heap}
theorem bind_one {K : PySem.W.Frag} {x qual p : Str} {st : Stmt} {f : Addr} {fd : FuncData} (F : Fun K x qual st f fd)
    (h : ∀ (kV doc pm : Value) (an : Option Addr) (cdv ct : Value) (u : Value), bindArgs (PySem.W.fnOf x qual (defArgs st) (defBody st) (defScope st) .none kV doc pm an cdv ct) ⟨[u], []⟩ = pure [(p, u)]) (s : Shared) (u : Value) : BindsTo s fd ⟨[u], []⟩ [(p, u)] := by
  obtain ⟨oc, od, kV, doc, pm, an, cdv, ct, osl, rfl, lk, hcd⟩ := F.ex
  exact .of_eq (h kV doc pm an cdv ct u)
theorem ca_of {x : Str} {qual : Str} {st : Stmt} {f : Addr} {fd : FuncData} {k : Nat} {ps : List Str} {sp : Sp} (F : Fun K x qual st f fd) (m : mg x = some (.ref f)) (o : FnOk P w K mg base CX0 k f fd ps sp) (b : Binds K fd ps []) : Ca P w K mg base x k ps sp := ⟨f, fd, o, b, F.kp, m⟩
theorem cg_of {x : Str} {qual : Str} {st : Stmt} {f : Addr} {fd : FuncData} {k : Nat} {ps : List Str} {sp : Sp} (F : Fun K x qual st f fd) (m : mg x = some (.ref f)) (o : FnG P w K mg base CX0 k f fd ps sp) (b : Binds K fd ps []) : CaG P w K mg base x k ps sp := ⟨f, fd, o, b, F.kp, m⟩
end
theorem vals_rev : ∀ {zs : List V} {ws : List Value}, Vals zs ws → Vals zs.reverse ws.reverse
  | _, _, .nil => .nil
  | _, _, .cons r b => by
    rw [List.reverse_cons, List.reverse_cons]
    exact (vals_rev b).append (.cons r .nil)
theorem whole {P : Program} {w : World} {K : PySem.W.Frag} {mg : Str → Option Value} {h : Heap} (KX : K.In h) (G : h.Ns mainGlobals mg) (c : lookF defs exs K = dueF defs) :
    ∃ fd : FuncData, mg "law" = some (.ref (gl "law" K)) ∧ (∀ (s : Shared) (u : Value), BindsTo s fd ⟨[u], []⟩ [("_law_script", u)]) ∧ ∀ base : Heap, K.In base → base.Ns mainGlobals mg → FnG P w K mg base CX0 9 (gl "law" K) fd ["_law_script"] (FL.spLaw K) := by
  have T := facts_of (look_ex c)
  have g1 : ∀ x ∈ glos, mg x = some (.ref (gl x K)) := fun x hx => He.glo_ok KX G (T.gs x hx)
  have g2 : ∀ x ∈ glos2, mg x = some (.ref (gl x K)) := fun x hx => He.glo_ok KX G (T.gs2 x hx)
  have fr : ∀ x ∈ free1, mg x = none := fun x hx => He.free_ok KX G (T.fr x hx)
  obtain ⟨tk4, mC⟩ := He.str_ok KX G T.i4
  obtain ⟨d0, F0⟩ := look_fn c 0 (d := glD "is_integer" 12) rfl
  obtain ⟨d1, F1⟩ := look_fn c 1 (d := glD "is_list" 13) rfl
  obtain ⟨d2, F2⟩ := look_fn c 2 (d := glD "is_signs" 14) rfl
  obtain ⟨d3, F3⟩ := look_fn c 3 (d := glD "is_line" 15) rfl
  obtain ⟨d4, F4⟩ := look_fn c 4 (d := glD "check_signs" 17) rfl
  obtain ⟨d5, F5⟩ := look_fn c 5 (d := glD "is_place" 19) rfl
  obtain ⟨d6, F6⟩ := look_fn c 6 (d := glD "is_row" 20) rfl
  obtain ⟨d7, F7⟩ := look_fn c 7 (d := glD "check_rows" 21) rfl
  obtain ⟨d8, F8⟩ := look_fn c 8 (d := glD "check_ends" 22) rfl
  obtain ⟨d9, F9⟩ := look_fn c 9 (d := glD "least_form" 27) rfl
  obtain ⟨d10, F10⟩ := look_fn c 10 (d := glD "numbered" 28) rfl
  obtain ⟨d11, F11⟩ := look_fn c 11 (d := glD "alike_blocks" 29) rfl
  obtain ⟨d12, F12⟩ := look_fn c 12 (d := glD "first_blocks" 30) rfl
  obtain ⟨d13, F13⟩ := look_fn c 13 (d := glD "block_places" 31) rfl
  obtain ⟨d14, F14⟩ := look_fn c 14 (d := glD "back_steps" 32) rfl
  obtain ⟨d15, F15⟩ := look_fn c 15 (d := glD "parts_leading" 33) rfl
  obtain ⟨d16, F16⟩ := look_fn c 16 (d := glD "halves" 34) rfl
  obtain ⟨d17, F17⟩ := look_fn c 17 (d := meD "__init__" "Machine.__init__" 1) rfl
  obtain ⟨d18, F18⟩ := look_fn c 18 (d := ⟨getr "signs", "signs", "Machine.signs", inClass (topS 37) 9⟩) rfl
  obtain ⟨d19, F19⟩ := look_fn c 19 (d := ⟨getr "states", "states", "Machine.states", inClass (topS 37) 10⟩) rfl
  obtain ⟨d20, F20⟩ := look_fn c 20 (d := meD "rows" "Machine.rows" 11) rfl
  obtain ⟨d21, F21⟩ := look_fn c 21 (d := meD "ends" "Machine.ends" 12) rfl
  obtain ⟨d22, F22⟩ := look_fn c 22 (d := meD "__eq__" "Machine.__eq__" 25) rfl
  obtain ⟨d23, F23⟩ := look_fn c 23 (d := meD "__repr__" "Machine.__repr__" 26) rfl
  obtain ⟨d24, F24⟩ := look_fn c 24 (d := glD "_law_pot" 40) rfl
  obtain ⟨d25, F25⟩ := look_fn c 25 (d := glD "_law_draw" 41) rfl
  obtain ⟨d26, F26⟩ := look_fn c 26 (d := glD "_law_mixed" 43) rfl
  obtain ⟨d27, F27⟩ := look_fn c 27 (d := glD "_law_alpha" 44) rfl
  obtain ⟨d28, F28⟩ := look_fn c 28 (d := glD "_law_model" 45) rfl
  obtain ⟨d29, F29⟩ := look_fn c 29 (d := glD "_law_apart" 46) rfl
  obtain ⟨d30, F30⟩ := look_fn c 30 (d := glD "_law_least" 47) rfl
  obtain ⟨d31, F31⟩ := look_fn c 31 (d := glD "_law_twin" 48) rfl
  obtain ⟨d32, F32⟩ := look_fn c 32 (d := glD "_law_made" 49) rfl
  obtain ⟨d33, F33⟩ := look_fn c 33 (d := glD "_law_is" 50) rfl
  obtain ⟨d34, F34⟩ := look_fn c 34 (d := glD "_law_right" 51) rfl
  obtain ⟨d35, F35⟩ := look_fn c 35 (d := glD "law" 52) rfl
  have b0 : Binds K d0 ["value"] [] := F0.binds fun _ _ _ _ _ _ us hl => match us, hl with | [_], _ => rfl
  have b1 : Binds K d1 ["value"] [] := F1.binds fun _ _ _ _ _ _ us hl => match us, hl with | [_], _ => rfl
  have b2 : Binds K d2 ["value"] [] := F2.binds fun _ _ _ _ _ _ us hl => match us, hl with | [_], _ => rfl
  have b3 : Binds K d3 ["signs", "value"] [] := F3.binds fun _ _ _ _ _ _ us hl => match us, hl with | [_, _], _ => rfl
  have b4 : Binds K d4 ["signs"] [] := F4.binds fun _ _ _ _ _ _ us hl => match us, hl with | [_], _ => rfl
  have b5 : Binds K d5 ["value", "many"] [] := F5.binds fun _ _ _ _ _ _ us hl => match us, hl with | [_, _], _ => rfl
  have b6 : Binds K d6 ["value", "size", "states"] [] := F6.binds fun _ _ _ _ _ _ us hl => match us, hl with | [_, _, _], _ => rfl
  have b7 : Binds K d7 ["signs", "rows"] [] := F7.binds fun _ _ _ _ _ _ us hl => match us, hl with | [_, _], _ => rfl
  have b8 : Binds K d8 ["states", "ends"] [] := F8.binds fun _ _ _ _ _ _ us hl => match us, hl with | [_, _], _ => rfl
  have b9 : Binds K d9 ["rows", "ends", "most"] [] := F9.binds fun _ _ _ _ _ _ us hl => match us, hl with | [_, _, _], _ => rfl
  have b10 : Binds K d10 ["rows", "start", "ends"] [] := F10.binds fun _ _ _ _ _ _ us hl => match us, hl with | [_, _, _], _ => rfl
  have b11 : Binds K d11 ["rows", "ends", "most"] [] := F11.binds fun _ _ _ _ _ _ us hl => match us, hl with | [_, _, _], _ => rfl
  have b12 : Binds K d12 ["states", "ends"] [] := F12.binds fun _ _ _ _ _ _ us hl => match us, hl with | [_, _], _ => rfl
  have b13 : Binds K d13 ["blocks"] [] := F13.binds fun _ _ _ _ _ _ us hl => match us, hl with | [_], _ => rfl
  have b14 : Binds K d14 ["rows", "place"] [] := F14.binds fun _ _ _ _ _ _ us hl => match us, hl with | [_, _], _ => rfl
  have b15 : Binds K d15 ["splitter", "back", "where"] [] := F15.binds fun _ _ _ _ _ _ us hl => match us, hl with | [_, _, _], _ => rfl
  have b16 : Binds K d16 ["block", "part"] [] := F16.binds fun _ _ _ _ _ _ us hl => match us, hl with | [_, _], _ => rfl
  have b17 : Binds K d17 ["self", "signs", "rows", "ends"] [] := F17.binds fun _ _ _ _ _ _ us hl => match us, hl with | [_, _, _, _], _ => rfl
  have b18 : Binds K d18 ["self"] [] := F18.binds fun _ _ _ _ _ _ us hl => match us, hl with | [_], _ => rfl
  have b19 : Binds K d19 ["self"] [] := F19.binds fun _ _ _ _ _ _ us hl => match us, hl with | [_], _ => rfl
  have b20 : Binds K d20 ["self"] [] := F20.binds fun _ _ _ _ _ _ us hl => match us, hl with | [_], _ => rfl
  have b21 : Binds K d21 ["self"] [] := F21.binds fun _ _ _ _ _ _ us hl => match us, hl with | [_], _ => rfl
  have b22 : Binds K d22 ["self", "other"] [] := F22.binds fun _ _ _ _ _ _ us hl => match us, hl with | [_, _], _ => rfl
  have b23 : Binds K d23 ["self"] [] := F23.binds fun _ _ _ _ _ _ us hl => match us, hl with | [_], _ => rfl
  have b24 : Binds K d24 ["_law_script", "_law_k"] [] := F24.binds fun _ _ _ _ _ _ us hl => match us, hl with | [_, _], _ => rfl
  have b25 : Binds K d25 ["_law_pot_here", "_law_span"] [] := F25.binds fun _ _ _ _ _ _ us hl => match us, hl with | [_, _], _ => rfl
  have b26 : Binds K d26 ["_law_pot_here", "_law_some"] [] := F26.binds fun _ _ _ _ _ _ us hl => match us, hl with | [_, _], _ => rfl
  have b27 : Binds K d27 ["_law_pot_here", "_law_least_here", "_law_most"] [] := F27.binds fun _ _ _ _ _ _ us hl => match us, hl with | [_, _, _], _ => rfl
  have b28 : Binds K d28 ["_law_pot_here", "_law_alpha_here", "_law_most"] [] := F28.binds fun _ _ _ _ _ _ us hl => match us, hl with | [_, _, _], _ => rfl
  have b29 : Binds K d29 ["_law_grid", "_law_stops"] [] := F29.binds fun _ _ _ _ _ _ us hl => match us, hl with | [_, _], _ => rfl
  have b30 : Binds K d30 ["_law_grid", "_law_stops"] [] := F30.binds fun _ _ _ _ _ _ us hl => match us, hl with | [_, _], _ => rfl
  have b31 : Binds K d31 ["_law_pot_here", "_law_grid", "_law_stops"] [] := F31.binds fun _ _ _ _ _ _ us hl => match us, hl with | [_, _, _], _ => rfl
  have b32 : Binds K d32 ["_law_pot_here", "_law_alpha_here", "_law_grid", "_law_stops"] [] := F32.binds fun _ _ _ _ _ _ us hl => match us, hl with | [_, _, _, _], _ => rfl
  have b33 : Binds K d33 ["_law_made_here", "_law_alpha_here", "_law_told"] [] := F33.binds fun _ _ _ _ _ _ us hl => match us, hl with | [_, _, _], _ => rfl
  have b34 : Binds K d34 ["_law_pot_here"] [] := F34.binds fun _ _ _ _ _ _ us hl => match us, hl with | [_], _ => rfl
  have b35 : Binds K d35 ["_law_script"] [] := F35.binds fun _ _ _ _ _ _ us hl => match us, hl with | [_], _ => rfl
  have kI : KBn K d17 ["self", "signs", "rows", "ends"] 1 ["ends", "rows", "signs"] (fun us ws => us ++ ws.reverse) (fun vs zs => vs ++ zs.reverse) := kbn_of F17 (fun _ _ _ _ _ _ us ws l1 l2 => match us, ws, l1, l2 with | [_], [_, _, _], _, _ => rfl) fun a b => a.append (vals_rev b)
  have f_isinstance := fr "isinstance" (by decide)
  have f_str := fr "str" (by decide)
  have f_len := fr "len" (by decide)
  have f_all := fr "all" (by decide)
  have f_any := fr "any" (by decide)
  have f_zip := fr "zip" (by decide)
  have f_list := fr "list" (by decide)
  have f_tuple := fr "tuple" (by decide)
  have f_dict := fr "dict" (by decide)
  have f_enumerate := fr "enumerate" (by decide)
  have f_range := fr "range" (by decide)
  have f_int := fr "int" (by decide)
  have f_bool := fr "bool" (by decide)
  have f_divmod := fr "divmod" (by decide)
  have f_abs := fr "abs" (by decide)
  have f_max := fr "max" (by decide)
  have f_min := fr "min" (by decide)
  have f_repr := fr "repr" (by decide)
  have f_sorted := fr "sorted" (by decide)
  have TT : MTxt K mg (He.ga K "Machine") := ⟨T.cl, T.n1, T.n2, T.n3, g2 "Machine" (by decide), mo_of T.mo⟩
  refine ⟨d35, g2 "law" (by decide), bind_one F35 (fun _ _ _ _ _ _ _ => rfl), fun base hB hN => ?_⟩
  have o0 : FnOk P w K mg base CX0 1 _ d0 ["value"] spInt1 := ok_isint F0 f_isinstance f_int f_bool
  have c_is_integer := ca_of F0 (g1 "is_integer" (by decide)) o0 b0
  have o1 : FnOk P w K mg base CX0 1 _ d1 ["value"] spIsList := ok_islist F1 f_isinstance f_list f_tuple
  have c_is_list := ca_of F1 (g1 "is_list" (by decide)) o1 b1
  have o3 : FnOk P w K mg base CX0 1 _ d3 ["signs", "value"] spLine := ok_isline F3 f_isinstance f_str
  have o2 := ok_issigns F2 o3 b3 F3.kp (g1 "is_line" (by decide)) mC f_isinstance f_str f_len f_all f_zip
  have o4 := ok_checksigns F4 o2 b2 F2.kp (g1 "is_signs" (by decide))
  have c_check_signs := ca_of F4 (g1 "check_signs" (by decide)) o4 b4
  have o5 := ok_isplace F5 c_is_integer
  have c_is_place := ca_of F5 (g1 "is_place" (by decide)) o5 b5
  have o6 := ok_isrow F6 c_is_list c_is_place f_len f_all
  have c_is_row := ca_of F6 (g1 "is_row" (by decide)) o6 b6
  have o7 := ok_checkrows F7 c_is_list c_is_row f_len f_enumerate
  have c_check_rows := ca_of F7 (g1 "check_rows" (by decide)) o7 b7
  have o8 := ok_checkends F8 c_is_list c_is_place f_enumerate
  have c_check_ends := ca_of F8 (g1 "check_ends" (by decide)) o8 b8
  have o10 : FnOk P w K mg base CX0 1 _ d10 ["rows", "start", "ends"] (spNumbered K) := ok_numbered F10 f_len f_tuple f_enumerate
  have c_numbered := ca_of F10 (g1 "numbered" (by decide)) o10 b10
  have o16 : FnOk P w K mg base CX0 1 _ d16 ["block", "part"] spHalves := ok_halves F16 f_len
  have c_halves := ca_of F16 (g1 "halves" (by decide)) o16 b16
  have o12 : FnOk P w K mg base CX0 1 _ d12 ["states", "ends"] spFirst := ok_first F12 f_range f_list
  have c_first_blocks := ca_of F12 (g1 "first_blocks" (by decide)) o12 b12
  have o13 : FnOk P w K mg base CX0 1 _ d13 ["blocks"] spPlaces := ok_places F13 f_enumerate
  have c_block_places := ca_of F13 (g1 "block_places" (by decide)) o13 b13
  have o14 : FnOk P w K mg base CX0 1 _ d14 ["rows", "place"] spBack := ok_back F14 f_enumerate f_sorted f_range f_len
  have c_back_steps := ca_of F14 (g1 "back_steps" (by decide)) o14 b14
  have o15 : FnOk P w K mg base CX0 1 _ d15 ["splitter", "back", "where"] spLeading := ok_leading F15 f_zip f_sorted f_range f_len
  have c_parts_leading := ca_of F15 (g1 "parts_leading" (by decide)) o15 b15
  have o11 := ok_alike F11 f_range f_len f_list c_back_steps c_first_blocks c_block_places c_parts_leading c_halves
  have c_alike_blocks := ca_of F11 (g1 "alike_blocks" (by decide)) o11 b11
  have o9 := ok_leastform F9 f_enumerate c_numbered c_alike_blocks c_block_places
  have c_least_form := ca_of F9 (g1 "least_form" (by decide)) o9 b9
  have o17 := ok_minit F17 TT f_len c_check_signs c_check_rows c_check_ends c_least_form
  have o18 : FnOk P w K mg base CX0 1 _ d18 ["self"] (spMGet (He.ga K "Machine")) := ok_msigns F18 TT
  have o19 : FnOk P w K mg base CX0 1 _ d19 ["self"] (spMStates (He.ga K "Machine")) := ok_mstates F19 TT f_len
  have o20 : FnOk P w K mg base CX0 1 _ d20 ["self"] (spMRows (He.ga K "Machine")) := ok_mrows F20 TT f_list
  have o21 : FnOk P w K mg base CX0 1 _ d21 ["self"] (spMEnds (He.ga K "Machine")) := ok_mends F21 TT f_list
  have o22 : FnOk P w K mg base CX0 1 _ d22 ["self", "other"] (spMEq (He.ga K "Machine")) := ok_meq F22 TT T.it f_isinstance
  have o23 : FnG P w K mg base CX0 1 _ d23 ["self"] (spMRepr (He.ga K "Machine")) := ok_mrepr F23 TT
  let Rr : MachF P w K mg base := { C := He.ga K "Machine", T := TT, I := T.it, fi := _, di := d17, mkc := T.mk_, oi := o17, bi := b17, ki := kI, ps := ⟨_, _, _, prop_of T.rc_signs T.pb_signs, o18, b18⟩, pt := ⟨_, _, _, prop_of T.rc_states T.pb_states, o19, b19⟩, mr := ⟨_, _, T.m0, o20, b20⟩, me := ⟨_, _, T.m1, o21, b21⟩, fe := _, de := d22, te := ⟨T.cl, T.m2.at_, T.m2.fn, b22, T.kin, T.ne, T.it.hm⟩, oe := o22, fz := _, dz := d23, zs := T.m3.at_, zf := T.m3.fn, oz := o23, bz := b23 }
  have o24 : FnOk P w K mg base CX0 1 _ d24 ["_law_script", "_law_k"] (spPot K) := ok_pot F24 f_abs f_len f_max f_int
  have c__law_pot := ca_of F24 (g2 "_law_pot" (by decide)) o24 b24
  have o25 : FnOk P w K mg base CX0 1 _ d25 ["_law_pot_here", "_law_span"] spDraw := ok_draw F25 f_divmod f_int
  have c__law_draw := ca_of F25 (g2 "_law_draw" (by decide)) o25 b25
  have o26 := ok_mixedP F26 o25 b25 F25.kp (g2 "_law_draw" (by decide)) f_list f_len f_range
  have c__law_mixed := ca_of F26 (g2 "_law_mixed" (by decide)) o26 b26
  have o27 := ok_alpha F27 c__law_draw f_list f_len f_range f_sorted
  have c__law_alpha := ca_of F27 (g2 "_law_alpha" (by decide)) o27 b27
  have o28 := ok_model F28 c__law_draw f_range
  have c__law_model := ca_of F28 (g2 "_law_model" (by decide)) o28 b28
  have o29 : FnOk P w K mg base CX0 1 _ d29 ["_law_grid", "_law_stops"] spApart := ok_apart F29 f_range f_len f_any f_zip
  have c__law_apart := ca_of F29 (g2 "_law_apart" (by decide)) o29 b29
  have o30 := ok_least F30 c__law_apart f_range f_len f_tuple
  have c__law_least := ca_of F30 (g2 "_law_least" (by decide)) o30 b30
  have o31 := ok_twin F31 c__law_draw c__law_mixed f_range f_len f_list f_dict f_enumerate
  have c__law_twin := ca_of F31 (g2 "_law_twin" (by decide)) o31 b31
  have o32 := ok_made F32 Rr c__law_draw f_tuple
  have c__law_made := ca_of F32 (g2 "_law_made" (by decide)) o32 b32
  have o33 := ok_is F33 Rr f_repr f_len
  have c__law_is := cg_of F33 (g2 "_law_is" (by decide)) o33 b33
  have o34 := ok_right F34 Rr c__law_draw c__law_alpha c__law_model c__law_least c__law_twin c__law_made c__law_is f_repr f_len f_range f_list f_sorted f_any
  have c__law_right := cg_of F34 (g2 "_law_right" (by decide)) o34 b34
  exact ok_law F35 f_all f_range f_max f_min f_len c__law_pot c__law_right
end K11
set_option maxHeartbeats 0
open PySem PySem.W PySem.Calls PyProof.Rows L2
theorem PySem.Challenge.cw_frontlines_k11_least_forms_told_holds : PySem.Challenge.rw_frontlines_k11_least_forms_told.Holds := by
  w_on; o_law
  refine HandSHeadRun.head_any (r := K11.R) (q := view K11.R.prog [52]) (H := K11.hk) (ob := K11.ob) (M := 20000) (loose := K11.loose) (d := HandSHeadRun.topDef K11.R.prog 52) (kwd := []) (fun s => FL.obA_eq s)
    (by kernel_rfl) (fun s => by kernel_rfl) K11.run (by kernel_rfl) (by kernel_rfl) (by kernel_rfl) (by rfl) (by first | assumption | decide +kernel) (by decide +kernel) ⟨rfl, rfl, rfl, rfl, rfl, by decide +kernel⟩ ?hw ?hc
  case hw => w_witness2
  case hc =>
    refine FL.walkG (l := PySem.Challenge.rw_frontlines_k11_least_forms_told) (n := 63) (k := 9) (x := "_law_script") rfl (by decide) (by kernel_rfl) ⟨rfl, by decide, by decide⟩ ?_
    intro w mg fa h Y G hmg0
    obtain ⟨K, KX, c, ct⟩ := Y
    have hmg : mg ("law" : PySem.Str) = some (.ref fa) := by
      have e : (HandSHeadRun.topDef K11.R.prog 52).name = ("law" : PySem.Str) := by kernel_rfl
      rw [← e]
      exact hmg0
    obtain ⟨fd, e1, bd, hF⟩ := K11.whole (P := PySem.Challenge.rw_frontlines_k11_least_forms_told.prog) (w := w) KX G c
    have e2 := hmg.symm.trans e1
    cases e2
    exact ⟨K, fd, FL.spLaw K, KX, bd, fun H a ns hl hS => ⟨a, ns, rfl, hS, hl, fun _ => rfl⟩, hF⟩
