import PyProof.Rows.All
import Wide.All
import OpenK.AllK
import Wide.FinOn
import HandS.ForMost
import HandS.ForExc
import HandS.Lambda
import PyProof.Rows.NestShow
import KE.GoesEnum
import HandS.Walk
import HandS.IsInst
import HandS.StrMore
import HandS.Style
import KE.KRevSl
import HandS.Codes
import KE.DataMinMax
import HandS.Head0
import HandS.Head1
import HandS.Head2
import HandS.HeadEnd
import HandS.HeadHook1
import HandS.HeadHook2
import HandS.FStr
import HandS.Star
import HandS.Property
import HandS.MakeKwOnly
import PyProof.EqKinds
import HandS.ListItems
import HandS.DeepEq
import HandS.MakeKw
import HandS.HeadHook3
import HandS.Defaults
import Wide.Once
import HandS.Conv
import HandS.Zip
import HandS.Dict
import PySem.Challenge.RW_frontlines_k68_whole_long_messages
set_option Elab.async false
set_option linter.all false
set_option maxRecDepth 100000
set_option maxHeartbeats 4000000
namespace FL
open PySem PySem.Spec PyProof.Rows L2
/-! A promise that is kept where no repr is under way. -/
structure FnG (P : Program) (w : World) (K : PySem.W.Frag) (mg : Str → Option Value)
    (base : Heap) (C : CXT) (k : Nat) (f : Addr) (fd : FuncData) (ps : List Str) (sp : Sp) : Prop where
  size : ∀ vs H Q E, sp vs H Q E → vs.length = ps.length
  goes : ∀ (A : Around) (outer : List Env) (s : Shared) (H : Hp) (args : Args)
      (us : List Value) (vs : List V) (Q : VK) (E : XK),
    Room k A → A.guards = some [] → Env0 P w K mg base A outer s H →
    BindsTo s fd args (ps.zip us) → Vals vs us → sp vs H Q E →
    codeAny (model P w) A (.call (.ref f) args) (CR C outer P w H s Q E) s
theorem FnG.of {P : Program} {w : World} {K : PySem.W.Frag} {mg : Str → Option Value} {base : Heap}
    {C : CXT} {k : Nat} {f : Addr} {fd : FuncData} {ps : List Str} {sp : Sp}
    (F : FnOk P w K mg base C k f fd ps sp) : FnG P w K mg base C k f fd ps sp :=
  ⟨F.len, fun A o s H a us vs Q E hr _ => F.run A o s H a us vs Q E hr⟩
section
variable {P : Program} {w : World} {K : PySem.W.Frag} {mg : Str → Option Value} {base : Heap}
theorem okG {x qual : Str} {st : Stmt} {f : Addr} {fd : FuncData} {N ps : List Str} {k : Nat} {sp : Sp}
    (F : Fun K x qual st f fd) (S : FnScope N ps (defScope st))
    (size : ∀ vs H Q E, sp vs H Q E → vs.length = ps.length)
    (body : ∀ (cdv : Value) (A : Around) (outer : List Env) (s : Shared) (H : Hp) (vs : List V) (Q : VK) (E : XK),
      Room k (A.deeper (envOfC qual (defScope st) s.heap.objs.size f cdv)) → A.guards = some [] → sp vs H Q E →
      ∃ t, PSs (cxOf CX0 P w K mg base N qual (defScope st) f cdv A outer s H E).nox (defBody st) t
        ∧ t { nx := fun _ H' => Q .non H', rt := Q } (start N vs) H) :
    FnG P w K mg base CX0 (k + 1) f fd ps sp := by
  obtain ⟨oc, od, kV, doc, pm, an, cdv, ct, osl, rfl, lk, hcd⟩ := F.ex
  refine ⟨size, fun A outer s H args us vs Q E hr hg e0 hb r hsp => ?_⟩
  refine LamX.run_ofS (k := k) lk hcd S hr e0 hb r (size _ _ _ _ hsp) fun h => ?_
  obtain ⟨t, h1, h2⟩ := body cdv A outer s H vs Q E h hg hsp
  exact ⟨t, h1.nox, h2⟩
theorem okGX {x qual : Str} {st : Stmt} {f : Addr} {fd : FuncData} {N ps : List Str} {k : Nat} {sp : Sp}
    (F : Fun K x qual st f fd) (S : FnScope N ps (defScope st))
    (size : ∀ vs H Q E, sp vs H Q E → vs.length = ps.length)
    (body : ∀ (cdv : Value) (A : Around) (outer : List Env) (s : Shared) (H : Hp) (vs : List V) (Q : VK) (E : XK),
      Room k (A.deeper (envOfC qual (defScope st) s.heap.objs.size f cdv)) → A.guards = some [] → sp vs H Q E →
      ∃ t, PSs (cxOf (L2.CX P w) P w K mg base N qual (defScope st) f cdv A outer s H E) (defBody st) t
        ∧ t { nx := fun _ H' => Q .non H', rt := Q } (start N vs) H) :
    FnG P w K mg base (L2.CX P w) (k + 1) f fd ps sp := by
  obtain ⟨oc, od, kV, doc, pm, an, cdv, ct, osl, rfl, lk, hcd⟩ := F.ex
  refine ⟨size, fun A outer s H args us vs Q E hr hg e0 hb r hsp => ?_⟩
  exact LamX.run_ofS (k := k) lk hcd S hr e0 hb r (size _ _ _ _ hsp) fun h =>
    body cdv A outer s H vs Q E h hg hsp
end
section
variable {X : Cx} {C : CXT} {k : Nat} {f : Addr} {fd : FuncData} {ps : List Str} {sp : Sp}
  {dvs : List V} {ds : List Value} {E : XK} {x : Str} {p pos : Pos} {e : Expr} {es : List Expr} {t : TA}
/-! f(e, ..) by such a promise -/
theorem pg_call (F : FnG X.prog X.w X.K X.mg X.base C k f fd ps sp) (hr : Room k X.A) (hG : X.A.guards = some [])
    (hg : Gl X x) (hm : X.mg x = some (.ref f)) (hk : PySem.W.keepIn X.K (.ref f) = true)
    (hb : Binds X.K fd ps ds) (hd : Vals dvs ds) (hx : Passes C X E) (ha : PA X (e :: es) t)
    (hdb : (x == ("__debug__" : Str)) = false := by decide)
    (he : starEach (e :: es) X.env = (false, eval e X.env) :: starEach es X.env := by rfl)
    (hpl : (backTo pos (starEach es X.env)).any (·.1) = false := by rfl) :
    PE X (.Call (.Name x p) (e :: es) [] pos) (tCall sp dvs E t) := by
  constructor
  intro pins s σ H Q I h
  refine wpAny_Call_Name_kw (ld_glob I hg hm ?_ hdb)
  refine PySem.W.callWith_K (h₀ := X.base) I.ok.mod.kin hk ?_ he hpl
  refine thn (ha.run pos pins s σ H _ I h) ?_
  rintro us s1 ⟨vs, H1, J, r, q⟩
  refine ⟨J.kIn, ?_⟩
  have r2 := r.append hd
  have hl : (us ++ ds).length = ps.length := by
    rw [← r2.length]
    exact F.size _ _ _ _ q
  have run := F.goes X.A X.stack s1 H1 ⟨us, []⟩ (us ++ ds) (vs ++ dvs) Q E hr hG J.env0 (hb s1 us J.kIn hl) r2 q
  refine wpAny_call (codeAny_mono run ?_)
  rintro (er | fl) s2 z
  · exact hx pins σ H1 s1 er s2 J z
  · cases fl with
    | ret u => exact J.after z
    | _ => exact False.elim z
end
/-! ### repr of data -/
def NiceD (d : PyData) : Prop := d.showable = true ∧ d.depth ≤ 40 ∧ d.shown.length ≤ sizeLine
/-- data of a value; an empty dict too -/
def Sh (K : PySem.W.Frag) (H : Hp) (v : V) (d : PyData) : Prop :=
  (Dp K H v d ∧ d.hasDict = false) ∨ (∃ a, v = .ref a ∧ H a = some (.dK []) ∧ d = .dict [])
section
variable {X : Cx}
theorem call_repr (hG : X.A.guards = some []) (hu : X.A.units + 64 < cLine) :
    CallR X (.builtin "repr") (fun xs H Q => ∃ v d, xs = [v] ∧ Sh X.K H v d ∧ NiceD d ∧ Q (.str d.shown) H) := by
  intro pins s σ H xs us Q I r h
  obtain ⟨v, d, rfl, hd, ⟨n1, n2, n3⟩, q⟩ := h
  cases r with
  | cons r1 r2 =>
    cases r2
    rename_i u
    rcases hd with ⟨hd, nd⟩ | ⟨a, rfl, ha, rfl⟩
    · obtain ⟨as, rd⟩ := Dp.reads I d v u hd r1
      have out : ∀ (h' : Heap) (w : Tok) (tk : Nat), (∀ b o, s.heap.get? b = some o → h'.get? b = some o) →
          EP X pins σ Q (.str d.shown w) { s with heap := h', toks := tk } :=
        fun h' w tk kp => ⟨.str d.shown, H, I.kept kp, ⟨w, rfl⟩, q⟩
      cases rd with
      | none => exact P.repr_of_none (out s.heap _ _ fun _ _ e => e)
      | bool b => exact P.repr_of_bool (out s.heap _ _ fun _ _ e => e)
      | int i t => exact P.repr_of_int (by simpa [PyData.showable] using n1) (out s.heap _ _ fun _ _ e => e)
      | str z t => exact P.repr_of_str (out s.heap _ _ fun _ _ e => e) n3
      | list h1 h2 h3 h4 =>
        exact repr_of_reads' (.list h1 h2 h3 h4) n1 (PyData.noDict_hsm nd) hG (by omega) (fun _ _ e => e) out n3
      | tuple h1 h2 h3 h4 =>
        exact repr_of_reads' (.tuple h1 h2 h3 h4) n1 (PyData.noDict_hsm nd) hG (by omega) (fun _ _ e => e) out n3
      | dict h1 h2 h3 h4 h5 => simp [PyData.hasDict] at nd
    · cases r1
      obtain ⟨_, hs, vs, kv, o, es, ep, h1, h2, h3, _, pr, _⟩ := I.hok a _ ha
      cases kv
      have e0 : es.toList = [] := by
        generalize es.toList = l at pr
        cases pr
        rfl
      refine repr_of_reads' (d := .dict []) (as := a :: [] ++ []) (.dict (kvs := []) h1 h2.1 h3 ?_ ?_) n1 (fun _ => ?_) hG
        (by omega) (fun _ _ e => e) (fun h' w tk kp => ⟨.str _, H, I.kept kp, ⟨w, rfl⟩, q⟩) n3
      · rw [e0]
        exact .nil
      · rw [e0]
        exact .nil
      · intro hm
        have : sysModules = a := by simpa using hm
        rw [this] at hs
        simp at hs
end
end FL
namespace FL
open PySem PySem.Spec PyProof.Rows L2
/-! ### zip of two texts, a target of two names -/
def ItS (x y : Str) : It :=
  ⟨fun i _ => i < min x.cps.size y.cps.size,
   fun i H v H' => ∃ T a b, v = .ref T ∧ H T = none ∧ H' = upd H T (.tup [.str ⟨#[a]⟩, .str ⟨#[b]⟩])
      ∧ x.cps[i]? = some a ∧ y.cps[i]? = some b,
   fun i _ => i = min x.cps.size y.cps.size⟩
def zSt (x y : Str) (t u : Tok) (z TI TO i1 i2 : Addr) (i : Nat) (h : Heap) : Prop :=
  IsZip h z TI TO .none ∧ IsTupOf2 h TI (.ref i1) (.ref i2) ∧ (∃ a b, IsTupOf2 h TO a b)
    ∧ h.IsStrIter i1 (strIterType x) x t i ∧ h.IsStrIter i2 (strIterType y) y u i
theorem turn_zipS {P : Program} {w : World} {K : PySem.W.Frag} {elts : List Expr} {kk : Nat} {tpos : Pos}
    {x y : Str} {t u : Tok} {z TI TO i1 i2 : Addr} (S : ZipSep2 z TI TO i1 i2 [i1] [i2]) :
    Turn P w K (.Tuple elts kk tpos) (ItS x y) [z, TI, TO, i1, i2] z (zSt x y t u z TI TO i1 i2) where
  mem := by simp
  obj := by
    rintro i h ⟨hz, hT, ⟨a, b, hO⟩, s1, s2⟩ c hc
    have e' : c = z ∨ c = TI ∨ c = TO ∨ c = i1 ∨ c = i2 := by simpa using hc
    rcases e' with rfl | rfl | rfl | rfl | rfl
    · exact ⟨_, hz, fun v q => nomatch q⟩
    · exact ⟨_, hT, fun v q => nomatch q⟩
    · exact ⟨_, hO, fun v q => nomatch q⟩
    · obtain ⟨o, e, d⟩ := s1
      exact ⟨_, e, fun v q => by simp_all⟩
    · obtain ⟨o, e, d⟩ := s2
      exact ⟨_, e, fun v q => by simp_all⟩
  keep := by
    rintro i h h' ⟨hz, hT, ⟨a, b, hO⟩, s1, s2⟩ k
    refine ⟨k z (by simp) _ hz, k TI (by simp) _ hT, ⟨a, b, k TO (by simp) _ hO⟩, ?_, ?_⟩
    · obtain ⟨o, e, d⟩ := s1
      exact ⟨o, k i1 (by simp) o e, d⟩
    · obtain ⟨o, e, d⟩ := s2
      exact ⟨o, k i2 (by simp) o e, d⟩
  item := by
    intro X hP hw hK hc i pins s σ H E I hf st hg
    subst hP hw hK
    obtain ⟨hz, hT, ⟨a, b, hO⟩, s1, s2⟩ := st
    have hh : X.A.in1.handled = none := I.ok.hd hc
    have hg' : i < min x.cps.size y.cps.size := hg
    have zl := Heap.lt_size hz
    refine wpAny_pyNext_zipD2_item S (Draws.text hh i1 x t) (Draws.text hh i2 y u) hz hT hO s1 s2 (by omega) (by omega) ?_
    rintro v1 v2 h' tk ⟨c1, t1, e1, rfl⟩ ⟨c2, t2, e2, rfl⟩ z1 o1 r1 r2 nT sz kp
    refine ⟨_, rfl, wpAny_letOwnedTupleGo_zip (s := { s with heap := h', toks := tk }) z1 fun h2 z2 sb => ?_⟩
    have nz : (s.heap.objs.size : Addr) ≠ z := Nat.ne_of_gt zl
    have nT2 : h2.get? s.heap.objs.size = some { cls := .type "tuple", data := .seq #[.str ⟨#[c1]⟩ t1, .str ⟨#[c2]⟩ t2] } :=
      (sb.2 _ nz).trans nT
    have ok : ObjOk X.prog X.w (upd H s.heap.objs.size (.tup [.str ⟨#[c1]⟩, .str ⟨#[c2]⟩])) h2 s.heap.objs.size
        (.tup [.str ⟨#[c1]⟩, .str ⟨#[c2]⟩]) :=
      ⟨(by show 2 ≤ sizeLine; decide), [_, _], .cons ⟨t1, rfl⟩ (.cons ⟨t2, rfl⟩ .nil), ⟨_, nT2, rfl, _, rfl⟩⟩
    have J := I.turnedNew (t' := tk) (ch := [z, TI, TO, i1, i2]) (h' := h2) (fun c o nc q => (sb.2 c fun q' => nc (by simp [q'])).trans
      (kp c o (fun q' => nc (by simp [q'])) (fun q' => nc (by simp [q'])) (fun q' => nc (by simp [q'])) (fun q' => nc (by simp [q'])) q)) hf (Nat.le_refl _) ok
    refine ⟨.ref s.heap.objs.size, _, J, rfl, ⟨_, c1, c2, rfl, I.hok.fresh (Nat.le_refl _), rfl, e1, e2⟩, ⟨z2, ?_, ⟨_, _, (sb.2 _ S.TOz).trans o1⟩, ?_, ?_⟩, ?_⟩
    · exact (sb.2 _ S.TIz).trans (kp _ _ S.TIz S.TITO S.TIi1 S.TIi2 hT)
    · obtain ⟨o, e, d⟩ := r1
      exact ⟨o, (sb.2 _ (Ne.symm S.zi1)).trans e, d⟩
    · obtain ⟨o, e, d⟩ := r2
      exact ⟨o, (sb.2 _ (Ne.symm S.zi2)).trans e, d⟩
    · intro c hcm
      have live : ∃ o, s.heap.get? c = some o := by
        have e' : c = z ∨ c = TI ∨ c = TO ∨ c = i1 ∨ c = i2 := by simpa using hcm
        rcases e' with rfl | rfl | rfl | rfl | rfl
        · exact ⟨_, hz⟩
        · exact ⟨_, hT⟩
        · exact ⟨_, hO⟩
        · exact ⟨_, s1.choose_spec.1⟩
        · exact ⟨_, s2.choose_spec.1⟩
      obtain ⟨o, e⟩ := live
      rw [upd_ne (Nat.ne_of_lt (Heap.lt_size e))]
      exact (hf c hcm).1
  done := by
    intro X hP hw hK hc i pins s σ H E I hf st hg
    subst hP hw hK
    obtain ⟨hz, hT, ⟨a, b, hO⟩, s1, s2⟩ := st
    have hh : X.A.in1.handled = none := I.ok.hd hc
    have hg' : i = min x.cps.size y.cps.size := hg
    refine wpAny_pyNext_zipD2_end S (Draws.text hh i1 x t) (Draws.text hh i2 y u) hz hT hO s1 s2 (by omega) (by omega) (by omega) ?_
    intro h' tk kp
    exact ⟨rfl, I.turnedL (t' := tk) (ch := [z, TI, TO, i1, i2]) (fun c o nc q =>
      kp c o (fun q' => nc (by simp [q'])) (fun q' => nc (by simp [q'])) (fun q' => nc (by simp [q'])) (fun q' => nc (by simp [q'])) q) hf⟩
  self := fun A i s Q E st h => wpAny_pyIter_zip st.1 h
def iZipS (ta : TA) : TI := fun σ H R => ta σ H fun vs H1 => ∃ x y, vs = [.str x, .str y] ∧ R (ItS x y) H1
theorem pi_zipS {X : Cx} {e e2 : Expr} {ta : TA} {p pos tpos : Pos} {elts : List Expr} {kk : Nat} (hg : Gl X "zip")
    (hm : X.mg "zip" = none) (ha : PA X [e, e2] ta)
    (hs : starEach [e, e2] X.env = (false, eval e X.env) :: starEach [e2] X.env := by rfl)
    (hpl : (backTo pos (starEach [e2] X.env)).any (·.1) = false := by rfl) :
    PI X (.Tuple elts kk tpos) (.Call (.Name "zip" p) [e, e2] [] pos) (iZipS ta) := by
  constructor
  intro pins s σ H R I h
  refine Call_ (ld_blt I hg hm PyProof.Rows.boot_zip (PyProof.Rows.callWith_type1 (thn (ha.run pos pins s σ H _ I h) ?_) hs hpl))
  rintro us s1 ⟨vs, H1, J, r, x, y, rfl, q⟩
  obtain ⟨u1, u2, rfl, ⟨t1, rfl⟩, ⟨t2, rfl⟩⟩ := vals2 r
  refine zip_begins2 (begins_text x t1) (begins_text y t2) trivial trivial ?_
  intro h' hz hT hO g1 g2 sz kp
  refine wpAny_pyIter_zip hz ?_
  have J2 : Inv X pins σ H1 { s1 with heap := h' } := J.kept (t' := s1.toks) kp
  refine ⟨_, _, _, ItS x y, H1, rfl, J2, turn_zipS (zip_sep2 (fp1 := []) (fp2 := []) (fun _ z => nomatch z) (fun _ z => nomatch z)),
    ⟨hz, hT, ⟨_, _, hO⟩, ⟨_, g1, rfl, rfl⟩, ⟨_, g2, rfl, rfl⟩⟩, fun c hcm => ?_, q⟩
  have hle : s1.heap.objs.size ≤ c := by
    have e' : c = s1.heap.objs.size + 4 ∨ c = s1.heap.objs.size + 2 ∨ c = s1.heap.objs.size + 3 ∨ c = s1.heap.objs.size ∨ c = s1.heap.objs.size + 1 := by
      simpa using hcm
    rcases e' with z | z | z | z | z <;> rw [z] <;> first | exact Nat.le_add_right _ _ | exact Nat.le_refl _
  exact J.fpOk hle (J.hok.fresh hle)
end FL
namespace FL
open PySem PySem.Spec PyProof.Rows L2
/-! ### values of any kind -/
inductive Any (H : Hp) : V → String → Prop
  | non : Any H .non "NoneType"
  | bl (b : Bool) : Any H (.bl b) "bool"
  | int (i : Int) : Any H (.int i) "int"
  | str (z : Str) : Any H (.str z) "str"
  | lst {a : Addr} {xs : List V} : H a = some (.lst xs) → Any H (.ref a) "list"
  | tup {a : Addr} {xs : List V} : H a = some (.tup xs) → Any H (.ref a) "tuple"
  | dct {a : Addr} {kvs : List (Key × V)} : H a = some (.dK kvs) → Any H (.ref a) "dict"
def kinds : List String := ["NoneType", "bool", "int", "str", "list", "tuple", "dict"]
def asked : List String := ["int", "bool", "str", "list", "tuple", "dict"]
def subB (n T : String) : Bool := n == T || (n == "bool" && T == "int")
theorem Any.kind {H : Hp} {v : V} {n : String} (h : Any H v n) : n ∈ kinds := by cases h <;> decide
theorem Any.tyx {K : PySem.W.Frag} {H : Hp} {v : V} {n : String} (h : Any H v n) : TyX K H v (.type n) := by
  cases h with
  | non => exact .base .non
  | bl b => exact .base (.bl b)
  | int i => exact .base (.int i)
  | str z => exact .base (.str z)
  | lst e => exact .base (.lst e)
  | tup e => exact .base (.tup e)
  | dct e => exact .base (.dK e)
theorem kit_all : (kinds.all fun n => asked.all fun T => decide (kitB n T = some (subB n T))) = true := by decide +kernel
theorem kit_any {n T : String} (hn : n ∈ kinds) (hT : T ∈ asked) : kitB n T = some (subB n T) := by
  have h := List.all_eq_true.mp kit_all n hn
  exact of_decide_eq_true (List.all_eq_true.mp h T hT)
section
variable {X : Cx}
theorem call_isA : CallR X (.builtin "isinstance") (fun xs H Q => ∃ x n T, xs = [x, .ty T] ∧ Any H x n ∧ T ∈ asked ∧ Q (.bl (subB n T)) H) := by
  intro pins s σ H xs us Q I r h
  obtain ⟨x, n, T, rfl, a, hT, q⟩ := h
  exact call_isi pins s σ H _ us Q I r ⟨x, .ty T, _, _, _, rfl, .ty T, a.tyx, kit_ty (kit_any a.kind hT), q⟩
end
theorem Any.same {H H' : Hp} {v : V} {n : String} (h : Any H v n) (e : ∀ a o, v = .ref a → H a = some o → H' a = some o) : Any H' v n := by
  cases h with
  | non => exact .non
  | bl b => exact .bl b
  | int i => exact .int i
  | str z => exact .str z
  | lst q => exact .lst (e _ _ rfl q)
  | tup q => exact .tup (e _ _ rfl q)
  | dct q => exact .dct (e _ _ rfl q)
/-! ### lines -/
def lineB (sg : Str) : V → Bool
  | .str z => decide (Txt.stripChars z sg = (Str.ofString ""))
  | _ => false
/-- texts are not too long -/
def Short (v : V) : Prop := ∀ z, v = .str z → z.length ≤ sizeLine
def spLine : Sp := fun vs H Q _ => ∃ (sg : Str) (v : V) (n : String), vs = [.str sg, v] ∧ Any H v n ∧ Short v ∧ Q (.bl (lineB sg v)) H
end FL
namespace FL
open PySem PySem.Spec PyProof.Rows L2
/-! ### the pot -/
def PotAt (H : Hp) (p : Addr) : Prop :=
  ∃ a b : Int, H p = some (.lst [.int a, .int b]) ∧ 0 ≤ a ∧ 0 ≤ b ∧ b ≤ 2147483646
/-- all but p is as it was -/
def But (p : Addr) (H H' : Hp) : Prop := ∀ c o, H c = some o → c ≠ p → H' c = some o
theorem But.refl (p : Addr) (H : Hp) : But p H H := fun _ _ e _ => e
theorem But.trans {p : Addr} {H H1 H2 : Hp} (a : But p H H1) (b : But p H1 H2) : But p H H2 :=
  fun c o e n => b c o (a c o e n) n
theorem But.same {p : Addr} {H H1 H2 : Hp} (a : But p H H1) (b : Same H1 H2) : But p H H2 :=
  fun c o e n => b c o (a c o e n)
theorem _root_.L2.Same.but {p : Addr} {H H1 : Hp} (a : Same H H1) : But p H H1 := fun c o e _ => a c o e
def spDraw : Sp := fun vs H Q _ => ∃ (p : Addr) (n : Int), vs = [.ref p, .int n] ∧ PotAt H p ∧ 0 < n ∧ n < 1073741824 ∧
  ∀ (d : Int) (H' : Hp), 0 ≤ d → d < n → PotAt H' p → But p H H' → Q (.int d) H'
end FL
namespace FL
open PySem PySem.Spec PyProof.Rows L2
theorem But.sqL {K : PySem.W.Frag} {p q : Addr} {H H' : Hp} {xs : List V} (b : But p H H') (n : q ≠ p) (h : SqL K H q xs) : SqL K H' q xs := by
  rcases h with (h | ⟨o, h⟩) | h
  · exact .inl (.inl (b _ _ h n))
  · exact .inl (.inr ⟨o, b _ _ h n⟩)
  · exact .inr h
def spPick (K : PySem.W.Frag) : Sp := fun vs H Q _ => ∃ (p : Addr) (v : V), vs = [.ref p, v] ∧ PotAt H p ∧
  ((∃ (q : Addr) (xs : List V), v = .ref q ∧ q ≠ p ∧ SqL K H q xs ∧ 0 < xs.length ∧ xs.length ≤ 1000 ∧
      ∀ (x : V) (H' : Hp), x ∈ xs → PotAt H' p → But p H H' → Q x H')
    ∨ (∃ z : Str, v = .str z ∧ 0 < z.length ∧ z.length ≤ 1000 ∧
      ∀ (c : Nat) (H' : Hp), c ∈ z.cps.toList → PotAt H' p → But p H H' → Q (.str ⟨#[c]⟩) H'))
def spPot (K : PySem.W.Frag) : Sp := fun vs H Q _ => ∃ (a : Addr) (ns : List Int) (k : Int), vs = [.ref a, .int k] ∧ SqL K H a (ns.map V.int) ∧ 0 ≤ k ∧ k < 64 ∧ ns.length ≤ 63 ∧
  ∀ (p : Addr) (H' : Hp), H p = none → PotAt H' p → Same H H' → Q (.ref p) H'
theorem atI_lt {α : Type} {xs : List α} {d : Int} (h0 : 0 ≤ d) (h1 : d < (xs.length : Int)) : ∃ x, x ∈ xs ∧ atI xs d = some x := by
  have hl : d.toNat < xs.length := by omega
  refine ⟨xs[d.toNat], List.getElem_mem hl, ?_⟩
  have e := atI_nat (List.getElem?_eq_getElem hl)
  rw [show ((d.toNat : Nat) : Int) = d by omega] at e
  exact e
theorem str_len (z : Str) : z.length = z.cps.toList.length := by
  show z.cps.size = _
  simp
end FL
namespace FL
open PySem PySem.Spec PyProof.Rows L2
theorem sqL_upd {K : PySem.W.Frag} {q B : Addr} {H : Hp} {xs : List V} {o : HO} (h : SqL K H q xs) (n : H B = none) : SqL K (upd H B o) q xs := by
  rcases h with (h | ⟨u, h⟩) | h
  · exact .inl (.inl (by rw [upd_ne (ne_of_none h n)]; exact h))
  · exact .inl (.inr ⟨u, by rw [upd_ne (ne_of_none h n)]; exact h⟩)
  · exact .inr h
/-- what len asks -/
def rLen (K : PySem.W.Frag) : List V → Hp → VK → Prop := fun xs H Q => ∃ x n, xs = [x] ∧ LenV K x H n ∧ Q (.int n) H
theorem callLen {X : Cx} : CallR X (.builtin "len") (rLen X.K) := call_len
/-- a text of signs of z -/
def Over (z y : Str) : Prop := ∀ c ∈ y.cps.toList, c ∈ z.cps.toList
def spNote : Sp := fun vs H Q _ => ∃ (p : Addr) (z : Str) (m : Int), vs = [.ref p, .str z, .int m] ∧ PotAt H p ∧ 0 < z.length ∧ z.length ≤ 1000 ∧ 0 ≤ m ∧ m ≤ 1000 ∧
  ∀ (y : Str) (H' : Hp), Over z y → (y.length : Int) ≤ m → PotAt H' p → But p H H' → Q (.str y) H'
theorem PotAt.upd {H : Hp} {p q : Addr} {o : HO} (h : PotAt H p) (n : p ≠ q) : PotAt (upd H q o) p := by
  obtain ⟨a, b, e, r⟩ := h
  exact ⟨a, b, by rw [upd_ne n]; exact e, r⟩
theorem PotAt.ne {H : Hp} {p q : Addr} (h : PotAt H p) (n : H q = none) : p ≠ q := by
  obtain ⟨a, b, e, r⟩ := h
  exact ne_of_none e n
theorem But.upd {p q : Addr} {H H1 : Hp} {o : HO} (b : But p H H1) (n : H q = none) : But p H (upd H1 q o) := fun c u e hc => by
  rw [upd_ne (ne_of_none e n)]
  exact b c u e hc
theorem But.new {p q : Addr} {H H1 : Hp} (b : But p H H1) (hp : PotAt H p) (n : H1 q = none) (hp1 : PotAt H1 p) : H q = none := by
  cases e : H q with
  | none => rfl
  | some o =>
    by_cases hq : q = p
    · subst hq
      obtain ⟨_, _, z, _⟩ := hp1
      rw [z] at n
      cases n
    · rw [b q o e hq] at n
      cases n
theorem join_list (ys : List Str) : (Str.join (Str.ofString "") ys).cps.toList = (ys.map fun y => y.cps.toList).flatten := by
  have e0 : (Str.ofString "").cps.toList = [] := by decide +kernel
  induction ys with
  | nil => rfl
  | cons x r ih =>
    cases r with
    | nil => simp [Str.join]
    | cons y r =>
      show (x ++ Str.ofString "" ++ Str.join (Str.ofString "") (y :: r)).cps.toList = _
      rw [Str.cps_append, Str.cps_append, Array.toList_append, Array.toList_append, ih, e0]
      simp
theorem Str_ext {a b : Str} (h : a.cps.toList = b.cps.toList) : a = b := by
  obtain ⟨a⟩ := a
  obtain ⟨b⟩ := b
  congr 1
  exact Array.toList_inj.mp h
theorem txtjoin_list (ys : List Str) : (Txt.join (Str.ofString "") ys).cps.toList = (ys.map fun y => y.cps.toList).flatten := by
  rw [← join_list]
  unfold Txt.join
  rw [StrLaws.glued_eq_join]
theorem join_signs (cs : List Nat) : Txt.join (Str.ofString "") (cs.map fun c => (⟨#[c]⟩ : Str)) = ⟨cs.toArray⟩ := by
  apply Str_ext
  rw [txtjoin_list, List.map_map]
  show (cs.map fun c => [c]).flatten = cs
  induction cs with
  | nil => rfl
  | cons c cs ih => rw [List.map_cons, List.flatten_cons, ih]; rfl
end FL
namespace FL
open PySem PySem.Spec PyProof.Rows L2
/-! ### texts: list(z), z * n, z[::-1] -/
def sign (c : Nat) : V := .str ⟨#[c]⟩
section
variable {X : Cx}
theorem vals_signs {z : Str} {acc : Array Value} (h : ItemsOf (SignAt z) acc z.cps.size) : Vals (z.cps.toList.map sign) acc.toList := by
  obtain ⟨h1, h2⟩ := h
  have key : ∀ (l : List Nat) (vs : List Value), l.length = vs.length →
      (∀ (i : Nat) (c : Nat) (v : Value), l[i]? = some c → vs[i]? = some v → ∃ u, v = .str ⟨#[c]⟩ u) → Vals (l.map sign) vs := by
    intro l
    induction l with
    | nil =>
      intro vs hl _
      cases vs with
      | nil => exact .nil
      | cons _ _ => simp at hl
    | cons c l ih =>
      intro vs hl hv
      cases vs with
      | nil => simp at hl
      | cons v vs =>
        obtain ⟨u, rfl⟩ := hv 0 c v rfl rfl
        exact .cons ⟨u, rfl⟩ (ih vs (by simpa using hl) fun i c v a b => hv (i + 1) c v (by simpa using a) (by simpa using b))
  refine key _ _ (by simp [h1]) fun i c v a b => ?_
  obtain ⟨c', u, e1, e2⟩ := h2 i v (by simpa using b)
  have : c' = c := by
    have a' : z.cps[i]? = some c := by simpa using a
    rw [e1] at a'
    exact Option.some.inj a'
  exact ⟨u, this ▸ e2⟩
theorem call_list_txt (hc : X.calm = true) : CallR X (.type "list") (fun xs H Q => ∃ z, xs = [.str z] ∧ z.length ≤ sizeLine ∧
    ∀ l, H l = none → Q (.ref l) (upd H l (.lst (z.cps.toList.map sign)))) := by
  intro pins s σ H xs us Q I r h
  obtain ⟨z, rfl, hz, q⟩ := h
  obtain ⟨u, rfl, t, rfl⟩ := vals1 r
  refine call_list_str (I.ok.hd hc) z t ?_ hz
  intro h' tk acc n kp hS hacc
  refine ⟨.ref s.heap.objs.size, _, I.laid (t' := tk) (o := .lst (z.cps.toList.map sign)) kp (Nat.le_refl _) ?_, rfl, q _ (I.hok.fresh (Nat.le_refl _))⟩
  refine ⟨by rw [List.length_map, Array.length_toList]; exact hz, acc.toList, n, vals_signs hacc, ?_⟩
  rw [hS]
def repS (z : Str) (n : Nat) : Str := ⟨(List.replicate n z.cps).foldl (· ++ ·) #[]⟩
theorem foldl_app (l : List (Array Nat)) : ∀ a : Array Nat, (l.foldl (· ++ ·) a).toList = a.toList ++ (l.map Array.toList).flatten := by
  induction l with
  | nil => intro a; simp
  | cons b l ih => intro a; rw [List.foldl_cons, ih]; simp
theorem repS_list (z : Str) (n : Nat) : (repS z n).cps.toList = (List.replicate n z.cps.toList).flatten := by
  unfold repS
  rw [foldl_app]
  simp
theorem repS_len (z : Str) (n : Nat) : (repS z n).length = n * z.length := by
  rw [str_len, repS_list, str_len]
  induction n with
  | zero => simp
  | succ n ih => rw [List.replicate_succ, List.flatten_cons, List.length_append, ih, Nat.succ_mul, Nat.add_comm]
theorem repS_mem {z : Str} {n c : Nat} (h : c ∈ (repS z n).cps.toList) : c ∈ z.cps.toList := by
  rw [repS_list] at h
  obtain ⟨l, hl, hc⟩ := List.mem_flatten.mp h
  rw [List.eq_of_mem_replicate hl] at hc
  exact hc
theorem op_mul_str : OpR X (binaryOp .Mult) (fun x y H Q => ∃ z n, x = .str z ∧ y = .int n ∧ 2 ≤ n ∧ n ≤ 10000 ∧ 0 < z.length ∧ z.length ≤ 1000 ∧ Q (.str (repS z n.toNat)) H) := by
  intro pins s σ H x y v u Q I rx ry h
  obtain ⟨z, n, rfl, rfl, n0, n1, z0, z1, q⟩ := h
  obtain ⟨t, rfl⟩ := rx
  obtain ⟨t', rfl⟩ := ry
  have b1 : (n == 1 || z.length == 0) = false := by
    have e1 : (n == 1) = false := by simp; omega
    have e2 : (z.length == 0) = false := by simp; omega
    rw [e1, e2]
    rfl
  have b2 : z.length * n.toNat ≤ 10000000 := by
    have : z.length * n.toNat ≤ 1000 * 10000 := Nat.mul_le_mul z1 (by omega)
    omega
  have sz : sizeLine = 16777216 := rfl
  refine P.mul_str ?_ ?_ ?_ ?_
  · rw [decide_eq_false (show ¬ n < -(2 ^ 63 : Int) by omega), decide_eq_false (show ¬ n ≥ 2 ^ 63 by omega)]
    rfl
  · intro _ _
    have e : (1000 : Int) ≤ (2 ^ 63 - 1) / n := by
      rw [Int.le_ediv_iff_mul_le (by omega)]
      omega
    omega
  · intro _ _
    show decide (z.length * n.toNat > sizeLine) = false
    exact decide_eq_false (by omega)
  · rw [if_neg (by omega), if_neg (by rw [b1]; decide)]
    refine ⟨?_, .str (repS z n.toNat), H, I.tok _, ⟨_, rfl⟩, q⟩
    show (repS z n.toNat).length ≤ sizeLine
    rw [repS_len, Nat.mul_comm]
    omega
def tRevS (te : TE) : TE := fun σ H Q => te σ H fun x H1 => ∃ z, x = .str z ∧ z.length ≤ sizeLine ∧
  Q (.str ⟨z.cps.toList.reverse.toArray⟩) H1
theorem pe_revS {e : Expr} {te : TE} {k : Nat} {p1 p2 p3 pos : Pos} (he : PE X e te) :
    PE X (.Subscript e (.Slice none none (some (.UnaryOp .USub (.Constant (.int 1) k p1) p2)) p3) pos) (tRevS te) := by
  constructor
  intro pins s σ H Q I h
  refine Subscript_ (thn (he.run pins s σ H _ I h) ?_)
  rintro v s1 ⟨x, H1, J, r, z, rfl, hz, q⟩
  obtain ⟨t, rfl⟩ := r
  have hst : PO X (some (.UnaryOp .USub (.Constant (.int 1) k p1) p2)) (tPart (tUn (rU fun i => .int (-i)) (tC (.int 1)))) :=
    po_some (pe_un un_neg pe_int)
  refine wpAny_Slice (thn (po_none.run pins s1 σ H1 (fun o H2 => o = none ∧ H2 = H1) J ⟨rfl, rfl⟩) ?_)
  rintro vl s2 ⟨l, H2, J2, pl, rfl, rfl⟩
  refine thn (po_none.run pins s2 σ _ (fun o H3 => o = none ∧ H3 = H2) J2 ⟨rfl, rfl⟩) ?_
  rintro vu s3 ⟨u, H3, J3, pu, rfl, rfl⟩
  refine thn (hst.run pins s3 σ _ (fun o H4 => o = some (-1) ∧ H4 = H3) J3 ⟨1, rfl, -1, rfl, rfl, rfl⟩) ?_
  rintro vs s4 ⟨o, H4, J4, ps, rfl, rfl⟩
  obtain ⟨l', rfl, el⟩ := IsPart.raw pl
  obtain ⟨u', rfl, eu⟩ := IsPart.raw pu
  obtain ⟨s', rfl, es⟩ := IsPart.raw ps
  have J5 : Inv X pins σ H4 { s4 with heap := s4.heap.push { cls := .type "slice", data := .fields #[partValue l', partValue u', partValue s'] } } :=
    J4.kept (t' := s4.toks) fun b ob q => Heap.get?_push_of_some _ q
  refine tail_any (ops := [.str z t, .ref s4.heap.objs.size]) (typeIs_str _ _ _) F.slot_str_getitem.lookup ?_ (by with_unfolding_all rfl)
  refine wpAny_getItem_str_slice (l := l') (u := u') (st := s') ⟨_, Heap.get?_push_size _ rfl, rfl, rfl⟩ (by rw [es]; rfl) ?_
  have e1 : slicePicked z l' u' s' = (List.range z.length).map fun k => z.length - 1 - k := by
    unfold slicePicked
    rw [el, eu, es]
    exact PySem.W.krv_sliceRange z.length
  unfold sliceMade
  rw [es, if_neg (by simp), e1]
  have e2 : (((List.range z.length).map fun k => z.length - 1 - k).filterMap (z.cps[·]?)) = z.cps.toList.reverse := by
    rw [PySem.W.krv_range, List.filterMap_reverse]
    have := PySem.W.krv_all z.cps
    rw [show z.length = z.cps.size from rfl, this]
  rw [e2]
  refine ⟨?_, .str _, H4, J5.tok _, ⟨_, rfl⟩, q⟩
  show (z.cps.toList.reverse.toArray).size ≤ sizeLine
  rw [List.size_toArray, List.length_reverse, Array.length_toList]
  exact hz
theorem mtPopAt : MtR X "list.pop" rPopAt := mt_popAt
theorem mtAppend : MtR X "list.append" rAppend := mt_append
theorem mtExtend : MtR X "list.extend" rExtend := mt_extend
theorem mtReverse : MtR X "list.reverse" rReverse := mt_reverse
theorem mtClear : MtR X "list.clear" rClear := mt_clear
end
end FL
namespace FL
open PySem PySem.Spec PyProof.Rows L2
/-! ### signs -/
def poolCodes : List Nat := "-.0123456789=>abcdefghijklmnopqrstuvwxyz|".toList.map (·.toNat)
structure Abc (z : Str) : Prop where
  lo : 2 ≤ z.length
  hi : z.length ≤ 4
  up : z.cps.toList.Pairwise (· < ·)
  inn : ∀ c ∈ z.cps.toList, c ∈ poolCodes
theorem perm_erase {α : Type} : ∀ (xs : List α) (i : Nat) (h : i < xs.length), (xs[i] :: xs.eraseIdx i).Perm xs
  | [], _, h => absurd h (by simp)
  | x :: xs, 0, _ => List.Perm.refl _
  | x :: xs, i + 1, h => by
    have ih := perm_erase xs i (by simpa using h)
    have hi : i < xs.length := by simpa using h
    show (xs[i] :: x :: xs.eraseIdx i).Perm (x :: xs)
    exact (List.Perm.swap _ _ _).trans (ih.cons x)
theorem erase_map {α β : Type} (f : α → β) : ∀ (xs : List α) (i : Nat), (xs.map f).eraseIdx i = (xs.eraseIdx i).map f
  | [], _ => rfl
  | _ :: _, 0 => rfl
  | x :: xs, i + 1 => by
    show f x :: (xs.map f).eraseIdx i = f x :: (xs.eraseIdx i).map f
    rw [erase_map f xs i]
def one (c : Nat) : Str := ⟨#[c]⟩
theorem one_inj {a b : Nat} (h : one a = one b) : a = b := by
  have := congrArg (fun s : Str => s.cps.toList) h
  simpa [one] using this
theorem map_one {ys : List Str} {cs : List Nat} (h : ys.Perm (cs.map one)) : ∃ ds : List Nat, ys = ds.map one ∧ ds.Perm cs := by
  have hall : ∀ y ∈ ys, ∃ c, y = one c := fun y hy => by
    obtain ⟨c, _, e⟩ := List.mem_map.mp (h.mem_iff.mp hy)
    exact ⟨c, e.symm⟩
  have hd : ∃ ds : List Nat, ys = ds.map one := by
    clear h
    induction ys with
    | nil => exact ⟨[], rfl⟩
    | cons y ys ih =>
      obtain ⟨c, rfl⟩ := hall y List.mem_cons_self
      obtain ⟨ds, rfl⟩ := ih fun y hy => hall y (List.mem_cons_of_mem _ hy)
      exact ⟨c :: ds, rfl⟩
  obtain ⟨ds, rfl⟩ := hd
  refine ⟨ds, rfl, ?_⟩
  have key : ∀ l : List Nat, (l.map one).map (fun s : Str => s.cps.toList.headD 0) = l := fun l => by
    rw [List.map_map]
    conv => rhs; rw [← List.map_id l]
    apply List.map_congr_left
    intro c _
    rfl
  have := h.map (fun s : Str => s.cps.toList.headD 0)
  rwa [key, key] at this
theorem lt_one (a b : Nat) : ltCps [a] [b] = decide (a < b) := by
  unfold ltCps
  by_cases h : a < b
  · simp [h, ltCps]
  · simp [h, ltCps]
theorem rising_one : ∀ (ds : List Nat) (a : Nat), risingS (one a) (ds.map one) = true → (∀ b ∈ ds, a ≤ b) ∧ ds.Pairwise (· ≤ ·)
  | [], _, _ => ⟨(fun _ h => nomatch h), .nil⟩
  | b :: r, a, h => by
    have h' : (!ltCps [b] [a] && risingS (one b) (r.map one)) = true := h
    rw [Bool.and_eq_true] at h'
    obtain ⟨h1, h2⟩ := h'
    have hab : a ≤ b := by
      rw [lt_one] at h1
      simpa using h1
    obtain ⟨i1, i2⟩ := rising_one r b h2
    refine ⟨fun c hc => ?_, .cons i1 i2⟩
    rcases List.mem_cons.mp hc with rfl | hc
    · exact hab
    · exact Nat.le_trans hab (i1 c hc)
theorem sorted_one : ∀ (ds : List Nat), sortedS (ds.map one) = true → ds.Pairwise (· ≤ ·)
  | [], _ => .nil
  | a :: r, h => let ⟨i1, i2⟩ := rising_one r a h; .cons i1 i2
theorem strict {ds : List Nat} (h : ds.Pairwise (· ≤ ·)) (n : ds.Nodup) : ds.Pairwise (· < ·) := by
  induction ds with
  | nil => exact .nil
  | cons a r ih =>
    cases h with
    | cons h1 h2 =>
      obtain ⟨n1, n2⟩ := List.nodup_cons.mp n
      refine .cons (fun b hb => ?_) (ih h2 n2)
      have := h1 b hb
      have : a ≠ b := fun e => n1 (e ▸ hb)
      omega
theorem pool_nodup : poolCodes.Nodup := by decide +kernel
def spAbc : Sp := fun vs H Q _ => ∃ (p : Addr), vs = [.ref p, .int 4] ∧ PotAt H p ∧
  ∀ (z : Str) (H' : Hp), Abc z → PotAt H' p → But p H H' → Q (.str z) H'
end FL
namespace FL
open PySem PySem.Spec PyProof.Rows L2
/-! ### rules -/
structure Rule where
  fr : Bool
  old : Str
  new : Str
def kd : Bool → Str
  | true => Str.ofString "front"
  | false => Str.ofString "whole"
def ruleV (r : Rule) : List V := [.str (kd r.fr), .str r.old, .str r.new]
def RuleAt (H : Hp) (v : V) (r : Rule) : Prop := ∃ t, v = .ref t ∧ H t = some (.tup (ruleV r))
abbrev RulesAt (H : Hp) : List V → List Rule → Prop := Paired (RuleAt H)
structure RuleOk (z : Str) (b : Nat) (r : Rule) : Prop where
  o1 : Over z r.old
  o2 : r.old.length ≤ b
  n1 : Over z r.new
  n2 : r.new.length ≤ b
theorem RuleOk.mono {z : Str} {b c : Nat} {r : Rule} (h : RuleOk z b r) (l : b ≤ c) : RuleOk z c r := ⟨h.o1, Nat.le_trans h.o2 l, h.n1, Nat.le_trans h.n2 l⟩
theorem RulesAt.imp {H H' : Hp} : ∀ {xs : List V} {rs : List Rule}, RulesAt H xs rs → (∀ t a, H t = some (.tup a) → H' t = some (.tup a)) → RulesAt H' xs rs
  | _, _, .nil, _ => .nil
  | _, _, .cons ⟨t, e, h⟩ r, k => .cons ⟨t, e, k _ _ h⟩ (RulesAt.imp r k)
theorem But.tups {p : Addr} {H H' : Hp} (b : But p H H') (hp : PotAt H p) : ∀ t a, H t = some (.tup a) → H' t = some (.tup a) := fun t a e =>
  b t _ e fun q => by
    obtain ⟨_, _, z, _⟩ := hp
    rw [q, z] at e
    cases e
theorem over_app {z a b : Str} (h1 : Over z a) (h2 : Over z b) : Over z (a ++ b) := fun c hc => by
  rw [Str.cps_append, Array.toList_append] at hc
  exact (List.mem_append.mp hc).elim (h1 c) (h2 c)
theorem over_cut {z y : Str} (h : Over z y) (lo hi : Option Int) : Over z (cutS y lo hi) := fun c hc => by
  apply h c
  have h' : c ∈ ((y.cps.toList.drop (HT.sIx y.length 0 lo)).take (HT.sIx y.length y.length hi - HT.sIx y.length 0 lo)) := by
    simpa [cutS] using hc
  exact List.mem_of_mem_drop (List.mem_of_mem_take h')
theorem over_rev {z y : Str} (h : Over z y) : Over z ⟨y.cps.toList.reverse.toArray⟩ := fun c hc => h c (by simpa using hc)
theorem over_one {z : Str} {c : Nat} (h : c ∈ z.cps.toList) : Over z ⟨#[c]⟩ := fun d hd => by
  have : d = c := by simpa using hd
  rw [this]
  exact h
theorem len_app (a b : Str) : (a ++ b).length = a.length + b.length := Str.length_append a b
theorem len_rev (y : Str) : (⟨y.cps.toList.reverse.toArray⟩ : Str).length = y.length := by
  show (y.cps.toList.reverse.toArray).size = y.cps.size
  simp
theorem len_one (c : Nat) : (⟨#[c]⟩ : Str).length = 1 := rfl
def spDeals : Sp := fun vs H Q _ => ∃ (p : Addr) (z : Str) (lot most : Int), vs = [.ref p, .str z, .int lot, .int most] ∧ PotAt H p ∧ 0 < z.length ∧ z.length ≤ 1000 ∧
  0 ≤ lot ∧ lot ≤ 100 ∧ 0 ≤ most ∧ most ≤ 20 ∧
  ∀ (D : Addr) (xs : List V) (rs : List Rule) (H' : Hp), H D = none → H' D = some (.lst xs) → RulesAt H' xs rs → (rs.length : Int) ≤ lot →
    (∀ r ∈ rs, RuleOk z (most.toNat + 2) r) → PotAt H' p → But p H H' → Q (.ref D) H'
theorem paired_snoc {α β : Type} {R : α → β → Prop} : ∀ {xs : List α} {ys : List β} {x : α} {y : β}, Paired R xs ys → R x y → Paired R (xs ++ [x]) (ys ++ [y])
  | _, _, _, _, .nil, h => .cons h .nil
  | _, _, _, _, .cons a b, h => .cons a (paired_snoc b h)
theorem paired_len {α β : Type} {R : α → β → Prop} {xs : List α} {ys : List β} (h : Paired R xs ys) : xs.length = ys.length := Paired.length h
end FL
namespace FL
open PySem PySem.Spec PyProof.Rows L2
/-! ### turning -/
def fits (r : Rule) (y : Str) : Bool :=
  match r.fr with
  | true => decide (cutS y none (some (r.old.length : Int)) = r.old)
  | false => decide (y = r.old)
def turnR (r : Rule) (y : Str) : Str :=
  match r.fr with
  | true => r.new ++ cutS y (some (r.old.length : Int)) none
  | false => r.new
def turn : List Rule → Str → Str
  | [], y => y
  | r :: rs, y => if fits r y = true then turnR r y else turn rs y
def spTurn (K : PySem.W.Frag) : Sp := fun vs H Q _ => ∃ (D : Addr) (y : Str) (xs : List V) (rs : List Rule), vs = [.ref D, .str y] ∧ SqL K H D xs ∧ RulesAt H xs rs ∧
  y.length ≤ 100000 ∧ (∀ r ∈ rs, r.old.length ≤ 1000 ∧ r.new.length ≤ 1000) ∧ Q (.str (turn rs y)) H
theorem kd_ne : kd true ≠ kd false := by decide +kernel
theorem strV_ne {a b : Str} (h : a ≠ b) : ¬ (V.str a = V.str b) := fun e => h (V.str.inj e)
end FL
namespace FL
open PySem PySem.Spec PyProof.Rows L2
structure NoteOk (z : Str) (b : Nat) (y : Str) : Prop where
  ov : Over z y
  le : y.length ≤ b
def spNotes : Sp := fun vs H Q _ => ∃ (z : Str) (m : Int), vs = [.str z, .int m] ∧ 0 < z.length ∧ z.length ≤ 4 ∧ 0 ≤ m ∧ m ≤ 4 ∧
  ∀ (D : Addr) (ys : List Str) (H' : Hp), H D = none → H' D = some (.lst (ys.map V.str)) → (∀ y ∈ ys, NoteOk z m.toNat y) → ys.length ≤ 2000 → Same H H' → Q (.ref D) H'
theorem _root_.L2.Same.upd {H H1 : Hp} {q : Addr} {o : HO} (s : Same H H1) (n : H q = none) : Same H (upd H1 q o) := fun c u e => by
  rw [upd_ne (ne_of_none e n)]
  exact s c u e
theorem _root_.L2.Same.none {H H1 : Hp} {q : Addr} (s : Same H H1) (n : H1 q = Option.none) : H q = Option.none := s.free n
theorem pow_bound {n i : Nat} (h1 : n ≤ 4) (h2 : i ≤ 4) (h0 : 0 < n) : n ^ i ≤ 256 :=
  Nat.le_trans (Nat.pow_le_pow_left h1 i) (Nat.le_trans (Nat.pow_le_pow_right (by decide) h2) (by decide))
end FL
namespace FL
open PySem PySem.Spec PyProof.Rows L2
/-! ### data that can be shown and compared, of at most n signs -/
structure Sm (n : Nat) (d : PyData) : Prop where
  sh : d.showable = true
  nd : d.hasDict = false
  cl : d.canLay0 = true
  dp : d.depth ≤ 12
  len : d.shown.length ≤ n
structure SmL (k n : Nat) (ds : List PyData) : Prop where
  sh : PyData.showableAll ds = true
  nd : PyData.hasDictAll ds = false
  cl : PyData.canLayAll0 ds = true
  dp : PyData.depthAll ds ≤ k
  len : piled (PyData.shownAll ds) ≤ n
theorem Sm.shaped {n : Nat} {d : PyData} (h : Sm n d) : SeqAt.shaped d = true := by
  unfold SeqAt.shaped
  rw [h.cl, decide_eq_true (Nat.le_trans h.dp (by decide))]
  rfl
theorem Sm.nice {n : Nat} {d : PyData} (h : Sm n d) (hn : n ≤ sizeLine) : NiceD d := ⟨h.sh, Nat.le_trans h.dp (by decide), Nat.le_trans h.len hn⟩
theorem Sm.mono {n m : Nat} {d : PyData} (h : Sm n d) (l : n ≤ m) : Sm m d := ⟨h.sh, h.nd, h.cl, h.dp, Nat.le_trans h.len l⟩
theorem SmL.nil {k : Nat} : SmL k 0 [] := ⟨rfl, rfl, rfl, Nat.zero_le _, Nat.le_refl _⟩
theorem SmL.cons {k m n : Nat} {d : PyData} {ds : List PyData} (h : Sm m d) (hd : d.depth ≤ k) (r : SmL k n ds) : SmL k (m + 2 + n) (d :: ds) := by
  refine ⟨?_, ?_, ?_, ?_, ?_⟩
  · show (d.showable && PyData.showableAll ds) = true
    rw [h.sh, r.sh]
    rfl
  · show (d.hasDict || PyData.hasDictAll ds) = false
    rw [h.nd, r.nd]
    rfl
  · show (d.canLay0 && PyData.canLayAll0 ds) = true
    rw [h.cl, r.cl]
    rfl
  · show max d.depth (PyData.depthAll ds) ≤ k
    have := r.dp
    omega
  · show piled (d.shown :: PyData.shownAll ds) ≤ _
    rw [piled_cons]
    have := r.len
    have := h.len
    omega
theorem textFrom_le : ∀ (ts : List Str) (k : Nat) (acc : Str), (textFrom k acc ts).length ≤ acc.length + piled ts
  | [], k, acc => Nat.le_add_right _ _
  | t :: r, k, acc => by
    have h := textFrom_le r (k + 1) (acc ++ (if k > 0 then ", " else "" : String) ++ t)
    have e : (acc ++ (if k > 0 then ", " else "" : String) ++ t).length ≤ acc.length + 2 + t.length := by
      rw [strLen_append, strLen_append]
      have : ((if k > 0 then ", " else "" : String) : Str).length ≤ 2 := by split <;> decide +kernel
      omega
    show (textFrom (k + 1) _ r).length ≤ _
    rw [piled_cons]
    omega
theorem Sm.list {k n : Nat} {ds : List PyData} (h : SmL k n ds) (hk : k < 12) : Sm (n + 2) (.list ds) := by
  refine ⟨h.sh, h.nd, h.cl, ?_, ?_⟩
  · show PyData.depthAll ds + 1 ≤ 12
    have := h.dp
    omega
  · show (listText (PyData.shownAll ds)).length ≤ _
    unfold listText
    rw [strLen_append]
    have h1 := textFrom_le (PyData.shownAll ds) 0 "["
    have h2 : (("[" : String) : Str).length = 1 := rfl
    have h3 : (("]" : String) : Str).length = 1 := rfl
    have := h.len
    omega
theorem tupleText_le (ts : List Str) : (tupleText ts).length ≤ piled ts + 3 := by
  have e3 : (((if ts.length == 1 then ",)" else ")" : String) : Str)).length ≤ 2 := by split <;> decide +kernel
  have e1 : ((("(" : String) : Str)).length = 1 := rfl
  unfold tupleText
  rw [strLen_append, strLen_append, e1]
  by_cases h : ts = []
  · subst h
    have : (Str.join ", " ([] : List Str)).length = 0 := rfl
    omega
  · have := join_length_add ts h
    omega
theorem Sm.tuple {k n : Nat} {ds : List PyData} (h : SmL k n ds) (hk : k < 12) : Sm (n + 3) (.tuple ds) := by
  refine ⟨h.sh, h.nd, h.cl, ?_, ?_⟩
  · show PyData.depthAll ds + 1 ≤ 12
    have := h.dp
    omega
  · show (tupleText (PyData.shownAll ds)).length ≤ _
    have := tupleText_le (PyData.shownAll ds)
    have := h.len
    omega
/-- plain signs -/
def Plain (y : Str) : Prop := ∀ c ∈ y.cps.toList, c < 128
theorem pool_plain : ∀ c ∈ poolCodes, c < 128 := by decide +kernel
theorem Abc.plain {z y : Str} (h : Abc z) (o : Over z y) : Plain y := fun c hc => pool_plain c (h.inn c (o c hc))
theorem Sm.str {y : Str} (h : Plain y) : Sm (10 * y.length + 2) (.str y) := by
  refine ⟨rfl, rfl, ?_, Nat.zero_le _, StrLaws.reprText_len y fun c hc => Nat.lt_trans (h c hc) (by decide)⟩
  show y.cps.all (· < 0x110000) = true
  rw [Array.all_eq_true]
  intro i hi
  refine decide_eq_true (Nat.lt_trans (h y.cps[i] ?_) (by decide))
  exact Array.getElem_mem_toList hi
theorem Sm.bool (b : Bool) : Sm 5 (.bool b) := ⟨rfl, rfl, rfl, Nat.zero_le _, by cases b <;> decide +kernel⟩
def ruleD (r : Rule) : PyData := .tuple [.str (kd r.fr), .str r.old, .str r.new]
theorem kd_plain (b : Bool) : Plain (kd b) := by
  have h : ∀ c ∈ (kd b).cps.toList, c < 128 := by cases b <;> decide +kernel
  exact h
theorem kd_len (b : Bool) : (kd b).length = 5 := by cases b <;> decide +kernel
theorem Sm.rule {b : Nat} {r : Rule} (h1 : Plain r.old) (h2 : Plain r.new) (l1 : r.old.length ≤ b) (l2 : r.new.length ≤ b) : Sm (20 * b + 75) (ruleD r) := by
  have a0 := Sm.str (kd_plain r.fr)
  rw [kd_len] at a0
  have := Sm.tuple (k := 1) (SmL.cons a0 (Nat.zero_le _) (SmL.cons ((Sm.str h1).mono (show _ ≤ 10 * b + 2 by omega)) (Nat.zero_le _) (SmL.cons ((Sm.str h2).mono (show _ ≤ 10 * b + 2 by omega)) (Nat.zero_le _) SmL.nil))) (by decide)
  exact this.mono (by omega)
theorem rule_depth (r : Rule) : (ruleD r).depth = 1 := rfl
theorem SmL.rules {b : Nat} : ∀ {rs : List Rule}, (∀ r ∈ rs, Plain r.old ∧ Plain r.new ∧ r.old.length ≤ b ∧ r.new.length ≤ b) → SmL 1 ((20 * b + 77) * rs.length) (rs.map ruleD)
  | [], _ => SmL.nil
  | r :: rs, h => by
    obtain ⟨h1, h2, h3, h4⟩ := h r List.mem_cons_self
    have ih := SmL.rules (rs := rs) fun r hr => h r (List.mem_cons_of_mem _ hr)
    have := SmL.cons (Sm.rule h1 h2 h3 h4) (Nat.le_of_eq (rule_depth r)) ih
    refine ⟨this.sh, this.nd, this.cl, this.dp, Nat.le_trans this.len ?_⟩
    rw [List.length_cons, Nat.mul_add, Nat.mul_one]
    omega
theorem Sm.rules {b : Nat} {rs : List Rule} (h : ∀ r ∈ rs, Plain r.old ∧ Plain r.new ∧ r.old.length ≤ b ∧ r.new.length ≤ b) : Sm ((20 * b + 77) * rs.length + 2) (.list (rs.map ruleD)) :=
  Sm.list (SmL.rules h) (by decide)
theorem dp_rule {K : PySem.W.Frag} {H : Hp} {v : V} {r : Rule} (h : RuleAt H v r) : Dp K H v (ruleD r) := by
  obtain ⟨t, rfl, e⟩ := h
  exact .tup (SqT.of e) (.cons (.str _) (.cons (.str _) (.cons (.str _) .nil)))
theorem dp_rules {K : PySem.W.Frag} {H : Hp} : ∀ {xs : List V} {rs : List Rule}, RulesAt H xs rs → DpAll K H xs (rs.map ruleD)
  | _, _, .nil => .nil
  | _, _, .cons a b => .cons (dp_rule a) (dp_rules b)
theorem dp_list {K : PySem.W.Frag} {H : Hp} {D : Addr} {xs : List V} {rs : List Rule} (h : SqL K H D xs) (r : RulesAt H xs rs) : Dp K H (.ref D) (.list (rs.map ruleD)) := .lst h (dp_rules r)
theorem eqv_rule (a b : Rule) : PyData.eqv (ruleD a) (ruleD b) = true ↔ a = b := by
  obtain ⟨f, o, n⟩ := a
  obtain ⟨f', o', n'⟩ := b
  show ((kd f == kd f') && ((o == o') && ((n == n') && true))) = true ↔ _
  rw [Bool.and_eq_true, Bool.and_eq_true, Bool.and_eq_true]
  constructor
  · rintro ⟨h1, h2, h3, _⟩
    have e1 : kd f = kd f' := eq_of_beq h1
    have e2 : f = f' := by
      cases f <;> cases f' <;> first | rfl | exact absurd e1 kd_ne | exact absurd e1.symm kd_ne
    rw [e2, eq_of_beq h2, eq_of_beq h3]
  · intro h
    cases h
    simp
theorem eqv_rules : ∀ (a b : List Rule), PyData.eqvAll (a.map ruleD) (b.map ruleD) = true ↔ a = b
  | [], [] => by simp [PyData.eqvAll]
  | [], _ :: _ => by simp [PyData.eqvAll]
  | _ :: _, [] => by simp [PyData.eqvAll]
  | x :: a, y :: b => by
    show (PyData.eqv (ruleD x) (ruleD y) && PyData.eqvAll (a.map ruleD) (b.map ruleD)) = true ↔ _
    rw [Bool.and_eq_true, eqv_rule, eqv_rules a b]
    simp
end FL
namespace FL
open PySem PySem.Spec PyProof.Rows L2
def spHid (K : PySem.W.Frag) : Sp := fun vs H Q _ => ∃ (p : Addr) (z : Str) (D0 : Addr) (xs : List V) (rs : List Rule) (b : Nat), vs = [.ref p, .str z, .ref D0] ∧ PotAt H p ∧ Abc z ∧
  SqL K H D0 xs ∧ RulesAt H xs rs ∧ rs.length ≤ 50 ∧ b ≤ 20 ∧ 2 ≤ b ∧ (∀ r ∈ rs, RuleOk z b r) ∧
  ∀ (D : Addr) (ys : List V) (ts : List Rule) (H' : Hp), H D = none → H' D = some (.lst ys) → RulesAt H' ys ts → ts.length ≤ rs.length + 2 →
    (∀ r ∈ ts, RuleOk z (b + 2) r) → PotAt H' p → But p H H' → Q (.ref D) H'
theorem paired_mem {α β : Type} {R : α → β → Prop} : ∀ {xs : List α} {ys : List β} {x : α}, Paired R xs ys → x ∈ xs → ∃ y, y ∈ ys ∧ R x y
  | _, _, _, .nil, h => nomatch h
  | _, _, x, .cons a r, h => by
    rcases List.mem_cons.mp h with rfl | h
    · exact ⟨_, List.mem_cons_self, a⟩
    · obtain ⟨y, h1, h2⟩ := paired_mem r h
      exact ⟨y, List.mem_cons_of_mem _ h1, h2⟩
theorem ok_plain {z : Str} {b : Nat} {rs : List Rule} (h : Abc z) (ok : ∀ r ∈ rs, RuleOk z b r) : ∀ r ∈ rs, Plain r.old ∧ Plain r.new ∧ r.old.length ≤ b ∧ r.new.length ≤ b :=
  fun r hr => ⟨h.plain (ok r hr).o1, h.plain (ok r hr).n1, (ok r hr).o2, (ok r hr).n2⟩
end FL
namespace FL
open PySem PySem.Spec PyProof.Rows L2
theorem walk_zipS {x y : Str} : Walk (ItS x y) (min x.cps.size y.cps.size) (fun _ => True)
    (fun i H v H' => ∃ T a b, v = .ref T ∧ H T = none ∧ H' = upd H T (.tup [.str ⟨#[a]⟩, .str ⟨#[b]⟩]) ∧ x.cps[i]? = some a ∧ y.cps[i]? = some b) :=
  ⟨fun _ _ h _ => h, fun _ _ => rfl, fun _ _ _ _ _ _ h => h⟩
def signChars : Str := Str.ofString "abcdefghijklmnopqrstuvwxyz0123456789.-=>|"
def rise (l : List Nat) : List Bool := List.zipWith (fun a b => decide ([a] < [b])) l l.tail
def signsB : V → Bool
  | .str z => decide (2 ≤ z.length) && (decide (z.length ≤ 4) && ((rise z.cps.toList).all id && lineB signChars (.str z)))
  | _ => false
def spSigns : Sp := fun vs H Q _ => ∃ (v : V) (n : String), vs = [v] ∧ Any H v n ∧ Short v ∧ ∀ H', Same H H' → Q (.bl (signsB v)) H'
theorem cut_tail (z : Str) : (cutS z (some 1) none).cps.toList = z.cps.toList.tail := by
  show ((z.cps.toList.drop (HT.sIx z.length 0 (some ((1 : Nat) : Int)))).take (HT.sIx z.length z.length none - HT.sIx z.length 0 (some ((1 : Nat) : Int)))).toArray.toList = _
  rw [HT.sIx_nat, HT.sIx_none]
  show (List.drop (min 1 z.length) z.cps.toList).take (z.length - min 1 z.length) = _
  have hl := str_len z
  cases h : z.cps.toList with
  | nil => simp
  | cons a l =>
    rw [h] at hl
    have : z.length = l.length + 1 := by simpa using hl
    have m : min 1 z.length = 1 := by omega
    rw [m, List.drop_succ_cons, List.drop_zero, List.tail_cons, List.take_of_length_le (by omega)]
theorem rise_get {l : List Nat} {i a b : Nat} (h1 : l[i]? = some a) (h2 : l.tail[i]? = some b) : (rise l)[i]? = some (decide ([a] < [b])) := by
  unfold rise
  rw [List.getElem?_zipWith, h1, h2]
theorem take_snoc {α : Type} {l : List α} {i : Nat} {x : α} (h : l[i]? = some x) : l.take (i + 1) = l.take i ++ [x] := by
  obtain ⟨hi, e⟩ := List.getElem?_eq_some_iff.mp h
  rw [List.take_succ_eq_append_getElem hi, e]
end FL
namespace FL
open PySem PySem.Spec PyProof.Rows L2
theorem takeWhile_len {α : Type} {p : α → Bool} : ∀ {l : List α}, (∀ a ∈ l, p a = true) → (l.takeWhile p).length = l.length
  | [], _ => rfl
  | a :: l, h => by
    rw [List.takeWhile_cons, if_pos (h a List.mem_cons_self), List.length_cons, List.length_cons, takeWhile_len fun b hb => h b (List.mem_cons_of_mem _ hb)]
theorem over_line {z y : Str} (h : Over z y) : lineB z (.str y) = true := by
  show decide (Txt.stripChars y z = Str.ofString "") = true
  apply decide_eq_true
  unfold Txt.stripChars
  rw [stripBy_eq]
  have e1 : stripLo z.cps.contains true y = y.cps.size := by
    unfold stripLo
    rw [if_pos rfl, takeWhile_len, Array.length_toList]
    intro c hc
    have := h c hc
    rw [Array.contains_iff_mem]
    exact Array.mem_def.mpr this
  rw [e1]
  apply Str_ext
  show (y.cps.extract y.cps.size _).toList = (Str.ofString "").cps.toList
  rw [show (Str.ofString "").cps.toList = [] by decide +kernel]
  have : (y.cps.extract y.cps.size (stripHi z.cps.contains true y y.cps.size)).size = 0 := by
    rw [Array.size_extract]
    omega
  exact List.length_eq_zero_iff.mp (by rw [Array.length_toList]; exact this)
theorem pool_line : ∀ c ∈ poolCodes, c ∈ signChars.cps.toList := by decide +kernel
theorem rise_all : ∀ {l : List Nat}, l.Pairwise (· < ·) → (rise l).all id = true
  | [], _ => rfl
  | [a], _ => rfl
  | a :: b :: r, h => by
    cases h with
    | cons h1 h2 =>
      have ih := rise_all h2
      show (decide ([a] < [b]) && (rise (b :: r)).all id) = true
      rw [ih, decide_eq_true]
      · rfl
      · exact List.Lex.rel (h1 b List.mem_cons_self)
theorem abc_signs {z : Str} (h : Abc z) : signsB (.str z) = true := by
  show (decide (2 ≤ z.length) && (decide (z.length ≤ 4) && ((rise z.cps.toList).all id && lineB signChars (.str z)))) = true
  rw [decide_eq_true h.lo, decide_eq_true h.hi, rise_all h.up, over_line fun c hc => pool_line c (h.inn c hc)]
  rfl
/-! checks that raise nothing -/
def spCheckSigns : Sp := fun vs H Q _ => ∃ z : Str, vs = [.str z] ∧ Abc z ∧ ∀ H', Same H H' → Q .non H'
def spCheckLine : Sp := fun vs H Q _ => ∃ (z y : Str), vs = [.str z, .str y] ∧ Over z y ∧ y.length ≤ sizeLine ∧ Q .non H
end FL
namespace FL
open PySem PySem.Spec PyProof.Rows L2
def spIsList : Sp := fun vs H Q _ => ∃ (v : V) (n : String), vs = [v] ∧ Any H v n ∧ ∀ H', Same H H' → Q (.bl (n == "list" || n == "tuple")) H'
def spRuleLine : Sp := fun vs H Q _ => ∃ (z y : Str), vs = [.str z, .str y] ∧ Over z y ∧ y.length ≤ 40 ∧ Q (.bl true) H
def spIsRule : Sp := fun vs H Q _ => ∃ (z : Str) (v : V) (r : Rule), vs = [.str z, v] ∧ RuleAt H v r ∧ RuleOk z 40 r ∧ ∀ H', Same H H' → Q (.bl true) H'
theorem kitL_all : (kinds.all fun n => decide (kitB n "list" = some (n == "list")) && decide (kitB n "tuple" = some (n == "tuple"))) = true := by decide +kernel
theorem kit_lt {K : PySem.W.Frag} {n : String} (h : n ∈ kinds) : PySem.W.kitAny K (.type n) [.type "list", .type "tuple"] = some (n == "list" || n == "tuple") := by
  have h' := List.all_eq_true.mp kitL_all n h
  rw [Bool.and_eq_true] at h'
  have h1 : kitB n "list" = some (n == "list") := of_decide_eq_true h'.1
  have h2 : kitB n "tuple" = some (n == "tuple") := of_decide_eq_true h'.2
  refine kitAny_cons (kit_ty h1) (fun e => ?_) (fun e => by rw [e]; rfl)
  refine kitAny_cons (kit_ty h2) (fun e2 => ?_) (fun e2 => by rw [e2, Bool.or_true])
  rw [e, e2]
  exact kitAny_nil
end FL
namespace PySem
open Builtin
theorem fl_enum_new {v : Value} {o : Obj} {G : Heap → Prop} (B : Begins v o G) :
    Meets (Builtin.«enumerate.__new__» ⟨[.type "enumerate", v], []⟩) (fun _ R s => G s.heap ∧
      R (.ok (.ret (.ref (s.heap.push o).objs.size)))
        { s with heap := (s.heap.push o).push { cls := .type "enumerate", data := .fields #[.none, .bool false, .ref s.heap.objs.size, rawInt 0, .none, .none] } }) := by
  refine .of_wp ?_
  rintro prog w A R ⟨hp, g, d, tk, os⟩ ⟨h1, h⟩
  have known := sub_enumerate
  have it0 : ∀ {A' : Around} {E : Value → Shared → Prop} {Q : Value → Shared → Prop}, Q (.ref hp.objs.size) ⟨hp.push o, g, d, tk, os⟩ →
      wpAny (model prog w) A' (pyIter v) Q E ⟨hp, g, d, tk, os⟩ := fun q => B.iter prog w _ _ ⟨hp, g, d, tk, os⟩ _ h1 q
  wp_walk using it0
  refine wpAny_stack_any fun st => wpAny_pure ?_
  split
  · rename_i c _ _ _ _ _
    cases (c == Value.type "enumerate") <;>
      (wp_walk using it0
       exact ⟨_, rfl, h⟩)
  · wp_walk using it0
    exact ⟨_, rfl, h⟩
theorem fl_enum {prog : Program} {w : World} {A : Around} {E : Value → Shared → Prop} {s : Shared} {v : Value} {o : Obj} {G : Heap → Prop} {Q : Value → Shared → Prop} (B : Begins v o G) (h1 : G s.heap)
    (h : ∀ h', IsEnum h' (s.heap.objs.size + 1) s.heap.objs.size 0 .none → h'.get? s.heap.objs.size = some o →
      (∀ b u, s.heap.get? b = some u → h'.get? b = some u) → Q (.ref (s.heap.objs.size + 1)) { s with heap := h' }) :
    wpAny (model prog w) A (call (.type "enumerate") [v]) Q E s := by
  refine callType_new F.called_enumerate (by decide) (F.typeCall_enumerate_1 _) (F.newCall_enumerate_1 _) (fun obj => F.args_object_init_2 obj _) F.entry_enumerate_new
    (fl_enum_new B) ⟨h1, ?_⟩
  have hz : (s.heap.push o).objs.size = s.heap.objs.size + 1 := Heap.size_push ..
  have he : IsEnum ((s.heap.push o).push { cls := .type "enumerate", data := .fields #[.none, .bool false, .ref s.heap.objs.size, rawInt 0, .none, .none] }) (s.heap.objs.size + 1) s.heap.objs.size 0 .none := by
    have q := Heap.get?_push_size (s.heap.push o) (o := { cls := .type "enumerate", data := .fields #[.none, .bool false, .ref s.heap.objs.size, rawInt 0, .none, .none] }) rfl
    rw [hz] at q
    exact q
  show _ ∧ _
  rw [hz]
  exact ⟨⟨_, he, rfl⟩, h _ he (Heap.get?_push_of_some _ (Heap.get?_push_size _ B.free)) fun b u e => Heap.get?_push_of_some _ (Heap.get?_push_of_some _ e)⟩
end PySem
namespace FL
open PySem PySem.Spec PyProof.Rows L2
/-! ### enumerate of a tuple -/
def IteT (K : PySem.W.Frag) (a : Addr) (xs : List V) : It :=
  ⟨fun i H => SqT K H a xs ∧ i < xs.length,
   fun i H v H' => ∃ T x, v = .ref T ∧ H T = none ∧ H' = upd H T (.tup [.int (i : Nat), x]) ∧ xs[i]? = some x,
   fun i H => SqT K H a xs ∧ i = xs.length⟩
theorem sqT_inj {X : Cx} {pins : List (Addr × Obj)} {σ : L2.St} {H : Hp} {s : Shared} (I : L2.Inv X pins σ H s) {a : Addr} {xs : List V} (h : SqT X.K H a xs) :
    ∃ its : List Value, Vals xs its ∧ s.heap.IsTuple a its.toArray := by
  obtain ⟨its, r, e, _⟩ := I.tuple h
  exact ⟨its, r, e⟩
theorem turn_enumT {P : Program} {w : World} {K : PySem.W.Frag} {elts : List Expr} {kk : Nat} {tpos : Pos} (a e it : Addr) (xs : List V) :
    Turn P w K (.Tuple elts kk tpos) (IteT K a xs) [e, it] e (fun i h => (∃ old, IsEnum h e it ((i : Nat) : Int) old) ∧ h.IsTupleIter it a i ∧ e ≠ it ∧ a ≠ it ∧ a ≠ e) where
  mem := by simp
  obj := by
    rintro i h ⟨⟨old, he⟩, ⟨o, ho, hd⟩, _⟩ b hb
    have e' : b = e ∨ b = it := by simpa using hb
    rcases e' with rfl | rfl
    · exact ⟨_, he, fun v q => nomatch q⟩
    · exact ⟨_, ho, fun v q => by simp_all⟩
  keep := by
    rintro i h h' ⟨⟨old, he⟩, hi, n1, n2⟩ k
    exact ⟨⟨old, k e (by simp) _ he⟩, hi.at fun o q => k it (by simp) o q, n1, n2⟩
  item := by
    intro X hP hw hK hc i pins s σ H E I hf st hg
    subst hP hw hK
    obtain ⟨⟨old, he⟩, hit, hne, hna, hnb⟩ := st
    obtain ⟨hq, hlt⟩ := hg
    obtain ⟨its, rv, p⟩ := sqT_inj I hq
    have hl := rv.length
    have hh : X.A.in1.handled = none := I.ok.hd hc
    have el := Heap.lt_size he
    have il : it < s.heap.objs.size := by
      obtain ⟨_, q, _⟩ := hit
      exact Heap.lt_size q
    refine wpAny_pyNext_enum_itemD (Draws.tuple hh it a hna its.toArray) he ⟨hit, p⟩ (by simp; omega) hne (by simp [hne, Ne.symm hnb]) ?_
    rintro u h' tk hu ho ⟨hit', _⟩ hT sz kp
    have hx : xs[i]? = some xs[i] := List.getElem?_eq_getElem hlt
    obtain ⟨u', hu', ru⟩ := rv.get hx
    have : u' = u := by
      have hu2 : its[i]? = some u := by simpa using hu
      rw [hu2] at hu'
      exact (Option.some.inj hu').symm
    subst this
    refine ⟨_, rfl, wpAny_letOwnedTupleGo_enum (s := { s with heap := h', toks := tk + 1 }) ho fun h2 he2 sb => ?_⟩
    have T2 : h2.get? s.heap.objs.size = some { cls := .type "tuple", data := .seq #[.int i tk, u'] } := (sb.2 _ (Nat.ne_of_gt el)).trans hT
    have ok : ObjOk X.prog X.w (upd H s.heap.objs.size (.tup [.int (i : Nat), xs[i]])) h2 s.heap.objs.size (.tup [.int (i : Nat), xs[i]]) :=
      ⟨(by show 2 ≤ sizeLine; decide), [_, _], .cons ⟨tk, rfl⟩ (.cons ru .nil), ⟨_, T2, rfl, _, rfl⟩⟩
    have J := I.turnedNew (t' := tk + 1) (ch := [e, it]) (h' := h2) (fun b ob nb q => (sb.2 b fun z => nb (by simp [z])).trans
      (kp b ob (fun z => nb (by simp [z])) (fun z => nb (by simp [z])) q)) hf (Nat.le_refl _) ok
    refine ⟨.ref s.heap.objs.size, _, J, rfl, ⟨_, xs[i], rfl, I.hok.fresh (Nat.le_refl _), rfl, hx⟩, ⟨⟨u', ?_⟩, hit'.at fun o q => (sb.2 it (Ne.symm hne)).trans q, hne, hna, hnb⟩, fun b hb => ?_⟩
    · rw [show ((i + 1 : Nat) : Int) = (i : Int) + 1 by omega]
      exact he2
    · have lb : b < s.heap.objs.size := by
        have e' : b = e ∨ b = it := by simpa using hb
        rcases e' with rfl | rfl
        · exact el
        · exact il
      rw [upd_ne (Nat.ne_of_lt lb)]
      exact (hf b hb).1
  done := by
    intro X hP hw hK hc i pins s σ H E I hf st hg
    subst hP hw hK
    obtain ⟨⟨old, he⟩, hit, hne, hna, hnb⟩ := st
    obtain ⟨hq, rfl⟩ := hg
    obtain ⟨its, rv, p⟩ := sqT_inj I hq
    have hl := rv.length
    have hh : X.A.in1.handled = none := I.ok.hd hc
    have ez : its.toArray.size = xs.length := by simp [hl]
    obtain ⟨f0, f1, f2, f3, f4, f5⟩ := hf it (by simp)
    refine wpAny_pyNext_enum_endD (Draws.tuple hh it a hna its.toArray) he (by rw [ez]; exact ⟨hit, p⟩) fun h' eb => ?_
    exact ⟨rfl, I.turned (t' := s.toks) (fun b o nb q => eb b o nb q) f0 f1 f3 f4 f5⟩
  self := fun A i s Q E st h => let ⟨⟨_, he⟩, _⟩ := st; wpAny_pyIter_enum he h
def iEnumT (K : PySem.W.Frag) (ta : TA) : TI := fun σ H R => ta σ H fun vs H1 => ∃ a xs, vs = [.ref a] ∧ SqT K H1 a xs ∧ R (IteT K a xs) H1
theorem pi_enumT {X : Cx} {e : Expr} {ta : TA} {p pos tpos : Pos} {elts : List Expr} {kk : Nat} (hg : Gl X "enumerate") (hm : X.mg "enumerate" = none) (ha : PA X [e] ta)
    (hs : starEach [e] X.env = [(false, eval e X.env)] := by rfl) :
    PI X (.Tuple elts kk tpos) (.Call (.Name "enumerate" p) [e] [] pos) (iEnumT X.K ta) := by
  constructor
  intro pins s σ H R I h
  refine Call_ (ld_blt I hg hm boot_enumerate (PyProof.Rows.callWith_type1 (thn (ha.run pos pins s σ H _ I h) fun us s1 hu => ?_) hs rfl))
  obtain ⟨vs, H1, J, r, a, xs, rfl, hq, q⟩ := hu
  obtain ⟨u, rfl, ru⟩ := vals1 r
  cases ru
  obtain ⟨its, rv, pt⟩ := sqT_inj J hq
  refine fl_enum (begins_tuple a its.toArray) pt ?_
  intro h' he hit kp
  refine wpAny_pyIter_enum he ?_
  have J2 : Inv X pins σ H1 { s1 with heap := h' } := J.kept (t' := s1.toks) kp
  have la : a < s1.heap.objs.size := by
    obtain ⟨_, q, _⟩ := pt
    exact Heap.lt_size q
  refine ⟨_, _, _, IteT X.K a xs, H1, rfl, J2, turn_enumT a (s1.heap.objs.size + 1) s1.heap.objs.size xs,
    ⟨⟨.none, he⟩, ⟨_, hit, rfl, rfl⟩, Nat.succ_ne_self _, Nat.ne_of_lt la, Nat.ne_of_lt (Nat.lt_succ_of_lt la)⟩, fun b hb => ?_, q⟩
  have e' : b = s1.heap.objs.size + 1 ∨ b = s1.heap.objs.size := by simpa using hb
  have hle : s1.heap.objs.size ≤ b := by
    rcases e' with z | z <;> rw [z]
    · exact Nat.le_add_right _ _
    · exact Nat.le_refl _
  exact J.fpOk hle (J.hok.fresh hle)
/-- either, by one rule -/
def IteS (K : PySem.W.Frag) (a : Addr) (xs : List V) (t : Bool) : It := if t then IteT K a xs else Ite K a
def SqX (K : PySem.W.Frag) (H : Hp) (a : Addr) (xs : List V) (t : Bool) : Prop := if t = true then SqT K H a xs else SqL K H a xs
def iEnumX (K : PySem.W.Frag) (t : Bool) (ta : TA) : TI := fun σ H R => ta σ H fun vs H1 => ∃ a xs, vs = [.ref a] ∧ SqX K H1 a xs t ∧ R (IteS K a xs t) H1
theorem pi_enumX {X : Cx} {e : Expr} {ta : TA} {p pos tpos : Pos} {elts : List Expr} {kk : Nat} (t : Bool) (hg : Gl X "enumerate") (hm : X.mg "enumerate" = none) (ha : PA X [e] ta)
    (hs : starEach [e] X.env = [(false, eval e X.env)] := by rfl) :
    PI X (.Tuple elts kk tpos) (.Call (.Name "enumerate" p) [e] [] pos) (iEnumX X.K t ta) := by
  cases t with
  | true => exact pi_enumT hg hm ha hs
  | false => exact pi_enum hg hm ha hs
theorem SqX.kept {K : PySem.W.Frag} {H H' : Hp} {a : Addr} {xs : List V} {t : Bool} (h : SqX K H a xs t) (s : ∀ o, H a = some o → H' a = some o) : SqX K H' a xs t := by
  cases t with
  | true =>
    have h' : SqT K H a xs := h
    show SqT K H' a xs
    rcases h' with (h | ⟨o, h⟩) | h
    · exact .inl (.inl (s _ h))
    · exact .inl (.inr ⟨o, s _ h⟩)
    · exact .inr h
  | false =>
    have h' : SqL K H a xs := h
    show SqL K H' a xs
    rcases h' with (h | ⟨o, h⟩) | h
    · exact .inl (.inl (s _ h))
    · exact .inl (.inr ⟨o, s _ h⟩)
    · exact .inr h
theorem walk_enumT {K : PySem.W.Frag} {a : Addr} {xs : List V} : Walk (IteT K a xs) xs.length (fun H => SqT K H a xs) (YPair (fun i => some (.int (i : Nat))) (fun i => xs[i]?)) :=
  ⟨fun i H hi h => ⟨h, hi⟩, fun H h => ⟨h, rfl⟩, fun i H x H' hi h y => by
    obtain ⟨T, v, rfl, hT, rfl, e⟩ := y
    exact ⟨T, _, _, rfl, hT, rfl, rfl, e⟩⟩
theorem walk_enumX {K : PySem.W.Frag} {a : Addr} {xs : List V} {t : Bool} : Walk (IteS K a xs t) xs.length (fun H => SqX K H a xs t) (YPair (fun i => some (.int (i : Nat))) (fun i => xs[i]?)) := by
  cases t with
  | true => exact walk_enumT
  | false => exact walk_enum
/-- rules as they are passed: a list or a tuple, tracked -/
def RuArg (H : Hp) (v : V) (rs : List Rule) : Prop := ∃ (a : Addr) (xs : List V) (t : Bool), v = .ref a ∧ H a = some (if t then .tup xs else .lst xs) ∧ RulesAt H xs rs
theorem RuArg.any {H : Hp} {v : V} {rs : List Rule} (h : RuArg H v rs) : ∃ n, Any H v n ∧ (n == "list" || n == "tuple") = true := by
  obtain ⟨a, xs, t, rfl, e, _⟩ := h
  cases t with
  | true => exact ⟨"tuple", .tup e, rfl⟩
  | false => exact ⟨"list", .lst e, rfl⟩
theorem sqX_of {K : PySem.W.Frag} {H : Hp} {a : Addr} {xs : List V} {t : Bool} (e : H a = some (if t then .tup xs else .lst xs)) : SqX K H a xs t := by
  cases t with
  | true => exact SqT.of e
  | false => exact SqL.of e
theorem Same.rules {H H' : Hp} {xs : List V} {rs : List Rule} (s : Same H H') (h : RulesAt H xs rs) : RulesAt H' xs rs := RulesAt.imp h fun t a e => s t _ e
def spCheckRules : Sp := fun vs H Q _ => ∃ (z : Str) (v : V) (rs : List Rule), vs = [.str z, v] ∧ RuArg H v rs ∧ (∀ r ∈ rs, RuleOk z 40 r) ∧ ∀ H', Same H H' → Q .non H'
end FL
namespace FL
open PySem PySem.Spec PyProof.Rows L2
def ItX (K : PySem.W.Frag) (a : Addr) (t : Bool) : It := if t then Itt K a else Itl K a
def iSeqX (K : PySem.W.Frag) (t : Bool) (tl : TE) : TI := fun σ H R => tl σ H fun x H1 => ∃ a, x = .ref a ∧ (∃ xs, SqX K H1 a xs t) ∧ R (ItX K a t) H1
theorem pi_seqX {X : Cx} {tg l : Expr} {tl : TE} (t : Bool) (hl : PE X l tl) : PI X tg l (iSeqX X.K t tl) := by
  cases t with
  | true => exact pi_tup hl
  | false => exact pi_list hl
theorem walk_seqX {K : PySem.W.Frag} {a : Addr} {xs : List V} {t : Bool} : Walk (ItX K a t) xs.length (fun H => SqX K H a xs t) (YAt xs) := by
  cases t with
  | true => exact walk_tup
  | false => exact walk_list
theorem lenX {K : PySem.W.Frag} {H : Hp} {a : Addr} {xs : List V} {t : Bool} (h : SqX K H a xs t) : LenV K (.ref a) H xs.length := by
  cases t with
  | true => exact .inr ⟨_, h, rfl⟩
  | false => exact .inl ⟨_, h, rfl⟩
/-! ### a relay as it stands -/
def flds (z : Str) (ra ia : Addr) : List (Str × V) := putF "_index" (.ref ia) (putF "_rules" (.ref ra) (putF "_signs" (.str z) []))
theorem fn1 : ¬ ((Str.ofString "_rules") = Str.ofString "_index") := by decide +kernel
theorem fn2 : ¬ ((Str.ofString "_signs") = Str.ofString "_index") := by decide +kernel
theorem fn3 : ¬ ((Str.ofString "_signs") = Str.ofString "_rules") := by decide +kernel
theorem two_len (z : Str) (ra : Addr) : (putF "_rules" (.ref ra) (putF "_signs" (.str z) [])).length < 1000 := by
  show (if Str.ofString "_signs" = Str.ofString "_rules" then [(Str.ofString "_signs", V.ref ra)] else (Str.ofString "_signs", V.str z) :: putF (Str.ofString "_rules") (.ref ra) []).length < 1000
  rw [if_neg fn3]
  show 2 < 1000
  decide
theorem flds_signs (z : Str) (ra ia : Addr) : (flds z ra ia).lookup (Str.ofString "_signs") = some (.str z) := by
  unfold flds
  rw [lookup_putF, if_neg fn2, lookup_putF, if_neg fn3, lookup_putF, if_pos rfl]
theorem flds_rules (z : Str) (ra ia : Addr) : (flds z ra ia).lookup (Str.ofString "_rules") = some (.ref ra) := by
  unfold flds
  rw [lookup_putF, if_neg fn1, lookup_putF, if_pos rfl]
theorem flds_index (z : Str) (ra ia : Addr) : (flds z ra ia).lookup (Str.ofString "_index") = some (.ref ia) := by
  unfold flds
  rw [lookup_putF, if_pos rfl]
theorem flds_no (z : Str) (ra ia : Addr) {m : Str} (h1 : ¬ m = Str.ofString "_index") (h2 : ¬ m = Str.ofString "_rules") (h3 : ¬ m = Str.ofString "_signs") : (flds z ra ia).lookup m = none := by
  unfold flds
  rw [lookup_putF, if_neg h1, lookup_putF, if_neg h2, lookup_putF, if_neg h3]
  rfl
end FL
namespace FL
open PySem PySem.Spec PyProof.Rows L2
/-! ### the index of rules -/
def ky (fr : Bool) (old : Str) : List Key := [Sum.inr (kd fr), Sum.inr old]
theorem ky_inj {f f' : Bool} {o o' : Str} (h : ky f o = ky f' o') : f = f' ∧ o = o' := by
  unfold ky at h
  injection h with h1 h2
  injection h2 with h3 _
  have e1 : kd f = kd f' := Sum.inr.inj h1
  refine ⟨?_, Sum.inr.inj h3⟩
  cases f <;> cases f' <;> first | rfl | exact absurd e1 kd_ne | exact absurd e1.symm kd_ne
def Is (r : Rule) (fr : Bool) (old : Str) : Prop := r.fr = fr ∧ r.old = old
def IdxOk (H : Hp) (kvs : List (List Key × V)) (rs : List Rule) : Prop := (∀ kv ∈ kvs, ∃ (fr : Bool) (old : Str), kv.1 = ky fr old) ∧ ∀ (fr : Bool) (old : Str),
  (valV kvs (ky fr old) = none ∧ ∀ r ∈ rs, ¬ Is r fr old) ∨
  (∃ (i : Nat) (t : Addr) (new : Str), valV kvs (ky fr old) = some (.ref t) ∧ H t = some (.tup [.int (i : Nat), .str new]) ∧ rs[i]? = some ⟨fr, old, new⟩
    ∧ ∀ (j : Nat) (r : Rule), j < i → rs[j]? = some r → ¬ Is r fr old)
theorem IdxOk.imp {H H' : Hp} {kvs : List (List Key × V)} {rs : List Rule} (h : IdxOk H kvs rs) (s : ∀ t a, H t = some (.tup a) → H' t = some (.tup a)) : IdxOk H' kvs rs := ⟨h.1, fun fr old => by
  rcases h.2 fr old with h | ⟨i, t, new, h1, h2, h3⟩
  · exact .inl h
  · exact .inr ⟨i, t, new, h1, s _ _ h2, h3⟩⟩
theorem IdxOk.nil {H : Hp} : IdxOk H [] [] := ⟨fun _ h => (nomatch h), fun fr old => .inl ⟨rfl, fun _ h => nomatch h⟩⟩
theorem get_snoc_lt {α : Type} {l : List α} {x : α} {i : Nat} {y : α} (h : l[i]? = some y) : (l ++ [x])[i]? = some y := by
  rw [List.getElem?_append_left (List.getElem?_eq_some_iff.mp h).1]
  exact h
theorem IdxOk.skip {H : Hp} {kvs : List (List Key × V)} {rs : List Rule} {r : Rule} (h : IdxOk H kvs rs) (hv : valV kvs (ky r.fr r.old) ≠ none) : IdxOk H kvs (rs ++ [r]) := ⟨h.1, fun fr old => by
  rcases h.2 fr old with ⟨h1, h2⟩ | ⟨i, t, new, h1, h2, h3, h4⟩
  · refine .inl ⟨h1, fun r' hr' => ?_⟩
    rcases List.mem_append.mp hr' with q | q
    · exact h2 r' q
    · rw [List.mem_singleton.mp q]
      rintro ⟨rfl, rfl⟩
      exact hv h1
  · refine .inr ⟨i, t, new, h1, h2, get_snoc_lt h3, fun j r' hj hr' => ?_⟩
    have hi := (List.getElem?_eq_some_iff.mp h3).1
    rw [List.getElem?_append_left (by omega)] at hr'
    exact h4 j r' hj hr'⟩
theorem valV_put {kvs : List (List Key × V)} {k k' : List Key} {v : V} (h : valV kvs k = none) : valV (kvs ++ [(k, v)]) k' = if k = k' then some v else valV kvs k' := by
  induction kvs with
  | nil =>
    by_cases e : k = k'
    · rw [if_pos e]
      exact valV_pos e
    · rw [if_neg e]
      exact valV_neg e
  | cons p r ih =>
    have hp : ¬ p.1 = k := fun e => by
      rw [valV_pos e] at h
      cases h
    rw [valV_neg hp] at h
    show valV (p :: (r ++ [(k, v)])) k' = _
    by_cases e : p.1 = k'
    · rw [valV_pos e, valV_pos e, if_neg]
      intro q
      exact hp (e.trans q.symm)
    · rw [valV_neg e, valV_neg e, ih h]
theorem IdxOk.put {H H' : Hp} {kvs : List (List Key × V)} {rs : List Rule} {r : Rule} {t : Addr} (h : IdxOk H kvs rs) (hv : valV kvs (ky r.fr r.old) = none)
    (s : ∀ t a, H t = some (.tup a) → H' t = some (.tup a)) (ht : H' t = some (.tup [.int (rs.length : Nat), .str r.new])) : IdxOk H' (putK kvs (ky r.fr r.old) (.ref t)) (rs ++ [r]) := ⟨fun kv hkv => by
  rw [putK_new _ hv] at hkv
  rcases List.mem_append.mp hkv with q | q
  · exact h.1 kv q
  · rw [List.mem_singleton.mp q]
    exact ⟨_, _, rfl⟩, fun fr old => by
  rw [putK_new _ hv, valV_put hv]
  by_cases e : ky r.fr r.old = ky fr old
  · rw [if_pos e]
    obtain ⟨e1, e2⟩ := ky_inj e
    refine .inr ⟨rs.length, t, r.new, rfl, ht, ?_, fun j r' hj hr' => ?_⟩
    · rw [List.getElem?_append_right (Nat.le_refl _), Nat.sub_self]
      subst e1
      subst e2
      rfl
    · rw [List.getElem?_append_left hj] at hr'
      rcases h.2 fr old with ⟨_, h2⟩ | ⟨i, t', new, h1, _⟩
      · exact h2 r' (List.mem_of_getElem? hr')
      · rw [← e, hv] at h1
        cases h1
  · rw [if_neg e]
    have := (h.imp s).2 fr old
    rcases this with ⟨h1, h2⟩ | ⟨i, t', new, h1, h2, h3, h4⟩
    · refine .inl ⟨h1, fun r' hr' => ?_⟩
      rcases List.mem_append.mp hr' with q | q
      · exact h2 r' q
      · rw [List.mem_singleton.mp q]
        rintro ⟨rfl, rfl⟩
        exact e rfl
    · refine .inr ⟨i, t', new, h1, h2, get_snoc_lt h3, fun j r' hj hr' => ?_⟩
      have hi := (List.getElem?_eq_some_iff.mp h3).1
      rw [List.getElem?_append_left (by omega)] at hr'
      exact h4 j r' hj hr'⟩
theorem put_len {kvs : List (List Key × V)} {k : List Key} {v : V} (h : valV kvs k = none) : (putK kvs k v).length = kvs.length + 1 := by
  rw [putK_new _ h, List.length_append]
  rfl
def IdxAt (H : Hp) (d : Addr) (rs : List Rule) : Prop := ∃ kvs, H d = some (.dT kvs) ∧ kvs.length ≤ rs.length ∧ IdxOk H kvs rs
def spIndex : Sp := fun vs H Q _ => ∃ (v : V) (rs : List Rule), vs = [v] ∧ RuArg H v rs ∧ rs.length ≤ 10000 ∧
  ∀ (d : Addr) (H' : Hp), H d = none → IdxAt H' d rs → Same H H' → Q (.ref d) H'
end FL
namespace FL
open PySem PySem.Spec PyProof.Rows L2
/-! ### min of a list of pairs (int, text) -/
abbrev Pr := Int × Str
def pairD (q : Pr) : PyData := .tuple [.int q.1, .str q.2]
def PairAt (H : Hp) (v : V) (q : Pr) : Prop := ∃ t, v = .ref t ∧ H t = some (.tup [.int q.1, .str q.2])
theorem lt_pair {q r : Pr} (h : q.1 ≠ r.1) : PySem.W.dataLt (pairD q) (pairD r) = decide (q.1 < r.1) := by
  have e : PySem.W.dataLt (pairD q) (pairD r) = PySem.W.dataLt (.int q.1) (.int r.1) := by
    show PyProof.Rows.lexLt PyProof.Rows.itemOrd (Sum.inl q.1 :: [Sum.inr q.2.cps.toList]) (Sum.inl r.1 :: [Sum.inr r.2.cps.toList]) = PyProof.Rows.lexLt PyProof.Rows.itemOrd [Sum.inl q.1] [Sum.inl r.1]
    exact PySem.W.lex_atom (fun e => h (Sum.inl.inj e)) _ _
  rw [e, PySem.W.dataLt_int]
theorem minD_pair : ∀ (qs : List Pr) (q : Pr), ∃ r, r ∈ q :: qs ∧ PySem.W.minD (pairD q) (qs.map pairD) = pairD r ∧ ∀ p ∈ q :: qs, r.1 ≤ p.1
  | [], q => ⟨q, List.mem_cons_self, rfl, fun p hp => by rw [List.mem_singleton.mp hp]; exact Int.le_refl _⟩
  | p :: qs, q => by
    have step : PySem.W.minD (pairD q) ((p :: qs).map pairD) = PySem.W.minD (if PySem.W.dataLt (pairD p) (pairD q) then pairD p else pairD q) (qs.map pairD) := rfl
    rw [step]
    by_cases hb : PySem.W.dataLt (pairD p) (pairD q) = true
    · rw [if_pos hb]
      obtain ⟨r, hr, e, m⟩ := minD_pair qs p
      refine ⟨r, List.mem_cons_of_mem _ hr, e, fun x hx => ?_⟩
      rcases List.mem_cons.mp hx with rfl | hx
      · have hp := m p List.mem_cons_self
        by_cases hne : p.1 = x.1
        · omega
        · rw [lt_pair hne] at hb
          have := of_decide_eq_true hb
          omega
      · exact m x hx
    · rw [if_neg hb]
      obtain ⟨r, hr, e, m⟩ := minD_pair qs q
      refine ⟨r, ?_, e, fun x hx => ?_⟩
      · rcases List.mem_cons.mp hr with rfl | h
        · exact List.mem_cons_self
        · exact List.mem_cons_of_mem _ (List.mem_cons_of_mem _ h)
      · rcases List.mem_cons.mp hx with rfl | hx
        · exact m x List.mem_cons_self
        · rcases List.mem_cons.mp hx with rfl | hx
          · have hq := m q List.mem_cons_self
            by_cases hne : x.1 = q.1
            · omega
            · rw [lt_pair hne] at hb
              have : q.1 ≤ x.1 := by simpa using hb
              omega
          · exact m x (List.mem_cons_of_mem _ hx)
theorem dp_pairs {K : PySem.W.Frag} {H : Hp} : ∀ {xs : List V} {qs : List Pr}, Paired (PairAt H) xs qs → DpAll K H xs (qs.map pairD)
  | _, _, .nil => .nil
  | _, _, .cons ⟨t, e, h⟩ b => .cons (by rw [e]; exact .tup (SqT.of h) (.cons (.int _) (.cons (.str _) .nil))) (dp_pairs b)
theorem depth_pairs : ∀ qs : List Pr, PyData.depthAll (qs.map pairD) ≤ 1
  | [] => Nat.zero_le _
  | q :: qs => by
    show max (pairD q).depth (PyData.depthAll (qs.map pairD)) ≤ 1
    have := depth_pairs qs
    have e : (pairD q).depth = 1 := rfl
    omega
section
variable {X : Cx}
theorem call_minP (hc : X.calm = true) (hu : X.A.units + 64 < cLine) : CallR X (.builtin "min") (fun vs H Q => ∃ (a : Addr) (xs : List V) (qs : List Pr), vs = [.ref a] ∧ SqL X.K H a xs
    ∧ Paired (PairAt H) xs qs ∧ qs ≠ [] ∧ ∀ (v : V) (q : Pr), q ∈ qs → PairAt H v q → (∀ r ∈ qs, q.1 ≤ r.1) → Q v H) := by
  intro pins s σ H vs us Q I r h
  obtain ⟨a, xs, qs, rfl, hs, hp, ne, q⟩ := h
  obtain ⟨its, rv, hl, _⟩ := I.list hs
  rw [Vals.ref1 r]
  obtain ⟨as, rd⟩ := Dp.readsAll I (qs.map pairD) xs its (dp_pairs hp) rv
  cases qs with
  | nil => exact absurd rfl ne
  | cons p qs =>
    refine PySem.W.min_list_data (I.ok.hd hc) hl.isList (vs := its.toArray) (x := pairD p) (xs := qs.map pairD) (by simpa using rd) ?_ ?_ ?_
    · refine ⟨fun x hx y hy => ?_, fun x hx e => ?_⟩
      · have e1 : ∃ q, x = pairD q := by
          rcases List.mem_cons.mp hx with rfl | hx
          · exact ⟨p, rfl⟩
          · obtain ⟨q, _, e⟩ := List.mem_map.mp hx
            exact ⟨q, e.symm⟩
        have e2 : ∃ q, y = pairD q := by
          rcases List.mem_cons.mp hy with rfl | hy
          · exact ⟨p, rfl⟩
          · obtain ⟨q, _, e⟩ := List.mem_map.mp hy
            exact ⟨q, e.symm⟩
        obtain ⟨q1, rfl⟩ := e1
        obtain ⟨q2, rfl⟩ := e2
        rfl
      · subst e
        rcases List.mem_cons.mp hx with e | hx
        · cases e
        · obtain ⟨q, _, e⟩ := List.mem_map.mp hx
          cases e
    · have := depth_pairs (p :: qs)
      have e : PyData.depthAll (pairD p :: qs.map pairD) ≤ 1 := this
      omega
    · intro i v h' tk bs hv hrd kp
      obtain ⟨m, hm, em, hmin⟩ := minD_pair qs p
      rw [em] at hrd
      have hv' : its[i]? = some v := by simpa using hv
      have hi : i < its.length := (List.getElem?_eq_some_iff.mp hv').1
      have hxi : i < xs.length := by rw [rv.length]; exact hi
      obtain ⟨u, hu', ru⟩ := rv.get (List.getElem?_eq_getElem hxi)
      rw [hv'] at hu'
      obtain rfl : v = u := Option.some.inj hu'
      obtain ⟨qi, hqi, t, et, ht⟩ := L2.paired_get hp (List.getElem?_eq_getElem hxi)
      have I' : Inv X pins σ H { s with heap := h', toks := tk } := I.kept kp
      obtain ⟨as', rd2⟩ := Dp.reads I' (pairD qi) xs[i] v (by rw [et]; exact .tup (SqT.of ht) (.cons (.int _) (.cons (.str _) .nil))) ru
      have eq : pairD qi = pairD m := (Reads.unique rd2 _ _ hrd).1
      have e1 : qi = m := by
        have h1 : [PyData.int qi.1, PyData.str qi.2] = [PyData.int m.1, PyData.str m.2] := PyData.tuple.inj eq
        injection h1 with h2 h3
        injection h3 with h4 _
        exact Prod.ext (PyData.int.inj h2) (PyData.str.inj h4)
      subst e1
      exact ⟨xs[i], H, I', ru, q xs[i] qi hm ⟨t, et, ht⟩ hmin⟩
end
end FL
namespace FL
open PySem PySem.Spec PyProof.Rows L2
/-! ### the first rule that fits, by the index -/
theorem cut_pre_len (y : Str) (i : Nat) (h : i ≤ y.length) : (cutS y none (some (i : Int))).length = i := by
  rw [str_len]
  show ((y.cps.toList.drop (HT.sIx y.length 0 none)).take (HT.sIx y.length y.length (some (i : Int)) - HT.sIx y.length 0 none)).toArray.toList.length = i
  rw [HT.sIx_nat, HT.sIx_none]
  show ((y.cps.toList.drop 0).take (min i y.length - 0)).length = i
  rw [List.drop_zero, List.length_take, ← str_len]
  omega
theorem cut_le (y : Str) (i : Nat) : (cutS y none (some (i : Int))).length ≤ y.length := cutS_length y _ _
theorem turn_no : ∀ {rs : List Rule} {y : Str}, (∀ r ∈ rs, fits r y = false) → turn rs y = y
  | [], _, _ => rfl
  | r :: rs, y, h => by
    show (if fits r y = true then _ else turn rs y) = y
    rw [h r List.mem_cons_self, if_neg Bool.false_ne_true]
    exact turn_no fun r' hr' => h r' (List.mem_cons_of_mem _ hr')
theorem turn_at : ∀ {rs : List Rule} {y : Str} {i : Nat} {r : Rule}, rs[i]? = some r → fits r y = true → (∀ j r', j < i → rs[j]? = some r' → fits r' y = false) → turn rs y = turnR r y
  | [], _, _, _, h, _, _ => by simp at h
  | r0 :: rs, y, 0, r, h, hf, _ => by
    obtain rfl : r0 = r := by simpa using h
    show (if fits r0 y = true then _ else _) = _
    rw [if_pos hf]
  | r0 :: rs, y, i + 1, r, h, hf, hn => by
    show (if fits r0 y = true then _ else turn rs y) = _
    rw [hn 0 r0 (Nat.succ_pos _) rfl, if_neg Bool.false_ne_true]
    exact turn_at (i := i) (by simpa using h) hf fun j r' hj hr' => hn (j + 1) r' (by omega) (by simpa using hr')
def Ent (rs : List Rule) (y : Str) (q : Pr) : Prop := ∃ (i : Nat) (r : Rule), q.1 = (i : Int) ∧ rs[i]? = some r ∧ fits r y = true ∧ q.2 = turnR r y
/-- the rule at i is the first one with its key -/
def FirstKey (rs : List Rule) (i : Nat) (r : Rule) : Prop := rs[i]? = some r ∧ ∀ (j : Nat) (r' : Rule), j < i → rs[j]? = some r' → ¬ Is r' r.fr r.old
structure Found (rs : List Rule) (y : Str) (qs : List Pr) (n : Nat) : Prop where
  snd : ∀ q ∈ qs, Ent rs y q
  whl : ∀ i r, FirstKey rs i r → r.fr = false → r.old = y → ∃ q ∈ qs, q.1 = (i : Int)
  frt : ∀ i r, FirstKey rs i r → r.fr = true → fits r y = true → r.old.length < n → ∃ q ∈ qs, q.1 = (i : Int)
theorem fits_same {r r' : Rule} {y : Str} (h : Is r' r.fr r.old) : fits r' y = fits r y := by
  obtain ⟨f, o, n⟩ := r
  obtain ⟨f', o', n'⟩ := r'
  obtain ⟨h1, h2⟩ := h
  dsimp only at h1 h2
  subst h1
  subst h2
  rfl
theorem first_fit {rs : List Rule} {y : Str} {i : Nat} {r : Rule} (h : rs[i]? = some r) (hf : fits r y = true) (hn : ∀ j r', j < i → rs[j]? = some r' → fits r' y = false) : FirstKey rs i r :=
  ⟨h, fun j r' hj hr' his => by
    have := hn j r' hj hr'
    rw [fits_same his, hf] at this
    cases this⟩
theorem exists_first {rs : List Rule} {y : Str} : (∀ r ∈ rs, fits r y = false) ∨ ∃ (i : Nat) (r : Rule), rs[i]? = some r ∧ fits r y = true ∧ ∀ (j : Nat) (r' : Rule), j < i → rs[j]? = some r' → fits r' y = false := by
  induction rs with
  | nil => exact .inl fun _ h => nomatch h
  | cons r rs ih =>
    cases hf : fits r y with
    | true => exact .inr ⟨0, r, rfl, hf, fun j _ hj => absurd hj (Nat.not_lt_zero j)⟩
    | false =>
      rcases ih with h | ⟨i, r', h1, h2, h3⟩
      · refine .inl fun r' hr' => ?_
        rcases List.mem_cons.mp hr' with rfl | h'
        · exact hf
        · exact h r' h'
      · refine .inr ⟨i + 1, r', by simpa using h1, h2, fun j r2 hj hr2 => ?_⟩
        cases j with
        | zero =>
          obtain rfl : r = r2 := by simpa using hr2
          exact hf
        | succ j => exact h3 j r2 (by omega) (by simpa using hr2)
theorem fits_short {r : Rule} {y : Str} (hf : fits r y = true) (h : r.fr = true) : r.old.length ≤ y.length ∧ cutS y none (some (r.old.length : Int)) = r.old := by
  obtain ⟨f, o, n⟩ := r
  dsimp only at h
  subst h
  have e : cutS y none (some (o.length : Int)) = o := of_decide_eq_true hf
  refine ⟨?_, e⟩
  have := cut_le y o.length
  rw [e] at this
  exact this
theorem Found.turn {rs : List Rule} {y : Str} {qs : List Pr} {n : Nat} (h : Found rs y qs n) (hn : ∀ r ∈ rs, r.fr = true → fits r y = true → r.old.length < n) :
    (qs = [] → turn rs y = y) ∧ ∀ q ∈ qs, (∀ p ∈ qs, q.1 ≤ p.1) → turn rs y = q.2 := by
  have has : ∀ (i : Nat) (r : Rule), rs[i]? = some r → fits r y = true → (∀ (j : Nat) (r' : Rule), j < i → rs[j]? = some r' → fits r' y = false) → ∃ q ∈ qs, q.1 = (i : Int) := by
    intro i r h1 h2 h3
    have fk := first_fit h1 h2 h3
    cases hfr : r.fr with
    | true => exact h.frt i r fk hfr h2 (hn r (List.mem_of_getElem? h1) hfr h2)
    | false =>
      refine h.whl i r fk hfr ?_
      obtain ⟨f, o, nw⟩ := r
      dsimp only at hfr
      subst hfr
      have e : y = o := of_decide_eq_true h2
      exact e.symm
  rcases exists_first (rs := rs) (y := y) with hno | ⟨i, r, h1, h2, h3⟩
  · refine ⟨fun _ => turn_no hno, fun q hq _ => ?_⟩
    obtain ⟨j, r, _, e2, e3, _⟩ := h.snd q hq
    rw [hno r (List.mem_of_getElem? e2)] at e3
    cases e3
  · obtain ⟨q0, m0, e0⟩ := has i r h1 h2 h3
    refine ⟨fun e => ?_, fun q hq hmin => ?_⟩
    · rw [e] at m0
      cases m0
    · obtain ⟨j, r', e1, e2, e3, e4⟩ := h.snd q hq
      have hle := hmin q0 m0
      have hij : ¬ j < i := fun hj => by
        rw [h3 j r' hj e2] at e3
        cases e3
      have : j = i := by omega
      subst this
      rw [h1] at e2
      obtain rfl : r = r' := Option.some.inj e2
      rw [turn_at h1 h2 h3, e4]
theorem Found.start {rs : List Rule} {y : Str} {H : Hp} {kvs : List (List Key × V)} (ix : IdxOk H kvs rs) :
    (valV kvs (ky false y) = none ∧ Found rs y [] 0) ∨ (∃ (i : Nat) (t : Addr) (new : Str), valV kvs (ky false y) = some (.ref t) ∧ H t = some (.tup [.int (i : Nat), .str new]) ∧ Found rs y [((i : Int), new)] 0) := by
  rcases ix.2 false y with ⟨h1, h2⟩ | ⟨i, t, new, h1, h2, h3, h4⟩
  · refine .inl ⟨h1, (fun _ h => nomatch h), fun i r fk e1 e2 => ?_, fun _ _ _ _ _ h => absurd h (Nat.not_lt_zero _)⟩
    exact absurd ⟨e1, e2⟩ (h2 r (List.mem_of_getElem? fk.1))
  · refine .inr ⟨i, t, new, h1, h2, fun q hq => ?_, fun j r fk e1 e2 => ?_, fun _ _ _ _ _ h => absurd h (Nat.not_lt_zero _)⟩
    · rw [List.mem_singleton.mp hq]
      exact ⟨i, _, rfl, h3, decide_eq_true rfl, rfl⟩
    · refine ⟨_, List.mem_singleton.mpr rfl, ?_⟩
      have : ¬ j < i := fun hj => h4 j r hj fk.1 ⟨e1, e2⟩
      have : ¬ i < j := fun hj => fk.2 i _ hj h3 ⟨e1.symm, e2.symm⟩
      have : i = j := by omega
      rw [this]
theorem Found.next {rs : List Rule} {y : Str} {H : Hp} {kvs : List (List Key × V)} {qs : List Pr} {n : Nat} (ix : IdxOk H kvs rs) (h : Found rs y qs n) (hn : n ≤ y.length) :
    (valV kvs (ky true (cutS y none (some (n : Int)))) = none ∧ Found rs y qs (n + 1)) ∨ (∃ (i : Nat) (t : Addr) (new : Str), valV kvs (ky true (cutS y none (some (n : Int)))) = some (.ref t)
      ∧ H t = some (.tup [.int (i : Nat), .str new]) ∧ (∃ r ∈ rs, r.new = new) ∧ Found rs y (qs ++ [((i : Int), new ++ cutS y (some (n : Int)) none)]) (n + 1)) := by
  have hl := cut_pre_len y n hn
  have key : ∀ r : Rule, r.fr = true → fits r y = true → r.old.length < n + 1 → ¬ r.old.length < n → r.old = cutS y none (some (n : Int)) := fun r h1 h2 h3 h4 => by
    obtain ⟨_, e⟩ := fits_short h2 h1
    have : r.old.length = n := by omega
    rw [this] at e
    exact e.symm
  rcases ix.2 true (cutS y none (some (n : Int))) with ⟨h1, h2⟩ | ⟨i, t, new, h1, h2, h3, h4⟩
  · refine .inl ⟨h1, h.snd, h.whl, fun i r fk e1 e2 e3 => ?_⟩
    by_cases hlt : r.old.length < n
    · exact h.frt i r fk e1 e2 hlt
    · exact absurd ⟨e1, key r e1 e2 e3 hlt⟩ (h2 r (List.mem_of_getElem? fk.1))
  · refine .inr ⟨i, t, new, h1, h2, ⟨_, List.mem_of_getElem? h3, rfl⟩, fun q hq => ?_, fun j r fk e1 e2 => ?_, fun j r fk e1 e2 e3 => ?_⟩
    · rcases List.mem_append.mp hq with q' | q'
      · exact h.snd q q'
      · rw [List.mem_singleton.mp q']
        refine ⟨i, _, rfl, h3, ?_, ?_⟩
        · show decide (cutS y none (some ((cutS y none (some (n : Int))).length : Int)) = cutS y none (some (n : Int))) = true
          rw [hl]
          exact decide_eq_true rfl
        · show new ++ cutS y (some (n : Int)) none = new ++ cutS y (some ((cutS y none (some (n : Int))).length : Int)) none
          rw [hl]
    · obtain ⟨q, hq, e⟩ := h.whl j r fk e1 e2
      exact ⟨q, List.mem_append_left _ hq, e⟩
    · by_cases hlt : r.old.length < n
      · obtain ⟨q, hq, e⟩ := h.frt j r fk e1 e2 hlt
        exact ⟨q, List.mem_append_left _ hq, e⟩
      · have eo := key r e1 e2 e3 hlt
        refine ⟨_, List.mem_append_right _ (List.mem_singleton.mpr rfl), ?_⟩
        have : ¬ j < i := fun hj => h4 j r hj fk.1 ⟨e1, eo⟩
        have : ¬ i < j := fun hj => fk.2 i _ hj h3 ⟨e1.symm, eo.symm⟩
        have : i = j := by omega
        rw [this]
def spOnce : Sp := fun vs H Q _ => ∃ (d : Addr) (y : Str) (rs : List Rule), vs = [.ref d, .str y] ∧ IdxAt H d rs ∧ y.length ≤ 100000 ∧ (∀ r ∈ rs, r.old.length ≤ 40 ∧ r.new.length ≤ 1000) ∧
  ∀ H', Same H H' → Q (.str (FL.turn rs y)) H'
end FL
namespace FL
open PySem PySem.Spec PyProof.Rows L2
def RelayAt (C : Addr) (H : Hp) (p : Addr) (z : Str) (rs : List Rule) : Prop := ∃ (dx ra ia : Addr) (xs : List V), H p = some (.ins C dx (flds z ra ia)) ∧ H ra = some (.lst xs) ∧ RulesAt H xs rs ∧ IdxAt H ia rs
theorem RelayAt.same {C : Addr} {H H' : Hp} {p : Addr} {z : Str} {rs : List Rule} (h : RelayAt C H p z rs) (s : Same H H') : RelayAt C H' p z rs := by
  obtain ⟨dx, ra, ia, xs, h1, h2, h3, kvs, h4, h5, h6⟩ := h
  exact ⟨dx, ra, ia, xs, s _ _ h1, s _ _ h2, RulesAt.imp h3 fun t a e => s t _ e, kvs, s _ _ h4, h5, h6.imp fun t a e => s t _ e⟩
/-- its list of rules at ra -/
def RelayR (C : Addr) (H : Hp) (p : Addr) (z : Str) (rs : List Rule) (ra : Addr) : Prop := ∃ (dx ia : Addr) (xs : List V), H p = some (.ins C dx (flds z ra ia)) ∧ H ra = some (.lst xs) ∧ RulesAt H xs rs ∧ IdxAt H ia rs
theorem RelayR.at_ {C : Addr} {H : Hp} {p : Addr} {z : Str} {rs : List Rule} {ra : Addr} (h : RelayR C H p z rs ra) : RelayAt C H p z rs := by
  obtain ⟨dx, ia, xs, h1, h2, h3, h4⟩ := h
  exact ⟨dx, ra, ia, xs, h1, h2, h3, h4⟩
/-- another list is changed -/
theorem RelayR.updL {C : Addr} {H : Hp} {p L : Addr} {z : Str} {rs : List Rule} {ra : Addr} {vs ws : List V} (h : RelayR C H p z rs ra) (hL : H L = some (.lst vs)) (n : ra ≠ L) : RelayR C (upd H L (.lst ws)) p z rs ra := by
  obtain ⟨dx, ia, xs, h1, h2, h3, kvs, h4, h5, h6⟩ := h
  have tp : ∀ t b, H t = some (.tup b) → upd H L (.lst ws) t = some (.tup b) := fun t b e => by
    rw [upd_ne (ne_of e hL (by intro q; cases q))]
    exact e
  exact ⟨dx, ia, xs, by rw [upd_ne (ne_of h1 hL (by intro q; cases q))]; exact h1, by rw [upd_ne n]; exact h2, RulesAt.imp h3 tp, kvs, by rw [upd_ne (ne_of h4 hL (by intro q; cases q))]; exact h4, h5, h6.imp tp⟩
theorem RelayR.same {C : Addr} {H H' : Hp} {p : Addr} {z : Str} {rs : List Rule} {ra : Addr} (h : RelayR C H p z rs ra) (s : Same H H') : RelayR C H' p z rs ra := by
  obtain ⟨dx, ia, xs, h1, h2, h3, kvs, h4, h5, h6⟩ := h
  exact ⟨dx, ia, xs, s _ _ h1, s _ _ h2, RulesAt.imp h3 fun t a e => s t _ e, kvs, s _ _ h4, h5, h6.imp fun t a e => s t _ e⟩
/-- what is needed of the class Relay -/
structure RTxt (K : PySem.W.Frag) (mg : Str → Option Value) (C : Addr) : Prop where
  cl : Cls K C
  nS : NoAttr K C "_signs"
  nR : NoAttr K C "_rules"
  nI : NoAttr K C "_index"
  mgC : mg "Relay" = some (.ref C)
def spInit (C : Addr) : Sp := fun vs H Q _ => ∃ (p dx : Addr) (z : Str) (v : V) (rs : List Rule), vs = [.ref p, .str z, v] ∧ H p = some (.ins C dx []) ∧ Abc z ∧ RuArg H v rs ∧
  (∀ r ∈ rs, RuleOk z 40 r) ∧ rs.length ≤ 400 ∧ ∀ (H' : Hp) (ra : Addr), RelayR C H' p z rs ra → H ra = none → But p H H' → Q .non H'
end FL
namespace FL
open PySem PySem.Spec PyProof.Rows L2
/-! ### what the top left, told of defs at any address -/
def seenFn (K : PySem.W.Frag) (a : Addr) : He.FnV :=
  (K.lookup a).bind fun o => match o.data with
    | .func d => some (d.name, d.qualname, d.params, d.body, d.scope, d.globals, d.closure, d.defaults, d.builtins)
    | _ => none
def seenCode (K : PySem.W.Frag) (a : Addr) (q : Str) : Bool :=
  match K.lookup a with
  | some o => (match o.data with
    | .func d => PySem.W.codeIn K d.code q && PySem.W.keepIn K (.ref a)
    | _ => false)
  | none => false
/-- a def: where it is found, its names, its statement -/
structure DA where
  ad : PySem.W.Frag → Addr
  nm : Str
  qn : Str
  st : Stmt
def DA.due (d : DA) : He.FnV := some (d.nm, d.qn, defArgs d.st, .stmts (defBody d.st), defScope d.st, mainGlobals, [], .none, builtinsNs)
theorem DA.fn {K : PySem.W.Frag} {d : DA} (e : seenFn K (d.ad K) = d.due) (c : seenCode K (d.ad K) d.qn = true) : ∃ fd, Fun K d.nm d.qn d.st (d.ad K) fd := by
  unfold seenFn DA.due at e
  unfold seenCode at c
  cases q : K.lookup (d.ad K) with
  | none =>
    rw [q] at e
    cases e
  | some o =>
    obtain ⟨oc, od, dt, sl⟩ := o
    rw [q] at e c
    cases dt with
    | func z =>
      obtain ⟨z1, z2, z3, z4, z5, z6, z7, z8, z9, z10, z11, z12, z13, z14, z15⟩ := z
      simp only [Option.bind_some, Option.some.injEq, Prod.mk.injEq] at e
      obtain ⟨rfl, rfl, rfl, rfl, rfl, rfl, rfl, rfl, rfl⟩ := e
      obtain ⟨c1, c2⟩ := Bool.and_eq_true_iff.mp c
      exact ⟨_, fun_mk q c1 c2⟩
    | _ => cases e
def lookF (ds : List DA) (ex : PySem.W.Frag → Bool) (K : PySem.W.Frag) : Bool × List He.FnV :=
  (ex K && ds.all fun d => seenCode K (d.ad K) d.qn, ds.map fun d => seenFn K (d.ad K))
def dueF (ds : List DA) : Bool × List He.FnV := (true, ds.map DA.due)
def hookF (n : Nat) (ds : List DA) (ex : PySem.W.Frag → Bool) : PySem.W.Hook where
  α := Bool × List He.FnV
  obs := fun s => lookF ds ex (He.frG s.heap.get? (He.asD s.heap.get? n))
  val := fun _ => dueF ds
  says := fun _ h => ∃ K : PySem.W.Frag, K.In h ∧ lookF ds ex K = dueF ds
  of := fun _ _ e => ⟨_, He.frG_in, e⟩
  keeps := fun _ _ _ ⟨K, i, c⟩ k => ⟨K, PySem.W.Frag.In.keeps i k, c⟩
def obF (n : Nat) (ds : List DA) (ex : PySem.W.Frag → Bool) (g : Addr → Option Obj) : Bool × List He.FnV := lookF ds ex (He.frG g (He.asD g n))
theorem obF_eq {n : Nat} {ds : List DA} {ex : PySem.W.Frag → Bool} (s : PySem.W.SharedT) : obF n ds ex (HandSHeadRun.getT s) = (hookF n ds ex).obs s.abs := by
  have e : HandSHeadRun.getT s = s.abs.heap.get? := funext fun a => HandSHeadRun.getT_eq s a
  rw [e]
  rfl
theorem look_ex {ds : List DA} {ex : PySem.W.Frag → Bool} {K : PySem.W.Frag} (c : lookF ds ex K = dueF ds) : ex K = true :=
  (Bool.and_eq_true_iff.mp (congrArg Prod.fst c)).1
theorem look_fn {ds : List DA} {ex : PySem.W.Frag → Bool} {K : PySem.W.Frag} (c : lookF ds ex K = dueF ds) (i : Nat) {d : DA} (h : ds[i]? = some d) : ∃ fd, Fun K d.nm d.qn d.st (d.ad K) fd := by
  have c1 := (Bool.and_eq_true_iff.mp (congrArg Prod.fst c)).2
  have c2 : ds.map (fun d => seenFn K (d.ad K)) = ds.map DA.due := congrArg Prod.snd c
  have c3 : (ds.map fun d => seenFn K (d.ad K))[i]? = (ds.map DA.due)[i]? := by rw [c2]
  rw [List.getElem?_map, List.getElem?_map, h] at c3
  exact DA.fn (Option.some.inj c3) (List.all_eq_true.mp c1 d (List.mem_of_getElem? h))
end FL
namespace FL
open PySem PySem.Spec PyProof.Rows L2
section
variable {X : Cx} {pins : List (Addr × Obj)} {σ : L2.St} {H : Hp} {s : Shared} {k : Nat} {f : Addr} {fd : FuncData} {ps : List Str} {sp : Sp} {Q : VK} {E : XK}
theorem run_at1 {us ws : List Value} {ks : List Str} {bs : List Value} {vs : List V} {E' : Value → Shared → Prop} (F : FnG X.prog X.w X.K X.mg X.base CX0 k f fd ps sp) (hr : Room (k + 1) X.A) (hG : X.A.guards = some [])
    (I : Inv X pins σ H s) (hb : BindsTo s fd ⟨us, ks.zip ws⟩ (ps.zip bs)) (r : Vals vs bs) (h : sp vs H Q E) :
    wpAny (model X.prog X.w) X.A.in1 (call (.ref f) us (ks.zip ws)) (EP X pins σ Q) E' s := by
  refine wpAny_call (codeAny_mono (F.goes X.A.in1 X.stack s H ⟨us, ks.zip ws⟩ bs vs Q E hr.in1 hG I.env0.in1 hb r h) ?_)
  rintro (er | fl) s2 z
  · exact False.elim z
  · cases fl with
    | ret u => exact I.after z
    | _ => exact False.elim z
theorem run_at0 {us ws : List Value} {ks : List Str} {bs : List Value} {vs : List V} {E' : Value → Shared → Prop} (F : FnG X.prog X.w X.K X.mg X.base CX0 k f fd ps sp) (hr : Room k X.A) (hG : X.A.guards = some [])
    (I : Inv X pins σ H s) (hb : BindsTo s fd ⟨us, ks.zip ws⟩ (ps.zip bs)) (r : Vals vs bs) (h : sp vs H Q E) :
    wpAny (model X.prog X.w) X.A (call (.ref f) us (ks.zip ws)) (EP X pins σ Q) E' s := by
  refine wpAny_call (codeAny_mono (F.goes X.A X.stack s H ⟨us, ks.zip ws⟩ bs vs Q E hr hG I.env0 hb r h) ?_)
  rintro (er | fl) s2 z
  · exact False.elim z
  · cases fl with
    | ret u => exact I.after z
    | _ => exact False.elim z
/-! repr of an instance by its class's own text -/
theorem call_reprI {C : Addr} (F : FnG X.prog X.w X.K X.mg X.base CX0 k f fd ["self"] sp) (hb : Binds X.K fd ["self"] []) (hr : Room (k + 1) X.A) (hG : X.A.guards = some [])
    (hs : PySem.W.findIn X.K (.ref C) "__repr__" = some (some (.ref f))) (hf : PySem.W.isFn X.K (.ref f) = true) :
    CallR X (.builtin "repr") (fun xs H Q => ∃ a dx fs, xs = [.ref a] ∧ H a = some (.ins C dx fs) ∧ sp [.ref a] H (fun v H' => ∃ z, v = .str z ∧ Q (.str z) H') E) := by
  intro pins s σ H xs us Q I r h
  obtain ⟨a, dx, fs, rfl, ha, q⟩ := h
  cases r with
  | cons r1 r2 =>
    cases r2
    cases r1
    obtain ⟨mA, O, _⟩ := ins_get I.hok ha
    obtain ⟨od, J, _⟩ := O.look
    obtain ⟨m, fr⟩ := I.fr
    refine PySem.W.repr_K (h₀ := X.base) hr.in1.units0 fr I.ok.mod.kin J hs hf ?_
    refine wpAny_mono (run_at1 (ws := []) (ks := []) (E' := X.xe) (bs := [.ref a]) F hr hG I (vs := [.ref a]) (hb s [.ref a] I.kIn rfl) (.cons rfl .nil) q) ?_ fun _ _ e => e
    rintro u s2 ⟨v, H2, I2, rv, z, rfl, q2⟩
    obtain ⟨t, rfl⟩ := rv
    exact ⟨.str z, H2, I2, ⟨t, rfl⟩, q2⟩
/-! {e!r} of a list of data -/
def tFmtL (K : PySem.W.Frag) (te : TE) : TE := fun σ H Q => te σ H fun x H1 => ∃ a xs d, x = .ref a ∧ SqL K H1 a xs ∧ Dp K H1 x d ∧ d.hasDict = false ∧ NiceD d ∧ Q (.str d.shown) H1
theorem pe_fmtL {e : Expr} {te : TE} {pos : Pos} (hG : X.A.guards = some []) (hu : X.A.units + 64 < cLine) (he : PE X e te) : PE X (.FormattedValue e 114 none pos) (tFmtL X.K te) := by
  refine ⟨fun pins s σ H Q I h => ?_⟩
  refine wpAny_FormattedValue_repr (thn (he.run pins s σ H _ I h) fun v s1 hv => ?_)
  obtain ⟨x, H1, I1, r1, a, xs, d, rfl, _, hd, nd, ⟨n1, n2, n3⟩, q⟩ := hv
  obtain ⟨as, rd⟩ := Dp.reads I1 d _ v hd r1
  cases r1
  refine pyReprObj_of_reads rd n1 (PyData.noDict_hsm nd) hG (by omega) (fun _ _ e => e) (fun h' u tk kp => ?_) n3
  have I2 : Inv X pins σ H1 { s1 with heap := h', toks := tk } := I1.kept kp
  exact wpAny_formatField_str ⟨.str d.shown, H1, I2, ⟨u, rfl⟩, q⟩ ⟨.str d.shown, H1, I2.tok _, ⟨_, rfl⟩, q⟩ n3
end
end FL
namespace FL
open PySem PySem.Spec PyProof.Rows L2
section
variable {M : Model} {A : Around} {E : Value → Shared → Prop} {s : Shared} {K : PySem.W.Frag} {x C f : Addr} {ox : Obj} {od : Option Obj}
theorem rc_own {a : Value} {T ida : String} {Q : Value → Shared → Prop} (ha : s.TypeIs a T) (X : K.In s.heap) (I : PySem.W.InstAt s.heap x ox C od) (hsub : PySem.W.mroIn K C (.type T) = some false)
    (h1 : Slot T (cmpInfo .Eq).2.1 ida) (hc1 : ∀ Q' : Value → Shared → Prop, Q' .notImplemented s → wpAny M A (call (.builtin ida) [a, .ref x]) Q' E s)
    (hs : PySem.W.findIn K (.ref C) "__eq__" = some (some (.ref f))) (hf : PySem.W.isFn K (.ref f) = true) (hu : A.units < cLine)
    (h : wpAny M A (call (.ref f) [.ref x, a]) (PySem.W.CmpBack Q) E s) : wpAny M A (richCompare .Eq a (.ref x)) Q E s := by
  have hne : (Value.type T != Value.ref C) = true := by rfl
  have two : wpAny M A (tryCompare (.ref x) (cmpInfo .Eq).2.2 a) (fun r s' => ∃ v, r = some v ∧ Q v s') E s := by
    unfold tryCompare
    refine wpAny_bind (PySem.W.ifBound_K X I hs hf (wpAny_mono h (fun v s' hv => ?_) fun _ _ e => e))
    cases v <;> first | exact hv.elim | exact wpAny_pure ⟨_, rfl, hv⟩
  rcases hi : cmpInfo CmpOp.Eq with ⟨sym, g, r⟩
  rw [hi] at h1 two
  simp only [richCompare, hi, ha.oneThing_none]
  try with_reducible refine wpAny_holding ?_
  refine wpAny_bind (wpAny_cRoomFor hu ?_)
  refine wpAny_bind (wpAny_typeOf ha (wpAny_bind (I.type.here ?_)))
  simp only [hne, if_true]
  refine wpAny_bind ((PySem.W.looks_mroIn X hsub).here ?_)
  simp only [Bool.false_eq_true, if_false, Bool.not_false, if_true]
  refine wpAny_bind (m := tryCompare a _ (.ref x)) (wpAny_tryCompare_declines ha h1 (hc1 _ ⟨rfl, ?_⟩))
  refine wpAny_bind (wpAny_mono two (fun r s' z => ?_) fun _ _ e => e)
  obtain ⟨v, rfl, hq⟩ := z
  exact wpAny_pure hq
end
section
variable {K : PySem.W.Frag} {x C l : Addr} {ox : Obj} {od : Option Obj}
theorem int_no (b : Int) (u : Tok) (c : Value) (dd : Option Addr) (sl : Array (Option Value)) :
    Meets (Builtin.«int.__eq__» ⟨[.int b u, .ref x], []⟩) (fun _ R s => s.heap.get? x = some { cls := c, dict := dd, data := .plain, slots := sl } ∧ R (.ok (.ret .notImplemented)) s) :=
  .of_wp fun prog w A R s h => by obtain ⟨hp, g, d, tk, os⟩ := s; obtain ⟨hl, h⟩ := h; wp_walk using wpAny_loadPart' hl, wpAny_load hl; exact ⟨_, rfl, h⟩
theorem bool_no (b : Bool) (c : Value) (dd : Option Addr) (sl : Array (Option Value)) :
    Meets (Builtin.«int.__eq__» ⟨[.bool b, .ref x], []⟩) (fun _ R s => s.heap.get? x = some { cls := c, dict := dd, data := .plain, slots := sl } ∧ R (.ok (.ret .notImplemented)) s) :=
  .of_wp fun prog w A R s h => by obtain ⟨hp, g, d, tk, os⟩ := s; obtain ⟨hl, h⟩ := h; wp_walk using wpAny_loadPart' hl, wpAny_load hl; exact ⟨_, rfl, h⟩
theorem str_no (b : Str) (u : Tok) (c : Value) (dd : Option Addr) (sl : Array (Option Value)) :
    Meets (Builtin.«str.__eq__» ⟨[.str b u, .ref x], []⟩) (fun _ R s => s.heap.get? x = some { cls := c, dict := dd, data := .plain, slots := sl } ∧ R (.ok (.ret .notImplemented)) s) :=
  .of_wp fun prog w A R s h => by obtain ⟨hp, g, d, tk, os⟩ := s; obtain ⟨hl, h⟩ := h; wp_walk using wpAny_loadPart' hl, wpAny_load hl; exact ⟨_, rfl, h⟩
theorem list_no (items : Array Value) (n : Nat) (dd : Option Addr) (sl : Array (Option Value)) (c : Value) (dd' : Option Addr) (sl' : Array (Option Value)) :
    Meets (Builtin.«list.__eq__» ⟨[.ref l, .ref x], []⟩) (fun _ R s => s.heap.get? l = some { cls := .type "list", dict := dd, data := .seq items n, slots := sl } ∧ s.heap.get? x = some { cls := .ref C, dict := dd', data := .plain, slots := sl' }
      ∧ (K.In s.heap ∧ PySem.W.mroIn K C (.type "list") = some false) ∧ R (.ok (.ret .notImplemented)) s) :=
  .of_wp fun prog w A R s h => by
    obtain ⟨hp, g, d, tk, os⟩ := s
    obtain ⟨hl, hx, ⟨X, hm⟩, h⟩ := h
    have L := PySem.W.looks_mroIn (M := model prog w) X hm
    wp_walk using wpAny_loadPart' hl, wpAny_load hl, wpAny_loadPart' hx, wpAny_load hx, L.here
    exact ⟨_, rfl, h⟩
theorem tuple_no (items : Array Value) (n : Nat) (dd : Option Addr) (sl : Array (Option Value)) (c : Value) (dd' : Option Addr) (sl' : Array (Option Value)) :
    Meets (Builtin.«tuple.__eq__» ⟨[.ref l, .ref x], []⟩) (fun _ R s => s.heap.get? l = some { cls := .type "tuple", dict := dd, data := .seq items n, slots := sl } ∧ s.heap.get? x = some { cls := .ref C, dict := dd', data := .plain, slots := sl' }
      ∧ (K.In s.heap ∧ PySem.W.mroIn K C (.type "tuple") = some false) ∧ R (.ok (.ret .notImplemented)) s) :=
  .of_wp fun prog w A R s h => by
    obtain ⟨hp, g, d, tk, os⟩ := s
    obtain ⟨hl, hx, ⟨X, hm⟩, h⟩ := h
    have L := PySem.W.looks_mroIn (M := model prog w) X hm
    wp_walk using wpAny_loadPart' hl, wpAny_load hl, wpAny_loadPart' hx, wpAny_load hx, L.here
    exact ⟨_, rfl, h⟩
theorem dict_no (es : Array DictEntry) (n : Nat) (dd : Option Addr) (sl : Array (Option Value)) (c : Value) (dd' : Option Addr) (sl' : Array (Option Value)) :
    Meets (Builtin.«dict.__eq__» ⟨[.ref l, .ref x], []⟩) (fun _ R s => s.heap.get? l = some { cls := .type "dict", dict := dd, data := .dict es n, slots := sl } ∧ s.heap.get? x = some { cls := .ref C, dict := dd', data := .plain, slots := sl' }
      ∧ (K.In s.heap ∧ PySem.W.mroIn K C (.type "dict") = some false) ∧ R (.ok (.ret .notImplemented)) s) :=
  .of_wp fun prog w A R s h => by
    obtain ⟨hp, g, d, tk, os⟩ := s
    obtain ⟨hl, hx, ⟨X, hm⟩, h⟩ := h
    have L := PySem.W.looks_mroIn (M := model prog w) X hm
    wp_walk using wpAny_loadPart' hl, wpAny_load hl, wpAny_loadPart' hx, wpAny_load hx, L.here
    exact ⟨_, rfl, h⟩
end
end FL
namespace FL
open PySem PySem.Spec PyProof.Rows L2
/-! ### calls with keywords of defs without defaults -/
theorem kbn_of {K : PySem.W.Frag} {x qual : Str} {st : Stmt} {f : Addr} {fd : FuncData} {ps ks : List Str} {n : Nat} {g : List Value → List Value → List Value} {gV : List V → List V → List V} (F : Fun K x qual st f fd)
    (h : ∀ (kV doc pm : Value) (an : Option Addr) (cdv ct : Value) (us ws : List Value), us.length = n → ws.length = ks.length →
      bindArgs (PySem.W.fnOf x qual (defArgs st) (defBody st) (defScope st) .none kV doc pm an cdv ct) ⟨us, ks.zip ws⟩ = pure (ps.zip (g us ws)))
    (hr : ∀ {vs : List V} {us : List Value} {zs : List V} {ws : List Value}, Vals vs us → Vals zs ws → Vals (gV vs zs) (g us ws)) : KBn K fd ps n ks g gV := by
  obtain ⟨oc, od, kV, doc, pm, an, cdv, ct, osl, rfl, lk, hcd⟩ := F.ex
  exact ⟨fun s us ws _ l1 l2 => .of_eq (h kV doc pm an cdv ct us ws l1 l2), hr⟩
/-- one value ahead, two keywords the other way round -/
def swp {α : Type} : List α → List α → List α
  | [s], [r, z] => [s, z, r]
  | us, _ => us
theorem swp_rel {vs : List V} {us : List Value} {zs : List V} {ws : List Value} (a : Vals vs us) (b : Vals zs ws) : Vals (swp vs zs) (swp us ws) := by
  cases a with
  | nil => cases b <;> exact .nil
  | cons a1 a2 =>
    cases a2 with
    | nil =>
      cases b with
      | nil => exact .cons a1 .nil
      | cons b1 b2 =>
        cases b2 with
        | nil => exact .cons a1 .nil
        | cons b2 b3 =>
          cases b3 with
          | nil => exact .cons a1 (.cons b2 (.cons b1 .nil))
          | cons _ _ => exact .cons a1 .nil
    | cons a2 a3 => cases b <;> exact .cons a1 (.cons a2 a3)
/-! ### an instance called by a keyword -/
theorem callO_kw {M : Model} {A : Around} {E : Value → Shared → Prop} {s : Shared} {a : Addr} {pos : Pos} {Q : Value → Shared → Prop} {args : List (Bool × Sem Value)} {kws : List (Option Str × Sem Value)}
    (hp : (args.any (·.1) || kws.any (·.1.isNone)) = false)
    (h : wpAny M A (evalArgs (.ref a) true args kws) (fun z s1 => (∃ C ox od, PySem.W.InstAt s1.heap a ox C od ∧ ox.data = .plain) ∧ wpAny M A (call (.ref a) z.pos z.kw) Q E s1) E s) :
    wpAny M A (callWith pos (.ref a) [] args kws) Q E s := by
  unfold callWith
  refine wpAny_bind (wpAny_holding (wpAny_mono h (fun z s1 hz => ?_) fun _ _ e => e))
  obtain ⟨⟨C, ox, od, J, hd⟩, hz⟩ := hz
  refine wpAny_bind (wpAny_standAt ?_)
  have L := PySem.W.kco_keeper (M := M) J hd
  simp only [hp]
  refine wpAny_bind (L.here ?_)
  exact wpAny_bind (wpAny_operateT (wpAny_mono hz (fun r s2 hr => wpAny_bind (wpAny_holding (wpAny_point (wpAny_pure hr)))) fun _ _ e => e))
section
variable {X : Cx} {pins : List (Addr × Obj)} {σ : L2.St} {H : Hp} {s : Shared} {k : Nat} {f C g : Addr} {fd : FuncData} {ps ks : List Str} {sp : Sp} {Q : VK} {E : XK}
/-- o(k = v), o an instance of C -/
def tCallOK (C : Addr) (m : Nat) (sp : Sp) (gV : List V → List V → List V) (E : XK) (tf : TE) (tk : TA) : TE := fun σ H Q => tf σ H fun y H1 => ∃ a, y = V.ref a ∧
  tk σ H1 fun zs H2 => zs.length = m ∧ (∃ dx fs, H2 a = some (.ins C dx fs)) ∧ sp (gV [.ref a] zs) H2 Q E
theorem pe_callOK {fe : Expr} {kws : List Keyword} {pos : Pos} {tf : TE} {tk : TA} {gg : List Value → List Value → List Value} {gV : List V → List V → List V} (hf : PE X fe tf) (c : StX.CallO X.K C g)
    (F : FnOk X.prog X.w X.K X.mg X.base CX0 k g fd ps sp) (hb : KBn X.K fd ps 1 ks gg gV) (hr : Room k X.A) (hkw : PK X kws tk)
    (hall : (backToKw pos (keywordEach kws X.env)).all (·.1.isSome) = true := by rfl) (hks : (backToKw pos (keywordEach kws X.env)).filterMap (·.1) = ks := by rfl)
    (ht : eval (.Call fe [] kws pos) X.env = (do callWith pos (← eval fe X.env) [] (backTo pos (starEach [] X.env)) (backToKw pos (keywordEach kws X.env))) := by rfl)
    (hpl : ((backTo pos (starEach [] X.env)).any (·.1) || (backToKw pos (keywordEach kws X.env)).any (·.1.isNone)) = false := by rfl) :
    PE X (.Call fe [] kws pos) (tCallOK C ks.length sp gV E tf tk) := by
  refine ⟨fun pins s σ H Q I h => ?_⟩
  rw [ht]
  refine wpAny_bind (thn (hf.run pins s σ H _ I h) fun u s1 hu => ?_)
  obtain ⟨y, H1, I1, ry, a, ey, q⟩ := hu
  subst ey
  obtain rfl : u = Value.ref a := ry
  refine callO_kw hpl (evalArgs_kw2_nil hall (thn (hkw.run pos pins s1 σ H1 _ I1 q) fun ws s2 hw => ?_))
  obtain ⟨zs, H2, I2, rz, l2, ⟨dx, fs, ha⟩, q2⟩ := hw
  rw [hks]
  obtain ⟨ox, od, J, hd⟩ := StX.insC_at I2 (.inr ⟨dx, fs, ha⟩)
  refine ⟨⟨C, ox, od, J, hd⟩, ?_⟩
  have rs : Vals [V.ref a] [Value.ref a] := .cons rfl .nil
  refine wpAny_call (PySem.W.kco_code I2.kIn J hd c.at_ c.fn c.fi ?_)
  refine codeAny_mono (F.run X.A X.stack s2 H2 ⟨[.ref a], ks.zip ws⟩ (gg [.ref a] ws) (gV [.ref a] zs) Q E hr I2.env0 (hb.to s2 [.ref a] ws I2.kIn rfl (rz.length.symm.trans l2)) (hb.rel rs rz) q2) fun r s' hq => ?_
  cases r with
  | error e => exact False.elim hq
  | ok fl =>
    cases fl with
    | ret u => exact I2.after hq
    | next => exact False.elim hq
    | brk => exact False.elim hq
    | cont => exact False.elim hq
/-! ### == and != by an own == -/
/-- a value of another kind, or an instance of C -/
def Sec (C : Addr) (H : Hp) (y : V) : Prop := (∃ n, Any H y n) ∨ ∃ b dx fs, y = .ref b ∧ H b = some (.ins C dx fs)
structure EqT (K : PySem.W.Frag) (C f : Addr) (fd : FuncData) : Prop where
  cl : Cls K C
  at_ : PySem.W.findIn K (.ref C) "__eq__" = some (some (.ref f))
  fn : PySem.W.isFn K (.ref f) = true
  bd : Binds K fd ["self", "other"] []
  kin : ∀ n ∈ kinds, PySem.W.mroIn K C (.type n) = some false
  ne : PySem.W.findIn K (.ref C) "__ne__" = some (some (.builtin "object.__ne__"))
  ob : PySem.W.mroIn K C (.type "object") = some true
theorem not_first {K : PySem.W.Frag} {C : Addr} {n : String} (h : n ∈ kinds) : PySem.W.notFirst K C (.type n) = true := by
  have h' : ((fastBuiltinMro n).map fun l => l.contains (.ref C)) = some false := by
    simp only [kinds, List.mem_cons, List.mem_nil_iff, or_false] at h
    rcases h with rfl | rfl | rfl | rfl | rfl | rfl | rfl <;> kernel_rfl
  show (_ || (((fastBuiltinMro n).map fun l => l.contains (.ref C)) == some false)) = true
  rw [h']
  simp
theorem sec_type {u : Value} {y : V} (I : Inv X pins σ H s) (r : RelV y u) (h : Sec C H y) : ∃ tb, PySem.W.Looks (model X.prog X.w) s.heap (typeOf u) tb ∧ PySem.W.notFirst X.K C tb = true := by
  rcases h with ⟨n, an⟩ | ⟨b, dx, fs, rfl, hb⟩
  · obtain ⟨P, Z, p, _⟩ := kit_of I r an.tyx
    exact ⟨_, Z.ty _ _ I.kIn p, not_first an.kind⟩
  · obtain rfl : u = Value.ref b := r
    obtain ⟨mB, J, _⟩ := ins_get I.hok hb
    obtain ⟨od, J, _⟩ := J.look
    exact ⟨_, J.type, by simp [PySem.W.notFirst]⟩
def rEqO (C : Addr) (sp : Sp) : R2 := fun x y H Q => ∃ a dx fs, x = .ref a ∧ H a = some (.ins C dx fs) ∧ Sec C H y ∧ sp [x, y] H (fun v H' => ∃ b, v = .bl b ∧ Q (.bl b) H') E0
theorem op_eqO (T : EqT X.K C f fd) (Fk : FnOk X.prog X.w X.K X.mg X.base CX0 k f fd ["self", "other"] sp) (hr : Room k X.A) : OpR X (compareOp .Eq) (rEqO C sp) := by
  intro pins s σ H x y v u Q I rx ry h
  obtain ⟨a, dx, fs, rfl, ha, sc, q⟩ := h
  obtain rfl : v = Value.ref a := rx
  obtain ⟨tb, lb, nf⟩ := sec_type I ry sc
  obtain ⟨mA, J, _⟩ := ins_get I.hok ha
  obtain ⟨od, J, _⟩ := J.look
  obtain ⟨m, hF⟩ := I.fr
  show wpAny _ _ (richCompare .Eq (.ref a) u) _ _ _
  refine PySem.W.cmp_K (op := .Eq) hr.units0 hF I.ok.mod.kin J lb nf T.at_ T.fn ?_
  have rr : Vals [V.ref a, y] [Value.ref a, u] := .cons rfl (.cons ry .nil)
  refine wpAny_mono (wpAny_call (run_fnR (Fk.raw T.bd .nil) hr pass0 I rr q)) ?_ fun _ _ e => e
  rintro w s2 ⟨z, H2, I2, rz, b, rfl, qb⟩
  obtain rfl : w = Value.bool b := rz
  exact ⟨.bl b, H2, I2, rfl, qb⟩
/-- != of an instance and another value -/
def rNeO (C : Addr) (sp : Sp) : R2 := fun x y H Q => ∃ a dx fs, x = .ref a ∧ H a = some (.ins C dx fs) ∧ Sec C H y ∧ sp [x, y] H (fun v H' => ∃ b, v = .bl b ∧ Q (.bl !b) H') E0
theorem slot_obj_ne : Slot "object" "__ne__" "object.__ne__" :=
  Slot.of (T := "object") (name := "__ne__") (owner := "object") (n := "__ne__") (by rw [typeLookup_type, builtinLookup_eq_fast]; kernel_rfl) (by decide +kernel) (by decide +kernel) (by decide +kernel) (.inl (by decide +kernel)) (by rw [isSubtype_type]; kernel_rfl)
theorem op_neO (T : EqT X.K C f fd) (Fk : FnOk X.prog X.w X.K X.mg X.base CX0 k f fd ["self", "other"] sp) (hr : Room (k + 2) X.A) : OpR X (compareOp .NotEq) (rNeO C sp) := by
  intro pins s σ H x y v u Q I rx ry h
  obtain ⟨a, dx, fs, rfl, ha, sc, q⟩ := h
  obtain rfl : v = Value.ref a := rx
  obtain ⟨tb, lb, nf⟩ := sec_type I ry sc
  obtain ⟨mA, J, _⟩ := ins_get I.hok ha
  obtain ⟨od, J, _⟩ := J.look
  show wpAny _ _ (richCompare .NotEq (.ref a) u) _ _ _
  have rr : Vals [V.ref a, y] [Value.ref a, u] := .cons rfl (.cons ry .nil)
  have inner : wpAny (model X.prog X.w) X.A (call (.builtin "object.__ne__") [.ref a, u]) (PySem.W.CmpBack (EP X pins σ Q)) X.xe s := by
    have sub : PySem.W.Looks (model X.prog X.w) s.heap (isInstance (.ref a) (.type "object")) true := J.type.andThen (PySem.W.looks_mroIn I.kIn T.ob)
    refine wpAny_call (codeAny_call_builtin slot_obj_ne.plain PySem.F.cmpEntry_ne (PySem.W.check_slot PySem.F.cmpKind_ne PySem.F.cmpSplit_ne sub (PySem.F.cmpArgs_ne _ _) ?_))
    unfold Builtin.«object.__ne__»
    repeat (first | with_reducible refine wpAny_cRoomFor hr.in1.units0 ?_ | with_reducible refine PySem.W.ifBound_K I.kIn J T.at_ T.fn ?_ | wp_step)
    have c1 : codeAny (model X.prog X.w) X.A.in1 (.call (.ref f) ⟨[.ref a, u], []⟩) (fun r s' => ∃ w, r = .ok (.ret w) ∧ EP X pins σ (fun v H' => ∃ b, v = V.bl b ∧ Q (V.bl !b) H') w s') s := by
      have hb := T.bd s [.ref a, u] I.kIn rfl
      refine codeAny_mono (Fk.run X.A.in1 X.stack s H ⟨[.ref a, u], []⟩ [.ref a, u] [.ref a, y] _ E0 (hr.mono (Nat.le_succ _)).in1 I.env0.in1 hb rr q) ?_
      rintro (er | fl) s2 z
      · exact False.elim z
      · cases fl with
        | ret w => exact ⟨w, rfl, I.after z⟩
        | _ => exact False.elim z
    refine codeAny_mono c1 ?_
    rintro r s2 ⟨w, rfl, z, H2, I2, rz, b, rfl, qb⟩
    obtain rfl : w = Value.bool b := rz
    refine wpAny_bind (wpAny_truthy_bool (wpAny_pure ?_))
    exact ⟨.bl !b, H2, I2, rfl, qb⟩
  have X0 := I.kIn
  have one : wpAny (model X.prog X.w) X.A (tryCompare (.ref a) "__ne__" u) (fun r s' => ∃ v, r = some v ∧ EP X pins σ Q v s') X.xe s := by
    unfold tryCompare callSpecialIfBound? bindSpecialIfBound?
    refine wpAny_bind (wpAny_holding (wpAny_bind (wpAny_bind (wpAny_bind (J.type.here ((PySem.W.looks_findIn X0 T.ne).here ?_))))))
    have fin : wpAny (model X.prog X.w) X.A (call (.builtin "object.__ne__") ([.ref a] ++ [u]) >>= fun v => pure (some v))
        (fun r s' => wpAny (model X.prog X.w) X.A (match r with | some .notImplemented | none => pure none | some v => pure (some v)) (fun r s' => ∃ v, r = some v ∧ EP X pins σ Q v s') X.xe s') X.xe s := by
      refine wpAny_bind (wpAny_mono inner (fun v s2 hv => wpAny_pure ?_) fun _ _ e => e)
      cases v <;> first | exact hv.elim | exact wpAny_pure ⟨_, rfl, hv⟩
    simp only [slot_obj_ne.bind]
    refine wpAny_bind (wpAny_askSetting (wpAny_ite ?_))
    split
    · exact wpAny_bind (wpAny_pure (wpAny_pure fin))
    · exact wpAny_tryCatch (wpAny_bind (wpAny_pure (wpAny_pure fin)))
  unfold richCompare
  simp only [oneThing_ref]
  refine wpAny_holding (wpAny_bind (wpAny_cRoomFor hr.units0 ?_))
  refine wpAny_bind (J.type.here (wpAny_bind (lb.here ?_)))
  split
  · rename_i qne
    have e : PySem.W.subIn X.K tb (.ref C) = some false := by
      rcases Bool.or_eq_true_iff.mp nf with e | e
      · rw [beq_iff_eq.mp e] at qne
        simp at qne
      · exact beq_iff_eq.mp e
    refine wpAny_bind ((PySem.W.looks_subIn X0 e).here ?_)
    simp only [Bool.false_eq_true, if_false]
    refine wpAny_bind (wpAny_mono one (fun r s2 hz => ?_) fun _ _ e => e)
    obtain ⟨v, rfl, hv⟩ := hz
    exact wpAny_pure hv
  · refine wpAny_bind (wpAny_pure ?_)
    simp only [Bool.false_eq_true, if_false]
    refine wpAny_bind (wpAny_mono one (fun r s2 hz => ?_) fun _ _ e => e)
    obtain ⟨v, rfl, hv⟩ := hz
    exact wpAny_pure hv
end
end FL
namespace FL
open PySem PySem.Spec PyProof.Rows L2
section
variable {x C : Addr}
theorem none_no (c : Value) (dd : Option Addr) (sl : Array (Option Value)) :
    Meets (Builtin.«NoneType.__eq__» ⟨[.none, .ref x], []⟩) (fun _ R s => s.heap.get? x = some { cls := c, dict := dd, data := .plain, slots := sl } ∧ R (.ok (.ret .notImplemented)) s) :=
  .of_wp fun prog w A R s h => by obtain ⟨hp, g, d, tk, os⟩ := s; obtain ⟨hl, h⟩ := h; wp_walk using wpAny_loadPart' hl, wpAny_load hl; exact ⟨_, rfl, h⟩
end
section
variable {X : Cx} {pins : List (Addr × Obj)} {σ : L2.St} {H : Hp} {s : Shared} {k : Nat} {f C : Addr} {fd : FuncData} {sp : Sp}
/-- a value of another kind == an instance -/
def rEqR (C : Addr) (sp : Sp) : R2 := fun x y H Q => ∃ a dx fs n, y = .ref a ∧ H a = some (.ins C dx fs) ∧ Any H x n ∧ sp [y, x] H (fun v H' => ∃ b, v = .bl b ∧ Q (.bl b) H') E0
theorem op_eqR (T : EqT X.K C f fd) (Fk : FnOk X.prog X.w X.K X.mg X.base CX0 k f fd ["self", "other"] sp) (hr : Room k X.A) : OpR X (compareOp .Eq) (rEqR C sp) := by
  intro pins s σ H x y v u Q I rx ry h
  obtain ⟨a, dx, fs, n, rfl, ha, an, q⟩ := h
  obtain rfl : u = Value.ref a := ry
  obtain ⟨mA, O, _⟩ := ins_get I.hok ha
  obtain ⟨od, J, _⟩ := O.look
  have hx : s.heap.get? a = some (PySem.W.instObj C dx) := J.at_
  show wpAny _ _ (richCompare .Eq v (.ref a)) _ _ _
  have rr : Vals [V.ref a, x] [Value.ref a, v] := .cons rfl (.cons rx .nil)
  have hu := hr.units0
  have km := T.kin n an.kind
  have own : wpAny (model X.prog X.w) X.A (call (.ref f) [.ref a, v]) (PySem.W.CmpBack (EP X pins σ Q)) X.xe s := by
    refine wpAny_mono (wpAny_call (run_fnR (Fk.raw T.bd .nil) hr pass0 I rr q)) ?_ fun _ _ e => e
    rintro w s2 ⟨z, H2, I2, rz, b, rfl, qb⟩
    obtain rfl : w = Value.bool b := rz
    exact ⟨.bl b, H2, I2, rfl, qb⟩
  cases an with
  | non =>
    obtain rfl : v = Value.none := rx
    exact rc_own (T := "NoneType") rfl I.kIn J km PySem.F.slot_NoneType_eq (fun Q' hq => call_meets PySem.F.slot_NoneType_eq rfl PySem.F.entry_NoneType_eq (PySem.F.args_NoneType_eq_2 _ _) (none_no _ _ _) ⟨hx, hq⟩) T.at_ T.fn hu own
  | bl b =>
    obtain rfl : v = Value.bool b := rx
    exact rc_own (T := "bool") rfl I.kIn J km PySem.F.slot_bool_eq (fun Q' hq => call_meets PySem.F.slot_bool_eq rfl PySem.F.entry_int_eq (PySem.F.args_int_eq_2 _ _) (bool_no _ _ _ _) ⟨hx, hq⟩) T.at_ T.fn hu own
  | int i =>
    obtain ⟨t, rfl⟩ := rx
    exact rc_own (T := "int") (typeIs_int s i t) I.kIn J km PySem.F.slot_int_eq (fun Q' hq => call_meets PySem.F.slot_int_eq (typeIs_int s i t) PySem.F.entry_int_eq (PySem.F.args_int_eq_2 _ _) (int_no _ _ _ _ _) ⟨hx, hq⟩) T.at_ T.fn hu own
  | str z =>
    obtain ⟨t, rfl⟩ := rx
    exact rc_own (T := "str") (typeIs_str s z t) I.kIn J km PySem.F.slot_str_eq (fun Q' hq => call_meets PySem.F.slot_str_eq (typeIs_str s z t) PySem.F.entry_str_eq (PySem.F.args_str_eq_2 _ _) (str_no _ _ _ _ _) ⟨hx, hq⟩) T.at_ T.fn hu own
  | @lst l xs e =>
    obtain rfl : v = Value.ref l := rx
    obtain ⟨_, its, m, _, hl⟩ := I.hok l _ e
    have ty : s.TypeIs (.ref l) "list" := ⟨_, hl, rfl⟩
    exact rc_own (T := "list") ty I.kIn J km PySem.F.slot_list_eq (fun Q' hq => call_meets PySem.F.slot_list_eq ty PySem.F.entry_list_eq (PySem.F.args_list_eq_2 _ _) (list_no _ _ _ _ .none _ _) ⟨hl, hx, ⟨I.kIn, km⟩, hq⟩) T.at_ T.fn hu own
  | @tup l xs e =>
    obtain rfl : v = Value.ref l := rx
    obtain ⟨_, its, _, o, hl, hc, m, hd⟩ := I.hok l _ e
    obtain ⟨cls, dd, data, sl⟩ := o
    simp only at hc hd
    subst hc hd
    have ty : s.TypeIs (.ref l) "tuple" := ⟨_, hl, rfl⟩
    exact rc_own (T := "tuple") ty I.kIn J km PySem.F.slot_tuple_eq (fun Q' hq => call_meets PySem.F.slot_tuple_eq ty PySem.F.entry_tuple_eq (PySem.F.args_tuple_eq_2 _ _) (tuple_no _ _ _ _ .none _ _) ⟨hl, hx, ⟨I.kIn, km⟩, hq⟩) T.at_ T.fn hu own
  | @dct l kvs e =>
    obtain rfl : v = Value.ref l := rx
    obtain ⟨_, _, vs, _, o, es, ep, hl, he, hd, _⟩ := I.hok l _ e
    obtain ⟨cls, dd, data, sl⟩ := o
    obtain ⟨hc, _⟩ := he
    simp only at hc hd
    subst hc hd
    have ty : s.TypeIs (.ref l) "dict" := ⟨_, hl, rfl⟩
    exact rc_own (T := "dict") ty I.kIn J km PySem.F.slot_dict_eq (fun Q' hq => call_meets PySem.F.slot_dict_eq ty PySem.F.entry_dict_eq (PySem.F.args_dict_eq_2 _ _) (dict_no _ _ _ _ .none _ _) ⟨hl, hx, ⟨I.kIn, km⟩, hq⟩) T.at_ T.fn hu own
end
end FL
namespace FL
open PySem PySem.Spec PyProof.Rows L2
/-! ### what a relay's methods promise -/
structure IsT (K : PySem.W.Frag) (C : Addr) : Prop where
  cl : Cls K C
  ha : PySem.W.findIn K (.ref C) "__class__" = some (some (.builtin "object.__class__"))
  hm : PySem.W.mroIn K C (.type "object") = some true
  self : PySem.W.kitOne K (.ref C) (.ref C) = some true
  oth : ∀ n ∈ kinds, PySem.W.kitOne K (.type n) (.ref C) = some false
theorem IsT.ins {K : PySem.W.Frag} {C a dx : Addr} {H : Hp} {fs : List (Str × V)} (T : IsT K C) (e : H a = some (.ins C dx fs)) : TyX K H (.ref a) (.ref C) :=
  .base (.ins e T.cl T.ha (by kernel_rfl) (by kernel_rfl) T.hm)
/-- rules that are plain and not too long -/
def RP (b : Nat) (rs : List Rule) : Prop := ∀ r ∈ rs, Plain r.old ∧ Plain r.new ∧ r.old.length ≤ b ∧ r.new.length ≤ b
def rsEq (a b : List Rule) : Bool := PyData.eqvAll (a.map ruleD) (b.map ruleD)
theorem rsEq_iff {a b : List Rule} : rsEq a b = true ↔ a = b := eqv_rules a b
theorem rsEq_self (a : List Rule) : rsEq a a = true := rsEq_iff.mpr rfl
theorem rsEq_comm (a b : List Rule) : rsEq a b = rsEq b a := by
  cases h : rsEq a b with
  | true =>
    rw [rsEq_iff] at h
    rw [h, rsEq_self]
  | false =>
    cases h2 : rsEq b a with
    | false => rfl
    | true =>
      rw [rsEq_iff] at h2
      rw [h2, rsEq_self] at h
      cases h
def spGet (C : Addr) : Sp := fun vs H Q _ => ∃ (p : Addr) (z : Str) (rs : List Rule), vs = [.ref p] ∧ RelayAt C H p z rs ∧ Q (.str z) H
def spRules (C : Addr) : Sp := fun vs H Q _ => ∃ (p : Addr) (z : Str) (rs : List Rule), vs = [.ref p] ∧ RelayAt C H p z rs ∧
  ∀ (D : Addr) (xs : List V) (H' : Hp), H D = none → H' D = some (.lst xs) → RulesAt H' xs rs → Same H H' → Q (.ref D) H'
def spCall (C : Addr) : Sp := fun vs H Q _ => ∃ (p : Addr) (z : Str) (rs : List Rule) (y : Str), vs = [.ref p, .str y] ∧ RelayAt C H p z rs ∧ Over z y ∧ y.length ≤ 100000 ∧
  (∀ r ∈ rs, r.old.length ≤ 40 ∧ r.new.length ≤ 1000) ∧ ∀ H', Same H H' → Q (.str (turn rs y)) H'
def spEqR (C : Addr) : Sp := fun vs H Q _ => ∃ (p : Addr) (z : Str) (rs : List Rule) (b : Nat) (v : V), vs = [.ref p, v] ∧ RelayAt C H p z rs ∧ RP b rs ∧
  ((∃ n, Any H v n ∧ Q (.bl false) H) ∨ ∃ (q : Addr) (rs' : List Rule), v = .ref q ∧ RelayAt C H q z rs' ∧ RP b rs' ∧ Q (.bl (rsEq rs rs')) H)
def reprR (z : Str) (rs : List Rule) : Str := (((((Str.empty ++ Str.ofString "Relay(") ++ reprText z) ++ Str.ofString ", ") ++ (PyData.list (rs.map ruleD)).shown) ++ Str.ofString ")")
def spReprR (C : Addr) : Sp := fun vs H Q _ => ∃ (p : Addr) (z : Str) (rs : List Rule), vs = [.ref p] ∧ RelayAt C H p z rs ∧ Abc z ∧ RP 40 rs ∧ rs.length ≤ 400 ∧ Q (.str (reprR z rs)) H
theorem repr_abc {z : Str} (h : Abc z) : (reprText z).length ≤ 42 := by
  have h1 := (Sm.str (h.plain fun c hc => hc)).len
  have h2 : (reprText z).length ≤ 10 * z.length + 2 := h1
  have := h.hi
  omega
theorem RP.sm {b : Nat} {rs : List Rule} (h : RP b rs) : Sm ((20 * b + 77) * rs.length + 2) (.list (rs.map ruleD)) := Sm.rules h
theorem RP.sm40 {rs : List Rule} (h : RP 40 rs) (l : rs.length ≤ 400) : Sm 400000 (.list (rs.map ruleD)) := (RP.sm h).mono (by omega)
end FL
namespace FL
open PySem PySem.Spec PyProof.Rows L2
/-! ### a def by its name, all that a caller needs of it -/
structure Ca (P : Program) (w : World) (K : PySem.W.Frag) (mg : Str → Option Value) (base : Heap) (x : Str) (k : Nat) (ps : List Str) (sp : Sp) : Prop where
  ex : ∃ f fd, FnOk P w K mg base CX0 k f fd ps sp ∧ Binds K fd ps [] ∧ PySem.W.keepIn K (.ref f) = true ∧ mg x = some (.ref f)
structure CaG (P : Program) (w : World) (K : PySem.W.Frag) (mg : Str → Option Value) (base : Heap) (x : Str) (k : Nat) (ps : List Str) (sp : Sp) : Prop where
  ex : ∃ f fd, FnG P w K mg base CX0 k f fd ps sp ∧ Binds K fd ps [] ∧ PySem.W.keepIn K (.ref f) = true ∧ mg x = some (.ref f)
section
variable {X : Cx} {x : Str} {k : Nat} {ps : List Str} {sp : Sp} {p pos : Pos} {e : Expr} {es : List Expr} {t : TA}
theorem pe_ca (c : Ca X.prog X.w X.K X.mg X.base x k ps sp) (hr : Room k X.A) (hg : Gl X x) (ha : PA X (e :: es) t)
    (hdb : (x == ("__debug__" : Str)) = false := by decide) (he : starEach (e :: es) X.env = (false, eval e X.env) :: starEach es X.env := by rfl) (hpl : (backTo pos (starEach es X.env)).any (·.1) = false := by rfl) :
    PE X (.Call (.Name x p) (e :: es) [] pos) (tCall sp [] E0 t) := by
  obtain ⟨f, fd, F, b, kp, m⟩ := c.ex
  exact pe_call F hr hg m kp b .nil pass0 ha hdb he hpl
theorem pe_cg (c : CaG X.prog X.w X.K X.mg X.base x k ps sp) (hr : Room k X.A) (hG : X.A.guards = some []) (hg : Gl X x) (ha : PA X (e :: es) t)
    (hdb : (x == ("__debug__" : Str)) = false := by decide) (he : starEach (e :: es) X.env = (false, eval e X.env) :: starEach es X.env := by rfl) (hpl : (backTo pos (starEach es X.env)).any (·.1) = false := by rfl) :
    PE X (.Call (.Name x p) (e :: es) [] pos) (tCall sp [] E0 t) := by
  obtain ⟨f, fd, F, b, kp, m⟩ := c.ex
  exact pg_call F hr hG hg m kp b .nil pass0 ha hdb he hpl
end
/-! ### the class Relay, all that its users need -/
structure RelF (P : Program) (w : World) (K : PySem.W.Frag) (mg : Str → Option Value) (base : Heap) where
  C : Addr
  T : RTxt K mg C
  I : IsT K C
  fi : Addr
  di : FuncData
  mkc : Mk K C fi
  oi : FnOk P w K mg base CX0 5 fi di ["self", "signs", "rules"] (spInit C)
  bi : Binds K di ["self", "signs", "rules"] []
  ki : KBn K di ["self", "signs", "rules"] 1 ["rules", "signs"] swp swp
  fp : Addr
  fg : Addr
  dg : FuncData
  pr : PropOf K C "signs" fp fg
  og : FnOk P w K mg base CX0 1 fg dg ["self"] (spGet C)
  bg : Binds K dg ["self"] []
  fr : Addr
  dr : FuncData
  mr : Meth K C "rules" fr
  or_ : FnOk P w K mg base CX0 1 fr dr ["self"] (spRules C)
  br : Binds K dr ["self"] []
  fc : Addr
  dc : FuncData
  cc : StX.CallO K C fc
  oc : FnOk P w K mg base CX0 3 fc dc ["self", "line"] (spCall C)
  bc : Binds K dc ["self", "line"] []
  kc : KBn K dc ["self", "line"] 1 ["line"] (fun us ws => us ++ ws) (fun vs zs => vs ++ zs)
  fe : Addr
  de : FuncData
  te : EqT K C fe de
  oe : FnOk P w K mg base CX0 1 fe de ["self", "other"] (spEqR C)
  fz : Addr
  dz : FuncData
  zs : PySem.W.findIn K (.ref C) "__repr__" = some (some (.ref fz))
  zf : PySem.W.isFn K (.ref fz) = true
  oz : FnG P w K mg base CX0 1 fz dz ["self"] (spReprR C)
  bz : Binds K dz ["self"] []
theorem make_read {C : Addr} {H : Hp} {Q : VK} {z : Str} {v : V} {rs : List Rule} (hz : Abc z) (ra : RuArg H v rs) (ok : ∀ r ∈ rs, RuleOk z 40 r) (l : rs.length ≤ 400)
    (k : ∀ (x : Addr) (H' : Hp), H x = none → RelayAt C H' x z rs → Same H H' → Q (.ref x) H') :
    ∀ x dx, H x = none → H dx = none → dx ≠ x → spInit C [.ref x, .str z, v] (upd (upd H dx (.own x)) x (.ins C dx [])) (fun v H3 => v = .non ∧ Q (.ref x) H3) E0 := by
  intro x dx hx hd hne
  have s2 : Same H (upd (upd H dx (.own x)) x (.ins C dx [])) := ((Same.refl H).upd hd).upd hx
  refine ⟨x, dx, z, v, rs, rfl, upd_same, hz, ?_, ok, l, fun H' ra' rel _ b => ⟨rfl, k x H' hx rel.at_ fun c o e => b c o (s2 c o e) (ne_of_none e hx)⟩⟩
  obtain ⟨a, xs, t, rfl, ea, hrs⟩ := ra
  exact ⟨a, xs, t, rfl, s2 _ _ ea, Same.rules s2 hrs⟩
theorem RelayAt.ins {C : Addr} {H : Hp} {p : Addr} {z : Str} {rs : List Rule} (h : RelayAt C H p z rs) : ∃ dx fs, H p = some (.ins C dx fs) ∧ ∀ {m : Str}, ¬ m = Str.ofString "_index" → ¬ m = Str.ofString "_rules" → ¬ m = Str.ofString "_signs" → fs.lookup m = none := by
  obtain ⟨dx, ra, ia, xs, h1, _⟩ := h
  exact ⟨dx, _, h1, fun a b c => flds_no z ra ia a b c⟩
theorem rules_no : ¬ (Str.ofString "rules") = Str.ofString "_index" ∧ ¬ (Str.ofString "rules") = Str.ofString "_rules" ∧ ¬ (Str.ofString "rules") = Str.ofString "_signs" := by decide +kernel
end FL
namespace FL
open PySem PySem.Spec PyProof.Rows L2
theorem RelayAt.nn {C : Addr} {H : Hp} {p : Addr} {z : Str} {rs : List Rule} (h : RelayAt C H p z rs) : H p ≠ none := by
  obtain ⟨dx, fs, e, _⟩ := h.ins
  rw [e]
  exact fun q => nomatch q
/-- what the law asks of the rules of a relay -/
structure Deal (K : PySem.W.Frag) (H : Hp) (D : Addr) (z : Str) (rs : List Rule) : Prop where
  az : Abc z
  ex : ∃ xs, H D = some (.lst xs) ∧ RulesAt H xs rs
  ok : ∀ r ∈ rs, RuleOk z 30 r
  le : rs.length ≤ 100
theorem Deal.rp {K : PySem.W.Frag} {H : Hp} {D : Addr} {z : Str} {rs : List Rule} (d : Deal K H D z rs) : RP 40 rs := fun r hr => by
  have o := d.ok r hr
  exact ⟨d.az.plain o.o1, d.az.plain o.n1, Nat.le_trans o.o2 (by decide), Nat.le_trans o.n2 (by decide)⟩
theorem _root_.L2.Same.sqL {K : PySem.W.Frag} {q : Addr} {H H' : Hp} {xs : List V} (b : Same H H') (h : SqL K H q xs) : SqL K H' q xs := by
  rcases h with (h | ⟨o, h⟩) | h
  · exact .inl (.inl (b _ _ h))
  · exact .inl (.inr ⟨o, b _ _ h⟩)
  · exact .inr h
theorem Deal.same {K : PySem.W.Frag} {H H' : Hp} {D : Addr} {z : Str} {rs : List Rule} (d : Deal K H D z rs) (s : Same H H') : Deal K H' D z rs := by
  obtain ⟨xs, h1, h2⟩ := d.ex
  exact ⟨d.az, ⟨xs, s _ _ h1, Same.rules s h2⟩, d.ok, d.le⟩
def spTold (K : PySem.W.Frag) (C : Addr) : Sp := fun vs H Q _ => ∃ (z : Str) (D p : Addr) (rs : List Rule), vs = [.str z, .ref D, .ref p] ∧ Deal K H D z rs ∧ RelayAt C H p z rs ∧
  ∀ H', Same H H' → Q (.bl true) H'
/-- the shown text of rules -/
def shR (rs : List Rule) : Str := (PyData.list (rs.map ruleD)).shown
theorem Deal.sm {K : PySem.W.Frag} {H : Hp} {D : Addr} {z : Str} {rs : List Rule} (d : Deal K H D z rs) : Sm 400000 (.list (rs.map ruleD)) := d.rp.sm40 (Nat.le_trans d.le (by decide))
theorem Deal.sh {K : PySem.W.Frag} {H : Hp} {D : Addr} {z : Str} {rs : List Rule} (d : Deal K H D z rs) : Sh K H (.ref D) (.list (rs.map ruleD)) := by
  obtain ⟨xs, h1, h2⟩ := d.ex
  exact .inl ⟨dp_list (SqL.of h1) h2, d.sm.nd⟩
theorem sh_str {K : PySem.W.Frag} {H : Hp} (y : Str) : Sh K H (.str y) (.str y) := .inl ⟨.str y, rfl⟩
theorem nice_str {y : Str} (h : Plain y) (l : y.length ≤ 1000000) : NiceD (.str y) := (Sm.str h).nice (by
  have sz : sizeLine = 16777216 := rfl
  omega)
end FL
namespace FL
open PySem PySem.Spec PyProof.Rows L2
theorem empty_app (x : Str) : Str.empty ++ x = x := by
  apply Str_ext
  rw [Str.cps_append, Array.toList_append]
  rfl
theorem reprR_eq (z : Str) (rs : List Rule) : reprR z rs = (((Str.ofString "Relay(" ++ (PyData.str z).shown) ++ Str.ofString ", ") ++ (PyData.list (rs.map ruleD)).shown) ++ Str.ofString ")" := by
  show (((((Str.empty ++ Str.ofString "Relay(") ++ (PyData.str z).shown) ++ Str.ofString ", ") ++ (PyData.list (rs.map ruleD)).shown) ++ Str.ofString ")") = _
  rw [empty_app]
end FL
namespace FL
open PySem PySem.Spec PyProof.Rows L2 FL
theorem iteNot {c A B : Prop} [Decidable c] (hn : ¬ c) (h : B) : if decide c = true then A else B := by
  rw [if_neg fun q => hn (of_decide_eq_true q)]
  exact h
theorem iteYes {c A B : Prop} [Decidable c] (hc : c) (h : A) : if decide c = true then A else B := by
  rw [if_pos (decide_eq_true hc)]
  exact h
theorem cutV_take {xs : List V} {i : Nat} : cutV xs none (some ((i : Nat) : Int)) = xs.take i := by
  show (xs.drop (HT.sIx xs.length 0 none)).take (HT.sIx xs.length xs.length (some ((i : Nat) : Int)) - HT.sIx xs.length 0 none) = xs.take i
  rw [HT.sIx_nat]
  show (xs.drop 0).take (min i xs.length - 0) = xs.take i
  rw [List.drop_zero, Nat.sub_zero]
  by_cases h : i ≤ xs.length
  · rw [Nat.min_eq_left h]
  · rw [Nat.min_eq_right (by omega), List.take_length, List.take_of_length_le (by omega)]
theorem flat_strs : ∀ ms : List Str, (ms.map V.str).all flatV = true
  | [] => rfl
  | _ :: ms => flat_strs ms
/-! ### written tuples -/
def SqW (K : PySem.W.Frag) (a : Addr) (xs : List V) : Prop := ∃ (o : Obj) (its : Array Value) (n : Nat), K.lookup a = some o ∧ o.cls = .type "tuple" ∧ o.data = .seq its n ∧ its.size ≤ sizeLine ∧ Vals xs its.toList
theorem SqW.sqT {K : PySem.W.Frag} {H : Hp} {a : Addr} {xs : List V} (h : SqW K a xs) : SqT K H a xs := .inr h
def relsB : List V → List Value → Bool
  | [], [] => true
  | x :: xs, u :: us => He.relB x u && relsB xs us
  | _, _ => false
theorem relsB_ok : ∀ {xs : List V} {us : List Value}, relsB xs us = true → Vals xs us
  | [], [], _ => .nil
  | [], _ :: _, h => nomatch h
  | _ :: _, [], h => nomatch h
  | x :: xs, u :: us, h => by
    obtain ⟨h1, h2⟩ := Bool.and_eq_true_iff.mp (show (He.relB x u && relsB xs us) = true from h)
    exact .cons (He.relB_ok h1) (relsB_ok h2)
def tupB (K : PySem.W.Frag) (a : Addr) (xs : List V) : Bool := match K.lookup a with
  | some o => (match o.cls, o.data with
    | .type c, .seq its _ => decide (c = "tuple") && (decide (its.size ≤ 1000) && relsB xs its.toList)
    | _, _ => false)
  | none => false
theorem tupB_ok {K : PySem.W.Frag} {a : Addr} {xs : List V} (h : tupB K a xs = true) : SqW K a xs := by
  unfold tupB at h
  cases q : K.lookup a with
  | none =>
    rw [q] at h
    cases h
  | some o =>
    rw [q] at h
    obtain ⟨oc, od, dt, sl⟩ := o
    cases oc with
    | type c =>
      cases dt with
      | seq its n =>
        obtain ⟨h1, h2⟩ := Bool.and_eq_true_iff.mp (show (decide (c = "tuple") && (decide (its.size ≤ 1000) && relsB xs its.toList)) = true from h)
        obtain ⟨h2, h3⟩ := Bool.and_eq_true_iff.mp h2
        have e := of_decide_eq_true h1
        subst e
        exact ⟨_, its, n, q, rfl, rfl, Nat.le_trans (of_decide_eq_true h2) (by decide), relsB_ok h3⟩
      | _ => cases h
    | _ => cases dt <;> cases h
/-! ### what the top left, with tables -/
abbrev Tbs : Type := List ((PySem.W.Frag → Addr) × List Str)
def hookD (n : Nat) (ds : List DA) (ex : PySem.W.Frag → Bool) (ts : Tbs) : PySem.W.Hook where
  α := (Bool × List He.FnV) × List (Option (List (Option (Str × Int))))
  obs := fun s => (lookF ds ex (He.frG s.heap.get? (He.asD s.heap.get? n)), ts.map fun t => He.dicW (He.frG s.heap.get? (He.asD s.heap.get? n)) (t.1 (He.frG s.heap.get? (He.asD s.heap.get? n))))
  val := fun w => (dueF ds, ts.map fun t => some (He.keysIn w.params t.2))
  says := fun w h => ∃ K : PySem.W.Frag, K.In h ∧ lookF ds ex K = dueF ds ∧ (ts.map fun t => He.dicW K (t.1 K)) = ts.map fun t => some (He.keysIn w.params t.2)
  of := fun _ _ e => ⟨_, He.frG_in, congrArg Prod.fst e, congrArg Prod.snd e⟩
  keeps := fun _ _ _ ⟨K, i, c⟩ k => ⟨K, PySem.W.Frag.In.keeps i k, c⟩
def obD (n : Nat) (ds : List DA) (ex : PySem.W.Frag → Bool) (ts : Tbs) (g : Addr → Option Obj) : (Bool × List He.FnV) × List (Option (List (Option (Str × Int)))) :=
  (lookF ds ex (He.frG g (He.asD g n)), ts.map fun t => He.dicW (He.frG g (He.asD g n)) (t.1 (He.frG g (He.asD g n))))
theorem obD_eq {n : Nat} {ds : List DA} {ex : PySem.W.Frag → Bool} {ts : Tbs} (s : PySem.W.SharedT) : obD n ds ex ts (HandSHeadRun.getT s) = (hookD n ds ex ts).obs s.abs := by
  have e : HandSHeadRun.getT s = s.abs.heap.get? := funext fun a => HandSHeadRun.getT_eq s a
  rw [e]
  rfl
theorem tabs_at {K : PySem.W.Frag} {w : World} {ts : Tbs} (c : (ts.map fun t => He.dicW K (t.1 K)) = ts.map fun t => some (He.keysIn w.params t.2)) (i : Nat) {t : (PySem.W.Frag → Addr) × List Str} (h : ts[i]? = some t) : ∃ es n, KDict K w (t.1 K) es n := by
  have e2 : (ts.map fun t => He.dicW K (t.1 K))[i]? = (ts.map fun t => some (He.keysIn w.params t.2))[i]? := by rw [c]
  rw [List.getElem?_map, List.getElem?_map, h] at e2
  exact He.dicW_ok (Option.some.inj e2)
/-! ### what a reader is made of -/
theorem nk1 : ¬ (Str.ofString "sight") = Str.ofString "order" := by decide +kernel
theorem nk2 : ¬ (Str.ofString "sight") = Str.ofString "further" := by decide +kernel
theorem nk3 : ¬ (Str.ofString "sight") = Str.ofString "finish" := by decide +kernel
theorem nk4 : ¬ (Str.ofString "order") = Str.ofString "further" := by decide +kernel
theorem nk5 : ¬ (Str.ofString "order") = Str.ofString "finish" := by decide +kernel
theorem nk6 : ¬ (Str.ofString "further") = Str.ofString "finish" := by decide +kernel
structure Cares where
  si : Str
  od : Str
  fu : Str
  fi : Str
def caresL (c : Cares) : List (Str × Str) := [(Str.ofString "sight", c.si), (Str.ofString "order", c.od), (Str.ofString "further", c.fu), (Str.ofString "finish", c.fi)]
def caresK (c : Cares) : List (Key × V) := (caresL c).map fun q => (Sum.inr q.1, V.str q.2)
theorem keyN {a b : Str} (h : ¬ a = b) : ¬ (Sum.inr a : Key) = Sum.inr b := fun e => h (Sum.inr.inj e)
theorem cares_merge (c : Cares) : mergeK [] (caresK c) = caresK c := by
  have a1 : putK ([] : List (Key × V)) (Sum.inr (Str.ofString "sight")) (.str c.si) = [(Sum.inr (Str.ofString "sight"), .str c.si)] := putK_new _ rfl
  have a2 : putK [((Sum.inr (Str.ofString "sight") : Key), V.str c.si)] (Sum.inr (Str.ofString "order")) (.str c.od) = [(Sum.inr (Str.ofString "sight"), .str c.si), (Sum.inr (Str.ofString "order"), .str c.od)] :=
    putK_new _ (by rw [valV_neg (keyN nk1)]; rfl)
  have a3 : putK [((Sum.inr (Str.ofString "sight") : Key), V.str c.si), (Sum.inr (Str.ofString "order"), .str c.od)] (Sum.inr (Str.ofString "further")) (.str c.fu) = [(Sum.inr (Str.ofString "sight"), .str c.si), (Sum.inr (Str.ofString "order"), .str c.od), (Sum.inr (Str.ofString "further"), .str c.fu)] :=
    putK_new _ (by rw [valV_neg (keyN nk2), valV_neg (keyN nk4)]; rfl)
  have a4 : putK [((Sum.inr (Str.ofString "sight") : Key), V.str c.si), (Sum.inr (Str.ofString "order"), .str c.od), (Sum.inr (Str.ofString "further"), .str c.fu)] (Sum.inr (Str.ofString "finish")) (.str c.fi) = caresK c :=
    putK_new _ (by rw [valV_neg (keyN nk3), valV_neg (keyN nk5), valV_neg (keyN nk6)]; rfl)
  unfold mergeK
  unfold caresK caresL at *
  simp only [List.map_cons, List.map_nil, List.foldl_cons, List.foldl_nil]
  rw [a1, a2, a3, a4]
  rfl
def SightOk (z v : Str) : Prop := v = Str.ofString "whole" ∨ v = Str.ofString "start" ∨ (Over z v ∧ v.length = 1)
def CareOk (z nm v : Str) : Prop := (nm = Str.ofString "sight" ∧ SightOk z v) ∨ (nm = Str.ofString "order" ∧ (v = Str.ofString "inner" ∨ v = Str.ofString "outer")) ∨
  (nm = Str.ofString "further" ∧ (v = Str.ofString "refuse" ∨ v = Str.ofString "close")) ∨ (nm = Str.ofString "finish" ∧ (v = Str.ofString "refuse" ∨ v = Str.ofString "close"))
structure CaresOk (z : Str) (c : Cares) : Prop where
  all : ∀ q ∈ caresL c, CareOk z q.1 q.2
theorem CareOk.len {z nm v : Str} (h : CareOk z nm v) : v.length ≤ 10 := by
  have e : (Str.ofString "whole").length = 5 ∧ (Str.ofString "start").length = 5 ∧ (Str.ofString "inner").length = 5 ∧ (Str.ofString "outer").length = 5 ∧ (Str.ofString "refuse").length = 6 ∧ (Str.ofString "close").length = 5 := by decide +kernel
  rcases h with ⟨_, rfl | rfl | ⟨_, h⟩⟩ | ⟨_, rfl | rfl⟩ | ⟨_, rfl | rfl⟩ | ⟨_, rfl | rfl⟩ <;> omega
def rflds (z : Str) (ma : Addr) (tl : Str) (ca : Addr) : List (Str × V) := putF "_cares" (.ref ca) (putF "_tail" (.str tl) (putF "_marks" (.ref ma) (putF "_signs" (.str z) [])))
theorem rn1 : ¬ (Str.ofString "_signs") = Str.ofString "_marks" := by decide +kernel
theorem rn2 : ¬ (Str.ofString "_signs") = Str.ofString "_tail" := by decide +kernel
theorem rn3 : ¬ (Str.ofString "_signs") = Str.ofString "_cares" := by decide +kernel
theorem rn4 : ¬ (Str.ofString "_marks") = Str.ofString "_tail" := by decide +kernel
theorem rn5 : ¬ (Str.ofString "_marks") = Str.ofString "_cares" := by decide +kernel
theorem rn6 : ¬ (Str.ofString "_tail") = Str.ofString "_cares" := by decide +kernel
theorem rflds_signs (z : Str) (ma : Addr) (tl : Str) (ca : Addr) : (rflds z ma tl ca).lookup (Str.ofString "_signs") = some (.str z) := by
  unfold rflds
  rw [lookup_putF, if_neg rn3, lookup_putF, if_neg rn2, lookup_putF, if_neg rn1, lookup_putF, if_pos rfl]
theorem rflds_marks (z : Str) (ma : Addr) (tl : Str) (ca : Addr) : (rflds z ma tl ca).lookup (Str.ofString "_marks") = some (.ref ma) := by
  unfold rflds
  rw [lookup_putF, if_neg rn5, lookup_putF, if_neg rn4, lookup_putF, if_pos rfl]
theorem rflds_tail (z : Str) (ma : Addr) (tl : Str) (ca : Addr) : (rflds z ma tl ca).lookup (Str.ofString "_tail") = some (.str tl) := by
  unfold rflds
  rw [lookup_putF, if_neg rn6, lookup_putF, if_pos rfl]
theorem rflds_cares (z : Str) (ma : Addr) (tl : Str) (ca : Addr) : (rflds z ma tl ca).lookup (Str.ofString "_cares") = some (.ref ca) := by
  unfold rflds
  rw [lookup_putF, if_pos rfl]
theorem rflds_no (z : Str) (ma : Addr) (tl : Str) (ca : Addr) {m : Str} (h1 : ¬ m = Str.ofString "_cares") (h2 : ¬ m = Str.ofString "_tail") (h3 : ¬ m = Str.ofString "_marks") (h4 : ¬ m = Str.ofString "_signs") : (rflds z ma tl ca).lookup m = none := by
  unfold rflds
  rw [lookup_putF, if_neg h1, lookup_putF, if_neg h2, lookup_putF, if_neg h3, lookup_putF, if_neg h4]
  rfl
theorem two_len' (z : Str) (M : Addr) : (putF "_marks" (.ref M) (putF "_signs" (.str z) [])).length < 1000 := by
  show (if Str.ofString "_signs" = Str.ofString "_marks" then [(Str.ofString "_signs", V.ref M)] else (Str.ofString "_signs", V.str z) :: putF (Str.ofString "_marks") (.ref M) []).length < 1000
  rw [if_neg rn1]
  show 2 < 1000
  decide
theorem rn7 : (Str.ofString "_signs" = Str.ofString "_tail") = False := eq_false rn2
theorem three_len' (z : Str) (M : Addr) (tl : Str) : (putF "_tail" (.str tl) (putF "_marks" (.ref M) (putF "_signs" (.str z) []))).length < 1000 := by
  have e1 : putF "_marks" (.ref M) (putF "_signs" (.str z) []) = [(Str.ofString "_signs", V.str z), (Str.ofString "_marks", V.ref M)] := by
    show (if Str.ofString "_signs" = Str.ofString "_marks" then [(Str.ofString "_signs", V.ref M)] else (Str.ofString "_signs", V.str z) :: putF (Str.ofString "_marks") (.ref M) []) = _
    rw [if_neg rn1]
    rfl
  rw [e1]
  show (if Str.ofString "_signs" = Str.ofString "_tail" then (Str.ofString "_signs", V.str tl) :: [(Str.ofString "_marks", V.ref M)] else (Str.ofString "_signs", V.str z) :: (if Str.ofString "_marks" = Str.ofString "_tail" then [(Str.ofString "_marks", V.str tl)] else (Str.ofString "_marks", V.ref M) :: putF (Str.ofString "_tail") (.str tl) [])).length < 1000
  rw [if_neg rn2, if_neg rn4]
  show 3 < 1000
  decide
theorem rm1 : ¬ (Str.ofString "_role_line") = Str.ofString "_cares" := by decide +kernel
theorem rm2 : ¬ (Str.ofString "_role_line") = Str.ofString "_tail" := by decide +kernel
theorem rm3 : ¬ (Str.ofString "_role_line") = Str.ofString "_marks" := by decide +kernel
theorem rm4 : ¬ (Str.ofString "_role_line") = Str.ofString "_signs" := by decide +kernel
theorem cares_self {K : PySem.W.Frag} {H : Hp} (c : Cares) : ∀ e ∈ caresK c, ∃ u, valV (caresK c) e.1 = some u ∧ EqV K H 1 e.2 u := by
  intro e he
  have hs : ∀ x : Str, EqV K H 1 (.str x) (.str x) := fun x => .inl ⟨rfl, rfl⟩
  simp only [caresK, caresL, List.map_cons, List.map_nil, List.mem_cons, List.mem_nil_iff, or_false] at he
  rcases he with rfl | rfl | rfl | rfl
  · exact ⟨_, valV_pos rfl, hs _⟩
  · refine ⟨.str c.od, ?_, hs _⟩
    show valV (_ :: _) _ = _
    rw [valV_neg (keyN nk1)]
    exact valV_pos rfl
  · refine ⟨.str c.fu, ?_, hs _⟩
    show valV (_ :: _ :: _) _ = _
    rw [valV_neg (keyN nk2), valV_neg (keyN nk4)]
    exact valV_pos rfl
  · refine ⟨.str c.fi, ?_, hs _⟩
    show valV (_ :: _ :: _ :: _) _ = _
    rw [valV_neg (keyN nk3), valV_neg (keyN nk5), valV_neg (keyN nk6)]
    exact valV_pos rfl
def ReaderAt (C : Addr) (H : Hp) (p : Addr) (z : Str) (ms : List Str) (tl : Str) (c : Cares) : Prop := ∃ (dx ma ca : Addr), H p = some (.ins C dx (rflds z ma tl ca)) ∧ H ma = some (.lst (ms.map V.str)) ∧ H ca = some (.dK (caresK c))
theorem ReaderAt.same {C : Addr} {H H' : Hp} {p : Addr} {z : Str} {ms : List Str} {tl : Str} {c : Cares} (h : ReaderAt C H p z ms tl c) (s : Same H H') : ReaderAt C H' p z ms tl c := by
  obtain ⟨dx, ma, ca, h1, h2, h3⟩ := h
  exact ⟨dx, ma, ca, s _ _ h1, s _ _ h2, s _ _ h3⟩
structure MarksOk (z : Str) (ms : List Str) : Prop where
  lo : 1 ≤ ms.length
  hi : ms.length ≤ 3
  ov : ∀ m ∈ ms, Over z m
  l1 : ∀ m ∈ ms, 1 ≤ m.length
  l2 : ∀ m ∈ ms, m.length ≤ 12
  nd : ms.Nodup
structure TailOk (z tl : Str) : Prop where
  ov : Over z tl
  l1 : 1 ≤ tl.length
  l2 : tl.length ≤ 3
/-- what is needed of the class Reader -/
structure RdTxt (K : PySem.W.Frag) (mg : Str → Option Value) (C : Addr) : Prop where
  cl : Cls K C
  nS : NoAttr K C "_signs"
  nM : NoAttr K C "_marks"
  nT : NoAttr K C "_tail"
  nC : NoAttr K C "_cares"
  mgC : mg "Reader" = some (.ref C)
/-- the words of the module -/
structure WordsT (K : PySem.W.Frag) (w : World) (mg : Str → Option Value) : Prop where
  si : ∃ a, mg "SIGHTS" = some (.ref a) ∧ SqW K a [.str (Str.ofString "whole"), .str (Str.ofString "start")]
  ca : ∃ a, mg "CARE_WORDS" = some (.ref a) ∧ (∃ b, KDct K w a (Str.ofString "order") (.ref b) ∧ SqW K b [.str (Str.ofString "inner"), .str (Str.ofString "outer")]) ∧
    (∃ b, KDct K w a (Str.ofString "further") (.ref b) ∧ SqW K b [.str (Str.ofString "refuse"), .str (Str.ofString "close")]) ∧
    (∃ b, KDct K w a (Str.ofString "finish") (.ref b) ∧ SqW K b [.str (Str.ofString "refuse"), .str (Str.ofString "close")])
def spWord (K : PySem.W.Frag) : Sp := fun vs H Q _ => ∃ (v : Str) (a : Addr) (xs : List V), vs = [.str v, .ref a] ∧ SqT K H a xs ∧ xs.all flatV = true ∧ Q (.bl (inV (.str v) xs)) H
def spIsMark : Sp := fun vs H Q _ => ∃ (z m : Str), vs = [.str z, .str m] ∧ Over z m ∧ 1 ≤ m.length ∧ m.length ≤ 12 ∧ Q (.bl true) H
def spCheckMarks : Sp := fun vs H Q _ => ∃ (z : Str) (a : Addr) (ms : List Str), vs = [.str z, .ref a, .int 3] ∧ H a = some (.lst (ms.map V.str)) ∧ MarksOk z ms ∧ ∀ H', Same H H' → Q .non H'
def spIsSight : Sp := fun vs H Q _ => ∃ (z v : Str), vs = [.str z, .str v] ∧ SightOk z v ∧ v.length ≤ 10 ∧ Q (.bl true) H
def spTailB : Sp := fun vs H Q _ => ∃ (z tl : Str), vs = [.str z, .str tl] ∧ TailOk z tl ∧ Q (.bl true) H
def spCheckTail : Sp := fun vs H Q _ => ∃ (z tl : Str), vs = [.str z, .str tl] ∧ TailOk z tl ∧ Q .non H
def spCheckCare : Sp := fun vs H Q _ => ∃ (z nm v : Str), vs = [.str z, .str nm, .str v] ∧ CareOk z nm v ∧ Q .non H
def spRInit (C : Addr) : Sp := fun vs H Q _ => ∃ (p dx : Addr) (z : Str) (a : Addr) (ms : List Str) (tl : Str) (c : Cares), vs = [.ref p, .str z, .ref a, .str tl, .str c.si, .str c.od, .str c.fu, .str c.fi] ∧ H p = some (.ins C dx []) ∧ Abc z ∧
  H a = some (.lst (ms.map V.str)) ∧ MarksOk z ms ∧ TailOk z tl ∧ CaresOk z c ∧ ∀ H', ReaderAt C H' p z ms tl c → But p H H' → Q .non H'
end FL
namespace FL
open PySem PySem.Spec PyProof.Rows L2 FL
/-! ### the hook over a written list of addresses: the part K of the heap is small, and no growing is run -/
def hookA (as : List Addr) (ds : List DA) (ex : PySem.W.Frag → Bool) (ts : Tbs) : PySem.W.Hook where
  α := (Bool × List He.FnV) × List (Option (List (Option (Str × Int))))
  obs := fun s => (lookF ds ex (He.frG s.heap.get? as), ts.map fun t => He.dicW (He.frG s.heap.get? as) (t.1 (He.frG s.heap.get? as)))
  val := fun w => (dueF ds, ts.map fun t => some (He.keysIn w.params t.2))
  says := fun w h => ∃ K : PySem.W.Frag, K.In h ∧ lookF ds ex K = dueF ds ∧ (ts.map fun t => He.dicW K (t.1 K)) = ts.map fun t => some (He.keysIn w.params t.2)
  of := fun _ _ e => ⟨_, He.frG_in, congrArg Prod.fst e, congrArg Prod.snd e⟩
  keeps := fun _ _ _ ⟨K, i, c⟩ k => ⟨K, PySem.W.Frag.In.keeps i k, c⟩
def obA (as : List Addr) (ds : List DA) (ex : PySem.W.Frag → Bool) (ts : Tbs) (g : Addr → Option Obj) : (Bool × List He.FnV) × List (Option (List (Option (Str × Int)))) :=
  (lookF ds ex (He.frG g as), ts.map fun t => He.dicW (He.frG g as) (t.1 (He.frG g as)))
theorem obA_eq {as : List Addr} {ds : List DA} {ex : PySem.W.Frag → Bool} {ts : Tbs} (s : PySem.W.SharedT) : obA as ds ex ts (HandSHeadRun.getT s) = (hookA as ds ex ts).obs s.abs := by
  have e : HandSHeadRun.getT s = s.abs.heap.get? := funext fun a => HandSHeadRun.getT_eq s a
  rw [e]
  rfl
end FL
namespace FL
open PySem PySem.Spec PyProof.Rows L2 FL
/-! ### a def with keyword-only defaults, called without them -/
def kwOk (K : PySem.W.Frag) (a : Addr) (kws : List (Str × V)) : Bool := match K.lookup a with
  | some ⟨_, _, .func fd, _⟩ => He.kwdB K fd.kwdefaults kws
  | _ => false
theorem funD_of {K : PySem.W.Frag} {x qual : Str} {st : Stmt} {f : Addr} {fd : FuncData} {kws : List (Str × V)} (F : Fun K x qual st f fd) (c : kwOk K f kws = true) : FunD K x qual (defArgs st) (defBody st) (defScope st) [] kws f fd := by
  obtain ⟨oc, od, kV, doc, pm, an, cdv, ct, osl, e, lk, hcd⟩ := F.ex
  refine ⟨⟨oc, od, .none, kV, doc, pm, an, cdv, ct, osl, e, lk, hcd, .inl ⟨rfl, rfl⟩, ?_⟩, F.kp⟩
  unfold kwOk at c
  rw [lk, e] at c
  exact He.kwdB_ok c
end FL
namespace FL
open PySem PySem.Spec PyProof.Rows L2
/-! ### what stays where only the pot changes -/
theorem But.rules {p : Addr} {H H' : Hp} {xs : List V} {rs : List Rule} (b : But p H H') (hp : PotAt H p) (h : RulesAt H xs rs) : RulesAt H' xs rs := RulesAt.imp h (b.tups hp)
theorem pot_list {H : Hp} {p : Addr} {xs : List V} {rs : List Rule} (hp : PotAt H p) (h : H p = some (.lst xs)) (r : RulesAt H xs rs) : False := by
  obtain ⟨a, b, e, _⟩ := hp
  rw [e] at h
  cases h
  cases r with
  | cons x _ =>
    obtain ⟨t, q, _⟩ := x
    cases q
theorem But.sqR {K : PySem.W.Frag} {p D : Addr} {H H' : Hp} {xs : List V} {rs : List Rule} (b : But p H H') (hp : PotAt H p) (h : SqL K H D xs) (r : RulesAt H xs rs) : SqL K H' D xs := by
  rcases h with (h | ⟨o, h⟩) | h
  · refine .inl (.inl (b _ _ h fun e => ?_))
    subst e
    exact pot_list hp h r
  · refine .inl (.inr ⟨o, b _ _ h fun e => ?_⟩)
    obtain ⟨_, _, q, _⟩ := hp
    rw [e, q] at h
    cases h
  · exact .inr h
theorem Deal.but {K : PySem.W.Frag} {H H' : Hp} {D p : Addr} {z : Str} {rs : List Rule} (d : Deal K H D z rs) (hp : PotAt H p) (b : But p H H') : Deal K H' D z rs := by
  obtain ⟨xs, h1, h2⟩ := d.ex
  exact ⟨d.az, ⟨xs, b _ _ h1 (fun e => by subst e; exact pot_list hp h1 h2), b.rules hp h2⟩, d.ok, d.le⟩
theorem RelayAt.but {C : Addr} {H H' : Hp} {p q : Addr} {z : Str} {rs : List Rule} (h : RelayAt C H p z rs) (hq : PotAt H q) (b : But q H H') : RelayAt C H' p z rs := by
  obtain ⟨dx, ra, ia, xs, h1, h2, h3, kvs, h4, h5, h6⟩ := h
  obtain ⟨_, _, e, _⟩ := id hq
  have n : ∀ {c : Addr} {o : HO}, H c = some o → (∀ l, o ≠ .lst l) → c ≠ q := fun {c o} ec no q' => by
    rw [q', e] at ec
    exact no _ (Option.some.inj ec).symm
  refine ⟨dx, ra, ia, xs, b _ _ h1 (n h1 fun l z => by cases z), b _ _ h2 (fun q' => ?_), b.rules hq h3, kvs, b _ _ h4 (n h4 fun l z => by cases z), h5, h6.imp (b.tups hq)⟩
  subst q'
  exact pot_list hq h2 h3
theorem Same.pot {H H' : Hp} {p : Addr} (s : Same H H') (h : PotAt H p) : PotAt H' p := by
  obtain ⟨a, b, e, r⟩ := h
  exact ⟨a, b, s _ _ e, r⟩
/-! ### turned lines -/
theorem turn_note {z : Str} {b : Nat} : ∀ {rs : List Rule} {y : Str}, (∀ r ∈ rs, RuleOk z b r) → Over z y → Over z (turn rs y) ∧ (turn rs y).length ≤ y.length + b
  | [], y, _, o => ⟨o, Nat.le_add_right _ _⟩
  | r :: rs, y, h, o => by
    have hr := h r List.mem_cons_self
    show Over z (if fits r y = true then turnR r y else turn rs y) ∧ (if fits r y = true then turnR r y else turn rs y).length ≤ _
    by_cases hf : fits r y = true
    · rw [if_pos hf]
      obtain ⟨f, ol, nw⟩ := r
      cases f with
      | true =>
        show Over z (nw ++ cutS y (some (ol.length : Int)) none) ∧ (nw ++ cutS y (some (ol.length : Int)) none).length ≤ _
        refine ⟨over_app hr.n1 (over_cut o _ _), ?_⟩
        rw [len_app]
        have := cutS_length y (some (ol.length : Int)) none
        have h2 : nw.length ≤ b := hr.n2
        omega
      | false => exact ⟨hr.n1, Nat.le_trans hr.n2 (Nat.le_add_left _ _)⟩
    · rw [if_neg hf]
      exact turn_note (fun r' hr' => h r' (List.mem_cons_of_mem _ hr')) o
def spTurns (K : PySem.W.Frag) (C : Addr) : Sp := fun vs H Q _ => ∃ (q : Addr) (z : Str) (D p : Addr) (rs : List Rule), vs = [.ref q, .str z, .ref D, .ref p] ∧ PotAt H q ∧ Deal K H D z rs ∧ RelayAt C H p z rs ∧
  ∀ H', PotAt H' q → But q H H' → Q (.bl true) H'
/-- a line of the signs that is not too long -/
def Ln (z y : Str) : Prop := Over z y ∧ y.length ≤ 3000
theorem three_sm {z y : Str} (az : Abc z) (o : Over z y) (l : y.length ≤ 5000) : Sm 400000 (.list [.str y, .str y, .str y]) := by
  have s := (Sm.str (az.plain o)).mono (show 10 * y.length + 2 ≤ 50002 by omega)
  exact (Sm.list (k := 0) (SmL.cons s (Nat.le_refl _) (SmL.cons s (Nat.le_refl _) (SmL.cons s (Nat.le_refl _) SmL.nil))) (by decide)).mono (by decide)
end FL
namespace FL
open PySem PySem.Spec PyProof.Rows L2
theorem snoc_of {α : Type} : ∀ {l : List α}, 0 < l.length → ∃ i x, l = i ++ [x]
  | [], h => absurd h (Nat.lt_irrefl 0)
  | a :: r, _ => by
    cases r with
    | nil => exact ⟨[], a, rfl⟩
    | cons b r =>
      obtain ⟨i, x, e⟩ := snoc_of (l := b :: r) (Nat.succ_pos _)
      exact ⟨a :: i, x, by rw [e]; rfl⟩
theorem atI_0 {α : Type} {a b : α} {r : List α} : atI (a :: b :: r) 0 = some a := atI_nat (j := 0) rfl
theorem atI_1 {α : Type} {a b : α} {r : List α} : atI (a :: b :: r) 1 = some b := atI_nat (j := 1) rfl
theorem two_signs {z : Str} (h : 2 ≤ z.length) : ∃ a b r, z.cps.toList = a :: b :: r := by
  rw [str_len] at h
  cases e : z.cps.toList with
  | nil =>
    rw [e] at h
    exact absurd h (by decide)
  | cons a l =>
    cases l with
    | nil =>
      rw [e] at h
      simp at h
    | cons b r => exact ⟨a, b, r, rfl⟩
theorem over_rep {z : Str} {c n : Nat} (h : c ∈ z.cps.toList) : Over z (repS ⟨#[c]⟩ n) := fun d hd => by
  have := repS_mem hd
  have e : d = c := by simpa using this
  rw [e]
  exact h
theorem rep_len (c n : Nat) : (repS ⟨#[c]⟩ n).length = n := by
  rw [repS_len]
  show n * 1 = n
  exact Nat.mul_one n
end FL
namespace FL
open PySem PySem.Spec PyProof.Rows L2
/-! ### rules that are hidden -/
theorem cut_pre (y : Str) (n : Nat) : (cutS y none (some (n : Int))).cps.toList = y.cps.toList.take n := by
  show ((y.cps.toList.drop (HT.sIx y.length 0 none)).take (HT.sIx y.length y.length (some (n : Int)) - HT.sIx y.length 0 none)).toArray.toList = _
  rw [HT.sIx_nat, HT.sIx_none]
  show (y.cps.toList.drop 0).take (min n y.length - 0) = _
  rw [List.drop_zero, Nat.sub_zero, str_len]
  by_cases h : n ≤ y.cps.toList.length
  · rw [Nat.min_eq_left h]
  · rw [Nat.min_eq_right (by omega), List.take_of_length_le (Nat.le_refl _), List.take_of_length_le (by omega)]
theorem pre_iff {y b : Str} : cutS y none (some (b.length : Int)) = b ↔ y.cps.toList.take b.cps.toList.length = b.cps.toList := by
  rw [← str_len]
  constructor
  · intro h
    rw [← cut_pre, h]
  · intro h
    apply Str_ext
    rw [cut_pre, h]
/-- an earlier rule says all that this one says -/
def hides (e r : Rule) : Bool := (e.fr && decide (cutS r.old none (some (e.old.length : Int)) = e.old)) || (decide (e.fr = r.fr) && decide (e.old = r.old))
theorem pre_trans {y o b : Str} (h1 : cutS o none (some (b.length : Int)) = b) (h2 : cutS y none (some (o.length : Int)) = o) : cutS y none (some (b.length : Int)) = b := by
  rw [pre_iff] at h1 h2 ⊢
  have l := congrArg List.length h1
  rw [List.length_take] at l
  rw [← h2, List.take_take, Nat.min_eq_left (by omega)] at h1
  exact h1
theorem hides_fits {e r : Rule} {y : Str} (h : hides e r = true) (hf : fits r y = true) : fits e y = true := by
  unfold hides at h
  rcases Bool.or_eq_true_iff.mp h with h | h
  · obtain ⟨h1, h2⟩ := Bool.and_eq_true_iff.mp h
    have h3 := of_decide_eq_true h2
    clear h2
    obtain ⟨f, o, n⟩ := e
    obtain ⟨f', o', n'⟩ := r
    dsimp only at h1 h3
    subst h1
    show decide (cutS y none (some (o.length : Int)) = o) = true
    apply decide_eq_true
    cases f' with
    | true => exact pre_trans h3 (of_decide_eq_true hf)
    | false =>
      have e' : y = o' := of_decide_eq_true hf
      rw [e']
      exact h3
  · obtain ⟨h1, h2⟩ := Bool.and_eq_true_iff.mp h
    rw [fits_same (r := r) ⟨of_decide_eq_true h1, of_decide_eq_true h2⟩]
    exact hf
theorem turn_fit : ∀ {l s : List Rule} {y : Str}, (∃ r ∈ l, fits r y = true) → turn (l ++ s) y = turn l y
  | [], _, _, ⟨_, h, _⟩ => nomatch h
  | a :: l, s, y, ⟨r, hr, hf⟩ => by
    show (if fits a y = true then _ else turn (l ++ s) y) = (if fits a y = true then _ else turn l y)
    by_cases ha : fits a y = true
    · rw [if_pos ha, if_pos ha]
    · rw [if_neg ha, if_neg ha]
      rcases List.mem_cons.mp hr with rfl | h
      · exact absurd hf ha
      · exact turn_fit ⟨r, h, hf⟩
theorem turn_none : ∀ {l s : List Rule} {y : Str}, (∀ r ∈ l, fits r y = false) → turn (l ++ s) y = turn s y
  | [], _, _, _ => rfl
  | a :: l, s, y, h => by
    show (if fits a y = true then _ else turn (l ++ s) y) = _
    rw [h a List.mem_cons_self, if_neg Bool.false_ne_true]
    exact turn_none fun r hr => h r (List.mem_cons_of_mem _ hr)
theorem fit_or (l : List Rule) (y : Str) : (∃ r ∈ l, fits r y = true) ∨ ∀ r ∈ l, fits r y = false := by
  rcases exists_first (rs := l) (y := y) with h | ⟨i, r, h1, h2, _⟩
  · exact .inr h
  · exact .inl ⟨r, List.mem_of_getElem? h1, h2⟩
theorem turn_skip {l t : List Rule} {r : Rule} (h : l.any (fun e => hides e r) = true) (y : Str) : turn (l ++ r :: t) y = turn (l ++ t) y := by
  obtain ⟨e, he, hh⟩ := List.any_eq_true.mp h
  rcases fit_or l y with hl | hl
  · rw [turn_fit hl, turn_fit hl]
  · rw [turn_none hl, turn_none hl]
    have : fits r y = false := by
      cases q : fits r y with
      | false => rfl
      | true =>
        have := hides_fits hh q
        rw [hl e he] at this
        cases this
    show (if fits r y = true then _ else turn t y) = _
    rw [this, if_neg Bool.false_ne_true]
theorem turn_again {l t : List Rule} (h : ∀ r ∈ t, r ∈ l) (y : Str) : turn (l ++ t) y = turn l y := by
  rcases fit_or l y with hl | hl
  · exact turn_fit hl
  · rw [turn_none hl, turn_no hl, turn_no fun r hr => hl r (h r hr)]
theorem turn_void {l : List Rule} (y : Str) : turn (l ++ [⟨true, Str.ofString "", Str.ofString ""⟩]) y = turn l y := by
  rcases fit_or l y with hl | hl
  · exact turn_fit hl
  · rw [turn_none hl, turn_no hl]
    have e0 : (Str.ofString "").cps.toList = [] := by decide +kernel
    have l0 : (Str.ofString "").length = 0 := by decide +kernel
    have hf : fits ⟨true, Str.ofString "", Str.ofString ""⟩ y = true := by
      show decide (cutS y none (some ((Str.ofString "").length : Int)) = Str.ofString "") = true
      exact decide_eq_true (pre_iff.mpr (by rw [e0]; rfl))
    show (if fits ⟨true, Str.ofString "", Str.ofString ""⟩ y = true then Str.ofString "" ++ cutS y (some ((Str.ofString "").length : Int)) none else y) = y
    rw [if_pos hf, l0]
    apply Str_ext
    rw [Str.cps_append, Array.toList_append, e0]
    show ((y.cps.toList.drop (HT.sIx y.length 0 (some ((0 : Nat) : Int)))).take (HT.sIx y.length y.length none - HT.sIx y.length 0 (some ((0 : Nat) : Int)))).toArray.toList = _
    rw [HT.sIx_nat, HT.sIx_none, Nat.zero_min, Nat.sub_zero, List.drop_zero, List.take_of_length_le (by rw [← str_len]; exact Nat.le_refl _)]
theorem eqv_key (a b : Rule) : PyData.eqv (.tuple [.str (kd a.fr), .str a.old]) (.tuple [.str (kd b.fr), .str b.old]) = (decide (a.fr = b.fr) && decide (a.old = b.old)) := by
  obtain ⟨f, o, n⟩ := a
  obtain ⟨f', o', n'⟩ := b
  show ((kd f == kd f') && ((o == o') && true)) = _
  rw [Bool.and_true]
  have e1 : (kd f == kd f') = decide (f = f') := by
    by_cases h : f = f'
    · subst h
      simp
    · rw [decide_eq_false h]
      have : kd f ≠ kd f' := by
        cases f <;> cases f' <;> first | exact absurd rfl h | exact kd_ne | exact Ne.symm kd_ne
      simpa using this
  have e2 : (o == o') = decide (o = o') := by
    by_cases h : o = o'
    · subst h
      simp
    · rw [decide_eq_false h]
      simpa using h
  rw [e1, e2]
theorem pick_rules {H : Hp} {xs : List V} {rs : List Rule} (h : RulesAt H xs rs) : ∀ {ys : List V}, (∀ y ∈ ys, y ∈ xs) → ∃ ts, RulesAt H ys ts ∧ ∀ t ∈ ts, t ∈ rs
  | [], _ => ⟨[], .nil, fun _ q => nomatch q⟩
  | y :: ys, m => by
    obtain ⟨ts, h1, h2⟩ := pick_rules h (ys := ys) fun v hv => m v (List.mem_cons_of_mem _ hv)
    obtain ⟨t, ht, hr⟩ := paired_mem h (m y List.mem_cons_self)
    refine ⟨t :: ts, .cons hr h1, fun u hu => ?_⟩
    rcases List.mem_cons.mp hu with rfl | hu
    · exact ht
    · exact h2 u hu
theorem paired_app {α β : Type} {R : α → β → Prop} : ∀ {xs zs : List α} {ys ws : List β}, Paired R xs ys → Paired R zs ws → Paired R (xs ++ zs) (ys ++ ws)
  | _, _, _, _, .nil, h => h
  | _, _, _, _, .cons a b, h => .cons a (paired_app b h)
/-! ### a call of an instance, its reading without the context -/
def tCallP (C : Addr) (sp : Sp) (tf : TE) (t : TA) : TE := fun σ H Q => tf σ H fun y H1 => ∃ a, y = V.ref a ∧ t σ H1 fun vs H2 => (∃ dx fs, H2 a = some (.ins C dx fs)) ∧ sp (V.ref a :: vs) H2 Q E0
theorem pe_callP {X : Cx} {C g : Addr} {fd : FuncData} {ps : List Str} {sp : Sp} {k : Nat} {fe e : Expr} {es : List Expr} {pos : Pos} {tf : TE} {t : TA} (hf : PE X fe tf) (c : StX.CallO X.K C g) (F : FnOk X.prog X.w X.K X.mg X.base CX0 k g fd ps sp)
    (hb : Binds X.K fd ps []) (hr : Room k X.A) (ha : PA X (e :: es) t)
    (ht : eval (.Call fe (e :: es) [] pos) X.env = (do callWith pos (← eval fe X.env) [] (backTo pos (starEach (e :: es) X.env)) (backToKw pos (keywordEach [] X.env))) := by rfl)
    (he : starEach (e :: es) X.env = (false, eval e X.env) :: starEach es X.env := by rfl) (hpl : (backTo pos (starEach es X.env)).any (·.1) = false := by rfl) : PE X (.Call fe (e :: es) [] pos) (tCallP C sp tf t) := by
  have G := F.raw hb .nil
  refine ⟨fun pins s σ H Q I h => ?_⟩
  rw [ht]
  refine wpAny_bind (thn (hf.run pins s σ H _ I h) fun u s1 hu => ?_)
  obtain ⟨y, H1, I1, ry, a, ey, q⟩ := hu
  subst ey
  obtain rfl : u = Value.ref a := ry
  refine StX.callO_with (thn (ha.run pos pins s1 σ H1 _ I1 q) fun us s2 hw => ?_) he hpl
  obtain ⟨vs, H2, I2, r, ⟨dx, fs, ea⟩, q2⟩ := hw
  obtain ⟨ox, od, J, hd⟩ := StX.insC_at I2 (.inr ⟨dx, fs, ea⟩)
  refine ⟨⟨C, ox, od, J, hd⟩, StX.run_callO c G hr pass0 I2 (.inr ⟨dx, fs, ea⟩) r ?_⟩
  show sp ((V.ref a :: vs) ++ []) H2 Q E0
  rw [List.append_nil]
  exact q2
def spHidR (K : PySem.W.Frag) (C : Addr) : Sp := fun vs H Q _ => ∃ (q : Addr) (z : Str) (D p : Addr) (rs : List Rule), vs = [.ref q, .str z, .ref D, .ref p] ∧ PotAt H q ∧ Deal K H D z rs ∧ RelayAt C H p z rs ∧
  ∀ H', PotAt H' q → But q H H' → Q (.bl true) H'
end FL
namespace FL
open PySem PySem.Spec PyProof.Rows L2
theorem key_sm {f : Bool} {o : Str} (h : Plain o) (l : o.length ≤ 40) : Sm 2000 (.tuple [.str (kd f), .str o]) := by
  have a0 := Sm.str (kd_plain f)
  rw [kd_len] at a0
  exact (Sm.tuple (k := 0) (SmL.cons a0 (Nat.le_refl _) (SmL.cons ((Sm.str h).mono (show _ ≤ 500 by omega)) (Nat.le_refl _) SmL.nil)) (by decide)).mono (by decide)
theorem any_take {α : Type} {l : List α} {j : Nat} {e : α} (f : α → Bool) (h : l[j]? = some e) : (l.take (j + 1)).any f = ((l.take j).any f || f e) := by
  rw [take_snoc h, List.any_append]
  simp
theorem drop_at {α : Type} {l : List α} {i : Nat} {r : α} (h : l[i]? = some r) : l.drop i = r :: l.drop (i + 1) := by
  obtain ⟨hi, e⟩ := List.getElem?_eq_some_iff.mp h
  rw [List.drop_eq_getElem_cons hi, e]
theorem Same.tups {H H' : Hp} (s : Same H H') : ∀ t a, H t = some (.tup a) → H' t = some (.tup a) := fun t a e => s t _ e
end FL
namespace FL
open PySem PySem.Spec PyProof.Rows L2
theorem make_one {C : Addr} {H : Hp} {G : Hp → Prop} {z : Str} {v : V} {rs : List Rule} {x dx : Addr} (hz : Abc z) (ra : RuArg H v rs) (ok : ∀ r ∈ rs, RuleOk z 40 r) (l : rs.length ≤ 400) (hx : H x = none) (hd : H dx = none) (hne : dx ≠ x)
    (k : ∀ H', RelayAt C H' x z rs → Same H H' → G H') : spInit C [.ref x, .str z, v] (upd (upd H dx (.own x)) x (.ins C dx [])) (fun v H3 => v = .non ∧ G H3) E0 := by
  have s2 : Same H (upd (upd H dx (.own x)) x (.ins C dx [])) := ((Same.refl H).upd hd).upd hx
  refine ⟨x, dx, z, v, rs, rfl, upd_same, hz, ?_, ok, l, fun H' ra' rel _ b => ⟨rfl, k H' rel.at_ fun c o e => b c o (s2 c o e) (ne_of_none e hx)⟩⟩
  obtain ⟨a, xs, t, rfl, ea, hrs⟩ := ra
  exact ⟨a, xs, t, rfl, s2 _ _ ea, Same.rules s2 hrs⟩
end FL
namespace FL
open PySem PySem.Spec PyProof.Rows L2
theorem void_ok {z : Str} : RuleOk z 40 ⟨true, Str.ofString "", Str.ofString ""⟩ := by
  have e0 : (Str.ofString "").cps.toList = [] := by decide +kernel
  have l0 : (Str.ofString "").length = 0 := by decide +kernel
  have o : Over z (Str.ofString "") := fun c hc => by
    rw [e0] at hc
    cases hc
  exact ⟨o, by show (Str.ofString "").length ≤ 40; omega, o, by show (Str.ofString "").length ≤ 40; omega⟩
/-- three relays that turn each line as these rules do -/
structure Mate (C : Addr) (H : Hp) (x : Addr) (z : Str) (rs : List Rule) : Prop where
  ex : ∃ L, RelayAt C H x z L ∧ (∀ r ∈ L, r.old.length ≤ 40 ∧ r.new.length ≤ 1000) ∧ ∀ y, turn L y = turn rs y
theorem Mate.same {C : Addr} {H H' : Hp} {x : Addr} {z : Str} {rs : List Rule} (m : Mate C H x z rs) (s : Same H H') : Mate C H' x z rs := by
  obtain ⟨L, a, b, c⟩ := m.ex
  exact ⟨L, a.same s, b, c⟩
theorem ok_lens {z : Str} {rs : List Rule} (h : ∀ r ∈ rs, RuleOk z 40 r) : ∀ r ∈ rs, r.old.length ≤ 40 ∧ r.new.length ≤ 1000 := fun r hr => ⟨(h r hr).o2, Nat.le_trans (h r hr).n2 (by decide)⟩
end FL
namespace FL
open PySem PySem.Spec PyProof.Rows L2
theorem RelayAt.updL {C C' : Addr} {H : Hp} {p M a d : Addr} {f : List (Str × V)} {z : Str} {rs : List Rule} {vs ws : List V} (h : RelayAt C H p z rs) (hM : H M = some (.lst (.ref a :: vs))) (ha : H a = some (.ins C' d f)) : RelayAt C (upd H M (.lst ws)) p z rs := by
  obtain ⟨dx, ra, ia, xs, h1, h2, h3, kvs, h4, h5, h6⟩ := h
  have tp : ∀ t b, H t = some (.tup b) → upd H M (.lst ws) t = some (.tup b) := fun t b e => by
    rw [upd_ne (ne_of e hM (by intro q; cases q))]
    exact e
  refine ⟨dx, ra, ia, xs, ?_, ?_, RulesAt.imp h3 tp, kvs, ?_, h5, h6.imp tp⟩
  · rw [upd_ne (ne_of h1 hM (by intro q; cases q))]
    exact h1
  · have n : ra ≠ M := fun e => by
      subst e
      rw [hM] at h2
      cases h2
      cases h3 with
      | cons x _ =>
        obtain ⟨t, q, g⟩ := x
        cases q
        rw [ha] at g
        cases g
    rw [upd_ne n]
    exact h2
  · rw [upd_ne (ne_of h4 hM (by intro q; cases q))]
    exact h4
end FL
namespace FL
open PySem PySem.Spec PyProof.Rows L2
theorem make_oneR {C : Addr} {H : Hp} {G : Hp → Prop} {z : Str} {v : V} {rs : List Rule} {x dx : Addr} (hz : Abc z) (ra : RuArg H v rs) (ok : ∀ r ∈ rs, RuleOk z 40 r) (l : rs.length ≤ 400) (hx : H x = none) (hd : H dx = none) (hne : dx ≠ x)
    (k : ∀ (H' : Hp) (ra : Addr), RelayR C H' x z rs ra → H ra = none → Same H H' → G H') : spInit C [.ref x, .str z, v] (upd (upd H dx (.own x)) x (.ins C dx [])) (fun v H3 => v = .non ∧ G H3) E0 := by
  have s2 : Same H (upd (upd H dx (.own x)) x (.ins C dx [])) := ((Same.refl H).upd hd).upd hx
  refine ⟨x, dx, z, v, rs, rfl, upd_same, hz, ?_, ok, l, fun H' ra' rel hn b => ⟨rfl, k H' ra' rel (s2.none hn) fun c o e => b c o (s2 c o e) (ne_of_none e hx)⟩⟩
  obtain ⟨a, xs, t, rfl, ea, hrs⟩ := ra
  exact ⟨a, xs, t, rfl, s2 _ _ ea, Same.rules s2 hrs⟩
end FL
namespace FL
open PySem PySem.Spec PyProof.Rows L2
/-! ### lists of rules, gathered -/
def RL (H : Hp) (z : Str) (a : Addr) : Prop := ∃ xs rs, H a = some (.lst xs) ∧ RulesAt H xs rs ∧ (∀ r ∈ rs, RuleOk z 40 r) ∧ rs.length ≤ 400
theorem RL.same {H H' : Hp} {z : Str} {a : Addr} (h : RL H z a) (s : Same H H') : RL H' z a := by
  obtain ⟨xs, rs, h1, h2, h3, h4⟩ := h
  exact ⟨xs, rs, s _ _ h1, Same.rules s h2, h3, h4⟩
theorem RL.updS {H : Hp} {z : Str} {a S : Addr} {ss ws : List V} (h : RL H z a) (hS : H S = some (.lst ss)) (n : a ≠ S) : RL (upd H S (.lst ws)) z a := by
  obtain ⟨xs, rs, h1, h2, h3, h4⟩ := h
  refine ⟨xs, rs, by rw [upd_ne n]; exact h1, RulesAt.imp h2 fun t b e => ?_, h3, h4⟩
  rw [upd_ne (ne_of e hS (by intro q; cases q))]
  exact e
structure Sm1 (H : Hp) (S : Addr) (z : Str) (As : List Addr) : Prop where
  at_ : H S = some (.lst (As.map V.ref))
  all : ∀ a ∈ As, a ≠ S ∧ RL H z a
theorem Sm1.same {H H' : Hp} {S : Addr} {z : Str} {As : List Addr} (h : Sm1 H S z As) (s : Same H H') : Sm1 H' S z As :=
  ⟨s _ _ h.at_, fun a ha => ⟨(h.all a ha).1, (h.all a ha).2.same s⟩⟩
theorem Sm1.add {H : Hp} {S a : Addr} {z : Str} {As : List Addr} (h : Sm1 H S z As) (ha : RL H z a) (n : a ≠ S) : Sm1 (upd H S (.lst (As.map V.ref ++ [.ref a]))) S z (As ++ [a]) := by
  refine ⟨by rw [upd_same, List.map_append]; rfl, fun b hb => ?_⟩
  rcases List.mem_append.mp hb with hb | hb
  · exact ⟨(h.all b hb).1, (h.all b hb).2.updS h.at_ (h.all b hb).1⟩
  · rw [List.mem_singleton.mp hb]
    exact ⟨n, ha.updS h.at_ n⟩
theorem paired_take {α β : Type} {R : α → β → Prop} : ∀ {xs : List α} {ys : List β}, Paired R xs ys → ∀ n, Paired R (xs.take n) (ys.take n)
  | _, _, .nil, n => by rw [List.take_nil, List.take_nil]; exact .nil
  | _, _, .cons a b, 0 => .nil
  | _, _, .cons a b, n + 1 => .cons a (paired_take b n)
theorem paired_drop {α β : Type} {R : α → β → Prop} : ∀ {xs : List α} {ys : List β}, Paired R xs ys → ∀ n, Paired R (xs.drop n) (ys.drop n)
  | _, _, .nil, n => by rw [List.drop_nil, List.drop_nil]; exact .nil
  | _, _, .cons a b, 0 => .cons a b
  | _, _, .cons a b, n + 1 => paired_drop b n
theorem paired_rev {α β : Type} {R : α → β → Prop} : ∀ {xs : List α} {ys : List β}, Paired R xs ys → Paired R xs.reverse ys.reverse
  | _, _, .nil => .nil
  | _, _, .cons a b => by
    rw [List.reverse_cons, List.reverse_cons]
    exact paired_snoc (paired_rev b) a
/-- a slice of rules is one -/
theorem cut_rules {H : Hp} {xs : List V} {rs : List Rule} (h : RulesAt H xs rs) (lo hi : Option Int) : ∃ ts, RulesAt H (cutV xs lo hi) ts ∧ (∀ t ∈ ts, t ∈ rs) ∧ ts.length ≤ rs.length := by
  refine ⟨(rs.drop (HT.sIx xs.length 0 lo)).take (HT.sIx xs.length xs.length hi - HT.sIx xs.length 0 lo), paired_take (paired_drop h _) _, fun t ht => List.mem_of_mem_drop (List.mem_of_mem_take ht), ?_⟩
  rw [List.length_take, List.length_drop]
  omega
def spEqual (K : PySem.W.Frag) (C : Addr) : Sp := fun vs H Q _ => ∃ (q : Addr) (z : Str) (D p : Addr) (rs : List Rule), vs = [.ref q, .str z, .ref D, .ref p] ∧ Deal K H D z rs ∧ RelayAt C H p z rs ∧
  ∀ H', Same H H' → Q (.bl true) H'
theorem rp_ok {z : Str} {rs : List Rule} (az : Abc z) (h : ∀ r ∈ rs, RuleOk z 40 r) : RP 40 rs := fun r hr => ⟨az.plain (h r hr).o1, az.plain (h r hr).n1, (h r hr).o2, (h r hr).n2⟩
theorem bools_sm (a b c : Bool) : Sm 100 (.list [.bool a, .bool b, .bool c]) :=
  (Sm.list (k := 0) (SmL.cons (Sm.bool a) (Nat.le_refl _) (SmL.cons (Sm.bool b) (Nat.le_refl _) (SmL.cons (Sm.bool c) (Nat.le_refl _) SmL.nil))) (by decide)).mono (by decide)
end FL
namespace FL
open PySem PySem.Spec PyProof.Rows L2
theorem comp_tail {H0 Hi : Hp} {C T : Addr} {ws : List V} {ts : List Rule} {r : Rule} (sj : Same H0 Hi) (hC0 : H0 C = none) (hC : Hi C = some (.lst ws)) (hw : RulesAt Hi ws ts) (hT : Hi T = none) :
    (upd Hi T (.tup (ruleV r))) C = some (.lst ws) ∧ Same H0 (upd (upd Hi T (.tup (ruleV r))) C (.lst (ws ++ [.ref T]))) ∧ RulesAt (upd (upd Hi T (.tup (ruleV r))) C (.lst (ws ++ [.ref T]))) (ws ++ [.ref T]) (ts ++ [r]) := by
  have n : C ≠ T := ne_of_none hC hT
  refine ⟨by rw [upd_ne n]; exact hC, (sj.upd (sj.none hT)).upd hC0, paired_snoc (RulesAt.imp hw fun t a e => ?_) ⟨T, rfl, ?_⟩⟩
  · rw [upd_ne (ne_of e hC (by intro q; cases q)), upd_ne (ne_of_none e hT)]
    exact e
  · rw [upd_ne (Ne.symm n), upd_same]
theorem map_take {α β : Type} {l : List α} {i : Nat} {x : α} (f : α → β) (h : l[i]? = some x) : (l.take (i + 1)).map f = (l.take i).map f ++ [f x] := by
  rw [take_snoc h, List.map_append]
  rfl
theorem void_rule {H : Hp} {T : Addr} {f : Bool} (h : H T = some (.tup [.str (kd f), .str (Str.ofString ""), .str (Str.ofString "")])) : RuleAt H (.ref T) ⟨f, Str.ofString "", Str.ofString ""⟩ := ⟨T, rfl, h⟩
theorem void_ok2 {z : Str} {f : Bool} : RuleOk z 40 ⟨f, Str.ofString "", Str.ofString ""⟩ := ⟨(void_ok (z := z)).o1, (void_ok (z := z)).o2, (void_ok (z := z)).n1, (void_ok (z := z)).n2⟩
end FL
namespace FL
open PySem PySem.Spec PyProof.Rows L2
def flipR (r : Rule) : Rule := ⟨!r.fr, r.old, r.new⟩
def newR (c : Nat) (r : Rule) : Rule := ⟨r.fr, r.old, r.new ++ ⟨#[c]⟩⟩
def oldR (c : Nat) (r : Rule) : Rule := ⟨r.fr, r.old ++ ⟨#[c]⟩, r.new⟩
theorem flip_ok {z : Str} {rs : List Rule} (h : ∀ r ∈ rs, RuleOk z 40 r) : ∀ r ∈ rs, RuleOk z 40 (flipR r) := fun r hr => ⟨(h r hr).o1, (h r hr).o2, (h r hr).n1, (h r hr).n2⟩
theorem new_ok {z : Str} {c : Nat} (hc : c ∈ z.cps.toList) {rs : List Rule} (h : ∀ r ∈ rs, RuleOk z 30 r) : ∀ r ∈ rs, RuleOk z 40 (newR c r) := fun r hr =>
  ⟨(h r hr).o1, Nat.le_trans (h r hr).o2 (by decide), over_app (h r hr).n1 (over_one hc), by
    show (r.new ++ ⟨#[c]⟩).length ≤ 40
    rw [len_app, len_one]
    have := (h r hr).n2
    omega⟩
theorem old_ok {z : Str} {c : Nat} (hc : c ∈ z.cps.toList) {rs : List Rule} (h : ∀ r ∈ rs, RuleOk z 30 r) : ∀ r ∈ rs, RuleOk z 40 (oldR c r) := fun r hr =>
  ⟨over_app (h r hr).o1 (over_one hc), by
    show (r.old ++ ⟨#[c]⟩).length ≤ 40
    rw [len_app, len_one]
    have := (h r hr).o2
    omega, (h r hr).n1, Nat.le_trans (h r hr).n2 (by decide)⟩
end FL
namespace FL
open PySem PySem.Spec PyProof.Rows L2
theorem Deal.updL {K : PySem.W.Frag} {H : Hp} {D L : Addr} {z : Str} {rs : List Rule} {vs ws : List V} (d : Deal K H D z rs) (hL : H L = some (.lst vs)) (n : D ≠ L) : Deal K (upd H L (.lst ws)) D z rs := by
  obtain ⟨xs, h1, h2⟩ := d.ex
  refine ⟨d.az, ⟨xs, by rw [upd_ne n]; exact h1, RulesAt.imp h2 fun t b e => ?_⟩, d.ok, d.le⟩
  rw [upd_ne (ne_of e hL (by intro q; cases q))]
  exact e
def spRight : Sp := fun vs H Q _ => ∃ q : Addr, vs = [.ref q] ∧ PotAt H q ∧ ∀ H', PotAt H' q → But q H H' → Q (.bl true) H'
def spLaw (K : PySem.W.Frag) : Sp := fun vs H Q _ => ∃ (a : Addr) (ns : List Int), vs = [.ref a] ∧ SqL K H a (ns.map V.int) ∧ ns.length ≤ 63 ∧ ∀ H', Q (.bl true) H'
theorem repr_bare (z : Str) : reprR z [] = (Str.ofString "Relay(" ++ (PyData.str z).shown) ++ Str.ofString ", [])" := by
  rw [reprR_eq]
  have e : (PyData.list (([] : List Rule).map ruleD)).shown = Str.ofString "[]" := by decide +kernel
  rw [e]
  generalize Str.ofString "Relay(" ++ (PyData.str z).shown = x
  apply Str_ext
  have e2 : (Str.ofString ", ").cps.toList ++ ((Str.ofString "[]").cps.toList ++ (Str.ofString ")").cps.toList) = (Str.ofString ", [])").cps.toList := by decide +kernel
  rw [Str.cps_append, Str.cps_append, Str.cps_append, Str.cps_append, Array.toList_append, Array.toList_append, Array.toList_append, Array.toList_append, ← e2, List.append_assoc, List.append_assoc]
theorem all_true : ∀ n : Nat, (List.replicate n true).all id = true
  | 0 => rfl
  | n + 1 => by
    rw [List.replicate_succ]
    exact all_true n
end FL
namespace K68
open PySem PySem.Spec PyProof.Rows L2 FL
def topS (i : Nat) : Stmt := PySem.Challenge.pw_frontlines_k68_whole_long_messages.main.body.getD i (.Pass ⟨0, 0, 0, 0⟩)
end K68
set_option maxHeartbeats 0
namespace K68
open PySem PySem.Spec PyProof.Rows L2 FL
abbrev R : PySem.W.OpenRow := PySem.W.OpenLaw.row PySem.Challenge.rw_frontlines_k68_whole_long_messages
def gl (x : Str) (K : PySem.W.Frag) : Addr := He.ga K x
def me (m : Str) (K : PySem.W.Frag) : Addr := He.ma K (He.ga K "Reader") m
def getr (m : Str) (K : PySem.W.Frag) : Addr := match PySem.W.recIn K (me m K) "property" with
  | some (.ref g :: _) => g
  | _ => 0
/-- the tuple that the dict of words holds at a word -/
def dcV (K : PySem.W.Frag) (x : Str) : Addr := match PySem.W.nsIn K (He.ga K "CARE_WORDS") x with
  | some (some (.ref a)) => a
  | _ => 0
def dcB (K : PySem.W.Frag) (x : Str) : Bool := He.eqO (PySem.W.nsIn K (He.ga K "CARE_WORDS") x) (some (some (.ref (dcV K x))))
def dfl0 : List (Str × V) := [(Str.ofString "sight", .str (Str.ofString "whole")), (Str.ofString "order", .str (Str.ofString "inner")), (Str.ofString "further", .str (Str.ofString "refuse")), (Str.ofString "finish", .str (Str.ofString "refuse"))]
def glD (x : Str) (i : Nat) : DA := ⟨gl x, x, x, topS i⟩
def meD (m q : Str) (i : Nat) : DA := ⟨me m, m, q, inClass (topS 95) i⟩
def defs : List DA := [glD "is_integer" 21, glD "is_list" 22, glD "is_signs" 23, glD "is_line" 24, glD "check_signs" 31, glD "is_word" 40, glD "is_mark" 41, glD "check_marks" 42, glD "is_sight" 43, glD "is_tail" 44, glD "check_tail" 45, glD "check_care" 46, glD "is_level" 47, glD "check_level" 48, glD "is_role" 49, glD "check_role" 50, glD "is_tree_of" 51, glD "check_tree" 52, glD "lines_written" 87, glD "written" 88, glD "own_telling" 89, glD "check_line" 33, glD "is_seen" 76, glD "told_behind" 81, glD "line_told" 82, glD "is_finished" 83, glD "course_of" 84, glD "telling_of" 85, glD "check_message" 53, glD "telling" 90, glD "course" 91, glD "tree_read" 92, meD "__init__" "Reader.__init__" 0, ⟨getr "signs", "signs", "Reader.signs", inClass (topS 95) 1⟩, ⟨getr "depth", "depth", "Reader.depth", inClass (topS 95) 3⟩, ⟨getr "further", "further", "Reader.further", inClass (topS 95) 6⟩, ⟨getr "finish", "finish", "Reader.finish", inClass (topS 95) 7⟩, meD "asked" "Reader.asked" 16, meD "_role_line" "Reader._role_line" 14, meD "role_at" "Reader.role_at" 18, meD "line_of" "Reader.line_of" 13, glD "_law_pot" 97, glD "_law_draw" 98, glD "_law_pick" 99, glD "_law_line" 100, glD "_law_model" 101, glD "_law_reader" 102, glD "_law_line_of" 103, glD "_law_is_seen" 104, glD "_law_role_at" 105, glD "_law_move" 106, glD "_law_told" 107, glD "_law_near_line" 108, glD "_law_mail" 110, glD "_law_due" 111, glD "_law_grown" 112, glD "_law_rules" 113, glD "_law_turn" 114, glD "_law_wide_bush" 116, glD "_law_mail_right" 117, glD "_law_known_right" 118, glD "_law_right" 119, glD "law" 120]
def free1 : List Str := ["isinstance", "str", "len", "all", "zip", "list", "tuple", "enumerate", "range", "int", "bool", "divmod", "abs", "max", "min", "repr", "dict"]
def glos : List Str := (["is_integer", "is_list", "is_signs", "is_line", "check_signs", "is_word", "is_mark", "check_marks", "is_sight", "is_tail", "check_tail", "check_care", "is_level", "check_level", "is_role", "check_role", "is_tree_of", "check_tree", "lines_written", "written"] : List Str) ++ (["own_telling", "check_line", "is_seen", "told_behind", "line_told", "is_finished", "course_of", "telling_of", "check_message", "telling", "course", "tree_read", "SIGHTS", "CARE_WORDS", "START", "CLOSED", "PLAIN", "ROLE_WORDS"] : List Str)
def glos2 : List Str := ["_law_pot", "_law_draw", "_law_pick", "_law_line", "_law_model", "_law_reader", "_law_line_of", "_law_is_seen", "_law_role_at", "_law_move", "_law_told", "_law_near_line", "_law_mail", "_law_due", "_law_grown", "_law_rules", "_law_turn", "_law_wide_bush", "_law_mail_right", "_law_known_right", "_law_right", "law", "Reader"]
def propB (K : PySem.W.Frag) (m : Str) : Bool :=
  He.eqO (PySem.W.specialIn K (.ref (me m K)) "__get__") (some (some (.builtin "property.__get__")))
  && (decide (PySem.W.takesIn K (.ref (me m K)) = some true)
  && He.eqO (PySem.W.findIn K (.ref (He.ga K "Reader")) m) (some (some (.ref (me m K)))))
def recB (K : PySem.W.Frag) (m : Str) : Bool := match PySem.W.recIn K (me m K) "property" with
  | some (.ref g :: _) => true
  | _ => false
def clsB (K : PySem.W.Frag) (C : Addr) : Bool :=
  He.eqO (PySem.W.findIn K (.ref C) "__class__") (some (some (.builtin "object.__class__")))
  && (decide (PySem.W.mroIn K C (.type "object") = some true)
  && (decide (PySem.W.kitOne K (.ref C) (.ref C) = some true)
  && (FL.kinds.all (fun n => decide (PySem.W.kitOne K (.type n) (.ref C) = some false) && decide (PySem.W.mroIn K C (.type n) = some false))
  && He.eqO (PySem.W.findIn K (.ref C) "__ne__") (some (some (.builtin "object.__ne__"))))))
def exs (K : PySem.W.Frag) : Bool :=
  glos.all (fun x => (He.Fa.glo x).ok K)
  && (glos2.all (fun x => (He.Fa.glo x).ok K)
  && (free1.all (fun x => (He.Fa.free x).ok K)
  && ((He.Fa.int "MOST_MARK_SIGNS" 12).ok K
  && ((He.Fa.int "MOST_TAIL_SIGNS" 3).ok K
  && ((He.Fa.int "MOST_LEVELS" 3).ok K
  && ((He.Fa.str "SIGN_CHARACTERS" signChars).ok K
  && ((He.Fa.cls "Reader").ok K
  && ((He.Fa.noat "Reader" "_signs").ok K
  && ((He.Fa.noat "Reader" "_marks").ok K
  && ((He.Fa.noat "Reader" "_tail").ok K
  && ((He.Fa.noat "Reader" "_cares").ok K
  && ((He.Fa.mkr "Reader").ok K
  && ((He.Fa.meth "Reader" "asked").ok K
  && ((He.Fa.meth "Reader" "_role_line").ok K
  && ((He.Fa.meth "Reader" "role_at").ok K
  && ((He.Fa.meth "Reader" "line_of").ok K
  && (kwOk K (me "__init__" K) dfl0
  && (recB K "signs"
  && (recB K "depth"
  && (recB K "further"
  && (recB K "finish"
  && (propB K "signs"
  && (propB K "depth"
  && (propB K "further"
  && (propB K "finish"
  && (clsB K (He.ga K "Reader")
  && (tupB K (He.ga K "SIGHTS") [.str (Str.ofString "whole"), .str (Str.ofString "start")]
  && (tupB K (He.ga K "ROLE_WORDS") [.str (Str.ofString "next"), .str (Str.ofString "end")]
  && (tupB K (He.ga K "START") [.int 1, .str (Str.ofString "wait")]
  && (tupB K (He.ga K "CLOSED") [.int 0, .str (Str.ofString "wait")]
  && (tupB K (He.ga K "PLAIN") [.str (Str.ofString "line"), .int 0]
  && (tupB K (dcV K "order") [.str (Str.ofString "inner"), .str (Str.ofString "outer")]
  && (tupB K (dcV K "further") [.str (Str.ofString "refuse"), .str (Str.ofString "close")]
  && (tupB K (dcV K "finish") [.str (Str.ofString "refuse"), .str (Str.ofString "close")]
  && (dcB K "order"
  && (dcB K "further"
  && (dcB K "finish")))))))))))))))))))))))))))))))))))))
def loose0 : List Str := ["_wall", "__name__", "LineError", "InvalidSigns", "InvalidRows", "InvalidEnds", "InvalidLine", "InvalidLines", "InvalidMarks", "InvalidTail", "InvalidCare", "InvalidRole", "InvalidLevel", "InvalidTree", "InvalidMessage", "StateError", "OtherSigns", "LimitError", "TooMany", "SIGN_CHARACTERS", "is_integer", "is_list", "is_signs", "is_line", "SIGHTS"]
def loose1 : List Str := ["CARE_WORDS", "ROLE_WORDS", "MOST_MARK_SIGNS", "MOST_TAIL_SIGNS", "check_signs", "check_same_signs", "check_line", "check_sign", "check_lines", "is_place", "is_row", "check_rows", "check_ends", "is_word", "is_mark", "check_marks", "is_sight", "is_tail", "check_tail", "check_care", "is_level", "check_level", "is_role", "check_role", "is_tree_of"]
def loose2 : List Str := ["check_tree", "check_message", "EITHER", "BOTH", "ALONE", "least_form", "numbered", "alike_blocks", "first_blocks", "block_places", "back_steps", "parts_leading", "halves", "paired", "path_form", "lines_form", "tree_of", "Machine", "machine_of", "seen_machine", "is_seen", "START", "CLOSED", "PLAIN", "told_behind"]
def loose3 : List Str := ["line_told", "is_finished", "course_of", "telling_of", "lines_written", "written", "own_telling", "telling", "course", "tree_read", "MOST_LEVELS", "Reader", "_law_pot", "_law_draw", "_law_pick", "_law_line", "_law_model", "_law_reader", "_law_line_of", "_law_is_seen", "_law_role_at", "_law_move", "_law_told", "_law_near_line", "_law_bush"]
def loose4 : List Str := ["_law_mail", "_law_due", "_law_grown", "_law_rules", "_law_turn", "_law_turn_all", "_law_wide_bush", "_law_mail_right", "_law_known_right", "_law_right"]
def loose : List Str := loose0 ++ loose1 ++ loose2 ++ loose3 ++ loose4
def tbs : Tbs := [(gl "CARE_WORDS", [Str.ofString "order", Str.ofString "further", Str.ofString "finish"])]
def ads : List Addr := [3, 333, 340, 345, 352, 353, 354, 358, 365, 379, 426, 433, 440, 447, 454, 461, 468, 475, 482, 489, 496, 501, 508, 515, 821, 822, 823, 824, 831, 838, 845, 852, 859, 864, 869, 874, 881, 888, 895, 1061, 1072, 1079, 1086, 1091, 1098, 1105, 1112, 1117, 1124, 1131, 1138, 1145, 1157, 1164, 1171, 1178, 1185, 1197, 1204, 1211, 1216, 1221, 332, 339, 344, 351, 355, 356, 357, 364, 378, 425, 432, 439, 446, 453, 460, 467, 474, 481, 488, 495, 500, 507, 514, 820, 830, 837, 844, 851, 858, 863, 868, 873, 880, 887, 894, 1060, 1071, 1078, 1085, 1090, 1097, 1104, 1111, 1116, 1123, 1130, 1137, 1144, 1156, 1163, 1170, 1177, 1184, 1196, 1203, 1210, 1215, 1220, 910, 918, 934, 958, 966, 1006, 1013, 1025, 1039, 909, 903, 917, 933, 957, 965, 1005, 1012, 1024, 1038, 916, 932, 956, 964]
abbrev hk : PySem.W.Hook := hookA ads defs exs tbs
def ob (s : PySem.W.SharedT) : (Bool × List He.FnV) × List (Option (List (Option (Str × Int)))) := obA ads defs exs tbs (HandSHeadRun.getT s)
end K68
set_option maxHeartbeats 0
namespace K68
open PySem PySem.W PySem.Calls PySem.Spec PyProof.Rows L2 FL
theorem run_f (w : World) : HandSHeadRun.RunEq R (view R.prog [120]) hk ob 20000 loose (w.withFollow "special-get-raises" false) := by
  intro os
  kernel_rfl
theorem run_t (w : World) : HandSHeadRun.RunEq R (view R.prog [120]) hk ob 20000 loose (w.withFollow "special-get-raises" true) := by
  intro os
  kernel_rfl
theorem run (w : World) : HandSHeadRun.RunEq R (view R.prog [120]) hk ob 20000 loose w :=
  byRow2 "special-get-raises" (P := fun w => HandSHeadRun.RunEq R (view R.prog [120]) hk ob 20000 loose w) run_f run_t w
end K68
namespace K68
open PySem PySem.Spec PyProof.Rows L2 FL
abbrev sIsSigns : Stmt := topS 23
abbrev sIsLine : Stmt := topS 24
section
variable {P : Program} {w : World} {K : PySem.W.Frag} {mg : Str → Option Value} {base : Heap}
theorem scIsLine : FnScope ["signs", "value"] ["signs", "value"] (defScope sIsLine) :=
  ⟨rfl, rfl, rfl, by decide +kernel, rfl, by decide +kernel, by decide +kernel⟩
theorem ok_isline {f : Addr} {fd : FuncData} (F : Fun K "is_line" "is_line" sIsLine f fd)
    (mI : mg "isinstance" = none) (mS : mg "str" = none) :
    FnOk P w K mg base CX0 1 f fd ["signs", "value"] spLine := by
  refine F.ok scIsLine (fun vs H Q E h => ?_) (fun cdv A outer s H vs Q E hr h => ?_)
  · obtain ⟨_, _, _, rfl, _⟩ := h
    rfl
  · obtain ⟨sg, v, n, rfl, an, sh, k⟩ := h
    refine ⟨_, pss_one (ps_ret (pe_and (pe_callB call_isA (by rfl) mI (by decide +kernel)
        (pa_cons (pv 1) (pa_cons (pe_bltn (v := .ty "str") (by rfl) mS (by decide +kernel) rfl) pa_nil)))
      (pe_one (pe_cmpR op_eq (pe_bm PySem.F.plainAttrs_str PySem.F.slot_str_strip PySem.F.type_str_strip mt_stripChars (pv 1) (pa_cons (pv 0) pa_nil)) pe_str (nomark _))))), ?_⟩
    refine ⟨v, rfl, v, n, "str", rfl, an, by decide, _, rfl, ?_⟩
    cases an with
    | str z =>
      refine ⟨.str z, rfl, rfl, .str sg, rfl, z, sg, rfl, rfl, sh z rfl, rfl, ?_⟩
      have e : decide (V.str (Txt.stripChars z sg) = V.str (Str.ofString "")) = lineB sg (.str z) := by
        show _ = decide (Txt.stripChars z sg = (Str.ofString ""))
        by_cases h : Txt.stripChars z sg = Str.ofString ""
        · rw [h]
          simp
        · rw [decide_eq_false h, decide_eq_false]
          intro q
          exact h (V.str.inj q)
      rw [e]
      exact k
    | _ => exact k
abbrev nIsSigns : List Str := ["value", "rising", "first", "second"]
theorem scIsSigns : FnScope nIsSigns ["value"] (defScope sIsSigns) :=
  ⟨rfl, rfl, rfl, by decide +kernel, rfl, by decide +kernel, by decide +kernel⟩
theorem ok_issigns {f g : Addr} {fd gd : FuncData} (F : Fun K "is_signs" "is_signs" sIsSigns f fd)
    (G : FnOk P w K mg base CX0 1 g gd ["signs", "value"] spLine) (bG : Binds K gd ["signs", "value"] [])
    (kG : PySem.W.keepIn K (.ref g) = true) (mG : mg "is_line" = some (.ref g)) {tk : Tok}
    (mC : mg "SIGN_CHARACTERS" = some (.str signChars tk))
    (mI : mg "isinstance" = none) (mS : mg "str" = none) (mN : mg "len" = none) (mA : mg "all" = none) (mZ : mg "zip" = none) :
    FnOk P w K mg base CX0 2 f fd ["value"] spSigns := by
  refine F.ok scIsSigns (fun vs H Q E h => ?_) (fun cdv A outer s H vs Q E hr h => ?_)
  · obtain ⟨_, _, rfl, _⟩ := h
    rfl
  · obtain ⟨v, n, rfl, an, sh, k⟩ := h
    have nd := scIsSigns.nd
    refine ⟨_, pss_cons (ps_if (PW.pt (pw_or (pt_not (pt_val (pe_callB call_isA (by rfl) mI (by decide +kernel)
          (pa_cons (pv 0) (pa_cons (pe_bltn (v := .ty "str") (by rfl) mS (by decide +kernel) rfl) pa_nil)))))
        (pw_or (pt_cmpR op_lt (pe_callB callLen (by rfl) mN PySem.boot_len (pa_cons (pv 0) pa_nil)) pe_int (nomark _))
        (pw_or1 (pt_cmpR op_gt (pe_callB callLen (by rfl) mN PySem.boot_len (pa_cons (pv 0) pa_nil)) pe_int (nomark _))))))
        (pss_one (ps_ret pe_bl)) pss_nil)
      (pss_cons (ps_set (i := 1) nd rfl (.inl rfl) (pe_callB (cr_all rfl) (by rfl) mA (by decide +kernel)
        (pa_cons (pe_lc (own := [("first", 2), ("second", 3)]) (g := gTup K 2 (gCons (gName 2) (gCons (gName 3) gNil))) (tt := tYes) rfl nd
          (pi_zipS (by rfl) mZ (pa_cons (pv 0) (pa_cons (pe_slice sl_str (pv 0) (po_some pe_int) po_none) pa_nil)))
          (blkOk_by (N := nIsSigns) (sc := defScope sIsSigns) (by decide +kernel))
          (fun _ _ _ _ _ => pg_tup rfl (pgs_cons (pg_name (i := 2) nd rfl (Or.inl rfl)) (pgs_cons (pg_name (i := 3) nd rfl (Or.inl rfl)) pgs_nil)))
          (fun _ _ _ _ _ => pts_nil)
          (fun _ _ _ _ _ => pe_cmpR op_lt_str (pv 2) (pv 3) (nomark _))) pa_nil)))
      (pss_one (ps_ret (pe_and (pv 1) (pe_one (pe_call G hr (by rfl) mG kG bG .nil pass0 (pa_cons (pe_glob (v := .str signChars) rfl mC ⟨_, rfl⟩) (pa_cons (pv 0) pa_nil)))))))), ?_⟩
    refine ⟨v, rfl, v, n, "str", rfl, an, by decide, _, rfl, ?_⟩
    cases an with
    | str z =>
      have lz : z.length ≤ sizeLine := sh z rfl
      have hl := str_len z
      refine iteF ?_
      refine ⟨_, rfl, _, z.length, rfl, ⟨lz, rfl⟩, _, _, rfl, rfl, _, rfl, ?_⟩
      by_cases h2 : (z.length : Int) < 2
      · rw [decide_eq_true h2]
        refine iteT ?_
        refine iteT ?_
        have e : signsB (.str z) = false := by
          show (decide (2 ≤ z.length) && _) = false
          rw [decide_eq_false (by omega)]
          rfl
        have := k H (Same.refl H)
        rw [e] at this
        exact this
      rw [decide_eq_false h2]
      refine iteF ?_
      refine ⟨_, rfl, _, z.length, rfl, ⟨lz, rfl⟩, _, _, rfl, rfl, _, rfl, ?_⟩
      by_cases h4 : (z.length : Int) > 4
      · rw [decide_eq_true h4]
        refine iteT ?_
        have e : signsB (.str z) = false := by
          show (decide (2 ≤ z.length) && (decide (z.length ≤ 4) && _)) = false
          rw [decide_eq_false (show ¬ z.length ≤ 4 by omega)]
          simp
        have := k H (Same.refl H)
        rw [e] at this
        exact this
      rw [decide_eq_false h4]
      refine iteF ?_
      refine ⟨_, rfl, _, rfl, 1, rfl, z, rfl, lz, z, cutS z (some 1) none, rfl, fun D hD => ?_⟩
      have sz : sizeLine = 16777216 := rfl
      have ltail : (cutS z (some 1) none).cps.size = z.cps.toList.tail.length := by rw [← cut_tail, Array.length_toList]
      refine lc_it walk_zipS (fun t Ht => Same H Ht ∧ Ht D = some (.lst (((rise z.cps.toList).take t).map V.bl))) ?_ (fun _ _ _ _ => trivial) ?_ ?_
      · exact ⟨(Same.refl H).upd hD, upd_same⟩
      · rintro t x Ht _ ht ⟨g1, g2⟩ ⟨T, a, b, rfl, hT, rfl, ha, hb⟩
        refine ⟨T, _, rfl, SqT.of upd_same, rfl, _, _, rfl, _, _, rfl, rfl, rfl, ?_⟩
        refine ⟨_, rfl, _, rfl, _, _, rfl, rfl, ?_⟩
        have nDT : D ≠ T := ne_of_none g2 hT
        have ra : z.cps.toList[t]? = some a := by simpa using ha
        have rb : z.cps.toList.tail[t]? = some b := by
          rw [← cut_tail]
          simpa using hb
        refine ⟨_, by rw [upd_ne nDT]; exact g2, ?_, (g1.upd (g1.none hT)).upd hD, ?_⟩
        · rw [List.length_map, List.length_take, sz]
          have : t < z.cps.size := by omega
          have : z.cps.size = z.length := rfl
          omega
        · rw [upd_same, take_snoc (rise_get ra rb), List.map_append]
          rfl
      · rintro Ht ⟨g1, g2⟩
        refine ⟨D, (rise z.cps.toList).take _, rfl, SqL.of g2, ?_⟩
        have eall : (rise z.cps.toList).take (min z.cps.size (cutS z (some 1) none).cps.size) = rise z.cps.toList := by
          apply List.take_of_length_le
          unfold rise
          rw [List.length_zipWith, ltail, Array.length_toList]
          exact Nat.le_refl _
        rw [eall]
        refine ⟨_, rfl, _, rfl, ?_⟩
        have es : signsB (.str z) = ((rise z.cps.toList).all id && lineB signChars (.str z)) := by
          show (decide (2 ≤ z.length) && (decide (z.length ≤ 4) && _)) = _
          rw [decide_eq_true (show 2 ≤ z.length by omega), decide_eq_true (show z.length ≤ 4 by omega)]
          rfl
        have kk := k Ht g1
        rw [es] at kk
        cases hq : (rise z.cps.toList).all id with
        | true =>
          rw [hq] at kk
          exact ⟨_, rfl, signChars, .str z, "str", rfl, .str z, sh, kk⟩
        | false =>
          rw [hq] at kk
          exact kk
    | _ => exact k H (Same.refl H)
abbrev sCheckSigns : Stmt := topS 31
abbrev sIsList : Stmt := topS 22
theorem scCheckSigns : FnScope ["signs"] ["signs"] (defScope sCheckSigns) := ⟨rfl, rfl, rfl, by decide +kernel, rfl, by decide +kernel, by decide +kernel⟩
theorem ok_checksigns {f g : Addr} {fd gd : FuncData} (F : Fun K "check_signs" "check_signs" sCheckSigns f fd)
    (G : FnOk P w K mg base CX0 2 g gd ["value"] spSigns) (bG : Binds K gd ["value"] [])
    (kG : PySem.W.keepIn K (.ref g) = true) (mG : mg "is_signs" = some (.ref g)) : FnOk P w K mg base CX0 3 f fd ["signs"] spCheckSigns := by
  refine F.ok scCheckSigns (fun vs H Q E h => ?_) (fun cdv A outer s H vs Q E hr h => ?_)
  · obtain ⟨_, rfl, _⟩ := h
    rfl
  · obtain ⟨z, rfl, hz, k⟩ := h
    refine ⟨_, pss_one (ps_if (pt_not (pt_val (pe_call G hr (by rfl) mG kG bG .nil pass0 (pa_cons (pv 0) pa_nil)))) (pss_one ps_never) pss_nil), ?_⟩
    refine ⟨_, rfl, .str z, "str", rfl, .str z, ?_, fun H' sm => ?_⟩
    · intro y e
      cases e
      have := hz.hi
      exact Nat.le_trans this (by decide)
    · rw [abc_signs hz]
      exact ⟨_, rfl, k H' sm⟩
theorem scIsList : FnScope ["value"] ["value"] (defScope sIsList) := ⟨rfl, rfl, rfl, by decide +kernel, rfl, by decide +kernel, by decide +kernel⟩
theorem ok_islist {f : Addr} {fd : FuncData} (F : Fun K "is_list" "is_list" sIsList f fd)
    (mI : mg "isinstance" = none) (mL : mg "list" = none) (mT : mg "tuple" = none) : FnOk P w K mg base CX0 1 f fd ["value"] spIsList := by
  refine F.ok scIsList (fun vs H Q E h => ?_) (fun cdv A outer s H vs Q E hr h => ?_)
  · obtain ⟨_, _, rfl, _⟩ := h
    rfl
  · obtain ⟨v, n, rfl, an, k⟩ := h
    refine ⟨_, pss_one (ps_ret (pe_callB call_isiT (by rfl) mI (by decide +kernel) (pa_cons (pv 0) (pa_cons
      (pe_tup (pa_cons (pe_bltn (v := .ty "list") (by rfl) mL (by decide +kernel) rfl) (pa_cons (pe_bltn (v := .ty "tuple") (by rfl) mT (by decide +kernel) rfl) pa_nil))) pa_nil)))), ?_⟩
    refine ⟨_, rfl, by decide, fun p hp => ?_⟩
    have an2 : Any (upd H p (.tup [.ty "list", .ty "tuple"])) v n := an.same fun a o _ e => by rw [upd_ne (ne_of_none e hp)]; exact e
    exact ⟨v, p, _, _, _, _, rfl, upd_same, .cons (.ty "list") (.cons (.ty "tuple") .nil), an2.tyx, kit_lt an.kind, k _ ((Same.refl H).upd hp)⟩
end
end K68
namespace K68
open PySem PySem.Spec PyProof.Rows L2 FL
abbrev sDraw : Stmt := topS 98
abbrev sPot : Stmt := topS 97
abbrev sPick : Stmt := topS 99
section
variable {P : Program} {w : World} {K : PySem.W.Frag} {mg : Str → Option Value} {base : Heap}
theorem scDraw : FnScope ["_law_pot_here", "_law_many", "_law_digit"] ["_law_pot_here", "_law_many"] (defScope sDraw) :=
  ⟨rfl, rfl, rfl, by decide +kernel, rfl, by decide +kernel, by decide +kernel⟩
theorem ok_draw {f : Addr} {fd : FuncData} (F : Fun K "_law_draw" "_law_draw" sDraw f fd)
    (mD : mg "divmod" = none) (mI : mg "int" = none) :
    FnOk P w K mg base CX0 1 f fd ["_law_pot_here", "_law_many"] spDraw := by
  refine F.ok scDraw (fun vs H Q E h => ?_) (fun cdv A outer s H vs Q E hr h => ?_)
  · obtain ⟨p, n, rfl, _⟩ := h
    rfl
  · obtain ⟨p, n, rfl, ⟨a, b, hp, a0, b0, b1⟩, n0, n1, k⟩ := h
    refine ⟨_, pss_cons (ps_if (pt_cmpR op_gt (pe_ix ix_list (pv 0) pe_int (fun _ _ => rfl)) pe_int (nomark _))
        (pss_cons (ps_asg (pe_callB call_divmod (by rfl) mD (by decide +kernel)
            (pa_cons (pe_ix ix_list (pv 0) pe_int (fun _ _ => rfl)) (pa_cons (pv 1) pa_nil)))
            (pg_tup rfl (pgs_cons (pg_sub (pv 0) pe_int set_list) (pgs_cons (pg_name (i := 2) scDraw.nd rfl (.inl rfl)) pgs_nil))))
          (pss_one (ps_ret (pv 2)))) pss_nil)
      (pss_cons (ps_asg (pe_op op_mod (pe_callTy call_int1 (by rfl) mI (by decide +kernel)
            (pa_cons (pe_op op_add (pe_op op_mul (pe_ix ix_list (pv 0) pe_int (fun _ _ => rfl)) pe_int) pe_int) pa_nil)) pe_int)
          (pg_sub (pv 0) pe_int set_list))
      (pss_one (ps_ret (pe_op op_mod (pe_callTy call_int1 (by rfl) mI (by decide +kernel)
        (pa_cons (pe_op op_fdiv (pe_op op_mod (pe_op op_mul (pe_ix ix_list (pv 0) pe_int (fun _ _ => rfl)) (pe_ix ix_list (pv 0) pe_int (fun _ _ => rfl))) pe_int) pe_int) pa_nil)) (pv 1))))), ?_⟩
    refine ⟨_, rfl, p, _, _, .int a, rfl, rfl, SqL.of hp, rfl, _, _, rfl, rfl, _, rfl, ?_⟩
    refine ite2 (fun hc => ?_) (fun hc => ?_)
    · refine ⟨_, rfl, p, _, _, .int a, rfl, rfl, SqL.of hp, rfl, _, rfl, a, n, rfl, ⟨n0, n1⟩, fun q hq => ?_⟩
      have npq : p ≠ q := ne_of_none hp hq
      have hp1 : upd H q (.tup [.int (a / n), .int (a % n)]) p = some (.lst [.int a, .int b]) := by
        rw [upd_ne npq]
        exact hp
      refine ⟨q, _, rfl, SqT.of upd_same, rfl, _, _, rfl, _, rfl, p, _, _, 0, rfl, rfl, hp1, rfl, _, _, rfl, rfl, _, rfl, ?_⟩
      refine k (a % n) _ (Int.emod_nonneg _ (by omega)) (Int.emod_lt_of_pos _ n0) ?_ fun c o e nc => ?_
      · exact ⟨a / n, b, upd_same, Int.ediv_nonneg a0 (by omega), b0, b1⟩
      · rw [upd_ne nc, upd_ne (ne_of_none e hq)]
        exact e
    · refine ⟨_, rfl, p, _, _, .int b, rfl, rfl, SqL.of hp, rfl, _, _, rfl, rfl, .inl ⟨by omega, by omega⟩, _, _, rfl, rfl, .inl ⟨_, rfl, _, _, rfl, rfl, (by show (0 : Int) < 2147483563; decide), ?_⟩⟩
      refine ⟨_, rfl, p, _, _, 1, rfl, rfl, hp, rfl, ?_⟩
      have c0 : 0 ≤ (b * 40014 + 12211) % 2147483563 := Int.emod_nonneg _ (by decide)
      have c1 : (b * 40014 + 12211) % 2147483563 < 2147483563 := Int.emod_lt_of_pos _ (by decide)
      refine ⟨_, rfl, p, _, _, _, rfl, rfl, SqL.of upd_same, rfl, _, rfl, p, _, _, _, rfl, rfl, SqL.of upd_same, rfl, _, _, rfl, rfl, .inl ⟨Int.lt_of_lt_of_le (by decide) c0, Int.lt_trans c1 (by decide)⟩, _, _, rfl, rfl, (by show (0 : Int) < 2147483399; decide), _, _, rfl, rfl, ⟨by decide, by decide⟩, .inl ⟨_, rfl, _, rfl, _, _, rfl, rfl, n0, ?_⟩⟩
      refine k _ _ (Int.emod_nonneg _ (by omega)) (Int.emod_lt_of_pos _ n0) ?_ fun c o e nc => ?_
      · exact ⟨a, _, upd_same, a0, c0, by omega⟩
      · rw [upd_ne nc]
        exact e
theorem scPick : FnScope ["_law_pot_here", "_law_things"] ["_law_pot_here", "_law_things"] (defScope sPick) :=
  ⟨rfl, rfl, rfl, by decide +kernel, rfl, by decide +kernel, by decide +kernel⟩
theorem ok_pick {f g : Addr} {fd gd : FuncData} (F : Fun K "_law_pick" "_law_pick" sPick f fd)
    (G : FnOk P w K mg base CX0 1 g gd ["_law_pot_here", "_law_many"] spDraw) (bG : Binds K gd ["_law_pot_here", "_law_many"] [])
    (kG : PySem.W.keepIn K (.ref g) = true) (mG : mg "_law_draw" = some (.ref g)) (mL : mg "len" = none) :
    FnOk P w K mg base CX0 2 f fd ["_law_pot_here", "_law_things"] (spPick K) := by
  refine F.ok scPick (fun vs H Q E h => ?_) (fun cdv A outer s H vs Q E hr h => ?_)
  · obtain ⟨p, v, rfl, _⟩ := h
    rfl
  · obtain ⟨p, v, rfl, hp, h⟩ := h
    refine ⟨_, pss_one (ps_ret (pe_ix ix_seq (pv 1) (pe_call G hr (by rfl) mG kG bG .nil pass0
      (pa_cons (pv 0) (pa_cons (pe_callB call_len (by rfl) mL PySem.boot_len (pa_cons (pv 1) pa_nil)) pa_nil))) (fun _ _ => rfl))), ?_⟩
    rcases h with ⟨q, xs, rfl, nq, hq, l0, l1, k⟩ | ⟨z, rfl, l0, l1, k⟩
    · refine ⟨_, rfl, _, rfl, _, rfl, _, xs.length, rfl, .inl ⟨_, hq, rfl⟩, p, (xs.length : Int), rfl, hp, by omega, by omega, fun d H' d0 d1 hp' bt => ?_⟩
      obtain ⟨x, hx, e⟩ := atI_lt d0 d1
      exact .inl ⟨q, xs, d, x, rfl, rfl, bt.sqL nq hq, e, k x H' hx hp' bt⟩
    · refine ⟨_, rfl, _, rfl, _, rfl, _, z.length, rfl, ⟨Nat.le_trans l1 (by decide), rfl⟩, p, (z.length : Int), rfl, hp, by omega, by omega, fun d H' d0 d1 hp' bt => ?_⟩
      rw [str_len] at d1
      obtain ⟨x, hx, e⟩ := atI_lt d0 d1
      exact .inr (.inr ⟨z, d, x, rfl, rfl, Nat.le_trans l1 (by decide), e, k x H' hx hp' bt⟩)
theorem scPot : FnScope ["_law_script", "_law_k", "_law_cell"] ["_law_script", "_law_k"] (defScope sPot) :=
  ⟨rfl, rfl, rfl, by decide +kernel, rfl, by decide +kernel, by decide +kernel⟩
theorem ok_pot {f : Addr} {fd : FuncData} (F : Fun K "_law_pot" "_law_pot" sPot f fd)
    (mA : mg "abs" = none) (mL : mg "len" = none) (mM : mg "max" = none) (mI : mg "int" = none) :
    FnOk P w K mg base CX0 1 f fd ["_law_script", "_law_k"] (spPot K) := by
  refine F.ok scPot (fun vs H Q E h => ?_) (fun cdv A outer s H vs Q E hr h => ?_)
  · obtain ⟨_, _, _, rfl, _⟩ := h
    rfl
  · obtain ⟨a, ns, j, rfl, hs, j0, j1, hn, k⟩ := h
    refine ⟨_, pss_cons (ps_set (i := 2) scPot.nd rfl (.inl rfl) (pe_op op_add (pe_op op_mul pe_int (pv 1)) pe_int))
      (C8.pss_cut (ps_if (pt_cmpR op_lt (pv 1) (pe_callB call_len (by rfl) mL PySem.boot_len (pa_cons (pv 0) pa_nil)) (nomark _))
        (pss_one (ps_set (i := 2) scPot.nd rfl (.inl rfl) (pe_callB call_abs (by rfl) mA (by decide +kernel) (pa_cons (pe_ix ix_list (pv 0) (pv 1) (fun _ _ => rfl)) pa_nil)))) pss_nil)
      (pss_one (ps_ret (pe_lst (pa_cons (pe_callB (call_max2 rfl) (by rfl) mM (by decide +kernel)
          (pa_cons pe_int (pa_cons (pe_op op_sub (pv 2) (pe_op op_pow pe_int pe_int)) pa_nil)))
        (pa_cons (pe_op op_add (pe_op op_mod (pe_op op_mul (pe_callTy call_int1 (by rfl) mI (by decide +kernel)
          (pa_cons (pe_op op_add (pe_op op_mod (pe_callTy call_int1 (by rfl) mI (by decide +kernel) (pa_cons (pv 2) pa_nil)) pe_int) pe_int) pa_nil))
            (pe_op op_pow (pe_op op_add (pe_op op_mul pe_int (pv 1)) pe_int) pe_int)) pe_int) pe_int) pa_nil)))))), ?_⟩
    refine ⟨_, rfl, _, _, rfl, rfl, .inl ⟨by decide, by decide⟩, _, _, rfl, rfl, ?_⟩
    refine ⟨fun σ' H' => ∃ z : Int, σ' = [some (.ref a), some (.int j), some (.int z)] ∧ H' = H, ?_, ?_⟩
    · refine ⟨_, rfl, _, rfl, _, _, rfl, .inl ⟨_, hs, rfl⟩, _, _, rfl, rfl, _, rfl, ?_⟩
      refine ite2 (fun hc => ?_) (fun hc => ⟨_, rfl, rfl⟩)
      have hlt : j < ((ns.map V.int).length : Int) := of_decide_eq_true hc
      obtain ⟨x, hx, e⟩ := atI_lt j0 hlt
      obtain ⟨i, _, rfl⟩ := List.mem_map.mp hx
      exact ⟨_, rfl, _, rfl, a, _, j, .int i, rfl, rfl, hs, e, i, rfl, _, rfl, rfl⟩
    · rintro σ' H' ⟨z, rfl, rfl⟩
      have z0 : 0 ≤ z % 2147483549 := Int.emod_nonneg _ (by decide)
      have z1 : z % 2147483549 < 2147483549 := Int.emod_lt_of_pos _ (by decide)
      refine ⟨_, rfl, _, _, rfl, rfl, ⟨by decide, by decide, by decide⟩, _, _, rfl, rfl, _, _, rfl, ?_⟩
      refine ⟨_, rfl, .inl ⟨_, rfl, _, _, rfl, rfl, (by show (0 : Int) < 2147483549; decide), _, _, rfl, rfl, .inl ⟨_, rfl, _, rfl, _, _, rfl, rfl, .inl ⟨by decide, by decide⟩, _, _, rfl, rfl, _, _, rfl, rfl, ⟨by decide, by decide, by show (2 * j + 9).natAbs < 2 ^ 64; omega⟩, _, _, rfl, rfl, .inl ⟨by show -(2 ^ 64) < z % 2147483549 + 7; omega, by show z % 2147483549 + 7 < 2 ^ 64; omega⟩, _, _, rfl, rfl, (by show (0 : Int) < 2147483477; decide), _, _, rfl, rfl, ?_⟩⟩⟩
      refine ⟨(by show 2 ≤ sizeLine; decide), fun p hp => ?_⟩
      refine k p _ hp ⟨_, _, upd_same, ?_, ?_, ?_⟩ fun c o e => ?_
      · split <;> omega
      · exact Int.le_trans (Int.emod_nonneg _ (by decide)) (Int.le_add_of_nonneg_right (by decide))
      · have := Int.emod_lt_of_pos ((z % 2147483549 + 7) * (2 * j + 9) ^ (3 : Int).toNat) (show (0 : Int) < 2147483477 by decide)
        show (z % 2147483549 + 7) * (2 * j + 9) ^ (3 : Int).toNat % 2147483477 + 1 ≤ 2147483646
        omega
      · rw [upd_ne (ne_of_none e hp)]
        exact e
end
end K68
namespace K68
open PySem PySem.Spec PyProof.Rows L2 FL
abbrev sNote : Stmt := topS 100
section
variable {P : Program} {w : World} {K : PySem.W.Frag} {mg : Str → Option Value} {base : Heap}
theorem scNote : FnScope ["_law_pot_here", "_law_signs", "_law_most", "_law_at"] ["_law_pot_here", "_law_signs", "_law_most"] (defScope sNote) :=
  ⟨rfl, rfl, rfl, by decide +kernel, rfl, by decide +kernel, by decide +kernel⟩
theorem ok_note {f g h : Addr} {fd gd hd : FuncData} (F : Fun K "_law_line" "_law_line" sNote f fd)
    (G : FnOk P w K mg base CX0 1 g gd ["_law_pot_here", "_law_many"] spDraw) (bG : Binds K gd ["_law_pot_here", "_law_many"] [])
    (kG : PySem.W.keepIn K (.ref g) = true) (mG : mg "_law_draw" = some (.ref g))
    (Hk : FnOk P w K mg base CX0 2 h hd ["_law_pot_here", "_law_things"] (spPick K)) (bH : Binds K hd ["_law_pot_here", "_law_things"] [])
    (kH : PySem.W.keepIn K (.ref h) = true) (mH : mg "_law_pick" = some (.ref h)) (mR : mg "range" = none) :
    FnOk P w K mg base CX0 3 f fd ["_law_pot_here", "_law_signs", "_law_most"] spNote := by
  refine F.ok scNote (fun vs H Q E h => ?_) (fun cdv A outer s H vs Q E hr h => ?_)
  · obtain ⟨_, _, _, rfl, _⟩ := h
    rfl
  · obtain ⟨p, z, m, rfl, hp, z0, z1, m0, m1, k⟩ := h
    refine ⟨_, pss_one (ps_ret (pe_join pe_str (pe_lc (own := [("_law_at", 3)]) (g := gName 3) (tt := tYes) rfl scNote.nd
        (pi_range1 (by rfl) mR (pa_cons (pe_call G (hr.mono (by decide)) (by rfl) mG kG bG .nil pass0 (pa_cons (pv 0) (pa_cons (pe_op op_add (pv 2) pe_int) pa_nil))) pa_nil))
        (blkOk_by (N := ["_law_pot_here", "_law_signs", "_law_most", "_law_at"]) (sc := defScope sNote) (by decide +kernel))
        (fun _ _ _ _ _ => pg_name (i := 3) scNote.nd rfl (Or.inl rfl)) (fun _ _ _ _ _ => pts_nil)
        (fun _ _ _ _ _ => pe_call Hk hr (by rfl) mH kH bH .nil pass0 (pa_cons (pv 0) (pa_cons (pv 1) pa_nil)))))), ?_⟩
    refine ⟨⟨_, rfl⟩, _, rfl, _, rfl, _, _, rfl, rfl, p, m + 1, rfl, hp, by omega, by omega, fun d H1 d0 d1 hp1 b1 => ?_⟩
    refine ⟨d, rfl, by omega, by omega, fun D hD => ?_⟩
    have npD : p ≠ D := hp1.ne hD
    refine lc_range (lo := 0) (n := d.toNat) (fun i Hi => PotAt Hi p ∧ But p H1 Hi ∧ ∃ cs : List Nat, Hi D = some (.lst (cs.map sign)) ∧ cs.length = i ∧ ∀ c ∈ cs, c ∈ z.cps.toList) ?_ ?_ ?_
    · exact ⟨hp1.upd npD, (But.refl p H1).upd hD, [], upd_same, rfl, fun _ h => nomatch h⟩
    · rintro i Hi hi ⟨hpi, bi, cs, hDi, hl, hc⟩
      refine ⟨rfl, ?_⟩
      refine ⟨_, rfl, _, rfl, p, _, rfl, hpi, .inr ⟨z, rfl, z0, z1, fun c H2 cz hp2 b2 => ?_⟩⟩
      refine ⟨cs.map sign, b2 D _ hDi (Ne.symm npD), ?_, hp2.upd npD, fun a o e na => ?_, cs ++ [c], ?_, ?_, ?_⟩
      · rw [List.length_map, hl]
        exact Nat.lt_of_lt_of_le (show i < 2000 by omega) (by decide)
      · rw [upd_ne (ne_of_none e hD)]
        exact b2 a o (bi a o e na) na
      · rw [upd_same, List.map_append]
        rfl
      · rw [List.length_append, hl]
        rfl
      · intro c' hc'
        rcases List.mem_append.mp hc' with h | h
        · exact hc c' h
        · rw [List.mem_singleton.mp h]
          exact cz
    · rintro Hi ⟨hpi, bi, cs, hDi, hl, hc⟩
      have e1 : cs.map sign = (cs.map fun c => (⟨#[c]⟩ : Str)).map V.str := by
        rw [List.map_map]
        rfl
      rw [e1] at hDi
      refine ⟨Str.ofString "", D, cs.map fun c => (⟨#[c]⟩ : Str), rfl, rfl, .inl (SqL.of hDi), ?_, ?_⟩
      · have e2 : ((cs.map fun c => (⟨#[c]⟩ : Str)).map (·.length)).sum = cs.length := by
          rw [List.map_map]
          clear hDi hl hc e1
          induction cs with
          | nil => rfl
          | cons c cs ih =>
            rw [List.map_cons, List.sum_cons, ih, List.length_cons, Nat.add_comm]
            rfl
        have e3 : (Str.ofString "").length = 0 := by decide +kernel
        rw [e2, e3, hl]
        omega
      · rw [join_signs]
        refine k _ Hi (fun c h => hc c (by simpa using h)) ?_ hpi (b1.trans bi)
        show ((cs.toArray.size : Nat) : Int) ≤ m
        rw [List.size_toArray]
        omega
end
end K68
namespace FL
open PySem PySem.Spec PyProof.Rows L2 FL
/-! ### trees -/
def Bu : Nat → Type
  | 0 => Str
  | d + 1 => List (Bu d)
/-- its parts -/
abbrev kids {d : Nat} (t : Bu (d + 1)) : List (Bu d) := t
def BuAt (t : Bool) (H : Hp) : (d : Nat) → V → Bu d → Prop
  | 0, v, y => v = .str y
  | d + 1, v, ts => ∃ (a : Addr) (xs : List V), v = .ref a ∧ H a = some (if t then .tup xs else .lst xs) ∧ Paired (BuAt t H d) xs (kids ts)
theorem paired_imp {α β : Type} {R S : α → β → Prop} : ∀ {xs : List α} {ys : List β}, Paired R xs ys → (∀ x y, R x y → S x y) → Paired S xs ys
  | _, _, .nil, _ => .nil
  | _, _, .cons a r, k => .cons (k _ _ a) (paired_imp r k)
theorem BuAt.imp {t : Bool} {H H' : Hp} (s : ∀ a xs, H a = some (if t then .tup xs else .lst xs) → H' a = some (if t then .tup xs else .lst xs)) : ∀ {d : Nat} {v : V} {b : Bu d}, BuAt t H d v b → BuAt t H' d v b
  | 0, _, _, h => h
  | d + 1, _, _, ⟨a, xs, e, h, p⟩ => ⟨a, xs, e, s a xs h, paired_imp p fun _ _ q => BuAt.imp s q⟩
theorem BuAt.same {t : Bool} {H H' : Hp} (s : Same H H') {d : Nat} {v : V} {b : Bu d} (h : BuAt t H d v b) : BuAt t H' d v b := BuAt.imp (fun a _ e => s a _ e) h
/-- every line -/
def Alls (P : Str → Prop) : (d : Nat) → Bu d → Prop
  | 0, y => P y
  | d + 1, ts => ∀ t ∈ kids ts, Alls P d t
/-- at most n parts in each -/
def Few (n : Nat) : (d : Nat) → Bu d → Prop
  | 0, _ => True
  | d + 1, ts => (kids ts).length ≤ n ∧ ∀ t ∈ kids ts, Few n d t
def buD : (d : Nat) → Bu d → PyData
  | 0, y => .str y
  | d + 1, ts => .list ((kids ts).map (buD d))
theorem dp_paired {K : PySem.W.Frag} {H : Hp} {α : Type} {R : V → α → Prop} {f : α → PyData} (h : ∀ v x, R v x → Dp K H v (f x)) : ∀ {xs : List V} {ys : List α}, Paired R xs ys → DpAll K H xs (ys.map f)
  | _, _, .nil => .nil
  | _, _, .cons a r => .cons (h _ _ a) (dp_paired h r)
theorem BuAt.dp {K : PySem.W.Frag} {H : Hp} : ∀ {d : Nat} {v : V} {t : Bu d}, BuAt false H d v t → Dp K H v (buD d t)
  | 0, v, y, h => by
    obtain rfl : v = .str y := h
    exact .str y
  | d + 1, _, _, ⟨a, xs, e, h, p⟩ => by
    subst e
    exact .lst (SqL.of h) (dp_paired (fun _ _ q => BuAt.dp q) p)
/-- the signs that its text takes, at most -/
def roomB (n b : Nat) : Nat → Nat
  | 0 => b
  | d + 1 => (roomB n b d + 2) * n + 2
theorem SmL.all {k m : Nat} {α : Type} {f : α → PyData} : ∀ {xs : List α}, (∀ x ∈ xs, Sm m (f x) ∧ (f x).depth ≤ k) → SmL k ((m + 2) * xs.length) (xs.map f)
  | [], _ => SmL.nil
  | x :: xs, h => by
    have ⟨h1, h2⟩ := h x List.mem_cons_self
    have ih := SmL.all (xs := xs) fun y hy => h y (List.mem_cons_of_mem _ hy)
    have := SmL.cons h1 h2 ih
    rw [List.length_cons, Nat.mul_succ, Nat.add_comm]
    exact this
theorem SmL.mono {k n m : Nat} {ds : List PyData} (h : SmL k n ds) (l : n ≤ m) : SmL k m ds := ⟨h.sh, h.nd, h.cl, h.dp, Nat.le_trans h.len l⟩
theorem depth_all {k : Nat} {α : Type} {f : α → PyData} : ∀ {xs : List α}, (∀ x ∈ xs, (f x).depth ≤ k) → PyData.depthAll (xs.map f) ≤ k
  | [], _ => Nat.zero_le _
  | x :: xs, h => by
    have ih := depth_all (xs := xs) fun y hy => h y (List.mem_cons_of_mem _ hy)
    show max (f x).depth (PyData.depthAll (xs.map f)) ≤ k
    exact Nat.max_le.mpr ⟨h x List.mem_cons_self, ih⟩
theorem bu_depth : ∀ (d : Nat) (t : Bu d), (buD d t).depth ≤ d
  | 0, _ => Nat.zero_le _
  | d + 1, ts => by
    show PyData.depthAll ((kids ts).map (buD d)) + 1 ≤ d + 1
    have := depth_all (xs := kids ts) (f := buD d) (k := d) fun x _ => bu_depth d x
    omega
theorem bu_sm {n b : Nat} : ∀ {d : Nat} {t : Bu d}, d ≤ 12 → Few n d t → Alls (fun y => Plain y ∧ 10 * y.length + 2 ≤ b) d t → Sm (roomB n b d) (buD d t)
  | 0, y, _, _, h => (Sm.str h.1).mono h.2
  | d + 1, ts, hd, ⟨h1, h2⟩, h => by
    have hl := SmL.all (k := d) (xs := kids ts) (f := buD d) fun x hx => ⟨bu_sm (by omega) (h2 x hx) (h x hx), bu_depth d x⟩
    exact (Sm.list hl (by omega)).mono (Nat.add_le_add_right (Nat.mul_le_mul_left _ h1) 2)
/-! ### what is written -/
abbrev Ro : Type := Str × Nat
def nextW : Str := Str.ofString "next"
def endW : Str := Str.ofString "end"
def lineW : Str := Str.ofString "line"
/-- the line of a role -/
def roLine (ms : List Str) (tl : Str) (r : Ro) : Str := (ms.getD (r.2 - 1) (Str.ofString "")) ++ (if r.1 = endW then tl else Str.ofString "")
def ln (y : Bu 0) : Str := y
/-- the rows below level lv, k levels deeper there are the lines -/
def rows (ms : List Str) (tl : Str) : (k : Nat) → (lv : Nat) → Bu (k + 1) → List (Str × Ro)
  | 0, _, ys => (kids ys).map fun y => (ln y, (lineW, 0))
  | k + 1, lv, ts => ((kids ts).flatMap fun part => (roLine ms tl (nextW, lv), (nextW, lv)) :: rows ms tl k (lv + 1) part) ++ [(roLine ms tl (endW, lv), (endW, lv))]
theorem rows_zero (ms : List Str) (tl : Str) (lv : Nat) (ts : Bu 1) : rows ms tl 0 lv ts = (kids ts).map fun y => (ln y, (lineW, 0)) := rfl
/-- the rows of one part -/
def gR (ms : List Str) (tl : Str) (k lv : Nat) (part : Bu (k + 1)) : List (Str × Ro) := (roLine ms tl (nextW, lv), (nextW, lv)) :: rows ms tl k (lv + 1) part
theorem rows_succ (ms : List Str) (tl : Str) (k lv : Nat) (ts : Bu (k + 2)) : rows ms tl (k + 1) lv ts = (kids ts).flatMap (gR ms tl k lv) ++ [(roLine ms tl (endW, lv), (endW, lv))] := rfl
structure RoOk (n : Nat) (r : Ro) : Prop where
  w : r.1 = nextW ∨ r.1 = endW
  lo : 1 ≤ r.2
  hi : r.2 ≤ n
def RoAt (K : PySem.W.Frag) (H : Hp) (v : V) (r : Ro) : Prop := ∃ t, v = .ref t ∧ SqT K H t [.str r.1, .int ((r.2 : Nat) : Int)]
def RowAt (K : PySem.W.Frag) (H : Hp) (v : V) (q : Str × Ro) : Prop := ∃ a u, v = .ref a ∧ H a = some (.tup [.str q.1, u]) ∧ RoAt K H u q.2
/-- all but lists is as it was -/
def NL (H H' : Hp) : Prop := ∀ t o, H t = some o → (∀ ys, o ≠ .lst ys) → H' t = some o
theorem NL.same {H H' : Hp} (s : Same H H') : NL H H' := fun t o e _ => s t o e
theorem NL.updL {H H1 : Hp} {D : Addr} {xs : List V} {o : HO} (s : NL H H1) (h : H1 D = some (.lst xs)) : NL H (upd H1 D o) := fun t u e n => by
  have e1 := s t u e n
  have : t ≠ D := fun q => by
    rw [q, h] at e1
    cases e1
    exact n _ rfl
  rw [upd_ne this]
  exact e1
theorem NL.upd {H H1 : Hp} {D : Addr} {o : HO} (s : NL H H1) (h : H1 D = none) : NL H (upd H1 D o) := fun t u e n => by
  rw [upd_ne (ne_of_none (s t u e n) h)]
  exact s t u e n
theorem NL.trans {H H1 H2 : Hp} (a : NL H H1) (b : NL H1 H2) : NL H H2 := fun t u e n => b t u (a t u e n) n
theorem NL.sqT {K : PySem.W.Frag} {H H' : Hp} {a : Addr} {xs : List V} (s : NL H H') (h : SqT K H a xs) : SqT K H' a xs := by
  rcases h with (h | ⟨o, h⟩) | h
  · exact .inl (.inl (s _ _ h fun _ q => by cases q))
  · exact .inl (.inr ⟨o, s _ _ h fun _ q => by cases q⟩)
  · exact .inr h
theorem RowAt.imp {K : PySem.W.Frag} {H H' : Hp} {v : V} {q : Str × Ro} (s : NL H H') (h : RowAt K H v q) : RowAt K H' v q := by
  obtain ⟨a, u, e, h, t, et, ht⟩ := h
  exact ⟨a, u, e, s _ _ h (fun _ q => by cases q), t, et, s.sqT ht⟩
theorem Rows.imp {K : PySem.W.Frag} {H H' : Hp} {xs : List V} {qs : List (Str × Ro)} (s : NL H H') (h : Paired (RowAt K H) xs qs) : Paired (RowAt K H') xs qs := paired_imp h fun _ _ q => RowAt.imp s q
/-- how many rows there are, at most -/
def capR : Nat → Nat
  | 0 => 10
  | k + 1 => 10 * (1 + capR k) + 1
theorem flat_le {α β : Type} {f : α → List β} {n : Nat} : ∀ {xs : List α}, (∀ x ∈ xs, (f x).length ≤ n) → (xs.flatMap f).length ≤ xs.length * n
  | [], _ => Nat.zero_le _
  | x :: xs, h => by
    have ih := flat_le (xs := xs) fun y hy => h y (List.mem_cons_of_mem _ hy)
    have h1 := h x List.mem_cons_self
    rw [List.flatMap_cons, List.length_append, List.length_cons, Nat.succ_mul]
    omega
theorem rows_len {ms : List Str} {tl : Str} : ∀ {k lv : Nat} {t : Bu (k + 1)}, Few 10 (k + 1) t → (rows ms tl k lv t).length ≤ capR k
  | 0, _, t, h => by
    rw [rows_zero, List.length_map]
    exact h.1
  | k + 1, lv, t, h => by
    rw [rows_succ, List.length_append]
    have := flat_le (xs := kids t) (f := gR ms tl k lv) (n := 1 + capR k) fun x hx => by
      have := rows_len (ms := ms) (tl := tl) (lv := lv + 1) (h.2 x hx)
      show (rows ms tl k (lv + 1) x).length + 1 ≤ _
      omega
    have h1 := Nat.mul_le_mul_right (1 + capR k) h.1
    show _ + 1 ≤ 10 * (1 + capR k) + 1
    omega
theorem ro_len {z : Str} {ms : List Str} {tl : Str} (h : MarksOk z ms) (ht : TailOk z tl) (r : Ro) : (roLine ms tl r).length ≤ 15 := by
  unfold roLine
  rw [len_app]
  have e0 : (Str.ofString "").length = 0 := by decide +kernel
  have h1 : (ms.getD (r.2 - 1) (Str.ofString "")).length ≤ 12 := by
    rw [List.getD_eq_getElem?_getD]
    cases e : ms[r.2 - 1]? with
    | none =>
      show (Str.ofString "").length ≤ 12
      omega
    | some m => exact h.l2 m (List.mem_of_getElem? e)
  have h2 : (if r.1 = endW then tl else Str.ofString "").length ≤ 3 := by
    split
    · exact ht.l2
    · omega
  omega
def spLevelB : Sp := fun vs H Q _ => ∃ (n l : Nat), vs = [.int ((n : Nat) : Int), .int ((l : Nat) : Int)] ∧ 1 ≤ l ∧ l ≤ n ∧ Q (.bl true) H
def spRoleB (K : PySem.W.Frag) : Sp := fun vs H Q _ => ∃ (n : Nat) (t : Addr) (r : Ro), vs = [.int ((n : Nat) : Int), .ref t] ∧ H t = some (.tup [.str r.1, .int ((r.2 : Nat) : Int)]) ∧ RoOk n r ∧ Q (.bl true) H
def spCheckRole (K : PySem.W.Frag) : Sp := fun vs H Q _ => ∃ (n : Nat) (t : Addr) (r : Ro), vs = [.int ((n : Nat) : Int), .ref t] ∧ H t = some (.tup [.str r.1, .int ((r.2 : Nat) : Int)]) ∧ RoOk n r ∧ Q .non H
def spTreeOf (d : Nat) : Sp := fun vs H Q _ => ∃ (z : Str) (v : V) (b : Bool) (t : Bu (d + 1)), vs = [.str z, .int ((d : Nat) : Int), v] ∧ BuAt b H (d + 1) v t ∧ Alls (fun y => Over z y ∧ y.length ≤ 1000) (d + 1) t ∧ Few 10 (d + 1) t ∧ ∀ H', Same H H' → Q (.bl true) H'
def spCheckTree : Sp := fun vs H Q _ => ∃ (d : Nat) (z : Str) (v : V) (b : Bool) (t : Bu (d + 1)), vs = [.str z, .int ((d : Nat) : Int), v] ∧ d ≤ 3 ∧ BuAt b H (d + 1) v t ∧ Alls (fun y => Over z y ∧ y.length ≤ 1000) (d + 1) t ∧ Few 10 (d + 1) t ∧ ∀ H', Same H H' → Q .non H'
/-- a reader that stands -/
structure RdOk (z : Str) (ms : List Str) (tl : Str) (c : Cares) : Prop where
  az : Abc z
  ms : MarksOk z ms
  tl : TailOk z tl
  ca : CaresOk z c
def spRGetS (C : Addr) : Sp := fun vs H Q _ => ∃ (p : Addr) (z : Str) (ms : List Str) (tl : Str) (c : Cares), vs = [.ref p] ∧ ReaderAt C H p z ms tl c ∧ Q (.str z) H
def spRGetD (C : Addr) : Sp := fun vs H Q _ => ∃ (p : Addr) (z : Str) (ms : List Str) (tl : Str) (c : Cares), vs = [.ref p] ∧ ReaderAt C H p z ms tl c ∧ Q (.int ((ms.length : Nat) : Int)) H
def spRoleLine (C : Addr) : Sp := fun vs H Q _ => ∃ (p : Addr) (z : Str) (ms : List Str) (tl : Str) (c : Cares) (t : Addr) (r : Ro), vs = [.ref p, .ref t] ∧ ReaderAt C H p z ms tl c ∧ MarksOk z ms ∧ TailOk z tl ∧ H t = some (.tup [.str r.1, .int ((r.2 : Nat) : Int)]) ∧ RoOk ms.length r ∧ Q (.str (roLine ms tl r)) H
def spREq (C : Addr) : Sp := fun vs H Q _ => ∃ (p q : Addr) (z : Str) (ms : List Str) (tl : Str) (c : Cares), vs = [.ref p, .ref q] ∧ RdOk z ms tl c ∧ ReaderAt C H p z ms tl c ∧ ReaderAt C H q z ms tl c ∧ Q (.bl true) H
def spRows (K : PySem.W.Frag) (C : Addr) (k : Nat) : Sp := fun vs H Q _ => ∃ (p : Addr) (z : Str) (ms : List Str) (tl : Str) (c : Cares) (v : V) (lv : Nat) (b : Bool) (t : Bu (k + 2)), vs = [.ref p, v, .int ((lv : Nat) : Int)] ∧ ReaderAt C H p z ms tl c ∧ MarksOk z ms ∧ TailOk z tl ∧
  1 ≤ lv ∧ lv + k = ms.length ∧ BuAt b H (k + 2) v t ∧ Few 10 (k + 2) t ∧ ∀ (H' : Hp) (L : Addr) (xs : List V), Same H H' → H L = none → H' L = some (.lst xs) → Paired (RowAt K H') xs (rows ms tl (k + 1) lv t) → Q (.ref L) H'
def spWritten (C : Addr) : Sp := fun vs H Q _ => ∃ (p : Addr) (z : Str) (ms : List Str) (tl : Str) (c : Cares) (v : V) (b : Bool) (n : Nat) (t : Bu (n + 2)), vs = [.ref p, v] ∧ ReaderAt C H p z ms tl c ∧ MarksOk z ms ∧ TailOk z tl ∧ ms.length = n + 1 ∧ BuAt b H (n + 2) v t ∧
  Alls (fun y => Over z y ∧ y.length ≤ 1000) (n + 2) t ∧ Few 10 (n + 2) t ∧ ∀ (H' : Hp) (L : Addr), Same H H' → H L = none → H' L = some (.lst (((rows ms tl (n + 1) 1 t).map Prod.fst).map V.str)) → Q (.ref L) H'
def spOwnT (K : PySem.W.Frag) (C : Addr) : Sp := fun vs H Q _ => ∃ (p : Addr) (z : Str) (ms : List Str) (tl : Str) (c : Cares) (v : V) (b : Bool) (n : Nat) (t : Bu (n + 2)), vs = [.ref p, v] ∧ ReaderAt C H p z ms tl c ∧ MarksOk z ms ∧ TailOk z tl ∧ ms.length = n + 1 ∧ BuAt b H (n + 2) v t ∧
  Alls (fun y => Over z y ∧ y.length ≤ 1000) (n + 2) t ∧ Few 10 (n + 2) t ∧ ∀ (H' : Hp) (L : Addr) (xs : List V), Same H H' → H L = none → H' L = some (.lst xs) → Paired (RoAt K H') xs ((rows ms tl (n + 1) 1 t).map Prod.snd) → Q (.ref L) H'
def spIsTree (C : Addr) : Sp := fun vs H Q _ => ∃ (p : Addr) (z : Str) (ms : List Str) (tl : Str) (c : Cares) (v : V) (b : Bool) (n : Nat) (t : Bu (n + 2)), vs = [.ref p, v] ∧ ReaderAt C H p z ms tl c ∧ MarksOk z ms ∧ ms.length = n + 1 ∧ BuAt b H (n + 2) v t ∧
  Alls (fun y => Over z y ∧ y.length ≤ 1000) (n + 2) t ∧ Few 10 (n + 2) t ∧ ∀ H', Same H H' → Q (.bl true) H'
end FL
namespace FL
open PySem PySem.Spec PyProof.Rows L2 FL
theorem mq_signs_marks : ¬ (Str.ofString "signs") = Str.ofString "marks" := by decide +kernel
theorem mq_signs_tail : ¬ (Str.ofString "signs") = Str.ofString "tail" := by decide +kernel
theorem mq_signs_sight : ¬ (Str.ofString "signs") = Str.ofString "sight" := by decide +kernel
theorem mq_signs_order : ¬ (Str.ofString "signs") = Str.ofString "order" := by decide +kernel
theorem mq_signs_further : ¬ (Str.ofString "signs") = Str.ofString "further" := by decide +kernel
theorem mq_signs_finish : ¬ (Str.ofString "signs") = Str.ofString "finish" := by decide +kernel
theorem mq_marks_tail : ¬ (Str.ofString "marks") = Str.ofString "tail" := by decide +kernel
theorem mq_marks_sight : ¬ (Str.ofString "marks") = Str.ofString "sight" := by decide +kernel
theorem mq_marks_order : ¬ (Str.ofString "marks") = Str.ofString "order" := by decide +kernel
theorem mq_marks_further : ¬ (Str.ofString "marks") = Str.ofString "further" := by decide +kernel
theorem mq_marks_finish : ¬ (Str.ofString "marks") = Str.ofString "finish" := by decide +kernel
theorem mq_tail_sight : ¬ (Str.ofString "tail") = Str.ofString "sight" := by decide +kernel
theorem mq_tail_order : ¬ (Str.ofString "tail") = Str.ofString "order" := by decide +kernel
theorem mq_tail_further : ¬ (Str.ofString "tail") = Str.ofString "further" := by decide +kernel
theorem mq_tail_finish : ¬ (Str.ofString "tail") = Str.ofString "finish" := by decide +kernel
theorem mq_sight_order : ¬ (Str.ofString "sight") = Str.ofString "order" := by decide +kernel
theorem mq_sight_further : ¬ (Str.ofString "sight") = Str.ofString "further" := by decide +kernel
theorem mq_sight_finish : ¬ (Str.ofString "sight") = Str.ofString "finish" := by decide +kernel
theorem mq_order_further : ¬ (Str.ofString "order") = Str.ofString "further" := by decide +kernel
theorem mq_order_finish : ¬ (Str.ofString "order") = Str.ofString "finish" := by decide +kernel
theorem mq_further_finish : ¬ (Str.ofString "further") = Str.ofString "finish" := by decide +kernel
/-- the dict that tells what a reader is made of -/
def modelK (z : Str) (ma : Addr) (tl : Str) (c : Cares) : List (Key × V) := [((Sum.inr (Str.ofString "signs") : Key), V.str z), ((Sum.inr (Str.ofString "marks") : Key), V.ref ma), ((Sum.inr (Str.ofString "tail") : Key), V.str tl), ((Sum.inr (Str.ofString "sight") : Key), V.str c.si), ((Sum.inr (Str.ofString "order") : Key), V.str c.od), ((Sum.inr (Str.ofString "further") : Key), V.str c.fu), ((Sum.inr (Str.ofString "finish") : Key), V.str c.fi)]
theorem model_signs (z : Str) (ma : Addr) (tl : Str) (c : Cares) : valV (modelK z ma tl c) (Sum.inr (Str.ofString "signs")) = some (.str z) := by
  show valV (_ :: _) _ = _
  exact valV_pos rfl
theorem model_marks (z : Str) (ma : Addr) (tl : Str) (c : Cares) : valV (modelK z ma tl c) (Sum.inr (Str.ofString "marks")) = some (.ref ma) := by
  show valV (_ :: _ :: _) _ = _
  rw [valV_neg (keyN mq_signs_marks)]
  exact valV_pos rfl
theorem model_tail (z : Str) (ma : Addr) (tl : Str) (c : Cares) : valV (modelK z ma tl c) (Sum.inr (Str.ofString "tail")) = some (.str tl) := by
  show valV (_ :: _ :: _ :: _) _ = _
  rw [valV_neg (keyN mq_signs_tail), valV_neg (keyN mq_marks_tail)]
  exact valV_pos rfl
theorem model_sight (z : Str) (ma : Addr) (tl : Str) (c : Cares) : valV (modelK z ma tl c) (Sum.inr (Str.ofString "sight")) = some (.str c.si) := by
  show valV (_ :: _ :: _ :: _ :: _) _ = _
  rw [valV_neg (keyN mq_signs_sight), valV_neg (keyN mq_marks_sight), valV_neg (keyN mq_tail_sight)]
  exact valV_pos rfl
theorem model_order (z : Str) (ma : Addr) (tl : Str) (c : Cares) : valV (modelK z ma tl c) (Sum.inr (Str.ofString "order")) = some (.str c.od) := by
  show valV (_ :: _ :: _ :: _ :: _ :: _) _ = _
  rw [valV_neg (keyN mq_signs_order), valV_neg (keyN mq_marks_order), valV_neg (keyN mq_tail_order), valV_neg (keyN mq_sight_order)]
  exact valV_pos rfl
theorem model_further (z : Str) (ma : Addr) (tl : Str) (c : Cares) : valV (modelK z ma tl c) (Sum.inr (Str.ofString "further")) = some (.str c.fu) := by
  show valV (_ :: _ :: _ :: _ :: _ :: _ :: _) _ = _
  rw [valV_neg (keyN mq_signs_further), valV_neg (keyN mq_marks_further), valV_neg (keyN mq_tail_further), valV_neg (keyN mq_sight_further), valV_neg (keyN mq_order_further)]
  exact valV_pos rfl
theorem model_finish (z : Str) (ma : Addr) (tl : Str) (c : Cares) : valV (modelK z ma tl c) (Sum.inr (Str.ofString "finish")) = some (.str c.fi) := by
  show valV (_ :: _ :: _ :: _ :: _ :: _ :: _ :: _) _ = _
  rw [valV_neg (keyN mq_signs_finish), valV_neg (keyN mq_marks_finish), valV_neg (keyN mq_tail_finish), valV_neg (keyN mq_sight_finish), valV_neg (keyN mq_order_finish), valV_neg (keyN mq_further_finish)]
  exact valV_pos rfl
theorem put_signs (z : Str) (ma : Addr) (tl : Str) (c : Cares) : putK ([] : List (Key × V)) (Sum.inr (Str.ofString "signs")) (.str z) = [((Sum.inr (Str.ofString "signs") : Key), V.str z)] :=
  putK_new _ (by rfl)
theorem put_marks (z : Str) (ma : Addr) (tl : Str) (c : Cares) : putK [((Sum.inr (Str.ofString "signs") : Key), V.str z)] (Sum.inr (Str.ofString "marks")) (.ref ma) = [((Sum.inr (Str.ofString "signs") : Key), V.str z), ((Sum.inr (Str.ofString "marks") : Key), V.ref ma)] :=
  putK_new _ (by rw [valV_neg (keyN mq_signs_marks)]; rfl)
theorem put_tail (z : Str) (ma : Addr) (tl : Str) (c : Cares) : putK [((Sum.inr (Str.ofString "signs") : Key), V.str z), ((Sum.inr (Str.ofString "marks") : Key), V.ref ma)] (Sum.inr (Str.ofString "tail")) (.str tl) = [((Sum.inr (Str.ofString "signs") : Key), V.str z), ((Sum.inr (Str.ofString "marks") : Key), V.ref ma), ((Sum.inr (Str.ofString "tail") : Key), V.str tl)] :=
  putK_new _ (by rw [valV_neg (keyN mq_signs_tail), valV_neg (keyN mq_marks_tail)]; rfl)
theorem put_sight (z : Str) (ma : Addr) (tl : Str) (c : Cares) : putK [((Sum.inr (Str.ofString "signs") : Key), V.str z), ((Sum.inr (Str.ofString "marks") : Key), V.ref ma), ((Sum.inr (Str.ofString "tail") : Key), V.str tl)] (Sum.inr (Str.ofString "sight")) (.str c.si) = [((Sum.inr (Str.ofString "signs") : Key), V.str z), ((Sum.inr (Str.ofString "marks") : Key), V.ref ma), ((Sum.inr (Str.ofString "tail") : Key), V.str tl), ((Sum.inr (Str.ofString "sight") : Key), V.str c.si)] :=
  putK_new _ (by rw [valV_neg (keyN mq_signs_sight), valV_neg (keyN mq_marks_sight), valV_neg (keyN mq_tail_sight)]; rfl)
theorem put_order (z : Str) (ma : Addr) (tl : Str) (c : Cares) : putK [((Sum.inr (Str.ofString "signs") : Key), V.str z), ((Sum.inr (Str.ofString "marks") : Key), V.ref ma), ((Sum.inr (Str.ofString "tail") : Key), V.str tl), ((Sum.inr (Str.ofString "sight") : Key), V.str c.si)] (Sum.inr (Str.ofString "order")) (.str c.od) = [((Sum.inr (Str.ofString "signs") : Key), V.str z), ((Sum.inr (Str.ofString "marks") : Key), V.ref ma), ((Sum.inr (Str.ofString "tail") : Key), V.str tl), ((Sum.inr (Str.ofString "sight") : Key), V.str c.si), ((Sum.inr (Str.ofString "order") : Key), V.str c.od)] :=
  putK_new _ (by rw [valV_neg (keyN mq_signs_order), valV_neg (keyN mq_marks_order), valV_neg (keyN mq_tail_order), valV_neg (keyN mq_sight_order)]; rfl)
theorem put_further (z : Str) (ma : Addr) (tl : Str) (c : Cares) : putK [((Sum.inr (Str.ofString "signs") : Key), V.str z), ((Sum.inr (Str.ofString "marks") : Key), V.ref ma), ((Sum.inr (Str.ofString "tail") : Key), V.str tl), ((Sum.inr (Str.ofString "sight") : Key), V.str c.si), ((Sum.inr (Str.ofString "order") : Key), V.str c.od)] (Sum.inr (Str.ofString "further")) (.str c.fu) = [((Sum.inr (Str.ofString "signs") : Key), V.str z), ((Sum.inr (Str.ofString "marks") : Key), V.ref ma), ((Sum.inr (Str.ofString "tail") : Key), V.str tl), ((Sum.inr (Str.ofString "sight") : Key), V.str c.si), ((Sum.inr (Str.ofString "order") : Key), V.str c.od), ((Sum.inr (Str.ofString "further") : Key), V.str c.fu)] :=
  putK_new _ (by rw [valV_neg (keyN mq_signs_further), valV_neg (keyN mq_marks_further), valV_neg (keyN mq_tail_further), valV_neg (keyN mq_sight_further), valV_neg (keyN mq_order_further)]; rfl)
theorem put_finish (z : Str) (ma : Addr) (tl : Str) (c : Cares) : putK [((Sum.inr (Str.ofString "signs") : Key), V.str z), ((Sum.inr (Str.ofString "marks") : Key), V.ref ma), ((Sum.inr (Str.ofString "tail") : Key), V.str tl), ((Sum.inr (Str.ofString "sight") : Key), V.str c.si), ((Sum.inr (Str.ofString "order") : Key), V.str c.od), ((Sum.inr (Str.ofString "further") : Key), V.str c.fu)] (Sum.inr (Str.ofString "finish")) (.str c.fi) = [((Sum.inr (Str.ofString "signs") : Key), V.str z), ((Sum.inr (Str.ofString "marks") : Key), V.ref ma), ((Sum.inr (Str.ofString "tail") : Key), V.str tl), ((Sum.inr (Str.ofString "sight") : Key), V.str c.si), ((Sum.inr (Str.ofString "order") : Key), V.str c.od), ((Sum.inr (Str.ofString "further") : Key), V.str c.fu), ((Sum.inr (Str.ofString "finish") : Key), V.str c.fi)] :=
  putK_new _ (by rw [valV_neg (keyN mq_signs_finish), valV_neg (keyN mq_marks_finish), valV_neg (keyN mq_tail_finish), valV_neg (keyN mq_sight_finish), valV_neg (keyN mq_order_finish), valV_neg (keyN mq_further_finish)]; rfl)
def ModelAt (H : Hp) (d : Addr) (z : Str) (ms : List Str) (tl : Str) (c : Cares) : Prop := ∃ ma, H d = some (.dK (modelK z ma tl c)) ∧ H ma = some (.lst (ms.map V.str))
theorem ModelAt.same {H H' : Hp} {d : Addr} {z : Str} {ms : List Str} {tl : Str} {c : Cares} (h : ModelAt H d z ms tl c) (s : Same H H') : ModelAt H' d z ms tl c := by
  obtain ⟨ma, h1, h2⟩ := h
  exact ⟨ma, s _ _ h1, s _ _ h2⟩
theorem pot_nlst {H : Hp} {p : Addr} {ms : List Str} (hp : PotAt H p) : ¬ H p = some (.lst (ms.map V.str)) := fun h => by
  obtain ⟨a, b, e, _⟩ := hp
  rw [e] at h
  cases ms with
  | nil => cases h
  | cons m ms => cases h
theorem ModelAt.but {H H' : Hp} {d p : Addr} {z : Str} {ms : List Str} {tl : Str} {c : Cares} (h : ModelAt H d z ms tl c) (hp : PotAt H p) (b : But p H H') : ModelAt H' d z ms tl c := by
  obtain ⟨ma, h1, h2⟩ := h
  refine ⟨ma, b _ _ h1 (fun e => ?_), b _ _ h2 fun e => ?_⟩
  · obtain ⟨_, _, q, _⟩ := hp
    rw [← e, h1] at q
    cases q
  · rw [e] at h2
    exact pot_nlst hp h2
/-- marks as the law makes them -/
structure MkOk (z : Str) (ms : List Str) (n : Nat) : Prop where
  ov : ∀ m ∈ ms, Over z m
  l1 : ∀ m ∈ ms, 1 ≤ m.length
  l2 : ∀ m ∈ ms, m.length ≤ n
  nd : ms.Nodup
theorem MkOk.snoc {z : Str} {ms : List Str} {n : Nat} {m : Str} (h : MkOk z ms n) (o : Over z m) (a : 1 ≤ m.length) (b : m.length ≤ n + 1) (e : m ∉ ms) : MkOk z (ms ++ [m]) (n + 1) := by
  refine ⟨fun x hx => ?_, fun x hx => ?_, fun x hx => ?_, List.nodup_append.mpr ⟨h.nd, List.pairwise_singleton _ _, fun x hx y hy q => ?_⟩⟩
  · rcases List.mem_append.mp hx with q | q
    · exact h.ov x q
    · rw [List.mem_singleton.mp q]; exact o
  · rcases List.mem_append.mp hx with q | q
    · exact h.l1 x q
    · rw [List.mem_singleton.mp q]; exact a
  · rcases List.mem_append.mp hx with q | q
    · exact Nat.le_succ_of_le (h.l2 x q)
    · rw [List.mem_singleton.mp q]; exact b
  · rw [List.mem_singleton.mp hy] at q
    rw [q] at hx
    exact e hx
def glL : List Str := [Str.ofString "-a", Str.ofString "-.a", Str.ofString "-=>", Str.ofString "01", Str.ofString "-.=>", Str.ofString ".a|"]
theorem gl_all : ∀ z ∈ glL, 2 ≤ z.length ∧ z.length ≤ 4 ∧ z.cps.toList.Pairwise (· < ·) ∧ ∀ c ∈ z.cps.toList, c ∈ poolCodes := by decide +kernel
theorem gl_abc {z : Str} (h : z ∈ glL) : Abc z := by
  obtain ⟨a, b, c, d⟩ := gl_all z h
  exact ⟨a, b, c, d⟩
theorem str_of_mem {l : List Str} {v : V} (h : v ∈ l.map V.str) : ∃ z, z ∈ l ∧ v = .str z := by
  obtain ⟨z, hz, e⟩ := List.mem_map.mp h
  exact ⟨z, hz, e.symm⟩
theorem inV_mem {m : Str} : ∀ {ms : List Str}, inV (.str m) (ms.map V.str) = true → m ∈ ms
  | [], h => by cases h
  | x :: ms, h => by
    have h : (eqV (.str x) (.str m) || inV (.str m) (ms.map V.str)) = true := h
    rcases Bool.or_eq_true_iff.mp h with q | q
    · have : x = m := eq_of_beq (show (x == m) = true from q)
      rw [this]
      exact List.mem_cons_self
    · exact List.mem_cons_of_mem _ (inV_mem q)
theorem inV_of_mem {m : Str} : ∀ {ms : List Str}, m ∈ ms → inV (.str m) (ms.map V.str) = true
  | x :: ms, h => by
    show (eqV (.str x) (.str m) || inV (.str m) (ms.map V.str)) = true
    rcases List.mem_cons.mp h with rfl | q
    · rw [show eqV (.str m) (.str m) = true from beq_self_eq_true m]
      rfl
    · rw [inV_of_mem q, Bool.or_true]
theorem dget_of {H : Hp} {d : Addr} {kvs : List (Key × V)} {x : Str} {v : V} (h : H d = some (.dK kvs)) (e : valV kvs (Sum.inr x) = some v) : DGet H d (.str x) (some v) := by
  rw [← e]
  exact DGet.k (k := Sum.inr x) h
theorem app_nil (a : Str) : a ++ Str.ofString "" = a := by
  apply Str_ext
  rw [Str.cps_append, Array.toList_append, show (Str.ofString "").cps.toList = [] by decide +kernel, List.append_nil]
theorem ro_over {z : Str} {ms : List Str} {tl : Str} (h : MarksOk z ms) (ht : TailOk z tl) {r : Ro} (ok : RoOk ms.length r) : Over z (roLine ms tl r) := by
  unfold roLine
  have lo := ok.lo
  have hi := ok.hi
  have hlt : r.2 - 1 < ms.length := by omega
  have e : ms.getD (r.2 - 1) (Str.ofString "") = ms[r.2 - 1] := by rw [List.getD_eq_getElem?_getD, List.getElem?_eq_getElem hlt]; rfl
  rw [e]
  refine over_app (h.ov _ (List.getElem_mem hlt)) ?_
  split
  · exact ht.ov
  · intro c hc
    rw [show (Str.ofString "").cps.toList = [] by decide +kernel] at hc
    cases hc
theorem ro_short {ms : List Str} {tl : Str} {b c : Nat} (h : ∀ m ∈ ms, m.length ≤ b) (ht : tl.length ≤ c) {r : Ro} (ok : RoOk ms.length r) : (roLine ms tl r).length ≤ b + c := by
  unfold roLine
  have lo := ok.lo
  have hi := ok.hi
  have hlt : r.2 - 1 < ms.length := by omega
  have e : ms.getD (r.2 - 1) (Str.ofString "") = ms[r.2 - 1] := by rw [List.getD_eq_getElem?_getD, List.getElem?_eq_getElem hlt]; rfl
  have e0 : (Str.ofString "").length = 0 := by decide +kernel
  rw [e, len_app]
  have := h _ (List.getElem_mem hlt)
  split <;> omega
theorem bu0_map {b : Bool} {H : Hp} : ∀ {xs : List V} {ys : List (Bu 0)}, Paired (BuAt b H 0) xs ys → xs = ys.map fun y => V.str (ln y)
  | _, _, .nil => rfl
  | _, _, .cons a r => by
    rw [List.map_cons, ← bu0_map r]
    exact congrArg (· :: _) a
theorem rows0_fst (ms : List Str) (tl : Str) (lv : Nat) (t : Bu 1) : ((rows ms tl 0 lv t).map Prod.fst).map V.str = (kids t).map fun y => V.str (ln y) := by
  rw [rows_zero, List.map_map, List.map_map]
  rfl
theorem rows0_snd (ms : List Str) (tl : Str) (lv : Nat) (t : Bu 1) : (rows ms tl 0 lv t).map Prod.snd = List.replicate (kids t).length (lineW, 0) := by
  rw [rows_zero, List.map_map]
  show (kids t).map (fun _ => ((lineW, 0) : Ro)) = _
  induction (kids t) with
  | nil => rfl
  | cons y ys ih => rw [List.map_cons, ih]; rfl
theorem flat_one {α : Type} (x : α) : ∀ n, (List.replicate n [x]).flatten = List.replicate n x
  | 0 => rfl
  | n + 1 => by
    rw [List.replicate_succ, List.flatten_cons, flat_one x n]
    rfl
theorem paired_rep {α β : Type} {R : α → β → Prop} {x : α} {y : β} (h : R x y) : ∀ n, Paired R (List.replicate n x) (List.replicate n y)
  | 0 => .nil
  | n + 1 => .cons h (paired_rep h n)
def spMkReader (C : Addr) : Sp := fun vs H Q _ => ∃ (d : Addr) (z : Str) (ms : List Str) (tl : Str) (c : Cares), vs = [.ref d] ∧ ModelAt H d z ms tl c ∧ RdOk z ms tl c ∧ ∀ (q : Addr) (H' : Hp), H q = none → ReaderAt C H' q z ms tl c → Same H H' → Q (.ref q) H'
def spLLine : Sp := fun vs H Q _ => ∃ (d : Addr) (z : Str) (ms : List Str) (tl : Str) (c : Cares) (t : Addr) (r : Ro), vs = [.ref d, .ref t] ∧ ModelAt H d z ms tl c ∧ MarksOk z ms ∧ TailOk z tl ∧ H t = some (.tup [.str r.1, .int ((r.2 : Nat) : Int)]) ∧ RoOk ms.length r ∧ Q (.str (roLine ms tl r)) H
def spNear : Sp := fun vs H Q _ => ∃ (p d : Addr) (z : Str) (ms : List Str) (tl : Str) (c : Cares), vs = [.ref p, .ref d] ∧ PotAt H p ∧ ModelAt H d z ms tl c ∧ RdOk z ms tl c ∧ (∀ m ∈ ms, m.length ≤ 4) ∧ tl.length ≤ 2 ∧
  ∀ (y : Str) (H' : Hp), Over z y → y.length ≤ 7 → PotAt H' p → But p H H' → Q (.str y) H'
/-- lists alone, each at an address of A -/
def BuF (A : Addr → Prop) (H : Hp) : (d : Nat) → V → Bu d → Prop
  | 0, v, y => v = .str (ln y)
  | d + 1, v, ts => ∃ (a : Addr) (xs : List V), v = .ref a ∧ A a ∧ H a = some (.lst xs) ∧ Paired (BuF A H d) xs (kids ts)
theorem BuF.at_ {A : Addr → Prop} {H : Hp} : ∀ {d : Nat} {v : V} {t : Bu d}, BuF A H d v t → BuAt false H d v t
  | 0, _, _, h => h
  | d + 1, _, _, ⟨a, xs, e, _, h, p⟩ => ⟨a, xs, e, h, paired_imp p fun _ _ q => BuF.at_ q⟩
theorem BuF.imp {A A' : Addr → Prop} {H H' : Hp} (k : ∀ a, A a → A' a) (s : ∀ a xs, A a → H a = some (.lst xs) → H' a = some (.lst xs)) : ∀ {d : Nat} {v : V} {t : Bu d}, BuF A H d v t → BuF A' H' d v t
  | 0, _, _, h => h
  | d + 1, _, _, ⟨a, xs, e, ha, h, p⟩ => ⟨a, xs, e, k a ha, s a xs ha h, paired_imp p fun _ _ q => BuF.imp k s q⟩
theorem BuF.imp' {A : Addr → Prop} {H H' : Hp} (s : ∀ a xs, A a → H a = some (.lst xs) → (∀ b c : Int, xs ≠ [.int b, .int c]) → H' a = some (.lst xs)) : ∀ {d : Nat} {v : V} {t : Bu d}, BuF A H d v t → BuF A H' d v t
  | 0, _, _, h => h
  | d + 1, _, ts, ⟨a, xs, e, ha, h, p⟩ => ⟨a, xs, e, ha, s a xs ha h (fun b c q => by
      rw [q] at p
      obtain ⟨y, _, hy⟩ := L2.paired_get p (i := 0) rfl
      cases d with
      | zero => cases hy
      | succ d =>
        obtain ⟨_, _, e, _⟩ := hy
        cases e), paired_imp p fun _ _ q => BuF.imp' s q⟩
theorem BuF.but {A : Addr → Prop} {H H' : Hp} {p : Addr} {d : Nat} {v : V} {t : Bu d} (hp : PotAt H p) (b : But p H H') (h : BuF A H d v t) : BuF A H' d v t :=
  BuF.imp' (fun a xs _ e n => b a _ e fun q => by
    obtain ⟨x, y, e2, _⟩ := hp
    rw [q, e2] at e
    cases e
    exact n x y rfl) h
theorem bu0_new {A : Addr → Prop} {H : Hp} : ∀ ys : List (Bu 0), Paired (BuF A H 0) (ys.map fun y => V.str (ln y)) ys
  | [] => .nil
  | _ :: ys => .cons rfl (bu0_new ys)
def spBush (d : Nat) : Sp := fun vs H Q _ => ∃ (p m : Addr) (z : Str) (ms : List Str) (tl : Str) (c : Cares), vs = [.ref p, .ref m, .int ((d : Nat) : Int), .int 3] ∧ PotAt H p ∧ ModelAt H m z ms tl c ∧ RdOk z ms tl c ∧ (∀ m ∈ ms, m.length ≤ 4) ∧ tl.length ≤ 2 ∧
  ∀ (v : V) (t : Bu (d + 1)) (H' : Hp), BuF (fun a => H a = none) H' (d + 1) v t → Alls (fun y => Over z y ∧ y.length ≤ 7) (d + 1) t → Few 3 (d + 1) t → PotAt H' p → But p H H' → Q v H'
def spMail (k : Nat) : Sp := fun vs H Q _ => ∃ (d : Addr) (z : Str) (ms : List Str) (tl : Str) (c : Cares) (v : V) (lv : Nat) (t : Bu (k + 1)), vs = [.ref d, v, .int ((lv : Nat) : Int)] ∧ ModelAt H d z ms tl c ∧ MarksOk z ms ∧ TailOk z tl ∧ 1 ≤ lv ∧ lv + k = ms.length + 1 ∧ BuAt false H (k + 1) v t ∧ Few 10 (k + 1) t ∧
  ∀ (H' : Hp) (L : Addr), Same H H' → H L = none → H' L = some (.lst (((rows ms tl k lv t).map Prod.fst).map V.str)) → Q (.ref L) H'
def spDue (K : PySem.W.Frag) (k : Nat) : Sp := fun vs H Q _ => ∃ (d : Addr) (z : Str) (ms : List Str) (tl : Str) (c : Cares) (v : V) (lv : Nat) (t : Bu (k + 1)), vs = [.ref d, v, .int ((lv : Nat) : Int)] ∧ ModelAt H d z ms tl c ∧ MarksOk z ms ∧ 1 ≤ lv ∧ lv + k = ms.length + 1 ∧ BuAt false H (k + 1) v t ∧ Few 10 (k + 1) t ∧
  ∀ (H' : Hp) (L : Addr) (xs : List V), Same H H' → H L = none → H' L = some (.lst xs) → Paired (RoAt K H') xs ((rows ms tl k lv t).map Prod.snd) → Q (.ref L) H'
def spAsTup (k : Nat) : Sp := fun vs H Q _ => ∃ (v : V) (t : Bu (k + 1)), vs = [v] ∧ BuAt false H (k + 1) v t ∧ Few 10 (k + 1) t ∧ ∀ (H' : Hp) (u : V), Same H H' → BuAt true H' (k + 1) u t → Q u H'
def spModel : Sp := fun vs H Q _ => ∃ p : Addr, vs = [.ref p] ∧ PotAt H p ∧ ∀ (d : Addr) (z : Str) (ms : List Str) (tl : Str) (c : Cares) (H' : Hp), H d = none → ModelAt H' d z ms tl c → RdOk z ms tl c → (∀ m ∈ ms, m.length ≤ 4) → tl.length ≤ 2 → PotAt H' p → But p H H' → Q (.ref d) H'
end FL
namespace K68
open PySem PySem.Spec PyProof.Rows L2 FL
abbrev sModel : Stmt := topS 101
abbrev nModel : List Str := ["_law_pot_here", "_law_signs", "_law_marks", "_law_turn_here", "_law_mark", "_law_found"]
theorem scModel : FnScope nModel ["_law_pot_here"] (defScope sModel) := ⟨rfl, rfl, rfl, by decide +kernel, rfl, by decide +kernel, by decide +kernel⟩
/-- longer than all marks at its end -/
def muM (n : Nat) (σ : L2.St) (_ : Hp) : Nat := match σ[4]? with
  | some (some (V.str y)) => n + 1 - y.length
  | _ => 0
section
variable {P : Program} {w : World} {K : PySem.W.Frag} {mg : Str → Option Value} {base : Heap}
theorem ok_model {f : Addr} {fd : FuncData} (F : Fun K "_law_model" "_law_model" sModel f fd) (mR : mg "range" = none)
    (cD : Ca P w K mg base "_law_draw" 1 ["_law_pot_here", "_law_many"] spDraw) (cP : Ca P w K mg base "_law_pick" 2 ["_law_pot_here", "_law_things"] (spPick K)) (cL : Ca P w K mg base "_law_line" 3 ["_law_pot_here", "_law_signs", "_law_most"] spNote) :
    FnOk P w K mg base CX0 4 f fd ["_law_pot_here"] spModel := by
  refine F.ok scModel (fun vs H Q E h => ?_) (fun cdv A outer s H vs Q E hr h => ?_)
  · obtain ⟨_, rfl, _⟩ := h
    rfl
  · obtain ⟨p, rfl, hp, k⟩ := h
    have nd := scModel.nd
    have hu := hu_of hr
    have sz : sizeLine = 16777216 := rfl
    have r1 := hr.mono (show 1 ≤ 3 by decide)
    have r2 := hr.mono (show 2 ≤ 3 by decide)
    refine ⟨_, pss_cons (ps_set (i := 1) nd rfl (.inl rfl) (pe_ca cP r2 (by rfl) (pa_cons (pv 0) (pa_cons (pe_lst (pa_cons pe_str (pa_cons pe_str (pa_cons pe_str (pa_cons pe_str (pa_cons pe_str (pa_cons pe_str pa_nil))))))) pa_nil))))
      (pss_cons (ps_set (i := 2) nd rfl (.inl rfl) (pe_lst pa_nil))
      (C8.pss_cut (ps_for PassesOwn.never rfl (pi_range1 (by rfl) mR (pa_cons (pe_op op_add pe_int (pe_ca cD r1 (by rfl) (pa_cons (pv 0) (pa_cons pe_int pa_nil)))) pa_nil)) (pg_name (i := 3) nd rfl (.inl rfl))
        (pss_cons (ps_set (i := 4) nd rfl (.inl rfl) (pe_op op_add_str (pe_ca cP r2 (by rfl) (pa_cons (pv 0) (pa_cons (pv 1) pa_nil))) (pe_ca cL hr (by rfl) (pa_cons (pv 0) (pa_cons (pv 1) (pa_cons pe_int pa_nil))))))
        (C8.pss_cut (ps_while PassesOwn.never (pt_cmpR op_in_seq (pv 4) (pv 2) (by rfl))
          (pss_one (ps_set (i := 4) nd rfl (.inl rfl) (pe_op op_add_str (pv 4) (pe_ix ix_str (pv 1) pe_int (fun _ _ => rfl))))))
        (pss_one (ps_expr (pe_bm PySem.F.plainAttrs_list PySem.F.slot_list_append PySem.F.type_list_append mtAppend (pv 2) (pa_cons (pv 4) pa_nil)))))))
      (pss_cons (ps_set (i := 5) nd rfl (.inl rfl) (pe_disp (pps_cons pe_str (pv 1) (pps_cons pe_str (pv 2) (pps_cons pe_str (pe_op op_add_str (pe_ca cP r2 (by rfl) (pa_cons (pv 0) (pa_cons (pv 1) pa_nil))) (pe_ca cL hr (by rfl) (pa_cons (pv 0) (pa_cons (pv 1) (pa_cons pe_int pa_nil))))) pps_nil))) (by rfl) (by rfl) (fun z => by cases z) (by decide)))
      (pss_cons (ps_dput hu (pv 5) pe_str (pe_ca cP r2 (by rfl) (pa_cons (pv 0) (pa_cons (pe_lst (pa_cons pe_str (pa_cons pe_str (pa_cons pe_str (pa_cons (pe_ix ix_str (pv 1) pe_int (fun _ _ => rfl)) (pa_cons (pe_ix ix_str (pv 1) (pe_un un_neg pe_int) (fun _ _ => rfl)) pa_nil)))))) pa_nil))) rfl)
      (pss_cons (ps_dput hu (pv 5) pe_str (pe_ca cP r2 (by rfl) (pa_cons (pv 0) (pa_cons (pe_lst (pa_cons pe_str (pa_cons pe_str pa_nil))) pa_nil))) rfl)
      (pss_cons (ps_dput hu (pv 5) pe_str (pe_ca cP r2 (by rfl) (pa_cons (pv 0) (pa_cons (pe_lst (pa_cons pe_str (pa_cons pe_str pa_nil))) pa_nil))) rfl)
      (pss_cons (ps_dput hu (pv 5) pe_str (pe_ca cP r2 (by rfl) (pa_cons (pv 0) (pa_cons (pe_lst (pa_cons pe_str (pa_cons pe_str pa_nil))) pa_nil))) rfl)
      (pss_one (ps_ret (pv 5)))))))))), ?_⟩
    -- the signs
    refine ⟨_, rfl, (by show 6 ≤ sizeLine; decide), fun L hL => ?_⟩
    have p1 : PotAt (upd H L (.lst (glL.map V.str))) p := hp.upd (hp.ne hL)
    have b1 : But p H (upd H L (.lst (glL.map V.str))) := (But.refl p H).upd hL
    refine ⟨p, _, rfl, p1, .inl ⟨L, glL.map V.str, rfl, Ne.symm (hp.ne hL), SqL.of upd_same, (by show 0 < 6; decide), (by show 6 ≤ 1000; decide), fun v H2 hv p2 b2 => ?_⟩⟩
    obtain ⟨z, hz, rfl⟩ := str_of_mem hv
    have az := gl_abc hz
    have zlo := az.lo
    have zhi := az.hi
    obtain ⟨c0, c1, r, hcs⟩ := two_signs zlo
    have B2 : But p H H2 := b1.trans b2
    clear b1 b2 p1 hv
    refine ⟨by decide, fun M hM => ?_⟩
    have hM0 : H M = none := But.new B2 hp hM p2
    have npM : p ≠ M := p2.ne hM
    refine ⟨fun σ' H' => ∃ (o3 o4 : Option V) (ms : List Str), σ' = [some (.ref p), some (.str z), some (.ref M), o3, o4, none] ∧ PotAt H' p ∧ But p H H' ∧ H' M = some (.lst (ms.map V.str)) ∧ 1 ≤ ms.length ∧ ms.length ≤ 3 ∧ MkOk z ms 4, ?_, ?_⟩
    · refine ⟨_, rfl, p, 3, rfl, p2.upd npM, by decide, by decide, fun d H3 d0 d1 p3 b3 => ?_⟩
      refine ⟨1, d, rfl, rfl, 1 + d, rfl, by omega, by omega, ?_⟩
      have gM := b3 M _ upd_same (Ne.symm npM)
      have B3 : But p H H3 := (B2.upd hM0).trans b3
      refine for_range (lo := 0) (n := (1 + d).toNat) (fun i σ Hi => ∃ (o3 o4 : Option V) (ms : List Str), σ = [some (.ref p), some (.str z), some (.ref M), o3, o4, none] ∧ PotAt Hi p ∧ But p H Hi ∧ Hi M = some (.lst (ms.map V.str)) ∧ ms.length = i ∧ MkOk z ms (i + 1)) ?_ ?_ ?_
      · exact ⟨_, _, [], rfl, p3, B3, gM, rfl, ⟨fun _ h => (nomatch h), fun _ h => (nomatch h), fun _ h => (nomatch h), List.Pairwise.nil⟩⟩
      · rintro i σ Hi hi ⟨o3, o4, ms, rfl, pi, bi, gMi, lm, om⟩
        have hi3 : i < 3 := by omega
        refine ⟨_, rfl, _, rfl, p, _, rfl, pi, .inr ⟨z, rfl, by omega, by omega, fun c H4 hc p4 b4 => ?_⟩⟩
        refine ⟨_, rfl, _, rfl, p, z, 1, rfl, p4, by omega, by omega, by decide, by decide, fun y H5 oy ly p5 b5 => ?_⟩
        refine ⟨_, _, rfl, rfl, by rw [len_one, sz]; omega, ?_⟩
        have B5 : But p Hi H5 := b4.trans b5
        have gM5 := B5 M _ gMi (Ne.symm npM)
        refine ⟨fun σ' H' => ∃ m : Str, σ' = [some (.ref p), some (.str z), some (.ref M), some (.int (0 + i)), some (.str m), none] ∧ H' = H5 ∧ Over z m ∧ 1 ≤ m.length ∧ m.length ≤ i + 2 ∧ m ∉ ms, ?_, ?_⟩
        · refine while_by (fun σ' H' => ∃ m : Str, σ' = [some (.ref p), some (.str z), some (.ref M), some (.int (0 + i)), some (.str m), none] ∧ H' = H5 ∧ Over z m ∧ 1 ≤ m.length ∧ m.length ≤ i + 2) (muM (i + 1)) ?_ ?_ ?_
          · exact ⟨_, rfl, rfl, over_app (over_one hc) oy, by rw [len_app, len_one]; omega, by rw [len_app, len_one]; omega⟩
          · rintro σ' H' ⟨m, rfl, rfl, ovm, lm1, lm2⟩
            refine ⟨_, rfl, _, rfl, M, _, rfl, .inl (SqL.of gM5), rfl, flat_strs ms, _, rfl, ?_⟩
            cases q : inV (.str m) (ms.map V.str) with
            | true =>
              have hm := inV_mem q
              have lmm := om.l2 m hm
              refine iteT ?_
              refine ⟨_, rfl, _, rfl, z, 0, c0, rfl, rfl, by rw [sz]; omega, by rw [hcs]; exact atI_0, _, _, rfl, rfl, by rw [len_one, sz]; omega, ?_⟩
              refine ⟨⟨m ++ ⟨#[c0]⟩, rfl, rfl, over_app ovm (over_one (by rw [hcs]; exact List.mem_cons_self)), by rw [len_app, len_one]; omega, by rw [len_app, len_one]; omega⟩, ?_⟩
              show i + 1 + 1 - (m ++ (⟨#[c0]⟩ : Str)).length < i + 1 + 1 - m.length
              rw [len_app, len_one]
              omega
            | false =>
              refine iteF ?_
              exact ⟨m, rfl, rfl, ovm, lm1, lm2, fun h => by rw [show inV (.str m) (ms.map V.str) = true from inV_of_mem h] at q; cases q⟩
          · rintro σ' H' Q1 Q2 hq ⟨x, hx, y', hy', a, ws, e1, e2, e3, e4, kk, ek, h⟩
            exact ⟨x, hx, y', hy', a, ws, e1, e2, e3, e4, kk, ek, hq _ _ h⟩
        · rintro σ' H' ⟨m, rfl, rfl, ovm, lm1, lm2, ni⟩
          refine ⟨_, rfl, .inl ⟨rfl, _, SqL.of gM5⟩, _, rfl, M, _, _, rfl, rfl, gM5, by rw [List.length_map, sz]; omega, ?_⟩
          refine ⟨_, _, ms ++ [m], rfl, p5.upd npM, (bi.trans B5).upd hM0, ?_, by rw [List.length_append, lm]; rfl, om.snoc ovm lm1 lm2 ni⟩
          rw [upd_same, List.map_append]
          rfl
      · rintro σ Hi ⟨o3, o4, ms, rfl, pi, bi, gMi, lm, om⟩
        exact ⟨_, _, ms, rfl, pi, bi, gMi, by omega, by omega, ⟨om.ov, om.l1, fun m hm => Nat.le_trans (om.l2 m hm) (by omega), om.nd⟩⟩
    -- the dict
    · rintro σ' H3 ⟨o3, o4, ms, rfl, p3, B3, gM, l1, l3, om⟩
      intro d hd
      have npd : p ≠ d := p3.ne hd
      have nMd : M ≠ d := ne_of_none gM hd
      have hd0 : H d = none := But.new B3 hp hd p3
      have e4 : upd H3 d (.dK []) d = some (.dK []) := upd_same
      refine ⟨_, rfl, _, rfl, _, rfl, _, rfl, p, _, rfl, p3.upd npd, .inr ⟨z, rfl, by omega, by omega, fun c H4 hc p4 b4 => ?_⟩⟩
      refine ⟨_, rfl, _, rfl, p, z, 1, rfl, p4, by omega, by omega, by decide, by decide, fun y H5 oy ly p5 b5 => ?_⟩
      refine ⟨_, _, rfl, rfl, by rw [len_one, sz]; omega, ?_⟩
      have ot : TailOk z (⟨#[c]⟩ ++ y) ∧ (⟨#[c]⟩ ++ y : Str).length ≤ 2 := by
        have e : (⟨#[c]⟩ ++ y : Str).length = 1 + y.length := by rw [len_app, len_one]
        exact ⟨⟨over_app (over_one hc) oy, by omega, by omega⟩, by omega⟩
      obtain ⟨ot, lt⟩ := ot
      have b45 := b4.trans b5
      have gd5 := b45 d _ e4 (Ne.symm npd)
      have gM5 := b45 M _ (by rw [upd_ne nMd]; exact gM) (Ne.symm npM)
      have B5 : But p H H5 := (B3.upd hd0).trans b45
      generalize (⟨#[c]⟩ ++ y : Str) = tl at ot lt ⊢
      clear b4 b5 b45 e4
      refine ⟨gd5, [(Sum.inr (Str.ofString "signs"), .str z), (Sum.inr (Str.ofString "marks"), .ref M), (Sum.inr (Str.ofString "tail"), .str tl)], rfl, (by show 3 ≤ 15; decide), ?_⟩
      have em : mergeK [] [(Sum.inr (Str.ofString "signs"), .str z), (Sum.inr (Str.ofString "marks"), .ref M), (Sum.inr (Str.ofString "tail"), .str tl)] = [((Sum.inr (Str.ofString "signs") : Key), V.str z), (Sum.inr (Str.ofString "marks"), .ref M), (Sum.inr (Str.ofString "tail"), .str tl)] := by
        unfold mergeK
        simp only [List.foldl_cons, List.foldl_nil]
        rw [put_signs z M tl ⟨z, z, z, z⟩, put_marks z M tl ⟨z, z, z, z⟩, put_tail z M tl ⟨z, z, z, z⟩]
      rw [em]
      have p6 := p5.upd (o := .dK [((Sum.inr (Str.ofString "signs") : Key), V.str z), (Sum.inr (Str.ofString "marks"), .ref M), (Sum.inr (Str.ofString "tail"), .str tl)]) npd
      have gd6 : upd H5 d (.dK [((Sum.inr (Str.ofString "signs") : Key), V.str z), (Sum.inr (Str.ofString "marks"), .ref M), (Sum.inr (Str.ofString "tail"), .str tl)]) d = some (.dK [((Sum.inr (Str.ofString "signs") : Key), V.str z), (Sum.inr (Str.ofString "marks"), .ref M), (Sum.inr (Str.ofString "tail"), .str tl)]) := upd_same
      have gM6 : upd H5 d (.dK [((Sum.inr (Str.ofString "signs") : Key), V.str z), (Sum.inr (Str.ofString "marks"), .ref M), (Sum.inr (Str.ofString "tail"), .str tl)]) M = some (.lst (ms.map V.str)) := by rw [upd_ne nMd]; exact gM5
      have B6 := B5.upd (o := .dK [((Sum.inr (Str.ofString "signs") : Key), V.str z), (Sum.inr (Str.ofString "marks"), .ref M), (Sum.inr (Str.ofString "tail"), .str tl)]) hd0
      generalize upd H5 d (.dK [((Sum.inr (Str.ofString "signs") : Key), V.str z), (Sum.inr (Str.ofString "marks"), .ref M), (Sum.inr (Str.ofString "tail"), .str tl)]) = H6 at p6 gd6 gM6 B6 ⊢
      clear gd5 gM5 B5 p5 p4 B3 p3 gM hd
      -- the cares, one by one
      obtain ⟨r', cl, hlast⟩ : ∃ r' cl, z.cps.toList = r' ++ [cl] := by
        have ne : z.cps.toList ≠ [] := by rw [hcs]; simp
        exact ⟨_, _, (List.dropLast_concat_getLast ne).symm⟩
      refine ⟨_, rfl, _, rfl, z, 0, c0, rfl, rfl, by rw [sz]; omega, by rw [hcs]; exact atI_0, _, rfl, 1, rfl, z, -1, cl, rfl, rfl, by rw [sz]; omega, by rw [hlast]; exact atI_last _ _, ?_⟩
      refine ⟨(by show 5 ≤ sizeLine; decide), fun L7 h7 => ?_⟩
      have step : ∀ {H6 : Hp} {L7 : Addr} {ws : List Str} {kvs : List (Key × V)}, PotAt H6 p → H6 L7 = none → H6 d = some (.dK kvs) → H6 M = some (.lst (ms.map V.str)) → But p H H6 →
          PotAt (upd H6 L7 (.lst (ws.map V.str))) p ∧ L7 ≠ p ∧ ∀ H8, PotAt H8 p → But p (upd H6 L7 (.lst (ws.map V.str))) H8 → H8 d = some (.dK kvs) ∧ H8 M = some (.lst (ms.map V.str)) ∧ But p H H8 := by
        intro H6 L7 ws kvs p6 h7 gd gm B
        refine ⟨p6.upd (p6.ne h7), Ne.symm (p6.ne h7), fun H8 p8 b8 => ⟨b8 d _ (by rw [upd_ne (ne_of_none gd h7)]; exact gd) (Ne.symm npd), b8 M _ (by rw [upd_ne (ne_of_none gm h7)]; exact gm) (Ne.symm npM), (B.upd (But.new B hp h7 p6)).trans b8⟩⟩
      have put : ∀ {H8 : Hp} {kvs : List (Key × V)}, PotAt H8 p → H8 M = some (.lst (ms.map V.str)) → But p H H8 → PotAt (upd H8 d (.dK kvs)) p ∧ upd H8 d (.dK kvs) d = some (.dK kvs) ∧ upd H8 d (.dK kvs) M = some (.lst (ms.map V.str)) ∧ But p H (upd H8 d (.dK kvs)) := by
        intro H8 kvs p8 gm B
        exact ⟨p8.upd npd, upd_same, by rw [upd_ne nMd]; exact gm, B.upd hd0⟩
      obtain ⟨q7, n7, s7⟩ := step (ws := [Str.ofString "whole", Str.ofString "whole", Str.ofString "start", ⟨#[c0]⟩, ⟨#[cl]⟩]) p6 h7 gd6 gM6 B6
      refine ⟨p, _, rfl, q7, .inl ⟨L7, [Str.ofString "whole", Str.ofString "whole", Str.ofString "start", ⟨#[c0]⟩, ⟨#[cl]⟩].map V.str, rfl, n7, SqL.of upd_same, (by show 0 < 5; decide), (by show 5 ≤ 1000; decide), fun v H8 hv p8 b8 => ?_⟩⟩
      obtain ⟨g8, m8, B8⟩ := s7 H8 p8 b8
      obtain ⟨si, hsi, rfl⟩ := str_of_mem hv
      have osi : SightOk z si := by
        simp only [List.mem_cons, List.mem_nil_iff, or_false] at hsi
        rcases hsi with rfl | rfl | rfl | rfl | rfl
        · exact .inl rfl
        · exact .inl rfl
        · exact .inr (.inl rfl)
        · exact .inr (.inr ⟨over_one (by rw [hcs]; exact List.mem_cons_self), rfl⟩)
        · exact .inr (.inr ⟨over_one (by rw [hlast]; exact List.mem_append_right _ List.mem_cons_self), rfl⟩)
      clear hv hsi s7 q7 b8
      refine ⟨_, rfl, d, _, rfl, DPut.k (k := Sum.inr (Str.ofString "sight")) g8 (by show 3 < sizeLine; decide), ?_⟩
      rw [put_sight z M tl ⟨si, si, si, si⟩]
      obtain ⟨p9, g9, m9, B9⟩ := put (kvs := [((Sum.inr (Str.ofString "signs") : Key), V.str z), (Sum.inr (Str.ofString "marks"), .ref M), (Sum.inr (Str.ofString "tail"), .str tl), (Sum.inr (Str.ofString "sight"), .str si)]) p8 m8 B8
      refine ⟨_, rfl, (by show 2 ≤ sizeLine; decide), fun L10 h10 => ?_⟩
      obtain ⟨q10, n10, s10⟩ := step (ws := [Str.ofString "inner", Str.ofString "outer"]) p9 h10 g9 m9 B9
      refine ⟨p, _, rfl, q10, .inl ⟨L10, [Str.ofString "inner", Str.ofString "outer"].map V.str, rfl, n10, SqL.of upd_same, (by show 0 < 2; decide), (by show 2 ≤ 1000; decide), fun v H11 hv p11 b11 => ?_⟩⟩
      obtain ⟨g11, m11, B11⟩ := s10 H11 p11 b11
      obtain ⟨od, hod, rfl⟩ := str_of_mem hv
      have ood : od = Str.ofString "inner" ∨ od = Str.ofString "outer" := by simpa using hod
      clear hv hod s10 q10 b11
      refine ⟨_, rfl, d, _, rfl, DPut.k (k := Sum.inr (Str.ofString "order")) g11 (by show 4 < sizeLine; decide), ?_⟩
      rw [put_order z M tl ⟨si, od, od, od⟩]
      obtain ⟨p12, g12, m12, B12⟩ := put (kvs := [((Sum.inr (Str.ofString "signs") : Key), V.str z), (Sum.inr (Str.ofString "marks"), .ref M), (Sum.inr (Str.ofString "tail"), .str tl), (Sum.inr (Str.ofString "sight"), .str si), (Sum.inr (Str.ofString "order"), .str od)]) p11 m11 B11
      refine ⟨_, rfl, (by show 2 ≤ sizeLine; decide), fun L13 h13 => ?_⟩
      obtain ⟨q13, n13, s13⟩ := step (ws := [Str.ofString "refuse", Str.ofString "close"]) p12 h13 g12 m12 B12
      refine ⟨p, _, rfl, q13, .inl ⟨L13, [Str.ofString "refuse", Str.ofString "close"].map V.str, rfl, n13, SqL.of upd_same, (by show 0 < 2; decide), (by show 2 ≤ 1000; decide), fun v H14 hv p14 b14 => ?_⟩⟩
      obtain ⟨g14, m14, B14⟩ := s13 H14 p14 b14
      obtain ⟨fu, hfu, rfl⟩ := str_of_mem hv
      have ofu : fu = Str.ofString "refuse" ∨ fu = Str.ofString "close" := by simpa using hfu
      clear hv hfu s13 q13 b14
      refine ⟨_, rfl, d, _, rfl, DPut.k (k := Sum.inr (Str.ofString "further")) g14 (by show 5 < sizeLine; decide), ?_⟩
      rw [put_further z M tl ⟨si, od, fu, fu⟩]
      obtain ⟨p15, g15, m15, B15⟩ := put (kvs := [((Sum.inr (Str.ofString "signs") : Key), V.str z), (Sum.inr (Str.ofString "marks"), .ref M), (Sum.inr (Str.ofString "tail"), .str tl), (Sum.inr (Str.ofString "sight"), .str si), (Sum.inr (Str.ofString "order"), .str od), (Sum.inr (Str.ofString "further"), .str fu)]) p14 m14 B14
      refine ⟨_, rfl, (by show 2 ≤ sizeLine; decide), fun L16 h16 => ?_⟩
      obtain ⟨q16, n16, s16⟩ := step (ws := [Str.ofString "refuse", Str.ofString "close"]) p15 h16 g15 m15 B15
      refine ⟨p, _, rfl, q16, .inl ⟨L16, [Str.ofString "refuse", Str.ofString "close"].map V.str, rfl, n16, SqL.of upd_same, (by show 0 < 2; decide), (by show 2 ≤ 1000; decide), fun v H17 hv p17 b17 => ?_⟩⟩
      obtain ⟨g17, m17, B17⟩ := s16 H17 p17 b17
      obtain ⟨fi, hfi, rfl⟩ := str_of_mem hv
      have ofi : fi = Str.ofString "refuse" ∨ fi = Str.ofString "close" := by simpa using hfi
      clear hv hfi s16 q16 b17
      refine ⟨_, rfl, d, _, rfl, DPut.k (k := Sum.inr (Str.ofString "finish")) g17 (by show 6 < sizeLine; decide), ?_⟩
      rw [put_finish z M tl ⟨si, od, fu, fi⟩]
      obtain ⟨p18, g18, m18, B18⟩ := put (kvs := modelK z M tl ⟨si, od, fu, fi⟩) p17 m17 B17
      refine ⟨_, rfl, k d z ms tl ⟨si, od, fu, fi⟩ _ hd0 ⟨M, g18, m18⟩ ⟨az, ⟨l1, l3, om.ov, om.l1, fun m hm => Nat.le_trans (om.l2 m hm) (by decide), om.nd⟩, ot, ⟨fun q hq => ?_⟩⟩ om.l2 lt p18 B18⟩
      simp only [caresL, List.mem_cons, List.mem_nil_iff, or_false] at hq
      rcases hq with rfl | rfl | rfl | rfl
      · exact .inl ⟨rfl, osi⟩
      · exact .inr (.inl ⟨rfl, ood⟩)
      · exact .inr (.inr (.inl ⟨rfl, ofu⟩))
      · exact .inr (.inr (.inr ⟨rfl, ofi⟩))
end
end K68
namespace K68
open PySem PySem.Spec PyProof.Rows L2 FL
abbrev sIsWord : Stmt := topS 40
abbrev sIsMark : Stmt := topS 41
abbrev sCheckMarks : Stmt := topS 42
abbrev sIsSight : Stmt := topS 43
abbrev sIsTail : Stmt := topS 44
abbrev sCheckTail : Stmt := topS 45
abbrev sCheckCare : Stmt := topS 46
section
variable {P : Program} {w : World} {K : PySem.W.Frag} {mg : Str → Option Value} {base : Heap}
theorem scIsWord : FnScope ["value", "words"] ["value", "words"] (defScope sIsWord) := ⟨rfl, rfl, rfl, by decide +kernel, rfl, by decide +kernel, by decide +kernel⟩
theorem ok_isword {f : Addr} {fd : FuncData} (F : Fun K "is_word" "is_word" sIsWord f fd) (mI : mg "isinstance" = none) (mS : mg "str" = none) :
    FnOk P w K mg base CX0 1 f fd ["value", "words"] (spWord K) := by
  refine F.ok scIsWord (fun vs H Q E h => ?_) (fun cdv A outer s H vs Q E hr h => ?_)
  · obtain ⟨_, _, _, rfl, _⟩ := h
    rfl
  · obtain ⟨v, a, xs, rfl, ha, fx, k⟩ := h
    refine ⟨_, pss_one (ps_ret (pe_and (pe_callB call_isA (by rfl) mI (by decide +kernel)
          (pa_cons (pv 0) (pa_cons (pe_bltn (v := .ty "str") (by rfl) mS (by decide +kernel) rfl) pa_nil)))
          (pe_one (pe_cmpR op_in_seq (pv 0) (pv 1) (by rfl))))), ?_⟩
    refine ⟨_, rfl, _, "str", "str", rfl, .str _, by decide, _, rfl, ?_⟩
    exact ⟨_, rfl, _, rfl, a, _, rfl, .inr ha, rfl, fx, k⟩
theorem scIsMark : FnScope ["signs", "value"] ["signs", "value"] (defScope sIsMark) := ⟨rfl, rfl, rfl, by decide +kernel, rfl, by decide +kernel, by decide +kernel⟩
theorem ok_ismark {f : Addr} {fd : FuncData} (F : Fun K "is_mark" "is_mark" sIsMark f fd) (cL : Ca P w K mg base "is_line" 1 ["signs", "value"] spLine) (mN : mg "len" = none) {tk : Tok} (mM : mg "MOST_MARK_SIGNS" = some (.int 12 tk)) :
    FnOk P w K mg base CX0 2 f fd ["signs", "value"] spIsMark := by
  refine F.ok scIsMark (fun vs H Q E h => ?_) (fun cdv A outer s H vs Q E hr h => ?_)
  · obtain ⟨_, _, rfl, _⟩ := h
    rfl
  · obtain ⟨z, m, rfl, om, l1, l2, k⟩ := h
    have sz : sizeLine = 16777216 := rfl
    have lm : m.length ≤ sizeLine := by rw [sz]; omega
    refine ⟨_, pss_one (ps_ret (pe_and (pe_ca cL hr (by rfl) (pa_cons (pv 0) (pa_cons (pv 1) pa_nil)))
      (pe_and (pe_cmpR op_ge (pe_callB callLen (by rfl) mN PySem.boot_len (pa_cons (pv 1) pa_nil)) pe_int (nomark _))
      (pe_one (pe_cmpR op_le (pe_callB callLen (by rfl) mN PySem.boot_len (pa_cons (pv 1) pa_nil)) (pe_glob (v := .int 12) rfl mM ⟨_, rfl⟩) (nomark _)))))), ?_⟩
    refine ⟨_, rfl, _, rfl, z, .str m, "str", rfl, .str m, (fun q e => by cases e; exact lm), ?_⟩
    rw [over_line om]
    refine ⟨_, rfl, _, rfl, _, m.length, rfl, ⟨lm, rfl⟩, _, _, rfl, rfl, ?_⟩
    refine ⟨_, rfl, iteYes (by omega) ?_⟩
    refine ⟨_, rfl, _, m.length, rfl, ⟨lm, rfl⟩, _, _, rfl, rfl, ?_⟩
    show Q (.bl (decide (((m.length : Nat) : Int) ≤ 12))) H
    rw [decide_eq_true (show ((m.length : Nat) : Int) ≤ 12 by omega)]
    exact k
theorem scIsTail : FnScope ["signs", "value"] ["signs", "value"] (defScope sIsTail) := ⟨rfl, rfl, rfl, by decide +kernel, rfl, by decide +kernel, by decide +kernel⟩
theorem ok_istail {f : Addr} {fd : FuncData} (F : Fun K "is_tail" "is_tail" sIsTail f fd) (cL : Ca P w K mg base "is_line" 1 ["signs", "value"] spLine) (mN : mg "len" = none) {tk : Tok} (mM : mg "MOST_TAIL_SIGNS" = some (.int 3 tk)) :
    FnOk P w K mg base CX0 2 f fd ["signs", "value"] spTailB := by
  refine F.ok scIsTail (fun vs H Q E h => ?_) (fun cdv A outer s H vs Q E hr h => ?_)
  · obtain ⟨_, _, rfl, _⟩ := h
    rfl
  · obtain ⟨z, m, rfl, ⟨om, l1, l2⟩, k⟩ := h
    have sz : sizeLine = 16777216 := rfl
    have lm : m.length ≤ sizeLine := by rw [sz]; omega
    refine ⟨_, pss_one (ps_ret (pe_and (pe_ca cL hr (by rfl) (pa_cons (pv 0) (pa_cons (pv 1) pa_nil)))
      (pe_and (pe_cmpR op_ge (pe_callB callLen (by rfl) mN PySem.boot_len (pa_cons (pv 1) pa_nil)) pe_int (nomark _))
      (pe_one (pe_cmpR op_le (pe_callB callLen (by rfl) mN PySem.boot_len (pa_cons (pv 1) pa_nil)) (pe_glob (v := .int 3) rfl mM ⟨_, rfl⟩) (nomark _)))))), ?_⟩
    refine ⟨_, rfl, _, rfl, z, .str m, "str", rfl, .str m, (fun q e => by cases e; exact lm), ?_⟩
    rw [over_line om]
    refine ⟨_, rfl, _, rfl, _, m.length, rfl, ⟨lm, rfl⟩, _, _, rfl, rfl, ?_⟩
    refine ⟨_, rfl, iteYes (by omega) ?_⟩
    refine ⟨_, rfl, _, m.length, rfl, ⟨lm, rfl⟩, _, _, rfl, rfl, ?_⟩
    show Q (.bl (decide (((m.length : Nat) : Int) ≤ 3))) H
    rw [decide_eq_true (show ((m.length : Nat) : Int) ≤ 3 by omega)]
    exact k
theorem scCheckTail : FnScope ["signs", "tail"] ["signs", "tail"] (defScope sCheckTail) := ⟨rfl, rfl, rfl, by decide +kernel, rfl, by decide +kernel, by decide +kernel⟩
theorem ok_checktail {f : Addr} {fd : FuncData} (F : Fun K "check_tail" "check_tail" sCheckTail f fd) (cT : Ca P w K mg base "is_tail" 2 ["signs", "value"] spTailB) :
    FnOk P w K mg base CX0 3 f fd ["signs", "tail"] spCheckTail := by
  refine F.ok scCheckTail (fun vs H Q E h => ?_) (fun cdv A outer s H vs Q E hr h => ?_)
  · obtain ⟨_, _, rfl, _⟩ := h
    rfl
  · obtain ⟨z, m, rfl, ok, k⟩ := h
    refine ⟨_, pss_one (ps_if (pt_not (pt_val (pe_ca cT hr (by rfl) (pa_cons (pv 0) (pa_cons (pv 1) pa_nil))))) (pss_one ps_never) pss_nil), ?_⟩
    refine ⟨_, rfl, _, rfl, z, m, rfl, ok, _, rfl, ?_⟩
    exact iteF k
theorem scCheckMarks : FnScope ["signs", "marks", "most", "position", "mark"] ["signs", "marks", "most"] (defScope sCheckMarks) := ⟨rfl, rfl, rfl, by decide +kernel, rfl, by decide +kernel, by decide +kernel⟩
theorem inV_strs {m : Str} : ∀ {ms : List Str}, m ∉ ms → inV (.str m) (ms.map V.str) = false
  | [], _ => rfl
  | x :: ms, h => by
    show (eqV (.str x) (.str m) || inV (.str m) (ms.map V.str)) = false
    rw [inV_strs fun q => h (List.mem_cons_of_mem _ q)]
    show ((x == m) || false) = false
    rw [Bool.or_false]
    exact beq_eq_false_iff_ne.mpr fun e => h (by rw [e]; exact List.mem_cons_self)
theorem ok_checkmarks {f : Addr} {fd : FuncData} (F : Fun K "check_marks" "check_marks" sCheckMarks f fd) (cL : Ca P w K mg base "is_list" 1 ["value"] spIsList) (cM : Ca P w K mg base "is_mark" 2 ["signs", "value"] spIsMark)
    (mN : mg "len" = none) (mE : mg "enumerate" = none) : FnOk P w K mg base CX0 3 f fd ["signs", "marks", "most"] spCheckMarks := by
  refine F.ok scCheckMarks (fun vs H Q E h => ?_) (fun cdv A outer s H vs Q E hr h => ?_)
  · obtain ⟨_, _, _, rfl, _⟩ := h
    rfl
  · obtain ⟨z, a, ms, rfl, ha, ok, k⟩ := h
    have nd := scCheckMarks.nd
    have sz : sizeLine = 16777216 := rfl
    refine ⟨_, pss_cons (ps_if (PW.pt (pw_or (pt_not (pt_val (pe_ca cL (hr.mono (by decide)) (by rfl) (pa_cons (pv 1) pa_nil))))
          (pw_or (pt_cmpR op_eq (pe_callB callLen (by rfl) mN PySem.boot_len (pa_cons (pv 1) pa_nil)) pe_int (nomark _))
          (pw_or1 (pt_cmpR op_gt (pe_callB callLen (by rfl) mN PySem.boot_len (pa_cons (pv 1) pa_nil)) (pv 2) (nomark _)))))) (pss_one ps_never) pss_nil)
      (pss_one (ps_for PassesOwn.never rfl (pi_enumX false (by rfl) mE (pa_cons (pv 1) pa_nil))
        (pg_tup rfl (pgs_cons (pg_name (i := 3) nd rfl (.inl rfl)) (pgs_cons (pg_name (i := 4) nd rfl (.inl rfl)) pgs_nil)))
        (pss_one (ps_if (PW.pt (pw_or (pt_not (pt_val (pe_ca cM hr (by rfl) (pa_cons (pv 0) (pa_cons (pv 4) pa_nil)))))
          (pw_or1 (pt_cmpR op_in_seq (pv 4) (pe_slice sl_list (pv 1) po_none (po_some (pv 3))) (by rfl))))) (pss_one ps_never) pss_nil)))), ?_⟩
    refine ⟨_, rfl, _, "list", rfl, .lst ha, fun H1 s1 => ?_⟩
    refine ⟨_, rfl, ?_⟩
    refine iteF ?_
    have ha1 := s1 _ _ ha
    have ln : ((ms.map V.str).length : Nat) = ms.length := List.length_map _
    refine ⟨_, rfl, _, ms.length, rfl, .inl ⟨_, SqL.of ha1, ln.symm⟩, rfl, _, rfl, ?_⟩
    have lo := ok.lo
    have hi := ok.hi
    refine iteNot (fun e => by have := V.int.inj e; omega) ?_
    refine ⟨_, rfl, _, ms.length, rfl, .inl ⟨_, SqL.of ha1, ln.symm⟩, _, rfl, _, _, rfl, rfl, _, rfl, ?_⟩
    refine ite2 (fun q => absurd (of_decide_eq_true q) (by omega)) (fun _ => ?_)
    refine ⟨_, rfl, a, _, rfl, SqL.of ha1, for_it (walk_enumX (t := false)) (fun i σ Hi => ∃ o1 o2 : Option V, σ = [some (.str z), some (.ref a), some (.int 3), o1, o2] ∧ Same H Hi) ?_ ?_ ?_ ?_⟩
    · exact ⟨_, _, rfl, s1⟩
    · rintro i σ Hi _ ⟨_, _, _, sm⟩
      exact SqL.of (sm _ _ ha)
    · rintro i x σ Hi _ hi' ⟨o1, o2, rfl, sm⟩ ⟨T, p, q, rfl, hT, rfl, e1, e2⟩
      obtain rfl : V.int (i : Nat) = p := Option.some.inj e1
      have e2 : (ms.map V.str)[i]? = some q := e2
      rw [List.getElem?_map] at e2
      cases hm : ms[i]? with
      | none =>
        rw [hm] at e2
        cases e2
      | some m =>
        rw [hm] at e2
        obtain rfl : V.str m = q := Option.some.inj e2
        have hmm : m ∈ ms := List.mem_of_getElem? hm
        have s2 : Same H (upd Hi T (.tup [.int (i : Nat), .str m])) := sm.upd (sm.none hT)
        refine ⟨T, _, rfl, SqT.of upd_same, rfl, _, _, rfl, _, _, rfl, rfl, ?_⟩
        refine ⟨_, rfl, _, rfl, z, m, rfl, ok.ov m hmm, ok.l1 m hmm, ok.l2 m hmm, _, rfl, ?_⟩
        refine iteF ?_
        refine ⟨_, rfl, _, rfl, _, rfl, _, rfl, a, _, rfl, SqL.of (s2 _ _ ha), fun L hL => ?_⟩
        have eT : cutV (ms.map V.str) none (some ((i : Nat) : Int)) = (ms.take i).map V.str := by
          rw [cutV_take, List.map_take]
        rw [eT]
        refine ⟨L, _, rfl, .inl (SqL.of upd_same), rfl, flat_strs _, _, rfl, ?_⟩
        have ni : m ∉ ms.take i := fun q => by
          obtain ⟨j, hj, ej⟩ := List.getElem_of_mem q
          rw [List.length_take] at hj
          rw [List.getElem_take] at ej
          obtain ⟨h1, h2⟩ := List.getElem?_eq_some_iff.mp hm
          exact List.pairwise_iff_getElem.mp ok.nd j i (by omega) h1 (by omega) (ej.trans h2.symm)
        rw [inV_strs ni]
        refine iteF ?_
        exact ⟨_, _, rfl, s2.upd (s2.none hL)⟩
    · rintro σ Hi ⟨_, _, _, sm⟩
      exact k Hi sm
theorem scIsSight : FnScope ["signs", "value"] ["signs", "value"] (defScope sIsSight) := ⟨rfl, rfl, rfl, by decide +kernel, rfl, by decide +kernel, by decide +kernel⟩
theorem ok_issight {f : Addr} {fd : FuncData} (F : Fun K "is_sight" "is_sight" sIsSight f fd) (W : WordsT K w mg) (cW : Ca P w K mg base "is_word" 1 ["value", "words"] (spWord K)) (cL : Ca P w K mg base "is_line" 1 ["signs", "value"] spLine) (mN : mg "len" = none) :
    FnOk P w K mg base CX0 2 f fd ["signs", "value"] spIsSight := by
  refine F.ok scIsSight (fun vs H Q E h => ?_) (fun cdv A outer s H vs Q E hr h => ?_)
  · obtain ⟨_, _, rfl, _⟩ := h
    rfl
  · obtain ⟨z, v, rfl, ok, lv, k⟩ := h
    obtain ⟨a, mS, hS⟩ := W.si
    have sz : sizeLine = 16777216 := rfl
    have lm : v.length ≤ sizeLine := by rw [sz]; omega
    refine ⟨_, pss_one (ps_ret (pe_or (pe_ca cW hr (by rfl) (pa_cons (pv 1) (pa_cons (pe_glob (v := .ref a) rfl mS rfl) pa_nil)))
      (pe_one (pe_and (pe_ca cL hr (by rfl) (pa_cons (pv 0) (pa_cons (pv 1) pa_nil)))
        (pe_one (pe_cmpR op_eq (pe_callB callLen (by rfl) mN PySem.boot_len (pa_cons (pv 1) pa_nil)) pe_int (nomark _))))))), ?_⟩
    refine ⟨_, rfl, v, a, _, rfl, hS.sqT, rfl, ?_⟩
    cases q : inV (.str v) [.str (Str.ofString "whole"), .str (Str.ofString "start")] with
    | true => exact ⟨_, rfl, k⟩
    | false =>
      have ⟨ov, l1⟩ : Over z v ∧ v.length = 1 := by
        rcases ok with rfl | rfl | h
        · exact absurd q (by decide +kernel)
        · exact absurd q (by decide +kernel)
        · exact h
      refine ⟨_, rfl, _, rfl, _, rfl, z, .str v, "str", rfl, .str v, (fun q e => by cases e; exact lm), ?_⟩
      rw [over_line ov]
      refine ⟨_, rfl, _, rfl, _, v.length, rfl, ⟨lm, rfl⟩, rfl, ?_⟩
      show Q (.bl (decide (V.int ((v.length : Nat) : Int) = V.int 1))) H
      rw [decide_eq_true (show V.int ((v.length : Nat) : Int) = V.int 1 by rw [l1]; rfl)]
      exact k
theorem scCheckCare : FnScope ["signs", "name", "value", "known"] ["signs", "name", "value"] (defScope sCheckCare) := ⟨rfl, rfl, rfl, by decide +kernel, rfl, by decide +kernel, by decide +kernel⟩
theorem ok_checkcare {f : Addr} {fd : FuncData} (F : Fun K "check_care" "check_care" sCheckCare f fd) (W : WordsT K w mg) (cW : Ca P w K mg base "is_word" 1 ["value", "words"] (spWord K)) (cS : Ca P w K mg base "is_sight" 2 ["signs", "value"] spIsSight) :
    FnOk P w K mg base CX0 3 f fd ["signs", "name", "value"] spCheckCare := by
  refine F.ok scCheckCare (fun vs H Q E h => ?_) (fun cdv A outer s H vs Q E hr h => ?_)
  · obtain ⟨_, _, _, rfl, _⟩ := h
    rfl
  · obtain ⟨z, nm, v, rfl, ok, k⟩ := h
    obtain ⟨a, mC, ⟨b1, k1, w1⟩, ⟨b2, k2, w2⟩, ⟨b3, k3, w3⟩⟩ := W.ca
    have nd := scCheckCare.nd
    refine ⟨_, pss_cons (ps_set (i := 3) nd rfl (.inl rfl) (pe_ifExp (pt_cmpR op_eq (pv 1) pe_str (nomark _)) (pe_ca cS hr (by rfl) (pa_cons (pv 0) (pa_cons (pv 2) pa_nil)))
        (pe_ca cW (hr.mono (by decide)) (by rfl) (pa_cons (pv 2) (pa_cons (pe_ix ix_kdict (pe_glob (v := .ref a) rfl mC rfl) (pv 1) (fun _ _ => rfl)) pa_nil)))))
      (pss_one (ps_if (pt_not (pt_val (pv 3))) (pss_one ps_never) pss_nil)), ?_⟩
    have lv := ok.len
    have fin : ∀ {b : Addr} {x y : Str}, KDct K w a nm (.ref b) → SqW K b [.str x, .str y] → (v = x ∨ v = y) → ∃ p z' r, V.ref a = .ref p ∧ V.str nm = .str z' ∧ KDct K w p z' r ∧ ∃ v' a' xs, [V.str v, r] = [.str v', .ref a'] ∧ SqT K H a' xs ∧ xs.all flatV = true ∧ inV (.str v') xs = true := by
      intro b x y kd sw e
      refine ⟨a, nm, .ref b, rfl, rfl, kd, v, b, _, rfl, sw.sqT, rfl, ?_⟩
      show (eqV (.str x) (.str v) || (eqV (.str y) (.str v) || false)) = true
      rcases e with rfl | rfl
      · show ((v == v) || _) = true
        rw [beq_self_eq_true]
        rfl
      · show (_ || ((v == v) || false)) = true
        rw [beq_self_eq_true, Bool.true_or, Bool.or_true]
    refine ⟨_, rfl, rfl, _, rfl, ?_⟩
    refine ite2 (fun q => ?_) (fun q => ?_)
    · have e : nm = Str.ofString "sight" := V.str.inj (of_decide_eq_true q)
      have sg : SightOk z v := by
        rcases ok with ⟨_, h⟩ | ⟨h, _⟩ | ⟨h, _⟩ | ⟨h, _⟩
        · exact h
        · exact absurd (e.symm.trans h) nk1
        · exact absurd (e.symm.trans h) nk2
        · exact absurd (e.symm.trans h) nk3
      refine ⟨_, rfl, _, rfl, z, v, rfl, sg, lv, ?_⟩
      refine ⟨_, rfl, _, rfl, ?_⟩
      exact iteF k
    · have e : ¬ nm = Str.ofString "sight" := fun h => q (decide_eq_true (congrArg V.str h))
      obtain ⟨p, z', r, ep, ez, kd, v', a', xs, ev, sq, fx, iv⟩ : ∃ p z' r, V.ref a = .ref p ∧ V.str nm = .str z' ∧ KDct K w p z' r ∧ ∃ v' a' xs, [V.str v, r] = [.str v', .ref a'] ∧ SqT K H a' xs ∧ xs.all flatV = true ∧ inV (.str v') xs = true := by
        rcases ok with ⟨h, _⟩ | ⟨rfl, h⟩ | ⟨rfl, h⟩ | ⟨rfl, h⟩
        · exact absurd h e
        · exact fin k1 w1 h
        · exact fin k2 w2 h
        · exact fin k3 w3 h
      refine ⟨_, rfl, _, rfl, p, z', r, ep, ez, kd, v', a', xs, ev, sq, fx, ?_⟩
      rw [iv]
      refine ⟨_, rfl, _, rfl, ?_⟩
      exact iteF k
end
end K68
namespace FL
open PySem PySem.Spec PyProof.Rows L2 FL
theorem capR_le : ∀ {k : Nat}, k ≤ 2 → capR k ≤ 1121
  | 0, _ => by decide
  | 1, _ => by decide
  | 2, _ => by decide
  | k + 3, h => absurd h (by omega)
theorem flat_snoc {α β : Type} {f : α → List β} {l : List α} {i : Nat} {x : α} (h : l[i]? = some x) : (l.take (i + 1)).flatMap f = (l.take i).flatMap f ++ f x := by
  rw [take_snoc h, List.flatMap_append, List.flatMap_singleton]
theorem take_flat_len {α β : Type} {f : α → List β} {n m : Nat} {l : List α} (h : ∀ x ∈ l, (f x).length ≤ n) (hl : l.length ≤ m) (i : Nat) : ((l.take i).flatMap f).length ≤ m * n := by
  have h1 := flat_le (xs := l.take i) (f := f) (n := n) fun x hx => h x (List.mem_of_mem_take hx)
  have h2 : (l.take i).length ≤ m := by rw [List.length_take]; omega
  exact Nat.le_trans h1 (Nat.mul_le_mul_right n h2)
theorem Ros.imp {K : PySem.W.Frag} {H H' : Hp} {xs : List V} {qs : List Ro} (s : NL H H') (h : Paired (RoAt K H) xs qs) : Paired (RoAt K H') xs qs := paired_imp h fun _ _ ⟨t, e, q⟩ => ⟨t, e, s.sqT q⟩
theorem pe_never {X : Cx} {e : Expr} : PE X e (fun _ _ _ => False) := ⟨fun _ _ _ _ _ _ h => h.elim⟩
end FL
namespace FL
open PySem PySem.Spec PyProof.Rows L2
/-! ### a method called by keywords alone -/
def tMethK (C : Addr) (m : Str) (n : Nat) (sp : Sp) (gV : List V → List V → List V) (E : XK) (ta : TE) (tk : TA) : TE := fun σ H Q => ta σ H fun x H1 => ∃ a dx fs, x = .ref a ∧ H1 a = some (.ins C dx fs) ∧ fs.lookup m = none ∧
  tk σ H1 fun zs H2 => zs.length = n ∧ sp (gV [.ref a] zs) H2 Q E
section
variable {X : Cx} {CX : CXT} {k : Nat} {C f : Addr} {fd : FuncData} {ps ks : List Str} {sp : Sp} {E : XK} {m : Str} {o : Expr} {kws : List Keyword} {ta : TE} {tk : TA} {apos pos : Pos} {gg : List Value → List Value → List Value} {gV : List V → List V → List V}
theorem pe_methK {pl : Sem Bool} (he : PE X o ta) (c : Cls X.K C) (hm : Meth X.K C m f) (F : FnOk X.prog X.w X.K X.mg X.base CX k f fd ps sp) (hr : Room k X.A) (hb : KBn X.K fd ps 1 ks gg gV) (hx : Passes CX X E) (hkw : PK X kws tk)
    (hall : (backToKw pos (keywordEach kws X.env)).all (·.1.isSome) = true := by rfl) (hks : (backToKw pos (keywordEach kws X.env)).filterMap (·.1) = ks := by rfl)
    (hpl : ((backTo pos (starEach [] X.env)).any (·.1) || (backToKw pos (keywordEach kws X.env)).any (·.1.isNone)) = false := by rfl)
    (ht : eval (.Call (.Attribute o m apos) [] kws pos) X.env = (do
      let ov ← eval o X.env
      standAt apos.atName
      let (f, first) ← holding [ov] (getMethod ov m pl)
      callWith pos f first (backTo pos (starEach [] X.env)) (backToKw pos (keywordEach kws X.env))) := by rfl) :
    PE X (.Call (.Attribute o m apos) [] kws pos) (tMethK C m ks.length sp gV E ta tk) := by
  refine ⟨fun pins s σ H Q I h => ?_⟩
  refine PySem.W.methodCall_KW (pl := pl) (thn (he.run pins s σ H _ I h) fun u s1 ⟨x, H1, I1, rx, a, dx, fs, ex, ea, l, q⟩ => ?_) ht
  subst ex
  obtain rfl : u = Value.ref a := rx
  refine getmeth_ok I1 ea c hm l ?_
  refine PySem.W.callWith_KW0 (first := [.ref a]) (h₀ := X.base) I.ok.mod.kin hm.kp hall (thn (hkw.run pos pins s1 σ H1 _ I1 q) fun ws s2 ⟨zs, H2, I2, rz, l2, q2⟩ => ⟨I2.kIn, ?_⟩) hpl
  rw [hks]
  exact run_fnN F hr hb hx I2 (show Vals [V.ref a] [Value.ref a] from .cons rfl .nil) rz rfl l2 q2
end
end FL
namespace FL
open PySem PySem.Spec PyProof.Rows L2
/-! ### a def called by keywords alone -/
def tFnK (n : Nat) (sp : Sp) (gV : List V → List V) (E : XK) (tk : TA) : TE := fun σ H Q => tk σ H fun zs H2 => zs.length = n ∧ sp (gV zs) H2 Q E
theorem pe_fnK {X : Cx} {CX : CXT} {k : Nat} {x : Str} {f : Addr} {fd : FuncData} {ps ks : List Str} {sp : Sp} {E : XK} {kws : List Keyword} {tk : TA} {p pos : Pos} {gg : List Value → List Value → List Value} {gV : List V → List V → List V}
    (F : FnOk X.prog X.w X.K X.mg X.base CX k f fd ps sp) (hr : Room k X.A) (hg : Gl X x) (hm : X.mg x = some (.ref f)) (hk : PySem.W.keepIn X.K (.ref f) = true) (hb : KBn X.K fd ps 0 ks gg gV) (hx : Passes CX X E) (hkw : PK X kws tk)
    (hdb : (x == ("__debug__" : Str)) = false := by decide)
    (hall : (backToKw pos (keywordEach kws X.env)).all (·.1.isSome) = true := by rfl) (hks : (backToKw pos (keywordEach kws X.env)).filterMap (·.1) = ks := by rfl)
    (hpl : ((backTo pos (starEach [] X.env)).any (·.1) || (backToKw pos (keywordEach kws X.env)).any (·.1.isNone)) = false := by rfl) :
    PE X (.Call (.Name x p) [] kws pos) (tFnK ks.length sp (gV []) E tk) := by
  constructor
  intro pins s σ H Q I h
  refine wpAny_Call_Name_kw (ld_glob I hg hm ?_ hdb)
  refine PySem.W.callWith_KW0 (first := []) (h₀ := X.base) I.ok.mod.kin hk hall (thn (hkw.run pos pins s σ H _ I h) ?_) hpl
  rintro ws s2 ⟨zs, H2, I2, rz, l2, q2⟩
  refine ⟨I2.kIn, ?_⟩
  rw [hks]
  exact run_fnN F hr hb hx I2 (.nil : Vals [] []) rz rfl l2 q2
end FL
namespace FL
open PySem PySem.Spec PyProof.Rows L2 FL
/-! ### lines that are seen -/
theorem line_over {z y : Str} (h : lineB z (.str y) = true) : Over z y := by
  have e : Txt.stripChars y z = Str.ofString "" := of_decide_eq_true h
  unfold Txt.stripChars at e
  rw [stripBy_eq] at e
  obtain ⟨l1, l2, _⟩ := lo_facts z.cps.contains y
  obtain ⟨h1, h2, h3, _⟩ := hi_facts z.cps.contains y (stripLo z.cps.contains true y) l1
  have sz : (PySem.Builtin.Str.strSub y (stripLo z.cps.contains true y) (stripHi z.cps.contains true y (stripLo z.cps.contains true y))).cps.size = 0 := by
    rw [e]
    decide +kernel
  have sz2 : min (stripHi z.cps.contains true y (stripLo z.cps.contains true y)) y.cps.size - stripLo z.cps.contains true y = 0 := by
    have : (y.cps.extract (stripLo z.cps.contains true y) (stripHi z.cps.contains true y (stripLo z.cps.contains true y))).size = 0 := sz
    rw [Array.size_extract] at this
    exact this
  have ly : y.cps.size = y.length := rfl
  intro c hc
  obtain ⟨k, hk, rfl⟩ := List.getElem_of_mem hc
  have hk' : k < y.length := by rw [str_len]; exact hk
  have g : z.cps.contains (y.cps.getD k 0) = true := by
    by_cases q : k < stripLo z.cps.contains true y
    · exact l2 k q
    · exact h3 k (by omega) hk'
  have eg : y.cps.getD k 0 = y.cps.toList[k] := by
    rw [← getD_list]
    rw [List.getD_eq_getElem?_getD, List.getElem?_eq_getElem hk]
    rfl
  rw [eg] at g
  exact Array.mem_def.mp (Array.contains_iff_mem.mp g)
theorem line_iff {z y : Str} : lineB z (.str y) = true ↔ Over z y := ⟨line_over, over_line⟩
def preB (m y : Str) : Bool := decide (cutS y none (some ((m.length : Nat) : Int)) = m)
theorem cut_take (y : Str) (n : Nat) : (cutS y none (some ((n : Nat) : Int))).cps.toList = y.cps.toList.take n := by
  have hl := str_len y
  show ((y.cps.toList.drop (HT.sIx y.length 0 none)).take (HT.sIx y.length y.length (some ((n : Nat) : Int)) - HT.sIx y.length 0 none)).toArray.toList = _
  rw [HT.sIx_nat, List.toList_toArray]
  show (y.cps.toList.drop 0).take (min n y.length - 0) = _
  rw [List.drop_zero, Nat.sub_zero]
  by_cases h : n ≤ y.length
  · rw [Nat.min_eq_left h]
  · rw [Nat.min_eq_right (by omega), hl, List.take_length, List.take_of_length_le (by omega)]
theorem cut_drop (y : Str) (n : Nat) : (cutS y (some ((n : Nat) : Int)) none).cps.toList = y.cps.toList.drop n := by
  have hl := str_len y
  show ((y.cps.toList.drop (HT.sIx y.length 0 (some ((n : Nat) : Int)))).take (HT.sIx y.length y.length none - HT.sIx y.length 0 (some ((n : Nat) : Int)))).toArray.toList = _
  rw [HT.sIx_nat, List.toList_toArray]
  show (y.cps.toList.drop (min n y.length)).take (y.length - min n y.length) = _
  by_cases h : n ≤ y.length
  · rw [Nat.min_eq_left h, List.take_of_length_le]
    rw [List.length_drop]
    omega
  · rw [Nat.min_eq_right (by omega), List.drop_eq_nil_of_le (by omega), List.drop_eq_nil_of_le (by omega), List.take_nil]
theorem pre_iff' {m y : Str} : preB m y = true ↔ y.cps.toList.take m.length = m.cps.toList := by
  unfold preB
  rw [decide_eq_true_eq]
  constructor
  · intro h
    rw [← cut_take, h]
  · intro h
    exact Str_ext (by rw [cut_take, h])
theorem starts_pre (y m : Str) : Txt.startswith y m = preB m y := by
  rw [Bool.eq_iff_iff, pre_iff']
  unfold Txt.startswith
  rw [Bool.and_eq_true, decide_eq_true_eq, StrLaws.subAt_eq, beq_iff_eq, List.drop_zero]
  constructor
  · exact fun h => h.2
  · intro h
    refine ⟨?_, h⟩
    have h2 := congrArg List.length h
    rw [List.length_take, ← str_len, ← str_len] at h2
    omega
theorem pre_self (y : Str) : preB y y = true := by
  rw [pre_iff', str_len, List.take_length]
def wholeW : Str := Str.ofString "whole"
def startW : Str := Str.ofString "start"
/-- the rest is made of the sign alone -/
def restB (si m y : Str) : Bool := (y.cps.toList.drop m.length).all fun c => decide ((⟨#[c]⟩ : Str) = si)
/-- whether the line is seen as the mark -/
def seenB (si m y : Str) : Bool := preB m y && (decide (si = startW) || (decide (y = m) || (!decide (si = wholeW) && restB si m y)))
theorem one_sign {si : Str} (h : si.length = 1) : ∃ c, si = ⟨#[c]⟩ := by
  obtain ⟨a⟩ := si
  obtain ⟨l⟩ := a
  have h : l.length = 1 := h
  cases l with
  | nil => cases h
  | cons c l =>
    cases l with
    | nil => exact ⟨c, rfl⟩
    | cons d l => simp at h
theorem rest_over {si m y : Str} (h : si.length = 1) : restB si m y = true ↔ Over si (cutS y (some ((m.length : Nat) : Int)) none) := by
  obtain ⟨c, rfl⟩ := one_sign h
  unfold restB Over
  rw [cut_drop, List.all_eq_true]
  refine forall_congr' fun d => forall_congr' fun _ => ?_
  rw [decide_eq_true_eq]
  show (⟨#[d]⟩ : Str) = ⟨#[c]⟩ ↔ d ∈ [c]
  rw [List.mem_singleton]
  constructor
  · exact fun q => one_inj q
  · rintro rfl
    rfl
theorem seen_whole {m y : Str} : seenB wholeW m y = decide (y = m) := by
  unfold seenB
  rw [show decide (wholeW = startW) = false from by decide +kernel, show decide (wholeW = wholeW) = true from by decide +kernel]
  by_cases h : y = m
  · subst h
    rw [pre_self, decide_eq_true rfl]
    rfl
  · rw [decide_eq_false h]
    simp
theorem seen_no {si m y : Str} (h : preB m y = false) : seenB si m y = decide (y = m) := by
  unfold seenB
  rw [h, Bool.false_and]
  symm
  apply decide_eq_false
  rintro rfl
  rw [pre_self] at h
  cases h
theorem seen_start {m y : Str} (h : preB m y = true) : seenB startW m y = true := by
  unfold seenB
  rw [h, decide_eq_true rfl]
  rfl
theorem seen_sign {si m y : Str} (h : preB m y = true) (l : si.length = 1) : seenB si m y = lineB si (.str (cutS y (some ((m.length : Nat) : Int)) none)) := by
  have n1 : ¬ si = startW := fun e => by rw [e] at l; exact absurd l (by decide +kernel)
  have n2 : ¬ si = wholeW := fun e => by rw [e] at l; exact absurd l (by decide +kernel)
  unfold seenB
  rw [h, decide_eq_false n1, decide_eq_false n2, Bool.eq_iff_iff, line_iff, ← rest_over l]
  simp only [Bool.true_and, Bool.false_or, Bool.not_false, Bool.or_eq_true, decide_eq_true_eq]
  constructor
  · rintro (rfl | q)
    · rw [rest_over l]
      intro c hc
      rw [cut_drop, str_len, List.drop_length] at hc
      cases hc
    · exact q
  · exact .inr
/-! ### roles in the sequence in which they are asked -/
def levelsL (od : Str) (lv : Nat) : List Nat := if od = Str.ofString "inner" then (List.range' 1 lv).reverse else List.range' 1 lv
def askedL (od : Str) (lv : Nat) : List Ro := (levelsL od lv).flatMap fun l => [(endW, l), (nextW, l)]
def roleAtL (ms : List Str) (tl : Str) (c : Cares) (y : Str) (lv : Nat) : Option Ro := (askedL c.od lv).find? fun r => seenB c.si (roLine ms tl r) y
/-! ### stands -/
abbrev Sd : Type := Nat × Str
def waitW : Str := Str.ofString "wait"
def bodyW : Str := Str.ofString "body"
def moveL (ms : List Str) (tl : Str) (c : Cares) (s : Sd) (y : Str) : Option (Ro × Sd) :=
  if s.1 = 0 then none else match roleAtL ms tl c y s.1 with
    | none => if s.2 = bodyW then some ((lineW, 0), s) else none
    | some r => if r.2 < s.1 ∧ c.fu = Str.ofString "refuse" then none else if r.1 = endW then some (r, (r.2 - 1, waitW)) else some (r, if r.2 = ms.length then (ms.length, bodyW) else (r.2 + 1, waitW))
/-- the stands behind, and what the lines are told as -/
def goL (ms : List Str) (tl : Str) (c : Cares) : Sd → List Str → List (Ro × Sd)
  | _, [] => []
  | s, y :: ys => match moveL ms tl c s y with
    | none => []
    | some q => q :: goL ms tl c q.2 ys
def standsL (ms : List Str) (tl : Str) (c : Cares) (ys : List Str) : List Sd := (1, waitW) :: (goL ms tl c (1, waitW) ys).map Prod.snd
def tellsL (ms : List Str) (tl : Str) (c : Cares) (ys : List Str) : List Ro := (goL ms tl c (1, waitW) ys).map Prod.fst
def lastL (ms : List Str) (tl : Str) (c : Cares) (ys : List Str) : Sd := (standsL ms tl c ys).getLastD (1, waitW)
def tellingL (ms : List Str) (tl : Str) (c : Cares) (ys : List Str) : Option (List Ro) :=
  if (tellsL ms tl c ys).length < ys.length ∨ (c.fi = Str.ofString "refuse" ∧ lastL ms tl c ys ≠ (0, waitW)) then none else some (tellsL ms tl c ys)
/-- a stand: level 0 only with wait -/
structure SdOk (n : Nat) (s : Sd) : Prop where
  hi : s.1 ≤ n
  wd : s.2 = waitW ∨ s.2 = bodyW
  zr : s.1 = 0 → s.2 = waitW
theorem mem_asked {od : Str} {lv : Nat} {r : Ro} (h : r ∈ askedL od lv) : (r.1 = nextW ∨ r.1 = endW) ∧ 1 ≤ r.2 ∧ r.2 ≤ lv := by
  obtain ⟨l, hl, hr⟩ := List.mem_flatMap.mp h
  have hl2 : 1 ≤ l ∧ l ≤ lv := by
    have : l ∈ List.range' 1 lv := by
      unfold levelsL at hl
      split at hl
      · exact List.mem_reverse.mp hl
      · exact hl
    rw [List.mem_range'_1] at this
    omega
  simp only [List.mem_cons, List.mem_nil_iff, or_false] at hr
  rcases hr with rfl | rfl
  · exact ⟨.inr rfl, hl2⟩
  · exact ⟨.inl rfl, hl2⟩
theorem roleAt_ok {ms : List Str} {tl : Str} {c : Cares} {y : Str} {lv : Nat} {r : Ro} (h : roleAtL ms tl c y lv = some r) : (r.1 = nextW ∨ r.1 = endW) ∧ 1 ≤ r.2 ∧ r.2 ≤ lv := mem_asked (List.mem_of_find?_eq_some h)
theorem move_ok {ms : List Str} {tl : Str} {c : Cares} {s : Sd} {y : Str} {q : Ro × Sd} (ok : SdOk ms.length s) (h : moveL ms tl c s y = some q) :
    SdOk ms.length q.2 ∧ (q.1.1 = lineW ∨ q.1.1 = nextW ∨ q.1.1 = endW) ∧ q.1.2 ≤ ms.length := by
  unfold moveL at h
  split at h
  · cases h
  rename_i n0
  have hi := ok.hi
  cases e : roleAtL ms tl c y s.1 with
  | none =>
    rw [e] at h
    simp only at h
    split at h
    · cases h
      exact ⟨ok, .inl rfl, Nat.zero_le _⟩
    · cases h
  | some r =>
    obtain ⟨h1, h2, h3⟩ := roleAt_ok e
    rw [e] at h
    simp only at h
    split at h
    · cases h
    split at h
    · cases h
      exact ⟨⟨by show r.2 - 1 ≤ _; omega, .inl rfl, fun _ => rfl⟩, .inr h1, by show r.2 ≤ _; omega⟩
    · cases h
      refine ⟨?_, .inr h1, by show r.2 ≤ _; omega⟩
      split
      · exact ⟨Nat.le_refl _, .inr rfl, fun q => by show bodyW = waitW; have : ms.length = 0 := q; omega⟩
      · exact ⟨by show r.2 + 1 ≤ _; omega, .inl rfl, fun _ => rfl⟩
theorem go_ok {ms : List Str} {tl : Str} {c : Cares} : ∀ {ys : List Str} {s : Sd}, SdOk ms.length s → ∀ q ∈ goL ms tl c s ys, SdOk ms.length q.2 ∧ (q.1.1 = lineW ∨ q.1.1 = nextW ∨ q.1.1 = endW) ∧ q.1.2 ≤ ms.length
  | [], _, _, _, h => nomatch h
  | y :: ys, s, ok, q, h => by
    unfold goL at h
    cases e : moveL ms tl c s y with
    | none =>
      rw [e] at h
      cases h
    | some p =>
      rw [e] at h
      have hp := move_ok ok e
      rcases List.mem_cons.mp h with rfl | h
      · exact hp
      · exact go_ok hp.1 q h
theorem go_len {ms : List Str} {tl : Str} {c : Cares} : ∀ {ys : List Str} {s : Sd}, (goL ms tl c s ys).length ≤ ys.length
  | [], _ => Nat.le_refl _
  | y :: ys, s => by
    unfold goL
    cases e : moveL ms tl c s y with
    | none => exact Nat.zero_le _
    | some p => exact Nat.succ_le_succ go_len
def SightW (si : Str) : Prop := si = wholeW ∨ si = startW ∨ si.length = 1
theorem sight_w {z si : Str} (h : SightOk z si) : SightW si := by
  rcases h with h | h | ⟨_, h⟩
  · exact .inl h
  · exact .inr (.inl h)
  · exact .inr (.inr h)
def SdAt (K : PySem.W.Frag) (H : Hp) (v : V) (s : Sd) : Prop := ∃ t, v = .ref t ∧ SqT K H t [.int ((s.1 : Nat) : Int), .str s.2]
theorem SdAt.imp {K : PySem.W.Frag} {H H' : Hp} {v : V} {s : Sd} (n : NL H H') (h : SdAt K H v s) : SdAt K H' v s := by
  obtain ⟨t, e, h⟩ := h
  exact ⟨t, e, n.sqT h⟩
theorem RoAt.imp {K : PySem.W.Frag} {H H' : Hp} {v : V} {r : Ro} (n : NL H H') (h : RoAt K H v r) : RoAt K H' v r := by
  obtain ⟨t, e, h⟩ := h
  exact ⟨t, e, n.sqT h⟩
theorem Sds.imp {K : PySem.W.Frag} {H H' : Hp} {xs : List V} {ss : List Sd} (n : NL H H') (h : Paired (SdAt K H) xs ss) : Paired (SdAt K H') xs ss := paired_imp h fun _ _ q => SdAt.imp n q
def spSeen : Sp := fun vs H Q _ => ∃ si m y : Str, vs = [.str si, .str m, .str y] ∧ SightW si ∧ m.length ≤ 100000 ∧ y.length ≤ 100000 ∧ Q (.bl (seenB si m y)) H
def spCheckLevel : Sp := fun vs H Q _ => ∃ (n l : Nat), vs = [.int ((n : Nat) : Int), .int ((l : Nat) : Int)] ∧ 1 ≤ l ∧ l ≤ n ∧ Q .non H
def spAsked (C : Addr) (K : PySem.W.Frag) : Sp := fun vs H Q _ => ∃ (p : Addr) (z : Str) (ms : List Str) (tl : Str) (c : Cares) (l : Nat), vs = [.ref p, .int ((l : Nat) : Int)] ∧ ReaderAt C H p z ms tl c ∧ 1 ≤ l ∧ l ≤ ms.length ∧ ms.length ≤ 3 ∧
  ∀ (H' : Hp) (L : Addr) (xs : List V), Same H H' → H L = none → H' L = some (.lst xs) → Paired (fun v (r : Ro) => ∃ t, v = .ref t ∧ H' t = some (.tup [.str r.1, .int ((r.2 : Nat) : Int)])) xs (askedL c.od l) → Q (.ref L) H'
def spRoleAt (C : Addr) : Sp := fun vs H Q _ => ∃ (p : Addr) (z : Str) (ms : List Str) (tl : Str) (c : Cares) (y : Str) (l : Nat), vs = [.ref p, .str y, .int ((l : Nat) : Int)] ∧ ReaderAt C H p z ms tl c ∧ RdOk z ms tl c ∧ Over z y ∧ y.length ≤ 1000 ∧ 1 ≤ l ∧ l ≤ ms.length ∧
  (roleAtL ms tl c y l = none → ∀ H', Same H H' → Q .non H') ∧ ∀ r, roleAtL ms tl c y l = some r → ∀ (t : Addr) (H' : Hp), Same H H' → H' t = some (.tup [.str r.1, .int ((r.2 : Nat) : Int)]) → Q (.ref t) H'
theorem find_take {α : Type} {p : α → Bool} {l : List α} {i : Nat} {x : α} (h : l[i]? = some x) (hn : ∀ y ∈ l.take i, p y = false) (hp : p x = true) : l.find? p = some x := by
  induction l generalizing i with
  | nil => cases h
  | cons a l ih =>
    cases i with
    | zero =>
      obtain rfl : a = x := Option.some.inj h
      rw [List.find?_cons, hp]
    | succ i =>
      have ha : p a = false := hn a List.mem_cons_self
      rw [List.find?_cons, ha]
      exact ih h fun y hy => hn y (List.mem_cons_of_mem _ hy)
theorem find_nothing {α : Type} {p : α → Bool} {l : List α} (hn : ∀ y ∈ l, p y = false) : l.find? p = none := by
  rw [List.find?_eq_none]
  intro x hx
  rw [hn x hx]
  exact Bool.false_ne_true
theorem cares_sight (c : Cares) : valV (caresK c) (Sum.inr (Str.ofString "sight")) = some (.str c.si) := by
  show valV (_ :: _) _ = _
  exact valV_pos rfl
theorem cares_order (c : Cares) : valV (caresK c) (Sum.inr (Str.ofString "order")) = some (.str c.od) := by
  show valV (_ :: _) _ = _
  rw [valV_neg (keyN nk1)]
  exact valV_pos rfl
theorem cares_further (c : Cares) : valV (caresK c) (Sum.inr (Str.ofString "further")) = some (.str c.fu) := by
  show valV (_ :: _ :: _) _ = _
  rw [valV_neg (keyN nk2), valV_neg (keyN nk4)]
  exact valV_pos rfl
theorem cares_finish (c : Cares) : valV (caresK c) (Sum.inr (Str.ofString "finish")) = some (.str c.fi) := by
  show valV (_ :: _ :: _ :: _) _ = _
  rw [valV_neg (keyN nk3), valV_neg (keyN nk5), valV_neg (keyN nk6)]
  exact valV_pos rfl
def spRGetF (C : Addr) : Sp := fun vs H Q _ => ∃ (p : Addr) (z : Str) (ms : List Str) (tl : Str) (c : Cares), vs = [.ref p] ∧ ReaderAt C H p z ms tl c ∧ Q (.str c.fu) H
def spRGetZ (C : Addr) : Sp := fun vs H Q _ => ∃ (p : Addr) (z : Str) (ms : List Str) (tl : Str) (c : Cares), vs = [.ref p] ∧ ReaderAt C H p z ms tl c ∧ Q (.str c.fi) H
end FL
namespace FL
open PySem PySem.Spec PyProof.Rows L2 FL
/-! ### what is compared -/
def strsD (ls : List Str) : PyData := .list (ls.map PyData.str)
def roleD (r : Ro) : PyData := .tuple [.str r.1, .int ((r.2 : Nat) : Int)]
def rolesD (rs : List Ro) : PyData := .list (rs.map roleD)
theorem dp_strs {K : PySem.W.Frag} {H : Hp} {a : Addr} {ms : List Str} (h : H a = some (.lst (ms.map V.str))) : Dp K H (.ref a) (strsD ms) := by
  refine .lst (SqL.of h) ?_
  clear h
  induction ms with
  | nil => exact .nil
  | cons m ms ih => exact .cons (.str m) ih
theorem dp_roles {K : PySem.W.Frag} {H : Hp} {a : Addr} {xs : List V} {rs : List Ro} (h : H a = some (.lst xs)) (p : Paired (RoAt K H) xs rs) : Dp K H (.ref a) (rolesD rs) := by
  refine .lst (SqL.of h) (dp_paired (fun v r q => ?_) p)
  obtain ⟨t, rfl, ht⟩ := q
  exact .tup ht (.cons (.str _) (.cons (.int _) .nil))
theorem Alls.imp {P P' : Str → Prop} (k : ∀ y, P y → P' y) : ∀ {d : Nat} {t : Bu d}, Alls P d t → Alls P' d t
  | 0, _, h => k _ h
  | d + 1, _, h => fun t ht => Alls.imp k (h t ht)
theorem Few.mono {n m : Nat} (l : n ≤ m) : ∀ {d : Nat} {t : Bu d}, Few n d t → Few m d t
  | 0, _, _ => trivial
  | d + 1, _, h => ⟨Nat.le_trans h.1 l, fun t ht => Few.mono l (h.2 t ht)⟩
structure QOk (z : Str) (q : Str × Ro) : Prop where
  ov : Over z q.1
  le : q.1.length ≤ 1000
  wd : q.2.1 = lineW ∨ q.2.1 = nextW ∨ q.2.1 = endW
  hi : q.2.2 ≤ 3
theorem rows_ok {z : Str} {ms : List Str} {tl : Str} (om : MarksOk z ms) (ot : TailOk z tl) : ∀ {k lv : Nat} {t : Bu (k + 1)}, 1 ≤ lv → lv + k = ms.length + 1 → Alls (fun y => Over z y ∧ y.length ≤ 1000) (k + 1) t → ∀ q ∈ rows ms tl k lv t, QOk z q
  | 0, lv, t, _, _, h, q, hq => by
    rw [rows_zero] at hq
    obtain ⟨y, hy, rfl⟩ := List.mem_map.mp hq
    have ⟨a, b⟩ : Over z (ln y) ∧ (ln y).length ≤ 1000 := h y hy
    exact ⟨a, b, .inl rfl, by show 0 ≤ 3; decide⟩
  | k + 1, lv, t, l1, l2, h, q, hq => by
    have hi := om.hi
    have ro : ∀ w : Str, w = nextW ∨ w = endW → QOk z (roLine ms tl (w, lv), (w, lv)) := fun w hw =>
      ⟨ro_over om ot ⟨hw, l1, by show lv ≤ _; omega⟩, Nat.le_trans (ro_len om ot _) (by decide), .inr hw, by show lv ≤ 3; omega⟩
    rw [rows_succ] at hq
    rcases List.mem_append.mp hq with hq | hq
    · obtain ⟨part, hp, hq⟩ := List.mem_flatMap.mp hq
      rcases List.mem_cons.mp (show q ∈ (roLine ms tl (nextW, lv), (nextW, lv)) :: rows ms tl k (lv + 1) part from hq) with rfl | hq
      · exact ro _ (.inl rfl)
      · exact rows_ok om ot (by omega) (by omega) (h part hp) q hq
    · rw [List.mem_singleton.mp hq]
      exact ro _ (.inr rfl)
theorem sm_nat : ∀ n, n ≤ 3 → Sm 5 (.int ((n : Nat) : Int))
  | 0, _ => ⟨rfl, rfl, rfl, Nat.zero_le _, by decide +kernel⟩
  | 1, _ => ⟨rfl, rfl, rfl, Nat.zero_le _, by decide +kernel⟩
  | 2, _ => ⟨rfl, rfl, rfl, Nat.zero_le _, by decide +kernel⟩
  | 3, _ => ⟨rfl, rfl, rfl, Nat.zero_le _, by decide +kernel⟩
  | n + 4, h => absurd h (by omega)
theorem wd_plain {w : Str} (h : w = lineW ∨ w = nextW ∨ w = endW) : Plain w ∧ w.length ≤ 4 := by
  have e : (∀ c ∈ lineW.cps.toList, c < 128) ∧ (∀ c ∈ nextW.cps.toList, c < 128) ∧ (∀ c ∈ endW.cps.toList, c < 128) ∧ lineW.length ≤ 4 ∧ nextW.length ≤ 4 ∧ endW.length ≤ 4 := by decide +kernel
  obtain ⟨a, b, c, d, f, g⟩ := e
  rcases h with rfl | rfl | rfl
  · exact ⟨a, d⟩
  · exact ⟨b, f⟩
  · exact ⟨c, g⟩
theorem sm_strsD {z : Str} (az : Abc z) {qs : List (Str × Ro)} (h : ∀ q ∈ qs, QOk z q) : Sm (10004 * qs.length + 2) (strsD (qs.map Prod.fst)) := by
  have hl := SmL.all (k := 0) (m := 10002) (xs := qs.map Prod.fst) (f := PyData.str) fun y hy => by
    obtain ⟨q, hq, rfl⟩ := List.mem_map.mp hy
    have := (h q hq).le
    exact ⟨(Sm.str (az.plain (h q hq).ov)).mono (by omega), Nat.le_refl _⟩
  rw [List.length_map] at hl
  exact Sm.list hl (by decide)
theorem sm_rolesD {z : Str} {qs : List (Str × Ro)} (h : ∀ q ∈ qs, QOk z q) : Sm (102 * qs.length + 2) (rolesD (qs.map Prod.snd)) := by
  have hl := SmL.all (k := 1) (m := 100) (xs := qs.map Prod.snd) (f := roleD) fun r hr => by
    obtain ⟨q, hq, rfl⟩ := List.mem_map.mp hr
    obtain ⟨p, l⟩ := wd_plain (h q hq).wd
    exact ⟨(Sm.tuple (k := 0) (SmL.cons ((Sm.str p).mono (show _ ≤ 42 by omega)) (Nat.le_refl _) (SmL.cons (sm_nat _ (h q hq).hi) (Nat.le_refl _) SmL.nil)) (by decide)).mono (by omega), Nat.le_refl _⟩
  rw [List.length_map] at hl
  exact Sm.list hl (by decide)
theorem sm_two {n k : Nat} {d : PyData} (h : Sm n d) (hd : d.depth ≤ k) (hk : k < 12) : Sm (n + 2 + (n + 2 + 0) + 2) (.list [d, d]) := Sm.list (SmL.cons h hd (SmL.cons h hd SmL.nil)) hk
theorem depth_strs (ls : List Str) : (strsD ls).depth ≤ 1 := by
  have := depth_all (xs := ls) (f := PyData.str) (k := 0) fun _ _ => Nat.le_refl _
  show PyData.depthAll _ + 1 ≤ 1
  omega
theorem depth_roles (rs : List Ro) : (rolesD rs).depth ≤ 2 := by
  have := depth_all (xs := rs) (f := roleD) (k := 1) fun _ _ => Nat.le_refl _
  show PyData.depthAll _ + 1 ≤ 2
  omega
theorem eqv_self {n : Nat} {d : PyData} (h : Sm n d) : PyData.eqv d d = true := by
  rw [SeqAt.eqv_refl]
  exact h.cl
def spBR (C : Addr) : Sp := fun vs H Q _ => ∃ (d q : Addr) (z : Str) (ms : List Str) (tl : Str) (c : Cares) (v : V) (n : Nat) (t : Bu (n + 2)), vs = [.ref d, .ref q, v] ∧ ModelAt H d z ms tl c ∧ RdOk z ms tl c ∧ ReaderAt C H q z ms tl c ∧ ms.length = n + 1 ∧ BuAt false H (n + 2) v t ∧
  Alls (fun y => Over z y ∧ y.length ≤ 7) (n + 2) t ∧ Few 3 (n + 2) t ∧ ∀ H', Same H H' → Q (.bl true) H'
theorem bush_nice {z : Str} (az : Abc z) {n : Nat} {t : Bu (n + 2)} (hn : n ≤ 2) (al : Alls (fun y => Over z y ∧ y.length ≤ 7) (n + 2) t) (few : Few 3 (n + 2) t) : Sm 100000 (buD (n + 2) t) := by
  have h := bu_sm (b := 72) (d := n + 2) (t := t) (by omega) few (Alls.imp (fun y hy => ⟨az.plain hy.1, by omega⟩) al)
  refine h.mono ?_
  obtain rfl | rfl | rfl : n = 0 ∨ n = 1 ∨ n = 2 := by omega
  all_goals decide
theorem bush_sh {K : PySem.W.Frag} {H : Hp} {v : V} {n : Nat} {t : Bu n} {m : Nat} (h : BuAt false H n v t) (s : Sm m (buD n t)) : Sh K H v (buD n t) := .inl ⟨BuAt.dp h, s.nd⟩
end FL
namespace FL
open PySem PySem.Spec PyProof.Rows L2 FL
/-! ### the size of a tree -/
def szB : (d : Nat) → Bu d → Nat
  | 0, _ => 1
  | d + 1, ts => ((kids ts).map (szB d)).sum + 2
theorem szB_succ {d : Nat} (ts : Bu (d + 1)) : szB (d + 1) ts = ((kids ts).map (szB d)).sum + 2 := rfl
theorem szB_pos : ∀ {d : Nat} (t : Bu d), 1 ≤ szB d t
  | 0, _ => Nat.le_refl _
  | d + 1, ts => by rw [szB_succ]; omega
theorem sum_len {α : Type} {f : α → Nat} : ∀ {l : List α}, (∀ x ∈ l, 1 ≤ f x) → l.length ≤ (l.map f).sum
  | [], _ => Nat.le_refl _
  | x :: l, h => by
    have h1 := h x List.mem_cons_self
    have h2 := sum_len (l := l) fun y hy => h y (List.mem_cons_of_mem _ hy)
    rw [List.length_cons, List.map_cons, List.sum_cons]
    omega
theorem sum_mem {α : Type} {f : α → Nat} : ∀ {l : List α} {x : α}, x ∈ l → f x ≤ (l.map f).sum
  | y :: l, x, h => by
    rw [List.map_cons, List.sum_cons]
    rcases List.mem_cons.mp h with rfl | h
    · omega
    · have := sum_mem (f := f) h
      omega
theorem sum_le_sum {α : Type} {f g : α → Nat} : ∀ {l : List α}, (∀ x ∈ l, f x ≤ g x) → (l.map f).sum ≤ (l.map g).sum
  | [], _ => Nat.le_refl _
  | x :: l, h => by
    have h1 := h x List.mem_cons_self
    have h2 := sum_le_sum (l := l) fun y hy => h y (List.mem_cons_of_mem _ hy)
    simp only [List.map_cons, List.sum_cons]
    omega
theorem sum_take {α : Type} {f : α → Nat} {l : List α} (i : Nat) : ((l.take i).map f).sum ≤ (l.map f).sum := by
  have h := congrArg (fun z => (z.map f).sum) (List.take_append_drop i l)
  simp only [List.map_append, List.sum_append] at h
  omega
theorem kids_le {d : Nat} (t : Bu (d + 1)) : (kids t).length + 2 ≤ szB (d + 1) t := by
  have := sum_len (l := kids t) (f := szB d) fun x _ => szB_pos x
  rw [szB_succ]
  omega
theorem kid_le {d : Nat} {t : Bu (d + 1)} {x : Bu d} (h : x ∈ kids t) : szB d x + 2 ≤ szB (d + 1) t := by
  have := sum_mem (f := szB d) h
  rw [szB_succ]
  omega
theorem flat_sum {α β : Type} {f : α → List β} : ∀ {l : List α}, (l.flatMap f).length = (l.map fun x => (f x).length).sum
  | [] => rfl
  | x :: l => by
    rw [List.flatMap_cons, List.length_append, List.map_cons, List.sum_cons, flat_sum]
theorem rows_sz {ms : List Str} {tl : Str} : ∀ {k lv : Nat} {t : Bu (k + 1)}, (rows ms tl k lv t).length + 1 ≤ szB (k + 1) t
  | 0, lv, t => by
    have := kids_le t
    rw [rows_zero, List.length_map]
    omega
  | k + 1, lv, t => by
    rw [rows_succ, List.length_append, flat_sum, szB_succ]
    have h := sum_le_sum (l := kids t) (f := fun x => (gR ms tl k lv x).length) (g := szB (k + 1)) fun x _ => by
      have := rows_sz (ms := ms) (tl := tl) (lv := lv + 1) (t := x)
      exact this
    have h1 : [(roLine ms tl (endW, lv), (endW, lv))].length = 1 := rfl
    omega
theorem gR_sz {ms : List Str} {tl : Str} {k lv : Nat} {x : Bu (k + 1)} : (gR ms tl k lv x).length ≤ szB (k + 1) x := rows_sz (ms := ms) (tl := tl) (lv := lv + 1) (t := x)
theorem take_rows_sz {ms : List Str} {tl : Str} {k lv : Nat} {t : Bu (k + 2)} (i : Nat) : (((kids t).take i).flatMap (gR ms tl k lv)).length + 2 ≤ szB (k + 2) t := by
  rw [flat_sum, szB_succ]
  have h := sum_le_sum (l := (kids t).take i) (f := fun x => (gR ms tl k lv x).length) (g := szB (k + 1)) fun x _ => gR_sz
  have h2 := sum_take (f := szB (k + 1)) (l := kids t) i
  omega
/-! ### trees put together -/
def modLast {α : Type} (f : α → α) : List α → List α
  | [] => []
  | [x] => [f x]
  | x :: y :: r => x :: modLast f (y :: r)
theorem modLast_snoc {α : Type} (f : α → α) (x : α) : ∀ l : List α, modLast f (l ++ [x]) = l ++ [f x]
  | [] => rfl
  | [y] => rfl
  | y :: z :: l => congrArg (y :: ·) (modLast_snoc f x (z :: l))
def noKids (d : Nat) : Bu (d + 1) := ([] : List (Bu d))
theorem kids_no (d : Nat) : kids (noKids d) = [] := rfl
/-- a part without parts of its own, k levels deeper at the end -/
def addN : Nat → (d : Nat) → Bu d → Bu d
  | 0 => fun d => match d with
    | 0 => fun t => t
    | 1 => fun t => t
    | d + 2 => fun ts => (kids ts ++ [noKids d] : List (Bu (d + 1)))
  | k + 1 => fun d => match d with
    | 0 => fun t => t
    | d + 1 => fun ts => modLast (addN k d) (kids ts)
def mkL (y : Str) : Bu 0 := y
/-- a line at the end of the last part -/
def addL (y : Str) : (d : Nat) → Bu d → Bu d
  | 0, t => t
  | 1, ts => (kids ts ++ [mkL y] : List (Bu 0))
  | d + 2, ts => modLast (addL y (d + 1)) (kids ts)
/-- k levels deeper there is a last part -/
def Pth : Nat → (d : Nat) → Bu d → Prop
  | _, 0, _ => False
  | 0, _ + 1, _ => True
  | k + 1, d + 1, ts => ∃ (l : List (Bu d)) (x : Bu d), kids ts = l ++ [x] ∧ Pth k d x
theorem Pth.mono : ∀ {j k d : Nat} {t : Bu d}, Pth k d t → j ≤ k → Pth j d t
  | _, 0, 0, _, h, _ => (h : False).elim
  | _, _ + 1, 0, _, h, _ => (h : False).elim
  | 0, _, _ + 1, _, _, _ => trivial
  | j + 1, 0, _ + 1, _, _, l => absurd l (by omega)
  | j + 1, k + 1, d + 1, t, ⟨l, x, e, h⟩, q => ⟨l, x, e, h.mono (by omega)⟩
theorem pth_addN : ∀ {k d : Nat} {t : Bu d}, Pth k d t → k + 2 ≤ d → Pth (k + 1) d (addN k d t)
  | 0, d + 2, t, _, _ => ⟨kids t, noKids d, rfl, trivial⟩
  | k + 1, d + 1, t, ⟨l, x, e, h⟩, q => ⟨l, addN k d x, by show modLast (addN k d) (kids t) = _; rw [e, modLast_snoc], pth_addN h (by omega)⟩
theorem pth_addL {y : Str} : ∀ {d : Nat} {t : Bu (d + 1)}, Pth d (d + 1) t → Pth d (d + 1) (addL y (d + 1) t)
  | 0, _, _ => trivial
  | d + 1, t, ⟨l, x, e, h⟩ => ⟨l, addL y (d + 1) x, by show modLast (addL y (d + 1)) (kids t) = _; rw [e, modLast_snoc], pth_addL h⟩
theorem sum_snoc {α : Type} {f : α → Nat} {l : List α} {x : α} : ((l ++ [x]).map f).sum = (l.map f).sum + f x := by
  rw [List.map_append, List.sum_append]
  show _ + (f x + 0) = _
  omega
theorem sz_addN : ∀ {k d : Nat} {t : Bu d}, szB d (addN k d t) ≤ szB d t + 2
  | 0, 0, _ => by show 1 ≤ _; omega
  | _ + 1, 0, _ => by show 1 ≤ _; omega
  | 0, 1, t => by show szB 1 t ≤ _; omega
  | 0, d + 2, t => by
    rw [szB_succ, szB_succ]
    show ((kids t ++ [noKids d]).map _).sum + 2 ≤ _
    rw [sum_snoc]
    show _ + 2 + 2 ≤ _
    omega
  | k + 1, d + 1, t => by
    rw [szB_succ, szB_succ]
    show ((modLast (addN k d) (kids t)).map _).sum + 2 ≤ _
    rcases List.eq_nil_or_concat (kids t) with e | ⟨l, x, e⟩
    · rw [e]
      exact Nat.le_add_right _ _
    · rw [List.concat_eq_append] at e
      rw [e, modLast_snoc, sum_snoc, sum_snoc]
      have := sz_addN (k := k) (t := x)
      omega
theorem sz_addL : ∀ {d : Nat} {t : Bu d} {y : Str}, szB d (addL y d t) ≤ szB d t + 1
  | 0, _, _ => by show 1 ≤ _; omega
  | 1, t, y => by
    rw [szB_succ, szB_succ]
    show ((kids t ++ [mkL y]).map _).sum + 2 ≤ _
    rw [sum_snoc]
    show _ + 1 + 2 ≤ _
    omega
  | d + 2, t, y => by
    rw [szB_succ, szB_succ]
    show ((modLast (addL y (d + 1)) (kids t)).map _).sum + 2 ≤ _
    rcases List.eq_nil_or_concat (kids t) with e | ⟨l, x, e⟩
    · rw [e]
      exact Nat.le_add_right _ _
    · rw [List.concat_eq_append] at e
      rw [e, modLast_snoc, sum_snoc, sum_snoc]
      have := sz_addL (t := x) (y := y)
      omega
/-- one row more: what it is told as, its line -/
def stepG (n : Nat) (t : Bu (n + 1)) (q : Ro × Str) : Bu (n + 1) := if q.1.1 = nextW then addN (q.1.2 - 1) (n + 1) t else if q.1.1 = lineW then addL q.2 (n + 1) t else t
def grownB (n : Nat) (qs : List (Ro × Str)) : Bu (n + 1) := qs.foldl (stepG n) (noKids n)
theorem sz_step {n : Nat} {t : Bu (n + 1)} {q : Ro × Str} : szB (n + 1) (stepG n t q) ≤ szB (n + 1) t + 2 := by
  unfold stepG
  split
  · exact sz_addN
  · split
    · exact Nat.le_succ_of_le sz_addL
    · omega
theorem sz_fold {n : Nat} : ∀ {qs : List (Ro × Str)} {t : Bu (n + 1)}, szB (n + 1) (qs.foldl (stepG n) t) ≤ szB (n + 1) t + 2 * qs.length
  | [], _ => Nat.le_add_right _ _
  | q :: qs, t => by
    have h1 := sz_fold (qs := qs) (t := stepG n t q)
    have h2 := sz_step (t := t) (q := q)
    rw [List.foldl_cons, List.length_cons]
    omega
theorem sz_grown {n : Nat} {qs : List (Ro × Str)} : szB (n + 1) (grownB n qs) ≤ 2 + 2 * qs.length := sz_fold (t := noKids n)
theorem alls_addN {p : Str → Prop} : ∀ {k d : Nat} {t : Bu d}, Alls p d t → Alls p d (addN k d t)
  | 0, 0, _, h => h
  | _ + 1, 0, _, h => h
  | 0, 1, _, h => h
  | 0, d + 2, t, h => fun x hx => by
    rcases List.mem_append.mp (show x ∈ kids t ++ [noKids d] from hx) with hx | hx
    · exact h x hx
    · rw [List.mem_singleton.mp hx]
      exact fun y hy => nomatch (show y ∈ ([] : List (Bu d)) from hy)
  | k + 1, d + 1, t, h => fun x hx => by
    have hx : x ∈ modLast (addN k d) (kids t) := hx
    rcases List.eq_nil_or_concat (kids t) with e | ⟨l, u, e⟩
    · rw [e] at hx
      cases hx
    · rw [List.concat_eq_append] at e
      rw [e, modLast_snoc] at hx
      rcases List.mem_append.mp hx with hx | hx
      · exact h x (by rw [e]; exact List.mem_append_left _ hx)
      · rw [List.mem_singleton.mp hx]
        exact alls_addN (h u (by rw [e]; exact List.mem_append_right _ List.mem_cons_self))
theorem alls_addL {p : Str → Prop} {y : Str} (hy : p y) : ∀ {d : Nat} {t : Bu d}, Alls p d t → Alls p d (addL y d t)
  | 0, _, h => h
  | 1, t, h => fun x hx => by
    rcases List.mem_append.mp (show x ∈ kids t ++ [mkL y] from hx) with hx | hx
    · exact h x hx
    · rw [List.mem_singleton.mp hx]
      exact hy
  | d + 2, t, h => fun x hx => by
    have hx : x ∈ modLast (addL y (d + 1)) (kids t) := hx
    rcases List.eq_nil_or_concat (kids t) with e | ⟨l, u, e⟩
    · rw [e] at hx
      cases hx
    · rw [List.concat_eq_append] at e
      rw [e, modLast_snoc] at hx
      rcases List.mem_append.mp hx with hx | hx
      · exact h x (by rw [e]; exact List.mem_append_left _ hx)
      · rw [List.mem_singleton.mp hx]
        exact alls_addL hy (h u (by rw [e]; exact List.mem_append_right _ List.mem_cons_self))
theorem alls_grown {p : Str → Prop} {n : Nat} {qs : List (Ro × Str)} (h : ∀ q ∈ qs, p q.2) : Alls p (n + 1) (grownB n qs) := by
  unfold grownB
  have h0 : Alls p (n + 1) (noKids n) := fun x hx => nomatch (show x ∈ ([] : List (Bu n)) from hx)
  generalize noKids n = t at h0
  induction qs generalizing t with
  | nil => exact h0
  | cons q qs ih =>
    rw [List.foldl_cons]
    refine ih (fun x hx => h x (List.mem_cons_of_mem _ hx)) _ ?_
    unfold stepG
    split
    · exact alls_addN h0
    · split
      · exact alls_addL (h q List.mem_cons_self) h0
      · exact h0
/-! ### what is told of a grown tree -/
theorem next_end : ¬ nextW = endW := by decide +kernel
theorem line_end : ¬ lineW = endW := by decide +kernel
theorem line_next : ¬ lineW = nextW := by decide +kernel
theorem end_next : ¬ endW = nextW := by decide +kernel
theorem end_line : ¬ endW = lineW := by decide +kernel
def nonE (rs : List Ro) : List Ro := rs.filter fun r => !decide (r.1 = endW)
theorem nonE_app (a b : List Ro) : nonE (a ++ b) = nonE a ++ nonE b := List.filter_append ..
theorem nonE_end (lv : Nat) : nonE [(endW, lv)] = [] := by
  unfold nonE
  rw [List.filter_cons, decide_eq_true (show ((endW, lv) : Ro).1 = endW from rfl)]
  rfl
theorem nonE_one {r : Ro} (h : ¬ r.1 = endW) : nonE [r] = [r] := by
  unfold nonE
  rw [List.filter_cons, decide_eq_false h]
  rfl
abbrev rolesOf (ms : List Str) (tl : Str) (k lv : Nat) (t : Bu (k + 1)) : List Ro := (rows ms tl k lv t).map Prod.snd
theorem roles_snoc {ms : List Str} {tl : Str} {k lv : Nat} {t : Bu (k + 2)} {l : List (Bu (k + 1))} {x : Bu (k + 1)} (e : kids t = l ++ [x]) :
    nonE (rolesOf ms tl (k + 1) lv t) = nonE ((l.flatMap (gR ms tl k lv)).map Prod.snd) ++ ((nextW, lv) :: nonE (rolesOf ms tl k (lv + 1) x)) := by
  unfold rolesOf
  rw [rows_succ, e, List.flatMap_append, List.flatMap_singleton, List.map_append, List.map_append, nonE_app, nonE_app]
  show nonE _ ++ nonE ((nextW, lv) :: (rows ms tl k (lv + 1) x).map Prod.snd) ++ nonE [(endW, lv)] = _
  rw [nonE_end, List.append_nil, show (nextW, lv) :: (rows ms tl k (lv + 1) x).map Prod.snd = [(nextW, lv)] ++ (rows ms tl k (lv + 1) x).map Prod.snd from rfl, nonE_app, nonE_one next_end]
  rfl
theorem roles_no {ms : List Str} {tl : Str} {k lv : Nat} : nonE (rolesOf ms tl k lv (noKids k)) = [] := by
  cases k with
  | zero => rfl
  | succ k =>
    unfold rolesOf
    rw [rows_succ]
    exact nonE_end lv
theorem roles_addN {ms : List Str} {tl : Str} : ∀ {j k lv : Nat} {t : Bu (k + 1)}, Pth j (k + 1) t → j + 1 ≤ k → nonE (rolesOf ms tl k lv (addN j (k + 1) t)) = nonE (rolesOf ms tl k lv t) ++ [(nextW, lv + j)]
  | 0, k + 1, lv, t, _, _ => by
    rw [roles_snoc (t := addN 0 (k + 2) t) (l := kids t) (x := noKids k) rfl, roles_no]
    unfold rolesOf
    rw [rows_succ, List.map_append, nonE_app]
    show _ = (nonE ((kids t).flatMap (gR ms tl k lv) |>.map Prod.snd) ++ nonE [(endW, lv)]) ++ _
    rw [nonE_end, List.append_nil]
    rfl
  | j + 1, k + 1, lv, t, ⟨l, x, e, h⟩, q => by
    have e2 : kids (addN (j + 1) (k + 2) t) = l ++ [addN j (k + 1) x] := by
      show modLast (addN j (k + 1)) (kids t) = _
      rw [e, modLast_snoc]
    rw [roles_snoc e2, roles_snoc e, roles_addN h (by omega), List.append_assoc, show lv + 1 + j = lv + (j + 1) by omega]
    rfl
theorem roles_addL {ms : List Str} {tl : Str} {y : Str} : ∀ {k lv : Nat} {t : Bu (k + 1)}, Pth k (k + 1) t → nonE (rolesOf ms tl k lv (addL y (k + 1) t)) = nonE (rolesOf ms tl k lv t) ++ [(lineW, 0)]
  | 0, lv, t, _ => by
    unfold rolesOf
    rw [rows_zero, rows_zero]
    show nonE (((kids t ++ [mkL y]).map _).map _) = _
    rw [List.map_append, List.map_append, nonE_app]
    show _ ++ nonE [(lineW, 0)] = _
    rw [nonE_one line_end]
  | k + 1, lv, t, ⟨l, x, e, h⟩ => by
    have e2 : kids (addL y (k + 2) t) = l ++ [addL y (k + 1) x] := by
      show modLast (addL y (k + 1)) (kids t) = _
      rw [e, modLast_snoc]
    rw [roles_snoc e2, roles_snoc e, roles_addL h, List.append_assoc]
    rfl
end FL
namespace FL
open PySem PySem.Spec PyProof.Rows L2 FL
/-! ### the tree that is read off what is told -/
structure InvG (n : Nat) (t : Bu (n + 1)) (s : Sd) : Prop where
  lo : 1 ≤ s.1 → Pth (s.1 - 1) (n + 1) t
  bd : s.2 = bodyW → s.1 = n ∧ Pth n (n + 1) t
theorem wait_body : ¬ waitW = bodyW := by decide +kernel
theorem move_inv {ms : List Str} {tl : Str} {c : Cares} {s : Sd} {y : Str} {q : Ro × Sd} {n : Nat} {t : Bu (n + 1)} (en : ms.length = n) (ok : SdOk ms.length s) (iv : InvG n t s) (h : moveL ms tl c s y = some q) :
    InvG n (stepG n t (q.1, y)) q.2 ∧ nonE (rolesOf ms tl n 1 (stepG n t (q.1, y))) = nonE (rolesOf ms tl n 1 t) ++ nonE [q.1] := by
  have hi := ok.hi
  unfold moveL at h
  split at h
  · cases h
  rename_i n0
  cases e : roleAtL ms tl c y s.1 with
  | none =>
    rw [e] at h
    simp only at h
    split at h
    · rename_i hb
      cases h
      obtain ⟨b1, b2⟩ := iv.bd hb
      have es : stepG n t ((lineW, 0), y) = addL y (n + 1) t := by
        unfold stepG
        rw [if_neg line_next, if_pos rfl]
      show InvG n (stepG n t ((lineW, 0), y)) s ∧ nonE (rolesOf ms tl n 1 (stepG n t ((lineW, 0), y))) = nonE (rolesOf ms tl n 1 t) ++ nonE [(lineW, 0)]
      rw [es, nonE_one line_end]
      have p := pth_addL (y := y) b2
      exact ⟨⟨fun _ => p.mono (by omega), fun _ => ⟨b1, p⟩⟩, roles_addL b2⟩
    · cases h
  | some r =>
    obtain ⟨h1, h2, h3⟩ := roleAt_ok e
    have p1 := (iv.lo (by omega))
    rw [e] at h
    simp only at h
    split at h
    · cases h
    split at h
    · rename_i he
      cases h
      have es : stepG n t (r, y) = t := by
        unfold stepG
        rw [show ((r, y) : Ro × Str).1.1 = endW from he, if_neg end_next, if_neg end_line]
      show InvG n (stepG n t (r, y)) (r.2 - 1, waitW) ∧ nonE (rolesOf ms tl n 1 (stepG n t (r, y))) = nonE (rolesOf ms tl n 1 t) ++ nonE [r]
      have e0 : nonE [r] = [] := by
        obtain ⟨w, l⟩ := r
        obtain rfl : w = endW := he
        exact nonE_end l
      rw [es, e0, List.append_nil]
      exact ⟨⟨fun q => p1.mono (by show r.2 - 1 - 1 ≤ s.1 - 1; omega), fun q => absurd q wait_body⟩, rfl⟩
    · rename_i he
      have hn : r.1 = nextW := by
        rcases h1 with h1 | h1
        · exact h1
        · exact absurd h1 he
      cases h
      have es : stepG n t (r, y) = addN (r.2 - 1) (n + 1) t := by
        unfold stepG
        rw [show ((r, y) : Ro × Str).1.1 = nextW from hn, if_pos rfl]
      show InvG n (stepG n t (r, y)) (if r.2 = ms.length then (ms.length, bodyW) else (r.2 + 1, waitW)) ∧ nonE (rolesOf ms tl n 1 (stepG n t (r, y))) = nonE (rolesOf ms tl n 1 t) ++ nonE [r]
      have p2 : Pth (r.2 - 1) (n + 1) t := p1.mono (by omega)
      have p3 := pth_addN p2 (by omega)
      rw [show r.2 - 1 + 1 = r.2 by omega] at p3
      have e0 : nonE [r] = [(nextW, 1 + (r.2 - 1))] := by
        obtain ⟨w, l⟩ := r
        obtain rfl : w = nextW := hn
        rw [nonE_one next_end]
        have : 1 ≤ l := h2
        show [(nextW, l)] = [(nextW, 1 + (l - 1))]
        rw [show 1 + (l - 1) = l by omega]
      rw [es, e0]
      refine ⟨?_, roles_addN p2 (by omega)⟩
      split
      · rename_i q
        exact ⟨fun _ => p3.mono (by show ms.length - 1 ≤ r.2; omega), fun _ => ⟨en, (show r.2 = n by omega) ▸ p3⟩⟩
      · exact ⟨fun _ => p3.mono (by show r.2 + 1 - 1 ≤ r.2; omega), fun q => absurd q wait_body⟩
theorem go_fold {ms : List Str} {tl : Str} {c : Cares} {n : Nat} (en : ms.length = n) : ∀ {ys : List Str} {s : Sd} {t : Bu (n + 1)}, SdOk ms.length s → InvG n t s →
    nonE (rolesOf ms tl n 1 ((((goL ms tl c s ys).map Prod.fst).zip ys).foldl (stepG n) t)) = nonE (rolesOf ms tl n 1 t) ++ nonE ((goL ms tl c s ys).map Prod.fst)
  | [], s, t, _, _ => (List.append_nil _).symm
  | y :: ys, s, t, ok, iv => by
    cases e : moveL ms tl c s y with
    | none =>
      have : goL ms tl c s (y :: ys) = [] := by
        unfold goL
        rw [e]
      rw [this]
      exact (List.append_nil _).symm
    | some q =>
      have eg : goL ms tl c s (y :: ys) = q :: goL ms tl c q.2 ys := by
        conv => lhs; unfold goL
        rw [e]
      obtain ⟨i1, i2⟩ := move_inv en ok iv e
      have ih := go_fold (tl := tl) (c := c) en (ys := ys) (move_ok ok e).1 i1
      rw [eg, List.map_cons, List.zip_cons_cons, List.foldl_cons, ih, i2, List.append_assoc, ← nonE_app]
      rfl
theorem inv0 {n : Nat} : InvG n (noKids n) (1, waitW) := ⟨fun _ => trivial, fun q => absurd q wait_body⟩
theorem grown_nonE {ms : List Str} {tl : Str} {c : Cares} {n : Nat} {ys : List Str} (en : ms.length = n) (h1 : 1 ≤ n) : nonE (rolesOf ms tl n 1 (grownB n ((tellsL ms tl c ys).zip ys))) = nonE (tellsL ms tl c ys) := by
  have := go_fold (ms := ms) (tl := tl) (c := c) en (ys := ys) (t := noKids n) (s := (1, waitW)) ⟨by show 1 ≤ _; omega, .inl rfl, fun q => by cases q⟩ inv0
  rw [roles_no] at this
  exact this
/-! ### what is read off a tree's own rows -/
def stepR (o k : Nat) (t : Bu (k + 1)) (q : Ro × Str) : Bu (k + 1) := if q.1.1 = nextW then addN (q.1.2 - o) (k + 1) t else if q.1.1 = lineW then addL q.2 (k + 1) t else t
theorem step_one {n : Nat} : stepG n = stepR 1 n := rfl
def sw (q : Str × Ro) : Ro × Str := (q.2, q.1)
theorem rows_lv {ms : List Str} {tl : Str} : ∀ {k lv : Nat} {t : Bu (k + 1)}, ∀ q ∈ rows ms tl k lv t, q.2.1 = nextW → lv ≤ q.2.2
  | 0, lv, t, q, hq, hn => by
    rw [rows_zero] at hq
    obtain ⟨y, _, rfl⟩ := List.mem_map.mp hq
    exact absurd hn line_next
  | k + 1, lv, t, q, hq, hn => by
    rw [rows_succ] at hq
    rcases List.mem_append.mp hq with hq | hq
    · obtain ⟨part, _, hq⟩ := List.mem_flatMap.mp hq
      rcases List.mem_cons.mp (show q ∈ (roLine ms tl (nextW, lv), (nextW, lv)) :: rows ms tl k (lv + 1) part from hq) with rfl | hq
      · exact Nat.le_refl _
      · exact Nat.le_of_succ_le (rows_lv q hq hn)
    · rw [List.mem_singleton.mp hq] at hn
      exact absurd hn end_next
def mkK {d : Nat} (l : List (Bu d)) : Bu (d + 1) := l
theorem addN_snoc {j k : Nat} {acc : List (Bu (k + 1))} {x : Bu (k + 1)} : addN (j + 1) (k + 2) (mkK (acc ++ [x])) = mkK (acc ++ [addN j (k + 1) x]) := modLast_snoc _ _ _
theorem addL_snoc {y : Str} {k : Nat} {acc : List (Bu (k + 1))} {x : Bu (k + 1)} : addL y (k + 2) (mkK (acc ++ [x])) = mkK (acc ++ [addL y (k + 1) x]) := modLast_snoc _ _ _
theorem addN_new {k : Nat} {acc : List (Bu (k + 1))} : addN 0 (k + 2) (mkK acc) = mkK (acc ++ [noKids k]) := rfl
theorem addL_new {y : Bu 0} {acc : List (Bu 0)} : addL (ln y) 1 (mkK acc) = mkK (acc ++ [y]) := rfl
theorem fold_in {o k : Nat} {acc : List (Bu (k + 1))} : ∀ {qs : List (Ro × Str)} {x : Bu (k + 1)}, (∀ q ∈ qs, q.1.1 = nextW → o + 1 ≤ q.1.2) →
    qs.foldl (stepR o (k + 1)) (mkK (acc ++ [x])) = mkK (acc ++ [qs.foldl (stepR (o + 1) k) x])
  | [], _, _ => rfl
  | q :: qs, x, h => by
    have e : stepR o (k + 1) (mkK (acc ++ [x])) q = mkK (acc ++ [stepR (o + 1) k x q]) := by
      unfold stepR
      by_cases hn : q.1.1 = nextW
      · rw [if_pos hn, if_pos hn]
        have hl := h q List.mem_cons_self hn
        rw [show q.1.2 - o = (q.1.2 - (o + 1)) + 1 by omega]
        exact addN_snoc
      · rw [if_neg hn, if_neg hn]
        by_cases hl : q.1.1 = lineW
        · rw [if_pos hl, if_pos hl]
          exact addL_snoc
        · rw [if_neg hl, if_neg hl]
    rw [List.foldl_cons, List.foldl_cons, e]
    exact fold_in fun y hy => h y (List.mem_cons_of_mem _ hy)
theorem fold_lines {o : Nat} : ∀ {ys : List (Bu 0)} {acc : List (Bu 0)}, (ys.map fun y => (((lineW, 0), ln y) : Ro × Str)).foldl (stepR o 0) (mkK acc) = mkK (acc ++ ys)
  | [], acc => congrArg mkK (List.append_nil acc).symm
  | y :: ys, acc => by
    have e : stepR o 0 (mkK acc) ((lineW, 0), ln y) = mkK (acc ++ [y]) := by
      unfold stepR
      rw [if_neg line_next]
      exact (if_pos rfl).trans addL_new
    rw [List.map_cons, List.foldl_cons, e, fold_lines, List.append_assoc]
    rfl
theorem fold_rows {ms : List Str} {tl : Str} : ∀ {k o : Nat} {t : Bu (k + 1)}, ((rows ms tl k o t).map sw).foldl (stepR o k) (noKids k) = t
  | 0, o, t => by
    rw [rows_zero, List.map_map]
    exact fold_lines (ys := kids t) (acc := [])
  | k + 1, o, t => by
    have hf : ∀ (l : List (Bu (k + 1))) (acc : List (Bu (k + 1))), ((l.flatMap (gR ms tl k o)).map sw).foldl (stepR o (k + 1)) (mkK acc) = mkK (acc ++ l) := by
      intro l
      induction l with
      | nil => exact fun acc => congrArg mkK (List.append_nil acc).symm
      | cons part l ih =>
        intro acc
        rw [List.flatMap_cons, List.map_append, List.foldl_append]
        have e1 : (gR ms tl k o part).map sw = ((nextW, o), roLine ms tl (nextW, o)) :: (rows ms tl k (o + 1) part).map sw := rfl
        have e2 : stepR o (k + 1) (mkK acc) ((nextW, o), roLine ms tl (nextW, o)) = mkK (acc ++ [noKids k]) := by
          unfold stepR
          rw [if_pos rfl, Nat.sub_self]
          exact addN_new
        rw [e1, List.foldl_cons, e2, fold_in (fun q hq hn => by
          obtain ⟨q', hq', rfl⟩ := List.mem_map.mp hq
          exact rows_lv q' hq' hn), fold_rows, ih, List.append_assoc]
        rfl
    have hf := hf (kids t) []
    rw [rows_succ, List.map_append, List.foldl_append]
    have e0 : mkK (([] : List (Bu (k + 1)))) = noKids (k + 1) := rfl
    rw [← e0, hf]
    show stepR o (k + 1) t ((endW, o), roLine ms tl (endW, o)) = t
    unfold stepR
    rw [if_neg end_next, if_neg end_line]
theorem grown_rows {ms : List Str} {tl : Str} {n : Nat} {t : Bu (n + 1)} : grownB n (((rows ms tl n 1 t).map Prod.snd).zip ((rows ms tl n 1 t).map Prod.fst)) = t := by
  have e : ((rows ms tl n 1 t).map Prod.snd).zip ((rows ms tl n 1 t).map Prod.fst) = (rows ms tl n 1 t).map sw := by
    generalize rows ms tl n 1 t = l
    induction l with
    | nil => rfl
    | cons q l ih =>
      rw [List.map_cons, List.map_cons, List.zip_cons_cons, ih]
      rfl
  rw [e]
  exact fold_rows
end FL
namespace FL
open PySem PySem.Spec PyProof.Rows L2 FL
/-! ### a tree of lists of its own: F tells the addresses of its lists -/
inductive Trip {α β γ : Type} (R : α → β → γ → Prop) : List α → List β → List γ → Prop
  | nil : Trip R [] [] []
  | cons {x : α} {y : β} {z : γ} {xs : List α} {ys : List β} {zs : List γ} (h : R x y z) (r : Trip R xs ys zs) : Trip R (x :: xs) (y :: ys) (z :: zs)
theorem Trip.snoc {α β γ : Type} {R : α → β → γ → Prop} : ∀ {xs : List α} {ys : List β} {zs : List γ} {x : α} {y : β} {z : γ}, Trip R xs ys zs → R x y z → Trip R (xs ++ [x]) (ys ++ [y]) (zs ++ [z])
  | _, _, _, _, _, _, .nil, h => .cons h .nil
  | _, _, _, _, _, _, .cons a r, h => .cons a (r.snoc h)
theorem Trip.imp {α β γ : Type} {R S : α → β → γ → Prop} : ∀ {xs : List α} {ys : List β} {zs : List γ}, Trip R xs ys zs → (∀ x y z, z ∈ zs → R x y z → S x y z) → Trip S xs ys zs
  | _, _, _, .nil, _ => .nil
  | _, _, _, .cons a r, k => .cons (k _ _ _ List.mem_cons_self a) (r.imp fun x y z h q => k x y z (List.mem_cons_of_mem _ h) q)
theorem Trip.len {α β γ : Type} {R : α → β → γ → Prop} : ∀ {xs : List α} {ys : List β} {zs : List γ}, Trip R xs ys zs → xs.length = ys.length
  | _, _, _, .nil => rfl
  | _, _, _, .cons _ r => congrArg (· + 1) r.len
theorem Trip.two {α β γ : Type} {R : α → β → γ → Prop} {S : α → β → Prop} : ∀ {xs : List α} {ys : List β} {zs : List γ}, Trip R xs ys zs → (∀ x y z, R x y z → S x y) → Paired S xs ys
  | _, _, _, .nil, _ => .nil
  | _, _, _, .cons a r, k => .cons (k _ _ _ a) (r.two k)
theorem Trip.unsnoc {α β γ : Type} {R : α → β → γ → Prop} {ys : List β} {y : β} : ∀ {xs : List α} {zs : List γ}, Trip R xs (ys ++ [y]) zs → ∃ xs0 x zs0 z, xs = xs0 ++ [x] ∧ zs = zs0 ++ [z] ∧ Trip R xs0 ys zs0 ∧ R x y z := by
  induction ys with
  | nil =>
    intro xs zs h
    cases h with
    | cons a r =>
      cases r
      exact ⟨[], _, [], _, rfl, rfl, .nil, a⟩
  | cons b ys ih =>
    intro xs zs h
    cases h with
    | cons a r =>
      obtain ⟨xs0, x, zs0, z, rfl, rfl, h1, h2⟩ := ih r
      exact ⟨_ :: xs0, x, _ :: zs0, z, rfl, rfl, .cons a h1, h2⟩
def TrF (H : Hp) : (d : Nat) → V → Bu d → List Addr → Prop
  | 0, v, y, F => v = .str (ln y) ∧ F = []
  | d + 1, v, ts, F => ∃ (a : Addr) (xs : List V) (Fs : List (List Addr)), v = .ref a ∧ H a = some (.lst xs) ∧ Trip (TrF H d) xs (kids ts) Fs ∧ F = a :: Fs.flatten
theorem TrF.at_ {H : Hp} : ∀ {d : Nat} {v : V} {t : Bu d} {F : List Addr}, TrF H d v t F → BuAt false H d v t
  | 0, _, _, _, h => h.1
  | d + 1, _, _, _, ⟨a, xs, Fs, e, h, p, _⟩ => ⟨a, xs, e, h, p.two fun _ _ _ q => q.at_⟩
theorem TrF.keep {H H' : Hp} : ∀ {d : Nat} {v : V} {t : Bu d} {F : List Addr}, TrF H d v t F → (∀ a ∈ F, H' a = H a) → TrF H' d v t F
  | 0, _, _, _, h, _ => h
  | d + 1, _, _, _, ⟨a, xs, Fs, e, h, p, q⟩, k => by
    subst q
    refine ⟨a, xs, Fs, e, by rw [k a List.mem_cons_self]; exact h, p.imp fun x y z hz r => r.keep fun b hb => k b ?_, rfl⟩
    exact List.mem_cons_of_mem _ (List.mem_flatten.mpr ⟨z, hz, hb⟩)
theorem Trip.zmem {α β γ : Type} {R : α → β → γ → Prop} : ∀ {xs : List α} {ys : List β} {zs : List γ}, Trip R xs ys zs → ∀ z ∈ zs, ∃ x y, y ∈ ys ∧ R x y z
  | _, _, _, .nil, _, h => nomatch h
  | _, _, _, .cons a r, z, h => by
    rcases List.mem_cons.mp h with rfl | h
    · exact ⟨_, _, List.mem_cons_self, a⟩
    · obtain ⟨x, y, h1, h2⟩ := r.zmem z h
      exact ⟨x, y, List.mem_cons_of_mem _ h1, h2⟩
theorem TrF.some {H : Hp} : ∀ {d : Nat} {v : V} {t : Bu d} {F : List Addr}, TrF H d v t F → ∀ a ∈ F, ∃ xs, H a = some (.lst xs)
  | 0, _, _, _, h, a, ha => by
    rw [h.2] at ha
    cases ha
  | d + 1, _, _, _, ⟨a, xs, Fs, e, h, p, q⟩, b, hb => by
    subst q
    rcases List.mem_cons.mp hb with rfl | hb
    · exact ⟨xs, h⟩
    · obtain ⟨z, hz, hb⟩ := List.mem_flatten.mp hb
      obtain ⟨x, y, _, r⟩ := p.zmem z hz
      exact r.some b hb
/-- the lists at the end, one within the other, from the root on: A -/
def SpF (H : Hp) : List Addr → (d : Nat) → V → Bu d → List Addr → Prop
  | [], d, v, t, F => TrF H d v t F
  | _ :: _, 0, _, _, _ => False
  | a :: [], d + 1, v, ts, F => v = .ref a ∧ ∃ (xs : List V) (Fs : List (List Addr)), H a = some (.lst xs) ∧ Trip (TrF H d) xs (kids ts) Fs ∧ F = a :: Fs.flatten
  | a :: b :: A, d + 1, v, ts, F => v = .ref a ∧ ∃ (xs : List V) (Fs : List (List Addr)) (l : List (Bu d)) (u : Bu d) (G : List Addr), H a = some (.lst (xs ++ [.ref b])) ∧ kids ts = l ++ [u] ∧ Trip (TrF H d) xs l Fs ∧ SpF H (b :: A) d (.ref b) u G ∧ F = a :: (Fs.flatten ++ G)
theorem flatten_snoc {α : Type} (Fs : List (List α)) (G : List α) : (Fs ++ [G]).flatten = Fs.flatten ++ G := by
  rw [List.flatten_append]
  show _ ++ (G ++ []) = _
  rw [List.append_nil]
theorem SpF.tr {H : Hp} : ∀ {A : List Addr} {d : Nat} {v : V} {t : Bu d} {F : List Addr}, SpF H A d v t F → TrF H d v t F
  | [], _, _, _, _, h => h
  | _ :: _, 0, _, _, _, h => by
    cases ‹List Addr› <;> exact (h : False).elim
  | a :: [], d + 1, _, _, _, ⟨e, xs, Fs, h, p, q⟩ => ⟨a, xs, Fs, e, h, p, q⟩
  | a :: b :: A, d + 1, _, ts, _, ⟨e, xs, Fs, l, u, G, h, ek, p, r, q⟩ => ⟨a, xs ++ [.ref b], Fs ++ [G], e, h, by rw [ek]; exact p.snoc r.tr, by rw [q, flatten_snoc]⟩
theorem SpF.take {H : Hp} : ∀ {A : List Addr} {d : Nat} {v : V} {t : Bu d} {F : List Addr} (i : Nat), SpF H A d v t F → SpF H (A.take i) d v t F
  | [], _, _, _, _, i, h => by rw [List.take_nil]; exact h
  | _ :: _, 0, _, _, _, _, h => by
    cases ‹List Addr› <;> exact (h : False).elim
  | a :: A, d + 1, _, _, _, 0, h => h.tr
  | a :: [], d + 1, _, _, _, i + 1, h => by
    rw [List.take_succ_cons, List.take_nil]
    exact h
  | a :: b :: A, d + 1, _, ts, _, 1, ⟨e, xs, Fs, l, u, G, h, ek, p, r, q⟩ => ⟨e, xs ++ [.ref b], Fs ++ [G], h, by rw [ek]; exact p.snoc r.tr, by rw [q, flatten_snoc]⟩
  | a :: b :: A, d + 1, _, ts, _, i + 2, ⟨e, xs, Fs, l, u, G, h, ek, p, r, q⟩ => by
    have r2 := r.take (i + 1)
    rw [List.take_succ_cons] at r2
    rw [List.take_succ_cons, List.take_succ_cons]
    exact ⟨e, xs, Fs, l, u, G, h, ek, p, r2, q⟩
theorem SpF.head {H : Hp} {a : Addr} {A : List Addr} {d : Nat} {v : V} {t : Bu d} {F : List Addr} (h : SpF H (a :: A) d v t F) : v = .ref a := by
  cases d with
  | zero => cases A <;> exact (h : False).elim
  | succ d => cases A <;> exact h.1
theorem SpF.keep {H H' : Hp} : ∀ {A : List Addr} {d : Nat} {v : V} {t : Bu d} {F : List Addr}, SpF H A d v t F → (∀ a ∈ F, H' a = H a) → SpF H' A d v t F
  | [], _, _, _, _, h, k => TrF.keep h k
  | _ :: _, 0, _, _, _, h, _ => by
    cases ‹List Addr› <;> exact (h : False).elim
  | a :: [], d + 1, _, _, _, ⟨e, xs, Fs, h, p, q⟩, k => by
    subst q
    exact ⟨e, xs, Fs, by rw [k a List.mem_cons_self]; exact h, p.imp fun x y z hz r => r.keep fun b hb => k b (List.mem_cons_of_mem _ (List.mem_flatten.mpr ⟨z, hz, hb⟩)), rfl⟩
  | a :: b :: A, d + 1, _, ts, _, ⟨e, xs, Fs, l, u, G, h, ek, p, r, q⟩, k => by
    subst q
    exact ⟨e, xs, Fs, l, u, G, by rw [k a List.mem_cons_self]; exact h, ek, p.imp fun x y z hz r => r.keep fun b hb => k b (List.mem_cons_of_mem _ (List.mem_append_left _ (List.mem_flatten.mpr ⟨z, hz, hb⟩))),
      r.keep fun b hb => k b (List.mem_cons_of_mem _ (List.mem_append_right _ hb)), rfl⟩
theorem SpF.pth {H : Hp} : ∀ {A : List Addr} {d : Nat} {v : V} {t : Bu d} {F : List Addr} {k : Nat}, SpF H A d v t F → k + 1 ≤ A.length → Pth k d t
  | [], _, _, _, _, _, _, l => absurd l (by simp)
  | _ :: _, 0, _, _, _, _, h, _ => by
    cases ‹List Addr› <;> exact (h : False).elim
  | a :: _, d + 1, _, _, _, 0, _, _ => trivial
  | a :: [], d + 1, _, _, _, k + 1, _, l => absurd l (by simp)
  | a :: b :: A, d + 1, _, ts, _, k + 1, ⟨e, xs, Fs, l, u, G, h, ek, p, r, q⟩, hl => ⟨l, u, ek, r.pth (by rw [List.length_cons] at hl; exact Nat.le_of_succ_le_succ hl)⟩
/-- each list at the end ends with the next one -/
theorem SpF.next {H : Hp} : ∀ {A : List Addr} {d : Nat} {v : V} {t : Bu d} {F : List Addr} {i : Nat} {a b : Addr}, SpF H A d v t F → A[i]? = some a → A[i + 1]? = some b → ∃ xs, H a = some (.lst (xs ++ [.ref b])) ∧ xs.length + 1 ≤ szB d t
  | [], _, _, _, _, _, _, _, _, e, _ => nomatch e
  | _ :: _, 0, _, _, _, _, _, _, h, _, _ => by
    cases ‹List Addr› <;> exact (h : False).elim
  | a :: [], d + 1, _, _, _, _, _, _, _, _, e => nomatch e
  | a :: b :: A, d + 1, _, ts, _, 0, _, _, ⟨e, xs, Fs, l, u, G, h, ek, p, r, q⟩, e1, e2 => by
    cases Option.some.inj e1
    cases Option.some.inj e2
    refine ⟨xs, h, ?_⟩
    have h1 := p.len
    have h2 := kids_le ts
    rw [ek, List.length_append] at h2
    have h2 : l.length + 1 + 2 ≤ _ := h2
    omega
  | a :: b :: A, d + 1, _, ts, _, i + 1, _, _, ⟨e, xs, Fs, l, u, G, h, ek, p, r, q⟩, e1, e2 => by
    obtain ⟨ys, h1, h2⟩ := r.next e1 e2
    have h3 := kid_le (t := ts) (x := u) (by rw [ek]; exact List.mem_append_right _ List.mem_cons_self)
    exact ⟨ys, h1, by omega⟩
/-- the last of them -/
theorem SpF.last {H : Hp} : ∀ {A : List Addr} {d : Nat} {v : V} {t : Bu d} {F : List Addr} {a : Addr}, SpF H A d v t F → A.getLast? = some a → ∃ xs, H a = some (.lst xs) ∧ xs.length + 1 ≤ szB d t ∧ a ∈ F
  | [], _, _, _, _, _, _, e => nomatch e
  | _ :: _, 0, _, _, _, _, h, _ => by
    cases ‹List Addr› <;> exact (h : False).elim
  | a :: [], d + 1, _, ts, _, _, ⟨e, xs, Fs, h, p, q⟩, el => by
    cases Option.some.inj el
    refine ⟨xs, h, ?_, by rw [q]; exact List.mem_cons_self⟩
    have h1 := p.len
    have h2 := kids_le ts
    omega
  | a :: b :: A, d + 1, _, ts, _, c, ⟨e, xs, Fs, l, u, G, h, ek, p, r, q⟩, el => by
    obtain ⟨ys, h1, h2, h4⟩ := r.last (show (b :: A).getLast? = some c from by rw [List.getLast?_cons_cons] at el; exact el)
    have h3 := kid_le (t := ts) (x := u) (by rw [ek]; exact List.mem_append_right _ List.mem_cons_self)
    exact ⟨ys, h1, by omega, by rw [q]; exact List.mem_cons_of_mem _ (List.mem_append_right _ h4)⟩
/-- a new part at the end of the last list -/
theorem SpF.addN {H H' : Hp} {p : Addr} : ∀ {A : List Addr} {d : Nat} {v : V} {t : Bu d} {F : List Addr} {a : Addr} {xs : List V}, SpF H A d v t F → A.getLast? = some a → A.length + 1 ≤ d → F.Nodup → (∀ b ∈ F, b ≠ a → H' b = H b) → H a = some (.lst xs) → H' a = some (.lst (xs ++ [.ref p])) → H' p = some (.lst []) →
    SpF H' (A ++ [p]) d v (FL.addN (A.length - 1) d t) (F ++ [p])
  | [], _, _, _, _, _, _, _, e, _, _, _, _, _, _ => nomatch e
  | _ :: _, 0, _, _, _, _, _, h, _, _, _, _, _, _, _ => by
    cases ‹List Addr› <;> exact (h : False).elim
  | a :: [], 1, _, _, _, _, _, _, _, l, _, _, _, _, _ => absurd l (by simp)
  | a :: [], d + 2, v, ts, F, c, xs, ⟨e, ys, Fs, h, pp, q⟩, el, l, nd, k, h1, h2, h3 => by
    obtain rfl : a = c := Option.some.inj el
    rw [h1] at h
    cases HO.lst.inj (Option.some.inj h)
    subst q
    have hn := List.nodup_cons.mp nd
    refine ⟨e, xs, Fs, kids ts, noKids d, [p], h2, rfl, pp.imp fun x y z hz r => r.keep fun b hb => ?_, ⟨rfl, [], [], h3, .nil, rfl⟩, rfl⟩
    have hb : b ∈ Fs.flatten := List.mem_flatten.mpr ⟨z, hz, hb⟩
    exact k b (List.mem_cons_of_mem _ hb) fun q => hn.1 (q ▸ hb)
  | a :: b :: A, d + 1, v, ts, F, c, xs, ⟨e, ys, Fs, l, u, G, h, ek, pp, r, q⟩, el, ll, nd, k, h1, h2, h3 => by
    subst q
    have hn := List.nodup_cons.mp nd
    have hn2 := List.nodup_append.mp hn.2
    have el2 : (b :: A).getLast? = some c := by rw [List.getLast?_cons_cons] at el; exact el
    obtain ⟨_, _, _, hc⟩ := r.last el2
    have hca : a ≠ c := fun q => hn.1 (q ▸ List.mem_append_right _ hc)
    have ih := r.addN el2 (by rw [List.length_cons] at ll; omega) hn2.2.1 (fun x hx hne => k x (List.mem_cons_of_mem _ (List.mem_append_right _ hx)) hne) h1 h2 h3
    refine ⟨e, ys, Fs, l, FL.addN ((b :: A).length - 1) d u, G ++ [p], by rw [k a List.mem_cons_self hca]; exact h, ?_, pp.imp fun x y z hz r => r.keep fun b' hb => ?_, ih, by rw [List.cons_append, List.append_assoc]⟩
    · show modLast (FL.addN A.length d) (kids ts) = _
      rw [ek, modLast_snoc]
      rfl
    · have hb : b' ∈ Fs.flatten := List.mem_flatten.mpr ⟨z, hz, hb⟩
      exact k b' (List.mem_cons_of_mem _ (List.mem_append_left _ hb)) fun q => hn2.2.2 b' hb c hc q
/-- a line at the end of the last list -/
theorem SpF.addL {H H' : Hp} {y : Str} : ∀ {A : List Addr} {d : Nat} {v : V} {t : Bu d} {F : List Addr} {a : Addr} {xs : List V}, SpF H A d v t F → A.getLast? = some a → A.length = d → F.Nodup → (∀ b ∈ F, b ≠ a → H' b = H b) → H a = some (.lst xs) → H' a = some (.lst (xs ++ [.str y])) →
    SpF H' A d v (FL.addL y d t) F
  | [], _, _, _, _, _, _, _, e, _, _, _, _, _ => nomatch e
  | _ :: _, 0, _, _, _, _, _, h, _, _, _, _, _, _ => by
    cases ‹List Addr› <;> exact (h : False).elim
  | a :: [], d + 2, _, _, _, _, _, _, _, l, _, _, _, _ => absurd l (by simp)
  | a :: [], 1, v, ts, F, c, xs, ⟨e, ys, Fs, h, pp, q⟩, el, l, nd, k, h1, h2 => by
    obtain rfl : a = c := Option.some.inj el
    rw [h1] at h
    cases HO.lst.inj (Option.some.inj h)
    subst q
    refine ⟨e, xs ++ [.str y], Fs ++ [[]], h2, ?_, by rw [flatten_snoc, List.append_nil]⟩
    exact (pp.imp fun _ _ _ _ r => (r : TrF H' 0 _ _ _)).snoc (y := mkL y) ⟨rfl, rfl⟩
  | a :: b :: A, d + 1, v, ts, F, c, xs, ⟨e, ys, Fs, l, u, G, h, ek, pp, r, q⟩, el, ll, nd, k, h1, h2 => by
    subst q
    have hn := List.nodup_cons.mp nd
    have hn2 := List.nodup_append.mp hn.2
    have el2 : (b :: A).getLast? = some c := by rw [List.getLast?_cons_cons] at el; exact el
    obtain ⟨_, _, _, hc⟩ := r.last el2
    have hca : a ≠ c := fun q => hn.1 (q ▸ List.mem_append_right _ hc)
    have ih := r.addL el2 (by rw [List.length_cons] at ll; omega) hn2.2.1 (fun x hx hne => k x (List.mem_cons_of_mem _ (List.mem_append_right _ hx)) hne) h1 h2
    refine ⟨e, ys, Fs, l, FL.addL y d u, G, by rw [k a List.mem_cons_self hca]; exact h, ?_, pp.imp fun x y z hz r => r.keep fun b' hb => ?_, ih, rfl⟩
    · cases d with
      | zero => exact absurd ll (by simp)
      | succ d =>
        show modLast (FL.addL y (d + 1)) (kids ts) = _
        rw [ek, modLast_snoc]
    · have hb : b' ∈ Fs.flatten := List.mem_flatten.mpr ⟨z, hz, hb⟩
      exact k b' (List.mem_cons_of_mem _ (List.mem_append_left _ hb)) fun q => hn2.2.2 b' hb c hc q
end FL
namespace FL
open PySem PySem.Spec PyProof.Rows L2 FL
/-! ### promises about trees of any shape, told by their size -/
def spTreeOfZ (d : Nat) : Sp := fun vs H Q _ => ∃ (z : Str) (v : V) (b : Bool) (t : Bu (d + 1)), vs = [.str z, .int ((d : Nat) : Int), v] ∧ BuAt b H (d + 1) v t ∧ Alls (fun y => Over z y ∧ y.length ≤ 1000) (d + 1) t ∧ szB (d + 1) t ≤ 100000 ∧ ∀ H', Same H H' → Q (.bl true) H'
def spCheckTreeZ : Sp := fun vs H Q _ => ∃ (d : Nat) (z : Str) (v : V) (b : Bool) (t : Bu (d + 1)), vs = [.str z, .int ((d : Nat) : Int), v] ∧ d ≤ 3 ∧ BuAt b H (d + 1) v t ∧ Alls (fun y => Over z y ∧ y.length ≤ 1000) (d + 1) t ∧ szB (d + 1) t ≤ 100000 ∧ ∀ H', Same H H' → Q .non H'
def spRowsZ (K : PySem.W.Frag) (C : Addr) (k : Nat) : Sp := fun vs H Q _ => ∃ (p : Addr) (z : Str) (ms : List Str) (tl : Str) (c : Cares) (v : V) (lv : Nat) (b : Bool) (t : Bu (k + 2)), vs = [.ref p, v, .int ((lv : Nat) : Int)] ∧ ReaderAt C H p z ms tl c ∧ MarksOk z ms ∧ TailOk z tl ∧
  1 ≤ lv ∧ lv + k = ms.length ∧ BuAt b H (k + 2) v t ∧ szB (k + 2) t ≤ 100000 ∧ ∀ (H' : Hp) (L : Addr) (xs : List V), Same H H' → H L = none → H' L = some (.lst xs) → Paired (RowAt K H') xs (rows ms tl (k + 1) lv t) → Q (.ref L) H'
def spWrittenZ (C : Addr) : Sp := fun vs H Q _ => ∃ (p : Addr) (z : Str) (ms : List Str) (tl : Str) (c : Cares) (v : V) (b : Bool) (n : Nat) (t : Bu (n + 2)), vs = [.ref p, v] ∧ ReaderAt C H p z ms tl c ∧ MarksOk z ms ∧ TailOk z tl ∧ ms.length = n + 1 ∧ BuAt b H (n + 2) v t ∧
  Alls (fun y => Over z y ∧ y.length ≤ 1000) (n + 2) t ∧ szB (n + 2) t ≤ 100000 ∧ ∀ (H' : Hp) (L : Addr), Same H H' → H L = none → H' L = some (.lst (((rows ms tl (n + 1) 1 t).map Prod.fst).map V.str)) → Q (.ref L) H'
def spOwnTZ (K : PySem.W.Frag) (C : Addr) : Sp := fun vs H Q _ => ∃ (p : Addr) (z : Str) (ms : List Str) (tl : Str) (c : Cares) (v : V) (b : Bool) (n : Nat) (t : Bu (n + 2)), vs = [.ref p, v] ∧ ReaderAt C H p z ms tl c ∧ MarksOk z ms ∧ TailOk z tl ∧ ms.length = n + 1 ∧ BuAt b H (n + 2) v t ∧
  Alls (fun y => Over z y ∧ y.length ≤ 1000) (n + 2) t ∧ szB (n + 2) t ≤ 100000 ∧ ∀ (H' : Hp) (L : Addr) (xs : List V), Same H H' → H L = none → H' L = some (.lst xs) → Paired (RoAt K H') xs ((rows ms tl (n + 1) 1 t).map Prod.snd) → Q (.ref L) H'
def spIsTreeZ (C : Addr) : Sp := fun vs H Q _ => ∃ (p : Addr) (z : Str) (ms : List Str) (tl : Str) (c : Cares) (v : V) (b : Bool) (n : Nat) (t : Bu (n + 2)), vs = [.ref p, v] ∧ ReaderAt C H p z ms tl c ∧ MarksOk z ms ∧ ms.length = n + 1 ∧ BuAt b H (n + 2) v t ∧
  Alls (fun y => Over z y ∧ y.length ≤ 1000) (n + 2) t ∧ szB (n + 2) t ≤ 100000 ∧ ∀ H', Same H H' → Q (.bl true) H'
def capZ (n : Nat) : Nat → Nat
  | 0 => 1
  | d + 1 => n * capZ n d + 2
theorem few_sz {n : Nat} : ∀ {d : Nat} {t : Bu d}, Few n d t → szB d t ≤ capZ n d
  | 0, _, _ => Nat.le_refl _
  | d + 1, t, ⟨h1, h2⟩ => by
    rw [szB_succ]
    have h := sum_le_sum (l := kids t) (f := szB d) (g := fun _ => capZ n d) fun x hx => few_sz (h2 x hx)
    have e : ((kids t).map fun _ => capZ n d).sum = (kids t).length * capZ n d := by
      generalize kids t = l
      induction l with
      | nil => exact (Nat.zero_mul _).symm
      | cons a l ih =>
        rw [List.map_cons, List.sum_cons, ih, List.length_cons, Nat.succ_mul, Nat.add_comm]
    have h3 := Nat.mul_le_mul_right (capZ n d) h1
    show _ ≤ n * capZ n d + 2
    omega
/-! ### the text of a tree, told by its size -/
theorem SmL.all' {k : Nat} {α : Type} {f : α → PyData} {g : α → Nat} : ∀ {xs : List α}, (∀ x ∈ xs, ∃ m, m + 2 ≤ g x ∧ Sm m (f x) ∧ (f x).depth ≤ k) → SmL k ((xs.map g).sum) (xs.map f)
  | [], _ => SmL.nil
  | x :: xs, h => by
    obtain ⟨m, hm, h1, h2⟩ := h x List.mem_cons_self
    have ih := SmL.all' (xs := xs) fun y hy => h y (List.mem_cons_of_mem _ hy)
    have := SmL.cons h1 h2 ih
    rw [List.map_cons, List.sum_cons]
    exact this.mono (by omega)
theorem sum_mul {α : Type} {f : α → Nat} {c : Nat} : ∀ {l : List α}, (l.map fun x => c * f x).sum = c * (l.map f).sum
  | [] => (Nat.mul_zero c).symm
  | x :: l => by
    rw [List.map_cons, List.sum_cons, List.map_cons, List.sum_cons, sum_mul, Nat.mul_add]
theorem bu_smZ {c : Nat} (hc : 4 ≤ c) : ∀ {d : Nat} {t : Bu d}, d ≤ 12 → Alls (fun y => Plain y ∧ 10 * y.length + 4 ≤ c) d t → ∃ m, m + 2 ≤ c * szB d t ∧ Sm m (buD d t)
  | 0, y, _, h => ⟨_, by show 10 * (ln y).length + 2 + 2 ≤ c * 1; have : 10 * (ln y).length + 4 ≤ c := h.2; omega, Sm.str h.1⟩
  | d + 1, ts, hd, h => by
    have hl := SmL.all' (k := d) (xs := kids ts) (f := buD d) (g := fun x => c * szB d x) fun x hx => by
      obtain ⟨m, h1, h2⟩ := bu_smZ hc (by omega) (h x hx)
      exact ⟨m, h1, h2, bu_depth d x⟩
    rw [sum_mul] at hl
    refine ⟨_, ?_, Sm.list hl (by omega)⟩
    rw [szB_succ, Nat.mul_add]
    omega
end FL
namespace K68
open PySem PySem.Spec PyProof.Rows L2 FL
abbrev sIsLevel : Stmt := topS 47
abbrev sIsRole : Stmt := topS 49
abbrev sCheckRole : Stmt := topS 50
abbrev sTreeOf : Stmt := topS 51
abbrev sCheckTree : Stmt := topS 52
section
variable {P : Program} {w : World} {K : PySem.W.Frag} {mg : Str → Option Value} {base : Heap}
theorem scIsInt : FnScope ["value"] ["value"] (defScope (topS 21)) := ⟨rfl, rfl, rfl, by decide +kernel, rfl, by decide +kernel, by decide +kernel⟩
def spInt1 : Sp := fun vs H Q _ => ∃ (i : Int), vs = [.int i] ∧ Q (.bl true) H
theorem ok_isint {f : Addr} {fd : FuncData} (F : Fun K "is_integer" "is_integer" (topS 21) f fd) (mI : mg "isinstance" = none) (mN : mg "int" = none) (mB : mg "bool" = none) :
    FnOk P w K mg base CX0 1 f fd ["value"] spInt1 := by
  refine F.ok scIsInt (fun vs H Q E h => ?_) (fun cdv A outer s H vs Q E hr h => ?_)
  · obtain ⟨_, rfl, _⟩ := h
    rfl
  · obtain ⟨i, rfl, k⟩ := h
    refine ⟨_, pss_one (ps_ret (pe_and (pe_callB call_isA (by rfl) mI (by decide +kernel)
        (pa_cons (pv 0) (pa_cons (pe_bltn (v := .ty "int") (by rfl) mN (by decide +kernel) rfl) pa_nil)))
      (pe_one (pe_not (pe_callB call_isA (by rfl) mI (by decide +kernel)
        (pa_cons (pv 0) (pa_cons (pe_bltn (v := .ty "bool") (by rfl) mB (by decide +kernel) rfl) pa_nil))))))), ?_⟩
    exact ⟨_, rfl, _, "int", "int", rfl, .int i, by decide, _, rfl, _, rfl, _, "int", "bool", rfl, .int i, by decide, _, rfl, k⟩
theorem scIsLevel : FnScope ["depth", "value"] ["depth", "value"] (defScope sIsLevel) := ⟨rfl, rfl, rfl, by decide +kernel, rfl, by decide +kernel, by decide +kernel⟩
theorem ok_islevel {f : Addr} {fd : FuncData} (F : Fun K "is_level" "is_level" sIsLevel f fd) (cI : Ca P w K mg base "is_integer" 1 ["value"] spInt1) :
    FnOk P w K mg base CX0 2 f fd ["depth", "value"] spLevelB := by
  refine F.ok scIsLevel (fun vs H Q E h => ?_) (fun cdv A outer s H vs Q E hr h => ?_)
  · obtain ⟨_, _, rfl, _⟩ := h
    rfl
  · obtain ⟨n, l, rfl, l1, l2, k⟩ := h
    refine ⟨_, pss_one (ps_ret (pe_and (pe_ca cI hr (by rfl) (pa_cons (pv 1) pa_nil))
      (pe_and (pe_cmpR op_ge (pv 1) pe_int (nomark _)) (pe_one (pe_cmpR op_le (pv 1) (pv 0) (nomark _)))))), ?_⟩
    refine ⟨_, rfl, _, rfl, _, rfl, _, rfl, _, _, rfl, rfl, ?_⟩
    refine ⟨_, rfl, iteYes (by omega) ?_⟩
    refine ⟨_, rfl, _, rfl, _, _, rfl, rfl, ?_⟩
    show Q (.bl (decide (((l : Nat) : Int) ≤ ((n : Nat) : Int)))) H
    rw [decide_eq_true (show ((l : Nat) : Int) ≤ ((n : Nat) : Int) by omega)]
    exact k
theorem scIsRole : FnScope ["depth", "value"] ["depth", "value"] (defScope sIsRole) := ⟨rfl, rfl, rfl, by decide +kernel, rfl, by decide +kernel, by decide +kernel⟩
theorem ok_isrole {f : Addr} {fd : FuncData} (F : Fun K "is_role" "is_role" sIsRole f fd) {aR : Addr} (mR : mg "ROLE_WORDS" = some (.ref aR)) (hR : SqW K aR [.str nextW, .str endW]) (cW : Ca P w K mg base "is_word" 1 ["value", "words"] (spWord K)) (cL : Ca P w K mg base "is_level" 2 ["depth", "value"] spLevelB)
    (mI : mg "isinstance" = none) (mT : mg "tuple" = none) (mN : mg "len" = none) :
    FnOk P w K mg base CX0 3 f fd ["depth", "value"] (spRoleB K) := by
  refine F.ok scIsRole (fun vs H Q E h => ?_) (fun cdv A outer s H vs Q E hr h => ?_)
  · obtain ⟨_, _, _, rfl, _⟩ := h
    rfl
  · obtain ⟨n, t, r, rfl, ht, ok, k⟩ := h
    refine ⟨_, pss_cons (ps_if (PW.pt (pw_or (pt_not (pt_val (pe_callB call_isA (by rfl) mI (by decide +kernel)
          (pa_cons (pv 1) (pa_cons (pe_bltn (v := .ty "tuple") (by rfl) mT (by decide +kernel) rfl) pa_nil)))))
        (pw_or1 (pt_cmpR op_ne (pe_callB callLen (by rfl) mN PySem.boot_len (pa_cons (pv 1) pa_nil)) pe_int (nomark _)))))
        (pss_one (ps_ret pe_bl)) pss_nil)
      (pss_one (ps_ret (pe_and (pe_ca cW (hr.mono (by decide)) (by rfl) (pa_cons (pe_ix ix_tup (pv 1) pe_int (fun _ _ => rfl)) (pa_cons (pe_glob (v := .ref aR) rfl mR rfl) pa_nil)))
        (pe_one (pe_ca cL hr (by rfl) (pa_cons (pv 0) (pa_cons (pe_ix ix_tup (pv 1) pe_int (fun _ _ => rfl)) pa_nil))))))), ?_⟩
    refine ⟨_, rfl, _, "tuple", "tuple", rfl, .tup ht, by decide, _, rfl, ?_⟩
    refine iteF ?_
    refine ⟨_, rfl, _, 2, rfl, .inr ⟨_, SqT.of ht, rfl⟩, rfl, _, rfl, ?_⟩
    refine iteF ?_
    refine ⟨_, rfl, t, _, _, _, rfl, rfl, SqT.of ht, atI_nat (j := 0) rfl, r.1, aR, _, rfl, hR.sqT, rfl, ?_⟩
    have e : inV (.str r.1) [.str nextW, .str endW] = true := by
      rcases ok.w with h | h <;> rw [h] <;> decide +kernel
    rw [e]
    exact ⟨_, rfl, _, rfl, _, rfl, t, _, _, _, rfl, rfl, SqT.of ht, atI_nat (j := 1) rfl, n, r.2, rfl, ok.lo, ok.hi, k⟩
theorem scCheckRole : FnScope ["depth", "role"] ["depth", "role"] (defScope sCheckRole) := ⟨rfl, rfl, rfl, by decide +kernel, rfl, by decide +kernel, by decide +kernel⟩
theorem ok_checkrole {f : Addr} {fd : FuncData} (F : Fun K "check_role" "check_role" sCheckRole f fd) (cR : Ca P w K mg base "is_role" 3 ["depth", "value"] (spRoleB K)) :
    FnOk P w K mg base CX0 4 f fd ["depth", "role"] (spCheckRole K) := by
  refine F.ok scCheckRole (fun vs H Q E h => ?_) (fun cdv A outer s H vs Q E hr h => ?_)
  · obtain ⟨_, _, _, rfl, _⟩ := h
    rfl
  · obtain ⟨n, t, r, rfl, ht, ok, k⟩ := h
    refine ⟨_, pss_one (ps_if (pt_not (pt_val (pe_ca cR hr (by rfl) (pa_cons (pv 0) (pa_cons (pv 1) pa_nil))))) (pss_one ps_never) pss_nil), ?_⟩
    refine ⟨_, rfl, _, rfl, n, t, r, rfl, ht, ok, _, rfl, ?_⟩
    exact iteF k
abbrev nTreeOf : List Str := ["signs", "depth", "value", "line", "part"]
theorem scTreeOf : FnScope nTreeOf ["signs", "depth", "value"] (defScope sTreeOf) := ⟨rfl, rfl, rfl, by decide +kernel, rfl, by decide +kernel, by decide +kernel⟩
theorem bu_any {t : Bool} {H : Hp} {d : Nat} {v : V} {b : Bu (d + 1)} (h : BuAt t H (d + 1) v b) : ∃ n, Any H v n ∧ (n == "list" || n == "tuple") = true := by
  obtain ⟨a, xs, rfl, e, _⟩ := h
  cases t with
  | true => exact ⟨"tuple", .tup e, rfl⟩
  | false => exact ⟨"list", .lst e, rfl⟩
theorem ok_treeof {f : Addr} {fd : FuncData} (F : Fun K "is_tree_of" "is_tree_of" sTreeOf f fd) (bF : Binds K fd ["signs", "depth", "value"] []) (mF : mg "is_tree_of" = some (.ref f)) (cL : Ca P w K mg base "is_line" 1 ["signs", "value"] spLine) (cI : Ca P w K mg base "is_list" 1 ["value"] spIsList) (mA : mg "all" = none) :
    ∀ d, FnOk P w K mg base CX0 (d + 2) f fd ["signs", "depth", "value"] (spTreeOfZ d) := by
  intro d
  induction d with
  | zero =>
    refine F.ok scTreeOf (fun vs H Q E h => ?_) (fun cdv A outer s H vs Q E hr h => ?_)
    · obtain ⟨_, _, _, _, rfl, _⟩ := h
      rfl
    · obtain ⟨z, v, b, t, rfl, hb, al, few, k⟩ := h
      have nd := scTreeOf.nd
      have sz : sizeLine = 16777216 := rfl
      refine ⟨_, pss_cons (ps_if (pt_not (pt_val (pe_ca cI hr (by rfl) (pa_cons (pv 2) pa_nil)))) (pss_one (ps_ret pe_bl)) pss_nil)
        (pss_cons (ps_if (pt_cmpR op_eq (pv 1) pe_int (nomark _)) (pss_one (ps_ret (pe_callB (cr_all rfl) (by rfl) mA (by decide +kernel)
          (pa_cons (pe_lc (own := [("line", 3)]) (g := gName 3) (tt := tYes) rfl nd (pi_seqX b (pv 2)) (blkOk_by (N := nTreeOf) (sc := defScope sTreeOf) (by decide +kernel)) (fun _ _ _ _ _ => pg_name (i := 3) nd rfl (Or.inl rfl)) (fun _ _ _ _ _ => pts_nil)
            (fun _ _ _ _ _ => pe_ca cL hr (by rfl) (pa_cons (pv 0) (pa_cons (pv 3) pa_nil)))) pa_nil)))) pss_nil)
        (pss_one ps_never)), ?_⟩
      obtain ⟨n, an, en⟩ := bu_any hb
      obtain ⟨a, xs, rfl, ea, hp⟩ := hb
      refine ⟨_, rfl, _, n, rfl, an, fun H1 s1 => ?_⟩
      rw [en]
      refine ⟨_, rfl, ?_⟩
      refine iteF ?_
      refine ⟨_, rfl, rfl, _, rfl, ?_⟩
      refine iteYes rfl ?_
      have e1 := s1 _ _ ea
      have lx := paired_len hp
      have fl : (kids t).length ≤ 100000 := by have := kids_le t; omega
      refine ⟨_, rfl, a, rfl, ⟨_, sqX_of e1⟩, fun D hD => ?_⟩
      refine lc_it (walk_seqX (xs := xs)) (fun i Hi => Same H1 Hi ∧ Hi D = some (.lst ((List.replicate i true).map V.bl))) ?_ ?_ ?_ ?_
      · exact ⟨(Same.refl H1).upd hD, upd_same⟩
      · rintro i Hi _ ⟨si, _⟩
        exact sqX_of (si _ _ e1)
      · rintro i x Ht Hi hi ⟨si, gD⟩ ⟨rfl, hx⟩
        obtain ⟨y, hy, ey⟩ := L2.paired_get hp hx
        obtain rfl : x = .str y := ey
        have ⟨oy, ly⟩ : Over z y ∧ y.length ≤ 1000 := al y (List.mem_of_getElem? hy)
        refine ⟨rfl, _, rfl, _, rfl, z, .str y, "str", rfl, .str y, (fun q e => by cases e; rw [sz]; omega), ?_⟩
        rw [over_line oy]
        refine ⟨_, gD, by rw [List.length_map, List.length_replicate, sz]; omega, si.upd hD, ?_⟩
        rw [upd_same, List.replicate_succ', List.map_append]
        rfl
      · rintro Hi ⟨si, gD⟩
        refine ⟨D, _, rfl, SqL.of gD, ?_⟩
        rw [all_true]
        exact k Hi (s1.trans si)
  | succ d ih =>
    refine F.ok scTreeOf (fun vs H Q E h => ?_) (fun cdv A outer s H vs Q E hr h => ?_)
    · obtain ⟨_, _, _, _, rfl, _⟩ := h
      rfl
    · obtain ⟨z, v, b, t, rfl, hb, al, few, k⟩ := h
      have nd := scTreeOf.nd
      have sz : sizeLine = 16777216 := rfl
      refine ⟨_, pss_cons (ps_if (pt_not (pt_val (pe_ca cI (hr.mono (by omega)) (by rfl) (pa_cons (pv 2) pa_nil)))) (pss_one (ps_ret pe_bl)) pss_nil)
        (pss_cons (ps_if (pt_cmpR op_eq (pv 1) pe_int (nomark _)) (pss_one ps_never) pss_nil)
        (pss_one (ps_ret (pe_callB (cr_all rfl) (by rfl) mA (by decide +kernel)
          (pa_cons (pe_lc (own := [("part", 4)]) (g := gName 4) (tt := tYes) rfl nd (pi_seqX b (pv 2)) (blkOk_by (N := nTreeOf) (sc := defScope sTreeOf) (by decide +kernel)) (fun _ _ _ _ _ => pg_name (i := 4) nd rfl (Or.inl rfl)) (fun _ _ _ _ _ => pts_nil)
            (fun _ _ _ _ _ => pe_call ih hr (by rfl) mF F.kp bF .nil pass0 (pa_cons (pv 0) (pa_cons (pe_op op_sub (pv 1) pe_int) (pa_cons (pv 4) pa_nil))))) pa_nil))))), ?_⟩
      obtain ⟨n, an, en⟩ := bu_any hb
      obtain ⟨a, xs, rfl, ea, hp⟩ := hb
      refine ⟨_, rfl, _, n, rfl, an, fun H1 s1 => ?_⟩
      rw [en]
      refine ⟨_, rfl, ?_⟩
      refine iteF ?_
      refine ⟨_, rfl, rfl, _, rfl, ?_⟩
      refine iteNot (fun e => by have := V.int.inj e; omega) ?_
      have e1 := s1 _ _ ea
      have lx := paired_len hp
      have fl : (kids t).length ≤ 100000 := by have := kids_le t; omega
      refine ⟨_, rfl, a, rfl, ⟨_, sqX_of e1⟩, fun D hD => ?_⟩
      refine lc_it (walk_seqX (xs := xs)) (fun i Hi => Same H1 Hi ∧ Hi D = some (.lst ((List.replicate i true).map V.bl))) ?_ ?_ ?_ ?_
      · exact ⟨(Same.refl H1).upd hD, upd_same⟩
      · rintro i Hi _ ⟨si, _⟩
        exact sqX_of (si _ _ e1)
      · rintro i x Ht Hi hi ⟨si, gD⟩ ⟨rfl, hx⟩
        obtain ⟨y, hy, ey⟩ := L2.paired_get hp hx
        have hm := List.mem_of_getElem? hy
        refine ⟨rfl, _, rfl, _, rfl, _, _, rfl, rfl, _, rfl, z, x, b, y, ?_, BuAt.same (s1.trans si) ey, al y hm, (by have := kid_le hm; omega), fun H2 s2 => ?_⟩
        · show [V.str z, V.int (((d + 1 : Nat) : Int) - 1), x] = _
          rw [show (((d + 1 : Nat) : Int) - 1) = ((d : Nat) : Int) by omega]
        · refine ⟨_, s2 _ _ gD, by rw [List.length_map, List.length_replicate, sz]; omega, (si.trans s2).upd hD, ?_⟩
          rw [upd_same, List.replicate_succ', List.map_append]
          rfl
      · rintro Hi ⟨si, gD⟩
        refine ⟨D, _, rfl, SqL.of gD, ?_⟩
        rw [all_true]
        exact k Hi (s1.trans si)
theorem scCheckTree : FnScope ["signs", "depth", "tree"] ["signs", "depth", "tree"] (defScope sCheckTree) := ⟨rfl, rfl, rfl, by decide +kernel, rfl, by decide +kernel, by decide +kernel⟩
theorem ok_checktree {f : Addr} {fd : FuncData} (F : Fun K "check_tree" "check_tree" sCheckTree f fd) (cT : ∀ d, Ca P w K mg base "is_tree_of" (d + 2) ["signs", "depth", "value"] (spTreeOfZ d)) :
    FnOk P w K mg base CX0 6 f fd ["signs", "depth", "tree"] spCheckTreeZ := by
  refine F.ok scCheckTree (fun vs H Q E h => ?_) (fun cdv A outer s H vs Q E hr h => ?_)
  · obtain ⟨_, _, _, _, _, rfl, _⟩ := h
    rfl
  · obtain ⟨d, z, v, b, t, rfl, d3, hb, al, few, k⟩ := h
    refine ⟨_, pss_one (ps_if (pt_not (pt_val (pe_ca (cT d) (hr.mono (by omega)) (by rfl) (pa_cons (pv 0) (pa_cons (pv 1) (pa_cons (pv 2) pa_nil)))))) (pss_one ps_never) pss_nil), ?_⟩
    refine ⟨_, rfl, _, rfl, _, rfl, z, v, b, t, rfl, hb, al, few, fun H1 s1 => ⟨_, rfl, ?_⟩⟩
    exact iteF (k H1 s1)
end
end K68
namespace K68
open PySem PySem.Spec PyProof.Rows L2 FL
abbrev sRd (i : Nat) : Stmt := inClass (topS 95) i
abbrev sInit : Stmt := sRd 0
abbrev nInit : List Str := ["self", "signs", "marks", "tail", "sight", "order", "further", "finish", "cares", "name", "value"]
abbrev pInit : List Str := ["self", "signs", "marks", "tail", "sight", "order", "further", "finish"]
section
variable {P : Program} {w : World} {K : PySem.W.Frag} {mg : Str → Option Value} {base : Heap}
theorem scInit : FnScope nInit pInit (defScope sInit) := ⟨rfl, rfl, rfl, by decide +kernel, rfl, by decide +kernel, by decide +kernel⟩
theorem ok_init {f C : Addr} {fd : FuncData} (F : Fun K "__init__" "Reader.__init__" sInit f fd) (T : RdTxt K mg C) {tk : Tok} (mM : mg "MOST_LEVELS" = some (.int 3 tk)) (mL : mg "list" = none)
    (cS : Ca P w K mg base "check_signs" 3 ["signs"] spCheckSigns) (cM : Ca P w K mg base "check_marks" 3 ["signs", "marks", "most"] spCheckMarks) (cT : Ca P w K mg base "check_tail" 3 ["signs", "tail"] spCheckTail)
    (cC : Ca P w K mg base "check_care" 3 ["signs", "name", "value"] spCheckCare) : FnOk P w K mg base CX0 4 f fd pInit (spRInit C) := by
  refine F.ok scInit (fun vs H Q E h => ?_) (fun cdv A outer s H vs Q E hr h => ?_)
  · obtain ⟨_, _, _, _, _, _, _, rfl, _⟩ := h
    rfl
  · obtain ⟨p, dx, z, a, ms, tl, c, rfl, hp, az, ha, om, ot, oc, k⟩ := h
    have nd := scInit.nd
    have sz : sizeLine = 16777216 := rfl
    refine ⟨_, pss_cons (ps_expr (pe_ca cS hr (by rfl) (pa_cons (pv 1) pa_nil)))
      (pss_cons (ps_expr (pe_ca cM hr (by rfl) (pa_cons (pv 1) (pa_cons (pv 2) (pa_cons (pe_glob (v := .int 3) rfl mM ⟨_, rfl⟩) pa_nil)))))
      (pss_cons (ps_expr (pe_ca cT hr (by rfl) (pa_cons (pv 1) (pa_cons (pv 3) pa_nil))))
      (pss_cons (ps_set (i := 8) nd rfl (.inl rfl) (pe_disp (pps_cons pe_str (pv 4) (pps_cons pe_str (pv 5) (pps_cons pe_str (pv 6) (pps_cons pe_str (pv 7) pps_nil)))) (by rfl) (by rfl) (fun z => by cases z) (by decide)))
      (pss_cons (ps_for PassesOwn.never rfl (pi_list (LiI.pe_listItems rfl (pv 8) (by rfl) mL (by decide +kernel)))
        (pg_tup rfl (pgs_cons (pg_name (i := 9) nd rfl (.inl rfl)) (pgs_cons (pg_name (i := 10) nd rfl (.inl rfl)) pgs_nil)))
        (pss_one (ps_expr (pe_ca cC hr (by rfl) (pa_cons (pv 1) (pa_cons (pv 9) (pa_cons (pv 10) pa_nil)))))))
      (pss_cons (ps_fld (pv 0) (pv 1) rfl)
      (pss_cons (ps_fld (pv 0) (pe_callTy call_list_of (by rfl) mL (by decide +kernel) (pa_cons (pv 2) pa_nil)) rfl)
      (pss_cons (ps_fld (pv 0) (pv 3) rfl)
      (pss_one (ps_fld (pv 0) (pv 8) rfl))))))))), ?_⟩
    have nap : a ≠ p := fun e => by
      rw [e, hp] at ha
      cases ha
    refine ⟨_, rfl, z, rfl, az, fun H1 s1 => ?_⟩
    refine ⟨_, rfl, _, rfl, z, a, ms, rfl, s1 _ _ ha, om, fun H2 s2 => ?_⟩
    refine ⟨_, rfl, _, rfl, z, tl, rfl, ot, ?_⟩
    have s12 := s1.trans s2
    intro d hd
    refine ⟨_, rfl, _, rfl, _, rfl, _, rfl, upd_same, caresK c, rfl, (by show 4 ≤ 15; decide), ?_⟩
    rw [cares_merge]
    have s3 : Same H (upd (upd H2 d (.dK [])) d (.dK (caresK c))) := (s12.upd (s12.none hd)).upd (s12.none hd)
    have hd3 : upd (upd H2 d (.dK [])) d (.dK (caresK c)) d = some (.dK (caresK c)) := upd_same
    have hd0 : H d = none := s12.none hd
    generalize upd (upd H2 d (.dK [])) d (.dK (caresK c)) = H3 at s3 hd3 ⊢
    refine ⟨_, rfl, d, caresK c, rfl, hd3, fun H4 L ts s4 hL0 ht0 nL hL pts => ?_⟩
    have s34 : Same H H4 := s3.trans s4
    refine ⟨L, rfl, ⟨_, SqL.of hL⟩, for_it (walk_list (xs := ts.map V.ref)) (fun i σ Hi => ∃ o1 o2 : Option V, σ = [some (.ref p), some (.str z), some (.ref a), some (.str tl), some (.str c.si), some (.str c.od), some (.str c.fu), some (.str c.fi), some (.ref d), o1, o2] ∧ Same H4 Hi) ?_ ?_ ?_ ?_⟩
    · exact ⟨_, _, rfl, Same.refl H4⟩
    · rintro i σ Hi _ ⟨_, _, _, sm⟩
      exact SqL.of (sm _ _ hL)
    · rintro i x σ Ht Hi hi ⟨o1, o2, rfl, sm⟩ ⟨rfl, hx⟩
      rw [List.getElem?_map] at hx
      cases ht : ts[i]? with
      | none =>
        rw [ht] at hx
        cases hx
      | some t =>
        rw [ht] at hx
        obtain rfl : V.ref t = x := Option.some.inj hx
        obtain ⟨q, hq, eq⟩ := L2.paired_get pts ht
        have hq' : ∃ q' ∈ caresL c, q = (Sum.inr q'.1, V.str q'.2) := by
          obtain ⟨q', h1, h2⟩ := List.mem_map.mp (List.mem_of_getElem? hq)
          exact ⟨q', h1, h2.symm⟩
        obtain ⟨q', hm, rfl⟩ := hq'
        refine ⟨t, _, rfl, SqT.of (sm _ _ eq), rfl, _, _, rfl, _, _, rfl, rfl, ?_⟩
        exact ⟨_, rfl, _, rfl, _, rfl, z, q'.1, q'.2, rfl, oc.all q' hm, _, _, rfl, sm⟩
    · rintro σ Hi ⟨o1, o2, rfl, sm⟩
      have sH := s34.trans sm
      have hp5 := sH _ _ hp
      have hd5 : Hi d = some (.dK (caresK c)) := sm _ _ (s4 _ _ hd3)
      have ha5 := sH _ _ ha
      have ndp : d ≠ p := ne_of hd5 hp5 (by intro q; cases q)
      refine ⟨_, rfl, _, rfl, p, C, dx, [], rfl, hp5, T.cl, T.nS, (by show 0 < 1000; decide), ?_⟩
      have b5 : But p H (upd Hi p (.ins C dx (putF "_signs" (.str z) []))) := fun q o e nc => by rw [upd_ne nc]; exact sH q o e
      have hp6 : upd Hi p (.ins C dx (putF "_signs" (.str z) [])) p = some (.ins C dx (putF "_signs" (.str z) [])) := upd_same
      have hd6 : upd Hi p (.ins C dx (putF "_signs" (.str z) [])) d = some (.dK (caresK c)) := by rw [upd_ne ndp]; exact hd5
      generalize upd Hi p (.ins C dx (putF "_signs" (.str z) [])) = H6 at b5 hp6 hd6 ⊢
      have ha6 := b5 _ _ ha nap
      refine ⟨_, rfl, a, _, rfl, .inl (SqL.of ha6), fun M hM => ?_⟩
      have npM : p ≠ M := ne_of_none hp6 hM
      have ndM : d ≠ M := ne_of_none hd6 hM
      refine ⟨_, rfl, p, C, dx, _, rfl, by rw [upd_ne npM]; exact hp6, T.cl, T.nM, (by show 1 < 1000; decide), ?_⟩
      have b7 : But p H (upd (upd H6 M (.lst (ms.map V.str))) p (.ins C dx (putF "_marks" (.ref M) (putF "_signs" (.str z) [])))) := fun q o e nc => by
        rw [upd_ne nc, upd_ne (ne_of_none (b5 q o e nc) hM)]
        exact b5 q o e nc
      have hp7 : upd (upd H6 M (.lst (ms.map V.str))) p (.ins C dx (putF "_marks" (.ref M) (putF "_signs" (.str z) []))) p = some (.ins C dx (putF "_marks" (.ref M) (putF "_signs" (.str z) []))) := upd_same
      have hd7 : upd (upd H6 M (.lst (ms.map V.str))) p (.ins C dx (putF "_marks" (.ref M) (putF "_signs" (.str z) []))) d = some (.dK (caresK c)) := by rw [upd_ne ndp, upd_ne ndM]; exact hd6
      have hM7 : upd (upd H6 M (.lst (ms.map V.str))) p (.ins C dx (putF "_marks" (.ref M) (putF "_signs" (.str z) []))) M = some (.lst (ms.map V.str)) := by rw [upd_ne (Ne.symm npM), upd_same]
      generalize upd (upd H6 M (.lst (ms.map V.str))) p (.ins C dx (putF "_marks" (.ref M) (putF "_signs" (.str z) []))) = H7 at b7 hp7 hd7 hM7 ⊢
      refine ⟨_, rfl, _, rfl, p, C, dx, _, rfl, hp7, T.cl, T.nT, two_len' z M, ?_⟩
      have b8 : But p H (upd H7 p (.ins C dx (putF "_tail" (.str tl) (putF "_marks" (.ref M) (putF "_signs" (.str z) []))))) := fun q o e nc => by rw [upd_ne nc]; exact b7 q o e nc
      have hp8 : upd H7 p (.ins C dx (putF "_tail" (.str tl) (putF "_marks" (.ref M) (putF "_signs" (.str z) [])))) p = some (.ins C dx (putF "_tail" (.str tl) (putF "_marks" (.ref M) (putF "_signs" (.str z) [])))) := upd_same
      have hd8 : upd H7 p (.ins C dx (putF "_tail" (.str tl) (putF "_marks" (.ref M) (putF "_signs" (.str z) [])))) d = some (.dK (caresK c)) := by rw [upd_ne ndp]; exact hd7
      have hM8 : upd H7 p (.ins C dx (putF "_tail" (.str tl) (putF "_marks" (.ref M) (putF "_signs" (.str z) [])))) M = some (.lst (ms.map V.str)) := by rw [upd_ne (Ne.symm npM)]; exact hM7
      generalize upd H7 p (.ins C dx (putF "_tail" (.str tl) (putF "_marks" (.ref M) (putF "_signs" (.str z) [])))) = H8 at b8 hp8 hd8 hM8 ⊢
      refine ⟨_, rfl, _, rfl, p, C, dx, _, rfl, hp8, T.cl, T.nC, three_len' z M tl, ?_⟩
      refine k _ ⟨dx, M, d, upd_same, ?_, ?_⟩ fun q o e nc => ?_
      · rw [upd_ne (Ne.symm npM)]
        exact hM8
      · rw [upd_ne ndp]
        exact hd8
      · rw [upd_ne nc]
        exact b8 q o e nc
theorem scGet1 : FnScope ["self"] ["self"] (defScope (sRd 1)) := ⟨rfl, rfl, rfl, by decide +kernel, rfl, by decide +kernel, by decide +kernel⟩
theorem scGet3 : FnScope ["self"] ["self"] (defScope (sRd 3)) := ⟨rfl, rfl, rfl, by decide +kernel, rfl, by decide +kernel, by decide +kernel⟩
theorem ok_gets {f C : Addr} {fd : FuncData} (F : Fun K "signs" "Reader.signs" (sRd 1) f fd) (T : RdTxt K mg C) : FnOk P w K mg base CX0 1 f fd ["self"] (spRGetS C) := by
  refine F.ok scGet1 (fun vs H Q E h => ?_) (fun cdv A outer s H vs Q E hr h => ?_)
  · obtain ⟨_, _, _, _, _, rfl, _⟩ := h
    rfl
  · obtain ⟨p, z, ms, tl, c, rfl, ⟨dx, ma, ca, h1, h2, h3⟩, k⟩ := h
    refine ⟨_, pss_one (ps_ret (pe_fld (pv 0) rfl)), ?_⟩
    exact ⟨_, rfl, p, C, dx, _, _, rfl, h1, T.cl, T.nS, rflds_signs z ma tl ca, k⟩
theorem ok_getd {f C : Addr} {fd : FuncData} (F : Fun K "depth" "Reader.depth" (sRd 3) f fd) (T : RdTxt K mg C) (mN : mg "len" = none) : FnOk P w K mg base CX0 1 f fd ["self"] (spRGetD C) := by
  refine F.ok scGet3 (fun vs H Q E h => ?_) (fun cdv A outer s H vs Q E hr h => ?_)
  · obtain ⟨_, _, _, _, _, rfl, _⟩ := h
    rfl
  · obtain ⟨p, z, ms, tl, c, rfl, ⟨dx, ma, ca, h1, h2, h3⟩, k⟩ := h
    refine ⟨_, pss_one (ps_ret (pe_callB callLen (by rfl) mN PySem.boot_len (pa_cons (pe_fld (pv 0) rfl) pa_nil))), ?_⟩
    exact ⟨_, rfl, p, C, dx, _, _, rfl, h1, T.cl, T.nM, rflds_marks z ma tl ca, _, ms.length, rfl, .inl ⟨_, SqL.of h2, (List.length_map _).symm⟩, k⟩
theorem scRoleLine : FnScope ["self", "role", "word", "level"] ["self", "role"] (defScope (sRd 14)) := ⟨rfl, rfl, rfl, by decide +kernel, rfl, by decide +kernel, by decide +kernel⟩
theorem ok_roleline {f C : Addr} {fd : FuncData} (F : Fun K "_role_line" "Reader._role_line" (sRd 14) f fd) (T : RdTxt K mg C) : FnOk P w K mg base CX0 1 f fd ["self", "role"] (spRoleLine C) := by
  refine F.ok scRoleLine (fun vs H Q E h => ?_) (fun cdv A outer s H vs Q E hr h => ?_)
  · obtain ⟨_, _, _, _, _, _, _, rfl, _⟩ := h
    rfl
  · obtain ⟨p, z, ms, tl, c, t, r, rfl, ⟨dx, ma, ca, h1, h2, h3⟩, om, ot, ht, ok, k⟩ := h
    have nd := scRoleLine.nd
    have sz : sizeLine = 16777216 := rfl
    refine ⟨_, pss_cons (ps_asg (pv 1) (pg_tup rfl (pgs_cons (pg_name (i := 2) nd rfl (.inl rfl)) (pgs_cons (pg_name (i := 3) nd rfl (.inl rfl)) pgs_nil))))
      (pss_one (ps_ret (pe_op op_add_str (pe_ix ix_list (pe_fld (pv 0) rfl) (pe_op op_sub (pv 3) pe_int) (fun _ _ => rfl)) (pe_ifExp (pt_cmpR op_eq (pv 2) pe_str (nomark _)) (pe_fld (pv 0) rfl) pe_str)))), ?_⟩
    have lo := ok.lo
    have hi := ok.hi
    have hlt : r.2 - 1 < ms.length := by omega
    have em : ms[r.2 - 1]? = some ms[r.2 - 1] := List.getElem?_eq_getElem hlt
    have eg : ms.getD (r.2 - 1) (Str.ofString "") = ms[r.2 - 1] := by rw [List.getD_eq_getElem?_getD, em]; rfl
    have lm := om.l2 _ (List.getElem_mem hlt)
    have ei : ((r.2 : Nat) : Int) - 1 = ((r.2 - 1 : Nat) : Int) := by omega
    have ea : atI (ms.map V.str) (((r.2 : Nat) : Int) - 1) = some (.str ms[r.2 - 1]) := by
      rw [ei]
      exact atI_nat (by rw [List.getElem?_map, em]; rfl)
    refine ⟨_, rfl, t, _, rfl, SqT.of ht, rfl, _, _, rfl, _, _, rfl, rfl, ?_⟩
    refine ⟨_, rfl, p, C, dx, _, _, rfl, h1, T.cl, T.nM, rflds_marks z ma tl ca, _, rfl, _, _, rfl, rfl, ma, _, _, _, rfl, rfl, SqL.of h2, ea, ?_⟩
    refine ⟨_, rfl, rfl, _, rfl, ?_⟩
    have lt := ot.l2
    have e0 : (Str.ofString "").length = 0 := by decide +kernel
    refine ite2 (fun q => ?_) (fun q => ?_)
    · have e : r.1 = endW := V.str.inj (of_decide_eq_true q)
      refine ⟨_, rfl, p, C, dx, _, _, rfl, h1, T.cl, T.nT, rflds_tail z ma tl ca, _, _, rfl, rfl, by rw [sz]; omega, ?_⟩
      have : roLine ms tl r = ms[r.2 - 1] ++ tl := by
        unfold roLine
        rw [if_pos e, eg]
      rw [← this]
      exact k
    · have e : ¬ r.1 = endW := fun h => q (decide_eq_true (congrArg V.str h))
      refine ⟨_, _, rfl, rfl, by rw [e0, sz]; omega, ?_⟩
      have : roLine ms tl r = ms[r.2 - 1] ++ Str.ofString "" := by
        unfold roLine
        rw [if_neg e, eg]
      rw [← this]
      exact k
theorem scLineOf : FnScope ["self", "role"] ["self", "role"] (defScope (sRd 13)) := ⟨rfl, rfl, rfl, by decide +kernel, rfl, by decide +kernel, by decide +kernel⟩
theorem ok_lineof {f g C : Addr} {fd gd : FuncData} (F : Fun K "line_of" "Reader.line_of" (sRd 13) f fd) (T : RdTxt K mg C) (mN : mg "len" = none) (cR : Ca P w K mg base "check_role" 4 ["depth", "role"] (spCheckRole K))
    (M : Meth K C "_role_line" g) (G : FnOk P w K mg base CX0 1 g gd ["self", "role"] (spRoleLine C)) (bG : Binds K gd ["self", "role"] []) : FnOk P w K mg base CX0 5 f fd ["self", "role"] (spRoleLine C) := by
  refine F.ok scLineOf (fun vs H Q E h => ?_) (fun cdv A outer s H vs Q E hr h => ?_)
  · obtain ⟨_, _, _, _, _, _, _, rfl, _⟩ := h
    rfl
  · obtain ⟨p, z, ms, tl, c, t, r, rfl, ra, om, ot, ht, ok, k⟩ := h
    have ra' := ra
    obtain ⟨dx, ma, ca, h1, h2, h3⟩ := ra
    refine ⟨_, pss_cons (ps_expr (pe_ca cR hr (by rfl) (pa_cons (pe_callB callLen (by rfl) mN PySem.boot_len (pa_cons (pe_fld (pv 0) rfl) pa_nil)) (pa_cons (pv 1) pa_nil))))
      (pss_one (ps_ret (pe_meth (pv 0) T.cl M G (hr.mono (by decide)) bG .nil pass0 (pa_cons (pv 1) pa_nil)))), ?_⟩
    refine ⟨_, rfl, p, C, dx, _, _, rfl, h1, T.cl, T.nM, rflds_marks z ma tl ca, _, ms.length, rfl, .inl ⟨_, SqL.of h2, (List.length_map _).symm⟩, ?_⟩
    refine ⟨_, rfl, _, t, r, rfl, ht, ok, ?_⟩
    exact ⟨_, rfl, p, dx, _, rfl, h1, rflds_no z ma tl ca rm1 rm2 rm3 rm4, _, rfl, p, z, ms, tl, c, t, r, rfl, ra', om, ot, ht, ok, k⟩
theorem scEq : FnScope ["self", "other"] ["self", "other"] (defScope (sRd 20)) := ⟨rfl, rfl, rfl, by decide +kernel, rfl, by decide +kernel, by decide +kernel⟩
theorem strs_dp {H : Hp} {a : Addr} {ms : List Str} (h : H a = some (.lst (ms.map V.str))) : Dp K H (.ref a) (.list (ms.map PyData.str)) := by
  refine .lst (SqL.of h) ?_
  clear h
  induction ms with
  | nil => exact .nil
  | cons m ms ih => exact .cons (.str m) ih
theorem marks_sm {z : Str} {ms : List Str} (az : Abc z) (om : MarksOk z ms) : Sm 1000 (.list (ms.map PyData.str)) := by
  have h := SmL.all (k := 0) (m := 122) (xs := ms) (f := PyData.str) fun m hm => ⟨(Sm.str (az.plain (om.ov m hm))).mono (by have := om.l2 m hm; omega), Nat.le_refl _⟩
  have := om.hi
  exact (Sm.list h (by decide)).mono (by omega)
theorem ok_eq {f C : Addr} {fd : FuncData} (F : Fun K "__eq__" "Reader.__eq__" (sRd 20) f fd) (T : RdTxt K mg C) (I : IsT K C) (mI : mg "isinstance" = none) : FnOk P w K mg base CX0 1 f fd ["self", "other"] (spREq C) := by
  refine F.ok scEq (fun vs H Q E h => ?_) (fun cdv A outer s H vs Q E hr h => ?_)
  · obtain ⟨_, _, _, _, _, _, rfl, _⟩ := h
    rfl
  · obtain ⟨p, q, z, ms, tl, c, rfl, ok, ⟨dx, ma, ca, h1, h2, h3⟩, ⟨dy, mb, cb, g1, g2, g3⟩, k⟩ := h
    refine ⟨_, pss_one (ps_ret (pe_and (pe_callB call_isi (by rfl) mI (by decide +kernel) (pa_cons (pv 1) (pa_cons (pe_glob (v := .ref C) rfl T.mgC rfl) pa_nil)))
      (pe_and (pe_cmpR op_eq (pe_fld (pv 0) rfl) (pe_fld (pv 1) rfl) (nomark _))
      (pe_and (pe_cmpR (op_eqD hr.units) (pe_fld (pv 0) rfl) (pe_fld (pv 1) rfl) (nomark _))
      (pe_and (pe_cmpR op_eq (pe_fld (pv 0) rfl) (pe_fld (pv 1) rfl) (nomark _))
      (pe_one (pe_cmpR (op_eqV hr.units) (pe_fld (pv 0) rfl) (pe_fld (pv 1) rfl) (nomark _)))))))), ?_⟩
    have sm := marks_sm ok.az ok.ms
    refine ⟨_, rfl, _, .ref C, _, _, true, rfl, .own C, I.ins g1, I.self, _, rfl, ?_⟩
    refine ⟨_, rfl, p, C, dx, _, _, rfl, h1, T.cl, T.nS, rflds_signs z ma tl ca, _, rfl, q, C, dy, _, _, rfl, g1, T.cl, T.nS, rflds_signs z mb tl cb, rfl, ?_⟩
    refine ⟨_, rfl, iteYes rfl ?_⟩
    refine ⟨_, rfl, p, C, dx, _, _, rfl, h1, T.cl, T.nM, rflds_marks z ma tl ca, _, rfl, q, C, dy, _, _, rfl, g1, T.cl, T.nM, rflds_marks z mb tl cb, _, _, strs_dp h2, strs_dp g2, sm.shaped, sm.shaped, ?_⟩
    refine ⟨_, rfl, ?_⟩
    have ev : PyData.eqv (.list (ms.map PyData.str)) (.list (ms.map PyData.str)) = true := by
      rw [SeqAt.eqv_refl]
      exact sm.cl
    rw [ev]
    refine iteT ?_
    refine ⟨_, rfl, p, C, dx, _, _, rfl, h1, T.cl, T.nT, rflds_tail z ma tl ca, _, rfl, q, C, dy, _, _, rfl, g1, T.cl, T.nT, rflds_tail z mb tl cb, rfl, ?_⟩
    refine ⟨_, rfl, iteYes rfl ?_⟩
    refine ⟨_, rfl, p, C, dx, _, _, rfl, h1, T.cl, T.nC, rflds_cares z ma tl ca, _, rfl, q, C, dy, _, _, rfl, g1, T.cl, T.nC, rflds_cares z mb tl cb, 1, by decide, ?_, k⟩
    refine .inr ⟨ca, cb, caresK c, caresK c, rfl, rfl, h3, g3, rfl, fun e he => ?_⟩
    exact cares_self c e he
end
end K68
namespace FL
open PySem PySem.Spec PyProof.Rows L2 FL
/-! ### list(range(a, b, c)) -/
theorem vals_rg3 {a c : Int} {n : Nat} {acc : Array Value} (h : ItemsOf (fun i v => ∃ t, v = .int (a + i * c) t) acc n) : Vals ((List.range n).map fun k => V.int (a + ((k : Nat) : Int) * c)) acc.toList := by
  have e : acc.toList.length = n := by rw [Array.length_toList]; exact h.1
  rw [← e]
  refine vals_of_get acc.toList _ fun j u hj => ?_
  obtain ⟨t, rfl⟩ := h.2 j u (by rw [← hj, Array.getElem?_toList])
  exact ⟨t, rfl⟩
def tLstRg3 (ta : TA) : TE := fun σ H Q => ta σ H fun vs H1 => ∃ i j c n, vs = [.int i, .int j, .int c] ∧ RgC i j c n ∧ n ≤ 2 ^ 24 ∧ ∀ q, H1 q = none → Q (.ref q) (upd H1 q (.lst ((List.range n).map fun k => V.int (i + ((k : Nat) : Int) * c))))
theorem pe_listRg3 {X : Cx} {a b c : Expr} {ta : TA} {p p2 pos pos2 : Pos} (hc : X.calm = true) (hg : Gl X "list") (hm : X.mg "list" = none) (hgr : Gl X "range") (hmr : X.mg "range" = none) (ha : PA X [a, b, c] ta)
    (hs : starEach [a, b, c] X.env = (false, eval a X.env) :: starEach [b, c] X.env := by rfl) (hpl : (backTo pos2 (starEach [b, c] X.env)).any (·.1) = false := by rfl)
    (na : starEach [.Call (.Name "range" p2) [a, b, c] [] pos2] X.env = (false, eval (.Call (.Name "range" p2) [a, b, c] [] pos2) X.env) :: starEach [] X.env := by rfl) :
    PE X (.Call (.Name "list" p) [.Call (.Name "range" p2) [a, b, c] [] pos2] [] pos) (tLstRg3 ta) := by
  refine ⟨fun pins s σ H Q I h => ?_⟩
  refine Call_ (ld_blt I hg hm boot_list (PyProof.Rows.callWith_type1 (args_cons (Call_ (ld_blt I hgr hmr boot_range (PyProof.Rows.callWith_type1 (thn (ha.run pos2 pins s σ H _ I h) fun us s1 ⟨vs, H1, I1, r1, q1⟩ => ?_) hs hpl))) na) na))
  obtain ⟨i, j, k, n, e, ⟨c0, c1, c2, c3⟩, hn, q⟩ := q1
  subst e
  cases r1 with
  | cons r rr =>
    cases rr with
    | cons r' rr =>
      cases rr with
      | cons r'' rr =>
        cases rr
        obtain ⟨t, rfl⟩ := r
        obtain ⟨t', rfl⟩ := r'
        obtain ⟨t'', rfl⟩ := r''
        refine call_range_3 c0 ?_ (.inl (PyProof.noPylong_small c1))
        refine args_nil ?_
        have I2 : Inv X pins σ H1 { s1 with heap := s1.heap.push { cls := .type "range", data := .fields #[.int i t, .int j t', .int k t''] } } := I1.kept (t' := s1.toks) fun b o e => Heap.get?_push_of_some _ e
        refine call_list_range (n := n) (I2.ok.hd hc) (IsRange.new ..) c2 c3 hn fun h' tk acc c' hk e' hi => ?_
        refine ⟨.ref _, upd H1 _ (.lst ((List.range n).map fun z => V.int (i + ((z : Nat) : Int) * k))), I2.laid hk (Nat.le_refl _) (show ObjOk X.prog X.w _ _ _ (.lst ((List.range n).map fun z => V.int (i + ((z : Nat) : Int) * k))) from ⟨?_, acc.toList, c', vals_rg3 hi, ?_⟩), rfl, q _ (I2.hok.fresh (Nat.le_refl _))⟩
        · rw [List.length_map, List.length_range, sizeLine_eq]
          exact hn
        · rw [Array.toArray_toList]
          exact e'
end FL
namespace K68
open PySem PySem.Spec PyProof.Rows L2 FL
abbrev sSeen : Stmt := topS 76
abbrev sCheckLevel : Stmt := topS 48
abbrev sCheckLine : Stmt := topS 33
/-- the class, all that its users need -/
structure RdF (P : Program) (w : World) (K : PySem.W.Frag) (mg : Str → Option Value) (base : Heap) where
  C : Addr
  T : RdTxt K mg C
  I : IsT K C
  fi : Addr
  di : FuncData
  mkc : Mk K C fi
  oi : FnOk P w K mg base CX0 4 fi di pInit (spRInit C)
  ki : KBn K di pInit 4 ["sight", "order", "further", "finish"] (fun us ws => us ++ ws) (fun vs zs => vs ++ zs)
  fp : Addr
  fg : Addr
  dg : FuncData
  pr : PropOf K C "signs" fp fg
  og : FnOk P w K mg base CX0 1 fg dg ["self"] (spRGetS C)
  bg : Binds K dg ["self"] []
  fq : Addr
  fd : Addr
  dd : FuncData
  pd : PropOf K C "depth" fq fd
  od : FnOk P w K mg base CX0 1 fd dd ["self"] (spRGetD C)
  bd : Binds K dd ["self"] []
  fu : Addr
  ff : Addr
  df : FuncData
  pf : PropOf K C "further" fu ff
  of_ : FnOk P w K mg base CX0 1 ff df ["self"] (spRGetF C)
  bf : Binds K df ["self"] []
  fn : Addr
  fz : Addr
  dz : FuncData
  pz : PropOf K C "finish" fn fz
  oz : FnOk P w K mg base CX0 1 fz dz ["self"] (spRGetZ C)
  bz : Binds K dz ["self"] []
  fr : Addr
  dr : FuncData
  mr : Meth K C "role_at" fr
  or_ : FnOk P w K mg base CX0 5 fr dr ["self", "line", "level"] (spRoleAt C)
  br : Binds K dr ["self", "line", "level"] []
  fl : Addr
  dl : FuncData
  ml : Meth K C "line_of" fl
  ol : FnOk P w K mg base CX0 5 fl dl ["self", "role"] (spRoleLine C)
  bl : Binds K dl ["self", "role"] []
theorem reader_insL {C : Addr} {H : Hp} {p : Addr} {z : Str} {ms : List Str} {tl : Str} {c : Cares} (h : ReaderAt C H p z ms tl c) : ∃ dx fs, H p = some (.ins C dx fs) ∧ fs.lookup (Str.ofString "line_of") = none := by
  obtain ⟨dx, ma, ca, h1, _⟩ := h
  exact ⟨dx, _, h1, rflds_no z ma tl ca (by decide +kernel) (by decide +kernel) (by decide +kernel) (by decide +kernel)⟩
theorem reader_ins {C : Addr} {H : Hp} {p : Addr} {z : Str} {ms : List Str} {tl : Str} {c : Cares} (h : ReaderAt C H p z ms tl c) : ∃ dx fs, H p = some (.ins C dx fs) ∧ fs.lookup (Str.ofString "role_at") = none := by
  obtain ⟨dx, ma, ca, h1, _⟩ := h
  exact ⟨dx, _, h1, rflds_no z ma tl ca (by decide +kernel) (by decide +kernel) (by decide +kernel) (by decide +kernel)⟩
section
variable {P : Program} {w : World} {K : PySem.W.Frag} {mg : Str → Option Value} {base : Heap}
theorem scSeen : FnScope ["sight", "mark", "line"] ["sight", "mark", "line"] (defScope sSeen) := ⟨rfl, rfl, rfl, by decide +kernel, rfl, by decide +kernel, by decide +kernel⟩
theorem ok_seen {f : Addr} {fd : FuncData} (F : Fun K "is_seen" "is_seen" sSeen f fd) (mN : mg "len" = none) : FnOk P w K mg base CX0 1 f fd ["sight", "mark", "line"] spSeen := by
  refine F.ok scSeen (fun vs H Q E h => ?_) (fun cdv A outer s H vs Q E hr h => ?_)
  · obtain ⟨_, _, _, rfl, _⟩ := h
    rfl
  · obtain ⟨si, m, y, rfl, ws, lm, ly, k⟩ := h
    have sz : sizeLine = 16777216 := rfl
    refine ⟨_, pss_cons (ps_if (PW.pt (pw_or (pt_cmpR op_eq (pv 0) pe_str (nomark _)) (pw_or1 (pt_not (pt_val (pe_bm PySem.F.plainAttrs_str PySem.F.slot_str_startswith PySem.F.type_str_startswith mt_startswith (pv 2) (pa_cons (pv 1) pa_nil)))))))
        (pss_one (ps_ret (pe_cmpR op_eq (pv 2) (pv 1) (nomark _)))) pss_nil)
      (pss_one (ps_ret (pe_or (pe_cmpR op_eq (pv 0) pe_str (nomark _)) (pe_one (pe_cmpR op_eq (pe_bm PySem.F.plainAttrs_str PySem.F.slot_str_strip PySem.F.type_str_strip mt_stripChars
        (pe_slice sl_str (pv 2) (po_some (pe_callB callLen (by rfl) mN PySem.boot_len (pa_cons (pv 1) pa_nil))) po_none) (pa_cons (pv 0) pa_nil)) pe_str (nomark _)))))), ?_⟩
    have eqs : ∀ a b : Str, decide (V.str a = V.str b) = decide (a = b) := fun a b => by
      by_cases h : a = b
      · rw [decide_eq_true h, decide_eq_true (congrArg V.str h)]
      · rw [decide_eq_false h, decide_eq_false fun e => h (V.str.inj e)]
    refine ⟨_, rfl, rfl, _, rfl, ?_⟩
    refine ite2 (fun q => ?_) (fun q => ?_)
    · have e : si = wholeW := V.str.inj (of_decide_eq_true q)
      subst e
      refine ⟨_, rfl, _, rfl, rfl, ?_⟩
      show Q (.bl (decide (V.str y = V.str m))) H
      rw [eqs, ← seen_whole]
      exact k
    · have nw : ¬ si = wholeW := fun e => q (decide_eq_true (congrArg V.str e))
      refine ⟨_, rfl, rfl, _, rfl, y, m, rfl, rfl, ?_⟩
      rw [starts_pre]
      refine ⟨_, rfl, ?_⟩
      cases hp : preB m y with
      | false =>
        refine iteT ?_
        refine ⟨_, rfl, _, rfl, rfl, ?_⟩
        show Q (.bl (decide (V.str y = V.str m))) H
        rw [eqs, ← seen_no (si := si) hp]
        exact k
      | true =>
        refine iteF ?_
        refine ⟨_, rfl, rfl, ?_⟩
        refine ⟨_, rfl, ?_⟩
        by_cases hs : si = startW
        · subst hs
          refine iteYes rfl ?_
          show Q (.bl (decide (V.str startW = V.str (Str.ofString "start")))) H
          rw [decide_eq_true (show V.str startW = V.str (Str.ofString "start") from rfl), ← seen_start hp]
          exact k
        · refine iteNot (fun e => hs (V.str.inj e)) ?_
          have l1 : si.length = 1 := by
            rcases ws with h | h | h
            · exact absurd h nw
            · exact absurd h hs
            · exact h
          have lc := cutS_length y (some ((m.length : Nat) : Int)) none
          refine ⟨_, rfl, _, rfl, _, m.length, rfl, ⟨by rw [sz]; omega, rfl⟩, _, rfl, y, rfl, by rw [sz]; omega, rfl, _, rfl, _, si, rfl, rfl, by rw [sz]; omega, rfl, ?_⟩
          show Q (.bl (decide (V.str (Txt.stripChars (cutS y (some ((m.length : Nat) : Int)) none) si) = V.str (Str.ofString "")))) H
          rw [eqs]
          have e2 : decide (Txt.stripChars (cutS y (some ((m.length : Nat) : Int)) none) si = Str.ofString "") = seenB si m y := by
            rw [seen_sign hp l1]
            rfl
          rw [e2]
          exact k
theorem scCheckLevel : FnScope ["depth", "level"] ["depth", "level"] (defScope sCheckLevel) := ⟨rfl, rfl, rfl, by decide +kernel, rfl, by decide +kernel, by decide +kernel⟩
theorem ok_checklevel {f : Addr} {fd : FuncData} (F : Fun K "check_level" "check_level" sCheckLevel f fd) (cL : Ca P w K mg base "is_level" 2 ["depth", "value"] spLevelB) : FnOk P w K mg base CX0 3 f fd ["depth", "level"] spCheckLevel := by
  refine F.ok scCheckLevel (fun vs H Q E h => ?_) (fun cdv A outer s H vs Q E hr h => ?_)
  · obtain ⟨_, _, rfl, _⟩ := h
    rfl
  · obtain ⟨n, l, rfl, l1, l2, k⟩ := h
    refine ⟨_, pss_one (ps_if (pt_not (pt_val (pe_ca cL hr (by rfl) (pa_cons (pv 0) (pa_cons (pv 1) pa_nil))))) (pss_one ps_never) pss_nil), ?_⟩
    refine ⟨_, rfl, _, rfl, n, l, rfl, l1, l2, _, rfl, ?_⟩
    exact iteF k
theorem scCheckLine : FnScope ["signs", "line"] ["signs", "line"] (defScope sCheckLine) := ⟨rfl, rfl, rfl, by decide +kernel, rfl, by decide +kernel, by decide +kernel⟩
theorem ok_checkline {f : Addr} {fd : FuncData} (F : Fun K "check_line" "check_line" sCheckLine f fd) (cL : Ca P w K mg base "is_line" 1 ["signs", "value"] spLine) : FnOk P w K mg base CX0 2 f fd ["signs", "line"] spCheckLine := by
  refine F.ok scCheckLine (fun vs H Q E h => ?_) (fun cdv A outer s H vs Q E hr h => ?_)
  · obtain ⟨_, _, rfl, _⟩ := h
    rfl
  · obtain ⟨z, y, rfl, oy, ly, k⟩ := h
    refine ⟨_, pss_one (ps_if (pt_not (pt_val (pe_ca cL hr (by rfl) (pa_cons (pv 0) (pa_cons (pv 1) pa_nil))))) (pss_one ps_never) pss_nil), ?_⟩
    refine ⟨_, rfl, _, rfl, z, .str y, "str", rfl, .str y, (fun q e => by cases e; exact ly), ?_⟩
    rw [over_line oy]
    exact ⟨_, rfl, iteF k⟩
theorem scGet6 : FnScope ["self"] ["self"] (defScope (sRd 6)) := ⟨rfl, rfl, rfl, by decide +kernel, rfl, by decide +kernel, by decide +kernel⟩
theorem scGet7 : FnScope ["self"] ["self"] (defScope (sRd 7)) := ⟨rfl, rfl, rfl, by decide +kernel, rfl, by decide +kernel, by decide +kernel⟩
theorem ok_getf {f C : Addr} {fd : FuncData} (F : Fun K "further" "Reader.further" (sRd 6) f fd) (T : RdTxt K mg C) : FnOk P w K mg base CX0 1 f fd ["self"] (spRGetF C) := by
  refine F.ok scGet6 (fun vs H Q E h => ?_) (fun cdv A outer s H vs Q E hr h => ?_)
  · obtain ⟨_, _, _, _, _, rfl, _⟩ := h
    rfl
  · obtain ⟨p, z, ms, tl, c, rfl, ⟨dx, ma, ca, h1, h2, h3⟩, k⟩ := h
    refine ⟨_, pss_one (ps_ret (pe_dget (hu_of hr) (pe_fld (pv 0) rfl) pe_str (fun _ _ => rfl))), ?_⟩
    exact ⟨_, rfl, p, C, dx, _, _, rfl, h1, T.cl, T.nC, rflds_cares z ma tl ca, ca, _, rfl, dget_of h3 (cares_further c), k⟩
theorem ok_getz {f C : Addr} {fd : FuncData} (F : Fun K "finish" "Reader.finish" (sRd 7) f fd) (T : RdTxt K mg C) : FnOk P w K mg base CX0 1 f fd ["self"] (spRGetZ C) := by
  refine F.ok scGet7 (fun vs H Q E h => ?_) (fun cdv A outer s H vs Q E hr h => ?_)
  · obtain ⟨_, _, _, _, _, rfl, _⟩ := h
    rfl
  · obtain ⟨p, z, ms, tl, c, rfl, ⟨dx, ma, ca, h1, h2, h3⟩, k⟩ := h
    refine ⟨_, pss_one (ps_ret (pe_dget (hu_of hr) (pe_fld (pv 0) rfl) pe_str (fun _ _ => rfl))), ?_⟩
    exact ⟨_, rfl, p, C, dx, _, _, rfl, h1, T.cl, T.nC, rflds_cares z ma tl ca, ca, _, rfl, dget_of h3 (cares_finish c), k⟩
abbrev nAsked : List Str := ["self", "level", "levels", "word", "each"]
theorem scAsked : FnScope nAsked ["self", "level"] (defScope (sRd 16)) := ⟨rfl, rfl, rfl, by decide +kernel, rfl, by decide +kernel, by decide +kernel⟩
theorem ok_asked {f C : Addr} {fd : FuncData} (F : Fun K "asked" "Reader.asked" (sRd 16) f fd) (T : RdTxt K mg C) (mN : mg "len" = none) (mL : mg "list" = none) (mR : mg "range" = none) (cL : Ca P w K mg base "check_level" 3 ["depth", "level"] spCheckLevel) :
    FnOk P w K mg base CX0 4 f fd ["self", "level"] (spAsked C K) := by
  refine F.ok scAsked (fun vs H Q E h => ?_) (fun cdv A outer s H vs Q E hr h => ?_)
  · obtain ⟨_, _, _, _, _, _, rfl, _⟩ := h
    rfl
  · obtain ⟨p, z, ms, tl, c, l, rfl, ra, l1, l2, l3, k⟩ := h
    have nd := scAsked.nd
    have hu := hu_of hr
    have sz : sizeLine = 16777216 := rfl
    refine ⟨_, pss_cons (ps_expr (pe_ca cL hr (by rfl) (pa_cons (pe_callB callLen (by rfl) mN PySem.boot_len (pa_cons (pe_fld (pv 0) rfl) pa_nil)) (pa_cons (pv 1) pa_nil))))
      (pss_cons (ps_set (i := 2) nd rfl (.inl rfl) (pe_listRg rfl (by rfl) mL (prg_2 (by rfl) mR pe_int (pe_op op_add (pv 1) pe_int))))
      (C8.pss_cut (ps_if (pt_cmpR op_eq (pe_dget hu (pe_fld (pv 0) rfl) pe_str (fun _ _ => rfl)) pe_str (nomark _)) (pss_one (ps_set (i := 2) nd rfl (.inl rfl) (pe_revL (pv 2)))) pss_nil)
      (pss_one (ps_ret (pe_lc2 (own := [("each", 4), ("word", 3)]) (vs1 := [3]) (g := gName 4) (tt := tYes) (wi1 := iTup K (tTup (tCons (tC (.str (Str.ofString "end"))) (tCons (tC (.str (Str.ofString "next"))) tNil)))) (g1 := gName 3) (tt1 := tYes) (te := tTup (tCons (tVar 3) (tCons (tVar 4) tNil))) rfl nd (pi_list (pv 2))
        (blkOk_by (N := nAsked) (sc := defScope (sRd 16)) (by decide +kernel)) (by decide) (fun _ _ _ _ _ => pg_name (i := 4) nd rfl (Or.inl rfl)) (fun _ _ _ _ _ => pts_nil)
        (fun _ _ _ _ _ => pi_tup (pe_tup (pa_cons pe_str (pa_cons pe_str pa_nil)))) (fun _ _ _ _ _ => pg_name (i := 3) nd rfl (Or.inl rfl)) (fun _ _ _ _ _ => pts_nil)
        (fun _ _ _ _ _ => pe_tup (pa_cons (pv 3) (pa_cons (pv 4) pa_nil)))))))), ?_⟩
    obtain ⟨dx, ma, ca, h1, h2, h3⟩ := ra
    refine ⟨_, rfl, p, C, dx, _, _, rfl, h1, T.cl, T.nM, rflds_marks z ma tl ca, _, ms.length, rfl, .inl ⟨_, SqL.of h2, (List.length_map _).symm⟩, ?_⟩
    refine ⟨_, rfl, ms.length, l, rfl, l1, l2, ?_⟩
    refine ⟨_, rfl, _, _, rfl, rfl, 1, _, rfl, rfl, RgOk.of_le (by decide) (by omega) (by decide) (by omega), fun L hL => ?_⟩
    have erg : rgV 1 (((l : Nat) : Int) + 1) = (List.range' 1 l).map fun i => V.int ((i : Nat) : Int) := by
      unfold rgV
      rw [show (((l : Nat) : Int) + 1 - 1).toNat = l by omega, List.range'_eq_map_range, List.map_map]
      refine List.map_congr_left fun i _ => ?_
      show V.int (1 + ((i : Nat) : Int)) = V.int (((1 + i : Nat) : Nat) : Int)
      rw [Int.natCast_add]
      rfl
    rw [erg]
    have s1 : Same H (upd H L (.lst ((List.range' 1 l).map fun i => V.int ((i : Nat) : Int)))) := (Same.refl H).upd hL
    have g1 : upd H L (.lst ((List.range' 1 l).map fun i => V.int ((i : Nat) : Int))) L = some (.lst ((List.range' 1 l).map fun i => V.int ((i : Nat) : Int))) := upd_same
    generalize upd H L (.lst ((List.range' 1 l).map fun i => V.int ((i : Nat) : Int))) = H1 at s1 g1 ⊢
    refine ⟨fun σ' H' => ∃ L', σ' = [some (.ref p), some (.int ((l : Nat) : Int)), some (.ref L'), none, none] ∧ Same H H' ∧ H' L' = some (.lst ((levelsL c.od l).map fun i => V.int ((i : Nat) : Int))), ?_, ?_⟩
    · refine ⟨_, rfl, p, C, dx, _, _, rfl, s1 _ _ h1, T.cl, T.nC, rflds_cares z ma tl ca, ca, _, rfl, dget_of (s1 _ _ h3) (cares_order c), rfl, _, rfl, ?_⟩
      refine ite2 (fun q => ?_) (fun q => ?_)
      · have e : c.od = Str.ofString "inner" := V.str.inj (of_decide_eq_true q)
        refine ⟨_, rfl, L, _, rfl, SqL.of g1, fun L2 hL2 => ?_⟩
        refine ⟨L2, rfl, s1.upd (s1.none hL2), ?_⟩
        rw [upd_same]
        unfold levelsL
        rw [if_pos e, List.map_reverse]
      · have e : ¬ c.od = Str.ofString "inner" := fun h => q (decide_eq_true (congrArg V.str h))
        refine ⟨L, rfl, s1, ?_⟩
        rw [g1]
        unfold levelsL
        rw [if_neg e]
    · rintro σ' H2 ⟨L', rfl, s2, g2⟩
      have ll : (levelsL c.od l).length = l := by
        unfold levelsL
        split
        · rw [List.length_reverse, List.length_range']
        · rw [List.length_range']
      refine ⟨_, rfl, L', rfl, ⟨_, SqL.of g2⟩, fun D hD => ?_⟩
      have sD : Same H2 (upd H2 D (.lst [])) := (Same.refl H2).upd hD
      have hD0 : H D = none := s2.none hD
      let Acc : Nat → Nat → Hp → Prop := fun i j Hi => ∃ xs : List V, Same H2 Hi ∧ Hi D = some (.lst xs) ∧ Paired (fun v (r : Ro) => ∃ t, v = .ref t ∧ Hi t = some (.tup [.str r.1, .int ((r.2 : Nat) : Int)])) xs ((((levelsL c.od l).take i).flatMap fun l => [(endW, l), (nextW, l)]) ++ ((match (levelsL c.od l)[i]? with | some l => [(endW, l), (nextW, l)] | none => []).take j))
      have snoc : ∀ {Hi : Hp} {xs : List V} {rs : List Ro} {r : Ro} {t : Addr}, Same H2 Hi → Hi D = some (.lst xs) → Paired (fun v (r : Ro) => ∃ t, v = .ref t ∧ Hi t = some (.tup [.str r.1, .int ((r.2 : Nat) : Int)])) xs rs → Hi t = none →
          upd Hi t (.tup [.str r.1, .int ((r.2 : Nat) : Int)]) D = some (.lst xs) ∧ Same H2 (upd (upd Hi t (.tup [.str r.1, .int ((r.2 : Nat) : Int)])) D (.lst (xs ++ [.ref t]))) ∧
          Paired (fun v (r' : Ro) => ∃ t', v = .ref t' ∧ upd (upd Hi t (.tup [.str r.1, .int ((r.2 : Nat) : Int)])) D (.lst (xs ++ [.ref t])) t' = some (.tup [.str r'.1, .int ((r'.2 : Nat) : Int)])) (xs ++ [.ref t]) (rs ++ [r]) := by
        intro Hi xs rs r t si gD hx ht
        have nDt : D ≠ t := ne_of_none gD ht
        refine ⟨by rw [upd_ne nDt]; exact gD, (si.upd (si.none ht)).upd hD, paired_snoc (paired_imp hx fun v r' ⟨t', e, h⟩ => ⟨t', e, ?_⟩) ⟨t, rfl, by rw [upd_ne (Ne.symm nDt), upd_same]⟩⟩
        rw [upd_ne (ne_of h gD (by intro q; cases q)), upd_ne (ne_of_none h ht)]
        exact h
      refine ⟨fun i m Hi => m = l - i ∧ i ≤ l ∧ Acc i 0 Hi, ⟨l, rfl, Nat.zero_le _, [], sD, upd_same, ?_⟩, ?_⟩
      · rw [List.take_zero, List.take_zero]
        exact .nil
      rintro i m Hi ⟨rfl, hi, xs, si, gD, hx⟩
      rw [List.take_zero, List.append_nil] at hx
      have g2i := si _ _ g2
      by_cases hlt : i < l
      · have hl : (levelsL c.od l)[i]? = some (levelsL c.od l)[i] := List.getElem?_eq_getElem (by omega)
        generalize hlv : (levelsL c.od l)[i] = lv at hl
        have gi : ((levelsL c.od l).map fun i => V.int ((i : Nat) : Int))[i]? = some (V.int ((lv : Nat) : Int)) := by rw [List.getElem?_map, hl]; rfl
        refine .inr ⟨⟨_, _, SqL.of g2i, gi⟩, fun H' => i + 1 ≤ l ∧ Acc (i + 1) 0 H', fun H' h => ⟨l - (i + 1), by omega, rfl, h.1, h.2⟩, ?_⟩
        rintro x H' ⟨eH, hxx⟩
        obtain rfl : Hi = H' := eH.symm
        have hxx := hxx _ (SqL.of g2i)
        rw [gi] at hxx
        obtain rfl : V.int ((lv : Nat) : Int) = x := Option.some.inj hxx
        refine ⟨rfl, ?_⟩
        refine ⟨(by show 2 ≤ sizeLine; decide), fun W hW => ?_⟩
        have nDW : D ≠ W := ne_of_none gD hW
        have sW : Same H2 (upd Hi W (.tup [.str (Str.ofString "end"), .str (Str.ofString "next")])) := si.upd (si.none hW)
        have gW : upd Hi W (.tup [.str (Str.ofString "end"), .str (Str.ofString "next")]) W = some (.tup [.str (Str.ofString "end"), .str (Str.ofString "next")]) := upd_same
        have gDW : upd Hi W (.tup [.str (Str.ofString "end"), .str (Str.ofString "next")]) D = some (.lst xs) := by rw [upd_ne nDW]; exact gD
        have hxW : Paired (fun v (r : Ro) => ∃ t, v = .ref t ∧ upd Hi W (.tup [.str (Str.ofString "end"), .str (Str.ofString "next")]) t = some (.tup [.str r.1, .int ((r.2 : Nat) : Int)])) xs (((levelsL c.od l).take i).flatMap fun l => [(endW, l), (nextW, l)]) :=
          paired_imp hx fun v r ⟨t, e, h⟩ => ⟨t, e, by rw [upd_ne (ne_of_none h hW)]; exact h⟩
        generalize upd Hi W (.tup [.str (Str.ofString "end"), .str (Str.ofString "next")]) = HW at sW gW gDW hxW ⊢
        have lx := paired_len hxW
        have lxx : xs.length ≤ 6 := by
          rw [lx]
          have := flat_le (xs := (levelsL c.od l).take i) (f := fun l => [((endW, l) : Ro), (nextW, l)]) (n := 2) fun _ _ => Nat.le_refl _
          rw [List.length_take] at this
          omega
        refine ⟨W, rfl, ⟨_, SqT.of gW⟩, ?_⟩
        refine ⟨fun j k' H' => k' = 2 - j ∧ j ≤ 2 ∧ H' W = some (.tup [.str (Str.ofString "end"), .str (Str.ofString "next")]) ∧ ∃ ys : List V, Same H2 H' ∧ H' D = some (.lst ys) ∧ ys.length ≤ 6 + j ∧ Paired (fun v (r : Ro) => ∃ t, v = .ref t ∧ H' t = some (.tup [.str r.1, .int ((r.2 : Nat) : Int)])) ys ((((levelsL c.od l).take i).flatMap fun l => [(endW, l), (nextW, l)]) ++ [((endW, lv) : Ro), (nextW, lv)].take j), ⟨2, rfl, by decide, gW, xs, sW, gDW, by omega, by rw [List.take_zero, List.append_nil]; exact hxW⟩, ?_⟩
        rintro j k' H' ⟨rfl, hj, gW', ys, sy, gDy, ly, hy⟩
        have word : ∀ (r : Ro), [((endW, lv) : Ro), (nextW, lv)][j]? = some r → r.2 = lv ∧ [V.str (Str.ofString "end"), .str (Str.ofString "next")][j]? = some (V.str r.1) := by
          intro r hr'
          match j, hr' with
          | 0, hr' => cases hr'; exact ⟨rfl, rfl⟩
          | 1, hr' => cases hr'; exact ⟨rfl, rfl⟩
        by_cases hj2 : j < 2
        · have hr' : [((endW, lv) : Ro), (nextW, lv)][j]? = some [((endW, lv) : Ro), (nextW, lv)][j] := List.getElem?_eq_getElem hj2
          generalize hrr : [((endW, lv) : Ro), (nextW, lv)][j] = r at hr'
          obtain ⟨w1, w2⟩ := word r hr'
          obtain ⟨rw', rl⟩ := r
          obtain rfl : rl = lv := w1
          refine .inr ⟨⟨_, _, SqT.of gW', w2⟩, fun H'' => H'' W = some (.tup [.str (Str.ofString "end"), .str (Str.ofString "next")]) ∧ ∃ ys : List V, Same H2 H'' ∧ H'' D = some (.lst ys) ∧ ys.length ≤ 6 + (j + 1) ∧ Paired (fun v (r : Ro) => ∃ t, v = .ref t ∧ H'' t = some (.tup [.str r.1, .int ((r.2 : Nat) : Int)])) ys ((((levelsL c.od l).take i).flatMap fun l => [(endW, l), (nextW, l)]) ++ [((endW, rl) : Ro), (nextW, rl)].take (j + 1)), fun H'' h => ⟨2 - (j + 1), by omega, rfl, by omega, h⟩, ?_⟩
          rintro x H'' ⟨eH, hxx⟩
          obtain rfl : H' = H'' := eH.symm
          have hxx := hxx _ (SqT.of gW')
          rw [w2] at hxx
          obtain rfl : V.str rw' = x := Option.some.inj hxx
          refine ⟨rfl, ?_⟩
          refine ⟨_, rfl, _, rfl, (by show 2 ≤ sizeLine; decide), fun t ht => ?_⟩
          obtain ⟨e1, e2, e3⟩ := snoc (r := (rw', rl)) sy gDy hy ht
          have nWt : W ≠ t := ne_of_none gW' ht
          have nWD : W ≠ D := ne_of gW' gDy (by intro q; cases q)
          refine ⟨ys, e1, by rw [sz]; omega, ?_, _, e2, upd_same, by rw [List.length_append]; show ys.length + 1 ≤ _; omega, ?_⟩
          · rw [upd_ne nWD, upd_ne nWt]
            exact gW'
          · rw [take_snoc hr', ← List.append_assoc]
            exact e3
        · refine .inl ⟨⟨_, SqT.of gW', by show 2 ≤ j; omega⟩, by omega, ys, sy, gDy, ?_⟩
          have eT : [((endW, lv) : Ro), (nextW, lv)].take j = [((endW, lv) : Ro), (nextW, lv)] := List.take_of_length_le (by show 2 ≤ j; omega)
          rw [eT] at hy
          rw [take_snoc hl, List.flatMap_append, List.flatMap_singleton, List.take_zero, List.append_nil]
          exact hy
      · have ei : i = l := by omega
        subst ei
        refine .inl ⟨⟨_, SqL.of g2i, by rw [List.length_map, ll]; exact Nat.le_refl _⟩, ?_⟩
        rw [List.take_of_length_le (by omega)] at hx
        exact k Hi D xs (s2.trans si) hD0 gD hx
end
end K68
namespace K68
open PySem PySem.Spec PyProof.Rows L2 FL
abbrev sToldB : Stmt := topS 81
abbrev sLineTold : Stmt := topS 82
abbrev sFinished : Stmt := topS 83
theorem sight_ok {z : Str} {c : Cares} (h : CaresOk z c) : SightOk z c.si := by
  rcases h.all (Str.ofString "sight", c.si) (by unfold caresL; exact List.mem_cons_self) with ⟨_, h⟩ | ⟨e, _⟩ | ⟨e, _⟩ | ⟨e, _⟩
  · exact h
  · exact absurd (show Str.ofString "sight" = Str.ofString "order" from e) (by decide +kernel)
  · exact absurd (show Str.ofString "sight" = Str.ofString "further" from e) (by decide +kernel)
  · exact absurd (show Str.ofString "sight" = Str.ofString "finish" from e) (by decide +kernel)
section
variable {P : Program} {w : World} {K : PySem.W.Frag} {mg : Str → Option Value} {base : Heap}
abbrev nRoleAt : List Str := ["self", "line", "level", "role"]
theorem scRoleAt : FnScope nRoleAt ["self", "line", "level"] (defScope (sRd 18)) := ⟨rfl, rfl, rfl, by decide +kernel, rfl, by decide +kernel, by decide +kernel⟩
theorem ok_roleat {f C fA fl : Addr} {fd dA dl : FuncData} (F : Fun K "role_at" "Reader.role_at" (sRd 18) f fd) (T : RdTxt K mg C) (mN : mg "len" = none) (cB : Ca P w K mg base "check_line" 2 ["signs", "line"] spCheckLine)
    (cL : Ca P w K mg base "check_level" 3 ["depth", "level"] spCheckLevel) (cS : Ca P w K mg base "is_seen" 1 ["sight", "mark", "line"] spSeen)
    (mA : Meth K C "asked" fA) (oA : FnOk P w K mg base CX0 4 fA dA ["self", "level"] (spAsked C K)) (bA : Binds K dA ["self", "level"] [])
    (mR : Meth K C "_role_line" fl) (oR : FnOk P w K mg base CX0 1 fl dl ["self", "role"] (spRoleLine C)) (bR : Binds K dl ["self", "role"] []) :
    FnOk P w K mg base CX0 5 f fd ["self", "line", "level"] (spRoleAt C) := by
  refine F.ok scRoleAt (fun vs H Q E h => ?_) (fun cdv A outer s H vs Q E hr h => ?_)
  · obtain ⟨_, _, _, _, _, _, _, rfl, _⟩ := h
    rfl
  · obtain ⟨p, z, ms, tl, c, y, l, rfl, ra, om, oy, ly, l1, l2, k1, k2⟩ := h
    have nd := scRoleAt.nd
    have hu := hu_of hr
    have sz : sizeLine = 16777216 := rfl
    have hi := om.ms.hi
    refine ⟨_, pss_cons (ps_expr (pe_ca cB (hr.mono (by decide)) (by rfl) (pa_cons (pe_fld (pv 0) rfl) (pa_cons (pv 1) pa_nil))))
      (pss_cons (ps_expr (pe_ca cL (hr.mono (by decide)) (by rfl) (pa_cons (pe_callB callLen (by rfl) mN PySem.boot_len (pa_cons (pe_fld (pv 0) rfl) pa_nil)) (pa_cons (pv 2) pa_nil))))
      (pss_cons (ps_for PassesOwn.never rfl (pi_list (pe_meth (pv 0) T.cl mA oA hr bA .nil pass0 (pa_cons (pv 2) pa_nil))) (pg_name (i := 3) nd rfl (.inl rfl))
        (pss_one (ps_if (pt_val (pe_ca cS (hr.mono (by decide)) (by rfl) (pa_cons (pe_dget hu (pe_fld (pv 0) rfl) pe_str (fun _ _ => rfl)) (pa_cons (pe_meth (pv 0) T.cl mR oR (hr.mono (by decide)) bR .nil pass0 (pa_cons (pv 3) pa_nil)) (pa_cons (pv 1) pa_nil)))))
          (pss_one (ps_ret (pv 3))) pss_nil)))
      (pss_one (ps_ret pe_non)))), ?_⟩
    have ra0 := ra
    obtain ⟨dx, ma, ca, h1, h2, h3⟩ := ra
    refine ⟨_, rfl, p, C, dx, _, _, rfl, h1, T.cl, T.nS, rflds_signs z ma tl ca, _, rfl, z, y, rfl, oy, by rw [sz]; omega, ?_⟩
    refine ⟨_, rfl, p, C, dx, _, _, rfl, h1, T.cl, T.nM, rflds_marks z ma tl ca, _, ms.length, rfl, .inl ⟨_, SqL.of h2, (List.length_map _).symm⟩, _, rfl, ms.length, l, rfl, l1, l2, ?_⟩
    refine ⟨_, rfl, p, dx, _, rfl, h1, rflds_no z ma tl ca (by decide +kernel) (by decide +kernel) (by decide +kernel) (by decide +kernel), _, rfl, p, z, ms, tl, c, l, rfl, ra0, l1, l2, hi, fun H1 L xs s1 nL gL hx => ?_⟩
    have ra1 := ra0.same s1
    refine ⟨L, rfl, ⟨_, SqL.of gL⟩, for_it (walk_list (xs := xs)) (fun i σ Hi => ∃ o : Option V, σ = [some (.ref p), some (.str y), some (.int ((l : Nat) : Int)), o] ∧ Hi = H1 ∧ ∀ r ∈ (askedL c.od l).take i, seenB c.si (roLine ms tl r) y = false) ?_ ?_ ?_ ?_⟩
    · exact ⟨none, rfl, rfl, fun r hr' => nomatch hr'⟩
    · rintro i σ Hi _ ⟨_, _, rfl, _⟩
      exact SqL.of gL
    · rintro i x σ Ht Hi hi' ⟨o, rfl, eH, hn⟩ ⟨rfl, hxx⟩
      obtain rfl := eH
      obtain ⟨r, hr', t, rfl, ht⟩ := L2.paired_get hx hxx
      obtain ⟨wd, r1, r2⟩ := mem_asked (List.mem_of_getElem? hr')
      obtain ⟨dx1, ma1, ca1, g1, g2, g3⟩ := ra1
      refine ⟨_, rfl, p, C, dx1, _, _, rfl, g1, T.cl, T.nC, rflds_cares z ma1 tl ca1, ca1, _, rfl, dget_of g3 (cares_sight c), ?_⟩
      refine ⟨_, rfl, p, dx1, _, rfl, g1, rflds_no z ma1 tl ca1 (by decide +kernel) (by decide +kernel) (by decide +kernel) (by decide +kernel), _, rfl, p, z, ms, tl, c, t, r, rfl, ⟨dx1, ma1, ca1, g1, g2, g3⟩, om.ms, om.tl, ht, ⟨wd, r1, by omega⟩, ?_⟩
      refine ⟨_, rfl, c.si, roLine ms tl r, y, rfl, sight_w (sight_ok om.ca), Nat.le_trans (ro_len om.ms om.tl r) (by decide), by omega, ?_⟩
      refine ⟨_, rfl, ?_⟩
      refine ite2 (fun q => ?_) (fun q => ?_)
      · refine ⟨_, rfl, k2 r ?_ t _ s1 ht⟩
        exact find_take hr' hn q
      · refine ⟨_, rfl, rfl, fun r' h' => ?_⟩
        rw [take_snoc hr'] at h'
        rcases List.mem_append.mp h' with h' | h'
        · exact hn r' h'
        · obtain rfl := List.mem_singleton.mp h'
          exact Bool.eq_false_iff.mpr q
    · rintro σ Hi ⟨o, rfl, rfl, hn⟩
      have lx := paired_len hx
      rw [lx, List.take_length] at hn
      exact k1 (find_nothing hn) _ s1
def moveR (ms : List Str) (c : Cares) (s : Sd) : Option Ro → Option (Ro × Sd)
  | none => if s.2 = bodyW then some ((lineW, 0), s) else none
  | some r => if r.2 < s.1 ∧ c.fu = Str.ofString "refuse" then none else if r.1 = endW then some (r, (r.2 - 1, waitW)) else some (r, if r.2 = ms.length then (ms.length, bodyW) else (r.2 + 1, waitW))
theorem moveL_eq {ms : List Str} {tl : Str} {c : Cares} {s : Sd} {y : Str} : moveL ms tl c s y = if s.1 = 0 then none else moveR ms c s (roleAtL ms tl c y s.1) := by
  unfold moveL
  split
  · rfl
  · cases roleAtL ms tl c y s.1 <;> rfl
def ToldAt (K : PySem.W.Frag) (H : Hp) (v : V) : Option (Ro × Sd) → Prop
  | none => v = .non
  | some (r, s) => ∃ t a b, v = .ref t ∧ H t = some (.tup [a, b]) ∧ RoAt K H a r ∧ SdAt K H b s
def RvAt (H : Hp) (v : V) (n : Nat) : Option Ro → Prop
  | none => v = .non
  | some r => ∃ t, v = .ref t ∧ H t = some (.tup [.str r.1, .int ((r.2 : Nat) : Int)]) ∧ RoOk n r
def spToldB (C : Addr) (K : PySem.W.Frag) : Sp := fun vs H Q _ => ∃ (p : Addr) (z : Str) (ms : List Str) (tl : Str) (c : Cares) (st rv : V) (s : Sd) (ro : Option Ro), vs = [.ref p, st, rv] ∧ ReaderAt C H p z ms tl c ∧ SdAt K H st s ∧ RvAt H rv ms.length ro ∧
  ∀ (v : V) (H' : Hp), Same H H' → ToldAt K H' v (moveR ms c s ro) → Q v H'
abbrev nToldB : List Str := ["reader", "stand", "role", "level", "word", "kind", "at"]
theorem scToldB : FnScope nToldB ["reader", "stand", "role"] (defScope sToldB) := ⟨rfl, rfl, rfl, by decide +kernel, rfl, by decide +kernel, by decide +kernel⟩
theorem ok_toldb {f : Addr} {fd : FuncData} (F : Fun K "told_behind" "told_behind" sToldB f fd) (R : RdF P w K mg base) {aP : Addr} (mP : mg "PLAIN" = some (.ref aP)) (hP : SqW K aP [.str lineW, .int 0]) :
    FnOk P w K mg base CX0 3 f fd ["reader", "stand", "role"] (spToldB R.C K) := by
  refine F.ok scToldB (fun vs H Q E h => ?_) (fun cdv A outer s H vs Q E hr h => ?_)
  · obtain ⟨_, _, _, _, _, _, _, _, _, rfl, _⟩ := h
    rfl
  · obtain ⟨p, z, ms, tl, c, st, rv, sd, ro, rfl, ra, hs, hv, k⟩ := h
    have nd := scToldB.nd
    obtain ⟨ts, rfl, hts⟩ := hs
    refine ⟨_, pss_cons (ps_asg (pv 1) (pg_tup rfl (pgs_cons (pg_name (i := 3) nd rfl (.inl rfl)) (pgs_cons (pg_name (i := 4) nd rfl (.inl rfl)) pgs_nil))))
      (pss_cons (ps_if (pt_cmpR op_isN (pv 2) pe_non (nomark _)) (pss_one (ps_ret (pe_ifExp (pt_cmpR op_eq (pv 4) pe_str (nomark _)) (pe_tup (pa_cons (pe_glob (v := .ref aP) rfl mP rfl) (pa_cons (pv 1) pa_nil))) pe_non))) pss_nil)
      (pss_cons (ps_asg (pv 2) (pg_tup rfl (pgs_cons (pg_name (i := 5) nd rfl (.inl rfl)) (pgs_cons (pg_name (i := 6) nd rfl (.inl rfl)) pgs_nil))))
      (pss_cons (ps_if (PW.pt (pw_and (pt_cmpR op_lt (pv 6) (pv 3) (nomark _)) (pw_and1 (pt_cmpR op_eq (pe_prop (pv 0) R.T.cl R.pf R.of_ hr R.bf .nil pass0 rfl) pe_str (nomark _))))) (pss_one (ps_ret pe_non)) pss_nil)
      (pss_cons (ps_if (pt_cmpR op_eq (pv 5) pe_str (nomark _)) (pss_one (ps_ret (pe_tup (pa_cons (pv 2) (pa_cons (pe_tup (pa_cons (pe_op op_sub (pv 6) pe_int) (pa_cons pe_str pa_nil))) pa_nil))))) pss_nil)
      (pss_one (ps_ret (pe_tup (pa_cons (pv 2) (pa_cons (pe_ifExp (pt_cmpR op_eq (pv 6) (pe_prop (pv 0) R.T.cl R.pd R.od hr R.bd .nil pass0 rfl) (nomark _))
        (pe_tup (pa_cons (pv 6) (pa_cons pe_str pa_nil))) (pe_tup (pa_cons (pe_op op_add (pv 6) pe_int) (pa_cons pe_str pa_nil)))) pa_nil))))))))), ?_⟩
    refine ⟨_, rfl, ts, _, rfl, hts, rfl, _, _, rfl, _, _, rfl, rfl, ?_⟩
    obtain ⟨dx, fs, ei, no⟩ := reader_ins ra
    refine ⟨_, rfl, rfl, _, rfl, ?_⟩
    cases ro with
    | none =>
      obtain rfl : rv = .non := hv
      refine iteYes rfl ?_
      refine ⟨_, rfl, rfl, _, rfl, ?_⟩
      refine ite2 (fun q => ?_) (fun q => ?_)
      · have e : sd.2 = bodyW := V.str.inj (of_decide_eq_true q)
        refine ⟨_, rfl, (by show 2 ≤ sizeLine; decide), fun T hT => ?_⟩
        have s1 : Same H (upd H T (.tup [.ref aP, .ref ts])) := (Same.refl H).upd hT
        refine k _ _ s1 ?_
        show ToldAt K _ _ (if sd.2 = bodyW then some ((lineW, 0), sd) else none)
        rw [if_pos e]
        exact ⟨T, .ref aP, .ref ts, rfl, upd_same, ⟨aP, rfl, hP.sqT⟩, ⟨ts, rfl, (NL.same s1).sqT hts⟩⟩
      · have e : ¬ sd.2 = bodyW := fun h => q (decide_eq_true (congrArg V.str h))
        refine k _ _ (Same.refl H) ?_
        show ToldAt K _ _ (if sd.2 = bodyW then some ((lineW, 0), sd) else none)
        rw [if_neg e]
        rfl
    | some r =>
      obtain ⟨t, rfl, ht, rok⟩ := hv
      refine iteNot (fun e => by cases e) ?_
      refine ⟨_, rfl, t, _, rfl, SqT.of ht, rfl, _, _, rfl, _, _, rfl, rfl, ?_⟩
      have lo := rok.lo
      refine ⟨_, rfl, _, rfl, _, _, rfl, rfl, _, rfl, ?_⟩
      refine ite2 (fun q => ⟨_, rfl, p, dx, fs, rfl, ei, p, z, ms, tl, c, rfl, ra, rfl, _, rfl, ite2 (fun q2 => ?a) (fun q2 => ?b)⟩) (fun q => iteF ?c)
      case a =>
        have e1 : r.2 < sd.1 := by
          have := of_decide_eq_true q
          omega
        have e2 : c.fu = Str.ofString "refuse" := V.str.inj (of_decide_eq_true q2)
        refine k _ _ (Same.refl H) ?_
        show ToldAt K _ _ (if r.2 < sd.1 ∧ c.fu = Str.ofString "refuse" then none else _)
        rw [if_pos ⟨e1, e2⟩]
        rfl
      all_goals
        have nc : ¬ (r.2 < sd.1 ∧ c.fu = Str.ofString "refuse") := by
          first
          | exact fun h => q2 (decide_eq_true (congrArg V.str h.2))
          | exact fun h => q (decide_eq_true (by have := h.1; omega))
        refine ⟨_, rfl, rfl, _, rfl, ?_⟩
        refine ite2 (fun e => ?_) (fun e => ?_)
        · have e : r.1 = endW := V.str.inj (of_decide_eq_true e)
          refine ⟨_, rfl, _, rfl, _, _, rfl, rfl, (by show 2 ≤ sizeLine; decide), fun T1 h1 => ?_⟩
          have s1 : Same H (upd H T1 (.tup [.int (((r.2 : Nat) : Int) - 1), .str (Str.ofString "wait")])) := (Same.refl H).upd h1
          have g1 : upd H T1 (.tup [.int (((r.2 : Nat) : Int) - 1), .str (Str.ofString "wait")]) T1 = some (.tup [.int (((r.2 : Nat) : Int) - 1), .str (Str.ofString "wait")]) := upd_same
          refine ⟨(by show 2 ≤ sizeLine; decide), fun T2 h2 => ?_⟩
          refine k _ _ (s1.upd (s1.none h2)) ?_
          show ToldAt K _ _ (if r.2 < sd.1 ∧ c.fu = Str.ofString "refuse" then none else if r.1 = endW then some (r, (r.2 - 1, waitW)) else _)
          rw [if_neg nc, if_pos e]
          have e3 : ((r.2 : Nat) : Int) - 1 = ((r.2 - 1 : Nat) : Int) := by omega
          refine ⟨T2, .ref t, .ref T1, rfl, upd_same, ⟨t, rfl, SqT.of ((s1.upd (s1.none h2)) _ _ ht)⟩, ⟨T1, rfl, SqT.of ?_⟩⟩
          rw [upd_ne (ne_of_none g1 h2), g1, e3]
          rfl
        · have e : ¬ r.1 = endW := fun h => e (decide_eq_true (congrArg V.str h))
          have mv : moveR ms c sd (some r) = some (r, if r.2 = ms.length then (ms.length, bodyW) else (r.2 + 1, waitW)) := by
            show (if r.2 < sd.1 ∧ c.fu = Str.ofString "refuse" then none else if r.1 = endW then some (r, (r.2 - 1, waitW)) else _) = _
            rw [if_neg nc, if_neg e]
          rw [mv] at k
          refine ⟨_, rfl, _, rfl, _, rfl, p, dx, fs, rfl, ei, p, z, ms, tl, c, rfl, ra, rfl, _, rfl, ?_⟩
          refine ite2 (fun e2 => ?_) (fun e2 => ?_)
          · have e2 : r.2 = ms.length := Int.ofNat.inj (V.int.inj (of_decide_eq_true e2))
            rw [if_pos e2] at k
            refine ⟨_, rfl, (by show 2 ≤ sizeLine; decide), fun T1 h1 => ?_⟩
            have s1 : Same H (upd H T1 (.tup [.int ((r.2 : Nat) : Int), .str (Str.ofString "body")])) := (Same.refl H).upd h1
            have g1 : upd H T1 (.tup [.int ((r.2 : Nat) : Int), .str (Str.ofString "body")]) T1 = some (.tup [.int ((r.2 : Nat) : Int), .str (Str.ofString "body")]) := upd_same
            refine ⟨(by show 2 ≤ sizeLine; decide), fun T2 h2 => ?_⟩
            refine k _ _ (s1.upd (s1.none h2)) ⟨T2, .ref t, .ref T1, rfl, upd_same, ⟨t, rfl, SqT.of ((s1.upd (s1.none h2)) _ _ ht)⟩, ⟨T1, rfl, SqT.of ?_⟩⟩
            rw [upd_ne (ne_of_none g1 h2), g1, e2]
            rfl
          · have e2 : ¬ r.2 = ms.length := fun h => e2 (decide_eq_true (by rw [h]))
            rw [if_neg e2] at k
            refine ⟨_, rfl, _, _, rfl, rfl, (by show 2 ≤ sizeLine; decide), fun T1 h1 => ?_⟩
            have s1 : Same H (upd H T1 (.tup [.int (((r.2 : Nat) : Int) + 1), .str (Str.ofString "wait")])) := (Same.refl H).upd h1
            have g1 : upd H T1 (.tup [.int (((r.2 : Nat) : Int) + 1), .str (Str.ofString "wait")]) T1 = some (.tup [.int (((r.2 : Nat) : Int) + 1), .str (Str.ofString "wait")]) := upd_same
            refine ⟨(by show 2 ≤ sizeLine; decide), fun T2 h2 => ?_⟩
            refine k _ _ (s1.upd (s1.none h2)) ⟨T2, .ref t, .ref T1, rfl, upd_same, ⟨t, rfl, SqT.of ((s1.upd (s1.none h2)) _ _ ht)⟩, ⟨T1, rfl, SqT.of ?_⟩⟩
            rw [upd_ne (ne_of_none g1 h2), g1]
            rfl
end
end K68
namespace K68
open PySem PySem.Spec PyProof.Rows L2 FL
/-! the maths of a course -/
def curL (s : Sd) (g : List (Ro × Sd)) : Sd := (g.map Prod.snd).getLastD s
theorem go_cons_none {ms : List Str} {tl : Str} {c : Cares} {y : Str} {ys : List Str} {s : Sd} (h : moveL ms tl c s y = none) : goL ms tl c s (y :: ys) = [] := by
  show (match moveL ms tl c s y with | none => [] | some q => q :: goL ms tl c q.2 ys) = _
  rw [h]
theorem go_cons_some {ms : List Str} {tl : Str} {c : Cares} {y : Str} {ys : List Str} {s : Sd} {q : Ro × Sd} (h : moveL ms tl c s y = some q) : goL ms tl c s (y :: ys) = q :: goL ms tl c q.2 ys := by
  show (match moveL ms tl c s y with | none => [] | some q => q :: goL ms tl c q.2 ys) = _
  rw [h]
theorem go_app {ms : List Str} {tl : Str} {c : Cares} {zs : List Str} : ∀ {ys : List Str} {s : Sd}, (goL ms tl c s ys).length = ys.length → goL ms tl c s (ys ++ zs) = goL ms tl c s ys ++ goL ms tl c (curL s (goL ms tl c s ys)) zs
  | [], s, _ => rfl
  | y :: ys, s, h => by
    rw [List.cons_append]
    cases e : moveL ms tl c s y with
    | none =>
      rw [go_cons_none e] at h
      cases h
    | some q =>
      rw [go_cons_some e] at h ⊢
      rw [go_cons_some e]
      have h : (goL ms tl c q.2 ys).length = ys.length := Nat.succ.inj h
      rw [go_app h]
      unfold curL
      rw [List.map_cons, List.getLastD_cons, List.cons_append]
theorem cur_ok {ms : List Str} {tl : Str} {c : Cares} {ys : List Str} {s : Sd} (ok : SdOk ms.length s) : SdOk ms.length (curL s (goL ms tl c s ys)) := by
  unfold curL
  have h := fun q (hq : q ∈ goL ms tl c s ys) => (go_ok ok q hq).1
  generalize goL ms tl c s ys = g at h ⊢
  induction g generalizing s with
  | nil => exact ok
  | cons q g ih =>
    rw [List.map_cons, List.getLastD_cons]
    exact ih (h q List.mem_cons_self) fun q' hq => h q' (List.mem_cons_of_mem _ hq)
theorem sd_start {n : Nat} (h : 1 ≤ n) : SdOk n (1, waitW) := ⟨h, .inl rfl, fun q => absurd q (by decide)⟩
/-- one line more that is told -/
theorem go_some {ms : List Str} {tl : Str} {c : Cares} {ys : List Str} {i : Nat} {y : Str} {s : Sd} {q : Ro × Sd} (hy : ys[i]? = some y) (hl : (goL ms tl c s (ys.take i)).length = i) (hm : moveL ms tl c (curL s (goL ms tl c s (ys.take i))) y = some q) :
    goL ms tl c s (ys.take (i + 1)) = goL ms tl c s (ys.take i) ++ [q] := by
  have hi : i < ys.length := (List.getElem?_eq_some_iff.mp hy).1
  rw [take_snoc hy, go_app (by rw [hl, List.length_take]; omega)]
  congr 1
  exact go_cons_some hm
theorem go_none {ms : List Str} {tl : Str} {c : Cares} {ys : List Str} {i : Nat} {y : Str} {s : Sd} (hy : ys[i]? = some y) (hl : (goL ms tl c s (ys.take i)).length = i) (hm : moveL ms tl c (curL s (goL ms tl c s (ys.take i))) y = none) :
    goL ms tl c s ys = goL ms tl c s (ys.take i) := by
  have hi : i < ys.length := (List.getElem?_eq_some_iff.mp hy).1
  have e : ys = ys.take i ++ y :: ys.drop (i + 1) := by
    obtain ⟨h2, rfl⟩ := List.getElem?_eq_some_iff.mp hy
    rw [← List.drop_eq_getElem_cons h2, List.take_append_drop]
  have e2 : goL ms tl c s (ys.take i ++ y :: ys.drop (i + 1)) = goL ms tl c s (ys.take i) := by
    rw [go_app (by rw [hl, List.length_take]; omega)]
    have : goL ms tl c (curL s (goL ms tl c s (ys.take i))) (y :: ys.drop (i + 1)) = [] := go_cons_none hm
    rw [this, List.append_nil]
  rw [← e] at e2
  exact e2
theorem cur_snoc {s : Sd} {g : List (Ro × Sd)} {q : Ro × Sd} : curL s (g ++ [q]) = q.2 := by
  unfold curL
  rw [List.map_append]
  exact List.getLastD_concat
theorem pair_shaped (n : Int) {w : Str} (h : w = waitW ∨ w = bodyW) : SeqAt.shaped (.tuple [.int n, .str w]) = true := by
  have e : PyData.canLay0 (.str w) = true := by
    rcases h with rfl | rfl <;> decide +kernel
  unfold SeqAt.shaped
  simp [PyData.canLay0, PyData.canLayAll0, PyData.depth, PyData.depthAll] at e ⊢
  exact e
theorem pair_eq {s s' : Sd} : PyData.eqv (.tuple [.int ((s.1 : Nat) : Int), .str s.2]) (.tuple [.int ((s'.1 : Nat) : Int), .str s'.2]) = decide (s = s') := by
  show ((((s.1 : Nat) : Int) == ((s'.1 : Nat) : Int)) && ((s.2 == s'.2) && true)) = _
  rw [Bool.and_true, Bool.eq_iff_iff, Bool.and_eq_true, beq_iff_eq, beq_iff_eq, decide_eq_true_eq]
  constructor
  · rintro ⟨h1, h2⟩
    exact Prod.ext (Int.ofNat.inj h1) h2
  · rintro rfl
    exact ⟨rfl, rfl⟩
theorem SqT.dp {K : PySem.W.Frag} {H : Hp} {t : Addr} {s : Sd} (h : SqT K H t [.int ((s.1 : Nat) : Int), .str s.2]) : Dp K H (.ref t) (.tuple [.int ((s.1 : Nat) : Int), .str s.2]) := .tup h (.cons (.int _) (.cons (.str _) .nil))
def closedS : Sd := (0, waitW)
def spLineTold (C : Addr) (K : PySem.W.Frag) : Sp := fun vs H Q _ => ∃ (p : Addr) (z : Str) (ms : List Str) (tl : Str) (c : Cares) (st : V) (s : Sd) (y : Str), vs = [.ref p, st, .str y] ∧ ReaderAt C H p z ms tl c ∧ RdOk z ms tl c ∧ SdAt K H st s ∧ SdOk ms.length s ∧
  Over z y ∧ y.length ≤ 1000 ∧ ∀ (v : V) (H' : Hp), Same H H' → ToldAt K H' v (moveL ms tl c s y) → Q v H'
def spFinished (C : Addr) (K : PySem.W.Frag) : Sp := fun vs H Q _ => ∃ (p : Addr) (z : Str) (ms : List Str) (tl : Str) (c : Cares) (st : V) (s : Sd), vs = [.ref p, st] ∧ ReaderAt C H p z ms tl c ∧ SdAt K H st s ∧ SdOk ms.length s ∧
  Q (.bl (decide (s = closedS) || decide (c.fi = Str.ofString "close"))) H
section
variable {P : Program} {w : World} {K : PySem.W.Frag} {mg : Str → Option Value} {base : Heap}
theorem scLineTold : FnScope ["reader", "stand", "line"] ["reader", "stand", "line"] (defScope sLineTold) := ⟨rfl, rfl, rfl, by decide +kernel, rfl, by decide +kernel, by decide +kernel⟩
theorem ok_linetold {f : Addr} {fd : FuncData} (F : Fun K "line_told" "line_told" sLineTold f fd) (R : RdF P w K mg base) {aC : Addr} (mC : mg "CLOSED" = some (.ref aC)) (hC : SqW K aC [.int 0, .str waitW]) (cT : Ca P w K mg base "told_behind" 3 ["reader", "stand", "role"] (spToldB R.C K)) :
    FnOk P w K mg base CX0 6 f fd ["reader", "stand", "line"] (spLineTold R.C K) := by
  refine F.ok scLineTold (fun vs H Q E h => ?_) (fun cdv A outer s H vs Q E hr h => ?_)
  · obtain ⟨_, _, _, _, _, _, _, _, rfl, _⟩ := h
    rfl
  · obtain ⟨p, z, ms, tl, c, st, sd, y, rfl, ra, om, hs, ok, oy, ly, k⟩ := h
    obtain ⟨ts, rfl, hts⟩ := hs
    refine ⟨_, pss_one (ps_ret (pe_ifExp (pt_cmpR (op_eqD hr.units) (pv 1) (pe_glob (v := .ref aC) rfl mC rfl) (nomark _)) pe_non
      (pe_ca cT (hr.mono (by decide)) (by rfl) (pa_cons (pv 0) (pa_cons (pv 1) (pa_cons (pe_meth (pv 0) R.T.cl R.mr R.or_ hr R.br .nil pass0 (pa_cons (pv 2) (pa_cons (pe_ix ix_tup (pv 1) pe_int (fun _ _ => rfl)) pa_nil))) pa_nil)))))), ?_⟩
    refine ⟨_, rfl, _, _, SqT.dp hts, SqT.dp (s := closedS) hC.sqT, pair_shaped _ ok.wd, pair_shaped _ (.inl rfl), _, rfl, ?_⟩
    rw [pair_eq]
    refine ite2 (fun q => ?_) (fun q => ?_)
    · have e : sd = closedS := of_decide_eq_true q
      refine k _ _ (Same.refl H) ?_
      rw [moveL_eq, e, if_pos (show closedS.1 = 0 from rfl)]
      rfl
    · have ne : ¬ sd.1 = 0 := fun h => q (decide_eq_true (Prod.ext h (ok.zr h)))
      obtain ⟨dx, fs, ei, no⟩ := reader_ins ra
      refine ⟨_, rfl, _, rfl, _, rfl, p, dx, fs, rfl, ei, no, _, rfl, _, rfl, ts, _, _, _, rfl, rfl, hts, rfl, ?_⟩
      refine ⟨p, z, ms, tl, c, y, sd.1, rfl, ra, om, oy, ly, by omega, ok.hi, fun en H' s' => ?_, fun r er t H' s' ht => ?_⟩
      · refine ⟨p, z, ms, tl, c, .ref ts, .non, sd, none, rfl, ra.same s', ⟨ts, rfl, (NL.same s').sqT hts⟩, rfl, fun v H2 s2 h2 => ?_⟩
        refine k v H2 (s'.trans s2) ?_
        rw [moveL_eq, if_neg ne, en]
        exact h2
      · obtain ⟨w1, w2, w3⟩ := roleAt_ok er
        refine ⟨p, z, ms, tl, c, .ref ts, .ref t, sd, some r, rfl, ra.same s', ⟨ts, rfl, (NL.same s').sqT hts⟩, ⟨t, rfl, ht, ⟨w1, w2, Nat.le_trans w3 ok.hi⟩⟩, fun v H2 s2 h2 => ?_⟩
        refine k v H2 (s'.trans s2) ?_
        rw [moveL_eq, if_neg ne, er]
        exact h2
theorem scFinished : FnScope ["reader", "stand"] ["reader", "stand"] (defScope sFinished) := ⟨rfl, rfl, rfl, by decide +kernel, rfl, by decide +kernel, by decide +kernel⟩
theorem ok_finished {f : Addr} {fd : FuncData} (F : Fun K "is_finished" "is_finished" sFinished f fd) (R : RdF P w K mg base) {aC : Addr} (mC : mg "CLOSED" = some (.ref aC)) (hC : SqW K aC [.int 0, .str waitW]) :
    FnOk P w K mg base CX0 3 f fd ["reader", "stand"] (spFinished R.C K) := by
  refine F.ok scFinished (fun vs H Q E h => ?_) (fun cdv A outer s H vs Q E hr h => ?_)
  · obtain ⟨_, _, _, _, _, _, _, rfl, _⟩ := h
    rfl
  · obtain ⟨p, z, ms, tl, c, st, sd, rfl, ra, hs, ok, k⟩ := h
    obtain ⟨ts, rfl, hts⟩ := hs
    refine ⟨_, pss_one (ps_ret (pe_or (pe_cmpR (op_eqD hr.units) (pv 1) (pe_glob (v := .ref aC) rfl mC rfl) (nomark _)) (pe_one (pe_cmpR op_eq (pe_prop (pv 0) R.T.cl R.pz R.oz hr R.bz .nil pass0 rfl) pe_str (nomark _))))), ?_⟩
    obtain ⟨dx, fs, ei, no⟩ := reader_ins ra
    refine ⟨_, rfl, _, _, SqT.dp hts, SqT.dp (s := closedS) hC.sqT, pair_shaped _ ok.wd, pair_shaped _ (.inl rfl), ?_⟩
    rw [pair_eq]
    refine ⟨_, rfl, ?_⟩
    refine ite2 (fun q => ?_) (fun q => ?_)
    · rw [show (decide (sd = closedS) || decide (c.fi = Str.ofString "close")) = true from by rw [q]; rfl] at k
      exact k
    · refine ⟨_, rfl, p, dx, fs, rfl, ei, p, z, ms, tl, c, rfl, ra, rfl, ?_⟩
      have e : decide (V.str c.fi = V.str (Str.ofString "close")) = (decide (sd = closedS) || decide (c.fi = Str.ofString "close")) := by
        rw [Bool.eq_false_iff.mpr q, Bool.false_or]
        exact decide_eq_decide.mpr ⟨V.str.inj, congrArg V.str⟩
      show Q (.bl (decide (V.str c.fi = V.str (Str.ofString "close")))) H
      rw [e]
      exact k
end
end K68
namespace K68
open PySem PySem.Spec PyProof.Rows L2 FL
abbrev sCourseOf : Stmt := topS 84
abbrev sTellingOf : Stmt := topS 85
abbrev sCheckMsg : Stmt := topS 53
abbrev sTelling : Stmt := topS 90
abbrev sCourse : Stmt := topS 91
def MsgAt (H : Hp) (m : Addr) (b : Bool) (ys : List Str) : Prop := H m = some (if b then .tup (ys.map V.str) else .lst (ys.map V.str))
structure MsgOk (z : Str) (ys : List Str) : Prop where
  ov : ∀ y ∈ ys, Over z y
  ln : ∀ y ∈ ys, y.length ≤ 1000
  few : ys.length ≤ 5000
def spCourseOf (C : Addr) (K : PySem.W.Frag) : Sp := fun vs H Q _ => ∃ (p : Addr) (z : Str) (ms : List Str) (tl : Str) (c : Cares) (m : Addr) (b : Bool) (ys : List Str), vs = [.ref p, .ref m] ∧ ReaderAt C H p z ms tl c ∧ RdOk z ms tl c ∧ MsgAt H m b ys ∧ MsgOk z ys ∧
  ∀ (H' : Hp) (T S L : Addr) (xs ts : List V), Same H H' → H' T = some (.tup [.ref S, .ref L]) → H S = none → H L = none → H' S = some (.lst xs) → H' L = some (.lst ts) → Paired (SdAt K H') xs (standsL ms tl c ys) → Paired (RoAt K H') ts (tellsL ms tl c ys) → Q (.ref T) H'
def spTellingOf (C : Addr) (K : PySem.W.Frag) : Sp := fun vs H Q _ => ∃ (p : Addr) (z : Str) (ms : List Str) (tl : Str) (c : Cares) (m : Addr) (b : Bool) (ys : List Str), vs = [.ref p, .ref m] ∧ ReaderAt C H p z ms tl c ∧ RdOk z ms tl c ∧ MsgAt H m b ys ∧ MsgOk z ys ∧
  (tellingL ms tl c ys = none → ∀ H', Same H H' → Q .non H') ∧
  ∀ rs, tellingL ms tl c ys = some rs → ∀ (H' : Hp) (L : Addr) (ts : List V), Same H H' → H L = none → H' L = some (.lst ts) → Paired (RoAt K H') ts rs → Q (.ref L) H'
def spCourse (C : Addr) (K : PySem.W.Frag) : Sp := fun vs H Q _ => ∃ (p : Addr) (z : Str) (ms : List Str) (tl : Str) (c : Cares) (m : Addr) (b : Bool) (ys : List Str), vs = [.ref p, .ref m] ∧ ReaderAt C H p z ms tl c ∧ RdOk z ms tl c ∧ MsgAt H m b ys ∧ MsgOk z ys ∧
  ∀ (H' : Hp) (L : Addr) (xs : List V), Same H H' → H L = none → H' L = some (.lst xs) → Paired (SdAt K H') xs (standsL ms tl c ys) → Q (.ref L) H'
def spCheckMsg : Sp := fun vs H Q _ => ∃ (z : Str) (m : Addr) (b : Bool) (ys : List Str), vs = [.str z, .ref m] ∧ MsgAt H m b ys ∧ MsgOk z ys ∧ ∀ H', Same H H' → Q .non H'
theorem paired_last {α β : Type} {R : α → β → Prop} : ∀ {ss0 : List β} {xs : List α} {s : β}, Paired R xs (ss0 ++ [s]) → ∃ xs0 v, xs = xs0 ++ [v] ∧ R v s
  | [], xs, s, h => by
    cases h with
    | cons h1 h2 =>
      cases h2
      exact ⟨[], _, rfl, h1⟩
  | a :: ss, xs, s, h => by
    cases h with
    | cons h1 h2 =>
      obtain ⟨xs0, v, rfl, hv⟩ := paired_last h2
      exact ⟨_ :: xs0, v, rfl, hv⟩
theorem last_split {α : Type} : ∀ (l : List α) (s : α), ∃ ss0, s :: l = ss0 ++ [l.getLastD s]
  | [], s => ⟨[], rfl⟩
  | a :: l, s => by
    obtain ⟨ss, e⟩ := last_split l a
    exact ⟨s :: ss, by rw [List.getLastD_cons, List.cons_append, ← e]⟩
theorem lenV_msg {K : PySem.W.Frag} {H : Hp} {m : Addr} {b : Bool} {ys : List Str} (h : MsgAt H m b ys) : LenV K (.ref m) H ys.length := by
  cases b with
  | true => exact .inr ⟨_, SqT.of h, (List.length_map _).symm⟩
  | false => exact .inl ⟨_, SqL.of h, (List.length_map _).symm⟩
section
variable {P : Program} {w : World} {K : PySem.W.Frag} {mg : Str → Option Value} {base : Heap}
abbrev nCourse : List Str := ["reader", "message", "stands", "tellings", "line", "told"]
theorem scCourseOf : FnScope nCourse ["reader", "message"] (defScope sCourseOf) := ⟨rfl, rfl, rfl, by decide +kernel, rfl, by decide +kernel, by decide +kernel⟩
theorem ok_courseof {f : Addr} {fd : FuncData} (F : Fun K "course_of" "course_of" sCourseOf f fd) (R : RdF P w K mg base) {aS : Addr} (mS : mg "START" = some (.ref aS)) (hS : SqW K aS [.int 1, .str waitW]) (cL : Ca P w K mg base "line_told" 6 ["reader", "stand", "line"] (spLineTold R.C K)) :
    FnOk P w K mg base CX0 7 f fd ["reader", "message"] (spCourseOf R.C K) := by
  refine F.ok scCourseOf (fun vs H Q E h => ?_) (fun cdv A outer s H vs Q E hr h => ?_)
  · obtain ⟨_, _, _, _, _, _, _, _, rfl, _⟩ := h
    rfl
  · obtain ⟨p, z, ms, tl, c, m, b, ys, rfl, ra, om, hm, ok, k⟩ := h
    have nd := scCourseOf.nd
    have sz : sizeLine = 16777216 := rfl
    refine ⟨_, pss_cons (ps_set (i := 2) nd rfl (.inl rfl) (pe_lst (pa_cons (pe_glob (v := .ref aS) rfl mS rfl) pa_nil)))
      (pss_cons (ps_set (i := 3) nd rfl (.inl rfl) (pe_lst pa_nil))
      (pss_cons (ps_for PassesOwn.never rfl (pi_seqX b (pv 1)) (pg_name (i := 4) nd rfl (.inl rfl))
        (pss_cons (ps_set (i := 5) nd rfl (.inl rfl) (pe_ca cL hr (by rfl) (pa_cons (pv 0) (pa_cons (pe_ix ix_list (pv 2) (pe_un un_neg pe_int) (fun _ _ => rfl)) (pa_cons (pv 4) pa_nil)))))
        (pss_cons (ps_if (pt_cmpR op_isN (pv 5) pe_non (nomark _)) (pss_one (ps_ret (pe_tup (pa_cons (pv 2) (pa_cons (pv 3) pa_nil))))) pss_nil)
        (pss_cons (ps_expr (pe_bm PySem.F.plainAttrs_list PySem.F.slot_list_append PySem.F.type_list_append mtAppend (pv 3) (pa_cons (pe_ix ix_tup (pv 5) pe_int (fun _ _ => rfl)) pa_nil)))
        (pss_one (ps_expr (pe_bm PySem.F.plainAttrs_list PySem.F.slot_list_append PySem.F.type_list_append mtAppend (pv 2) (pa_cons (pe_ix ix_tup (pv 5) pe_int (fun _ _ => rfl)) pa_nil))))))))
      (pss_one (ps_ret (pe_tup (pa_cons (pv 2) (pa_cons (pv 3) pa_nil))))))), ?_⟩
    refine ⟨(by show 1 ≤ sizeLine; decide), fun S hS0 => ?_⟩
    have sS : Same H (upd H S (.lst [.ref aS])) := (Same.refl H).upd hS0
    refine ⟨by decide, fun L hL1 => ?_⟩
    have hL0 : H L = none := sS.none hL1
    have s0 : Same H (upd (upd H S (.lst [.ref aS])) L (.lst [])) := sS.upd hL0
    have gS0 : upd H S (.lst [.ref aS]) S = some (.lst [.ref aS]) := upd_same
    have nSL : S ≠ L := ne_of_none gS0 hL1
    have gS1 : upd (upd H S (.lst [.ref aS])) L (.lst []) S = some (.lst [.ref aS]) := by rw [upd_ne nSL]; exact gS0
    have gL1 : upd (upd H S (.lst [.ref aS])) L (.lst []) L = some (.lst []) := upd_same
    generalize upd (upd H S (.lst [.ref aS])) L (.lst []) = H1 at s0 gS1 gL1 ⊢
    let G : Nat → List (Ro × Sd) := fun i => goL ms tl c (1, waitW) (ys.take i)
    have ok0 : SdOk ms.length (1, waitW) := sd_start om.ms.lo
    refine ⟨_, rfl, m, rfl, ⟨_, sqX_of (s0 _ _ hm)⟩, for_it (walk_seqX (xs := ys.map V.str)) (fun i σ Hi => ∃ (o4 o5 : Option V) (xs0 : List V) (v : V) (ts : List V) (ss0 : List Sd), σ = [some (.ref p), some (.ref m), some (.ref S), some (.ref L), o4, o5] ∧ Same H Hi ∧ Hi S = some (.lst (xs0 ++ [v])) ∧ Hi L = some (.lst ts)
      ∧ (G i).length = i ∧ Paired (SdAt K Hi) xs0 ss0 ∧ SdAt K Hi v (curL (1, waitW) (G i)) ∧ ss0 ++ [curL (1, waitW) (G i)] = (1, waitW) :: (G i).map Prod.snd ∧ Paired (RoAt K Hi) ts ((G i).map Prod.fst)) ?_ ?_ ?_ ?_⟩
    · exact ⟨none, none, [], .ref aS, [], [], rfl, s0, gS1, gL1, by show (goL ms tl c (1, waitW) (ys.take 0)).length = 0; rw [List.take_zero]; rfl, .nil, ⟨aS, rfl, by show SqT K H1 aS [.int (((curL (1, waitW) (G 0)).1 : Nat) : Int), .str (curL (1, waitW) (G 0)).2]; rw [show G 0 = [] from by show goL ms tl c (1, waitW) (ys.take 0) = []; rw [List.take_zero]; rfl]; exact hS.sqT⟩,
        by rw [show G 0 = [] from by show goL ms tl c (1, waitW) (ys.take 0) = []; rw [List.take_zero]; rfl]; rfl, by rw [show G 0 = [] from by show goL ms tl c (1, waitW) (ys.take 0) = []; rw [List.take_zero]; rfl]; exact .nil⟩
    · rintro i σ Hi _ ⟨_, _, _, _, _, _, _, sm, _⟩
      exact sqX_of (sm _ _ hm)
    · rintro i x σ Hi H'' hi ⟨o4, o5, xs0, v, ts, ss0, rfl, sm, gS, gL, lg, hx, hv, es, ht⟩ ⟨rfl, hxx⟩
      have hi2 : i < ys.length := by rw [List.length_map] at hi; exact hi
      have hy : ys[i]? = some ys[i] := List.getElem?_eq_getElem hi2
      generalize ys[i] = y at hy
      have hmem := List.mem_of_getElem? hy
      rw [List.getElem?_map, hy] at hxx
      obtain rfl : V.str y = x := Option.some.inj hxx
      have few := ok.few
      have lts := paired_len ht
      rw [List.length_map, lg] at lts
      have lxs := paired_len hx
      have les := congrArg List.length es
      rw [List.length_append] at les
      have les : ss0.length + 1 = ((G i).map Prod.snd).length + 1 := les
      rw [List.length_map, lg] at les
      refine ⟨_, rfl, _, rfl, _, rfl, S, _, _, v, rfl, rfl, SqL.of gS, atI_last xs0 v, _, rfl, ?_⟩
      refine ⟨p, z, ms, tl, c, v, curL (1, waitW) (G i), y, rfl, ra.same sm, om, hv, cur_ok ok0, ok.ov y hmem, ok.ln y hmem, fun v' H2 s2 hT => ?_⟩
      have gS2 := s2 _ _ gS
      have gL2 := s2 _ _ gL
      refine ⟨_, rfl, rfl, _, rfl, ?_⟩
      cases em : moveL ms tl c (curL (1, waitW) (G i)) y with
      | none =>
        rw [em] at hT
        obtain rfl : v' = .non := hT
        refine iteYes rfl ?_
        refine ⟨_, rfl, _, rfl, (by show 2 ≤ sizeLine; decide), fun T hT0 => ?_⟩
        have sT : Same H2 (upd H2 T (.tup [.ref S, .ref L])) := (Same.refl H2).upd hT0
        have nl := NL.same (s2.trans sT)
        have eg : goL ms tl c (1, waitW) ys = G i := go_none hy lg em
        refine k _ T S L (xs0 ++ [v]) ts ((sm.trans s2).trans sT) upd_same hS0 hL0 (sT _ _ gS2) (sT _ _ gL2) ?_ ?_
        · unfold standsL
          rw [eg, ← es]
          exact paired_snoc (Sds.imp nl hx) (SdAt.imp nl hv)
        · unfold tellsL
          rw [eg]
          exact paired_imp ht fun _ _ q => RoAt.imp nl q
      | some q =>
        rw [em] at hT
        obtain ⟨r, s'⟩ := q
        obtain ⟨t, a, b', rfl, et, ha, hb⟩ := hT
        refine iteNot (fun e => by cases e) ?_
        have e4 : G (i + 1) = G i ++ [(r, s')] := go_some hy lg em
        have ntL : t ≠ L := ne_of et gL2 (by intro q; cases q)
        have ntS : t ≠ S := ne_of et gS2 (by intro q; cases q)
        refine ⟨_, rfl, .inl ⟨rfl, _, SqL.of gL2⟩, _, rfl, t, _, _, a, rfl, rfl, SqT.of et, rfl, L, ts, _, rfl, rfl, gL2, by rw [sz]; omega, ?_⟩
        have gS3 : upd H2 L (.lst (ts ++ [a])) S = some (.lst (xs0 ++ [v])) := by rw [upd_ne nSL]; exact gS2
        have et3 : upd H2 L (.lst (ts ++ [a])) t = some (.tup [a, b']) := by rw [upd_ne ntL]; exact et
        refine ⟨_, rfl, .inl ⟨rfl, _, SqL.of gS3⟩, _, rfl, t, _, _, b', rfl, rfl, SqT.of et3, rfl, S, xs0 ++ [v], _, rfl, rfl, gS3, by rw [List.length_append, sz]; show xs0.length + 1 < _; omega, ?_⟩
        have nl2 : NL H2 (upd (upd H2 L (.lst (ts ++ [a]))) S (.lst ((xs0 ++ [v]) ++ [b']))) := NL.updL (NL.updL (NL.same (Same.refl H2)) gL2) gS3
        have nl := NL.trans (NL.same s2) nl2
        refine ⟨_, _, xs0 ++ [v], b', ts ++ [a], ss0 ++ [curL (1, waitW) (G i)], rfl, (((sm.trans s2).upd hL0).upd hS0), upd_same, by rw [upd_ne (Ne.symm nSL), upd_same], ?_, paired_snoc (Sds.imp nl hx) (SdAt.imp nl hv), ?_, ?_, ?_⟩
        · rw [e4, List.length_append, lg]
          rfl
        · rw [e4, cur_snoc]
          exact SdAt.imp nl2 hb
        · rw [e4, cur_snoc, es, List.map_append]
          rfl
        · rw [e4, List.map_append]
          exact paired_snoc (paired_imp ht fun _ _ q => RoAt.imp nl q) (RoAt.imp nl2 ha)
    · rintro σ Hi ⟨o4, o5, xs0, v, ts, ss0, rfl, sm, gS, gL, lg, hx, hv, es, ht⟩
      refine ⟨_, rfl, _, rfl, (by show 2 ≤ sizeLine; decide), fun T hT0 => ?_⟩
      have sT : Same Hi (upd Hi T (.tup [.ref S, .ref L])) := (Same.refl Hi).upd hT0
      have nl := NL.same sT
      have eg : goL ms tl c (1, waitW) ys = G (ys.map V.str).length := by
        show _ = goL ms tl c (1, waitW) (ys.take (ys.map V.str).length)
        rw [List.length_map, List.take_length]
      refine k _ T S L (xs0 ++ [v]) ts (sm.trans sT) upd_same hS0 hL0 (sT _ _ gS) (sT _ _ gL) ?_ ?_
      · unfold standsL
        rw [eg, ← es]
        exact paired_snoc (Sds.imp nl hx) (SdAt.imp nl hv)
      · unfold tellsL
        rw [eg]
        exact paired_imp ht fun _ _ q => RoAt.imp nl q
end
end K68
namespace K68
open PySem PySem.Spec PyProof.Rows L2 FL
section
variable {P : Program} {w : World} {K : PySem.W.Frag} {mg : Str → Option Value} {base : Heap}
theorem scTellingOf : FnScope ["reader", "message", "stands", "tellings"] ["reader", "message"] (defScope sTellingOf) := ⟨rfl, rfl, rfl, by decide +kernel, rfl, by decide +kernel, by decide +kernel⟩
theorem ok_tellingof {f : Addr} {fd : FuncData} (F : Fun K "telling_of" "telling_of" sTellingOf f fd) (R : RdF P w K mg base) (mN : mg "len" = none) (cC : Ca P w K mg base "course_of" 7 ["reader", "message"] (spCourseOf R.C K)) (cF : Ca P w K mg base "is_finished" 3 ["reader", "stand"] (spFinished R.C K)) :
    FnOk P w K mg base CX0 8 f fd ["reader", "message"] (spTellingOf R.C K) := by
  refine F.ok scTellingOf (fun vs H Q E h => ?_) (fun cdv A outer s H vs Q E hr h => ?_)
  · obtain ⟨_, _, _, _, _, _, _, _, rfl, _⟩ := h
    rfl
  · obtain ⟨p, z, ms, tl, c, m, b, ys, rfl, ra, om, hm, ok, k1, k2⟩ := h
    have nd := scTellingOf.nd
    have sz : sizeLine = 16777216 := rfl
    refine ⟨_, pss_cons (ps_asg (pe_ca cC hr (by rfl) (pa_cons (pv 0) (pa_cons (pv 1) pa_nil))) (pg_tup rfl (pgs_cons (pg_name (i := 2) nd rfl (.inl rfl)) (pgs_cons (pg_name (i := 3) nd rfl (.inl rfl)) pgs_nil))))
      (pss_cons (ps_if (PW.pt (pw_or (pt_cmpR op_lt (pe_callB callLen (by rfl) mN PySem.boot_len (pa_cons (pv 3) pa_nil)) (pe_callB callLen (by rfl) mN PySem.boot_len (pa_cons (pv 1) pa_nil)) (nomark _))
        (pw_or1 (pt_not (pt_val (pe_ca cF (hr.mono (by decide)) (by rfl) (pa_cons (pv 0) (pa_cons (pe_ix ix_list (pv 2) (pe_un un_neg pe_int) (fun _ _ => rfl)) pa_nil)))))))) (pss_one (ps_ret pe_non)) pss_nil)
      (pss_one (ps_ret (pv 3)))), ?_⟩
    refine ⟨_, rfl, _, rfl, p, z, ms, tl, c, m, b, ys, rfl, ra, om, hm, ok, fun H' T S L xs ts sm gT hS0 hL0 gS gL hx ht => ?_⟩
    refine ⟨T, _, rfl, SqT.of gT, rfl, _, _, rfl, _, _, rfl, rfl, ?_⟩
    have lts := paired_len ht
    have hm' : MsgAt H' m b ys := sm _ _ hm
    refine ⟨_, rfl, _, ts.length, rfl, .inl ⟨_, SqL.of gL, rfl⟩, _, rfl, _, ys.length, rfl, lenV_msg hm', _, _, rfl, rfl, _, rfl, ?_⟩
    have okc : SdOk ms.length (curL (1, waitW) (goL ms tl c (1, waitW) ys)) := cur_ok (sd_start om.ms.lo)
    have ecur : lastL ms tl c ys = curL (1, waitW) (goL ms tl c (1, waitW) ys) := by
      unfold lastL standsL curL
      rw [List.getLastD_cons]
    refine ite2 (fun q => ?_) (fun q => ?_)
    · have q := of_decide_eq_true q
      refine k1 ?_ _ sm
      unfold tellingL
      exact if_pos (.inl (by omega))
    · have q : ¬ ts.length < ys.length := fun h => q (decide_eq_true (by omega))
      obtain ⟨ss0, es⟩ := last_split ((goL ms tl c (1, waitW) ys).map Prod.snd) (1, waitW)
      have hx2 : Paired (SdAt K H') xs (ss0 ++ [curL (1, waitW) (goL ms tl c (1, waitW) ys)]) := by
        unfold standsL at hx
        rw [es] at hx
        exact hx
      obtain ⟨xs0, v, rfl, hv⟩ := paired_last hx2
      refine ⟨_, rfl, _, rfl, _, rfl, S, _, _, v, rfl, rfl, SqL.of gS, atI_last xs0 v, ?_⟩
      refine ⟨p, z, ms, tl, c, v, _, rfl, ra.same sm, hv, okc, _, rfl, ?_⟩
      have fi : c.fi = Str.ofString "refuse" ∨ c.fi = Str.ofString "close" := by
        rcases om.ca.all (Str.ofString "finish", c.fi) (by unfold caresL; exact List.mem_cons_of_mem _ (List.mem_cons_of_mem _ (List.mem_cons_of_mem _ List.mem_cons_self))) with ⟨e, _⟩ | ⟨e, _⟩ | ⟨e, _⟩ | ⟨_, h⟩
        · exact absurd (show Str.ofString "finish" = Str.ofString "sight" from e) (by decide +kernel)
        · exact absurd (show Str.ofString "finish" = Str.ofString "order" from e) (by decide +kernel)
        · exact absurd (show Str.ofString "finish" = Str.ofString "further" from e) (by decide +kernel)
        · exact h
      by_cases hc : curL (1, waitW) (goL ms tl c (1, waitW) ys) = closedS
      · rw [decide_eq_true hc, Bool.true_or]
        refine iteF ?_
        refine ⟨_, rfl, k2 _ ?_ _ L ts sm hL0 gL ht⟩
        unfold tellingL
        refine if_neg ?_
        rintro (h | h)
        · omega
        · exact h.2 (by rw [ecur]; exact hc)
      · rw [decide_eq_false hc, Bool.false_or]
        rcases fi with fi | fi
        · rw [decide_eq_false (show ¬ c.fi = Str.ofString "close" from by rw [fi]; decide +kernel)]
          refine iteT ?_
          refine k1 ?_ _ sm
          unfold tellingL
          exact if_pos (.inr ⟨fi, by rw [ecur]; exact hc⟩)
        · rw [decide_eq_true fi]
          refine iteF ?_
          refine ⟨_, rfl, k2 _ ?_ _ L ts sm hL0 gL ht⟩
          unfold tellingL
          refine if_neg ?_
          rintro (h | h)
          · omega
          · have e := h.1
            rw [fi] at e
            exact absurd e (by decide +kernel)
theorem scCheckMsg : FnScope ["signs", "message", "position", "line"] ["signs", "message"] (defScope sCheckMsg) := ⟨rfl, rfl, rfl, by decide +kernel, rfl, by decide +kernel, by decide +kernel⟩
theorem ok_checkmsg {f : Addr} {fd : FuncData} (F : Fun K "check_message" "check_message" sCheckMsg f fd) (mE : mg "enumerate" = none) (cL : Ca P w K mg base "is_list" 1 ["value"] spIsList) (cI : Ca P w K mg base "is_line" 1 ["signs", "value"] spLine) :
    FnOk P w K mg base CX0 2 f fd ["signs", "message"] spCheckMsg := by
  refine F.ok scCheckMsg (fun vs H Q E h => ?_) (fun cdv A outer s H vs Q E hr h => ?_)
  · obtain ⟨_, _, _, _, rfl, _⟩ := h
    rfl
  · obtain ⟨z, m, b, ys, rfl, hm, ok, k⟩ := h
    have nd := scCheckMsg.nd
    have sz : sizeLine = 16777216 := rfl
    refine ⟨_, pss_cons (ps_if (pt_not (pt_val (pe_ca cL hr (by rfl) (pa_cons (pv 1) pa_nil)))) (pss_one ps_never) pss_nil)
      (pss_one (ps_for PassesOwn.never rfl (pi_enumX b (by rfl) mE (pa_cons (pv 1) pa_nil))
        (pg_tup rfl (pgs_cons (pg_name (i := 2) nd rfl (.inl rfl)) (pgs_cons (pg_name (i := 3) nd rfl (.inl rfl)) pgs_nil)))
        (pss_one (ps_if (pt_not (pt_val (pe_ca cI hr (by rfl) (pa_cons (pv 0) (pa_cons (pv 3) pa_nil))))) (pss_one ps_never) pss_nil)))), ?_⟩
    have ty : ∃ n, Any H (.ref m) n ∧ (n == "list" || n == "tuple") = true := by
      cases b with
      | true => exact ⟨"tuple", .tup hm, by decide⟩
      | false => exact ⟨"list", .lst hm, by decide⟩
    obtain ⟨n, hn, bn⟩ := ty
    refine ⟨_, rfl, _, n, rfl, hn, fun H1 s1 => ?_⟩
    rw [bn]
    refine ⟨_, rfl, ?_⟩
    refine iteF ?_
    refine ⟨_, rfl, m, _, rfl, sqX_of (s1 _ _ hm), for_it (walk_enumX (t := b)) (fun i σ Hi => ∃ o1 o2 : Option V, σ = [some (.str z), some (.ref m), o1, o2] ∧ Same H Hi) ?_ ?_ ?_ ?_⟩
    · exact ⟨_, _, rfl, s1⟩
    · rintro i σ Hi _ ⟨_, _, _, sm⟩
      exact sqX_of (sm _ _ hm)
    · rintro i x σ Hi _ hi' ⟨o1, o2, rfl, sm⟩ ⟨T, p, q, rfl, hT, rfl, e1, e2⟩
      obtain rfl : V.int (i : Nat) = p := Option.some.inj e1
      have e2 : (ys.map V.str)[i]? = some q := e2
      rw [List.getElem?_map] at e2
      cases hy : ys[i]? with
      | none =>
        rw [hy] at e2
        cases e2
      | some y =>
        rw [hy] at e2
        obtain rfl : V.str y = q := Option.some.inj e2
        have hmem := List.mem_of_getElem? hy
        have ly := ok.ln y hmem
        refine ⟨T, _, rfl, SqT.of upd_same, rfl, _, _, rfl, _, _, rfl, rfl, ?_⟩
        refine ⟨_, rfl, _, rfl, z, .str y, "str", rfl, .str y, (fun q e => by cases e; rw [sz]; omega), ?_⟩
        rw [over_line (ok.ov y hmem)]
        exact ⟨_, rfl, iteF ⟨_, _, rfl, sm.upd (sm.none hT)⟩⟩
    · rintro σ Hi ⟨o1, o2, rfl, sm⟩
      exact k _ sm
theorem scTelling : FnScope ["reader", "message"] ["reader", "message"] (defScope sTelling) := ⟨rfl, rfl, rfl, by decide +kernel, rfl, by decide +kernel, by decide +kernel⟩
theorem ok_telling {f : Addr} {fd : FuncData} (F : Fun K "telling" "telling" sTelling f fd) (R : RdF P w K mg base) (cM : Ca P w K mg base "check_message" 2 ["signs", "message"] spCheckMsg) (cT : Ca P w K mg base "telling_of" 8 ["reader", "message"] (spTellingOf R.C K)) :
    FnOk P w K mg base CX0 9 f fd ["reader", "message"] (spTellingOf R.C K) := by
  refine F.ok scTelling (fun vs H Q E h => ?_) (fun cdv A outer s H vs Q E hr h => ?_)
  · obtain ⟨_, _, _, _, _, _, _, _, rfl, _⟩ := h
    rfl
  · obtain ⟨p, z, ms, tl, c, m, b, ys, rfl, ra, om, hm, ok, k1, k2⟩ := h
    refine ⟨_, pss_cons (ps_expr (pe_ca cM (hr.mono (by decide)) (by rfl) (pa_cons (pe_prop (pv 0) R.T.cl R.pr R.og (hr.mono (by decide)) R.bg .nil pass0 rfl) (pa_cons (pv 1) pa_nil))))
      (pss_one (ps_ret (pe_ca cT hr (by rfl) (pa_cons (pv 0) (pa_cons (pv 1) pa_nil))))), ?_⟩
    obtain ⟨dx, fs, ei, no⟩ := reader_ins ra
    refine ⟨_, rfl, p, dx, fs, rfl, ei, p, z, ms, tl, c, rfl, ra, _, rfl, z, m, b, ys, rfl, hm, ok, fun H1 s1 => ?_⟩
    refine ⟨_, rfl, _, rfl, p, z, ms, tl, c, m, b, ys, rfl, ra.same s1, om, s1 _ _ hm, ok, fun e H' s' => k1 e H' (s1.trans s'), fun rs e H' L ts s' nL gL h => k2 rs e H' L ts (s1.trans s') (s1.none nL) gL h⟩
theorem scCourse : FnScope ["reader", "message"] ["reader", "message"] (defScope sCourse) := ⟨rfl, rfl, rfl, by decide +kernel, rfl, by decide +kernel, by decide +kernel⟩
theorem ok_course {f : Addr} {fd : FuncData} (F : Fun K "course" "course" sCourse f fd) (R : RdF P w K mg base) (cM : Ca P w K mg base "check_message" 2 ["signs", "message"] spCheckMsg) (cC : Ca P w K mg base "course_of" 7 ["reader", "message"] (spCourseOf R.C K)) :
    FnOk P w K mg base CX0 8 f fd ["reader", "message"] (spCourse R.C K) := by
  refine F.ok scCourse (fun vs H Q E h => ?_) (fun cdv A outer s H vs Q E hr h => ?_)
  · obtain ⟨_, _, _, _, _, _, _, _, rfl, _⟩ := h
    rfl
  · obtain ⟨p, z, ms, tl, c, m, b, ys, rfl, ra, om, hm, ok, k⟩ := h
    refine ⟨_, pss_cons (ps_expr (pe_ca cM (hr.mono (by decide)) (by rfl) (pa_cons (pe_prop (pv 0) R.T.cl R.pr R.og (hr.mono (by decide)) R.bg .nil pass0 rfl) (pa_cons (pv 1) pa_nil))))
      (pss_one (ps_ret (pe_ix ix_tup (pe_ca cC hr (by rfl) (pa_cons (pv 0) (pa_cons (pv 1) pa_nil))) pe_int (fun _ _ => rfl)))), ?_⟩
    obtain ⟨dx, fs, ei, no⟩ := reader_ins ra
    refine ⟨_, rfl, p, dx, fs, rfl, ei, p, z, ms, tl, c, rfl, ra, _, rfl, z, m, b, ys, rfl, hm, ok, fun H1 s1 => ?_⟩
    refine ⟨_, rfl, _, rfl, p, z, ms, tl, c, m, b, ys, rfl, ra.same s1, om, s1 _ _ hm, ok, fun H' T S L xs ts s' gT hS hL gS gL hx ht => ?_⟩
    exact ⟨T, _, _, _, rfl, rfl, SqT.of gT, rfl, k H' S xs (s1.trans s') (s1.none hS) gS hx⟩
end
end K68
namespace FL
open PySem PySem.Spec PyProof.Rows L2 FL
def spNearW : Sp := fun vs H Q _ => ∃ (p d : Addr) (z : Str) (ms : List Str) (tl : Str) (c : Cares), vs = [.ref p, .ref d] ∧ PotAt H p ∧ ModelAt H d z ms tl c ∧ RdOk z ms tl c ∧
  ∀ (y : Str) (H' : Hp), Over z y → y.length ≤ 16 → PotAt H' p → But p H H' → Q (.str y) H'
def spBushW (d : Nat) : Sp := fun vs H Q _ => ∃ (p m : Addr) (mx : Nat) (z : Str) (ms : List Str) (tl : Str) (c : Cares), vs = [.ref p, .ref m, .int ((d : Nat) : Int), .int ((mx : Nat) : Int)] ∧ mx ≤ 3 ∧ PotAt H p ∧ ModelAt H m z ms tl c ∧ RdOk z ms tl c ∧
  ∀ (v : V) (t : Bu (d + 1)) (H' : Hp), BuF (fun a => H a = none) H' (d + 1) v t → Alls (fun y => Over z y ∧ y.length ≤ 16) (d + 1) t → Few 3 (d + 1) t → PotAt H' p → But p H H' → Q v H'
end FL
namespace K68
open PySem PySem.Spec PyProof.Rows L2 FL
abbrev sMkR : Stmt := topS 102
abbrev sLLine : Stmt := topS 103
abbrev sNear : Stmt := topS 108
section
variable {P : Program} {w : World} {K : PySem.W.Frag} {mg : Str → Option Value} {base : Heap}
theorem scMkR : FnScope ["_law_model_here"] ["_law_model_here"] (defScope sMkR) := ⟨rfl, rfl, rfl, by decide +kernel, rfl, by decide +kernel, by decide +kernel⟩
theorem ok_mkr {f : Addr} {fd : FuncData} (F : Fun K "_law_reader" "_law_reader" sMkR f fd) (R : RdF P w K mg base) : FnOk P w K mg base CX0 6 f fd ["_law_model_here"] (spMkReader R.C) := by
  refine F.ok scMkR (fun vs H Q E h => ?_) (fun cdv A outer s H vs Q E hr h => ?_)
  · obtain ⟨_, _, _, _, _, rfl, _⟩ := h
    rfl
  · obtain ⟨d, z, ms, tl, c, rfl, ⟨ma, hd, hm⟩, ok, k⟩ := h
    have hu := hu_of hr
    have nx : ∀ s : Str, True := fun _ => trivial
    refine ⟨_, pss_one (ps_ret (pe_makeN (E := E0) R.mkc R.oi hr (by rfl) R.T.mgC R.ki pass0
      (pa_cons (pe_dget hu (pv 0) pe_str (fun _ _ => rfl)) (pa_cons (pe_dget hu (pv 0) pe_str (fun _ _ => rfl)) (pa_cons (pe_dget hu (pv 0) pe_str (fun _ _ => rfl)) pa_nil)))
      (pk_cons (pe_dget hu (pv 0) pe_str (fun _ _ => rfl)) (pk_cons (pe_dget hu (pv 0) pe_str (fun _ _ => rfl)) (pk_cons (pe_dget hu (pv 0) pe_str (fun _ _ => rfl)) (pk_cons (pe_dget hu (pv 0) pe_str (fun _ _ => rfl)) pk_nil)))))), ?_⟩
    refine ⟨_, rfl, d, _, rfl, dget_of hd (model_signs z ma tl c), _, rfl, d, _, rfl, dget_of hd (model_marks z ma tl c), _, rfl, d, _, rfl, dget_of hd (model_tail z ma tl c), ?_⟩
    refine ⟨_, rfl, d, _, rfl, dget_of hd (model_sight z ma tl c), _, rfl, d, _, rfl, dget_of hd (model_order z ma tl c), _, rfl, d, _, rfl, dget_of hd (model_further z ma tl c), _, rfl, d, _, rfl, dget_of hd (model_finish z ma tl c), ?_⟩
    refine ⟨rfl, rfl, fun x dx hx hdx ne => ?_⟩
    have sx : Same H (upd (upd H dx (.own x)) x (.ins R.C dx [])) := ((Same.refl H).upd hdx).upd hx
    refine ⟨x, dx, z, ma, ms, tl, c, rfl, upd_same, ok.az, sx _ _ hm, ok.ms, ok.tl, ok.ca, fun H' ra b => ⟨rfl, ?_⟩⟩
    refine k x H' hx ra fun q o e => ?_
    exact b q o (sx _ _ e) (ne_of_none e hx)
theorem scLLine : FnScope ["_law_model_here", "_law_role", "_law_mark"] ["_law_model_here", "_law_role"] (defScope sLLine) := ⟨rfl, rfl, rfl, by decide +kernel, rfl, by decide +kernel, by decide +kernel⟩
theorem ok_lline {f : Addr} {fd : FuncData} (F : Fun K "_law_line_of" "_law_line_of" sLLine f fd) : FnOk P w K mg base CX0 1 f fd ["_law_model_here", "_law_role"] spLLine := by
  refine F.ok scLLine (fun vs H Q E h => ?_) (fun cdv A outer s H vs Q E hr h => ?_)
  · obtain ⟨_, _, _, _, _, _, _, rfl, _⟩ := h
    rfl
  · obtain ⟨d, z, ms, tl, c, t, r, rfl, ⟨ma, hd, hm⟩, om, ot, ht, ok, k⟩ := h
    have nd := scLLine.nd
    have hu := hu_of hr
    have sz : sizeLine = 16777216 := rfl
    have lo := ok.lo
    have hi := ok.hi
    have hlt : r.2 - 1 < ms.length := by omega
    have em : ms[r.2 - 1]? = some ms[r.2 - 1] := List.getElem?_eq_getElem hlt
    have eg : ms.getD (r.2 - 1) (Str.ofString "") = ms[r.2 - 1] := by rw [List.getD_eq_getElem?_getD, em]; rfl
    have lm := om.l2 _ (List.getElem_mem hlt)
    have lt := ot.l2
    have ea : atI (ms.map V.str) (((r.2 : Nat) : Int) - 1) = some (.str ms[r.2 - 1]) := by
      rw [show ((r.2 : Nat) : Int) - 1 = ((r.2 - 1 : Nat) : Int) by omega]
      exact atI_nat (by rw [List.getElem?_map, em]; rfl)
    refine ⟨_, pss_cons (ps_set (i := 2) nd rfl (.inl rfl) (pe_ix ix_list (pe_dget hu (pv 0) pe_str (fun _ _ => rfl)) (pe_op op_sub (pe_ix ix_tup (pv 1) pe_int (fun _ _ => rfl)) pe_int) (fun _ _ => rfl)))
      (pss_one (ps_ret (pe_ifExp (pt_cmpR op_eq (pe_ix ix_tup (pv 1) pe_int (fun _ _ => rfl)) pe_str (nomark _)) (pv 2) (pe_op op_add_str (pv 2) (pe_dget hu (pv 0) pe_str (fun _ _ => rfl)))))), ?_⟩
    refine ⟨_, rfl, d, _, rfl, dget_of hd (model_marks z ma tl c), _, rfl, t, _, _, _, rfl, rfl, SqT.of ht, atI_nat (j := 1) rfl, _, _, rfl, rfl, ma, _, _, _, rfl, rfl, SqL.of hm, ea, ?_⟩
    refine ⟨_, rfl, t, _, _, _, rfl, rfl, SqT.of ht, atI_nat (j := 0) rfl, rfl, _, rfl, ?_⟩
    refine ite2 (fun q => ?_) (fun q => ?_)
    · have e : r.1 = nextW := V.str.inj (of_decide_eq_true q)
      have : roLine ms tl r = ms[r.2 - 1] := by
        unfold roLine
        rw [if_neg (by rw [e]; decide +kernel), eg, app_nil]
      refine ⟨_, rfl, ?_⟩
      rw [← this]
      exact k
    · have e : r.1 = endW := by
        rcases ok.w with h | h
        · exact absurd (decide_eq_true (congrArg V.str h)) q
        · exact h
      have : roLine ms tl r = ms[r.2 - 1] ++ tl := by
        unfold roLine
        rw [if_pos e, eg]
      refine ⟨_, rfl, _, rfl, d, _, rfl, dget_of hd (model_tail z ma tl c), _, _, rfl, rfl, by rw [sz]; omega, ?_⟩
      rw [← this]
      exact k
abbrev nNear : List Str := ["_law_pot_here", "_law_model_here", "_law_signs", "_law_way", "_law_word"]
theorem scNear : FnScope nNear ["_law_pot_here", "_law_model_here"] (defScope sNear) := ⟨rfl, rfl, rfl, by decide +kernel, rfl, by decide +kernel, by decide +kernel⟩
theorem ok_near {f : Addr} {fd : FuncData} (F : Fun K "_law_near_line" "_law_near_line" sNear f fd) (mN : mg "len" = none) (cD : Ca P w K mg base "_law_draw" 1 ["_law_pot_here", "_law_many"] spDraw) (cL : Ca P w K mg base "_law_line" 3 ["_law_pot_here", "_law_signs", "_law_most"] spNote)
    (cR : Ca P w K mg base "_law_line_of" 1 ["_law_model_here", "_law_role"] spLLine) : FnOk P w K mg base CX0 4 f fd ["_law_pot_here", "_law_model_here"] spNearW := by
  refine F.ok scNear (fun vs H Q E h => ?_) (fun cdv A outer s H vs Q E hr h => ?_)
  · obtain ⟨_, _, _, _, _, _, rfl, _⟩ := h
    rfl
  · obtain ⟨p, d, z, ms, tl, c, rfl, hp, mo, ok, k⟩ := h
    have nd := scNear.nd
    have hu := hu_of hr
    have sz : sizeLine = 16777216 := rfl
    have r1 := hr.mono (show 1 ≤ 3 by decide)
    have zlo := ok.az.lo
    have zhi := ok.az.hi
    have mlo := ok.ms.lo
    have mhi := ok.ms.hi
    refine ⟨_, pss_cons (ps_par (i := 2) (j := 3) (by rfl) nd rfl rfl (by decide) rfl rfl (pa_cons (pe_dget hu (pv 1) pe_str (fun _ _ => rfl)) (pa_cons (pe_ca cD r1 (by rfl) (pa_cons (pv 0) (pa_cons pe_int pa_nil))) pa_nil)) (by rfl))
      (pss_cons (ps_if (pt_cmpR op_lt (pv 3) pe_int (nomark _)) (pss_one (ps_ret (pe_ca cL hr (by rfl) (pa_cons (pv 0) (pa_cons (pv 2) (pa_cons pe_int pa_nil)))))) pss_nil)
      (C8.pss_cut (ps_set (i := 4) nd rfl (.inl rfl) (pe_ifExp (pt_cmpR op_eq (pv 3) pe_int (nomark _)) pe_str pe_str))
      (pss_one (ps_ret (pe_op op_add_str (pe_ca cR r1 (by rfl) (pa_cons (pv 1) (pa_cons (pe_tup (pa_cons (pv 4) (pa_cons (pe_op op_add pe_int (pe_ca cD r1 (by rfl) (pa_cons (pv 0) (pa_cons (pe_callB callLen (by rfl) mN PySem.boot_len (pa_cons (pe_dget hu (pv 1) pe_str (fun _ _ => rfl)) pa_nil)) pa_nil)))) pa_nil))) pa_nil)))
        (pe_ca cL hr (by rfl) (pa_cons (pv 0) (pa_cons (pv 2) (pa_cons pe_int pa_nil))))))))), ?_⟩
    obtain ⟨ma, hd, hm⟩ := mo
    refine ⟨_, rfl, d, _, rfl, dget_of hd (model_signs z ma tl c), _, rfl, p, 5, rfl, hp, by decide, by decide, fun way H1 w0 w1 p1 b1 => ?_⟩
    have mo1 := ModelAt.but ⟨ma, hd, hm⟩ hp b1
    refine ⟨_, _, rfl, ?_⟩
    refine ⟨_, rfl, _, _, rfl, rfl, _, rfl, ?_⟩
    refine ite2 (fun q => ?_) (fun q => ?_)
    · refine ⟨_, rfl, _, rfl, p, z, 4, rfl, p1, by omega, by omega, by decide, by decide, fun y H2 oy ly p2 b2 => ?_⟩
      exact k y H2 oy (by omega) p2 (b1.trans b2)
    · refine ⟨fun σ' H' => ∃ wd : Str, σ' = [some (.ref p), some (.ref d), some (.str z), some (.int way), some (.str wd)] ∧ H' = H1 ∧ (wd = nextW ∨ wd = endW), ?_, ?_⟩
      · refine ⟨_, rfl, rfl, _, rfl, ?_⟩
        refine ite2 (fun _ => ?_) (fun _ => ?_)
        · exact ⟨_, rfl, rfl, .inl rfl⟩
        · exact ⟨_, rfl, rfl, .inr rfl⟩
      · rintro σ' H' ⟨wd, rfl, rfl, hw⟩
        obtain ⟨ma1, hd1, hm1⟩ := mo1
        refine ⟨_, rfl, _, rfl, _, rfl, _, rfl, d, _, rfl, dget_of hd1 (model_marks z ma1 tl c), _, ms.length, rfl, .inl ⟨_, SqL.of hm1, (List.length_map _).symm⟩, p, _, rfl, p1, by omega, by omega, fun l H2 l0 l1 p2 b2 => ?_⟩
        refine ⟨1, l, rfl, rfl, (by show 2 ≤ sizeLine; decide), fun T hT => ?_⟩
        have hl : (1 : Int) + l = ((l.toNat + 1 : Nat) : Int) := by omega
        have mo2 := ModelAt.but ⟨ma1, hd1, hm1⟩ p1 b2
        have sT : Same H2 (upd H2 T (.tup [.str wd, .int (1 + l)])) := (Same.refl H2).upd hT
        have rk : RoOk ms.length (wd, l.toNat + 1) := ⟨hw, by show 1 ≤ l.toNat + 1; omega, by show l.toNat + 1 ≤ _; omega⟩
        refine ⟨d, z, ms, tl, c, T, (wd, l.toNat + 1), rfl, mo2.same sT, ok.ms, ok.tl, ?_, rk, ?_⟩
        · rw [upd_same]
          show some (HO.tup [V.str wd, V.int (1 + l)]) = some (HO.tup [V.str wd, V.int ((l.toNat + 1 : Nat) : Int)])
          rw [hl]
        have o1 := ro_over ok.ms ok.tl rk
        have s1 := ro_len ok.ms ok.tl (wd, l.toNat + 1)
        have p3 : PotAt (upd H2 T (.tup [.str wd, .int (1 + l)])) p := p2.upd (p2.ne hT)
        refine ⟨_, rfl, _, rfl, p, z, 1, rfl, p3, by omega, by omega, by decide, by decide, fun y H4 oy ly p4 b4 => ?_⟩
        refine ⟨_, _, rfl, rfl, by rw [sz]; omega, ?_⟩
        exact k _ H4 (over_app o1 oy) (by rw [len_app]; omega) p4 (((b1.trans b2).same sT).trans b4)
end
end K68
namespace K68
open PySem PySem.Spec PyProof.Rows L2 FL
abbrev sBush : Stmt := topS 109
abbrev sMail : Stmt := topS 110
abbrev sDue : Stmt := topS 111
abbrev nBush : List Str := ["_law_pot_here", "_law_model_here", "_law_depth", "_law_most", "_law_turn_here"]
abbrev pBush : List Str := ["_law_pot_here", "_law_model_here", "_law_depth", "_law_most"]
section
variable {P : Program} {w : World} {K : PySem.W.Frag} {mg : Str → Option Value} {base : Heap}
theorem scBush : FnScope nBush pBush (defScope sBush) := ⟨rfl, rfl, rfl, by decide +kernel, rfl, by decide +kernel, by decide +kernel⟩
theorem ok_bush0 {f : Addr} {fd : FuncData} (F : Fun K "_law_bush" "_law_bush" sBush f fd) (mR : mg "range" = none) (cD : Ca P w K mg base "_law_draw" 1 ["_law_pot_here", "_law_many"] spDraw) (cN : Ca P w K mg base "_law_near_line" 4 ["_law_pot_here", "_law_model_here"] spNearW) :
    FnOk P w K mg base CX0 5 f fd pBush (spBushW 0) := by
  refine F.ok scBush (fun vs H Q E h => ?_) (fun cdv A outer s H vs Q E hr h => ?_)
  · obtain ⟨_, _, _, _, _, _, _, rfl, _⟩ := h
    rfl
  · obtain ⟨p, m, mx, z, ms, tl, c, rfl, mx3, hp, mo, ok, k⟩ := h
    have nd := scBush.nd
    have sz : sizeLine = 16777216 := rfl
    have r1 := hr.mono (show 1 ≤ 4 by decide)
    refine ⟨_, pss_cons (ps_if (pt_cmpR op_eq (pv 2) pe_int (nomark _)) (pss_one (ps_ret (pe_lc (own := [("_law_turn_here", 4)]) (g := gName 4) (tt := tYes) (te := tCall spNearW [] E0 (tCons (tVar 0) (tCons (tVar 1) tNil))) rfl nd
        (pi_range1 (by rfl) mR (pa_cons (pe_ca cD r1 (by rfl) (pa_cons (pv 0) (pa_cons (pe_op op_add (pv 3) pe_int) pa_nil))) pa_nil))
        (blkOk_by (N := nBush) (sc := defScope sBush) (by decide +kernel)) (fun _ _ _ _ _ => pg_name (i := 4) nd rfl (Or.inl rfl)) (fun _ _ _ _ _ => pts_nil)
        (fun _ _ _ _ _ => pe_ca cN hr (by rfl) (pa_cons (pv 0) (pa_cons (pv 1) pa_nil)))))) pss_nil)
      (pss_one ps_never), ?_⟩
    refine ⟨_, rfl, rfl, _, rfl, ?_⟩
    refine iteYes rfl ?_
    refine ⟨_, rfl, _, rfl, _, _, rfl, rfl, p, ((mx : Nat) : Int) + 1, rfl, hp, by omega, by omega, fun n H1 n0 n1 p1 b1 => ?_⟩
    refine ⟨n, rfl, by omega, by omega, fun D hD => ?_⟩
    have npD : p ≠ D := p1.ne hD
    have hD0 : H D = none := But.new b1 hp hD p1
    refine lc_range (lo := 0) (n := n.toNat) (fun i Hi => PotAt Hi p ∧ But p H Hi ∧ ∃ ys : List (Bu 0), Hi D = some (.lst (ys.map fun y => V.str (ln y))) ∧ ys.length = i ∧ ∀ y ∈ ys, Over z (ln y) ∧ (ln y).length ≤ 16) ?_ ?_ ?_
    · exact ⟨p1.upd npD, b1.upd hD0, [], upd_same, rfl, fun _ h => nomatch h⟩
    · rintro i Hi hi ⟨pi, bi, ys, gD, ly, hy⟩
      refine ⟨rfl, ?_⟩
      refine ⟨_, rfl, _, rfl, p, m, z, ms, tl, c, rfl, pi, mo.but hp bi, ok, fun y H2 oy l7 p2 b2 => ?_⟩
      have gD2 := b2 D _ gD (Ne.symm npD)
      refine ⟨_, gD2, by rw [List.length_map, ly, sz]; omega, p2.upd npD, (bi.trans b2).upd hD0, ys ++ [@id (Bu 0) y], ?_, ?_, ?_⟩
      · rw [upd_same, List.map_append]
        rfl
      · rw [List.length_append, ly]
        rfl
      · intro x hx
        rcases List.mem_append.mp hx with q | q
        · exact hy x q
        · rw [List.mem_singleton.mp q]
          exact ⟨oy, l7⟩
    · rintro Hi ⟨pi, bi, ys, gD, ly, hy⟩
      exact k (.ref D) (ys : Bu 1) Hi ⟨D, _, rfl, hD0, gD, bu0_new ys⟩ (fun y hy' => hy y hy') ⟨by show ys.length ≤ 3; omega, fun _ _ => trivial⟩ pi bi
theorem ok_bushS {f : Addr} {fd : FuncData} {n : Nat} (F : Fun K "_law_bush" "_law_bush" sBush f fd) (bF : Binds K fd pBush []) (mF : mg "_law_bush" = some (.ref f)) (mR : mg "range" = none) (cD : Ca P w K mg base "_law_draw" 1 ["_law_pot_here", "_law_many"] spDraw)
    (ih : FnOk P w K mg base CX0 (5 + n) f fd pBush (spBushW n)) : FnOk P w K mg base CX0 (5 + n + 1) f fd pBush (spBushW (n + 1)) := by
  refine F.ok scBush (fun vs H Q E h => ?_) (fun cdv A outer s H vs Q E hr h => ?_)
  · obtain ⟨_, _, _, _, _, _, _, rfl, _⟩ := h
    rfl
  · obtain ⟨p, m, mx, z, ms, tl, c, rfl, mx3, hp, mo, ok, k⟩ := h
    have nd := scBush.nd
    have sz : sizeLine = 16777216 := rfl
    have r1 := hr.mono (show 1 ≤ 5 + n by omega)
    refine ⟨_, pss_cons (ps_if (pt_cmpR op_eq (pv 2) pe_int (nomark _)) (pss_one ps_never) pss_nil)
      (pss_one (ps_ret (pe_lc (own := [("_law_turn_here", 4)]) (g := gName 4) (tt := tYes) (te := tCall (spBushW n) [] E0 (tCons (tVar 0) (tCons (tVar 1) (tCons (tOp (rI0 fun i j => V.int (i - j)) (tVar 2) (tC (V.int 1))) (tCons (tVar 3) tNil))))) rfl nd
        (pi_range1 (by rfl) mR (pa_cons (pe_ca cD r1 (by rfl) (pa_cons (pv 0) (pa_cons (pe_op op_add (pv 3) pe_int) pa_nil))) pa_nil))
        (blkOk_by (N := nBush) (sc := defScope sBush) (by decide +kernel)) (fun _ _ _ _ _ => pg_name (i := 4) nd rfl (Or.inl rfl)) (fun _ _ _ _ _ => pts_nil)
        (fun _ _ _ _ _ => pe_call ih hr (by rfl) mF F.kp bF .nil pass0 (pa_cons (pv 0) (pa_cons (pv 1) (pa_cons (pe_op op_sub (pv 2) pe_int) (pa_cons (pv 3) pa_nil)))))))), ?_⟩
    refine ⟨_, rfl, rfl, _, rfl, ?_⟩
    refine iteNot (fun e => by have := V.int.inj e; omega) ?_
    refine ⟨_, rfl, _, rfl, _, _, rfl, rfl, p, ((mx : Nat) : Int) + 1, rfl, hp, by omega, by omega, fun q H1 n0 n1 p1 b1 => ?_⟩
    refine ⟨q, rfl, by omega, by omega, fun D hD => ?_⟩
    have npD : p ≠ D := p1.ne hD
    have hD0 : H D = none := But.new b1 hp hD p1
    refine lc_range (lo := 0) (n := q.toNat) (fun i Hi => PotAt Hi p ∧ But p H Hi ∧ ∃ (xs : List V) (ts : List (Bu (n + 1))), Hi D = some (.lst xs) ∧ Paired (BuF (fun a => H a = none ∧ a ≠ D) Hi (n + 1)) xs ts ∧ ts.length = i ∧ ∀ t ∈ ts, Alls (fun y => Over z y ∧ y.length ≤ 16) (n + 1) t ∧ Few 3 (n + 1) t) ?_ ?_ ?_
    · exact ⟨p1.upd npD, b1.upd hD0, [], [], upd_same, .nil, rfl, fun _ h => nomatch h⟩
    · rintro i Hi hi ⟨pi, bi, xs, ts, gD, hx, lt', ht⟩
      have lx := paired_len hx
      refine ⟨rfl, ?_⟩
      refine ⟨_, rfl, _, rfl, _, rfl, _, _, rfl, rfl, _, rfl, p, m, mx, z, ms, tl, c, ?_, mx3, pi, mo.but hp bi, ok, fun v t H2 hb al few p2 b2 => ?_⟩
      · show [V.ref p, V.ref m, V.int (((n + 1 : Nat) : Int) - 1), V.int ((mx : Nat) : Int)] = _
        rw [show (((n + 1 : Nat) : Int) - 1) = ((n : Nat) : Int) by omega]
      · have gD2 := b2 D _ gD (Ne.symm npD)
        refine ⟨xs, gD2, by rw [lx, sz]; omega, p2.upd npD, (bi.trans b2).upd hD0, xs ++ [v], ts ++ [t], upd_same, ?_, by rw [List.length_append, lt']; rfl, fun x hx' => ?_⟩
        · have up : ∀ {v : V} {t : Bu (n + 1)}, BuF (fun a => H a = none ∧ a ≠ D) H2 (n + 1) v t → BuF (fun a => H a = none ∧ a ≠ D) (upd H2 D (.lst (xs ++ [v]))) (n + 1) v t := fun h => BuF.imp (fun _ h => h) (fun a ws ha e => by rw [upd_ne ha.2]; exact e) h
          refine paired_snoc (paired_imp hx fun x y h => ?_) ?_
          · exact BuF.imp (fun _ h => h) (fun a ws ha e => by rw [upd_ne ha.2]; exact e) (BuF.but pi b2 h)
          · refine BuF.imp (fun a ha => ⟨But.new bi hp ha pi, fun e => ?_⟩) (fun a ws ha e => ?_) hb
            · rw [upd_ne fun e' => by rw [e', gD] at ha; cases ha]
              exact e
            · rw [e, gD] at ha
              cases ha
        · rcases List.mem_append.mp hx' with h | h
          · exact ht x h
          · rw [List.mem_singleton.mp h]
            exact ⟨al, few⟩
    · rintro Hi ⟨pi, bi, xs, ts, gD, hx, lt', ht⟩
      exact k (.ref D) (ts : Bu (n + 2)) Hi ⟨D, xs, rfl, hD0, gD, paired_imp hx fun _ _ h => BuF.imp (fun _ h => h.1) (fun _ _ _ e => e) h⟩ (fun t h => (ht t h).1) ⟨by show ts.length ≤ 3; omega, fun t h => (ht t h).2⟩ pi bi
theorem ok_bush {f : Addr} {fd : FuncData} (F : Fun K "_law_bush" "_law_bush" sBush f fd) (bF : Binds K fd pBush []) (mF : mg "_law_bush" = some (.ref f)) (mR : mg "range" = none) (cD : Ca P w K mg base "_law_draw" 1 ["_law_pot_here", "_law_many"] spDraw) (cN : Ca P w K mg base "_law_near_line" 4 ["_law_pot_here", "_law_model_here"] spNearW) :
    ∀ n, FnOk P w K mg base CX0 (5 + n) f fd pBush (spBushW n)
  | 0 => ok_bush0 F mR cD cN
  | n + 1 => ok_bushS F bF mF mR cD (ok_bush F bF mF mR cD cN n)
abbrev nMail : List Str := ["_law_model_here", "_law_bush_here", "_law_level", "_law_found", "_law_part"]
abbrev pMail : List Str := ["_law_model_here", "_law_bush_here", "_law_level"]
theorem scMail : FnScope nMail pMail (defScope sMail) := ⟨rfl, rfl, rfl, by decide +kernel, rfl, by decide +kernel, by decide +kernel⟩
theorem ok_mail0 {f : Addr} {fd : FuncData} (F : Fun K "_law_mail" "_law_mail" sMail f fd) (mN : mg "len" = none) (mL : mg "list" = none) : FnOk P w K mg base CX0 2 f fd pMail (spMail 0) := by
  refine F.ok scMail (fun vs H Q E h => ?_) (fun cdv A outer s H vs Q E hr h => ?_)
  · obtain ⟨_, _, _, _, _, _, _, _, rfl, _⟩ := h
    rfl
  · obtain ⟨d, z, ms, tl, c, v, lv, t, rfl, ⟨ma, hd, hm⟩, om, ot, l1, l2, ⟨a, xs, rfl, ea, hx⟩, few, k⟩ := h
    have nd := scMail.nd
    have hu := hu_of hr
    refine ⟨_, pss_cons (ps_if (pt_cmpR op_gt (pv 2) (pe_callB callLen (by rfl) mN PySem.boot_len (pa_cons (pe_dget hu (pv 0) pe_str (fun _ _ => rfl)) pa_nil)) (nomark _))
        (pss_one (ps_ret (pe_callTy call_list_of (by rfl) mL (by decide +kernel) (pa_cons (pv 1) pa_nil)))) pss_nil)
      (pss_cons ps_never (pss_cons ps_never (pss_one ps_never))), ?_⟩
    refine ⟨_, rfl, _, rfl, d, _, rfl, dget_of hd (model_marks z ma tl c), _, ms.length, rfl, .inl ⟨_, SqL.of hm, (List.length_map _).symm⟩, _, _, rfl, rfl, _, rfl, ?_⟩
    refine ite2 (fun _ => ?_) (fun q => absurd (decide_eq_true (show ((ms.length : Nat) : Int) < ((lv : Nat) : Int) by omega)) q)
    refine ⟨_, rfl, a, xs, rfl, .inl (SqL.of ea), fun L hL => ?_⟩
    refine k _ L ((Same.refl H).upd hL) hL ?_
    rw [upd_same, rows0_fst, bu0_map hx]
end
end K68
namespace K68
open PySem PySem.Spec PyProof.Rows L2 FL
section
variable {P : Program} {w : World} {K : PySem.W.Frag} {mg : Str → Option Value} {base : Heap}
theorem ok_mailS {f : Addr} {fd : FuncData} {n : Nat} (F : Fun K "_law_mail" "_law_mail" sMail f fd) (bF : Binds K fd pMail []) (mF : mg "_law_mail" = some (.ref f)) (mN : mg "len" = none)
    (cL : Ca P w K mg base "_law_line_of" 1 ["_law_model_here", "_law_role"] spLLine) (ih : FnOk P w K mg base CX0 (2 + n) f fd pMail (spMail n)) : FnOk P w K mg base CX0 (2 + n + 1) f fd pMail (spMail (n + 1)) := by
  refine F.ok scMail (fun vs H Q E h => ?_) (fun cdv A outer s H vs Q E hr h => ?_)
  · obtain ⟨_, _, _, _, _, _, _, _, rfl, _⟩ := h
    rfl
  · obtain ⟨d, z, ms, tl, c, v, lv, t, rfl, mo, om, ot, l1, l2, ⟨a, xs, rfl, ea, hx⟩, few, k⟩ := h
    have nd := scMail.nd
    have hu := hu_of hr
    have sz : sizeLine = 16777216 := rfl
    have r1 := hr.mono (show 1 ≤ 2 + n by omega)
    have lx := paired_len hx
    have hi := om.hi
    have fl : (kids t).length ≤ 10 := few.1
    have glen : ∀ x ∈ kids t, (gR ms tl n lv x).length ≤ 1122 := fun x hx => by
      have h1 := rows_len (ms := ms) (tl := tl) (lv := lv + 1) (few.2 x hx)
      have h2 := capR_le (k := n) (by omega)
      show (rows ms tl n (lv + 1) x).length + 1 ≤ _
      omega
    have tlen := fun i => take_flat_len glen fl i
    refine ⟨_, pss_cons (ps_if (pt_cmpR op_gt (pv 2) (pe_callB callLen (by rfl) mN PySem.boot_len (pa_cons (pe_dget hu (pv 0) pe_str (fun _ _ => rfl)) pa_nil)) (nomark _)) (pss_one ps_never) pss_nil)
      (pss_cons (ps_set (i := 3) nd rfl (.inl rfl) (pe_lst pa_nil))
      (pss_cons (ps_for PassesOwn.never rfl (pi_list (pv 1)) (pg_name (i := 4) nd rfl (.inl rfl))
        (pss_one (ps_set (i := 3) nd rfl (.inl rfl) (pe_op op_cat (pe_op op_cat (pv 3) (pe_lst (pa_cons (pe_ca cL r1 (by rfl) (pa_cons (pv 0) (pa_cons (pe_tup (pa_cons pe_str (pa_cons (pv 2) pa_nil))) pa_nil))) pa_nil)))
          (pe_call ih hr (by rfl) mF F.kp bF .nil pass0 (pa_cons (pv 0) (pa_cons (pv 4) (pa_cons (pe_op op_add (pv 2) pe_int) pa_nil))))))))
      (pss_one (ps_ret (pe_op op_cat (pv 3) (pe_lst (pa_cons (pe_ca cL r1 (by rfl) (pa_cons (pv 0) (pa_cons (pe_tup (pa_cons pe_str (pa_cons (pv 2) pa_nil))) pa_nil))) pa_nil))))))), ?_⟩
    have mo' := mo
    obtain ⟨ma, hd, hm⟩ := mo'
    refine ⟨_, rfl, _, rfl, d, _, rfl, dget_of hd (model_marks z ma tl c), _, ms.length, rfl, .inl ⟨_, SqL.of hm, (List.length_map _).symm⟩, _, _, rfl, rfl, _, rfl, ?_⟩
    refine ite2 (fun q => absurd (of_decide_eq_true q) (by omega)) (fun _ => ?_)
    refine ⟨by decide, fun L0 hL0 => ?_⟩
    have s0 : Same H (upd H L0 (.lst [])) := (Same.refl H).upd hL0
    have g0 : upd H L0 (.lst []) L0 = some (.lst []) := upd_same
    refine ⟨_, rfl, a, rfl, ⟨_, SqL.of (s0 _ _ ea)⟩, for_it (walk_list (xs := xs)) (fun i σ Hi => ∃ (F : Addr) (o4 : Option V), σ = [some (.ref d), some (.ref a), some (.int ((lv : Nat) : Int)), some (.ref F), o4] ∧ Same H Hi ∧ Hi F = some (.lst (((((kids t).take i).flatMap (gR ms tl n lv)).map Prod.fst).map V.str))) ?_ ?_ ?_ ?_⟩
    · exact ⟨L0, _, rfl, s0, g0⟩
    · rintro i σ Hi _ ⟨_, _, _, sm, _⟩
      exact SqL.of (sm _ _ ea)
    · rintro i x σ Ht Hi hi' ⟨Fd, o4, rfl, sm, gF⟩ ⟨rfl, hxi⟩
      obtain ⟨part, hpt, ex⟩ := L2.paired_get hx hxi
      have hmem := List.mem_of_getElem? hpt
      have ty := tlen i
      refine ⟨_, rfl, _, rfl, _, rfl, (by show 2 ≤ sizeLine; decide), fun T hT => ?_⟩
      have sT : Same Hi (upd Hi T (.tup [.str (Str.ofString "next"), .int ((lv : Nat) : Int)])) := (Same.refl Hi).upd hT
      have gT : upd Hi T (.tup [.str (Str.ofString "next"), .int ((lv : Nat) : Int)]) T = some (.tup [.str (Str.ofString "next"), .int ((lv : Nat) : Int)]) := upd_same
      generalize upd Hi T (.tup [.str (Str.ofString "next"), .int ((lv : Nat) : Int)]) = H1 at sT gT ⊢
      have sm1 := sm.trans sT
      refine ⟨d, z, ms, tl, c, T, (nextW, lv), rfl, mo.same sm1, om, ot, gT, ⟨.inl rfl, l1, by show lv ≤ _; omega⟩, ?_⟩
      refine ⟨(by show 1 ≤ sizeLine; decide), fun L1 hL1 => ?_⟩
      have sL : Same H1 (upd H1 L1 (.lst [.str (roLine ms tl (nextW, lv))])) := (Same.refl H1).upd hL1
      have gL1 : upd H1 L1 (.lst [.str (roLine ms tl (nextW, lv))]) L1 = some (.lst [.str (roLine ms tl (nextW, lv))]) := upd_same
      generalize upd H1 L1 (.lst [.str (roLine ms tl (nextW, lv))]) = H2 at sL gL1 ⊢
      have gF2 := sL _ _ (sT _ _ gF)
      refine ⟨Fd, L1, _, _, rfl, rfl, gF2, gL1, ?_, fun L2' hL2 => ?_⟩
      · rw [List.length_map, List.length_map, sz]
        show _ + 1 ≤ _
        omega
      have sL2 : Same H2 (upd H2 L2' (.lst (((((kids t).take i).flatMap (gR ms tl n lv)).map Prod.fst).map V.str ++ [.str (roLine ms tl (nextW, lv))]))) := (Same.refl H2).upd hL2
      have gL2 : upd H2 L2' (.lst (((((kids t).take i).flatMap (gR ms tl n lv)).map Prod.fst).map V.str ++ [.str (roLine ms tl (nextW, lv))])) L2' = some (.lst (((((kids t).take i).flatMap (gR ms tl n lv)).map Prod.fst).map V.str ++ [.str (roLine ms tl (nextW, lv))])) := upd_same
      generalize upd H2 L2' (.lst (((((kids t).take i).flatMap (gR ms tl n lv)).map Prod.fst).map V.str ++ [.str (roLine ms tl (nextW, lv))])) = H3 at sL2 gL2 ⊢
      have sm3 := (sm1.trans sL).trans sL2
      have hc := rows_len (ms := ms) (tl := tl) (lv := lv + 1) (few.2 part hmem)
      have hc2 := capR_le (k := n) (by omega)
      refine ⟨_, rfl, _, rfl, _, rfl, _, _, rfl, rfl, d, z, ms, tl, c, x, lv + 1, part, rfl, mo.same sm3, om, ot, by omega, by omega, BuAt.same sm3 ex, few.2 part hmem, fun H4 M s4 hM0 gM => ?_⟩
      refine ⟨L2', M, _, _, rfl, rfl, s4 _ _ gL2, gM, ?_, fun L5 hL5 => ?_⟩
      · rw [List.length_append, List.length_map, List.length_map, List.length_map, List.length_map, sz]
        show _ + 1 + _ ≤ _
        omega
      refine ⟨L5, _, rfl, (sm3.trans s4).upd ((sm3.trans s4).none hL5), ?_⟩
      rw [upd_same, flat_snoc hpt]
      simp only [List.map_append, List.append_assoc]
      rfl
    · rintro σ Hi ⟨Fd, o4, rfl, sm, gF⟩
      rw [lx, List.take_length] at gF
      have ty := tlen (kids t).length
      rw [List.take_length] at ty
      refine ⟨_, rfl, _, rfl, _, rfl, (by show 2 ≤ sizeLine; decide), fun T hT => ?_⟩
      have sT : Same Hi (upd Hi T (.tup [.str (Str.ofString "end"), .int ((lv : Nat) : Int)])) := (Same.refl Hi).upd hT
      have gT : upd Hi T (.tup [.str (Str.ofString "end"), .int ((lv : Nat) : Int)]) T = some (.tup [.str (Str.ofString "end"), .int ((lv : Nat) : Int)]) := upd_same
      generalize upd Hi T (.tup [.str (Str.ofString "end"), .int ((lv : Nat) : Int)]) = H1 at sT gT ⊢
      have sm1 := sm.trans sT
      refine ⟨d, z, ms, tl, c, T, (endW, lv), rfl, mo.same sm1, om, ot, gT, ⟨.inr rfl, l1, by show lv ≤ _; omega⟩, ?_⟩
      refine ⟨(by show 1 ≤ sizeLine; decide), fun L1 hL1 => ?_⟩
      have sL : Same H1 (upd H1 L1 (.lst [.str (roLine ms tl (endW, lv))])) := (Same.refl H1).upd hL1
      have gL1 : upd H1 L1 (.lst [.str (roLine ms tl (endW, lv))]) L1 = some (.lst [.str (roLine ms tl (endW, lv))]) := upd_same
      generalize upd H1 L1 (.lst [.str (roLine ms tl (endW, lv))]) = H2 at sL gL1 ⊢
      have gF2 := sL _ _ (sT _ _ gF)
      refine ⟨Fd, L1, _, _, rfl, rfl, gF2, gL1, ?_, fun L2' hL2 => ?_⟩
      · rw [List.length_map, List.length_map, sz]
        show _ + 1 ≤ _
        omega
      have sm2 := sm1.trans sL
      refine k _ L2' (sm2.upd (sm2.none hL2)) (sm2.none hL2) ?_
      rw [upd_same, rows_succ]
      simp only [List.map_append]
      rfl
theorem ok_mail {f : Addr} {fd : FuncData} (F : Fun K "_law_mail" "_law_mail" sMail f fd) (bF : Binds K fd pMail []) (mF : mg "_law_mail" = some (.ref f)) (mN : mg "len" = none) (mL : mg "list" = none)
    (cL : Ca P w K mg base "_law_line_of" 1 ["_law_model_here", "_law_role"] spLLine) : ∀ n, FnOk P w K mg base CX0 (2 + n) f fd pMail (spMail n)
  | 0 => ok_mail0 F mN mL
  | n + 1 => ok_mailS F bF mF mN cL (ok_mail F bF mF mN mL cL n)
theorem scDue : FnScope nMail pMail (defScope sDue) := ⟨rfl, rfl, rfl, by decide +kernel, rfl, by decide +kernel, by decide +kernel⟩
theorem ok_due0 {f : Addr} {fd : FuncData} (F : Fun K "_law_due" "_law_due" sDue f fd) (mN : mg "len" = none) : FnOk P w K mg base CX0 2 f fd pMail (spDue K 0) := by
  refine F.ok scDue (fun vs H Q E h => ?_) (fun cdv A outer s H vs Q E hr h => ?_)
  · obtain ⟨_, _, _, _, _, _, _, _, rfl, _⟩ := h
    rfl
  · obtain ⟨d, z, ms, tl, c, v, lv, t, rfl, ⟨ma, hd, hm⟩, om, l1, l2, ⟨a, xs, rfl, ea, hx⟩, few, k⟩ := h
    have nd := scDue.nd
    have hu := hu_of hr
    have sz : sizeLine = 16777216 := rfl
    have lx := paired_len hx
    have fl : (kids t).length ≤ 10 := few.1
    refine ⟨_, pss_cons (ps_if (pt_cmpR op_gt (pv 2) (pe_callB callLen (by rfl) mN PySem.boot_len (pa_cons (pe_dget hu (pv 0) pe_str (fun _ _ => rfl)) pa_nil)) (nomark _))
        (pss_one (ps_ret (pe_op op_rep (pe_lst (pa_cons (pe_tup (pa_cons pe_str (pa_cons pe_int pa_nil))) pa_nil)) (pe_callB callLen (by rfl) mN PySem.boot_len (pa_cons (pv 1) pa_nil))))) pss_nil)
      (pss_cons ps_never (pss_cons ps_never (pss_one ps_never))), ?_⟩
    refine ⟨_, rfl, _, rfl, d, _, rfl, dget_of hd (model_marks z ma tl c), _, ms.length, rfl, .inl ⟨_, SqL.of hm, (List.length_map _).symm⟩, _, _, rfl, rfl, _, rfl, ?_⟩
    refine ite2 (fun _ => ?_) (fun q => absurd (decide_eq_true (show ((ms.length : Nat) : Int) < ((lv : Nat) : Int) by omega)) q)
    refine ⟨(by show 2 ≤ sizeLine; decide), fun T hT => ?_⟩
    refine ⟨(by show 1 ≤ sizeLine; decide), fun L hL => ?_⟩
    have nTL : T ≠ L := fun e => by
      rw [← e, upd_same] at hL
      cases hL
    have s1 : Same H (upd (upd H T (.tup [.str (Str.ofString "line"), .int 0])) L (.lst [.ref T])) := by
      have := (Same.refl H).upd (o := .tup [.str (Str.ofString "line"), .int 0]) hT
      exact this.upd (this.none hL)
    have gT : upd (upd H T (.tup [.str (Str.ofString "line"), .int 0])) L (.lst [.ref T]) T = some (.tup [.str (Str.ofString "line"), .int 0]) := by rw [upd_ne nTL, upd_same]
    have gL : upd (upd H T (.tup [.str (Str.ofString "line"), .int 0])) L (.lst [.ref T]) L = some (.lst [.ref T]) := upd_same
    generalize upd (upd H T (.tup [.str (Str.ofString "line"), .int 0])) L (.lst [.ref T]) = H1 at s1 gT gL ⊢
    refine ⟨_, rfl, _, xs.length, rfl, .inl ⟨_, SqL.of (s1 _ _ ea), rfl⟩, L, _, _, rfl, rfl, gL, by omega, by omega, by show 1 * _ ≤ _; rw [sz]; omega, fun M hM => ?_⟩
    refine k _ M _ (s1.upd (s1.none hM)) (s1.none hM) upd_same ?_
    rw [rows0_snd, Int.toNat_natCast, flat_one, lx]
    exact paired_rep ⟨T, rfl, SqT.of (by rw [upd_ne (ne_of_none gT hM)]; exact gT)⟩ _
theorem ok_dueS {f : Addr} {fd : FuncData} {n : Nat} (F : Fun K "_law_due" "_law_due" sDue f fd) (bF : Binds K fd pMail []) (mF : mg "_law_due" = some (.ref f)) (mN : mg "len" = none)
    (ih : FnOk P w K mg base CX0 (2 + n) f fd pMail (spDue K n)) : FnOk P w K mg base CX0 (2 + n + 1) f fd pMail (spDue K (n + 1)) := by
  refine F.ok scDue (fun vs H Q E h => ?_) (fun cdv A outer s H vs Q E hr h => ?_)
  · obtain ⟨_, _, _, _, _, _, _, _, rfl, _⟩ := h
    rfl
  · obtain ⟨d, z, ms, tl, c, v, lv, t, rfl, mo, om, l1, l2, ⟨a, xs, rfl, ea, hx⟩, few, k⟩ := h
    have nd := scDue.nd
    have hu := hu_of hr
    have sz : sizeLine = 16777216 := rfl
    have lx := paired_len hx
    have hi := om.hi
    have fl : (kids t).length ≤ 10 := few.1
    have glen : ∀ x ∈ kids t, (gR ms tl n lv x).length ≤ 1122 := fun x hx => by
      have h1 := rows_len (ms := ms) (tl := tl) (lv := lv + 1) (few.2 x hx)
      have h2 := capR_le (k := n) (by omega)
      show (rows ms tl n (lv + 1) x).length + 1 ≤ _
      omega
    have tlen := fun i => take_flat_len glen fl i
    refine ⟨_, pss_cons (ps_if (pt_cmpR op_gt (pv 2) (pe_callB callLen (by rfl) mN PySem.boot_len (pa_cons (pe_dget hu (pv 0) pe_str (fun _ _ => rfl)) pa_nil)) (nomark _)) (pss_one ps_never) pss_nil)
      (pss_cons (ps_set (i := 3) nd rfl (.inl rfl) (pe_lst pa_nil))
      (pss_cons (ps_for PassesOwn.never rfl (pi_list (pv 1)) (pg_name (i := 4) nd rfl (.inl rfl))
        (pss_one (ps_set (i := 3) nd rfl (.inl rfl) (pe_op op_cat (pe_op op_cat (pv 3) (pe_lst (pa_cons (pe_tup (pa_cons pe_str (pa_cons (pv 2) pa_nil))) pa_nil)))
          (pe_call ih hr (by rfl) mF F.kp bF .nil pass0 (pa_cons (pv 0) (pa_cons (pv 4) (pa_cons (pe_op op_add (pv 2) pe_int) pa_nil))))))))
      (pss_one (ps_ret (pe_op op_cat (pv 3) (pe_lst (pa_cons (pe_tup (pa_cons pe_str (pa_cons (pv 2) pa_nil))) pa_nil))))))), ?_⟩
    have mo' := mo
    obtain ⟨ma, hd, hm⟩ := mo'
    refine ⟨_, rfl, _, rfl, d, _, rfl, dget_of hd (model_marks z ma tl c), _, ms.length, rfl, .inl ⟨_, SqL.of hm, (List.length_map _).symm⟩, _, _, rfl, rfl, _, rfl, ?_⟩
    refine ite2 (fun q => absurd (of_decide_eq_true q) (by omega)) (fun _ => ?_)
    refine ⟨by decide, fun L0 hL0 => ?_⟩
    have s0 : Same H (upd H L0 (.lst [])) := (Same.refl H).upd hL0
    have g0 : upd H L0 (.lst []) L0 = some (.lst []) := upd_same
    refine ⟨_, rfl, a, rfl, ⟨_, SqL.of (s0 _ _ ea)⟩, for_it (walk_list (xs := xs)) (fun i σ Hi => ∃ (F : Addr) (o4 : Option V) (ys : List V), σ = [some (.ref d), some (.ref a), some (.int ((lv : Nat) : Int)), some (.ref F), o4] ∧ Same H Hi ∧ Hi F = some (.lst ys) ∧ Paired (RoAt K Hi) ys ((((kids t).take i).flatMap (gR ms tl n lv)).map Prod.snd)) ?_ ?_ ?_ ?_⟩
    · exact ⟨L0, _, [], rfl, s0, g0, .nil⟩
    · rintro i σ Hi _ ⟨_, _, _, _, sm, _⟩
      exact SqL.of (sm _ _ ea)
    · rintro i x σ Ht Hi hi' ⟨Fd, o4, ys, rfl, sm, gF, hy⟩ ⟨rfl, hxi⟩
      obtain ⟨part, hpt, ex⟩ := L2.paired_get hx hxi
      have hmem := List.mem_of_getElem? hpt
      have ty := tlen i
      have ly := paired_len hy
      rw [List.length_map] at ly
      refine ⟨_, rfl, _, rfl, (by show 2 ≤ sizeLine; decide), fun T hT => ?_⟩
      have sT : Same Hi (upd Hi T (.tup [.str (Str.ofString "next"), .int ((lv : Nat) : Int)])) := (Same.refl Hi).upd hT
      have gT : upd Hi T (.tup [.str (Str.ofString "next"), .int ((lv : Nat) : Int)]) T = some (.tup [.str (Str.ofString "next"), .int ((lv : Nat) : Int)]) := upd_same
      generalize upd Hi T (.tup [.str (Str.ofString "next"), .int ((lv : Nat) : Int)]) = H1 at sT gT ⊢
      have sm1 := sm.trans sT
      refine ⟨(by show 1 ≤ sizeLine; decide), fun L1 hL1 => ?_⟩
      have sL : Same H1 (upd H1 L1 (.lst [.ref T])) := (Same.refl H1).upd hL1
      have gL1 : upd H1 L1 (.lst [.ref T]) L1 = some (.lst [.ref T]) := upd_same
      generalize upd H1 L1 (.lst [.ref T]) = H2 at sL gL1 ⊢
      have gF2 := sL _ _ (sT _ _ gF)
      refine ⟨Fd, L1, _, _, rfl, rfl, gF2, gL1, ?_, fun L2' hL2 => ?_⟩
      · rw [ly, sz]
        show _ + 1 ≤ _
        omega
      have sL2 : Same H2 (upd H2 L2' (.lst (ys ++ [.ref T]))) := (Same.refl H2).upd hL2
      have gL2 : upd H2 L2' (.lst (ys ++ [.ref T])) L2' = some (.lst (ys ++ [.ref T])) := upd_same
      generalize upd H2 L2' (.lst (ys ++ [.ref T])) = H3 at sL2 gL2 ⊢
      have s13 := sL.trans sL2
      have si3 := sT.trans s13
      have sm3 := sm.trans si3
      have hc := rows_len (ms := ms) (tl := tl) (lv := lv + 1) (few.2 part hmem)
      have hc2 := capR_le (k := n) (by omega)
      refine ⟨_, rfl, _, rfl, _, rfl, _, _, rfl, rfl, d, z, ms, tl, c, x, lv + 1, part, rfl, mo.same sm3, om, by omega, by omega, BuAt.same sm3 ex, few.2 part hmem, fun H4 M ws s4 hM0 gM hw => ?_⟩
      have lw := paired_len hw
      rw [List.length_map] at lw
      refine ⟨L2', M, _, _, rfl, rfl, s4 _ _ gL2, gM, ?_, fun L5 hL5 => ?_⟩
      · rw [List.length_append, ly, lw, sz]
        show _ + 1 + _ ≤ _
        omega
      have s45 : Same H4 (upd H4 L5 (.lst ((ys ++ [.ref T]) ++ ws))) := (Same.refl H4).upd hL5
      refine ⟨L5, _, _, rfl, (sm3.trans s4).trans s45, upd_same, ?_⟩
      rw [flat_snoc hpt, List.map_append]
      have e2 : (gR ms tl n lv part).map Prod.snd = [((nextW, lv) : Ro)] ++ (rows ms tl n (lv + 1) part).map Prod.snd := rfl
      rw [e2, ← List.append_assoc]
      have s35 := s4.trans s45
      exact paired_app (paired_snoc (Ros.imp (NL.same (si3.trans s35)) hy) ⟨T, rfl, SqT.of (s35 _ _ (s13 _ _ gT))⟩) (Ros.imp (NL.same s45) hw)
    · rintro σ Hi ⟨Fd, o4, ys, rfl, sm, gF, hy⟩
      rw [lx, List.take_length] at hy
      have ty := tlen (kids t).length
      rw [List.take_length] at ty
      have ly := paired_len hy
      rw [List.length_map] at ly
      refine ⟨_, rfl, _, rfl, (by show 2 ≤ sizeLine; decide), fun T hT => ?_⟩
      have sT : Same Hi (upd Hi T (.tup [.str (Str.ofString "end"), .int ((lv : Nat) : Int)])) := (Same.refl Hi).upd hT
      have gT : upd Hi T (.tup [.str (Str.ofString "end"), .int ((lv : Nat) : Int)]) T = some (.tup [.str (Str.ofString "end"), .int ((lv : Nat) : Int)]) := upd_same
      generalize upd Hi T (.tup [.str (Str.ofString "end"), .int ((lv : Nat) : Int)]) = H1 at sT gT ⊢
      refine ⟨(by show 1 ≤ sizeLine; decide), fun L1 hL1 => ?_⟩
      have sL : Same H1 (upd H1 L1 (.lst [.ref T])) := (Same.refl H1).upd hL1
      have gL1 : upd H1 L1 (.lst [.ref T]) L1 = some (.lst [.ref T]) := upd_same
      generalize upd H1 L1 (.lst [.ref T]) = H2 at sL gL1 ⊢
      have gF2 := sL _ _ (sT _ _ gF)
      refine ⟨Fd, L1, _, _, rfl, rfl, gF2, gL1, ?_, fun L2' hL2 => ?_⟩
      · rw [ly, sz]
        show _ + 1 ≤ _
        omega
      have s2 : Same H2 (upd H2 L2' (.lst (ys ++ [.ref T]))) := (Same.refl H2).upd hL2
      have sx := sL.trans s2
      have sa := sm.trans (sT.trans sx)
      have hL0' : H L2' = none := ((sm.trans sT).trans sL).none hL2
      refine k _ L2' _ sa hL0' upd_same ?_
      rw [rows_succ, List.map_append]
      exact paired_snoc (Ros.imp (NL.same (sT.trans sx)) hy) ⟨T, rfl, SqT.of (sx _ _ gT)⟩
theorem ok_due {f : Addr} {fd : FuncData} (F : Fun K "_law_due" "_law_due" sDue f fd) (bF : Binds K fd pMail []) (mF : mg "_law_due" = some (.ref f)) (mN : mg "len" = none) : ∀ n, FnOk P w K mg base CX0 (2 + n) f fd pMail (spDue K n)
  | 0 => ok_due0 F mN
  | n + 1 => ok_dueS F bF mF mN (ok_due F bF mF mN n)
end
end K68
namespace K68
open PySem PySem.Spec PyProof.Rows L2 FL
abbrev sLSeen : Stmt := topS 104
abbrev sLRoleAt : Stmt := topS 105
def spLSeen : Sp := fun vs H Q _ => ∃ (d : Addr) (z : Str) (ms : List Str) (tl : Str) (c : Cares) (t : Addr) (r : Ro) (y : Str), vs = [.ref d, .ref t, .str y] ∧ ModelAt H d z ms tl c ∧ RdOk z ms tl c ∧ H t = some (.tup [.str r.1, .int ((r.2 : Nat) : Int)]) ∧ RoOk ms.length r ∧ y.length ≤ 1000 ∧
  ∀ H', Same H H' → Q (.bl (seenB c.si (roLine ms tl r) y)) H'
def spLRoleAt : Sp := fun vs H Q _ => ∃ (d : Addr) (z : Str) (ms : List Str) (tl : Str) (c : Cares) (y : Str) (l : Nat), vs = [.ref d, .str y, .int ((l : Nat) : Int)] ∧ ModelAt H d z ms tl c ∧ RdOk z ms tl c ∧ y.length ≤ 1000 ∧ 1 ≤ l ∧ l ≤ ms.length ∧
  (roleAtL ms tl c y l = none → ∀ H', Same H H' → Q .non H') ∧ ∀ r, roleAtL ms tl c y l = some r → ∀ (t : Addr) (H' : Hp), Same H H' → H' t = some (.tup [.str r.1, .int ((r.2 : Nat) : Int)]) → Q (.ref t) H'
theorem seenB_pre {si m y : Str} (h : preB m y = true) : seenB si m y = (decide (si = startW) || (decide (y = m) || (!decide (si = wholeW) && restB si m y))) := by
  unfold seenB
  rw [h, Bool.true_and]
theorem eqs (a b : Str) : decide (V.str a = V.str b) = decide (a = b) := decide_eq_decide.mpr ⟨V.str.inj, congrArg V.str⟩
theorem find_mid {α : Type} {p : α → Bool} {x : α} : ∀ {A B : List α}, (∀ a ∈ A, p a = false) → p x = true → (A ++ x :: B).find? p = some x
  | [], B, _, h => by rw [List.nil_append, List.find?_cons, h]
  | a :: A, B, hA, h => by
    rw [List.cons_append, List.find?_cons, hA a List.mem_cons_self]
    exact find_mid (fun a' h' => hA a' (List.mem_cons_of_mem _ h')) h
section
variable {P : Program} {w : World} {K : PySem.W.Frag} {mg : Str → Option Value} {base : Heap}
abbrev nLSeen : List Str := ["_law_model_here", "_law_role", "_law_line_here", "_law_due_here", "_law_care", "_law_sign"]
theorem scLSeen : FnScope nLSeen ["_law_model_here", "_law_role", "_law_line_here"] (defScope sLSeen) := ⟨rfl, rfl, rfl, by decide +kernel, rfl, by decide +kernel, by decide +kernel⟩
theorem ok_lseen {f : Addr} {fd : FuncData} (F : Fun K "_law_is_seen" "_law_is_seen" sLSeen f fd) (mN : mg "len" = none) (mA : mg "all" = none) (cR : Ca P w K mg base "_law_line_of" 1 ["_law_model_here", "_law_role"] spLLine) :
    FnOk P w K mg base CX0 2 f fd ["_law_model_here", "_law_role", "_law_line_here"] spLSeen := by
  refine F.ok scLSeen (fun vs H Q E h => ?_) (fun cdv A outer s H vs Q E hr h => ?_)
  · obtain ⟨_, _, _, _, _, _, _, _, rfl, _⟩ := h
    rfl
  · obtain ⟨d, z, ms, tl, c, t, r, y, rfl, mo, om, ht, rk, ly, k⟩ := h
    have nd := scLSeen.nd
    have hu := hu_of hr
    have sz : sizeLine = 16777216 := rfl
    refine ⟨_, pss_cons (ps_asg (pe_tup (pa_cons (pe_ca cR hr (by rfl) (pa_cons (pv 0) (pa_cons (pv 1) pa_nil))) (pa_cons (pe_dget hu (pv 0) pe_str (fun _ _ => rfl)) pa_nil))) (pg_tup rfl (pgs_cons (pg_name (i := 3) nd rfl (.inl rfl)) (pgs_cons (pg_name (i := 4) nd rfl (.inr rfl)) pgs_nil))))
      (pss_cons (ps_if (pt_cmpR op_ne (pe_slice sl_str (pv 2) po_none (po_some (pe_callB callLen (by rfl) mN PySem.boot_len (pa_cons (pv 3) pa_nil)))) (pv 3) (nomark _)) (pss_one (ps_ret pe_bl)) pss_nil)
      (pss_one (ps_ret (pe_or (pe_cmpR op_eq (pv 4) pe_str (nomark _)) (pe_or (pe_cmpR op_eq (pv 2) (pv 3) (nomark _)) (pe_one (pe_and (pe_cmpR op_ne (pv 4) pe_str (nomark _)) (pe_one
        (pe_callB (cr_all rfl) (by rfl) mA (by decide +kernel) (pa_cons (pe_lc (own := [("_law_sign", 5)]) (g := gName 5) (tt := tYes) (te := tOp rEq (tVar 5) (tVar 4)) rfl nd
          (pi_str (pe_slice sl_str (pv 2) (po_some (pe_callB callLen (by rfl) mN PySem.boot_len (pa_cons (pv 3) pa_nil))) po_none))
          (blkOk_by (N := nLSeen) (sc := defScope sLSeen) (by decide +kernel)) (fun _ _ _ _ _ => pg_name (i := 5) nd rfl (Or.inl rfl)) (fun _ _ _ _ _ => pts_nil)
          (fun _ _ _ _ _ => pe_cmpR op_eq (pv 5) (pv 4) (nomark _))) pa_nil)))))))))), ?_⟩
    have ll := ro_len om.ms om.tl r
    generalize hm : roLine ms tl r = m at ll k
    have mo0 := mo
    obtain ⟨ma, hd, hma⟩ := mo
    refine ⟨_, rfl, _, rfl, d, z, ms, tl, c, t, r, rfl, mo0, om.ms, om.tl, ht, rk, ?_⟩
    rw [hm]
    refine ⟨_, rfl, d, _, rfl, dget_of hd (model_sight z ma tl c), ?_⟩
    refine ⟨(by show 2 ≤ sizeLine; decide), fun T hT => ?_⟩
    refine ⟨T, _, rfl, SqT.of upd_same, rfl, _, _, rfl, _, _, rfl, rfl, ?_⟩
    have s1 : Same H (upd H T (.tup [.str m, .str c.si])) := (Same.refl H).upd hT
    generalize upd H T (.tup [.str m, .str c.si]) = H1 at s1 ⊢
    refine ⟨_, rfl, _, rfl, _, m.length, rfl, ⟨by rw [sz]; omega, rfl⟩, _, rfl, y, rfl, by rw [sz]; omega, _, rfl, rfl, _, rfl, ?_⟩
    rw [show (!decide (V.str (cutS y none (some ((m.length : Nat) : Int))) = V.str m)) = !preB m y from by unfold preB; rw [eqs]]
    cases hp : preB m y with
    | false =>
      refine iteT ?_
      have e : seenB c.si m y = false := by
        unfold seenB
        rw [hp, Bool.false_and]
      rw [e] at k
      exact k H1 s1
    | true =>
      refine iteF ?_
      rw [seenB_pre hp] at k
      refine ⟨_, rfl, rfl, ?_⟩
      rw [show decide (V.str c.si = V.str (Str.ofString "start")) = decide (c.si = startW) from eqs _ _]
      refine ⟨_, rfl, ?_⟩
      by_cases q1 : c.si = startW
      · rw [decide_eq_true q1] at k ⊢
        exact iteT (k H1 s1)
      rw [decide_eq_false q1] at k ⊢
      refine iteF ?_
      refine ⟨_, rfl, _, rfl, rfl, ?_⟩
      rw [eqs]
      refine ⟨_, rfl, ?_⟩
      by_cases q2 : y = m
      · rw [decide_eq_true q2] at k ⊢
        exact iteT (k H1 s1)
      rw [decide_eq_false q2] at k ⊢
      refine iteF ?_
      refine ⟨_, rfl, rfl, ?_⟩
      rw [show decide (V.str c.si = V.str (Str.ofString "whole")) = decide (c.si = wholeW) from eqs _ _]
      refine ⟨_, rfl, ?_⟩
      by_cases q3 : c.si = wholeW
      · rw [decide_eq_true q3] at k ⊢
        exact iteF (k H1 s1)
      rw [decide_eq_false q3] at k ⊢
      refine iteT ?_
      have lc := cutS_length y (some ((m.length : Nat) : Int)) none
      have ec := cut_drop y m.length
      refine ⟨_, rfl, _, rfl, _, m.length, rfl, ⟨by rw [sz]; omega, rfl⟩, _, rfl, y, rfl, by rw [sz]; omega, _, rfl, fun D hD => ?_⟩
      generalize cutS y (some ((m.length : Nat) : Int)) none = rs at lc ec ⊢
      refine lc_it walk_str (fun j Hj => Same H1 Hj ∧ Hj D = some (.lst ((((y.cps.toList.drop m.length).take j).map fun x => decide ((⟨#[x]⟩ : Str) = c.si)).map V.bl))) ?_ (fun _ _ _ _ => trivial) ?_ ?_
      · exact ⟨(Same.refl H1).upd hD, by rw [upd_same, List.take_zero]; rfl⟩
      · rintro j x Hj _ hj ⟨sj, gD⟩ ⟨rfl, x', hx, rfl⟩
        have hcl : (y.cps.toList.drop m.length)[j]? = some x' := by rw [← ec]; simpa using hx
        have hjl : j < rs.length := hj
        refine ⟨rfl, _, rfl, _, rfl, rfl, ?_⟩
        refine ⟨_, gD, by rw [List.length_map, List.length_map, List.length_take, sz]; omega, sj.upd hD, ?_⟩
        rw [upd_same, take_snoc hcl, List.map_append, List.map_append]
        show some (HO.lst (_ ++ [V.bl (decide (V.str ⟨#[x']⟩ = V.str c.si))])) = _
        rw [eqs]
        rfl
      · rintro Hj ⟨sj, gD⟩
        have lr : (y.cps.toList.drop m.length).length = rs.cps.size := by rw [← ec]; exact Array.length_toList
        rw [← lr, List.take_length] at gD
        refine ⟨D, _, rfl, SqL.of gD, ?_⟩
        have e : ((y.cps.toList.drop m.length).map fun x => decide ((⟨#[x]⟩ : Str) = c.si)).all id = (false || (false || (!false && restB c.si m y))) := by
          rw [List.all_map]
          rfl
        rw [e]
        exact k Hj (s1.trans sj)
end
end K68
namespace K68
open PySem PySem.Spec PyProof.Rows L2 FL
theorem levels_desc (l : Nat) : (List.range l).map (fun k => V.int (((l : Nat) : Int) + ((k : Nat) : Int) * (-1))) = (List.range' 1 l).reverse.map fun i => V.int ((i : Nat) : Int) := by
  rw [List.reverse_range', List.map_map]
  refine List.map_congr_left fun k hk => ?_
  have := List.mem_range.mp hk
  show V.int _ = V.int (((1 + l - 1 - k : Nat) : Nat) : Int)
  congr 1
  omega
theorem levels_asc (l : Nat) : rgV 1 (((l : Nat) : Int) + 1) = (List.range' 1 l).map fun i => V.int ((i : Nat) : Int) := by
  unfold rgV
  rw [show (((l : Nat) : Int) + 1 - 1).toNat = l by omega, List.range'_eq_map_range, List.map_map]
  refine List.map_congr_left fun i _ => ?_
  show V.int (1 + ((i : Nat) : Int)) = V.int (((1 + i : Nat) : Nat) : Int)
  rw [Int.natCast_add]
  rfl
theorem order_ok {z : Str} {c : Cares} (h : CaresOk z c) : c.od = Str.ofString "inner" ∨ c.od = Str.ofString "outer" := by
  rcases h.all (Str.ofString "order", c.od) (by unfold caresL; exact List.mem_cons_of_mem _ List.mem_cons_self) with ⟨e, _⟩ | ⟨_, h⟩ | ⟨e, _⟩ | ⟨e, _⟩
  · exact absurd (show Str.ofString "order" = Str.ofString "sight" from e) (by decide +kernel)
  · exact h
  · exact absurd (show Str.ofString "order" = Str.ofString "further" from e) (by decide +kernel)
  · exact absurd (show Str.ofString "order" = Str.ofString "finish" from e) (by decide +kernel)
section
variable {P : Program} {w : World} {K : PySem.W.Frag} {mg : Str → Option Value} {base : Heap}
abbrev nLRoleAt : List Str := ["_law_model_here", "_law_line_here", "_law_level", "_law_asked", "_law_near", "_law_word"]
theorem scLRoleAt : FnScope nLRoleAt ["_law_model_here", "_law_line_here", "_law_level"] (defScope sLRoleAt) := ⟨rfl, rfl, rfl, by decide +kernel, rfl, by decide +kernel, by decide +kernel⟩
theorem ok_lroleat {f : Addr} {fd : FuncData} (F : Fun K "_law_role_at" "_law_role_at" sLRoleAt f fd) (mL : mg "list" = none) (mR : mg "range" = none) (cS : Ca P w K mg base "_law_is_seen" 2 ["_law_model_here", "_law_role", "_law_line_here"] spLSeen) :
    FnOk P w K mg base CX0 3 f fd ["_law_model_here", "_law_line_here", "_law_level"] spLRoleAt := by
  refine F.ok scLRoleAt (fun vs H Q E h => ?_) (fun cdv A outer s H vs Q E hr h => ?_)
  · obtain ⟨_, _, _, _, _, _, _, rfl, _⟩ := h
    rfl
  · obtain ⟨d, z, ms, tl, c, y, l, rfl, mo, om, ly, l1, l2, k1, k2⟩ := h
    have nd := scLRoleAt.nd
    have hu := hu_of hr
    have sz : sizeLine = 16777216 := rfl
    have hi := om.ms.hi
    refine ⟨_, C8.pss_cut (ps_set (i := 3) nd rfl (.inl rfl) (pe_ifExp (pt_cmpR op_eq (pe_dget hu (pv 0) pe_str (fun _ _ => rfl)) pe_str (nomark _))
        (pe_listRg rfl (by rfl) mL (prg_2 (by rfl) mR pe_int (pe_op op_add (pv 2) pe_int)))
        (pe_listRg3 rfl (by rfl) mL (by rfl) mR (pa_cons (pv 2) (pa_cons pe_int (pa_cons (pe_un un_neg pe_int) pa_nil))))))
      (pss_cons (ps_for PassesOwn.never rfl (pi_list (pv 3)) (pg_name (i := 4) nd rfl (.inl rfl))
        (pss_one (ps_for PassesOwn.never rfl (pi_list (pe_lst (pa_cons pe_str (pa_cons pe_str pa_nil)))) (pg_name (i := 5) nd rfl (.inl rfl))
          (pss_one (ps_if (pt_val (pe_ca cS hr (by rfl) (pa_cons (pv 0) (pa_cons (pe_tup (pa_cons (pv 5) (pa_cons (pv 4) pa_nil))) (pa_cons (pv 1) pa_nil)))))
            (pss_one (ps_ret (pe_tup (pa_cons (pv 5) (pa_cons (pv 4) pa_nil))))) pss_nil)))))
      (pss_one (ps_ret pe_non))), ?_⟩
    refine ⟨fun σ' H1 => ∃ A, σ' = [some (.ref d), some (.str y), some (.int ((l : Nat) : Int)), some (.ref A), none, none] ∧ Same H H1 ∧ H1 A = some (.lst ((levelsL c.od l).map fun i => V.int ((i : Nat) : Int))), ?_, ?_⟩
    · obtain ⟨ma, hd, hma⟩ := mo
      refine ⟨_, rfl, d, _, rfl, dget_of hd (model_order z ma tl c), rfl, _, rfl, ?_⟩
      refine ite2 (fun q => ?_) (fun q => ?_)
      · have e : c.od = Str.ofString "outer" := V.str.inj (of_decide_eq_true q)
        refine ⟨_, rfl, _, _, rfl, rfl, 1, _, rfl, rfl, RgOk.of_le (by decide) (by omega) (by decide) (by omega), fun L hL => ?_⟩
        refine ⟨L, rfl, (Same.refl H).upd hL, ?_⟩
        rw [upd_same, levels_asc]
        unfold levelsL
        rw [if_neg (show ¬ c.od = Str.ofString "inner" from by rw [e]; decide +kernel)]
      · have e : c.od = Str.ofString "inner" := by
          rcases order_ok om.ca with h | h
          · exact h
          · exact absurd (decide_eq_true (congrArg V.str h)) q
        refine ⟨_, rfl, _, rfl, ((l : Nat) : Int), 0, -1, l, rfl, ?_, by omega, fun L hL => ?_⟩
        · have h := RgC.neg (i := ((l : Nat) : Int)) (j := 0) (by omega) (by omega) (by decide) (by decide)
          rw [show (((l : Nat) : Int) - 0).toNat = l by omega] at h
          exact h
        refine ⟨L, rfl, (Same.refl H).upd hL, ?_⟩
        rw [upd_same, levels_desc]
        unfold levelsL
        rw [if_pos e]
    · rintro σ' H1 ⟨A, rfl, s1, gA⟩
      have ll : (levelsL c.od l).length = l := by
        unfold levelsL
        split
        · rw [List.length_reverse, List.length_range']
        · rw [List.length_range']
      let f2 : Nat → List Ro := fun l => [(endW, l), (nextW, l)]
      refine ⟨_, rfl, A, rfl, ⟨_, SqL.of gA⟩, for_it (walk_list (xs := (levelsL c.od l).map fun i => V.int ((i : Nat) : Int))) (fun i σ Hi => ∃ o4 o5 : Option V, σ = [some (.ref d), some (.str y), some (.int ((l : Nat) : Int)), some (.ref A), o4, o5] ∧ Same H1 Hi ∧
        ∀ r ∈ ((levelsL c.od l).take i).flatMap f2, seenB c.si (roLine ms tl r) y = false) ?_ ?_ ?_ ?_⟩
      · exact ⟨none, none, rfl, Same.refl H1, fun r h => by rw [List.take_zero] at h; cases h⟩
      · rintro i σ Hi _ ⟨_, _, _, sm, _⟩
        exact SqL.of (sm _ _ gA)
      · rintro i x σ Hi H'' hi' ⟨o4, o5, rfl, sm, hn⟩ ⟨rfl, hxx⟩
        rw [List.length_map] at hi'
        have hl : (levelsL c.od l)[i]? = some (levelsL c.od l)[i] := List.getElem?_eq_getElem hi'
        generalize (levelsL c.od l)[i] = lv at hl
        rw [List.getElem?_map, hl] at hxx
        obtain rfl : V.int ((lv : Nat) : Int) = x := Option.some.inj hxx
        have hlv : ∀ wd : Str, (wd = endW ∨ wd = nextW) → RoOk ms.length (wd, lv) := fun wd hw => by
          have h1 : (wd, lv) ∈ askedL c.od l := List.mem_flatMap.mpr ⟨lv, List.mem_of_getElem? hl, by rcases hw with rfl | rfl <;> simp⟩
          obtain ⟨a, b, c'⟩ := mem_asked h1
          exact ⟨a, b, by show lv ≤ _; have : lv ≤ l := c'; omega⟩
        have hspl : askedL c.od l = ((levelsL c.od l).take i).flatMap f2 ++ (f2 lv ++ ((levelsL c.od l).drop (i + 1)).flatMap f2) := by
          obtain ⟨h2, rfl⟩ := List.getElem?_eq_some_iff.mp hl
          have : levelsL c.od l = (levelsL c.od l).take i ++ (levelsL c.od l)[i] :: (levelsL c.od l).drop (i + 1) := by rw [← List.drop_eq_getElem_cons h2, List.take_append_drop]
          show (levelsL c.od l).flatMap f2 = _
          conv => lhs; rw [this]
          rw [List.flatMap_append, List.flatMap_cons]
        refine ⟨(by show 2 ≤ sizeLine; decide), fun W hW => ?_⟩
        have sW : Same H1 (upd H'' W (.lst [.str (Str.ofString "end"), .str (Str.ofString "next")])) := sm.upd (sm.none hW)
        have gW : upd H'' W (.lst [.str (Str.ofString "end"), .str (Str.ofString "next")]) W = some (.lst [.str (Str.ofString "end"), .str (Str.ofString "next")]) := upd_same
        generalize upd H'' W (.lst [.str (Str.ofString "end"), .str (Str.ofString "next")]) = HW at sW gW ⊢
        refine ⟨W, rfl, ⟨_, SqL.of gW⟩, for_it (walk_list (xs := [.str (Str.ofString "end"), .str (Str.ofString "next")])) (fun j σ Hj => ∃ o5 : Option V, σ = [some (.ref d), some (.str y), some (.int ((l : Nat) : Int)), some (.ref A), some (.int ((lv : Nat) : Int)), o5] ∧ Same HW Hj ∧
          ∀ r ∈ (f2 lv).take j, seenB c.si (roLine ms tl r) y = false) ?_ ?_ ?_ ?_⟩
        · exact ⟨_, rfl, Same.refl HW, fun r h => by rw [List.take_zero] at h; cases h⟩
        · rintro j σ Hj _ ⟨_, _, sj, _⟩
          exact SqL.of (sj _ _ gW)
        · rintro j x σ Hj H3 hj ⟨o5', rfl, sj, hn2⟩ ⟨rfl, hx2⟩
          have pick : ∃ wd : Str, (f2 lv)[j]? = some (wd, lv) ∧ x = .str wd ∧ (wd = endW ∨ wd = nextW) := by
            match j, hx2 with
            | 0, hx2 => exact ⟨endW, rfl, (Option.some.inj hx2).symm, .inl rfl⟩
            | 1, hx2 => exact ⟨nextW, rfl, (Option.some.inj hx2).symm, .inr rfl⟩
            | j + 2, hx2 => exact absurd hj (by show ¬ j + 2 < 2; omega)
          obtain ⟨wd, hp, rfl, hw⟩ := pick
          refine ⟨_, rfl, _, rfl, _, rfl, (by show 2 ≤ sizeLine; decide), fun T hT => ?_⟩
          have sT : Same H3 (upd H3 T (.tup [.str wd, .int ((lv : Nat) : Int)])) := (Same.refl H3).upd hT
          have gT : upd H3 T (.tup [.str wd, .int ((lv : Nat) : Int)]) T = some (.tup [.str wd, .int ((lv : Nat) : Int)]) := upd_same
          generalize upd H3 T (.tup [.str wd, .int ((lv : Nat) : Int)]) = HT at sT gT ⊢
          have sAll : Same H HT := ((s1.trans sW).trans sj).trans sT
          refine ⟨_, rfl, d, z, ms, tl, c, T, (wd, lv), y, rfl, mo.same sAll, om, gT, hlv wd hw, ly, fun H4 s4 => ?_⟩
          refine ⟨_, rfl, ?_⟩
          refine ite2 (fun q => ?_) (fun q => ?_)
          · refine ⟨_, rfl, _, rfl, (by show 2 ≤ sizeLine; decide), fun T2 hT2 => ?_⟩
            refine k2 (wd, lv) ?_ T2 _ ((sAll.trans s4).upd ((sAll.trans s4).none hT2)) upd_same
            show (askedL c.od l).find? _ = _
            obtain ⟨h2, e2⟩ := List.getElem?_eq_some_iff.mp hp
            have ef : f2 lv = (f2 lv).take j ++ (wd, lv) :: (f2 lv).drop (j + 1) := by rw [← e2, ← List.drop_eq_getElem_cons h2, List.take_append_drop]
            rw [hspl, ef, List.append_assoc, List.cons_append, ← List.append_assoc]
            refine find_mid (fun a ha => ?_) q
            rcases List.mem_append.mp ha with h | h
            · exact hn a h
            · exact hn2 a h
          · refine ⟨_, rfl, (sj.trans sT).trans s4, fun r' h' => ?_⟩
            rw [take_snoc hp] at h'
            rcases List.mem_append.mp h' with h' | h'
            · exact hn2 r' h'
            · obtain rfl := List.mem_singleton.mp h'
              exact Bool.eq_false_iff.mpr q
        · rintro σ Hj ⟨o5', rfl, sj, hn2⟩
          refine ⟨_, _, rfl, sW.trans sj, fun r h => ?_⟩
          rw [take_snoc hl, List.flatMap_append] at h
          rcases List.mem_append.mp h with h | h
          · exact hn r h
          · rw [List.flatMap_singleton] at h
            exact hn2 r h
      · rintro σ Hi ⟨o4, o5, rfl, sm, hn⟩
        rw [List.length_map, List.take_length] at hn
        exact k1 (find_nothing hn) _ (s1.trans sm)
end
end K68
namespace K68
open PySem PySem.Spec PyProof.Rows L2 FL
abbrev sLMove : Stmt := topS 106
abbrev sLTold : Stmt := topS 107
def spLMove (K : PySem.W.Frag) : Sp := fun vs H Q _ => ∃ (d : Addr) (z : Str) (ms : List Str) (tl : Str) (c : Cares) (st : V) (s : Sd) (y : Str), vs = [.ref d, st, .str y] ∧ ModelAt H d z ms tl c ∧ RdOk z ms tl c ∧ SdAt K H st s ∧ SdOk ms.length s ∧ y.length ≤ 1000 ∧
  ∀ (v : V) (H' : Hp), Same H H' → ToldAt K H' v (moveL ms tl c s y) → Q v H'
section
variable {P : Program} {w : World} {K : PySem.W.Frag} {mg : Str → Option Value} {base : Heap}
abbrev nLMove : List Str := ["_law_model_here", "_law_here", "_law_line_here", "_law_role", "_law_depth"]
theorem scLMove : FnScope nLMove ["_law_model_here", "_law_here", "_law_line_here"] (defScope sLMove) := ⟨rfl, rfl, rfl, by decide +kernel, rfl, by decide +kernel, by decide +kernel⟩
theorem ok_lmove {f : Addr} {fd : FuncData} (F : Fun K "_law_move" "_law_move" sLMove f fd) (mN : mg "len" = none) (cR : Ca P w K mg base "_law_role_at" 3 ["_law_model_here", "_law_line_here", "_law_level"] spLRoleAt) :
    FnOk P w K mg base CX0 4 f fd ["_law_model_here", "_law_here", "_law_line_here"] (spLMove K) := by
  refine F.ok scLMove (fun vs H Q E h => ?_) (fun cdv A outer s H vs Q E hr h => ?_)
  · obtain ⟨_, _, _, _, _, _, _, _, rfl, _⟩ := h
    rfl
  · obtain ⟨d, z, ms, tl, c, st, sd, y, rfl, mo, om, hs, ok, ly, k⟩ := h
    have nd := scLMove.nd
    have hu := hu_of hr
    obtain ⟨ts, rfl, hts⟩ := hs
    refine ⟨_, pss_cons (ps_if (pt_cmpR op_eq (pe_ix ix_tup (pv 1) pe_int (fun _ _ => rfl)) pe_int (nomark _)) (pss_one (ps_ret pe_non)) pss_nil)
      (pss_cons (ps_par (i := 3) (j := 4) (by rfl) nd rfl rfl (by decide) rfl rfl (pa_cons (pe_ca cR hr (by rfl) (pa_cons (pv 0) (pa_cons (pv 2) (pa_cons (pe_ix ix_tup (pv 1) pe_int (fun _ _ => rfl)) pa_nil)))) (pa_cons (pe_callB callLen (by rfl) mN PySem.boot_len (pa_cons (pe_dget hu (pv 0) pe_str (fun _ _ => rfl)) pa_nil)) pa_nil)) (by rfl))
      (pss_cons (ps_if (pt_cmpR op_isN (pv 3) pe_non (nomark _)) (pss_one (ps_ret (pe_ifExp (pt_cmpR op_eq (pe_ix ix_tup (pv 1) pe_int (fun _ _ => rfl)) pe_str (nomark _)) (pe_tup (pa_cons (pe_tup (pa_cons pe_str (pa_cons pe_int pa_nil))) (pa_cons (pv 1) pa_nil))) pe_non))) pss_nil)
      (pss_cons (ps_if (PW.pt (pw_and (pt_cmpR op_lt (pe_ix ix_tup (pv 3) pe_int (fun _ _ => rfl)) (pe_ix ix_tup (pv 1) pe_int (fun _ _ => rfl)) (nomark _)) (pw_and1 (pt_cmpR op_eq (pe_dget hu (pv 0) pe_str (fun _ _ => rfl)) pe_str (nomark _))))) (pss_one (ps_ret pe_non)) pss_nil)
      (pss_cons (ps_if (pt_cmpR op_eq (pe_ix ix_tup (pv 3) pe_int (fun _ _ => rfl)) pe_str (nomark _)) (pss_one (ps_ret (pe_tup (pa_cons (pv 3) (pa_cons (pe_tup (pa_cons (pe_op op_sub (pe_ix ix_tup (pv 3) pe_int (fun _ _ => rfl)) pe_int) (pa_cons pe_str pa_nil))) pa_nil))))) pss_nil)
      (pss_one (ps_ret (pe_tup (pa_cons (pv 3) (pa_cons (pe_ifExp (pt_cmpR op_eq (pe_ix ix_tup (pv 3) pe_int (fun _ _ => rfl)) (pv 4) (nomark _))
        (pe_tup (pa_cons (pv 4) (pa_cons pe_str pa_nil))) (pe_tup (pa_cons (pe_op op_add (pe_ix ix_tup (pv 3) pe_int (fun _ _ => rfl)) pe_int) (pa_cons pe_str pa_nil)))) pa_nil))))))))), ?_⟩
    refine ⟨_, rfl, ts, _, _, _, rfl, rfl, hts, atI_nat (j := 0) rfl, rfl, _, rfl, ?_⟩
    refine ite2 (fun q => ?_) (fun q => ?_)
    · have e : sd.1 = 0 := Int.ofNat.inj (V.int.inj (of_decide_eq_true q))
      refine k _ _ (Same.refl H) ?_
      rw [moveL_eq, if_pos e]
      rfl
    have ne : ¬ sd.1 = 0 := fun h => q (decide_eq_true (by rw [h]; rfl))
    rw [moveL_eq, if_neg ne] at k
    refine ⟨_, rfl, _, rfl, _, rfl, ts, _, _, _, rfl, rfl, hts, atI_nat (j := 0) rfl, ?_⟩
    refine ⟨d, z, ms, tl, c, y, sd.1, rfl, mo, om, ly, by omega, ok.hi, fun en H1 s1 => ?_, fun r er t H1 s1 ht => ?_⟩
    · rw [en] at k
      obtain ⟨ma, hd, hma⟩ := mo.same s1
      have hts1 := (NL.same s1).sqT hts
      refine ⟨_, rfl, d, _, rfl, dget_of hd (model_marks z ma tl c), _, ms.length, rfl, .inl ⟨_, SqL.of hma, (List.length_map _).symm⟩, ?_⟩
      refine ⟨_, _, rfl, ?_⟩
      refine ⟨_, rfl, rfl, _, rfl, ?_⟩
      refine iteYes rfl ?_
      refine ⟨_, rfl, ts, _, _, _, rfl, rfl, hts1, atI_nat (j := 1) rfl, rfl, _, rfl, ?_⟩
      refine ite2 (fun q => ?_) (fun q => ?_)
      · have e : sd.2 = bodyW := V.str.inj (of_decide_eq_true q)
        refine ⟨(by show 2 ≤ sizeLine; decide), fun T1 h1 => ?_⟩
        have sT : Same H1 (upd H1 T1 (.tup [.str (Str.ofString "line"), .int 0])) := (Same.refl H1).upd h1
        have g1 : upd H1 T1 (.tup [.str (Str.ofString "line"), .int 0]) T1 = some (.tup [.str (Str.ofString "line"), .int 0]) := upd_same
        refine ⟨_, rfl, (by show 2 ≤ sizeLine; decide), fun T2 h2 => ?_⟩
        have sT2 := sT.upd (sT.none h2) (o := .tup [.ref T1, .ref ts])
        refine k _ _ (s1.trans sT2) ?_
        show ToldAt K _ _ (if sd.2 = bodyW then some ((lineW, 0), sd) else none)
        rw [if_pos e]
        refine ⟨T2, .ref T1, .ref ts, rfl, upd_same, ⟨T1, rfl, SqT.of ?_⟩, ⟨ts, rfl, (NL.same sT2).sqT hts1⟩⟩
        rw [upd_ne (ne_of_none g1 h2), g1]
        rfl
      · have e : ¬ sd.2 = bodyW := fun h => q (decide_eq_true (congrArg V.str h))
        refine k _ _ s1 ?_
        show ToldAt K _ _ (if sd.2 = bodyW then some ((lineW, 0), sd) else none)
        rw [if_neg e]
        rfl
    · rw [er] at k
      obtain ⟨rw1, lo, rhi⟩ := roleAt_ok er
      obtain ⟨ma, hd, hma⟩ := mo.same s1
      have hts1 := (NL.same s1).sqT hts
      refine ⟨_, rfl, d, _, rfl, dget_of hd (model_marks z ma tl c), _, ms.length, rfl, .inl ⟨_, SqL.of hma, (List.length_map _).symm⟩, ?_⟩
      refine ⟨_, _, rfl, ?_⟩
      refine ⟨_, rfl, rfl, _, rfl, ?_⟩
      refine iteNot (fun e => by cases e) ?_
      refine ⟨_, rfl, t, _, _, _, rfl, rfl, SqT.of ht, atI_nat (j := 1) rfl, _, rfl, ts, _, _, _, rfl, rfl, hts1, atI_nat (j := 0) rfl, _, _, rfl, rfl, _, rfl, ?_⟩
      refine ite2 (fun q => ⟨_, rfl, d, _, rfl, dget_of hd (model_further z ma tl c), rfl, _, rfl, ite2 (fun q2 => ?a) (fun q2 => ?b)⟩) (fun q => iteF ?c)
      case a =>
        have e1 : r.2 < sd.1 := by
          have := of_decide_eq_true q
          omega
        have e2 : c.fu = Str.ofString "refuse" := V.str.inj (of_decide_eq_true q2)
        refine k _ _ s1 ?_
        show ToldAt K _ _ (if r.2 < sd.1 ∧ c.fu = Str.ofString "refuse" then none else _)
        rw [if_pos ⟨e1, e2⟩]
        rfl
      all_goals
        have nc : ¬ (r.2 < sd.1 ∧ c.fu = Str.ofString "refuse") := by
          first
          | exact fun h => q2 (decide_eq_true (congrArg V.str h.2))
          | exact fun h => q (decide_eq_true (by have := h.1; omega))
        refine ⟨_, rfl, t, _, _, _, rfl, rfl, SqT.of ht, atI_nat (j := 0) rfl, rfl, _, rfl, ?_⟩
        refine ite2 (fun e => ?_) (fun e => ?_)
        · have e : r.1 = endW := V.str.inj (of_decide_eq_true e)
          refine ⟨_, rfl, _, rfl, t, _, _, _, rfl, rfl, SqT.of ht, atI_nat (j := 1) rfl, _, _, rfl, rfl, (by show 2 ≤ sizeLine; decide), fun T1 h1 => ?_⟩
          have sT : Same H1 (upd H1 T1 (.tup [.int (((r.2 : Nat) : Int) - 1), .str (Str.ofString "wait")])) := (Same.refl H1).upd h1
          have g1 : upd H1 T1 (.tup [.int (((r.2 : Nat) : Int) - 1), .str (Str.ofString "wait")]) T1 = some (.tup [.int (((r.2 : Nat) : Int) - 1), .str (Str.ofString "wait")]) := upd_same
          refine ⟨(by show 2 ≤ sizeLine; decide), fun T2 h2 => ?_⟩
          have sT2 := sT.upd (sT.none h2) (o := .tup [.ref t, .ref T1])
          refine k _ _ (s1.trans sT2) ?_
          show ToldAt K _ _ (if r.2 < sd.1 ∧ c.fu = Str.ofString "refuse" then none else if r.1 = endW then some (r, (r.2 - 1, waitW)) else _)
          rw [if_neg nc, if_pos e]
          have e3 : ((r.2 : Nat) : Int) - 1 = ((r.2 - 1 : Nat) : Int) := by omega
          refine ⟨T2, .ref t, .ref T1, rfl, upd_same, ⟨t, rfl, SqT.of (sT2 _ _ ht)⟩, ⟨T1, rfl, SqT.of ?_⟩⟩
          rw [upd_ne (ne_of_none g1 h2), g1, e3]
          rfl
        · have e : ¬ r.1 = endW := fun h => e (decide_eq_true (congrArg V.str h))
          have mv : moveR ms c sd (some r) = some (r, if r.2 = ms.length then (ms.length, bodyW) else (r.2 + 1, waitW)) := by
            show (if r.2 < sd.1 ∧ c.fu = Str.ofString "refuse" then none else if r.1 = endW then some (r, (r.2 - 1, waitW)) else _) = _
            rw [if_neg nc, if_neg e]
          rw [mv] at k
          refine ⟨_, rfl, _, rfl, t, _, _, _, rfl, rfl, SqT.of ht, atI_nat (j := 1) rfl, _, rfl, rfl, _, rfl, ?_⟩
          refine ite2 (fun e2 => ?_) (fun e2 => ?_)
          · have e2 : r.2 = ms.length := Int.ofNat.inj (V.int.inj (of_decide_eq_true e2))
            rw [if_pos e2] at k
            refine ⟨_, rfl, (by show 2 ≤ sizeLine; decide), fun T1 h1 => ?_⟩
            have sT : Same H1 (upd H1 T1 (.tup [.int ((ms.length : Nat) : Int), .str (Str.ofString "body")])) := (Same.refl H1).upd h1
            have g1 : upd H1 T1 (.tup [.int ((ms.length : Nat) : Int), .str (Str.ofString "body")]) T1 = some (.tup [.int ((ms.length : Nat) : Int), .str (Str.ofString "body")]) := upd_same
            refine ⟨(by show 2 ≤ sizeLine; decide), fun T2 h2 => ?_⟩
            have sT2 := sT.upd (sT.none h2) (o := .tup [.ref t, .ref T1])
            refine k _ _ (s1.trans sT2) ⟨T2, .ref t, .ref T1, rfl, upd_same, ⟨t, rfl, SqT.of (sT2 _ _ ht)⟩, ⟨T1, rfl, SqT.of ?_⟩⟩
            rw [upd_ne (ne_of_none g1 h2), g1]
            rfl
          · have e2 : ¬ r.2 = ms.length := fun h => e2 (decide_eq_true (by rw [h]))
            rw [if_neg e2] at k
            refine ⟨_, rfl, t, _, _, _, rfl, rfl, SqT.of ht, atI_nat (j := 1) rfl, _, _, rfl, rfl, (by show 2 ≤ sizeLine; decide), fun T1 h1 => ?_⟩
            have sT : Same H1 (upd H1 T1 (.tup [.int (((r.2 : Nat) : Int) + 1), .str (Str.ofString "wait")])) := (Same.refl H1).upd h1
            have g1 : upd H1 T1 (.tup [.int (((r.2 : Nat) : Int) + 1), .str (Str.ofString "wait")]) T1 = some (.tup [.int (((r.2 : Nat) : Int) + 1), .str (Str.ofString "wait")]) := upd_same
            refine ⟨(by show 2 ≤ sizeLine; decide), fun T2 h2 => ?_⟩
            have sT2 := sT.upd (sT.none h2) (o := .tup [.ref t, .ref T1])
            refine k _ _ (s1.trans sT2) ⟨T2, .ref t, .ref T1, rfl, upd_same, ⟨t, rfl, SqT.of (sT2 _ _ ht)⟩, ⟨T1, rfl, SqT.of ?_⟩⟩
            rw [upd_ne (ne_of_none g1 h2), g1]
            rfl
end
end K68
namespace K68
open PySem PySem.Spec PyProof.Rows L2 FL
def HeardAt (K : PySem.W.Frag) (H H' : Hp) (v : V) : Option (List Ro) → Prop
  | none => v = .non
  | some rs => ∃ L ts, v = .ref L ∧ H L = none ∧ H' L = some (.lst ts) ∧ Paired (RoAt K H') ts rs
def spLTold (K : PySem.W.Frag) : Sp := fun vs H Q _ => ∃ (d : Addr) (z : Str) (ms : List Str) (tl : Str) (c : Cares) (m : Addr) (ys : List Str), vs = [.ref d, .ref m] ∧ ModelAt H d z ms tl c ∧ RdOk z ms tl c ∧ MsgAt H m false ys ∧ MsgOk z ys ∧
  ∀ (H' : Hp) (T S : Addr) (hv : V) (xs : List V), Same H H' → H' T = some (.tup [hv, .ref S]) → H S = none → H' S = some (.lst xs) → Paired (SdAt K H') xs (standsL ms tl c ys) → HeardAt K H H' hv (tellingL ms tl c ys) → Q (.ref T) H'
theorem finish_ok {z : Str} {c : Cares} (h : CaresOk z c) : c.fi = Str.ofString "refuse" ∨ c.fi = Str.ofString "close" := by
  rcases h.all (Str.ofString "finish", c.fi) (by unfold caresL; exact List.mem_cons_of_mem _ (List.mem_cons_of_mem _ (List.mem_cons_of_mem _ List.mem_cons_self))) with ⟨e, _⟩ | ⟨e, _⟩ | ⟨e, _⟩ | ⟨_, h⟩
  · exact absurd (show Str.ofString "finish" = Str.ofString "sight" from e) (by decide +kernel)
  · exact absurd (show Str.ofString "finish" = Str.ofString "order" from e) (by decide +kernel)
  · exact absurd (show Str.ofString "finish" = Str.ofString "further" from e) (by decide +kernel)
  · exact h
theorem goL_zero {ms : List Str} {tl : Str} {c : Cares} {s : Sd} {ys : List Str} : goL ms tl c s (ys.take 0) = [] := by
  rw [List.take_zero]
  rfl
section
variable {P : Program} {w : World} {K : PySem.W.Frag} {mg : Str → Option Value} {base : Heap}
abbrev nLTold : List Str := ["_law_model_here", "_law_mail_here", "_law_heard", "_law_trail", "_law_line_here", "_law_move_here"]
theorem scLTold : FnScope nLTold ["_law_model_here", "_law_mail_here"] (defScope sLTold) := ⟨rfl, rfl, rfl, by decide +kernel, rfl, by decide +kernel, by decide +kernel⟩
theorem ok_ltold {f : Addr} {fd : FuncData} (F : Fun K "_law_told" "_law_told" sLTold f fd) (cM : Ca P w K mg base "_law_move" 4 ["_law_model_here", "_law_here", "_law_line_here"] (spLMove K)) :
    FnOk P w K mg base CX0 5 f fd ["_law_model_here", "_law_mail_here"] (spLTold K) := by
  refine F.ok scLTold (fun vs H Q E h => ?_) (fun cdv A outer s H vs Q E hr h => ?_)
  · obtain ⟨_, _, _, _, _, _, _, rfl, _⟩ := h
    rfl
  · obtain ⟨d, z, ms, tl, c, m, ys, rfl, mo, om, hm, ok, k⟩ := h
    have nd := scLTold.nd
    have hu := hu_of hr
    have sz : sizeLine = 16777216 := rfl
    refine ⟨_, pss_cons (ps_par (i := 2) (j := 3) (by rfl) nd rfl rfl (by decide) rfl rfl (pa_cons (pe_lst pa_nil) (pa_cons (pe_lst (pa_cons (pe_tup (pa_cons pe_int (pa_cons pe_str pa_nil))) pa_nil)) pa_nil)) (by rfl))
      (pss_cons (ps_for PassesOwn.never rfl (pi_list (pv 1)) (pg_name (i := 4) nd rfl (.inl rfl))
        (pss_cons (ps_set (i := 5) nd rfl (.inl rfl) (pe_ca cM hr (by rfl) (pa_cons (pv 0) (pa_cons (pe_ix ix_list (pv 3) (pe_un un_neg pe_int) (fun _ _ => rfl)) (pa_cons (pv 4) pa_nil)))))
        (pss_cons (ps_if (pt_cmpR op_isN (pv 5) pe_non (nomark _)) (pss_one (ps_ret (pe_tup (pa_cons pe_non (pa_cons (pv 3) pa_nil))))) pss_nil)
        (pss_cons (ps_expr (pe_bm PySem.F.plainAttrs_list PySem.F.slot_list_append PySem.F.type_list_append mtAppend (pv 2) (pa_cons (pe_ix ix_tup (pv 5) pe_int (fun _ _ => rfl)) pa_nil)))
        (pss_one (ps_expr (pe_bm PySem.F.plainAttrs_list PySem.F.slot_list_append PySem.F.type_list_append mtAppend (pv 3) (pa_cons (pe_ix ix_tup (pv 5) pe_int (fun _ _ => rfl)) pa_nil))))))))
      (pss_cons (ps_if (PW.pt (pw_and (pt_cmpR op_eq (pe_dget hu (pv 0) pe_str (fun _ _ => rfl)) pe_str (nomark _)) (pw_and1 (pt_cmpR (op_neD hr.units) (pe_ix ix_list (pv 3) (pe_un un_neg pe_int) (fun _ _ => rfl)) (pe_tup (pa_cons pe_int (pa_cons pe_str pa_nil))) (nomark _)))))
        (pss_one (ps_ret (pe_tup (pa_cons pe_non (pa_cons (pv 3) pa_nil))))) pss_nil)
      (pss_one (ps_ret (pe_tup (pa_cons (pv 2) (pa_cons (pv 3) pa_nil))))))), ?_⟩
    refine ⟨by decide, fun L hL0 => ?_⟩
    have sL : Same H (upd H L (.lst [])) := (Same.refl H).upd hL0
    have gL0 : upd H L (.lst []) L = some (.lst []) := upd_same
    generalize upd H L (.lst []) = Ha at sL gL0 ⊢
    refine ⟨(by show 2 ≤ sizeLine; decide), fun T0 hT0 => ?_⟩
    have sT : Same Ha (upd Ha T0 (.tup [.int 1, .str (Str.ofString "wait")])) := (Same.refl Ha).upd hT0
    have gT0 : upd Ha T0 (.tup [.int 1, .str (Str.ofString "wait")]) T0 = some (.tup [.int 1, .str (Str.ofString "wait")]) := upd_same
    generalize upd Ha T0 (.tup [.int 1, .str (Str.ofString "wait")]) = Hb at sT gT0 ⊢
    refine ⟨(by show 1 ≤ sizeLine; decide), fun S hSb => ?_⟩
    have sS : Same Hb (upd Hb S (.lst [.ref T0])) := (Same.refl Hb).upd hSb
    have gS1 : upd Hb S (.lst [.ref T0]) S = some (.lst [.ref T0]) := upd_same
    have hS0 : H S = none := (sL.trans sT).none hSb
    have nSL : S ≠ L := (ne_of_none (sT _ _ gL0) hSb).symm
    generalize upd Hb S (.lst [.ref T0]) = H1 at sS gS1 ⊢
    refine ⟨_, _, rfl, ?_⟩
    have s0 : Same H H1 := (sL.trans sT).trans sS
    have gL1 : H1 L = some (.lst []) := sS _ _ (sT _ _ gL0)
    have gT1 := sS _ _ gT0
    let G : Nat → List (Ro × Sd) := fun i => goL ms tl c (1, waitW) (ys.take i)
    have G0 : G 0 = [] := goL_zero
    have ok0 : SdOk ms.length (1, waitW) := sd_start om.ms.lo
    have few := ok.few
    refine ⟨_, rfl, m, rfl, ⟨_, SqL.of (s0 _ _ hm)⟩, for_it (walk_list (xs := ys.map V.str)) (fun i σ Hi => ∃ (o4 o5 : Option V) (xs0 : List V) (v : V) (ts : List V) (ss0 : List Sd), σ = [some (.ref d), some (.ref m), some (.ref L), some (.ref S), o4, o5] ∧ Same H Hi ∧ Hi S = some (.lst (xs0 ++ [v])) ∧ Hi L = some (.lst ts)
      ∧ (G i).length = i ∧ Paired (SdAt K Hi) xs0 ss0 ∧ SdAt K Hi v (curL (1, waitW) (G i)) ∧ ss0 ++ [curL (1, waitW) (G i)] = (1, waitW) :: (G i).map Prod.snd ∧ Paired (RoAt K Hi) ts ((G i).map Prod.fst)) ?_ ?_ ?_ ?_⟩
    · refine ⟨none, none, [], .ref T0, [], [], rfl, s0, gS1, gL1, by rw [G0]; rfl, .nil, ?_, by rw [G0]; rfl, by rw [G0]; exact .nil⟩
      rw [G0]
      exact ⟨T0, rfl, SqT.of gT1⟩
    · rintro i σ Hi _ ⟨_, _, _, _, _, _, _, sm, _⟩
      exact SqL.of (sm _ _ hm)
    · rintro i x σ Hi H'' hi ⟨o4, o5, xs0, v, ts, ss0, rfl, sm, gS, gL, lg, hx, hv, es, ht⟩ ⟨rfl, hxx⟩
      have hi2 : i < ys.length := by rw [List.length_map] at hi; exact hi
      have hy : ys[i]? = some ys[i] := List.getElem?_eq_getElem hi2
      generalize ys[i] = y at hy
      have hmem := List.mem_of_getElem? hy
      rw [List.getElem?_map, hy] at hxx
      obtain rfl : V.str y = x := Option.some.inj hxx
      have lts := paired_len ht
      rw [List.length_map, lg] at lts
      have lxs := paired_len hx
      have les := congrArg List.length es
      rw [List.length_append] at les
      have les : ss0.length + 1 = ((G i).map Prod.snd).length + 1 := les
      rw [List.length_map, lg] at les
      refine ⟨_, rfl, _, rfl, _, rfl, S, _, _, v, rfl, rfl, SqL.of gS, atI_last xs0 v, _, rfl, ?_⟩
      refine ⟨d, z, ms, tl, c, v, curL (1, waitW) (G i), y, rfl, mo.same sm, om, hv, cur_ok ok0, ok.ln y hmem, fun v' H2 s2 hT => ?_⟩
      have gS2 := s2 _ _ gS
      have gL2 := s2 _ _ gL
      refine ⟨_, rfl, rfl, _, rfl, ?_⟩
      cases em : moveL ms tl c (curL (1, waitW) (G i)) y with
      | none =>
        rw [em] at hT
        obtain rfl : v' = .non := hT
        refine iteYes rfl ?_
        refine ⟨_, rfl, (by show 2 ≤ sizeLine; decide), fun T hT0 => ?_⟩
        have sT : Same H2 (upd H2 T (.tup [.non, .ref S])) := (Same.refl H2).upd hT0
        have nl := NL.same (s2.trans sT)
        have eg : goL ms tl c (1, waitW) ys = G i := go_none hy lg em
        refine k _ T S .non (xs0 ++ [v]) ((sm.trans s2).trans sT) upd_same hS0 (sT _ _ gS2) ?_ ?_
        · unfold standsL
          rw [eg, ← es]
          exact paired_snoc (Sds.imp nl hx) (SdAt.imp nl hv)
        · have : tellingL ms tl c ys = none := by
            unfold tellingL tellsL
            refine if_pos (.inl ?_)
            rw [List.length_map, eg, lg]
            exact hi2
          rw [this]
          rfl
      | some q =>
        rw [em] at hT
        obtain ⟨r, s'⟩ := q
        obtain ⟨t, a, b', rfl, et, ha, hb⟩ := hT
        refine iteNot (fun e => by cases e) ?_
        have e4 : G (i + 1) = G i ++ [(r, s')] := go_some hy lg em
        have ntL : t ≠ L := ne_of et gL2 (by intro q; cases q)
        refine ⟨_, rfl, .inl ⟨rfl, _, SqL.of gL2⟩, _, rfl, t, _, _, a, rfl, rfl, SqT.of et, rfl, L, ts, _, rfl, rfl, gL2, by rw [sz]; omega, ?_⟩
        have gS3 : upd H2 L (.lst (ts ++ [a])) S = some (.lst (xs0 ++ [v])) := by rw [upd_ne nSL]; exact gS2
        have et3 : upd H2 L (.lst (ts ++ [a])) t = some (.tup [a, b']) := by rw [upd_ne ntL]; exact et
        refine ⟨_, rfl, .inl ⟨rfl, _, SqL.of gS3⟩, _, rfl, t, _, _, b', rfl, rfl, SqT.of et3, rfl, S, xs0 ++ [v], _, rfl, rfl, gS3, by rw [List.length_append, sz]; show xs0.length + 1 < _; omega, ?_⟩
        have nl2 : NL H2 (upd (upd H2 L (.lst (ts ++ [a]))) S (.lst ((xs0 ++ [v]) ++ [b']))) := NL.updL (NL.updL (NL.same (Same.refl H2)) gL2) gS3
        have nl := NL.trans (NL.same s2) nl2
        refine ⟨_, _, xs0 ++ [v], b', ts ++ [a], ss0 ++ [curL (1, waitW) (G i)], rfl, (((sm.trans s2).upd hL0).upd hS0), upd_same, by rw [upd_ne (Ne.symm nSL), upd_same], ?_, paired_snoc (Sds.imp nl hx) (SdAt.imp nl hv), ?_, ?_, ?_⟩
        · rw [e4, List.length_append, lg]
          rfl
        · rw [e4, cur_snoc]
          exact SdAt.imp nl2 hb
        · rw [e4, cur_snoc, es, List.map_append]
          rfl
        · rw [e4, List.map_append]
          exact paired_snoc (paired_imp ht fun _ _ q => RoAt.imp nl q) (RoAt.imp nl2 ha)
    · rintro σ Hi ⟨o4, o5, xs0, v, ts, ss0, rfl, sm, gS, gL, lg, hx, hv, es, ht⟩
      have eg : goL ms tl c (1, waitW) ys = G (ys.map V.str).length := by
        show _ = goL ms tl c (1, waitW) (ys.take (ys.map V.str).length)
        rw [List.length_map, List.take_length]
      rw [← eg] at hv es ht
      rw [← eg, List.length_map] at lg
      have okc : SdOk ms.length (curL (1, waitW) (goL ms tl c (1, waitW) ys)) := cur_ok ok0
      have ecur : lastL ms tl c ys = curL (1, waitW) (goL ms tl c (1, waitW) ys) := by
        unfold lastL standsL curL
        rw [List.getLastD_cons]
      have full : ¬ (tellsL ms tl c ys).length < ys.length := by
        unfold tellsL
        rw [List.length_map, lg]
        exact Nat.lt_irrefl _
      have fin : ∀ (H' : Hp) (T : Addr) (hv' : V), Same Hi H' → H' T = some (.tup [hv', .ref S]) → HeardAt K H H' hv' (tellingL ms tl c ys) → Q (.ref T) H' := fun H' T hv' sI gT hh => by
        have nl := NL.same sI
        refine k H' T S hv' (xs0 ++ [v]) (sm.trans sI) gT hS0 (sI _ _ gS) ?_ hh
        unfold standsL
        rw [← es]
        exact paired_snoc (Sds.imp nl hx) (SdAt.imp nl hv)
      have heard : ∀ (H' : Hp), Same Hi H' → ¬ (c.fi = Str.ofString "refuse" ∧ curL (1, waitW) (goL ms tl c (1, waitW) ys) ≠ closedS) → HeardAt K H H' (.ref L) (tellingL ms tl c ys) := fun H' sI nq => by
        have : tellingL ms tl c ys = some (tellsL ms tl c ys) := by
          unfold tellingL
          refine if_neg ?_
          rintro (h | h)
          · exact full h
          · exact nq ⟨h.1, by have := h.2; rw [ecur] at this; exact this⟩
        rw [this]
        exact ⟨L, ts, rfl, hL0, sI _ _ gL, paired_imp ht fun _ _ q => RoAt.imp (NL.same sI) q⟩
      obtain ⟨ma, hd, hma⟩ := mo.same sm
      obtain ⟨tv, rfl, htv⟩ := hv
      refine ⟨_, rfl, d, _, rfl, dget_of hd (model_finish z ma tl c), rfl, _, rfl, ?_⟩
      refine ite2 (fun q => ?_) (fun q => ?_)
      · have e : c.fi = Str.ofString "refuse" := V.str.inj (of_decide_eq_true q)
        refine ⟨_, rfl, _, rfl, S, _, _, .ref tv, rfl, rfl, SqL.of gS, atI_last xs0 _, ?_⟩
        refine ⟨(by show 2 ≤ sizeLine; decide), fun T1 h1 => ?_⟩
        have s1 : Same Hi (upd Hi T1 (.tup [.int 0, .str (Str.ofString "wait")])) := (Same.refl Hi).upd h1
        have g1 : upd Hi T1 (.tup [.int 0, .str (Str.ofString "wait")]) T1 = some (.tup [.int 0, .str (Str.ofString "wait")]) := upd_same
        generalize upd Hi T1 (.tup [.int 0, .str (Str.ofString "wait")]) = Hq at s1 g1 ⊢
        refine ⟨_, _, SqT.dp ((NL.same s1).sqT htv), SqT.dp (s := closedS) (SqT.of g1), pair_shaped _ okc.wd, pair_shaped _ (.inl rfl), _, rfl, ?_⟩
        rw [pair_eq]
        by_cases hc : curL (1, waitW) (goL ms tl c (1, waitW) ys) = closedS
        · rw [decide_eq_true hc]
          refine iteF ?_
          refine ⟨_, rfl, _, rfl, (by show 2 ≤ sizeLine; decide), fun T hT => ?_⟩
          have s2 := s1.upd (s1.none hT) (o := .tup [.ref L, .ref S])
          exact fin _ T _ s2 upd_same (heard _ s2 fun h => h.2 hc)
        · rw [decide_eq_false hc]
          refine iteT ?_
          refine ⟨_, rfl, (by show 2 ≤ sizeLine; decide), fun T hT => ?_⟩
          have s2 := s1.upd (s1.none hT) (o := .tup [.non, .ref S])
          refine fin _ T _ s2 upd_same ?_
          have : tellingL ms tl c ys = none := by
            unfold tellingL
            exact if_pos (.inr ⟨e, by rw [ecur]; exact hc⟩)
          rw [this]
          rfl
      · have e : ¬ c.fi = Str.ofString "refuse" := fun h => q (decide_eq_true (congrArg V.str h))
        refine iteF ?_
        refine ⟨_, rfl, _, rfl, (by show 2 ≤ sizeLine; decide), fun T hT => ?_⟩
        have s2 := (Same.refl Hi).upd hT (o := .tup [.ref L, .ref S])
        exact fin _ T _ s2 upd_same (heard _ s2 fun h => e h.1)
end
end K68
namespace K68
open PySem PySem.Spec PyProof.Rows L2 FL
abbrev sRows : Stmt := topS 87
abbrev sWritten : Stmt := topS 88
abbrev sOwnT : Stmt := topS 89
section
variable {P : Program} {w : World} {K : PySem.W.Frag} {mg : Str → Option Value} {base : Heap}
theorem row_add {H0 H : Hp} {D T1 T2 T3 : Addr} {xs : List V} {qs : List (Str × Ro)} {o1 : HO} {y : Str} {r : Ro} (hx : Paired (RowAt K H) xs qs) (hD : H D = some (.lst xs)) (s : Same H0 H) (hD0 : H0 D = none)
    (h1 : H T1 = none) (h2 : upd H T1 o1 T2 = none) (h3 : upd (upd H T1 o1) T2 (.tup [.str r.1, .int ((r.2 : Nat) : Int)]) T3 = none) :
    upd (upd (upd H T1 o1) T2 (.tup [.str r.1, .int ((r.2 : Nat) : Int)])) T3 (.tup [.str y, .ref T2]) D = some (.lst xs) ∧
    Paired (RowAt K (upd (upd (upd (upd H T1 o1) T2 (.tup [.str r.1, .int ((r.2 : Nat) : Int)])) T3 (.tup [.str y, .ref T2])) D (.lst (xs ++ [.ref T3])))) (xs ++ [.ref T3]) (qs ++ [(y, r)]) ∧
    Same H0 (upd (upd (upd (upd H T1 o1) T2 (.tup [.str r.1, .int ((r.2 : Nat) : Int)])) T3 (.tup [.str y, .ref T2])) D (.lst (xs ++ [.ref T3]))) := by
  have e1 : upd H T1 o1 D = some (.lst xs) := by rw [upd_ne (ne_of_none hD h1)]; exact hD
  have e2 : upd (upd H T1 o1) T2 (.tup [.str r.1, .int ((r.2 : Nat) : Int)]) D = some (.lst xs) := by rw [upd_ne (ne_of_none e1 h2)]; exact e1
  have nD3 : D ≠ T3 := ne_of_none e2 h3
  have e3 : upd (upd (upd H T1 o1) T2 (.tup [.str r.1, .int ((r.2 : Nat) : Int)])) T3 (.tup [.str y, .ref T2]) D = some (.lst xs) := by rw [upd_ne nD3]; exact e2
  have n2 : T2 ≠ T3 := fun q => by
    rw [← q, upd_same] at h3
    cases h3
  have nl : NL H (upd (upd (upd (upd H T1 o1) T2 (.tup [.str r.1, .int ((r.2 : Nat) : Int)])) T3 (.tup [.str y, .ref T2])) D (.lst (xs ++ [.ref T3]))) :=
    NL.updL (NL.upd (NL.upd (NL.upd (NL.same (Same.refl H)) h1) h2) h3) e3
  refine ⟨e3, paired_snoc (Rows.imp nl hx) ⟨T3, .ref T2, rfl, ?_, T2, rfl, SqT.of ?_⟩, ?_⟩
  · rw [upd_ne (Ne.symm nD3), upd_same]
  · have : T2 ≠ D := ne_of_none e1 h2 |>.symm
    rw [upd_ne this, upd_ne n2, upd_same]
  · exact (((s.upd (s.none h1)).upd ((s.upd (s.none h1)).none h2)).upd (((s.upd (s.none h1)).upd ((s.upd (s.none h1)).none h2)).none h3)).upd hD0
end
end K68
namespace K68
open PySem PySem.Spec PyProof.Rows L2 FL
abbrev nRows : List Str := ["reader", "tree", "level", "found", "part", "line"]
theorem scRows : FnScope nRows ["reader", "tree", "level"] (defScope sRows) := ⟨rfl, rfl, rfl, by decide +kernel, rfl, by decide +kernel, by decide +kernel⟩
theorem flat_snoc {α β : Type} {f : α → List β} {l : List α} {i : Nat} {x : α} (h : l[i]? = some x) : (l.take (i + 1)).flatMap f = (l.take i).flatMap f ++ f x := by
  rw [take_snoc h, List.flatMap_append, List.flatMap_singleton]
theorem take_flat_len {α β : Type} {f : α → List β} {n m : Nat} {l : List α} (h : ∀ x ∈ l, (f x).length ≤ n) (hl : l.length ≤ m) (i : Nat) : ((l.take i).flatMap f).length ≤ m * n := by
  have h1 := flat_le (xs := l.take i) (f := f) (n := n) fun x hx => h x (List.mem_of_mem_take hx)
  have h2 : (l.take i).length ≤ m := by rw [List.length_take]; omega
  exact Nat.le_trans h1 (Nat.mul_le_mul_right n h2)
section
variable {P : Program} {w : World} {K : PySem.W.Frag} {mg : Str → Option Value} {base : Heap}
theorem ok_rows0 {f : Addr} {fd : FuncData} (F : Fun K "lines_written" "lines_written" sRows f fd) (R : RdF P w K mg base) {aP : Addr} (mP : mg "PLAIN" = some (.ref aP)) (hP : SqW K aP [.str lineW, .int 0]) :
    FnOk P w K mg base CX0 6 f fd ["reader", "tree", "level"] (spRowsZ K R.C 0) := by
  refine F.ok scRows (fun vs H Q E h => ?_) (fun cdv A outer s H vs Q E hr h => ?_)
  · obtain ⟨_, _, _, _, _, _, _, _, _, rfl, _⟩ := h
    rfl
  · obtain ⟨p, z, ms, tl, c, v, lv, b, t, rfl, ra, om, ot, l1, l2, hb, few, k⟩ := h
    have nd := scRows.nd
    have sz : sizeLine = 16777216 := rfl
    have hr2 := hr.mono (show 2 ≤ 5 by decide)
    refine ⟨_, pss_cons (ps_set (i := 3) nd rfl (.inl rfl) (pe_lst pa_nil))
      (pss_cons (ps_for PassesOwn.never rfl (pi_seqX b (pv 1)) (pg_name (i := 4) nd rfl (.inl rfl))
        (pss_cons (ps_expr (pe_bm PySem.F.plainAttrs_list PySem.F.slot_list_append PySem.F.type_list_append mtAppend (pv 3)
            (pa_cons (pe_tup (pa_cons (pe_meth (pv 0) R.T.cl R.ml R.ol hr R.bl .nil pass0 (pa_cons (pe_tup (pa_cons pe_str (pa_cons (pv 2) pa_nil))) pa_nil)) (pa_cons (pe_tup (pa_cons pe_str (pa_cons (pv 2) pa_nil))) pa_nil))) pa_nil)))
        (pss_one (ps_if (pt_cmpR op_eq (pv 2) (pe_prop (pv 0) R.T.cl R.pd R.od hr2 R.bd .nil pass0 rfl) (nomark _))
          (pss_one (ps_expr (pe_bm PySem.F.plainAttrs_list PySem.F.slot_list_extend PySem.F.type_list_extend mtExtend (pv 3)
            (pa_cons (pe_lc (own := [("line", 5)]) (g := gName 5) (tt := tYes) rfl nd (pi_seqX b (pv 4)) (blkOk_by (N := nRows) (sc := defScope sRows) (by decide +kernel)) (fun _ _ _ _ _ => pg_name (i := 5) nd rfl (Or.inl rfl)) (fun _ _ _ _ _ => pts_nil)
              (fun _ _ _ _ _ => pe_tup (pa_cons (pv 5) (pa_cons (pe_glob (v := .ref aP) rfl mP rfl) pa_nil)))) pa_nil))))
          (pss_one ps_never)))))
      (pss_cons (ps_expr (pe_bm PySem.F.plainAttrs_list PySem.F.slot_list_append PySem.F.type_list_append mtAppend (pv 3)
            (pa_cons (pe_tup (pa_cons (pe_meth (pv 0) R.T.cl R.ml R.ol hr R.bl .nil pass0 (pa_cons (pe_tup (pa_cons pe_str (pa_cons (pv 2) pa_nil))) pa_nil)) (pa_cons (pe_tup (pa_cons pe_str (pa_cons (pv 2) pa_nil))) pa_nil))) pa_nil)))
      (pss_one (ps_ret (pv 3))))), ?_⟩
    obtain ⟨a, xs, rfl, ea, hp⟩ := hb
    refine ⟨by decide, fun D hD => ?_⟩
    have naD : a ≠ D := ne_of_none ea hD
    have s0 : Same H (upd H D (.lst [])) := (Same.refl H).upd hD
    have eD : upd H D (.lst []) D = some (.lst []) := upd_same
    have lx := paired_len hp
    have fl : (kids t).length ≤ 100000 := by have h : (kids t).length + 2 ≤ szB (0 + 2) t := kids_le t; omega
    have tlen := fun i => take_rows_sz (ms := ms) (tl := tl) (lv := lv) (t := t) i
    refine ⟨_, rfl, a, rfl, ⟨_, sqX_of (s0 _ _ ea)⟩, for_it (walk_seqX (xs := xs)) (fun i σ Hi => ∃ (o1 : Option V) (ys : List V), σ = [some (.ref p), some (.ref a), some (.int ((lv : Nat) : Int)), some (.ref D), o1, none] ∧ Same H Hi ∧ Hi D = some (.lst ys)
      ∧ Paired (RowAt K Hi) ys (((kids t).take i).flatMap (gR ms tl 0 lv))) ?_ ?_ ?_ ?_⟩
    · exact ⟨_, [], rfl, s0, eD, .nil⟩
    · rintro i σ Hi _ ⟨_, _, _, sm, _⟩
      exact sqX_of (sm _ _ ea)
    · rintro i x σ Ht Hi hi ⟨o1, ys, rfl, sm, gD, hy⟩ ⟨rfl, hx⟩
      obtain ⟨part, hpt, ex⟩ := L2.paired_get hp hx
      have hmem := List.mem_of_getElem? hpt
      have lys := paired_len hy
      have ty := tlen i
      have rai := ra.same sm
      obtain ⟨dx, fs, ei, no⟩ := reader_insL rai
      refine ⟨_, rfl, .inl ⟨rfl, _, SqL.of gD⟩, _, rfl, p, dx, fs, rfl, ei, no, _, rfl, (by show 2 ≤ sizeLine; decide), fun T1 h1 => ?_⟩
      have ra1 : ReaderAt R.C (upd Hi T1 (.tup [.str (Str.ofString "next"), .int ((lv : Nat) : Int)])) p z ms tl c := rai.same ((Same.refl Hi).upd h1)
      refine ⟨p, z, ms, tl, c, T1, (nextW, lv), rfl, ra1, om, ot, upd_same, ⟨.inl rfl, l1, by show lv ≤ _; omega⟩, ?_⟩
      refine ⟨_, rfl, (by show 2 ≤ sizeLine; decide), fun T2 h2 => ?_⟩
      refine ⟨(by show 2 ≤ sizeLine; decide), fun T3 h3 => ?_⟩
      obtain ⟨e3, hy2, s2⟩ := row_add (y := roLine ms tl (nextW, lv)) (r := (nextW, lv)) (o1 := .tup [.str (Str.ofString "next"), .int ((lv : Nat) : Int)]) hy gD sm hD h1 h2 h3
      refine ⟨D, ys, _, rfl, rfl, e3, (by rw [sz]; omega), ?_⟩
      have gD2 : upd (upd (upd (upd Hi T1 (.tup [.str (Str.ofString "next"), .int ((lv : Nat) : Int)])) T2 (.tup [.str (Str.ofString "next"), .int ((lv : Nat) : Int)])) T3 (.tup [.str (roLine ms tl (nextW, lv)), .ref T2])) D (.lst (ys ++ [.ref T3])) D = some (.lst (ys ++ [.ref T3])) := upd_same
      have hy2 : Paired (RowAt K (upd (upd (upd (upd Hi T1 (.tup [.str (Str.ofString "next"), .int ((lv : Nat) : Int)])) T2 (.tup [.str (Str.ofString "next"), .int ((lv : Nat) : Int)])) T3 (.tup [.str (roLine ms tl (nextW, lv)), .ref T2])) D (.lst (ys ++ [.ref T3])))) (ys ++ [.ref T3]) (((kids t).take i).flatMap (gR ms tl 0 lv) ++ [(roLine ms tl (nextW, lv), (nextW, lv))]) := hy2
      have s2 : Same H (upd (upd (upd (upd Hi T1 (.tup [.str (Str.ofString "next"), .int ((lv : Nat) : Int)])) T2 (.tup [.str (Str.ofString "next"), .int ((lv : Nat) : Int)])) T3 (.tup [.str (roLine ms tl (nextW, lv)), .ref T2])) D (.lst (ys ++ [.ref T3]))) := s2
      generalize upd (upd (upd (upd Hi T1 (.tup [.str (Str.ofString "next"), .int ((lv : Nat) : Int)])) T2 (.tup [.str (Str.ofString "next"), .int ((lv : Nat) : Int)])) T3 (.tup [.str (roLine ms tl (nextW, lv)), .ref T2])) D (.lst (ys ++ [.ref T3])) = H2 at gD2 hy2 s2 ⊢
      have ra2 := ra.same s2
      obtain ⟨dx2, fs2, ei2, _⟩ := reader_insL ra2
      refine ⟨_, rfl, _, rfl, p, dx2, fs2, rfl, ei2, p, z, ms, tl, c, rfl, ra2, rfl, _, rfl, ?_⟩
      refine iteYes (by rw [← l2]; rfl) ?_
      obtain ⟨a2, zs, rfl, ea2, hp2⟩ := ex
      have ea2 := s2 _ _ ea2
      have lz := paired_len hp2
      have fl2 : (kids part).length ≤ 100000 := by have h1 : (kids part).length + 2 ≤ szB (0 + 1) part := kids_le part; have h2 : szB (0 + 1) part + 2 ≤ szB (0 + 2) t := kid_le hmem; omega
      refine ⟨_, rfl, .inl ⟨rfl, _, SqL.of gD2⟩, _, rfl, a2, rfl, ⟨_, sqX_of ea2⟩, fun L hL => ?_⟩
      refine lc_it (walk_seqX (xs := zs)) (fun j Hj => ∃ ws : List V, Same H2 Hj ∧ Hj L = some (.lst ws) ∧ Paired (RowAt K Hj) ws (((kids part).take j).map fun y => (ln y, (lineW, 0)))) ?_ ?_ ?_ ?_
      · exact ⟨[], (Same.refl H2).upd hL, upd_same, .nil⟩
      · rintro j Hj _ ⟨_, sj, _⟩
        exact sqX_of (sj _ _ ea2)
      · rintro j x Ht Hj hj ⟨ws, sj, gL, hw⟩ ⟨rfl, hx2⟩
        obtain ⟨y, hy3, ey⟩ := L2.paired_get hp2 hx2
        obtain rfl : x = .str (ln y) := ey
        have lw := paired_len hw
        rw [List.length_map, List.length_take] at lw
        refine ⟨rfl, _, rfl, (by show 2 ≤ sizeLine; decide), fun T hT => ?_⟩
        have nLT : L ≠ T := ne_of_none gL hT
        refine ⟨ws, by rw [upd_ne nLT]; exact gL, by rw [sz]; omega, ws ++ [.ref T], (sj.upd (sj.none hT)).upd hL, upd_same, ?_⟩
        rw [take_snoc hy3, List.map_append]
        refine paired_snoc (Rows.imp (NL.updL (NL.upd (NL.same (Same.refl Hj)) hT) (by rw [upd_ne nLT]; exact gL)) hw) ⟨T, .ref aP, rfl, ?_, aP, rfl, hP.sqT⟩
        rw [upd_ne (Ne.symm nLT), upd_same]
      · rintro Hj ⟨ws, sj, gL, hw⟩
        have gDj := sj _ _ gD2
        have lw := paired_len hw
        rw [List.length_map, List.length_take] at lw
        have lys' : (ys ++ [V.ref T3]).length = ys.length + 1 := by rw [List.length_append]; rfl
        refine ⟨D, L, _, ws, rfl, rfl, gDj, gL, by rw [lys', sz]; omega, ?_⟩
        refine ⟨_, (ys ++ [V.ref T3]) ++ ws, rfl, (s2.trans sj).upd hD, upd_same, ?_⟩
        have nl : NL Hj (upd Hj D (.lst ((ys ++ [V.ref T3]) ++ ws))) := NL.updL (NL.same (Same.refl Hj)) gDj
        rw [flat_snoc hpt]
        rw [lz, List.take_length] at hw
        have e2 : ((kids t).take i).flatMap (gR ms tl 0 lv) ++ gR ms tl 0 lv part
            = (((kids t).take i).flatMap (gR ms tl 0 lv) ++ [(roLine ms tl (nextW, lv), (nextW, lv))]) ++ rows ms tl 0 (lv + 1) part := by
          rw [List.append_assoc, List.singleton_append]
          rfl
        rw [e2]
        exact paired_app (Rows.imp (NL.trans (NL.same sj) nl) hy2) (Rows.imp nl hw)
    · rintro σ Hi ⟨o1, ys, rfl, sm, gD, hy⟩
      rw [lx, List.take_length] at hy
      have lys := paired_len hy
      have ty := tlen (kids t).length
      rw [List.take_length] at ty
      have rai := ra.same sm
      obtain ⟨dx, fs, ei, no⟩ := reader_insL rai
      refine ⟨_, rfl, .inl ⟨rfl, _, SqL.of gD⟩, _, rfl, p, dx, fs, rfl, ei, no, _, rfl, (by show 2 ≤ sizeLine; decide), fun T1 h1 => ?_⟩
      have ra1 : ReaderAt R.C (upd Hi T1 (.tup [.str (Str.ofString "end"), .int ((lv : Nat) : Int)])) p z ms tl c := rai.same ((Same.refl Hi).upd h1)
      refine ⟨p, z, ms, tl, c, T1, (endW, lv), rfl, ra1, om, ot, upd_same, ⟨.inr rfl, l1, by show lv ≤ _; omega⟩, ?_⟩
      refine ⟨_, rfl, (by show 2 ≤ sizeLine; decide), fun T2 h2 => ?_⟩
      refine ⟨(by show 2 ≤ sizeLine; decide), fun T3 h3 => ?_⟩
      obtain ⟨e3, hy2, s2⟩ := row_add (y := roLine ms tl (endW, lv)) (r := (endW, lv)) (o1 := .tup [.str (Str.ofString "end"), .int ((lv : Nat) : Int)]) hy gD sm hD h1 h2 h3
      refine ⟨D, ys, _, rfl, rfl, e3, (by rw [sz]; omega), ?_⟩
      exact ⟨_, rfl, k _ D _ s2 hD upd_same hy2⟩
end
end K68
namespace K68
open PySem PySem.Spec PyProof.Rows L2 FL
theorem Ros.imp {K : PySem.W.Frag} {H H' : Hp} {xs : List V} {qs : List Ro} (s : NL H H') (h : Paired (RoAt K H) xs qs) : Paired (RoAt K H') xs qs := paired_imp h fun _ _ ⟨t, e, q⟩ => ⟨t, e, s.sqT q⟩
section
variable {P : Program} {w : World} {K : PySem.W.Frag} {mg : Str → Option Value} {base : Heap}
theorem ok_rowsS {f : Addr} {fd : FuncData} {n : Nat} (F : Fun K "lines_written" "lines_written" sRows f fd) (R : RdF P w K mg base) (bF : Binds K fd ["reader", "tree", "level"] []) (mF : mg "lines_written" = some (.ref f))
    (ih : FnOk P w K mg base CX0 (6 + n) f fd ["reader", "tree", "level"] (spRowsZ K R.C n)) :
    FnOk P w K mg base CX0 (6 + n + 1) f fd ["reader", "tree", "level"] (spRowsZ K R.C (n + 1)) := by
  refine F.ok scRows (fun vs H Q E h => ?_) (fun cdv A outer s H vs Q E hr h => ?_)
  · obtain ⟨_, _, _, _, _, _, _, _, _, rfl, _⟩ := h
    rfl
  · obtain ⟨p, z, ms, tl, c, v, lv, b, t, rfl, ra, om, ot, l1, l2, hb, few, k⟩ := h
    have nd := scRows.nd
    have sz : sizeLine = 16777216 := rfl
    have hr2 := hr.mono (show 2 ≤ 6 + n by omega)
    have hr5 := hr.mono (show 5 ≤ 6 + n by omega)
    refine ⟨_, pss_cons (ps_set (i := 3) nd rfl (.inl rfl) (pe_lst pa_nil))
      (pss_cons (ps_for PassesOwn.never rfl (pi_seqX b (pv 1)) (pg_name (i := 4) nd rfl (.inl rfl))
        (pss_cons (ps_expr (pe_bm PySem.F.plainAttrs_list PySem.F.slot_list_append PySem.F.type_list_append mtAppend (pv 3)
            (pa_cons (pe_tup (pa_cons (pe_meth (pv 0) R.T.cl R.ml R.ol hr5 R.bl .nil pass0 (pa_cons (pe_tup (pa_cons pe_str (pa_cons (pv 2) pa_nil))) pa_nil)) (pa_cons (pe_tup (pa_cons pe_str (pa_cons (pv 2) pa_nil))) pa_nil))) pa_nil)))
        (pss_one (ps_if (pt_cmpR op_eq (pv 2) (pe_prop (pv 0) R.T.cl R.pd R.od hr2 R.bd .nil pass0 rfl) (nomark _))
          (pss_one ps_never)
          (pss_one (ps_expr (pe_bm PySem.F.plainAttrs_list PySem.F.slot_list_extend PySem.F.type_list_extend mtExtend (pv 3)
            (pa_cons (pe_call ih hr (by rfl) mF F.kp bF .nil pass0 (pa_cons (pv 0) (pa_cons (pv 4) (pa_cons (pe_op op_add (pv 2) pe_int) pa_nil)))) pa_nil))))))))
      (pss_cons (ps_expr (pe_bm PySem.F.plainAttrs_list PySem.F.slot_list_append PySem.F.type_list_append mtAppend (pv 3)
            (pa_cons (pe_tup (pa_cons (pe_meth (pv 0) R.T.cl R.ml R.ol hr5 R.bl .nil pass0 (pa_cons (pe_tup (pa_cons pe_str (pa_cons (pv 2) pa_nil))) pa_nil)) (pa_cons (pe_tup (pa_cons pe_str (pa_cons (pv 2) pa_nil))) pa_nil))) pa_nil)))
      (pss_one (ps_ret (pv 3))))), ?_⟩
    obtain ⟨a, xs, rfl, ea, hp⟩ := hb
    refine ⟨by decide, fun D hD => ?_⟩
    have naD : a ≠ D := ne_of_none ea hD
    have s0 : Same H (upd H D (.lst [])) := (Same.refl H).upd hD
    have eD : upd H D (.lst []) D = some (.lst []) := upd_same
    have lx := paired_len hp
    have fl : (kids t).length ≤ 100000 := by have h : (kids t).length + 2 ≤ szB (n + 1 + 2) t := kids_le t; omega
    have tlen := fun i => take_rows_sz (ms := ms) (tl := tl) (lv := lv) (t := t) i
    refine ⟨_, rfl, a, rfl, ⟨_, sqX_of (s0 _ _ ea)⟩, for_it (walk_seqX (xs := xs)) (fun i σ Hi => ∃ (o1 : Option V) (ys : List V), σ = [some (.ref p), some (.ref a), some (.int ((lv : Nat) : Int)), some (.ref D), o1, none] ∧ Same H Hi ∧ Hi D = some (.lst ys)
      ∧ Paired (RowAt K Hi) ys (((kids t).take i).flatMap (gR ms tl (n + 1) lv))) ?_ ?_ ?_ ?_⟩
    · exact ⟨_, [], rfl, s0, eD, .nil⟩
    · rintro i σ Hi _ ⟨_, _, _, sm, _⟩
      exact sqX_of (sm _ _ ea)
    · rintro i x σ Ht Hi hi ⟨o1, ys, rfl, sm, gD, hy⟩ ⟨rfl, hx⟩
      obtain ⟨part, hpt, ex⟩ := L2.paired_get hp hx
      have hmem := List.mem_of_getElem? hpt
      have lys := paired_len hy
      have ty := tlen i
      have rai := ra.same sm
      obtain ⟨dx, fs, ei, no⟩ := reader_insL rai
      refine ⟨_, rfl, .inl ⟨rfl, _, SqL.of gD⟩, _, rfl, p, dx, fs, rfl, ei, no, _, rfl, (by show 2 ≤ sizeLine; decide), fun T1 h1 => ?_⟩
      have ra1 : ReaderAt R.C (upd Hi T1 (.tup [.str (Str.ofString "next"), .int ((lv : Nat) : Int)])) p z ms tl c := rai.same ((Same.refl Hi).upd h1)
      refine ⟨p, z, ms, tl, c, T1, (nextW, lv), rfl, ra1, om, ot, upd_same, ⟨.inl rfl, l1, by show lv ≤ _; omega⟩, ?_⟩
      refine ⟨_, rfl, (by show 2 ≤ sizeLine; decide), fun T2 h2 => ?_⟩
      refine ⟨(by show 2 ≤ sizeLine; decide), fun T3 h3 => ?_⟩
      obtain ⟨e3, hy2, s2⟩ := row_add (y := roLine ms tl (nextW, lv)) (r := (nextW, lv)) (o1 := .tup [.str (Str.ofString "next"), .int ((lv : Nat) : Int)]) hy gD sm hD h1 h2 h3
      refine ⟨D, ys, _, rfl, rfl, e3, (by rw [sz]; omega), ?_⟩
      have gD2 : upd (upd (upd (upd Hi T1 (.tup [.str (Str.ofString "next"), .int ((lv : Nat) : Int)])) T2 (.tup [.str (Str.ofString "next"), .int ((lv : Nat) : Int)])) T3 (.tup [.str (roLine ms tl (nextW, lv)), .ref T2])) D (.lst (ys ++ [.ref T3])) D = some (.lst (ys ++ [.ref T3])) := upd_same
      have hy2 : Paired (RowAt K (upd (upd (upd (upd Hi T1 (.tup [.str (Str.ofString "next"), .int ((lv : Nat) : Int)])) T2 (.tup [.str (Str.ofString "next"), .int ((lv : Nat) : Int)])) T3 (.tup [.str (roLine ms tl (nextW, lv)), .ref T2])) D (.lst (ys ++ [.ref T3])))) (ys ++ [.ref T3]) (((kids t).take i).flatMap (gR ms tl (n + 1) lv) ++ [(roLine ms tl (nextW, lv), (nextW, lv))]) := hy2
      have s2 : Same H (upd (upd (upd (upd Hi T1 (.tup [.str (Str.ofString "next"), .int ((lv : Nat) : Int)])) T2 (.tup [.str (Str.ofString "next"), .int ((lv : Nat) : Int)])) T3 (.tup [.str (roLine ms tl (nextW, lv)), .ref T2])) D (.lst (ys ++ [.ref T3]))) := s2
      generalize upd (upd (upd (upd Hi T1 (.tup [.str (Str.ofString "next"), .int ((lv : Nat) : Int)])) T2 (.tup [.str (Str.ofString "next"), .int ((lv : Nat) : Int)])) T3 (.tup [.str (roLine ms tl (nextW, lv)), .ref T2])) D (.lst (ys ++ [.ref T3])) = H2 at gD2 hy2 s2 ⊢
      have ra2 := ra.same s2
      obtain ⟨dx2, fs2, ei2, _⟩ := reader_insL ra2
      refine ⟨_, rfl, _, rfl, p, dx2, fs2, rfl, ei2, p, z, ms, tl, c, rfl, ra2, rfl, _, rfl, ?_⟩
      refine iteNot (fun e => by have := V.int.inj e; omega) ?_
      refine ⟨_, rfl, .inl ⟨rfl, _, SqL.of gD2⟩, _, rfl, _, rfl, _, rfl, _, _, rfl, rfl, ?_⟩
      refine ⟨p, z, ms, tl, c, x, lv + 1, b, part, rfl, ra2, om, ot, by omega, by omega, BuAt.same s2 ex, (by have h : szB (n + 1 + 1) part + 2 ≤ szB (n + 1 + 2) t := kid_le hmem; exact Nat.le_trans (Nat.le_of_add_right_le h) few), fun Hj L ws sj hL0 gL hw => ?_⟩
      · have lw := paired_len hw
        have hc := rows_sz (ms := ms) (tl := tl) (lv := lv + 1) (t := part)
        have hc2 : szB (n + 1 + 1) part + 2 ≤ szB (n + 1 + 2) t := kid_le hmem
        have gDj := sj _ _ gD2
        have lys' : (ys ++ [V.ref T3]).length = ys.length + 1 := by rw [List.length_append]; rfl
        refine ⟨D, L, _, ws, rfl, rfl, gDj, gL, by rw [lys', sz]; omega, ?_⟩
        refine ⟨_, (ys ++ [V.ref T3]) ++ ws, rfl, (s2.trans sj).upd hD, upd_same, ?_⟩
        have nl : NL Hj (upd Hj D (.lst ((ys ++ [V.ref T3]) ++ ws))) := NL.updL (NL.same (Same.refl Hj)) gDj
        rw [flat_snoc hpt]
        have e2 : ((kids t).take i).flatMap (gR ms tl (n + 1) lv) ++ gR ms tl (n + 1) lv part
            = (((kids t).take i).flatMap (gR ms tl (n + 1) lv) ++ [(roLine ms tl (nextW, lv), (nextW, lv))]) ++ rows ms tl (n + 1) (lv + 1) part := by
          rw [List.append_assoc, List.singleton_append]
          rfl
        rw [e2]
        exact paired_app (Rows.imp (NL.trans (NL.same sj) nl) hy2) (Rows.imp nl hw)
    · rintro σ Hi ⟨o1, ys, rfl, sm, gD, hy⟩
      rw [lx, List.take_length] at hy
      have lys := paired_len hy
      have ty := tlen (kids t).length
      rw [List.take_length] at ty
      have rai := ra.same sm
      obtain ⟨dx, fs, ei, no⟩ := reader_insL rai
      refine ⟨_, rfl, .inl ⟨rfl, _, SqL.of gD⟩, _, rfl, p, dx, fs, rfl, ei, no, _, rfl, (by show 2 ≤ sizeLine; decide), fun T1 h1 => ?_⟩
      have ra1 : ReaderAt R.C (upd Hi T1 (.tup [.str (Str.ofString "end"), .int ((lv : Nat) : Int)])) p z ms tl c := rai.same ((Same.refl Hi).upd h1)
      refine ⟨p, z, ms, tl, c, T1, (endW, lv), rfl, ra1, om, ot, upd_same, ⟨.inr rfl, l1, by show lv ≤ _; omega⟩, ?_⟩
      refine ⟨_, rfl, (by show 2 ≤ sizeLine; decide), fun T2 h2 => ?_⟩
      refine ⟨(by show 2 ≤ sizeLine; decide), fun T3 h3 => ?_⟩
      obtain ⟨e3, hy2, s2⟩ := row_add (y := roLine ms tl (endW, lv)) (r := (endW, lv)) (o1 := .tup [.str (Str.ofString "end"), .int ((lv : Nat) : Int)]) hy gD sm hD h1 h2 h3
      refine ⟨D, ys, _, rfl, rfl, e3, (by rw [sz]; omega), ?_⟩
      exact ⟨_, rfl, k _ D _ s2 hD upd_same hy2⟩
theorem ok_rows {f : Addr} {fd : FuncData} (F : Fun K "lines_written" "lines_written" sRows f fd) (R : RdF P w K mg base) (bF : Binds K fd ["reader", "tree", "level"] []) (mF : mg "lines_written" = some (.ref f)) {aP : Addr} (mP : mg "PLAIN" = some (.ref aP)) (hP : SqW K aP [.str lineW, .int 0]) :
    ∀ n, FnOk P w K mg base CX0 (6 + n) f fd ["reader", "tree", "level"] (spRowsZ K R.C n)
  | 0 => ok_rows0 F R mP hP
  | n + 1 => ok_rowsS F R bF mF (ok_rows F R bF mF mP hP n)
theorem scWritten : FnScope ["reader", "tree", "line", "_"] ["reader", "tree"] (defScope sWritten) := ⟨rfl, rfl, rfl, by decide +kernel, rfl, by decide +kernel, by decide +kernel⟩
theorem scOwnT : FnScope ["reader", "tree", "_", "told"] ["reader", "tree"] (defScope sOwnT) := ⟨rfl, rfl, rfl, by decide +kernel, rfl, by decide +kernel, by decide +kernel⟩
theorem ok_written {f : Addr} {fd : FuncData} (F : Fun K "written" "written" sWritten f fd) (R : RdF P w K mg base) (cC : Ca P w K mg base "check_tree" 6 ["signs", "depth", "tree"] spCheckTreeZ) (cR : ∀ n, Ca P w K mg base "lines_written" (6 + n) ["reader", "tree", "level"] (spRowsZ K R.C n)) :
    FnOk P w K mg base CX0 9 f fd ["reader", "tree"] (spWrittenZ R.C) := by
  refine F.ok scWritten (fun vs H Q E h => ?_) (fun cdv A outer s H vs Q E hr h => ?_)
  · obtain ⟨_, _, _, _, _, _, _, _, _, rfl, _⟩ := h
    rfl
  · obtain ⟨p, z, ms, tl, c, v, b, n, t, rfl, ra, om, ot, en, hb, al, few, k⟩ := h
    have nd := scWritten.nd
    have sz : sizeLine = 16777216 := rfl
    have hi := om.hi
    have hr2 := hr.mono (show 2 ≤ 8 by decide)
    refine ⟨_, pss_cons (ps_expr (pe_ca cC (hr.mono (by decide)) (by rfl) (pa_cons (pe_prop (pv 0) R.T.cl R.pr R.og hr2 R.bg .nil pass0 rfl) (pa_cons (pe_prop (pv 0) R.T.cl R.pd R.od hr2 R.bd .nil pass0 rfl) (pa_cons (pv 1) pa_nil)))))
      (pss_one (ps_ret (pe_lc (own := [("line", 2), ("_", 3)]) (g := gTup K 2 (gCons (gName 2) (gCons (gName 3) gNil))) (tt := tYes) rfl nd (pi_list (pe_ca (cR n) (hr.mono (by omega)) (by rfl) (pa_cons (pv 0) (pa_cons (pv 1) (pa_cons pe_int pa_nil)))))
        (blkOk_by (N := ["reader", "tree", "line", "_"]) (sc := defScope sWritten) (by decide +kernel)) (fun _ _ _ _ _ => pg_tup rfl (pgs_cons (pg_name (i := 2) nd rfl (Or.inl rfl)) (pgs_cons (pg_name (i := 3) nd rfl (Or.inl rfl)) pgs_nil))) (fun _ _ _ _ _ => pts_nil)
        (fun _ _ _ _ _ => pv 2)))), ?_⟩
    obtain ⟨dx, fs, ei, no⟩ := reader_insL ra
    refine ⟨_, rfl, p, dx, fs, rfl, ei, p, z, ms, tl, c, rfl, ra, _, rfl, p, dx, fs, rfl, ei, p, z, ms, tl, c, rfl, ra, _, rfl, n + 1, z, v, b, t, (by rw [en]; rfl), by omega, hb, al, few, fun H1 s1 => ?_⟩
    refine ⟨_, rfl, _, rfl, p, z, ms, tl, c, v, 1, b, t, rfl, ra.same s1, om, ot, Nat.le_refl _, by omega, BuAt.same s1 hb, few, fun H2 L xs s2 hL0 hL hx => ?_⟩
    have lx := paired_len hx
    have hc : (rows ms tl (n + 1) 1 t).length + 1 ≤ szB (n + 2) t := rows_sz (ms := ms) (tl := tl) (k := n + 1) (lv := 1) (t := t)
    refine ⟨L, rfl, ⟨_, SqL.of hL⟩, fun D hD => ?_⟩
    refine lc_it (walk_list (xs := xs)) (fun j Hj => Same H2 Hj ∧ Hj D = some (.lst ((((rows ms tl (n + 1) 1 t).take j).map Prod.fst).map V.str))) ?_ ?_ ?_ ?_
    · exact ⟨(Same.refl H2).upd hD, upd_same⟩
    · rintro j Hj _ ⟨sj, _⟩
      exact SqL.of (sj _ _ hL)
    · rintro j x Ht Hj hj ⟨sj, gD⟩ ⟨rfl, hx2⟩
      obtain ⟨q, hq, a, u, rfl, ha, _⟩ := L2.paired_get hx hx2
      refine ⟨a, _, rfl, SqT.of (sj _ _ ha), rfl, _, _, rfl, _, _, rfl, rfl, rfl, ?_⟩
      refine ⟨_, rfl, _, gD, ?_, sj.upd hD, ?_⟩
      · rw [List.length_map, List.length_map, List.length_take, sz]
        omega
      · rw [upd_same, take_snoc hq, List.map_append, List.map_append]
        rfl
    · rintro Hj ⟨sj, gD⟩
      rw [lx, List.take_length] at gD
      have s12 := s1.trans s2
      exact k Hj D (s12.trans sj) (s12.none hD) gD
theorem ok_ownt {f : Addr} {fd : FuncData} (F : Fun K "own_telling" "own_telling" sOwnT f fd) (R : RdF P w K mg base) (cC : Ca P w K mg base "check_tree" 6 ["signs", "depth", "tree"] spCheckTreeZ) (cR : ∀ n, Ca P w K mg base "lines_written" (6 + n) ["reader", "tree", "level"] (spRowsZ K R.C n)) :
    FnOk P w K mg base CX0 9 f fd ["reader", "tree"] (spOwnTZ K R.C) := by
  refine F.ok scOwnT (fun vs H Q E h => ?_) (fun cdv A outer s H vs Q E hr h => ?_)
  · obtain ⟨_, _, _, _, _, _, _, _, _, rfl, _⟩ := h
    rfl
  · obtain ⟨p, z, ms, tl, c, v, b, n, t, rfl, ra, om, ot, en, hb, al, few, k⟩ := h
    have nd := scOwnT.nd
    have sz : sizeLine = 16777216 := rfl
    have hi := om.hi
    have hr2 := hr.mono (show 2 ≤ 8 by decide)
    refine ⟨_, pss_cons (ps_expr (pe_ca cC (hr.mono (by decide)) (by rfl) (pa_cons (pe_prop (pv 0) R.T.cl R.pr R.og hr2 R.bg .nil pass0 rfl) (pa_cons (pe_prop (pv 0) R.T.cl R.pd R.od hr2 R.bd .nil pass0 rfl) (pa_cons (pv 1) pa_nil)))))
      (pss_one (ps_ret (pe_lc (own := [("_", 2), ("told", 3)]) (g := gTup K 2 (gCons (gName 2) (gCons (gName 3) gNil))) (tt := tYes) rfl nd (pi_list (pe_ca (cR n) (hr.mono (by omega)) (by rfl) (pa_cons (pv 0) (pa_cons (pv 1) (pa_cons pe_int pa_nil)))))
        (blkOk_by (N := ["reader", "tree", "_", "told"]) (sc := defScope sOwnT) (by decide +kernel)) (fun _ _ _ _ _ => pg_tup rfl (pgs_cons (pg_name (i := 2) nd rfl (Or.inl rfl)) (pgs_cons (pg_name (i := 3) nd rfl (Or.inl rfl)) pgs_nil))) (fun _ _ _ _ _ => pts_nil)
        (fun _ _ _ _ _ => pv 3)))), ?_⟩
    obtain ⟨dx, fs, ei, no⟩ := reader_insL ra
    refine ⟨_, rfl, p, dx, fs, rfl, ei, p, z, ms, tl, c, rfl, ra, _, rfl, p, dx, fs, rfl, ei, p, z, ms, tl, c, rfl, ra, _, rfl, n + 1, z, v, b, t, (by rw [en]; rfl), by omega, hb, al, few, fun H1 s1 => ?_⟩
    refine ⟨_, rfl, _, rfl, p, z, ms, tl, c, v, 1, b, t, rfl, ra.same s1, om, ot, Nat.le_refl _, by omega, BuAt.same s1 hb, few, fun H2 L xs s2 hL0 hL hx => ?_⟩
    have lx := paired_len hx
    have hc : (rows ms tl (n + 1) 1 t).length + 1 ≤ szB (n + 2) t := rows_sz (ms := ms) (tl := tl) (k := n + 1) (lv := 1) (t := t)
    refine ⟨L, rfl, ⟨_, SqL.of hL⟩, fun D hD => ?_⟩
    refine lc_it (walk_list (xs := xs)) (fun j Hj => ∃ ys, Same H2 Hj ∧ Hj D = some (.lst ys) ∧ Paired (RoAt K Hj) ys (((rows ms tl (n + 1) 1 t).take j).map Prod.snd)) ?_ ?_ ?_ ?_
    · exact ⟨[], (Same.refl H2).upd hD, upd_same, .nil⟩
    · rintro j Hj _ ⟨_, sj, _⟩
      exact SqL.of (sj _ _ hL)
    · rintro j x Ht Hj hj ⟨ys, sj, gD, hy⟩ ⟨rfl, hx2⟩
      obtain ⟨q, hq, a, u, rfl, ha, tr, rfl, hr'⟩ := L2.paired_get hx hx2
      have ly := paired_len hy
      rw [List.length_map, List.length_take] at ly
      refine ⟨a, _, rfl, SqT.of (sj _ _ ha), rfl, _, _, rfl, _, _, rfl, rfl, rfl, ?_⟩
      refine ⟨_, rfl, _, gD, ?_, ys ++ [.ref tr], sj.upd hD, upd_same, ?_⟩
      · rw [sz]
        omega
      · rw [take_snoc hq, List.map_append]
        have nl : NL Hj (upd Hj D (.lst (ys ++ [.ref tr]))) := NL.updL (NL.same (Same.refl Hj)) gD
        exact paired_snoc (Ros.imp nl hy) ⟨tr, rfl, (NL.trans (NL.same sj) nl).sqT hr'⟩
    · rintro Hj ⟨ys, sj, gD, hy⟩
      rw [lx, List.take_length] at hy
      have s12 := s1.trans s2
      exact k Hj D ys (s12.trans sj) (s12.none hD) gD hy
end
end K68
namespace FL
open PySem PySem.Spec PyProof.Rows L2 FL
/-! ### zip of a list and a tuple -/
def ItM (K : PySem.W.Frag) (a b : Addr) : It :=
  ⟨fun i H => ∃ (xs ys : List V) (x y : V), SqL K H a xs ∧ SqT K H b ys ∧ xs[i]? = some x ∧ ys[i]? = some y,
    fun i H v H' => ∃ T x y, v = .ref T ∧ H T = none ∧ H' = upd H T (.tup [x, y]) ∧ (∀ xs, SqL K H a xs → xs[i]? = some x) ∧ ∀ ys, SqT K H b ys → ys[i]? = some y,
    fun i H => ∃ xs ys : List V, SqL K H a xs ∧ SqT K H b ys ∧ i ≤ xs.length ∧ i ≤ ys.length ∧ (i = xs.length ∨ i = ys.length)⟩
theorem turn_zipM {P : Program} {w : World} {K : PySem.W.Frag} {elts : List Expr} {kk : Nat} {tpos : Pos} {a b z TI TO i1 i2 : Addr} (S : ZipSep2 z TI TO i1 i2 [i1, a] [i2, b]) (na : a ≠ i1) (nb : b ≠ i2) :
    Turn P w K (.Tuple elts kk tpos) (ItM K a b) [z, TI, TO, i1, i2] z (fun i h => IsZip h z TI TO .none ∧ IsTupOf2 h TI (.ref i1) (.ref i2) ∧ (∃ x y, IsTupOf2 h TO x y) ∧ h.IsListIter i1 a i ∧ h.IsTupleIter i2 b i) where
  mem := by simp
  obj := fun i h st c hc => by
    obtain ⟨hz, hTI, ⟨x, y, hTO⟩, ⟨o1, e1, _, d1⟩, ⟨o2, e2, _, d2⟩⟩ := st
    have e' : c = z ∨ c = TI ∨ c = TO ∨ c = i1 ∨ c = i2 := by simpa using hc
    rcases e' with q | q | q | q | q
    · rw [q]; exact ⟨_, hz, fun v q => nomatch q⟩
    · rw [q]; exact ⟨_, hTI, fun v q => nomatch q⟩
    · rw [q]; exact ⟨_, hTO, fun v q => nomatch q⟩
    · rw [q]; exact ⟨o1, e1, fun v q => by rw [d1] at q; cases q⟩
    · rw [q]; exact ⟨o2, e2, fun v q => by rw [d2] at q; cases q⟩
  keep := fun i h h' st k => by
    obtain ⟨hz, hTI, ⟨x, y, hTO⟩, h1, h2⟩ := st
    exact ⟨k z (by simp) _ hz, k TI (by simp) _ hTI, ⟨x, y, k TO (by simp) _ hTO⟩, h1.at fun o q => k i1 (by simp) o q, h2.at fun o q => k i2 (by simp) o q⟩
  item := by
    intro X hP hw hK hc i pins s σ H E I hf st hg
    subst hP hw hK
    obtain ⟨hz, hTI, ⟨x0, y0, hTO⟩, h1, h2⟩ := st
    obtain ⟨xs, ys, x, y, hqx, hqy, hx, hy⟩ := hg
    have hh : X.A.in1.handled = none := I.ok.hd hc
    obtain ⟨its, rv, p, _⟩ := I.list hqx
    obtain ⟨its2, rv2, p2, _⟩ := I.tuple hqy
    obtain ⟨u, hu, ru⟩ := rv.get hx
    obtain ⟨u2, hu2, ru2⟩ := rv2.get hy
    have l1 : i < its.toArray.size := by
      obtain ⟨q, _⟩ := List.getElem?_eq_some_iff.mp hu
      simpa using q
    have l2 : i < its2.toArray.size := by
      obtain ⟨q, _⟩ := List.getElem?_eq_some_iff.mp hu2
      simpa using q
    have hzl : z < s.heap.objs.size := Heap.lt_size hz
    refine wpAny_pyNext_zipD2_item S (Draws.list hh i1 a na its.toArray) (Draws.tuple hh i2 b nb its2.toArray) hz hTI hTO ⟨h1, p.isList⟩ ⟨h2, p2⟩ l1 l2 ?_
    rintro v1 v2 h' tk e1 e2 z1 o1 ⟨r1, _⟩ ⟨r2, _⟩ nT sz kp
    obtain rfl : u = v1 := by
      have e1 : its.toArray[i]? = some v1 := e1
      rw [show its.toArray[i]? = its[i]? by simp, hu] at e1
      exact Option.some.inj e1
    obtain rfl : u2 = v2 := by
      have e2 : its2.toArray[i]? = some v2 := e2
      rw [show its2.toArray[i]? = its2[i]? by simp, hu2] at e2
      exact Option.some.inj e2
    refine ⟨_, rfl, wpAny_letOwnedTupleGo_zip (s := { s with heap := h', toks := tk }) z1 fun h3 z2 sb => ?_⟩
    have nT2 : h3.get? s.heap.objs.size = some { cls := .type "tuple", data := .seq #[u, u2] } := (sb.2 _ (Nat.ne_of_gt hzl)).trans nT
    have ok : ObjOk X.prog X.w (upd H s.heap.objs.size (.tup [x, y])) h3 s.heap.objs.size (.tup [x, y]) :=
      ⟨(by show 2 ≤ sizeLine; decide), [u, u2], .cons ru (.cons ru2 .nil), ⟨_, nT2, rfl, _, rfl⟩⟩
    have J := I.turnedNew (t' := tk) (ch := [z, TI, TO, i1, i2]) (h' := h3) (fun c o nc q => (sb.2 c fun q' => nc (by simp [q'])).trans
      (kp c o (fun q' => nc (by simp [q'])) (fun q' => nc (by simp [q'])) (fun q' => nc (by simp [q'])) (fun q' => nc (by simp [q'])) q)) hf (Nat.le_refl _) ok
    refine ⟨.ref s.heap.objs.size, _, J, rfl, ⟨_, x, y, rfl, I.hok.fresh (Nat.le_refl _), rfl, fun l hl => by rw [I.list_inj hl hqx]; exact hx, fun l hl => by rw [I.tuple_inj hl hqy]; exact hy⟩, ⟨z2, ?_, ⟨_, _, (sb.2 _ S.TOz).trans o1⟩, ?_, ?_⟩, ?_⟩
    · exact (sb.2 _ S.TIz).trans (kp _ _ S.TIz S.TITO S.TIi1 S.TIi2 hTI)
    · have zi1 : i1 ≠ z := fun q => S.zf1 (by rw [q]; simp)
      exact r1.at fun o q => (sb.2 _ zi1).trans q
    · have zi2 : i2 ≠ z := fun q => S.zf2 (by rw [q]; simp)
      exact r2.at fun o q => (sb.2 _ zi2).trans q
    · intro c hcm
      have live : ∃ o, s.heap.get? c = some o := by
        have e' : c = z ∨ c = TI ∨ c = TO ∨ c = i1 ∨ c = i2 := by simpa using hcm
        rcases e' with rfl | rfl | rfl | rfl | rfl
        · exact ⟨_, hz⟩
        · exact ⟨_, hTI⟩
        · exact ⟨_, hTO⟩
        · exact ⟨_, h1.choose_spec.1⟩
        · exact ⟨_, h2.choose_spec.1⟩
      obtain ⟨o, e⟩ := live
      rw [upd_ne (Nat.ne_of_lt (Heap.lt_size e))]
      exact (hf c hcm).1
  done := by
    intro X hP hw hK hc i pins s σ H E I hf st hg
    subst hP hw hK
    obtain ⟨hz, hTI, ⟨x0, y0, hTO⟩, h1, h2⟩ := st
    obtain ⟨xs, ys, hqx, hqy, g1, g2, g3⟩ := hg
    have hh : X.A.in1.handled = none := I.ok.hd hc
    obtain ⟨its, rv, p, _⟩ := I.list hqx
    obtain ⟨its2, rv2, p2, _⟩ := I.tuple hqy
    have l1 : its.toArray.size = xs.length := by rw [List.size_toArray]; exact rv.length.symm
    have l2 : its2.toArray.size = ys.length := by rw [List.size_toArray]; exact rv2.length.symm
    refine wpAny_pyNext_zipD2_end S (Draws.list hh i1 a na its.toArray) (Draws.tuple hh i2 b nb its2.toArray) hz hTI hTO ⟨h1, p.isList⟩ ⟨h2, p2⟩ (by omega) (by omega) (by omega) ?_
    intro h' tk kp
    exact ⟨rfl, I.turnedL (t' := tk) (ch := [z, TI, TO, i1, i2]) (fun c o nc q =>
      kp c o (fun q' => nc (by simp [q'])) (fun q' => nc (by simp [q'])) (fun q' => nc (by simp [q'])) (fun q' => nc (by simp [q'])) q) hf⟩
  self := fun A i s Q E st h => wpAny_pyIter_zip st.1 h
def iZipM (K : PySem.W.Frag) (ta : TA) : TI := fun σ H R => ta σ H fun vs H1 => ∃ a b xs ys, vs = [.ref a, .ref b] ∧ SqL K H1 a xs ∧ SqT K H1 b ys ∧ R (ItM K a b) H1
theorem pi_zipM {X : Cx} {e e2 : Expr} {ta : TA} {p pos tpos : Pos} {elts : List Expr} {kk : Nat} (hg : Gl X "zip") (hm : X.mg "zip" = none) (ha : PA X [e, e2] ta)
    (hs : starEach [e, e2] X.env = (false, eval e X.env) :: starEach [e2] X.env := by rfl) (hpl : (backTo pos (starEach [e2] X.env)).any (·.1) = false := by rfl) :
    PI X (.Tuple elts kk tpos) (.Call (.Name "zip" p) [e, e2] [] pos) (iZipM X.K ta) := by
  constructor
  intro pins s σ H R I h
  refine Call_ (ld_blt I hg hm PyProof.Rows.boot_zip (PyProof.Rows.callWith_type1 (thn (ha.run pos pins s σ H _ I h) ?_) hs hpl))
  rintro us s1 ⟨vs, H1, J, r, a, b, xs, ys, rfl, hqx, hqy, q⟩
  obtain ⟨u1, u2, rfl, r1, r2⟩ := vals2 r
  cases r1
  cases r2
  obtain ⟨its, rv, p1, _⟩ := J.list hqx
  obtain ⟨its2, rv2, p2, _⟩ := J.tuple hqy
  obtain ⟨o2, ho2, _⟩ := id p2
  have la : a < s1.heap.objs.size := p1.lt
  have lb : b < s1.heap.objs.size := Heap.lt_size ho2
  refine zip_begins2 (begins_list a its.toArray) (begins_tuple b its2.toArray) p1.isList p2 ?_
  intro h' hz hT hO g1 g2 sz kp
  refine wpAny_pyIter_zip hz ?_
  have J2 : Inv X pins σ H1 { s1 with heap := h' } := J.kept (t' := s1.toks) kp
  refine ⟨_, _, _, ItM X.K a b, H1, rfl, J2, turn_zipM (zip_sep2 (fp1 := [a]) (fp2 := [b]) (fun c z => by rw [List.mem_singleton.mp z]; exact la) (fun c z => by rw [List.mem_singleton.mp z]; exact lb)) (Nat.ne_of_lt la) (Nat.ne_of_lt (Nat.lt_succ_of_lt lb)),
    ⟨hz, hT, ⟨_, _, hO⟩, ⟨_, g1, rfl, rfl⟩, ⟨_, g2, rfl, rfl⟩⟩, fun c hcm => ?_, q⟩
  have hle : s1.heap.objs.size ≤ c := by
    have e' : c = s1.heap.objs.size + 4 ∨ c = s1.heap.objs.size + 2 ∨ c = s1.heap.objs.size + 3 ∨ c = s1.heap.objs.size ∨ c = s1.heap.objs.size + 1 := by
      simpa using hcm
    rcases e' with z | z | z | z | z <;> rw [z] <;> first | exact Nat.le_add_right _ _ | exact Nat.le_refl _
  exact J.fpOk hle (J.hok.fresh hle)
theorem walk_zipM {K : PySem.W.Frag} {a b : Addr} {xs ys : List V} {n : Nat} (hn : n = min xs.length ys.length) : Walk (ItM K a b) n (fun H => SqL K H a xs ∧ SqT K H b ys) (YPair (fun i => xs[i]?) (fun i => ys[i]?)) := by
  subst hn
  refine ⟨fun i _ hi q => ?_, fun _ q => ⟨xs, ys, q.1, q.2, by omega, by omega, by omega⟩, fun i H v H' _ q y => ?_⟩
  · have h1 : i < xs.length := by omega
    have h2 : i < ys.length := by omega
    exact ⟨xs, ys, xs[i], ys[i], q.1, q.2, by simp [h1], by simp [h2]⟩
  · obtain ⟨T, x, z, h1, h2, h3, h4, h5⟩ := y
    exact ⟨T, x, z, h1, h2, h3, h4 xs q.1, h5 ys q.2⟩
/-! ### zip of a list and a list or a tuple -/
def ItMX (K : PySem.W.Frag) (a b : Addr) (t : Bool) : It := if t then ItM K a b else Itz K a b
def iZipX (K : PySem.W.Frag) (t : Bool) (ta : TA) : TI := fun σ H R => ta σ H fun vs H1 => ∃ a b xs ys, vs = [.ref a, .ref b] ∧ SqL K H1 a xs ∧ SqX K H1 b ys t ∧ R (ItMX K a b t) H1
theorem pi_zipX {X : Cx} {e e2 : Expr} {ta : TA} {p pos tpos : Pos} {elts : List Expr} {kk : Nat} (t : Bool) (hg : Gl X "zip") (hm : X.mg "zip" = none) (ha : PA X [e, e2] ta)
    (hs : starEach [e, e2] X.env = (false, eval e X.env) :: starEach [e2] X.env := by rfl) (hpl : (backTo pos (starEach [e2] X.env)).any (·.1) = false := by rfl) :
    PI X (.Tuple elts kk tpos) (.Call (.Name "zip" p) [e, e2] [] pos) (iZipX X.K t ta) := by
  cases t with
  | true => exact pi_zipM hg hm ha hs hpl
  | false => exact pi_zip hg hm ha hs hpl
theorem walk_zipX {K : PySem.W.Frag} {a b : Addr} {xs ys : List V} {t : Bool} {n : Nat} (hn : n = min xs.length ys.length) : Walk (ItMX K a b t) n (fun H => SqL K H a xs ∧ SqX K H b ys t) (YPair (fun i => xs[i]?) (fun i => ys[i]?)) := by
  cases t with
  | true => exact walk_zipM hn
  | false => exact walk_zip hn
end FL
namespace K68
open PySem PySem.Spec PyProof.Rows L2 FL
abbrev sTreeRead : Stmt := topS 92
/-- the three ways of a line -/
theorem move_cases {ms : List Str} {tl : Str} {c : Cares} {s : Sd} {y : Str} {q : Ro × Sd} (h : moveL ms tl c s y = some q) :
    (q.1 = (lineW, 0) ∧ q.2 = s ∧ s.2 = bodyW) ∨ (q.1.1 = endW ∧ 1 ≤ q.1.2 ∧ q.1.2 ≤ s.1 ∧ q.2 = (q.1.2 - 1, waitW)) ∨ (q.1.1 = nextW ∧ 1 ≤ q.1.2 ∧ q.1.2 ≤ s.1 ∧ q.2 = if q.1.2 = ms.length then (ms.length, bodyW) else (q.1.2 + 1, waitW)) := by
  unfold moveL at h
  split at h
  · cases h
  cases e : roleAtL ms tl c y s.1 with
  | none =>
    rw [e] at h
    simp only at h
    split at h
    · rename_i hb
      cases h
      exact .inl ⟨rfl, rfl, hb⟩
    · cases h
  | some r =>
    obtain ⟨h1, h2, h3⟩ := roleAt_ok e
    rw [e] at h
    simp only at h
    split at h
    · cases h
    split at h
    · rename_i he
      cases h
      exact .inr (.inl ⟨he, h2, h3, rfl⟩)
    · rename_i he
      cases h
      refine .inr (.inr ⟨?_, h2, h3, rfl⟩)
      rcases h1 with h1 | h1
      · exact h1
      · exact absurd h1 he
theorem go_at {ms : List Str} {tl : Str} {c : Cares} : ∀ {ys : List Str} {s : Sd} {i : Nat} {q : Ro × Sd}, (goL ms tl c s ys)[i]? = some q → ∃ y, ys[i]? = some y ∧ moveL ms tl c (curL s ((goL ms tl c s ys).take i)) y = some q
  | [], _, _, _, h => nomatch h
  | y :: ys, s, i, q, h => by
    cases e : moveL ms tl c s y with
    | none =>
      rw [go_cons_none e] at h
      cases h
    | some p =>
      rw [go_cons_some e] at h ⊢
      cases i with
      | zero =>
        obtain rfl : p = q := Option.some.inj h
        exact ⟨y, rfl, e⟩
      | succ i =>
        obtain ⟨y', h1, h2⟩ := go_at (ys := ys) (s := p.2) (i := i) h
        refine ⟨y', h1, ?_⟩
        rw [List.take_succ_cons]
        have : curL s (p :: (goL ms tl c p.2 ys).take i) = curL p.2 ((goL ms tl c p.2 ys).take i) := by
          unfold curL
          rw [List.map_cons, List.getLastD_cons]
        rw [this]
        exact h2
theorem cur_cons {s : Sd} {g : List (Ro × Sd)} {i : Nat} {q : Ro × Sd} (h : g[i]? = some q) : curL s (g.take (i + 1)) = q.2 := by
  rw [take_snoc h, cur_snoc]
/-- what is read: a tree of lists of its own -/
def ReadAt (H H' : Hp) (v : V) (n : Nat) (ys : List Str) : Option (List Ro) → Prop
  | none => v = .non
  | some rs => ∃ F, TrF H' (n + 2) v (grownB (n + 1) (rs.zip ys)) F ∧ F.Nodup ∧ ∀ a ∈ F, H a = none
theorem ReadAt.same {H0 H H' : Hp} {v : V} {n : Nat} {ys : List Str} : ∀ {o : Option (List Ro)}, ReadAt H0 H v n ys o → Same H H' → ReadAt H0 H' v n ys o
  | none, h, _ => h
  | some _, ⟨F, h, nd, fr⟩, s => ⟨F, h.keep fun a ha => by
      obtain ⟨xs, e⟩ := h.some a ha
      rw [e]
      exact s _ _ e, nd, fr⟩
def spTreeRead (C : Addr) : Sp := fun vs H Q _ => ∃ (p : Addr) (z : Str) (ms : List Str) (tl : Str) (c : Cares) (m : Addr) (b : Bool) (ys : List Str) (n : Nat), vs = [.ref p, .ref m] ∧ ReaderAt C H p z ms tl c ∧ RdOk z ms tl c ∧ MsgAt H m b ys ∧ MsgOk z ys ∧ ms.length = n + 1 ∧
  ∀ (v : V) (H' : Hp), Same H H' → ReadAt H H' v n ys (tellingL ms tl c ys) → Q v H'
theorem telling_go {ms : List Str} {tl : Str} {c : Cares} {ys : List Str} {rs : List Ro} (h : tellingL ms tl c ys = some rs) : rs = (goL ms tl c (1, waitW) ys).map Prod.fst ∧ (goL ms tl c (1, waitW) ys).length = ys.length := by
  unfold tellingL at h
  split at h
  · cases h
  · rename_i q
    cases h
    refine ⟨rfl, ?_⟩
    have h1 : ¬ (tellsL ms tl c ys).length < ys.length := fun g => q (.inl g)
    unfold tellsL at h1
    rw [List.length_map] at h1
    have := go_len (ms := ms) (tl := tl) (c := c) (ys := ys) (s := (1, waitW))
    omega
theorem zip_snoc {α β : Type} {l : List α} {m : List β} {i : Nat} {a : α} {b : β} (h1 : l[i]? = some a) (h2 : m[i]? = some b) : (l.zip m).take (i + 1) = (l.zip m).take i ++ [(a, b)] := by
  refine take_snoc ?_
  rw [List.getElem?_zip_eq_some]
  exact ⟨h1, h2⟩
theorem last_snoc {A : List Addr} {a : Addr} (h : A.getLast? = some a) : ∃ B, A = B ++ [a] := by
  rcases List.eq_nil_or_concat A with rfl | ⟨B, x, rfl⟩
  · cases h
  · rw [List.concat_eq_append, List.getLast?_concat] at h
    cases h
    exact ⟨B, List.concat_eq_append ..⟩
section
variable {P : Program} {w : World} {K : PySem.W.Frag} {mg : Str → Option Value} {base : Heap}
abbrev nTreeRead : List Str := ["reader", "message", "tellings", "last", "word", "level", "line", "part"]
theorem scTreeRead : FnScope nTreeRead ["reader", "message"] (defScope sTreeRead) := ⟨rfl, rfl, rfl, by decide +kernel, rfl, by decide +kernel, by decide +kernel⟩
theorem ok_treeread {f : Addr} {fd : FuncData} (F : Fun K "tree_read" "tree_read" sTreeRead f fd) (R : RdF P w K mg base) (mZ : mg "zip" = none) (cM : Ca P w K mg base "check_message" 2 ["signs", "message"] spCheckMsg) (cT : Ca P w K mg base "telling_of" 8 ["reader", "message"] (spTellingOf R.C K)) :
    FnOk P w K mg base CX0 9 f fd ["reader", "message"] (spTreeRead R.C) := by
  refine F.ok scTreeRead (fun vs H Q E h => ?_) (fun cdv A outer s H vs Q E hr h => ?_)
  · obtain ⟨_, _, _, _, _, _, _, _, _, rfl, _⟩ := h
    rfl
  · obtain ⟨p, z, ms, tl, c, m, b, ys, n, rfl, ra, om, hm, ok, en, k⟩ := h
    have nd := scTreeRead.nd
    have sz : sizeLine = 16777216 := rfl
    refine ⟨_, pss_cons (ps_expr (pe_ca cM (hr.mono (by decide)) (by rfl) (pa_cons (pe_prop (pv 0) R.T.cl R.pr R.og (hr.mono (by decide)) R.bg .nil pass0 rfl) (pa_cons (pv 1) pa_nil))))
      (pss_cons (ps_set (i := 2) nd rfl (.inl rfl) (pe_ca cT hr (by rfl) (pa_cons (pv 0) (pa_cons (pv 1) pa_nil))))
      (pss_cons (ps_if (pt_cmpR op_isN (pv 2) pe_non (nomark _)) (pss_one (ps_ret pe_non)) pss_nil)
      (pss_cons (ps_set (i := 3) nd rfl (.inl rfl) (pe_lst (pa_cons (pe_lst pa_nil) pa_nil)))
      (pss_cons (ps_for PassesOwn.never rfl (pi_zipX b (by rfl) mZ (pa_cons (pv 2) (pa_cons (pv 1) pa_nil)))
        (pg_tup rfl (pgs_cons (pg_tup rfl (pgs_cons (pg_name (i := 4) nd rfl (.inl rfl)) (pgs_cons (pg_name (i := 5) nd rfl (.inl rfl)) pgs_nil))) (pgs_cons (pg_name (i := 6) nd rfl (.inl rfl)) pgs_nil)))
        (pss_cons (ps_if (pt_cmpR op_eq (pv 4) pe_str (nomark _))
          (pss_cons (ps_set (i := 7) nd rfl (.inl rfl) (pe_lst pa_nil))
          (pss_cons (ps_set (i := 3) nd rfl (.inl rfl) (pe_slice sl_list (pv 3) po_none (po_some (pv 5))))
          (pss_cons (ps_expr (pe_bm PySem.F.plainAttrs_list PySem.F.slot_list_append PySem.F.type_list_append mtAppend (pe_ix ix_list (pv 3) (pe_un un_neg pe_int) (fun _ _ => rfl)) (pa_cons (pv 7) pa_nil)))
          (pss_one (ps_expr (pe_bm PySem.F.plainAttrs_list PySem.F.slot_list_append PySem.F.type_list_append mtAppend (pv 3) (pa_cons (pv 7) pa_nil))))))) pss_nil)
        (pss_one (ps_if (pt_cmpR op_eq (pv 4) pe_str (nomark _))
          (pss_one (ps_expr (pe_bm PySem.F.plainAttrs_list PySem.F.slot_list_append PySem.F.type_list_append mtAppend (pe_ix ix_list (pv 3) (pe_un un_neg pe_int) (fun _ _ => rfl)) (pa_cons (pv 6) pa_nil)))) pss_nil))))
      (pss_one (ps_ret (pe_ix ix_list (pv 3) pe_int (fun _ _ => rfl)))))))), ?_⟩
    obtain ⟨dx, fs, ei, no⟩ := reader_ins ra
    refine ⟨_, rfl, p, dx, fs, rfl, ei, p, z, ms, tl, c, rfl, ra, _, rfl, z, m, b, ys, rfl, hm, ok, fun H1 s1 => ?_⟩
    refine ⟨_, rfl, _, rfl, p, z, ms, tl, c, m, b, ys, rfl, ra.same s1, om, s1 _ _ hm, ok, fun e H' s' => ?_, fun rs e H2 T ts s2 hT0 gT hts => ?_⟩
    · refine ⟨_, rfl, rfl, _, rfl, iteYes rfl ?_⟩
      exact k .non H' (s1.trans s') (by rw [e]; rfl)
    · refine ⟨_, rfl, rfl, _, rfl, iteNot (fun e => by cases e) ?_⟩
      have s02 := s1.trans s2
      have hm2 : MsgAt H2 m b ys := s02 _ _ hm
      obtain ⟨ers, lgo⟩ := telling_go e
      have lts := paired_len hts
      have lrs : rs.length = ys.length := by rw [ers, List.length_map, lgo]
      have few := ok.few
      -- the root
      refine ⟨by decide, fun r hr0 => ?_⟩
      have sr : Same H2 (upd H2 r (.lst [])) := (Same.refl H2).upd hr0
      have gr : upd H2 r (.lst []) r = some (.lst []) := upd_same
      generalize upd H2 r (.lst []) = H3 at sr gr ⊢
      refine ⟨(by show 1 ≤ sizeLine; decide), fun L hL => ?_⟩
      have sL : Same H3 (upd H3 L (.lst [.ref r])) := (Same.refl H3).upd hL
      have gL : upd H3 L (.lst [.ref r]) L = some (.lst [.ref r]) := upd_same
      have nrL : r ≠ L := ne_of_none gr hL
      have gr := sL _ _ gr
      generalize upd H3 L (.lst [.ref r]) = H4 at sL gL gr ⊢
      have s24 := sr.trans sL
      have hL0 : H2 L = none := sr.none hL
      let g := goL ms tl c (1, waitW) ys
      let qs := rs.zip ys
      have okst : ∀ i, SdOk ms.length (curL (1, waitW) (g.take i)) := fun i => by
        have h0 : ∀ q ∈ g.take i, SdOk ms.length q.2 := fun q hq => (go_ok (sd_start om.ms.lo) q (List.mem_of_mem_take hq)).1
        generalize g.take i = l at h0 ⊢
        rcases List.eq_nil_or_concat l with rfl | ⟨l, q, rfl⟩
        · exact sd_start om.ms.lo
        · rw [List.concat_eq_append, cur_snoc]
          exact h0 q (by rw [List.concat_eq_append]; exact List.mem_append_right _ List.mem_cons_self)
      refine ⟨_, rfl, _, rfl, T, m, ts, ys.map V.str, rfl, SqL.of (s24 _ _ gT), sqX_of (s24 _ _ hm2), for_it (walk_zipX (xs := ts) (ys := ys.map V.str) (t := b) (n := ys.length) (by rw [List.length_map, lts, lrs, Nat.min_self]))
        (fun i σ Hi => ∃ (o4 o5 o6 o7 : Option V) (L : Addr) (A F : List Addr), σ = [some (.ref p), some (.ref m), some (.ref T), some (.ref L), o4, o5, o6, o7] ∧ Same H2 Hi ∧ Hi L = some (.lst (A.map V.ref)) ∧ H2 L = none ∧ A ≠ [] ∧ SpF Hi A (n + 2) (.ref r) ((qs.take i).foldl (stepG (n + 1)) (noKids (n + 1))) F ∧ F.Nodup ∧ (∀ a ∈ F, H2 a = none) ∧ L ∉ F
          ∧ (curL (1, waitW) (g.take i)).1 ≤ A.length ∧ ((curL (1, waitW) (g.take i)).2 = bodyW → A.length = n + 2)) ?_ ?_ ?_ ?_⟩
      · refine ⟨_, _, _, _, L, [r], [r], rfl, s24, gL, hL0, List.cons_ne_nil _ _, ⟨rfl, [], [], gr, .nil, rfl⟩, List.nodup_cons.mpr ⟨fun h => (nomatch h), .nil⟩, fun a ha => by rw [List.mem_singleton.mp ha]; exact hr0, fun h => nrL (List.mem_singleton.mp h).symm, ?_, ?_⟩
        · rw [List.take_zero]
          exact Nat.le_refl 1
        · rw [List.take_zero]
          exact fun q => absurd q wait_body
      · rintro i σ Hi _ ⟨_, _, _, _, _, _, _, _, sm, _⟩
        exact ⟨SqL.of (sm _ _ gT), sqX_of (sm _ _ hm2)⟩
      · rintro i x σ Hi _ hi ⟨o4, o5, o6, o7, L, A, F, rfl, sm, gL, hL0, nA, sp, ndF, frF, nLF, lo, bd⟩ ⟨U, v1, v2, rfl, hU, rfl, e1, e2⟩
        have e1 : ts[i]? = some v1 := e1
        have e2 : (ys.map V.str)[i]? = some v2 := e2
        rw [List.getElem?_map] at e2
        have hy : ys[i]? = some ys[i] := List.getElem?_eq_getElem hi
        generalize ys[i] = y at hy
        rw [hy] at e2
        obtain rfl : V.str y = v2 := Option.some.inj e2
        have hg : g[i]? = some g[i] := List.getElem?_eq_getElem (by show i < (goL ms tl c (1, waitW) ys).length; omega)
        generalize g[i]'(by show i < (goL ms tl c (1, waitW) ys).length; omega) = q at hg
        obtain ⟨y', hy', mv⟩ := go_at hg
        rw [hy] at hy'
        obtain rfl : y = y' := Option.some.inj hy'
        have hrs : rs[i]? = some q.1 := by
          rw [ers, List.getElem?_map]
          show Option.map Prod.fst g[i]? = _
          rw [hg]
          rfl
        obtain ⟨r', hr', hv1⟩ := L2.paired_get hts e1
        rw [hrs] at hr'
        obtain rfl : q.1 = r' := Option.some.inj hr'
        obtain ⟨ro, s'⟩ := q
        obtain ⟨t, rfl, ht⟩ := hv1
        have eqs : (qs.take (i + 1)).foldl (stepG (n + 1)) (noKids (n + 1)) = stepG (n + 1) ((qs.take i).foldl (stepG (n + 1)) (noKids (n + 1))) (ro, y) := by
          show ((rs.zip ys).take (i + 1)).foldl _ _ = _
          rw [zip_snoc hrs hy, List.foldl_append]
          rfl
        have szG : szB (n + 2) ((qs.take i).foldl (stepG (n + 1)) (noKids (n + 1))) ≤ 2 + 2 * i := by
          have this : szB (n + 2) ((qs.take i).foldl (stepG (n + 1)) (noKids (n + 1))) ≤ szB (n + 2) (noKids (n + 1)) + 2 * (qs.take i).length := sz_fold (qs := qs.take i) (t := noKids (n + 1))
          rw [List.length_take] at this
          have h2 : szB (n + 2) (noKids (n + 1)) = 2 := rfl
          have h3 : min i qs.length ≤ i := Nat.min_le_left _ _
          omega
        rw [eqs, cur_cons hg]
        have hst := okst i
        generalize (qs.take i).foldl (stepG (n + 1)) (noKids (n + 1)) = G at sp szG ⊢
        generalize curL (1, waitW) (g.take i) = st at mv lo bd hst
        have hU2 : H2 U = none := sm.none hU
        have smU : Same H2 (upd Hi U (.tup [.ref t, .str y])) := sm.upd hU2
        have gU : upd Hi U (.tup [.ref t, .str y]) U = some (.tup [.ref t, .str y]) := upd_same
        have sU : Same Hi (upd Hi U (.tup [.ref t, .str y])) := (Same.refl Hi).upd hU
        have gL := sU _ _ gL
        have spU : SpF (upd Hi U (.tup [.ref t, .str y])) A (n + 2) (.ref r) G F := sp.keep fun a ha => by
          obtain ⟨xs, e⟩ := sp.tr.some a ha
          rw [e]
          exact sU _ _ e
        have htU := (NL.same (s24.trans (Same.refl H4))).sqT ht
        have htU : SqT K (upd Hi U (.tup [.ref t, .str y])) t [.str ro.1, .int ((ro.2 : Nat) : Int)] := (NL.same smU).sqT ht
        generalize upd Hi U (.tup [.ref t, .str y]) = Ha at smU gU sU gL spU htU ⊢
        clear sp
        refine ⟨U, _, rfl, SqT.of gU, rfl, _, _, rfl, ⟨t, _, rfl, htU, rfl, _, _, rfl, _, _, rfl, rfl, ?_⟩⟩
        refine ⟨_, _, rfl, rfl, ?_⟩
        refine ⟨_, rfl, rfl, _, rfl, ?_⟩
        rcases move_cases mv with ⟨h1, h2, h3⟩ | ⟨h1, h2, h3, h4⟩ | ⟨h1, h2, h3, h4⟩
        · -- a line
          have h1 : ro = (lineW, 0) := h1
          have h2 : s' = st := h2
          subst h1 h2
          have lA := bd h3
          obtain ⟨a, ea⟩ : ∃ a, A.getLast? = some a := by
            cases e : A.getLast? with
            | none => exact absurd (List.getLast?_eq_none_iff.mp e) nA
            | some a => exact ⟨a, rfl⟩
          obtain ⟨B, rfl⟩ := last_snoc ea
          obtain ⟨xs, gx, lx, ma⟩ := spU.last ea
          refine iteNot (fun e => line_next (V.str.inj e)) ?_
          refine ⟨_, rfl, rfl, _, rfl, ?_⟩
          refine iteYes rfl ?_
          rw [List.map_append] at gL
          refine ⟨_, rfl, _, rfl, L, _, _, .ref a, rfl, rfl, SqL.of gL, atI_last _ _, .inl ⟨rfl, _, SqL.of gx⟩, _, rfl, a, xs, _, rfl, rfl, gx, by rw [sz]; omega, ?_⟩
          have nLa : L ≠ a := fun e => nLF (e ▸ ma)
          have es : stepG (n + 1) G ((lineW, 0), y) = FL.addL y (n + 2) G := by
            unfold stepG
            rw [if_neg line_next]
            exact if_pos rfl
          rw [es]
          refine ⟨_, _, _, _, L, B ++ [a], F, rfl, smU.upd (frF a ma), by rw [upd_ne nLa, List.map_append]; exact gL, hL0, nA, ?_, ndF, frF, nLF, lo, bd⟩
          exact spU.addL ea lA ndF (fun b' _ hne => by rw [upd_ne hne]) gx upd_same
        · -- an end
          have h1 : ro.1 = endW := h1
          have h4 : s' = (ro.2 - 1, waitW) := h4
          have h2 : 1 ≤ ro.2 := h2
          have h3 : ro.2 ≤ st.1 := h3
          rw [h1]
          refine iteNot (fun e => end_next (V.str.inj e)) ?_
          refine ⟨_, rfl, rfl, _, rfl, ?_⟩
          refine iteNot (fun e => end_line (V.str.inj e)) ?_
          have es : stepG (n + 1) G (ro, y) = G := by
            unfold stepG
            rw [show ((ro, y) : Ro × Str).1.1 = endW from h1, if_neg end_next, if_neg end_line]
          rw [es, h4]
          exact ⟨_, _, _, _, L, A, F, rfl, smU, gL, hL0, nA, spU, ndF, frF, nLF, by show ro.2 - 1 ≤ _; omega, fun q => absurd q wait_body⟩
        · -- a new part
          have h1 : ro.1 = nextW := h1
          have h4 : s' = if ro.2 = ms.length then (ms.length, bodyW) else (ro.2 + 1, waitW) := h4
          have h2 : 1 ≤ ro.2 := h2
          have h3 : ro.2 ≤ st.1 := h3
          have hi1 := hst.hi
          rw [h1]
          refine iteYes rfl ?_
          refine ⟨by decide, fun p1 hp1 => ?_⟩
          have sP : Same Ha (upd Ha p1 (.lst [])) := (Same.refl Ha).upd hp1
          have gP : upd Ha p1 (.lst []) p1 = some (.lst []) := upd_same
          have hP2 : H2 p1 = none := smU.none hp1
          have kP : ∀ a ∈ F, upd Ha p1 (.lst []) a = Ha a := fun a ha => by
            obtain ⟨xs, e⟩ := spU.tr.some a ha
            rw [e]
            exact sP _ _ e
          have nPF : p1 ∉ F := fun h => by
            obtain ⟨xs, e⟩ := spU.tr.some p1 h
            rw [hp1] at e
            cases e
          have gLb := sP _ _ gL
          generalize upd Ha p1 (.lst []) = Hb at sP gP kP gLb ⊢
          have spB := spU.keep kP
          refine ⟨_, rfl, _, rfl, _, rfl, L, _, rfl, SqL.of gLb, fun M hM => ?_⟩
          have eM : cutV (A.map V.ref) none (some ((ro.2 : Nat) : Int)) = (A.take ro.2).map V.ref := by
            rw [cutV_take, List.map_take]
          rw [eM]
          have sM : Same Hb (upd Hb M (.lst ((A.take ro.2).map V.ref))) := (Same.refl Hb).upd hM
          have gM : upd Hb M (.lst ((A.take ro.2).map V.ref)) M = some (.lst ((A.take ro.2).map V.ref)) := upd_same
          have hM2 : H2 M = none := (smU.trans sP).none hM
          have kM : ∀ a ∈ F, upd Hb M (.lst ((A.take ro.2).map V.ref)) a = Hb a := fun a ha => by
            obtain ⟨xs, e⟩ := spB.tr.some a ha
            rw [e]
            exact sM _ _ e
          have nMF : M ∉ F := fun h => by
            obtain ⟨xs, e⟩ := spB.tr.some M h
            rw [hM] at e
            cases e
          have nPM : p1 ≠ M := ne_of_none gP hM
          have gP := sM _ _ gP
          have smM := (smU.trans sP).trans sM
          generalize upd Hb M (.lst ((A.take ro.2).map V.ref)) = Hc at sM gM kM gP smM ⊢
          have spC := (spB.keep kM).take ro.2
          have lT : (A.take ro.2).length = ro.2 := by rw [List.length_take]; omega
          generalize A.take ro.2 = A2 at gM spC lT
          obtain ⟨a, ea⟩ : ∃ a, A2.getLast? = some a := by
            cases e : A2.getLast? with
            | none =>
              rw [List.getLast?_eq_none_iff.mp e] at lT
              simp at lT
              omega
            | some a => exact ⟨a, rfl⟩
          obtain ⟨B, rfl⟩ := last_snoc ea
          obtain ⟨xs, gx, lx, ma⟩ := spC.last ea
          have naM : a ≠ M := fun e => nMF (e ▸ ma)
          have naP : a ≠ p1 := fun e => nPF (e ▸ ma)
          rw [List.map_append] at gM
          refine ⟨_, rfl, _, rfl, M, _, _, .ref a, rfl, rfl, SqL.of gM, atI_last _ _, .inl ⟨rfl, _, SqL.of gx⟩, _, rfl, a, xs, _, rfl, rfl, gx, by rw [sz]; omega, ?_⟩
          have gM2 : upd Hc a (.lst (xs ++ [.ref p1])) M = some (.lst (B.map V.ref ++ [a].map V.ref)) := by rw [upd_ne (Ne.symm naM)]; exact gM
          have lB : (B.map V.ref ++ [a].map V.ref).length = ro.2 := by
            rw [← List.map_append, List.length_map, lT]
          refine ⟨_, rfl, .inl ⟨rfl, _, SqL.of gM2⟩, _, rfl, M, _, _, rfl, rfl, gM2, by rw [lB, sz]; have := om.ms.hi; omega, ?_⟩
          refine ⟨_, rfl, rfl, _, rfl, ?_⟩
          refine iteNot (fun e => line_next (V.str.inj e).symm) ?_
          have es : stepG (n + 1) G (ro, y) = FL.addN ((B ++ [a]).length - 1) (n + 2) G := by
            unfold stepG
            rw [show ((ro, y) : Ro × Str).1.1 = nextW from h1, if_pos rfl, lT]
          rw [es, h4]
          have lA' : (B ++ [a] ++ [p1]).length = ro.2 + 1 := by rw [List.length_append, lT]; rfl
          refine ⟨_, _, _, _, M, B ++ [a] ++ [p1], F ++ [p1], rfl, (smM.upd (frF a ma)).upd hM2, by rw [upd_same, List.map_append, List.map_append]; rfl, hM2, by simp, ?_, ?_, fun b' hb => ?_, fun h => ?_, ?_, ?_⟩
          · refine spC.addN ea (by rw [lT]; omega) ndF (fun b' hb hne => ?_) gx (by rw [upd_ne naM, upd_same]) ?_
            · rw [upd_ne (show b' ≠ M from fun e => nMF (e ▸ hb)), upd_ne hne]
            · rw [upd_ne nPM, upd_ne (Ne.symm naP)]
              exact gP
          · rw [List.nodup_append]
            exact ⟨ndF, List.nodup_cons.mpr ⟨fun h => (nomatch h), .nil⟩, fun x hx y hy e => nPF (by rw [← List.mem_singleton.mp hy, ← e]; exact hx)⟩
          · rcases List.mem_append.mp hb with hb | hb
            · exact frF b' hb
            · rw [List.mem_singleton.mp hb]
              exact hP2
          · rcases List.mem_append.mp h with h | h
            · exact nMF h
            · exact nPM (List.mem_singleton.mp h).symm
          · rw [lA']
            split
            · rename_i q
              show ms.length ≤ _
              omega
            · exact Nat.le_refl _
          · rw [lA']
            split
            · rename_i q
              intro _
              omega
            · exact fun q => absurd q wait_body
      · rintro σ Hi ⟨o4, o5, o6, o7, L, A, F, rfl, sm, gL, hL0, nA, sp, ndF, frF, nLF, lo, bd⟩
        obtain ⟨a, A, rfl⟩ : ∃ a A', A = a :: A' := by
          cases A with
          | nil => exact absurd rfl nA
          | cons a A => exact ⟨a, A, rfl⟩
        obtain rfl : r = a := V.ref.inj sp.head
        refine ⟨_, rfl, L, _, _, _, rfl, rfl, SqL.of gL, atI_nat (j := 0) rfl, ?_⟩
        refine k _ Hi (s02.trans sm) ?_
        rw [e]
        have eq1 : qs.take ys.length = rs.zip ys := by
          show (rs.zip ys).take ys.length = _
          rw [List.take_of_length_le]
          rw [List.length_zip, lrs, Nat.min_self]
          exact Nat.le_refl _
        rw [eq1] at sp
        exact ⟨F, sp.tr, ndF, fun a ha => s02.none (frF a ha)⟩
end
end K68
namespace K68
open PySem PySem.Spec PyProof.Rows L2 FL
abbrev sGrown : Stmt := topS 112
theorem iteNE {x y : V} {A B : Prop} (h : ¬ x = y) (a : A) : if (!decide (x = y)) = true then A else B := by
  rw [decide_eq_false h]
  exact iteT a
def spGrown (K : PySem.W.Frag) : Sp := fun vs H Q _ => ∃ (d : Addr) (z : Str) (ms : List Str) (tl : Str) (c : Cares) (T : Addr) (ts : List V) (rs : List Ro) (m : Addr) (ys : List Str) (n : Nat), vs = [.ref d, .ref T, .ref m] ∧ ModelAt H d z ms tl c ∧ RdOk z ms tl c ∧ ms.length = n + 1 ∧
  H T = some (.lst ts) ∧ Paired (RoAt K H) ts rs ∧ tellingL ms tl c ys = some rs ∧ H m = some (.lst (ys.map V.str)) ∧ ys.length ≤ 5000 ∧ ∀ (v : V) (H' : Hp), Same H H' → ReadAt H H' v n ys (some rs) → Q v H'
section
variable {P : Program} {w : World} {K : PySem.W.Frag} {mg : Str → Option Value} {base : Heap}
abbrev nGrown : List Str := ["_law_model_here", "_law_heard", "_law_mail_here", "_law_root", "_law_role", "_law_line_here", "_law_place", "_law_turn_here"]
theorem scGrown : FnScope nGrown ["_law_model_here", "_law_heard", "_law_mail_here"] (defScope sGrown) := ⟨rfl, rfl, rfl, by decide +kernel, rfl, by decide +kernel, by decide +kernel⟩
theorem ok_grown {f : Addr} {fd : FuncData} (F : Fun K "_law_grown" "_law_grown" sGrown f fd) (mZ : mg "zip" = none) (mG : mg "range" = none) (mN : mg "len" = none) :
    FnOk P w K mg base CX0 1 f fd ["_law_model_here", "_law_heard", "_law_mail_here"] (spGrown K) := by
  refine F.ok scGrown (fun vs H Q E h => ?_) (fun cdv A outer s H vs Q E hr h => ?_)
  · obtain ⟨_, _, _, _, _, _, _, _, _, _, _, rfl, _⟩ := h
    rfl
  · obtain ⟨d, z, ms, tl, c, T, ts, rs, m, ys, n, rfl, mo, om, en, gT, hts, e, hm, few, k⟩ := h
    have nd := scGrown.nd
    have hu := hu_of hr
    have sz : sizeLine = 16777216 := rfl
    refine ⟨_, pss_cons (ps_set (i := 3) nd rfl (.inl rfl) (pe_lst pa_nil))
      (pss_cons (ps_for PassesOwn.never rfl (pi_zip (by rfl) mZ (pa_cons (pv 1) (pa_cons (pv 2) pa_nil)))
        (pg_tup rfl (pgs_cons (pg_name (i := 4) nd rfl (.inl rfl)) (pgs_cons (pg_name (i := 5) nd rfl (.inl rfl)) pgs_nil)))
        (pss_one (ps_if (pt_cmpR op_ne (pe_ix ix_tup (pv 4) pe_int (fun _ _ => rfl)) pe_str (nomark _))
          (pss_cons (ps_set (i := 6) nd rfl (.inl rfl) (pv 3))
          (pss_cons (ps_for PassesOwn.never rfl (pi_range1 (by rfl) mG (pa_cons (pe_ifExp (pt_cmpR op_eq (pe_ix ix_tup (pv 4) pe_int (fun _ _ => rfl)) pe_str (nomark _))
              (pe_op op_sub (pe_ix ix_tup (pv 4) pe_int (fun _ _ => rfl)) pe_int) (pe_callB callLen (by rfl) mN PySem.boot_len (pa_cons (pe_dget hu (pv 0) pe_str (fun _ _ => rfl)) pa_nil))) pa_nil)) (pg_name (i := 7) nd rfl (.inl rfl))
            (pss_one (ps_set (i := 6) nd rfl (.inl rfl) (pe_ix ix_list (pv 6) (pe_un un_neg pe_int) (fun _ _ => rfl)))))
          (pss_one (ps_expr (pe_bm PySem.F.plainAttrs_list PySem.F.slot_list_append PySem.F.type_list_append mtAppend (pv 6)
            (pa_cons (pe_ifExp (pt_cmpR op_eq (pe_ix ix_tup (pv 4) pe_int (fun _ _ => rfl)) pe_str (nomark _)) (pe_lst pa_nil) (pv 5)) pa_nil)))))) pss_nil)))
      (pss_one (ps_ret (pv 3)))), ?_⟩
    obtain ⟨ers, lgo⟩ := telling_go e
    have lts := paired_len hts
    have lrs : rs.length = ys.length := by rw [ers, List.length_map, lgo]
    -- the root
    refine ⟨by decide, fun r hr0 => ?_⟩
    have sr : Same H (upd H r (.lst [])) := (Same.refl H).upd hr0
    have gr : upd H r (.lst []) r = some (.lst []) := upd_same
    generalize upd H r (.lst []) = H3 at sr gr ⊢
    let g := goL ms tl c (1, waitW) ys
    let qs := rs.zip ys
    have okst : ∀ i, SdOk ms.length (curL (1, waitW) (g.take i)) := fun i => by
      have h0 : ∀ q ∈ g.take i, SdOk ms.length q.2 := fun q hq => (go_ok (sd_start om.ms.lo) q (List.mem_of_mem_take hq)).1
      generalize g.take i = l at h0 ⊢
      rcases List.eq_nil_or_concat l with rfl | ⟨l, q, rfl⟩
      · exact sd_start om.ms.lo
      · rw [List.concat_eq_append, cur_snoc]
        exact h0 q (by rw [List.concat_eq_append]; exact List.mem_append_right _ List.mem_cons_self)
    refine ⟨_, rfl, _, rfl, T, m, ts, ys.map V.str, rfl, SqL.of (sr _ _ gT), SqL.of (sr _ _ hm), for_it (walk_zip (xs := ts) (ys := ys.map V.str) (n := ys.length) (by rw [List.length_map, lts, lrs, Nat.min_self]))
      (fun i σ Hi => ∃ (o4 o5 o6 o7 : Option V) (A F : List Addr), σ = [some (.ref d), some (.ref T), some (.ref m), some (.ref r), o4, o5, o6, o7] ∧ Same H Hi ∧ A ≠ [] ∧ SpF Hi A (n + 2) (.ref r) ((qs.take i).foldl (stepG (n + 1)) (noKids (n + 1))) F ∧ F.Nodup ∧ (∀ a ∈ F, H a = none)
        ∧ (curL (1, waitW) (g.take i)).1 ≤ A.length ∧ ((curL (1, waitW) (g.take i)).2 = bodyW → A.length = n + 2)) ?_ ?_ ?_ ?_⟩
    · refine ⟨_, _, _, _, [r], [r], rfl, sr, List.cons_ne_nil _ _, ⟨rfl, [], [], gr, .nil, rfl⟩, List.nodup_cons.mpr ⟨fun h => (nomatch h), .nil⟩, fun a ha => by rw [List.mem_singleton.mp ha]; exact hr0, ?_, ?_⟩
      · rw [List.take_zero]
        exact Nat.le_refl 1
      · rw [List.take_zero]
        exact fun q => absurd q wait_body
    · rintro i σ Hi _ ⟨_, _, _, _, _, _, _, sm, _⟩
      exact ⟨SqL.of (sm _ _ gT), SqL.of (sm _ _ hm)⟩
    · rintro i x σ Hi _ hi ⟨o4, o5, o6, o7, A, F, rfl, sm, nA, sp, ndF, frF, lo, bd⟩ ⟨U, v1, v2, rfl, hU, rfl, e1, e2⟩
      have e1 : ts[i]? = some v1 := e1
      have e2 : (ys.map V.str)[i]? = some v2 := e2
      rw [List.getElem?_map] at e2
      have hy : ys[i]? = some ys[i] := List.getElem?_eq_getElem hi
      generalize ys[i] = y at hy
      rw [hy] at e2
      obtain rfl : V.str y = v2 := Option.some.inj e2
      have hg : g[i]? = some g[i] := List.getElem?_eq_getElem (by show i < (goL ms tl c (1, waitW) ys).length; omega)
      generalize g[i]'(by show i < (goL ms tl c (1, waitW) ys).length; omega) = q at hg
      obtain ⟨y', hy', mv⟩ := go_at hg
      rw [hy] at hy'
      obtain rfl : y = y' := Option.some.inj hy'
      have hrs : rs[i]? = some q.1 := by
        rw [ers, List.getElem?_map]
        show Option.map Prod.fst g[i]? = _
        rw [hg]
        rfl
      obtain ⟨r', hr', hv1⟩ := L2.paired_get hts e1
      rw [hrs] at hr'
      obtain rfl : q.1 = r' := Option.some.inj hr'
      obtain ⟨ro, s'⟩ := q
      obtain ⟨t, rfl, ht⟩ := hv1
      have eqs : (qs.take (i + 1)).foldl (stepG (n + 1)) (noKids (n + 1)) = stepG (n + 1) ((qs.take i).foldl (stepG (n + 1)) (noKids (n + 1))) (ro, y) := by
        show ((rs.zip ys).take (i + 1)).foldl _ _ = _
        rw [zip_snoc hrs hy, List.foldl_append]
        rfl
      have szG : szB (n + 2) ((qs.take i).foldl (stepG (n + 1)) (noKids (n + 1))) ≤ 2 + 2 * i := by
        have this : szB (n + 2) ((qs.take i).foldl (stepG (n + 1)) (noKids (n + 1))) ≤ szB (n + 2) (noKids (n + 1)) + 2 * (qs.take i).length := sz_fold (qs := qs.take i) (t := noKids (n + 1))
        rw [List.length_take] at this
        have h2 : szB (n + 2) (noKids (n + 1)) = 2 := rfl
        have h3 : min i qs.length ≤ i := Nat.min_le_left _ _
        omega
      rw [eqs, cur_cons hg]
      have hst := okst i
      generalize (qs.take i).foldl (stepG (n + 1)) (noKids (n + 1)) = G at sp szG ⊢
      generalize curL (1, waitW) (g.take i) = st at mv lo bd hst
      have hU2 : H U = none := sm.none hU
      have smU : Same H (upd Hi U (.tup [.ref t, .str y])) := sm.upd hU2
      have gU : upd Hi U (.tup [.ref t, .str y]) U = some (.tup [.ref t, .str y]) := upd_same
      have sU : Same Hi (upd Hi U (.tup [.ref t, .str y])) := (Same.refl Hi).upd hU
      have spU : SpF (upd Hi U (.tup [.ref t, .str y])) A (n + 2) (.ref r) G F := sp.keep fun a ha => by
        obtain ⟨xs, e⟩ := sp.tr.some a ha
        rw [e]
        exact sU _ _ e
      have htU : SqT K (upd Hi U (.tup [.ref t, .str y])) t [.str ro.1, .int ((ro.2 : Nat) : Int)] := (NL.same smU).sqT ht
      generalize upd Hi U (.tup [.ref t, .str y]) = Ha at smU gU sU spU htU ⊢
      clear sp
      have e0 : A[0]? = some r := by
        cases A with
        | nil => exact absurd rfl nA
        | cons a A => rw [V.ref.inj spU.head]; rfl
      refine ⟨U, _, rfl, SqT.of gU, rfl, _, _, rfl, _, _, rfl, rfl, ?_⟩
      refine ⟨_, rfl, t, _, _, _, rfl, rfl, htU, atI_nat (j := 0) rfl, rfl, _, rfl, ?_⟩
      rcases move_cases mv with ⟨h1, h2, h3⟩ | ⟨h1, h2, h3, h4⟩ | ⟨h1, h2, h3, h4⟩
      · -- a line
        have h1 : ro = (lineW, 0) := h1
        have h2 : s' = st := h2
        subst h1 h2
        have lA := bd h3
        refine iteNE (fun q => line_end (V.str.inj q)) ?_
        refine ⟨_, rfl, ?_⟩
        refine ⟨_, rfl, t, _, _, _, rfl, rfl, htU, atI_nat (j := 0) rfl, rfl, _, rfl, ?_⟩
        refine iteNot (fun q => line_next (V.str.inj q)) ?_
        obtain ⟨ma, hd, hma⟩ := mo.same smU
        refine ⟨_, rfl, d, _, rfl, dget_of hd (model_marks z ma tl c), _, ms.length, rfl, .inl ⟨_, SqL.of hma, (List.length_map _).symm⟩, ?_⟩
        have hi3 := om.ms.hi
        refine ⟨_, rfl, by omega, by omega, ?_⟩
        refine for_range (lo := 0) (n := ms.length) (fun j σ Hj => ∃ (o7 : Option V) (a : Addr), σ = [some (.ref d), some (.ref T), some (.ref m), some (.ref r), some (.ref t), some (.str y), some (.ref a), o7] ∧ Hj = Ha ∧ A[j]? = some a) ?_ ?_ ?_
        · exact ⟨_, r, rfl, rfl, e0⟩
        · rintro j σ Ha hj ⟨o7, a, rfl, rfl, ha⟩
          have hb : A[j + 1]? = some A[j + 1] := List.getElem?_eq_getElem (by omega)
          generalize A[j + 1]'(by omega) = b at hb
          obtain ⟨xs, gx, lx⟩ := spU.next ha hb
          exact ⟨_, rfl, _, rfl, a, _, _, .ref b, rfl, rfl, SqL.of gx, atI_last xs _, ⟨_, b, rfl, rfl, hb⟩⟩
        · rintro σ Ha ⟨o7, a, rfl, rfl, ha⟩
          have ea : A.getLast? = some a := by
            rw [List.getLast?_eq_getElem?, lA]
            rw [en] at ha
            exact ha
          obtain ⟨xs, gx, lx, ma'⟩ := spU.last ea
          refine ⟨_, rfl, .inl ⟨rfl, _, SqL.of gx⟩, ?_⟩
          refine ⟨_, rfl, t, _, _, _, rfl, rfl, htU, atI_nat (j := 0) rfl, rfl, _, rfl, ?_⟩
          refine iteNot (fun q => line_next (V.str.inj q)) ?_
          refine ⟨_, rfl, a, xs, _, rfl, rfl, gx, by rw [sz]; omega, ?_⟩
          have es : stepG (n + 1) G ((lineW, 0), y) = FL.addL y (n + 2) G := by
            unfold stepG
            rw [if_neg line_next]
            exact if_pos rfl
          rw [es]
          refine ⟨_, _, _, _, A, F, rfl, smU.upd (frF a ma'), nA, ?_, ndF, frF, lo, bd⟩
          exact spU.addL ea lA ndF (fun b' _ hne => by rw [upd_ne hne]) gx upd_same
      · -- an end
        have h1 : ro.1 = endW := h1
        have h4 : s' = (ro.2 - 1, waitW) := h4
        have h2 : 1 ≤ ro.2 := h2
        have h3 : ro.2 ≤ st.1 := h3
        refine iteNS (congrArg V.str h1) ?_
        have es : stepG (n + 1) G (ro, y) = G := by
          unfold stepG
          rw [show ((ro, y) : Ro × Str).1.1 = endW from h1, if_neg end_next, if_neg end_line]
        rw [es, h4]
        exact ⟨_, _, _, _, A, F, rfl, smU, nA, spU, ndF, frF, by show ro.2 - 1 ≤ _; omega, fun q => absurd q wait_body⟩
      · -- a new part
        have h1 : ro.1 = nextW := h1
        have h4 : s' = if ro.2 = ms.length then (ms.length, bodyW) else (ro.2 + 1, waitW) := h4
        have h2 : 1 ≤ ro.2 := h2
        have h3 : ro.2 ≤ st.1 := h3
        have hi1 := hst.hi
        have hi3 := om.ms.hi
        refine iteNE (fun q => next_end (h1.symm.trans (V.str.inj q))) ?_
        refine ⟨_, rfl, ?_⟩
        refine ⟨_, rfl, t, _, _, _, rfl, rfl, htU, atI_nat (j := 0) rfl, rfl, _, rfl, ?_⟩
        refine iteYes (congrArg V.str h1) ?_
        refine ⟨_, rfl, t, _, _, _, rfl, rfl, htU, atI_nat (j := 1) rfl, _, _, rfl, rfl, ?_⟩
        refine ⟨_, rfl, by omega, by omega, ?_⟩
        have et : (((ro.2 : Nat) : Int) - 1).toNat = ro.2 - 1 := by omega
        refine for_range (lo := 0) (n := (((ro.2 : Nat) : Int) - 1).toNat) (fun j σ Hj => ∃ (o7 : Option V) (a : Addr), σ = [some (.ref d), some (.ref T), some (.ref m), some (.ref r), some (.ref t), some (.str y), some (.ref a), o7] ∧ Hj = Ha ∧ A[j]? = some a) ?_ ?_ ?_
        · exact ⟨_, r, rfl, rfl, e0⟩
        · rintro j σ Ha hj ⟨o7, a, rfl, rfl, ha⟩
          have hb : A[j + 1]? = some A[j + 1] := List.getElem?_eq_getElem (by omega)
          generalize A[j + 1]'(by omega) = b at hb
          obtain ⟨xs, gx, lx⟩ := spU.next ha hb
          exact ⟨_, rfl, _, rfl, a, _, _, .ref b, rfl, rfl, SqL.of gx, atI_last xs _, ⟨_, b, rfl, rfl, hb⟩⟩
        · rintro σ Ha ⟨o7, a, rfl, rfl, ha⟩
          have spC := spU.take ro.2
          have lT : (A.take ro.2).length = ro.2 := by rw [List.length_take]; omega
          have ea : (A.take ro.2).getLast? = some a := by
            rw [List.getLast?_eq_getElem?, lT, List.getElem?_take, if_pos (by omega)]
            rw [et] at ha
            exact ha
          generalize A.take ro.2 = A2 at spC lT ea
          obtain ⟨xs, gx, lx, ma'⟩ := spC.last ea
          refine ⟨_, rfl, .inl ⟨rfl, _, SqL.of gx⟩, ?_⟩
          refine ⟨_, rfl, t, _, _, _, rfl, rfl, htU, atI_nat (j := 0) rfl, rfl, _, rfl, ?_⟩
          refine iteYes (congrArg V.str h1) ?_
          refine ⟨by decide, fun p1 hp1 => ?_⟩
          have sP : Same Ha (upd Ha p1 (.lst [])) := (Same.refl Ha).upd hp1
          have gP : upd Ha p1 (.lst []) p1 = some (.lst []) := upd_same
          have hP2 : H p1 = none := smU.none hp1
          have kP : ∀ a ∈ F, upd Ha p1 (.lst []) a = Ha a := fun a ha => by
            obtain ⟨xs, e⟩ := spC.tr.some a ha
            rw [e]
            exact sP _ _ e
          have nPF : p1 ∉ F := fun h => by
            obtain ⟨xs, e⟩ := spC.tr.some p1 h
            rw [hp1] at e
            cases e
          have gx := sP _ _ gx
          have smP := smU.trans sP
          generalize upd Ha p1 (.lst []) = Hb at sP gP kP gx smP ⊢
          have spB := spC.keep kP
          have naP : a ≠ p1 := fun e => nPF (e ▸ ma')
          refine ⟨a, xs, _, rfl, rfl, gx, by rw [sz]; omega, ?_⟩
          have es : stepG (n + 1) G (ro, y) = FL.addN (A2.length - 1) (n + 2) G := by
            unfold stepG
            rw [show ((ro, y) : Ro × Str).1.1 = nextW from h1, if_pos rfl, lT]
          rw [es, h4]
          have lA' : (A2 ++ [p1]).length = ro.2 + 1 := by rw [List.length_append, lT]; rfl
          refine ⟨_, _, _, _, A2 ++ [p1], F ++ [p1], rfl, smP.upd (frF a ma'), by simp, ?_, ?_, fun b' hb => ?_, ?_, ?_⟩
          · exact spB.addN ea (by rw [lT]; omega) ndF (fun b' hb hne => by rw [upd_ne hne]) gx upd_same (by rw [upd_ne (Ne.symm naP)]; exact gP)
          · rw [List.nodup_append]
            exact ⟨ndF, List.nodup_cons.mpr ⟨fun h => (nomatch h), .nil⟩, fun x hx y hy e => nPF (by rw [← List.mem_singleton.mp hy, ← e]; exact hx)⟩
          · rcases List.mem_append.mp hb with hb | hb
            · exact frF b' hb
            · rw [List.mem_singleton.mp hb]
              exact hP2
          · rw [lA']
            split
            · rename_i q
              show ms.length ≤ _
              omega
            · exact Nat.le_refl _
          · rw [lA']
            split
            · rename_i q
              intro _
              omega
            · exact fun q => absurd q wait_body
    · rintro σ Hi ⟨o4, o5, o6, o7, A, F, rfl, sm, nA, sp, ndF, frF, lo, bd⟩
      refine ⟨_, rfl, k _ Hi sm ?_⟩
      have eq1 : qs.take ys.length = rs.zip ys := by
        show (rs.zip ys).take ys.length = _
        rw [List.take_of_length_le]
        rw [List.length_zip, lrs, Nat.min_self]
        exact Nat.le_refl _
      rw [eq1] at sp
      exact ⟨F, sp.tr, ndF, frF⟩
end
end K68
namespace FL
open PySem PySem.Spec PyProof.Rows L2 FL
def menuK (a b c : Addr) : List (Key × V) := [(Sum.inr (Str.ofString "order"), .ref a), (Sum.inr (Str.ofString "further"), .ref b), (Sum.inr (Str.ofString "finish"), .ref c)]
theorem menu_merge (a b c : Addr) : mergeK [] (menuK a b c) = menuK a b c := by
  kernel_rfl
theorem turn_order (z : Str) (ma : Addr) (tl : Str) (c : Cares) (x : Str) : mergeK [] (modelK z ma tl c ++ [(Sum.inr (Str.ofString "order"), .str x)]) = modelK z ma tl ⟨c.si, x, c.fu, c.fi⟩ := by
  kernel_rfl
theorem turn_further (z : Str) (ma : Addr) (tl : Str) (c : Cares) (x : Str) : mergeK [] (modelK z ma tl c ++ [(Sum.inr (Str.ofString "further"), .str x)]) = modelK z ma tl ⟨c.si, c.od, x, c.fi⟩ := by
  kernel_rfl
theorem turn_finish (z : Str) (ma : Addr) (tl : Str) (c : Cares) (x : Str) : mergeK [] (modelK z ma tl c ++ [(Sum.inr (Str.ofString "finish"), .str x)]) = modelK z ma tl ⟨c.si, c.od, c.fu, x⟩ := by
  kernel_rfl
theorem turn_marks (z : Str) (ma mb : Addr) (tl : Str) (c : Cares) : mergeK [] (modelK z ma tl c ++ [(Sum.inr (Str.ofString "marks"), .ref mb)]) = modelK z mb tl c := by
  kernel_rfl
theorem put_tail2 (z : Str) (ma : Addr) (tl : Str) (c : Cares) (x : Str) : putK (modelK z ma tl c) (Sum.inr (Str.ofString "tail")) (.str x) = modelK z ma x c := by
  kernel_rfl
theorem menu_1 (a b c : Addr) : valV (menuK a b c) (Sum.inr (Str.ofString "order")) = some (.ref a) := by
  kernel_rfl
theorem menu_2 (a b c : Addr) : valV (menuK a b c) (Sum.inr (Str.ofString "further")) = some (.ref b) := by
  kernel_rfl
theorem menu_3 (a b c : Addr) : valV (menuK a b c) (Sum.inr (Str.ofString "finish")) = some (.ref c) := by
  kernel_rfl
end FL
namespace FL
open PySem PySem.Spec PyProof.Rows L2 FL
theorem rows_16 {z : Str} {ms : List Str} {tl : Str} (om : MarksOk z ms) (ot : TailOk z tl) : ∀ {k lv : Nat} {t : Bu (k + 1)}, 1 ≤ lv → lv + k = ms.length + 1 → Alls (fun y => Over z y ∧ y.length ≤ 16) (k + 1) t → ∀ q ∈ rows ms tl k lv t, Over z q.1 ∧ q.1.length ≤ 16
  | 0, lv, t, _, _, h, q, hq => by
    rw [rows_zero] at hq
    obtain ⟨y, hy, rfl⟩ := List.mem_map.mp hq
    exact h y hy
  | k + 1, lv, t, l1, l2, h, q, hq => by
    have ro : ∀ wd : Str, (wd = nextW ∨ wd = endW) → Over z (roLine ms tl (wd, lv)) ∧ (roLine ms tl (wd, lv)).length ≤ 16 := fun wd hw =>
      ⟨ro_over om ot ⟨hw, l1, by show lv ≤ _; omega⟩, Nat.le_trans (ro_len om ot _) (by decide)⟩
    rw [rows_succ] at hq
    rcases List.mem_append.mp hq with hq | hq
    · obtain ⟨part, hp, hq⟩ := List.mem_flatMap.mp hq
      rcases List.mem_cons.mp hq with rfl | hq
      · exact ro _ (.inl rfl)
      · exact rows_16 om ot (by omega) (by omega) (h part hp) q hq
    · rw [List.mem_singleton.mp hq]
      exact ro _ (.inr rfl)
def cap3 : Nat → Nat
  | 0 => 3
  | k + 1 => 3 * (1 + cap3 k) + 1
theorem rows_len3 {ms : List Str} {tl : Str} : ∀ {k lv : Nat} {t : Bu (k + 1)}, Few 3 (k + 1) t → (rows ms tl k lv t).length ≤ cap3 k
  | 0, _, t, h => by
    rw [rows_zero, List.length_map]
    exact h.1
  | k + 1, lv, t, h => by
    rw [rows_succ, List.length_append]
    have := flat_le (xs := kids t) (f := gR ms tl k lv) (n := 1 + cap3 k) fun x hx => by
      have := rows_len3 (ms := ms) (tl := tl) (lv := lv + 1) (h.2 x hx)
      show (rows ms tl k (lv + 1) x).length + 1 ≤ _
      omega
    have h1 := Nat.mul_le_mul_right (1 + cap3 k) h.1
    show _ + 1 ≤ 3 * (1 + cap3 k) + 1
    omega
theorem cap3_le : ∀ {k : Nat}, k ≤ 3 → cap3 k ≤ 133
  | 0, _ => by decide
  | 1, _ => by decide
  | 2, _ => by decide
  | 3, _ => by decide
  | k + 4, h => absurd h (by omega)
/-- a mail in the heap, not at D -/
def MailN (z : Str) (N : Nat) (D : Addr) (H : Hp) (v : V) : Prop := ∃ (m : Addr) (ys : List Str), v = .ref m ∧ m ≠ D ∧ H m = some (.lst (ys.map V.str)) ∧ (∀ y ∈ ys, Over z y ∧ y.length ≤ 16) ∧ ys.length ≤ N
theorem MailN.same {z : Str} {N : Nat} {D : Addr} {H H' : Hp} {v : V} (h : MailN z N D H v) (s : Same H H') : MailN z N D H' v := by
  obtain ⟨m, ys, e, n, g, a, b⟩ := h
  exact ⟨m, ys, e, n, s _ _ g, a, b⟩
theorem MailN.but {z : Str} {N : Nat} {D p : Addr} {H H' : Hp} {v : V} (h : MailN z N D H v) (hp : PotAt H p) (b : But p H H') : MailN z N D H' v := by
  obtain ⟨m, ys, e, n, g, a, c⟩ := h
  exact ⟨m, ys, e, n, b _ _ g fun q => pot_nlst hp (q ▸ g), a, c⟩
theorem MailN.upd {z : Str} {N : Nat} {D : Addr} {H : Hp} {v : V} {o : HO} (h : MailN z N D H v) : MailN z N D (upd H D o) v := by
  obtain ⟨m, ys, e, n, g, a, c⟩ := h
  exact ⟨m, ys, e, n, by rw [upd_ne n]; exact g, a, c⟩
/-- a new place is none of the mails' -/
theorem MailN.at_ {z : Str} {N : Nat} {D D' : Addr} {H : Hp} {v : V} (h : MailN z N D H v) (n : H D' = none) : MailN z N D' H v := by
  obtain ⟨m, ys, e, _, g, a, c⟩ := h
  exact ⟨m, ys, e, ne_of_none g n, g, a, c⟩
theorem MailN.mono {z : Str} {N N' : Nat} {D : Addr} {H : Hp} {v : V} (h : MailN z N D H v) (l : N ≤ N') : MailN z N' D H v := by
  obtain ⟨m, ys, e, n, g, a, c⟩ := h
  exact ⟨m, ys, e, n, g, a, Nat.le_trans c l⟩
def spBushAW : Sp := fun vs H Q E => ∃ d, d ≤ 3 ∧ spBushW d vs H Q E
end FL
namespace K68
open PySem PySem.Spec PyProof.Rows L2 FL
abbrev sRules : Stmt := topS 113
abbrev sTurn : Stmt := topS 114
/-- a rule in the heap -/
def TrpAt (z : Str) (H : Hp) (v : V) : Prop := ∃ (t : Addr) (a b e : Str), v = .ref t ∧ H t = some (.tup [.str a, .str b, .str e]) ∧ b.length ≤ 2 ∧ Over z e ∧ e.length ≤ 3
theorem TrpAt.same {z : Str} {H H' : Hp} {v : V} (h : TrpAt z H v) (s : Same H H') : TrpAt z H' v := by
  obtain ⟨t, a, b, e, r, g, o⟩ := h
  exact ⟨t, a, b, e, r, s _ _ g, o⟩
theorem TrpAt.but {z : Str} {H H' : Hp} {p : Addr} {v : V} (h : TrpAt z H v) (hp : PotAt H p) (c : But p H H') : TrpAt z H' v := by
  obtain ⟨t, a, b, e, r, g, o⟩ := h
  refine ⟨t, a, b, e, r, c _ _ g fun q => ?_, o⟩
  obtain ⟨_, _, q', _⟩ := hp
  rw [← q, g] at q'
  cases q'
theorem TrpAt.upd {z : Str} {H : Hp} {D : Addr} {xs : List V} {o : HO} {v : V} (h : TrpAt z H v) (hD : H D = some (.lst xs)) : TrpAt z (upd H D o) v := by
  obtain ⟨t, a, b, e, r, g, q⟩ := h
  refine ⟨t, a, b, e, r, ?_, q⟩
  rw [upd_ne fun k => by rw [k, hD] at g; cases g]
  exact g
def kindL : List Str := [Str.ofString "front", Str.ofString "front", Str.ofString "whole"]
def spRules : Sp := fun vs H Q _ => ∃ (p : Addr) (z : Str), vs = [.ref p, .str z] ∧ PotAt H p ∧ 0 < z.length ∧ z.length ≤ 1000 ∧
  ∀ (R : Addr) (rs : List V) (H' : Hp), H R = none → H' R = some (.lst rs) → (∀ v ∈ rs, TrpAt z H' v) → rs.length ≤ 3 → PotAt H' p → But p H H' → Q (.ref R) H'
def spTurn : Sp := fun vs H Q _ => ∃ (z : Str) (R : Addr) (rs : List V) (y : Str), vs = [.ref R, .str y] ∧ H R = some (.lst rs) ∧ (∀ v ∈ rs, TrpAt z H v) ∧ Over z y ∧ y.length ≤ 100 ∧
  ∀ y' : Str, Over z y' → y'.length ≤ y.length + 3 → Q (.str y') H
theorem drop_over {z y : Str} (h : Over z y) (n : Nat) : Over z (cutS y (some ((n : Nat) : Int)) none) := fun c hc => by
  rw [cut_drop] at hc
  exact h c (List.mem_of_mem_drop hc)
theorem drop_len {y : Str} (n : Nat) : (cutS y (some ((n : Nat) : Int)) none).length ≤ y.length := by
  have h : ∀ s : Str, s.length = s.cps.toList.length := fun s => rfl
  rw [h, h, cut_drop, List.length_drop]
  omega
section
variable {P : Program} {w : World} {K : PySem.W.Frag} {mg : Str → Option Value} {base : Heap}
theorem scRules : FnScope ["_law_pot_here", "_law_signs", "_law_found", "_law_turn_here", "_law_kind"] ["_law_pot_here", "_law_signs"] (defScope sRules) := ⟨rfl, rfl, rfl, by decide +kernel, rfl, by decide +kernel, by decide +kernel⟩
theorem ok_rules {f : Addr} {fd : FuncData} (F : Fun K "_law_rules" "_law_rules" sRules f fd) (mR : mg "range" = none) (cD : Ca P w K mg base "_law_draw" 1 ["_law_pot_here", "_law_many"] spDraw) (cP : Ca P w K mg base "_law_pick" 2 ["_law_pot_here", "_law_things"] (spPick K))
    (cL : Ca P w K mg base "_law_line" 3 ["_law_pot_here", "_law_signs", "_law_most"] spNote) : FnOk P w K mg base CX0 4 f fd ["_law_pot_here", "_law_signs"] spRules := by
  refine F.ok scRules (fun vs H Q E h => ?_) (fun cdv A outer s H vs Q E hr h => ?_)
  · obtain ⟨_, _, rfl, _⟩ := h
    rfl
  · obtain ⟨p, z, rfl, hp, zlo, zhi, k⟩ := h
    have nd := scRules.nd
    have sz : sizeLine = 16777216 := rfl
    have r1 := hr.mono (show 1 ≤ 3 by decide)
    have r2 := hr.mono (show 2 ≤ 3 by decide)
    refine ⟨_, pss_cons (ps_set (i := 2) nd rfl (.inl rfl) (pe_lst pa_nil))
      (pss_cons (ps_for PassesOwn.never rfl (pi_range1 (by rfl) mR (pa_cons (pe_ca cD r1 (by rfl) (pa_cons (pv 0) (pa_cons pe_int pa_nil))) pa_nil)) (pg_name (i := 3) nd rfl (.inl rfl))
        (pss_cons (ps_set (i := 4) nd rfl (.inl rfl) (pe_ca cP r2 (by rfl) (pa_cons (pv 0) (pa_cons (pe_lst (pa_cons pe_str (pa_cons pe_str (pa_cons pe_str pa_nil)))) pa_nil))))
        (pss_one (ps_expr (pe_bm PySem.F.plainAttrs_list PySem.F.slot_list_append PySem.F.type_list_append mtAppend (pv 2) (pa_cons (pe_tup (pa_cons (pv 4) (pa_cons (pe_ca cL hr (by rfl) (pa_cons (pv 0) (pa_cons (pv 1) (pa_cons pe_int pa_nil)))) (pa_cons (pe_ca cL hr (by rfl) (pa_cons (pv 0) (pa_cons (pv 1) (pa_cons pe_int pa_nil)))) pa_nil)))) pa_nil))))))
      (pss_one (ps_ret (pv 2)))), ?_⟩
    refine ⟨by decide, fun M hM => ?_⟩
    have npM : p ≠ M := hp.ne hM
    refine ⟨_, rfl, p, 4, rfl, hp.upd npM, by decide, by decide, fun d H3 d0 d1 p3 b3 => ?_⟩
    refine ⟨d, rfl, by omega, by omega, ?_⟩
    have gM := b3 M _ upd_same (Ne.symm npM)
    have B3 : But p H H3 := ((But.refl p H).upd hM).trans b3
    refine for_range (lo := 0) (n := d.toNat) (fun i σ Hi => ∃ (o3 o4 : Option V) (rs : List V), σ = [some (.ref p), some (.str z), some (.ref M), o3, o4] ∧ PotAt Hi p ∧ But p H Hi ∧ Hi M = some (.lst rs) ∧ rs.length = i ∧ ∀ v ∈ rs, TrpAt z Hi v) ?_ ?_ ?_
    · exact ⟨_, _, [], rfl, p3, B3, gM, rfl, fun _ h => nomatch h⟩
    · rintro i σ Hi hi ⟨o3, o4, rs, rfl, pi, bi, gMi, lr, hrs⟩
      have hi3 : i < 4 := by omega
      refine ⟨_, rfl, (by show 3 ≤ sizeLine; decide), fun L hL => ?_⟩
      have nLp := pi.ne hL
      refine ⟨p, _, rfl, pi.upd nLp, .inl ⟨L, kindL.map V.str, rfl, Ne.symm nLp, SqL.of upd_same, (by show 0 < 3; decide), (by show 3 ≤ 1000; decide), fun v H4 hv p4 b4 => ?_⟩⟩
      obtain ⟨kd, _, rfl⟩ := str_of_mem hv
      have B4 : But p Hi H4 := ((But.refl p Hi).upd hL).trans b4
      have gM4 := B4 M _ gMi (Ne.symm npM)
      refine ⟨_, rfl, .inl ⟨rfl, _, SqL.of gM4⟩, ?_⟩
      refine ⟨_, rfl, _, rfl, _, rfl, p, z, 2, rfl, p4, zlo, zhi, by decide, by decide, fun y5 H5 oy5 ly5 p5 b5 => ?_⟩
      refine ⟨_, rfl, _, rfl, p, z, 3, rfl, p5, zlo, zhi, by decide, by decide, fun y6 H6 oy6 ly6 p6 b6 => ?_⟩
      refine ⟨(by show 3 ≤ sizeLine; decide), fun T hT => ?_⟩
      have B6 : But p Hi H6 := (B4.trans b5).trans b6
      have gM6 := B6 M _ gMi (Ne.symm npM)
      have sT : Same H6 (upd H6 T (.tup [.str kd, .str y5, .str y6])) := (Same.refl H6).upd hT
      have gT : upd H6 T (.tup [.str kd, .str y5, .str y6]) T = some (.tup [.str kd, .str y5, .str y6]) := upd_same
      generalize upd H6 T (.tup [.str kd, .str y5, .str y6]) = H7 at sT gT ⊢
      have gM7 := sT _ _ gM6
      have p7 := FL.Same.pot sT p6
      refine ⟨M, _, _, rfl, rfl, gM7, by rw [lr, sz]; omega, ?_⟩
      refine ⟨_, _, rs ++ [.ref T], rfl, p7.upd npM, (bi.trans (B6.same sT)).upd hM, upd_same, by rw [List.length_append, lr]; rfl, fun x hx => ?_⟩
      rcases List.mem_append.mp hx with h | h
      · exact ((hrs x h).but pi (B6.same sT)).upd gM7
      · rw [List.mem_singleton.mp h]
        exact TrpAt.upd ⟨T, kd, y5, y6, rfl, gT, by omega, oy6, by omega⟩ gM7
    · rintro σ Hi ⟨o3, o4, rs, rfl, pi, bi, gMi, lr, hrs⟩
      refine ⟨_, rfl, ?_⟩
      exact k M rs Hi hM gMi hrs (by omega) pi bi
abbrev nTurn : List Str := ["_law_rules_here", "_law_line_here", "_law_kind", "_law_old", "_law_new"]
theorem scTurn : FnScope nTurn ["_law_rules_here", "_law_line_here"] (defScope sTurn) := ⟨rfl, rfl, rfl, by decide +kernel, rfl, by decide +kernel, by decide +kernel⟩
theorem ok_turn {f : Addr} {fd : FuncData} (F : Fun K "_law_turn" "_law_turn" sTurn f fd) (mN : mg "len" = none) : FnOk P w K mg base CX0 1 f fd ["_law_rules_here", "_law_line_here"] spTurn := by
  refine F.ok scTurn (fun vs H Q E h => ?_) (fun cdv A outer s H vs Q E hr h => ?_)
  · obtain ⟨_, _, _, _, rfl, _⟩ := h
    rfl
  · obtain ⟨z, R, rs, y, rfl, gR, hrs, oy, ly, k⟩ := h
    have nd := scTurn.nd
    have sz : sizeLine = 16777216 := rfl
    refine ⟨_, pss_cons (ps_for PassesOwn.never rfl (pi_list (pv 0)) (pg_tup rfl (pgs_cons (pg_name (i := 2) nd rfl (.inl rfl)) (pgs_cons (pg_name (i := 3) nd rfl (.inl rfl)) (pgs_cons (pg_name (i := 4) nd rfl (.inl rfl)) pgs_nil))))
        (pss_cons (ps_if (PW.pt (pw_and (pt_cmpR op_eq (pv 2) pe_str (nomark _)) (pw_and1 (pt_cmpR op_eq (pv 1) (pv 3) (nomark _))))) (pss_one (ps_ret (pv 4))) pss_nil)
        (pss_one (ps_if (PW.pt (pw_and (pt_cmpR op_eq (pv 2) pe_str (nomark _)) (pw_and1 (pt_cmpR op_eq (pe_slice sl_str (pv 1) po_none (po_some (pe_callB callLen (by rfl) mN PySem.boot_len (pa_cons (pv 3) pa_nil)))) (pv 3) (nomark _)))))
          (pss_one (ps_ret (pe_op op_add_str (pv 4) (pe_slice sl_str (pv 1) (po_some (pe_callB callLen (by rfl) mN PySem.boot_len (pa_cons (pv 3) pa_nil))) po_none)))) pss_nil))))
      (pss_one (ps_ret (pv 1))), ?_⟩
    refine ⟨_, rfl, R, rfl, ⟨_, SqL.of gR⟩, for_it (walk_list (xs := rs)) (fun i σ Hi => ∃ o2 o3 o4 : Option V, σ = [some (.ref R), some (.str y), o2, o3, o4] ∧ Hi = H) ?_ ?_ ?_ ?_⟩
    · exact ⟨_, _, _, rfl, rfl⟩
    · rintro i σ Hi _ ⟨_, _, _, _, rfl⟩
      exact SqL.of gR
    · rintro i x σ Hq Hi hi ⟨o2, o3, o4, rfl, rfl⟩ ⟨rfl, hx⟩
      obtain ⟨t, a, b, e, rfl, gt, lb, oe, le⟩ := hrs x (List.mem_of_getElem? hx)
      refine ⟨t, _, rfl, SqT.of gt, rfl, _, _, rfl, _, _, rfl, _, _, rfl, rfl, ?_⟩
      have fin : ∀ q : Str, Over z q → q.length ≤ y.length + 3 → Q (.str q) Hi := k
      refine ⟨_, rfl, rfl, _, rfl, ?_⟩
      by_cases h1 : V.str a = V.str (Str.ofString "whole")
      · refine iteYes h1 ?_
        refine ⟨_, rfl, _, rfl, rfl, _, rfl, ?_⟩
        by_cases h2 : V.str y = V.str b
        · refine iteYes h2 ?_
          exact ⟨_, rfl, fin e oe (by omega)⟩
        · refine iteNot h2 ?_
          refine ⟨_, rfl, rfl, _, rfl, ?_⟩
          by_cases h3 : V.str a = V.str (Str.ofString "front")
          · refine iteYes h3 ?_
            refine ⟨_, rfl, _, rfl, _, b.length, rfl, ⟨by rw [sz]; omega, rfl⟩, _, rfl, y, rfl, by rw [sz]; omega, _, rfl, rfl, _, rfl, ?_⟩
            by_cases h4 : V.str (cutS y none (some ((b.length : Nat) : Int))) = V.str b
            · refine iteYes h4 ?_
              have l4 := drop_len (y := y) b.length
              refine ⟨_, rfl, _, rfl, _, rfl, _, b.length, rfl, ⟨by rw [sz]; omega, rfl⟩, _, rfl, y, rfl, by rw [sz]; omega, _, _, rfl, rfl, by rw [sz]; omega, ?_⟩
              exact fin _ (over_app oe (drop_over oy _)) (by rw [len_app]; omega)
            · refine iteNot h4 ?_
              exact ⟨_, _, _, rfl, rfl⟩
          · refine iteNot h3 ?_
            refine iteF ?_
            exact ⟨_, _, _, rfl, rfl⟩
      · refine iteNot h1 ?_
        refine iteF ?_
        refine ⟨_, rfl, rfl, _, rfl, ?_⟩
        by_cases h3 : V.str a = V.str (Str.ofString "front")
        · refine iteYes h3 ?_
          refine ⟨_, rfl, _, rfl, _, b.length, rfl, ⟨by rw [sz]; omega, rfl⟩, _, rfl, y, rfl, by rw [sz]; omega, _, rfl, rfl, _, rfl, ?_⟩
          by_cases h4 : V.str (cutS y none (some ((b.length : Nat) : Int))) = V.str b
          · refine iteYes h4 ?_
            have l4 := drop_len (y := y) b.length
            refine ⟨_, rfl, _, rfl, _, rfl, _, b.length, rfl, ⟨by rw [sz]; omega, rfl⟩, _, rfl, y, rfl, by rw [sz]; omega, _, _, rfl, rfl, by rw [sz]; omega, ?_⟩
            exact fin _ (over_app oe (drop_over oy _)) (by rw [len_app]; omega)
          · refine iteNot h4 ?_
            exact ⟨_, _, _, rfl, rfl⟩
        · refine iteNot h3 ?_
          refine iteF ?_
          exact ⟨_, _, _, rfl, rfl⟩
    · rintro σ Hi ⟨o2, o3, o4, rfl, rfl⟩
      exact ⟨_, rfl, k y oy (by omega)⟩
end
end K68
namespace K68
open PySem PySem.Spec PyProof.Rows L2 FL
abbrev sWide : Stmt := topS 116
abbrev pWide : List Str := ["_law_pot_here", "_law_model_here", "_law_depth"]
abbrev nWide : List Str := ["_law_pot_here", "_law_model_here", "_law_depth", "_law_turn_here"]
def spWide (d : Nat) : Sp := fun vs H Q _ => ∃ (p m : Addr) (z : Str) (ms : List Str) (tl : Str) (c : Cares), vs = [.ref p, .ref m, .int ((d : Nat) : Int)] ∧ PotAt H p ∧ ModelAt H m z ms tl c ∧ RdOk z ms tl c ∧
  ∀ (v : V) (t : Bu (d + 1)) (H' : Hp), BuF (fun a => H a = none) H' (d + 1) v t → Alls (fun y => Over z y ∧ y.length ≤ 52) (d + 1) t → Few 7 (d + 1) t → PotAt H' p → But p H H' → Q v H'
def spWideA : Sp := fun vs H Q E => ∃ d, d ≤ 3 ∧ spWide d vs H Q E
section
variable {P : Program} {w : World} {K : PySem.W.Frag} {mg : Str → Option Value} {base : Heap}
theorem scWide : FnScope nWide pWide (defScope sWide) := ⟨rfl, rfl, rfl, by decide +kernel, rfl, by decide +kernel, by decide +kernel⟩
theorem ok_wide0 {f : Addr} {fd : FuncData} (F : Fun K "_law_wide_bush" "_law_wide_bush" sWide f fd) (mR : mg "range" = none) (cD : Ca P w K mg base "_law_draw" 1 ["_law_pot_here", "_law_many"] spDraw) (cN : Ca P w K mg base "_law_near_line" 4 ["_law_pot_here", "_law_model_here"] spNearW)
    (cP : Ca P w K mg base "_law_pick" 2 ["_law_pot_here", "_law_things"] (spPick K)) :
    FnOk P w K mg base CX0 5 f fd pWide (spWide 0) := by
  refine F.ok scWide (fun vs H Q E h => ?_) (fun cdv A outer s H vs Q E hr h => ?_)
  · obtain ⟨_, _, _, _, _, _, rfl, _⟩ := h
    rfl
  · obtain ⟨p, m, z, ms, tl, c, rfl, hp, mo, ok, k⟩ := h
    have nd := scWide.nd
    have hu := hu_of hr
    have sz : sizeLine = 16777216 := rfl
    have zlo := ok.az.lo
    have zhi := ok.az.hi
    obtain ⟨c0, c1, r, hcs⟩ := two_signs zlo
    have r1 := hr.mono (show 1 ≤ 4 by decide)
    have r2 := hr.mono (show 2 ≤ 4 by decide)
    refine ⟨_, pss_cons (ps_if (pt_cmpR op_eq (pv 2) pe_int (nomark _)) (pss_one (ps_ret (pe_lc (own := [("_law_turn_here", 3)]) (g := gName 3) (tt := tYes) rfl nd
        (pi_range1 (by rfl) mR (pa_cons (pe_ca cD r1 (by rfl) (pa_cons (pv 0) (pa_cons pe_int pa_nil))) pa_nil))
        (blkOk_by (N := nWide) (sc := defScope sWide) (by decide +kernel)) (fun _ _ _ _ _ => pg_name (i := 3) nd rfl (Or.inl rfl)) (fun _ _ _ _ _ => pts_nil)
        (fun _ _ _ _ _ => pe_op op_add_str (pe_ca cN hr (by rfl) (pa_cons (pv 0) (pa_cons (pv 1) pa_nil))) (pe_ca cP r2 (by rfl) (pa_cons (pv 0) (pa_cons (pe_lst (pa_cons pe_str (pa_cons pe_str (pa_cons (pe_op op_mul_str (pe_ix ix_str (pe_dget hu (pv 1) pe_str (fun _ _ => rfl)) pe_int (fun _ _ => rfl)) pe_int) pa_nil)))) pa_nil))))))) pss_nil)
      (pss_one ps_never), ?_⟩
    refine ⟨_, rfl, rfl, _, rfl, ?_⟩
    refine iteYes rfl ?_
    refine ⟨_, rfl, p, 8, rfl, hp, by omega, by omega, fun n H1 n0 n1 p1 b1 => ?_⟩
    refine ⟨n, rfl, by omega, by omega, fun D hD => ?_⟩
    have npD : p ≠ D := p1.ne hD
    have hD0 : H D = none := But.new b1 hp hD p1
    refine lc_range (lo := 0) (n := n.toNat) (fun i Hi => PotAt Hi p ∧ But p H Hi ∧ ∃ ys : List (Bu 0), Hi D = some (.lst (ys.map fun y => V.str (ln y))) ∧ ys.length = i ∧ ∀ y ∈ ys, Over z (ln y) ∧ (ln y).length ≤ 52) ?_ ?_ ?_
    · exact ⟨p1.upd npD, b1.upd hD0, [], upd_same, rfl, fun _ h => nomatch h⟩
    · rintro i Hi hi ⟨pi, bi, ys, gD, ly, hy⟩
      refine ⟨rfl, ?_⟩
      refine ⟨_, rfl, _, rfl, p, m, z, ms, tl, c, rfl, pi, mo.but hp bi, ok, fun y H2 oy l7 p2 b2 => ?_⟩
      obtain ⟨ma, hd, hma⟩ := mo.but hp (bi.trans b2)
      refine ⟨_, rfl, _, rfl, m, _, rfl, dget_of hd (model_signs z ma tl c), z, 0, c0, rfl, rfl, by rw [sz]; omega, by rw [hcs]; exact atI_0, _, 36, rfl, rfl, by decide, by decide, (by rw [len_one]; decide), (by rw [len_one]; decide), ?_⟩
      refine ⟨(by show 3 ≤ sizeLine; decide), fun L hL => ?_⟩
      have nLp := p2.ne hL
      refine ⟨p, _, rfl, p2.upd nLp, .inl ⟨L, [Str.ofString "", Str.ofString "", repS ⟨#[c0]⟩ 36].map V.str, rfl, Ne.symm nLp, SqL.of upd_same, (by show 0 < 3; decide), (by show 3 ≤ 1000; decide), fun v H4 hv p4 b4 => ?_⟩⟩
      obtain ⟨u, hu4, rfl⟩ := str_of_mem hv
      have ou : Over z u ∧ u.length ≤ 36 := by
        rcases List.mem_cons.mp hu4 with rfl | hu4
        · exact ⟨fun c hc => absurd hc (by show c ∉ ([] : List Nat); exact List.not_mem_nil), by decide⟩
        rcases List.mem_cons.mp hu4 with rfl | hu4
        · exact ⟨fun c hc => absurd hc (by show c ∉ ([] : List Nat); exact List.not_mem_nil), by decide⟩
        rw [List.mem_singleton.mp hu4]
        exact ⟨over_rep (by rw [hcs]; exact List.mem_cons_self), by rw [rep_len]; exact Nat.le_refl _⟩
      have B4 : But p Hi H4 := (b2.upd (But.new b2 pi hL p2)).trans b4
      have gD4 := B4 D _ gD (Ne.symm npD)
      refine ⟨_, _, rfl, rfl, by rw [sz]; omega, ?_⟩
      refine ⟨_, gD4, by rw [List.length_map, ly, sz]; omega, p4.upd npD, (bi.trans B4).upd hD0, ys ++ [@id (Bu 0) (y ++ u : Str)], ?_, ?_, ?_⟩
      · rw [upd_same, List.map_append]
        rfl
      · rw [List.length_append, ly]
        rfl
      · intro x hx
        rcases List.mem_append.mp hx with q | q
        · exact hy x q
        · rw [List.mem_singleton.mp q]
          exact ⟨over_app oy ou.1, by show (y ++ u : Str).length ≤ 52; rw [len_app]; omega⟩
    · rintro Hi ⟨pi, bi, ys, gD, ly, hy⟩
      exact k (.ref D) (ys : Bu 1) Hi ⟨D, _, rfl, hD0, gD, bu0_new ys⟩ (fun y hy' => hy y hy') ⟨by show ys.length ≤ 7; omega, fun _ _ => trivial⟩ pi bi
theorem ok_wideS {f : Addr} {fd : FuncData} {n : Nat} (F : Fun K "_law_wide_bush" "_law_wide_bush" sWide f fd) (bF : Binds K fd pWide []) (mF : mg "_law_wide_bush" = some (.ref f)) (mR : mg "range" = none) (cD : Ca P w K mg base "_law_draw" 1 ["_law_pot_here", "_law_many"] spDraw)
    (ih : FnOk P w K mg base CX0 (5 + n) f fd pWide (spWide n)) : FnOk P w K mg base CX0 (5 + n + 1) f fd pWide (spWide (n + 1)) := by
  refine F.ok scWide (fun vs H Q E h => ?_) (fun cdv A outer s H vs Q E hr h => ?_)
  · obtain ⟨_, _, _, _, _, _, rfl, _⟩ := h
    rfl
  · obtain ⟨p, m, z, ms, tl, c, rfl, hp, mo, ok, k⟩ := h
    have nd := scWide.nd
    have sz : sizeLine = 16777216 := rfl
    have r1 := hr.mono (show 1 ≤ 5 + n by omega)
    refine ⟨_, pss_cons (ps_if (pt_cmpR op_eq (pv 2) pe_int (nomark _)) (pss_one ps_never) pss_nil)
      (pss_one (ps_ret (pe_lc (own := [("_law_turn_here", 3)]) (g := gName 3) (tt := tYes) (te := tCall (spWide n) [] E0 (tCons (tVar 0) (tCons (tVar 1) (tCons (tOp (rI0 fun i j => V.int (i - j)) (tVar 2) (tC (V.int 1))) tNil)))) rfl nd
        (pi_range1 (by rfl) mR (pa_cons (pe_ca cD r1 (by rfl) (pa_cons (pv 0) (pa_cons (pe_ifExp (pt_cmpR op_lt (pv 2) pe_int (nomark _)) pe_int pe_int) pa_nil))) pa_nil))
        (blkOk_by (N := nWide) (sc := defScope sWide) (by decide +kernel)) (fun _ _ _ _ _ => pg_name (i := 3) nd rfl (Or.inl rfl)) (fun _ _ _ _ _ => pts_nil)
        (fun _ _ _ _ _ => pe_call ih hr (by rfl) mF F.kp bF .nil pass0 (pa_cons (pv 0) (pa_cons (pv 1) (pa_cons (pe_op op_sub (pv 2) pe_int) pa_nil))))))), ?_⟩
    refine ⟨_, rfl, rfl, _, rfl, ?_⟩
    refine iteNot (fun e => by have := V.int.inj e; omega) ?_
    refine ⟨_, rfl, _, rfl, _, _, rfl, rfl, _, rfl, ?_⟩
    obtain ⟨mx, mx1, mx2, hmx⟩ : ∃ mx : Int, 0 < mx ∧ mx ≤ 8 ∧ ∀ {σ : L2.St} {H0 : Hp} {Q0 : VK}, tC (V.int mx) σ H0 Q0 → (if decide (((n + 1 : Nat) : Int) < 3) = true then tC (V.int 8) σ H0 Q0 else tC (V.int 5) σ H0 Q0) := by
      by_cases q : ((n + 1 : Nat) : Int) < 3
      · exact ⟨8, by decide, by decide, fun h => by rw [decide_eq_true q, if_pos rfl]; exact h⟩
      · exact ⟨5, by decide, by decide, fun h => by rw [decide_eq_false q, if_neg (by decide)]; exact h⟩
    refine hmx ?_
    refine ⟨p, mx, rfl, hp, mx1, by omega, fun q H1 n0 n1 p1 b1 => ?_⟩
    refine ⟨q, rfl, by omega, by omega, fun D hD => ?_⟩
    have npD : p ≠ D := p1.ne hD
    have hD0 : H D = none := But.new b1 hp hD p1
    refine lc_range (lo := 0) (n := q.toNat) (fun i Hi => PotAt Hi p ∧ But p H Hi ∧ ∃ (xs : List V) (ts : List (Bu (n + 1))), Hi D = some (.lst xs) ∧ Paired (BuF (fun a => H a = none ∧ a ≠ D) Hi (n + 1)) xs ts ∧ ts.length = i ∧ ∀ t ∈ ts, Alls (fun y => Over z y ∧ y.length ≤ 52) (n + 1) t ∧ Few 7 (n + 1) t) ?_ ?_ ?_
    · exact ⟨p1.upd npD, b1.upd hD0, [], [], upd_same, .nil, rfl, fun _ h => nomatch h⟩
    · rintro i Hi hi ⟨pi, bi, xs, ts, gD, hx, lt', ht⟩
      have lx := paired_len hx
      refine ⟨rfl, ?_⟩
      refine ⟨_, rfl, _, rfl, _, rfl, _, _, rfl, rfl, p, m, z, ms, tl, c, ?_, pi, mo.but hp bi, ok, fun v t H2 hb al few p2 b2 => ?_⟩
      · show [V.ref p, V.ref m, V.int (((n + 1 : Nat) : Int) - 1)] = _
        rw [show (((n + 1 : Nat) : Int) - 1) = ((n : Nat) : Int) by omega]
      · have gD2 := b2 D _ gD (Ne.symm npD)
        refine ⟨xs, gD2, by rw [lx, sz]; omega, p2.upd npD, (bi.trans b2).upd hD0, xs ++ [v], ts ++ [t], upd_same, ?_, by rw [List.length_append, lt']; rfl, fun x hx' => ?_⟩
        · refine paired_snoc (paired_imp hx fun x y h => ?_) ?_
          · exact BuF.imp (fun _ h => h) (fun a ws ha e => by rw [upd_ne ha.2]; exact e) (BuF.but pi b2 h)
          · refine BuF.imp (fun a ha => ⟨But.new bi hp ha pi, fun e => ?_⟩) (fun a ws ha e => ?_) hb
            · rw [upd_ne fun e' => by rw [e', gD] at ha; cases ha]
              exact e
            · rw [e, gD] at ha
              cases ha
        · rcases List.mem_append.mp hx' with h | h
          · exact ht x h
          · rw [List.mem_singleton.mp h]
            exact ⟨al, few⟩
    · rintro Hi ⟨pi, bi, xs, ts, gD, hx, lt', ht⟩
      exact k (.ref D) (ts : Bu (n + 2)) Hi ⟨D, xs, rfl, hD0, gD, paired_imp hx fun _ _ h => BuF.imp (fun _ h => h.1) (fun _ _ _ e => e) h⟩ (fun t h => (ht t h).1) ⟨by show ts.length ≤ 7; omega, fun t h => (ht t h).2⟩ pi bi
theorem ok_wide {f : Addr} {fd : FuncData} (F : Fun K "_law_wide_bush" "_law_wide_bush" sWide f fd) (bF : Binds K fd pWide []) (mF : mg "_law_wide_bush" = some (.ref f)) (mR : mg "range" = none) (cD : Ca P w K mg base "_law_draw" 1 ["_law_pot_here", "_law_many"] spDraw) (cN : Ca P w K mg base "_law_near_line" 4 ["_law_pot_here", "_law_model_here"] spNearW)
    (cP : Ca P w K mg base "_law_pick" 2 ["_law_pot_here", "_law_things"] (spPick K)) :
    ∀ n, FnOk P w K mg base CX0 (5 + n) f fd pWide (spWide n)
  | 0 => ok_wide0 F mR cD cN cP
  | n + 1 => ok_wideS F bF mF mR cD (ok_wide F bF mF mR cD cN cP n)
theorem wide_any {f : Addr} {fd : FuncData} (c : ∀ n, FnOk P w K mg base CX0 (5 + n) f fd pWide (spWide n)) : FnOk P w K mg base CX0 8 f fd pWide spWideA :=
  ⟨fun vs H Q E ⟨d, _, h⟩ => (c d).len vs H Q E h, fun A o s H a us vs Q E hr he hb hv ⟨d, hd, h⟩ => (c d).run A o s H a us vs Q E (hr.mono (by omega)) he hb hv h⟩
end
end K68
namespace K68
open PySem PySem.Spec PyProof.Rows L2 FL
abbrev sMailR : Stmt := topS 117
theorem HeardAt.same {K : PySem.W.Frag} {H0 H H' : Hp} {v : V} : ∀ {o : Option (List Ro)}, HeardAt K H0 H v o → Same H H' → HeardAt K H0 H' v o
  | none, h, _ => h
  | some rs, ⟨L, ts, e, n, g, p⟩, s => ⟨L, ts, e, n, s _ _ g, paired_imp p fun _ _ q => RoAt.imp (NL.same s) q⟩
theorem read_sz {n : Nat} {rs : List Ro} {ys : List Str} {m : Nat} (h : ys.length ≤ m) : szB (n + 2) (grownB (n + 1) (rs.zip ys)) ≤ 2 + 2 * m := by
  have h1 : szB (n + 2) (grownB (n + 1) (rs.zip ys)) ≤ 2 + 2 * (rs.zip ys).length := sz_grown
  have h2 : (rs.zip ys).length ≤ ys.length := by rw [List.length_zip]; exact Nat.min_le_right _ _
  omega
theorem read_alls {n : Nat} {rs : List Ro} {ys : List Str} {p : Str → Prop} (h : ∀ y ∈ ys, p y) : Alls p (n + 2) (grownB (n + 1) (rs.zip ys)) := alls_grown fun q hq => h q.2 (List.of_mem_zip hq).2
theorem eqvT {d : Nat} {t : Bu d} {m : Nat} (h : Sm m (buD d t)) : PyData.eqv (buD d t) (buD d t) = true := by
  rw [SeqAt.eqv_refl]
  exact h.cl
theorem dp_rolesN {K : PySem.W.Frag} {H : Hp} {a : Addr} {xs : List V} {rs : List Ro} (h : H a = some (.lst xs)) (p : Paired (RoAt K H) xs rs) : Dp K H (.ref a) (rolesD rs) := dp_roles h p
theorem sm_rolesN {rs : List Ro} (h : ∀ r ∈ rs, (r.1 = lineW ∨ r.1 = nextW ∨ r.1 = endW) ∧ r.2 ≤ 3) : Sm (102 * rs.length + 2) (rolesD rs) := by
  have hl := SmL.all (k := 1) (m := 100) (xs := rs) (f := roleD) fun r hr => by
    obtain ⟨p, l⟩ := wd_plain (h r hr).1
    exact ⟨(Sm.tuple (k := 0) (SmL.cons ((Sm.str p).mono (show _ ≤ 42 by omega)) (Nat.le_refl _) (SmL.cons (sm_nat _ (h r hr).2) (Nat.le_refl _) SmL.nil)) (by decide)).mono (by omega), Nat.le_refl _⟩
  exact Sm.list hl (by decide)
theorem tells_ok {ms : List Str} {tl : Str} {c : Cares} {ys : List Str} {rs : List Ro} (h1 : 1 ≤ ms.length) (h3 : ms.length ≤ 3) (e : tellingL ms tl c ys = some rs) : ∀ r ∈ rs, (r.1 = lineW ∨ r.1 = nextW ∨ r.1 = endW) ∧ r.2 ≤ 3 := fun r hr => by
  obtain ⟨ers, _⟩ := telling_go e
  rw [ers] at hr
  obtain ⟨q, hq, rfl⟩ := List.mem_map.mp hr
  obtain ⟨_, a, b⟩ := go_ok (sd_start h1) q hq
  exact ⟨a, by omega⟩
/-- what telling gives, told or not -/
def spTellingH (C : Addr) (K : PySem.W.Frag) : Sp := fun vs H Q _ => ∃ (p : Addr) (z : Str) (ms : List Str) (tl : Str) (c : Cares) (m : Addr) (b : Bool) (ys : List Str), vs = [.ref p, .ref m] ∧ ReaderAt C H p z ms tl c ∧ RdOk z ms tl c ∧ MsgAt H m b ys ∧ MsgOk z ys ∧
  ∀ (hv : V) (H' : Hp), Same H H' → HeardAt K H H' hv (tellingL ms tl c ys) → Q hv H'
theorem telling_h {P : Program} {w : World} {K : PySem.W.Frag} {mg : Str → Option Value} {base : Heap} {C f : Addr} {fd : FuncData} {k : Nat} {ps : List Str} (h : FnOk P w K mg base CX0 k f fd ps (spTellingOf C K)) : FnOk P w K mg base CX0 k f fd ps (spTellingH C K) := by
  have conv : ∀ {vs : List V} {H : Hp} {Q : VK} {E : XK}, spTellingH C K vs H Q E → spTellingOf C K vs H Q E := by
    rintro vs H Q E ⟨p, z, ms, tl, c, m, b, ys, e, ra, om, hm, ok, k⟩
    exact ⟨p, z, ms, tl, c, m, b, ys, e, ra, om, hm, ok, fun e H' s => k _ H' s (by rw [e]; rfl), fun rs e H' L ts s nL gL h => k _ H' s (by rw [e]; exact ⟨L, ts, rfl, nL, gL, h⟩)⟩
  exact ⟨fun vs H Q E q => h.len vs H Q E (conv q), fun A o s H a us vs Q E hr he hb hv q => h.run A o s H a us vs Q E hr he hb hv (conv q)⟩
def heardD : Option (List Ro) → PyData
  | none => .none
  | some rs => rolesD rs
theorem HeardAt.dp {K : PySem.W.Frag} {H0 H : Hp} {v : V} : ∀ {o : Option (List Ro)}, HeardAt K H0 H v o → Dp K H v (heardD o)
  | none, h => by
    obtain rfl : v = .non := h
    exact .non
  | some rs, ⟨L, ts, e, _, g, p⟩ => by
    subst e
    exact dp_roles g p
theorem sm_heard {ms : List Str} {tl : Str} {c : Cares} {ys : List Str} (h1 : 1 ≤ ms.length) (h3 : ms.length ≤ 3) : Sm (102 * ys.length + 4) (heardD (tellingL ms tl c ys)) := by
  cases e : tellingL ms tl c ys with
  | none =>
    have : Sm 4 PyData.none := ⟨rfl, rfl, rfl, by decide, by decide +kernel⟩
    exact this.mono (by omega)
  | some rs =>
    obtain ⟨ers, lg⟩ := telling_go e
    have l : rs.length = ys.length := by rw [ers, List.length_map, lg]
    exact (sm_rolesN (tells_ok h1 h3 e)).mono (by omega)
def standD (s : Sd) : PyData := .tuple [.int ((s.1 : Nat) : Int), .str s.2]
def standsD (ss : List Sd) : PyData := .list (ss.map standD)
theorem stands_dp {K : PySem.W.Frag} {H : Hp} {a : Addr} {xs : List V} {ss : List Sd} (h : H a = some (.lst xs)) (p : Paired (SdAt K H) xs ss) : Dp K H (.ref a) (standsD ss) := by
  refine .lst (SqL.of h) (dp_paired (fun v r q => ?_) p)
  obtain ⟨t, rfl, ht⟩ := q
  exact SqT.dp ht
theorem sd_plain {w : Str} (h : w = waitW ∨ w = bodyW) : Plain w ∧ w.length ≤ 4 := by
  have e : (∀ c ∈ waitW.cps.toList, c < 128) ∧ (∀ c ∈ bodyW.cps.toList, c < 128) ∧ waitW.length ≤ 4 ∧ bodyW.length ≤ 4 := by decide +kernel
  obtain ⟨a, b, c, d⟩ := e
  rcases h with rfl | rfl
  · exact ⟨a, c⟩
  · exact ⟨b, d⟩
theorem sm_stands {n : Nat} (hn : n ≤ 3) {ss : List Sd} (h : ∀ s ∈ ss, SdOk n s) : Sm (102 * ss.length + 2) (standsD ss) := by
  have hl := SmL.all (k := 1) (m := 100) (xs := ss) (f := standD) fun s hs => by
    obtain ⟨p, l⟩ := sd_plain (h s hs).wd
    have := (h s hs).hi
    exact ⟨(Sm.tuple (k := 0) (SmL.cons (sm_nat s.1 (by omega)) (Nat.le_refl _) (SmL.cons ((Sm.str p).mono (show _ ≤ 42 by omega)) (Nat.le_refl _) SmL.nil)) (by decide)).mono (by omega), Nat.le_refl _⟩
  exact Sm.list hl (by decide)
theorem sm_trail {ms : List Str} {tl : Str} {c : Cares} {ys : List Str} (h1 : 1 ≤ ms.length) (h3 : ms.length ≤ 3) : Sm (102 * (ys.length + 1) + 2) (standsD (standsL ms tl c ys)) := by
  have ok0 : SdOk ms.length (1, waitW) := sd_start h1
  have lg := go_len (ms := ms) (tl := tl) (c := c) (ys := ys) (s := (1, waitW))
  have hs : ∀ s ∈ standsL ms tl c ys, SdOk ms.length s := fun s hs => by
    rcases List.mem_cons.mp hs with rfl | hs
    · exact ok0
    · obtain ⟨q, hq, rfl⟩ := List.mem_map.mp hs
      exact (go_ok ok0 q hq).1
  have ls : (standsL ms tl c ys).length ≤ ys.length + 1 := by unfold standsL; rw [List.length_cons, List.length_map]; omega
  exact (sm_stands h3 hs).mono (by omega)
def readD (n : Nat) (ys : List Str) : Option (List Ro) → PyData
  | none => .none
  | some rs => buD (n + 2) (grownB (n + 1) (rs.zip ys))
theorem ReadAt.dp {K : PySem.W.Frag} {H0 H : Hp} {v : V} {n : Nat} {ys : List Str} : ∀ {o : Option (List Ro)}, ReadAt H0 H v n ys o → Dp K H v (readD n ys o)
  | none, h => by
    obtain rfl : v = .non := h
    exact .non
  | some rs, ⟨F, tr, _, _⟩ => BuAt.dp tr.at_
theorem sm_read {z : Str} (az : Abc z) {n : Nat} (hn : n ≤ 2) {ys : List Str} (h : ∀ y ∈ ys, Over z y ∧ y.length ≤ 100) : ∀ o : Option (List Ro), ∃ m, Sm m (readD n ys o)
  | none => by
    show ∃ m, Sm m PyData.none
    exact ⟨4, ⟨rfl, rfl, rfl, by decide, by decide +kernel⟩⟩
  | some rs => by
    obtain ⟨mm, _, sm⟩ := bu_smZ (c := 1004) (by decide) (d := n + 2) (t := grownB (n + 1) (rs.zip ys)) (by omega) (Alls.imp (fun y hy => ⟨az.plain hy.1, by omega⟩) (read_alls h))
    exact ⟨mm, sm⟩
theorem eqvS {m : Nat} {d : PyData} (h : Sm m d) : PyData.eqv d d = true := eqv_self h
def spMailR (C : Addr) : Sp := fun vs H Q _ => ∃ (d q : Addr) (z : Str) (ms : List Str) (tl : Str) (c : Cares) (m : Addr) (ys : List Str), vs = [.ref d, .ref q, .ref m] ∧ ModelAt H d z ms tl c ∧ RdOk z ms tl c ∧ ReaderAt C H q z ms tl c ∧ H m = some (.lst (ys.map V.str)) ∧ (∀ y ∈ ys, Over z y ∧ y.length ≤ 100) ∧ ys.length ≤ 4500 ∧
  ∀ H', Same H H' → Q (.bl true) H'
section
variable {P : Program} {w : World} {K : PySem.W.Frag} {mg : Str → Option Value} {base : Heap}
abbrev nMailR : List Str := ["_law_model_here", "_law_rd", "_law_mail_here", "_law_due_here", "_law_trail"]
theorem scMailR : FnScope nMailR ["_law_model_here", "_law_rd", "_law_mail_here"] (defScope sMailR) := ⟨rfl, rfl, rfl, by decide +kernel, rfl, by decide +kernel, by decide +kernel⟩
theorem ok_mailr {f : Addr} {fd : FuncData} (F : Fun K "_law_mail_right" "_law_mail_right" sMailR f fd) (R : RdF P w K mg base)
    (cL : Ca P w K mg base "_law_told" 5 ["_law_model_here", "_law_mail_here"] (spLTold K)) (cH : Ca P w K mg base "telling" 9 ["reader", "message"] (spTellingH R.C K)) (cC : Ca P w K mg base "course" 9 ["reader", "message"] (spCourse R.C K))
    (cT : Ca P w K mg base "tree_read" 9 ["reader", "message"] (spTreeRead R.C)) (cG : Ca P w K mg base "_law_grown" 1 ["_law_model_here", "_law_heard", "_law_mail_here"] (spGrown K)) :
    FnOk P w K mg base CX0 10 f fd ["_law_model_here", "_law_rd", "_law_mail_here"] (spMailR R.C) := by
  refine F.ok scMailR (fun vs H Q E h => ?_) (fun cdv A outer s H vs Q E hr h => ?_)
  · obtain ⟨_, _, _, _, _, _, _, _, rfl, _⟩ := h
    rfl
  · obtain ⟨d, q, z, ms, tl, c, m, ys, rfl, mo, om, ra, hm, hys, few, k⟩ := h
    have nd := scMailR.nd
    have r1 := hr.mono (show 1 ≤ 9 by decide)
    have r5 := hr.mono (show 5 ≤ 9 by decide)
    have mlo := om.ms.lo
    have mhi := om.ms.hi
    obtain ⟨n, en⟩ : ∃ n, ms.length = n + 1 := ⟨ms.length - 1, by omega⟩
    have mok : MsgOk z ys := ⟨fun y hy => (hys y hy).1, fun y hy => by have := (hys y hy).2; omega, by omega⟩
    have smH := sm_heard (tl := tl) (c := c) (ys := ys) mlo mhi
    have smC := sm_trail (tl := tl) (c := c) (ys := ys) mlo mhi
    obtain ⟨mr, smR⟩ := sm_read om.az (n := n) (by omega) hys (tellingL ms tl c ys)
    refine ⟨_, pss_cons (ps_asg (pe_ca cL r5 (by rfl) (pa_cons (pv 0) (pa_cons (pv 2) pa_nil))) (pg_tup rfl (pgs_cons (pg_name (i := 3) nd rfl (.inl rfl)) (pgs_cons (pg_name (i := 4) nd rfl (.inl rfl)) pgs_nil))))
      (pss_cons (ps_if (PW.pt (pw_or (pt_cmpR (op_neD hr.units) (pe_ca cH hr (by rfl) (pa_cons (pv 1) (pa_cons (pv 2) pa_nil))) (pv 3) (nomark _))
          (pw_or1 (pt_cmpR (op_neD hr.units) (pe_ca cC hr (by rfl) (pa_cons (pv 1) (pa_cons (pv 2) pa_nil))) (pv 4) (nomark _))))) (pss_one (ps_ret pe_bl)) pss_nil)
      (pss_one (ps_ret (pe_cmpR (op_eqD hr.units) (pe_ca cT hr (by rfl) (pa_cons (pv 1) (pa_cons (pv 2) pa_nil)))
        (pe_ifExp (pt_cmpR op_isN (pv 3) pe_non (nomark _)) pe_non (pe_ca cG r1 (by rfl) (pa_cons (pv 0) (pa_cons (pv 3) (pa_cons (pv 2) pa_nil))))) (nomark _))))), ?_⟩
    refine ⟨_, rfl, _, rfl, d, z, ms, tl, c, m, ys, rfl, mo, om, hm, mok, fun H1 T S1 hv1 xs1 s1 gT hS1 gS1 hx1 hh1 => ?_⟩
    refine ⟨T, _, rfl, SqT.of gT, rfl, _, _, rfl, _, _, rfl, rfl, ?_⟩
    refine ⟨_, rfl, _, rfl, q, z, ms, tl, c, m, false, ys, rfl, ra.same s1, om, s1 _ _ hm, mok, fun hv2 H2 s2 hh2 => ?_⟩
    have s02 := s1.trans s2
    have hh1 := hh1.same s2
    refine ⟨_, rfl, _, _, HeardAt.dp hh2, HeardAt.dp hh1, smH.shaped, smH.shaped, _, rfl, ?_⟩
    rw [eqvS smH]
    refine iteF ?_
    refine ⟨_, rfl, _, rfl, q, z, ms, tl, c, m, false, ys, rfl, ra.same s02, om, s02 _ _ hm, mok, fun H3 S2 xs2 s3 hS2 gS2 hx2 => ?_⟩
    have s03 := s02.trans s3
    have hh1 := hh1.same s3
    have s13 := s2.trans s3
    refine ⟨_, rfl, _, _, stands_dp gS2 hx2, stands_dp (s13 _ _ gS1) (Sds.imp (NL.same s13) hx1), smC.shaped, smC.shaped, _, rfl, ?_⟩
    rw [eqvS smC]
    refine iteF ?_
    refine ⟨_, rfl, _, rfl, q, z, ms, tl, c, m, false, ys, n, rfl, ra.same s03, om, s03 _ _ hm, mok, en, fun back H4 s4 hb => ?_⟩
    have s04 := s03.trans s4
    have hh1 := hh1.same s4
    cases eo : tellingL ms tl c ys with
    | none =>
      rw [eo] at hb hh1 smR
      obtain rfl : hv1 = .non := hh1
      obtain rfl : back = .non := hb
      refine ⟨_, rfl, rfl, _, rfl, ?_⟩
      refine iteYes rfl ?_
      refine ⟨_, _, .non, .non, smR.shaped, smR.shaped, ?_⟩
      have ev : PyData.eqv .none .none = true := eqvS smR
      rw [ev]
      exact k _ s04
    | some rs =>
      rw [eo] at hb hh1 smR
      obtain ⟨L, ts, rfl, nL, gL, hts⟩ := hh1
      refine ⟨_, rfl, rfl, _, rfl, ?_⟩
      refine iteNot (fun e => by cases e) ?_
      refine ⟨_, rfl, _, rfl, _, rfl, d, z, ms, tl, c, L, ts, rs, m, ys, n, rfl, mo.same s04, om, en, gL, hts, eo, s04 _ _ hm, by omega, fun due H5 s5 hd => ?_⟩
      refine ⟨_, _, ReadAt.dp (hb.same s5), ReadAt.dp hd, smR.shaped, smR.shaped, ?_⟩
      rw [eqvS smR]
      exact k _ (s04.trans s5)
end
end K68
namespace FL
open PySem PySem.Spec PyProof.Rows L2 FL
/-! ### a def with keyword-only defaults, some of them written -/
theorem kbd_of {K : PySem.W.Frag} {x qual : Str} {params : Arguments} {body : List Stmt} {scope : Scope} {kws : List (Str × V)} {f : Addr} {fd : FuncData} {ps : List Str} (F : FunD K x qual params body scope [] kws f fd) (n : Nat) (ks : List Str) (ms : List (Str × V)) (g : {α : Type} → List α → List α → List α → List α) (hk : kws ≠ []) (hms : ∀ q ∈ ms, q ∈ kws)
    (hrel : ∀ {vs mz zs : List V} {us mv ws : List Value}, Vals vs us → Vals mz mv → Vals zs ws → Vals (g vs mz zs) (g us mv ws))
    (h : ∀ (D : Addr) (doc pm : Value) (an : Option Addr) (cdv ct : Value) (us mv ws : List Value), us.length = n → mv.length = ms.length → ws.length = ks.length →
      KwChain D ((ms.map (·.1)).zip mv) (bindArgs (PySem.W.fnOf x qual params body scope .none (.ref D) doc pm an cdv ct) ⟨us, ks.zip ws⟩) (ps.zip (g us mv ws))) :
    ∃ mv : List Value, KBn K fd ps n ks (fun us ws => g us mv ws) (fun vs zs => g vs (ms.map (·.2)) zs) := by
  obtain ⟨oc, od, dV, kV, doc, pm, an, cdv, ct, osl, rfl, lk, hcd, hD, hK⟩ := F.ex
  rcases hD with ⟨_, rfl⟩ | ⟨e, _⟩
  · rcases hK with e | ⟨D, rfl, hq⟩
    · exact absurd e hk
    · obtain ⟨mv, hl, rk, hks⟩ := kwd_vals (ms := ms) fun q hm => hq q (hms q hm)
      refine ⟨mv, ⟨fun s us ws X l1 l2 => ?_, fun r1 r2 => hrel r1 rk r2⟩⟩
      exact BindsTo.of_looks fun M => KwChain.looks X hks (h D doc pm an cdv ct us mv ws l1 hl l2)
  · exact absurd rfl e
end FL
namespace FL
open PySem PySem.Spec PyProof.Rows L2 FL
section
variable {X : Cx} {x : Str} {k : Nat} {ps : List Str} {sp : Sp} {p pos : Pos} {f : Addr} {fd : FuncData} {C : CXT} {E : XK} {ds : List Value} {dvs : List V}
/-- a def called without arguments, the guards empty -/
theorem pg_call0 (F : FnG X.prog X.w X.K X.mg X.base C k f fd ps sp) (hr : Room k X.A) (hG : X.A.guards = some [])
    (hg : Gl X x) (hm : X.mg x = some (.ref f)) (hk : PySem.W.keepIn X.K (.ref f) = true)
    (hb : Binds X.K fd ps ds) (hd : Vals dvs ds) (hx : Passes C X E) (hdb : (x == ("__debug__" : Str)) = false := by decide) :
    PE X (.Call (.Name x p) [] [] pos) (tCall sp dvs E tNil) := by
  constructor
  intro pins s σ H Q I h
  refine wpAny_Call_Name_kw (ld_glob I hg hm ?_ hdb)
  refine PySem.W.callWith_K0 I.kIn hk ?_
  have hl : ds.length = ps.length := by
    rw [← hd.length]
    exact F.size _ _ _ _ h
  have run := F.goes X.A X.stack s H ⟨[], []⟩ ds dvs Q E hr hG I.env0 (hb s [] I.kIn hl) hd h
  refine wpAny_call (codeAny_mono run ?_)
  rintro (er | fl) s2 z
  · exact hx pins σ H s er s2 I z
  · cases fl with
    | ret u => exact I.after z
    | _ => exact False.elim z
theorem pe_cg0 (c : CaG X.prog X.w X.K X.mg X.base x k ps sp) (hr : Room k X.A) (hG : X.A.guards = some []) (hg : Gl X x)
    (hdb : (x == ("__debug__" : Str)) = false := by decide) : PE X (.Call (.Name x p) [] [] pos) (tCall sp [] E0 tNil) := by
  obtain ⟨f, fd, F, b, kp, m⟩ := c.ex
  exact pg_call0 F hr hG hg m kp b .nil pass0 hdb
end
end FL
namespace K68
open PySem PySem.Spec PyProof.Rows L2 FL
def dflts : List (Str × V) := [(Str.ofString "sight", .str (Str.ofString "whole")), (Str.ofString "order", .str (Str.ofString "inner")), (Str.ofString "further", .str (Str.ofString "refuse")), (Str.ofString "finish", .str (Str.ofString "refuse"))]
theorem init_binds {K : PySem.W.Frag} {f : Addr} {fd : FuncData} (F : Fun K "__init__" "Reader.__init__" (sRd 0) f fd) (c : kwOk K f dflts = true) : ∃ ds, Vals (dflts.map (·.2)) ds ∧ Binds K fd pInit ds := by
  refine (funD_of F c).binds0 4 (List.cons_ne_nil _ _) rfl fun D doc pm an cdv ct us ks l1 l2 => ?_
  match us, l1, ks, l2 with
  | [_, _, _, _], _, [_, _, _, _], _ => exact ⟨_, _, _, _, _, _, rfl, rfl, ⟨_, _, _, _, _, _, rfl, rfl, ⟨_, _, _, _, _, _, rfl, rfl, ⟨_, _, _, _, _, _, rfl, rfl, rfl⟩⟩⟩⟩
def lacks : List (Str × V) := [(Str.ofString "sight", .str (Str.ofString "whole")), (Str.ofString "order", .str (Str.ofString "inner")), (Str.ofString "finish", .str (Str.ofString "refuse"))]
def putF {α : Type} (us mv ws : List α) : List α := us ++ (mv.take 2 ++ (ws ++ mv.drop 2))
theorem init_kbinds {K : PySem.W.Frag} {f : Addr} {fd : FuncData} (F : Fun K "__init__" "Reader.__init__" (sRd 0) f fd) (c : kwOk K f dflts = true) : ∃ mv : List Value, KBn K fd pInit 4 [Str.ofString "further"] (fun us ws => putF us mv ws) (fun vs zs => putF vs (lacks.map (·.2)) zs) := by
  refine kbd_of (funD_of F c) 4 [Str.ofString "further"] lacks (fun us mv ws => putF us mv ws) (List.cons_ne_nil _ _) ?_ ?_ ?_
  · intro q hq
    simp only [lacks, List.mem_cons, List.mem_nil_iff, or_false] at hq
    rcases hq with rfl | rfl | rfl
    · exact List.mem_cons_self
    · exact List.mem_cons_of_mem _ List.mem_cons_self
    · exact List.mem_cons_of_mem _ (List.mem_cons_of_mem _ (List.mem_cons_of_mem _ List.mem_cons_self))
  · intro vs mz zs us mv ws a b d
    exact a.append ((b.take 2).append (d.append (b.drop 2)))
  · intro D doc pm an cdv ct us mv ws l1 l2 l3
    match us, l1, mv, l2, ws, l3 with
    | [_, _, _, _], _, [_, _, _], _, [_], _ => exact ⟨_, _, _, _, _, _, rfl, rfl, ⟨_, _, _, _, _, _, rfl, rfl, ⟨_, _, _, _, _, _, rfl, rfl, rfl⟩⟩⟩
end K68
namespace K68
open PySem PySem.Spec PyProof.Rows L2 FL
/-- the cares when none is told -/
def care0 : Cares := ⟨Str.ofString "whole", Str.ofString "inner", Str.ofString "refuse", Str.ofString "refuse"⟩
theorem care0_ok {z : Str} : CaresOk z care0 := by
  refine ⟨fun q hq => ?_⟩
  simp only [caresL, List.mem_cons, List.mem_nil_iff, or_false] at hq
  rcases hq with rfl | rfl | rfl | rfl
  · exact .inl ⟨rfl, .inl rfl⟩
  · exact .inr (.inl ⟨rfl, .inl rfl⟩)
  · exact .inr (.inr (.inl ⟨rfl, .inl rfl⟩))
  · exact .inr (.inr (.inr ⟨rfl, .inl rfl⟩))
def zA : Str := Str.ofString "-a"
def mA1 : List Str := [Str.ofString "-"]
def tA : Str := Str.ofString "a"
theorem over_dec {z y : Str} (h : (y.cps.toList.all fun c => z.cps.toList.contains c) = true) : Over z y := fun c hc => by
  have := List.all_eq_true.mp h c hc
  exact List.contains_iff_mem.mp this
theorem apart_rd : RdOk zA mA1 tA care0 := by
  refine ⟨⟨by decide, by decide, by decide +kernel, by decide +kernel⟩, ⟨by decide, by decide, ?_, by decide +kernel, by decide +kernel, by decide +kernel⟩, ⟨over_dec (by decide +kernel), by decide, by decide⟩, care0_ok⟩
  intro m hm
  rw [List.mem_singleton.mp hm]
  exact over_dec (by decide +kernel)
def y400 : List Str := List.replicate 400 (Str.ofString "-") ++ [Str.ofString "-a"]
def rep400 : Bu 2 := mkK (List.replicate 400 (noKids 0))
theorem mv1 : moveL mA1 tA care0 (1, waitW) (Str.ofString "-") = some ((nextW, 1), (1, bodyW)) := by kernel_rfl
theorem mv2 : moveL mA1 tA care0 (1, bodyW) (Str.ofString "-") = some ((nextW, 1), (1, bodyW)) := by kernel_rfl
theorem mv3 : moveL mA1 tA care0 (1, bodyW) (Str.ofString "-a") = some ((endW, 1), (0, waitW)) := by kernel_rfl
theorem go_rep : ∀ n : Nat, goL mA1 tA care0 (1, bodyW) (List.replicate n (Str.ofString "-") ++ [Str.ofString "-a"]) = List.replicate n ((nextW, 1), (1, bodyW)) ++ [((endW, 1), (0, waitW))]
  | 0 => by
    show (match moveL mA1 tA care0 (1, bodyW) (Str.ofString "-a") with
      | none => []
      | some q => q :: goL mA1 tA care0 q.2 []) = _
    rw [mv3]
    rfl
  | n + 1 => by
    rw [List.replicate_succ, List.replicate_succ, List.cons_append, List.cons_append]
    show (match moveL mA1 tA care0 (1, bodyW) (Str.ofString "-") with
      | none => []
      | some q => q :: goL mA1 tA care0 q.2 (List.replicate n (Str.ofString "-") ++ [Str.ofString "-a"])) = _
    rw [mv2]
    exact congrArg _ (go_rep n)
theorem go_400 : goL mA1 tA care0 (1, waitW) y400 = List.replicate 400 ((nextW, 1), (1, bodyW)) ++ [((endW, 1), (0, waitW))] := by
  show (match moveL mA1 tA care0 (1, waitW) (Str.ofString "-") with
      | none => []
      | some q => q :: goL mA1 tA care0 q.2 (List.replicate 399 (Str.ofString "-") ++ [Str.ofString "-a"])) = _
  rw [mv1]
  exact congrArg _ (go_rep 399)
def r400 : List Ro := List.replicate 400 (nextW, 1) ++ [(endW, 1)]
theorem tell_400 : tellingL mA1 tA care0 y400 = some r400 := by
  have e1 : tellsL mA1 tA care0 y400 = r400 := by
    unfold tellsL
    rw [go_400, List.map_append, List.map_replicate]
    rfl
  have e2 : lastL mA1 tA care0 y400 = (0, waitW) := by
    unfold lastL standsL
    rw [go_400, List.map_append, List.map_cons, List.map_nil, ← List.cons_append]
    exact List.getLastD_concat ..
  unfold tellingL
  rw [e1, e2, if_neg]
  rintro (h | ⟨_, h⟩)
  · have a : r400.length = 401 := by unfold r400; rw [List.length_append, List.length_replicate]; rfl
    have b : y400.length = 401 := by unfold y400; rw [List.length_append, List.length_replicate]; rfl
    omega
  · exact h rfl
theorem rows_400 : rows mA1 tA 1 1 rep400 = List.replicate 400 (Str.ofString "-", (nextW, 1)) ++ [(Str.ofString "-a", (endW, 1))] := by
  rw [rows_succ]
  have e1 : roLine mA1 tA (nextW, 1) = Str.ofString "-" := by kernel_rfl
  have e2 : roLine mA1 tA (endW, 1) = Str.ofString "-a" := by kernel_rfl
  have e3 : gR mA1 tA 0 1 (noKids 0) = [(Str.ofString "-", (nextW, 1))] := by
    show (roLine mA1 tA (nextW, 1), (nextW, 1)) :: [] = _
    rw [e1]
  rw [e2]
  refine congrArg (· ++ _) ?_
  show (List.replicate 400 (noKids 0)).flatMap (gR mA1 tA 0 1) = _
  rw [List.flatMap_def, List.map_replicate, e3, flat_one]
theorem fst_400 : (rows mA1 tA 1 1 rep400).map Prod.fst = y400 := by
  rw [rows_400, List.map_append, List.map_replicate]
  rfl
theorem snd_400 : (rows mA1 tA 1 1 rep400).map Prod.snd = r400 := by
  rw [rows_400, List.map_append, List.map_replicate]
  rfl
theorem grown_400 : grownB 1 (r400.zip y400) = rep400 := by
  rw [← fst_400, ← snd_400]
  exact grown_rows
theorem msg_400 : MsgOk zA y400 := by
  have o1 : Over zA (Str.ofString "-") := over_dec (by decide +kernel)
  have o2 : Over zA (Str.ofString "-a") := over_dec (by decide +kernel)
  have h : ∀ y ∈ y400, y = Str.ofString "-" ∨ y = Str.ofString "-a" := fun y hy => by
    rcases List.mem_append.mp hy with hy | hy
    · exact .inl (List.eq_of_mem_replicate hy)
    · exact .inr (List.mem_singleton.mp hy)
  refine ⟨fun y hy => ?_, fun y hy => ?_, ?_⟩
  · rcases h y hy with rfl | rfl
    · exact o1
    · exact o2
  · rcases h y hy with rfl | rfl
    · decide
    · decide
  · unfold y400
    rw [List.length_append, List.length_replicate]
    decide
theorem sz_400 : szB 2 rep400 ≤ 100000 := by decide +kernel
theorem al_400 {p : Str → Prop} : Alls p 2 rep400 := fun t ht => by
  have e : t = noKids 0 := List.eq_of_mem_replicate ht
  rw [e]
  exact fun _ h => nomatch h
def zD : Str := Str.ofString "-.a"
def mD3 : List Str := [Str.ofString "-", Str.ofString ".", Str.ofString "a"]
def tD : Str := Str.ofString "-"
def careD : Cares := ⟨Str.ofString "whole", Str.ofString "inner", Str.ofString "close", Str.ofString "refuse"⟩
theorem careD_ok {z : Str} : CaresOk z careD := by
  refine ⟨fun q hq => ?_⟩
  simp only [caresL, List.mem_cons, List.mem_nil_iff, or_false] at hq
  rcases hq with rfl | rfl | rfl | rfl
  · exact .inl ⟨rfl, .inl rfl⟩
  · exact .inr (.inl ⟨rfl, .inl rfl⟩)
  · exact .inr (.inr (.inl ⟨rfl, .inr rfl⟩))
  · exact .inr (.inr (.inr ⟨rfl, .inl rfl⟩))
theorem deep_rd : RdOk zD mD3 tD careD := by
  refine ⟨⟨by decide, by decide, by decide +kernel, by decide +kernel⟩, ⟨by decide, by decide, ?_, by decide +kernel, by decide +kernel, by decide +kernel⟩, ⟨over_dec (by decide +kernel), by decide, by decide⟩, careD_ok⟩
  intro m hm
  simp only [mD3, List.mem_cons, List.mem_nil_iff, or_false] at hm
  rcases hm with rfl | rfl | rfl <;> exact over_dec (by decide +kernel)
def treeD : Bu 4 := mkK (d := 3) [mkK (d := 2) [mkK (d := 1) [mkK (d := 0) [Str.ofString "--a"], noKids 0], noKids 1], noKids 2]
def treeE : Bu 4 := mkK (d := 3) [mkK (d := 2) [mkK (d := 1) [mkK (d := 0) [Str.ofString "aa"]]], mkK (d := 2) [noKids 1]]
def y12 : List Str := [Str.ofString "-", Str.ofString ".", Str.ofString "a", Str.ofString "--a", Str.ofString "a", Str.ofString "a-", Str.ofString ".", Str.ofString "a-", Str.ofString ".-", Str.ofString "-", Str.ofString ".-", Str.ofString "--"]
def y3 : List Str := [Str.ofString "-", Str.ofString ".", Str.ofString "-"]
def y7 : List Str := [Str.ofString "-", Str.ofString ".", Str.ofString "a", Str.ofString "aa", Str.ofString "-", Str.ofString ".", Str.ofString "--"]
theorem fst_12 : (rows mD3 tD 3 1 treeD).map Prod.fst = y12 := by kernel_rfl
theorem tell_12 : tellingL mD3 tD careD y12 = some ((rows mD3 tD 3 1 treeD).map Prod.snd) := by kernel_rfl
theorem grown_12 : grownB 3 (((rows mD3 tD 3 1 treeD).map Prod.snd).zip y12) = treeD := by
  rw [← fst_12]
  exact grown_rows
theorem stands_3 : standsL mD3 tD careD y3 = [(1, waitW), (2, waitW), (3, waitW), (2, waitW)] := by kernel_rfl
def r7 : List Ro := [(nextW, 1), (nextW, 2), (nextW, 3), (lineW, 0), (nextW, 1), (nextW, 2), (endW, 1)]
theorem tell_7 : tellingL mD3 tD careD y7 = some r7 := by kernel_rfl
theorem grown_7 : grownB 3 (r7.zip y7) = treeE := by kernel_rfl
theorem msg_of {z : Str} {ys : List Str} (h1 : (ys.all fun y => y.cps.toList.all fun c => z.cps.toList.contains c) = true) (h2 : (ys.all fun y => decide (y.length ≤ 1000)) = true) (h3 : ys.length ≤ 5000) : MsgOk z ys :=
  ⟨fun y hy => over_dec (List.all_eq_true.mp h1 y hy), fun y hy => of_decide_eq_true (List.all_eq_true.mp h2 y hy), h3⟩
theorem msg_12 : MsgOk zD y12 := msg_of (by decide +kernel) (by decide +kernel) (by decide)
theorem msg_3 : MsgOk zD y3 := msg_of (by decide +kernel) (by decide +kernel) (by decide)
theorem msg_7 : MsgOk zD y7 := msg_of (by decide +kernel) (by decide +kernel) (by decide)
end K68
namespace K68
open PySem PySem.Spec PyProof.Rows L2 FL
abbrev sKnown : Stmt := topS 118
def spKnown : Sp := fun vs H Q _ => vs = [] ∧ ∀ H', Same H H' → Q (.bl true) H'
theorem al_D : Alls (fun y => Over zD y ∧ y.length ≤ 1000) 4 treeD := by
  have o : Over zD (Str.ofString "--a") := over_dec (by decide +kernel)
  intro a ha
  rcases List.mem_cons.mp ha with rfl | ha
  · intro b hb
    rcases List.mem_cons.mp hb with rfl | hb
    · intro c hc
      rcases List.mem_cons.mp hc with rfl | hc
      · intro d hd
        rw [List.mem_singleton.mp hd]
        exact ⟨o, by decide⟩
      · rw [List.mem_singleton.mp hc]
        exact fun _ h => nomatch h
    · rw [List.mem_singleton.mp hb]
      exact fun _ h => nomatch h
  · rw [List.mem_singleton.mp ha]
    exact fun _ h => nomatch h
theorem al_E : Alls (fun y => Over zD y ∧ y.length ≤ 1000) 4 treeE := by
  have o : Over zD (Str.ofString "aa") := over_dec (by decide +kernel)
  intro a ha
  rcases List.mem_cons.mp ha with rfl | ha
  · intro b hb
    rw [List.mem_singleton.mp hb]
    intro c hc
    rw [List.mem_singleton.mp hc]
    intro d hd
    rw [List.mem_singleton.mp hd]
    exact ⟨o, by decide⟩
  · rw [List.mem_singleton.mp ha]
    intro b hb
    rw [List.mem_singleton.mp hb]
    exact fun _ h => nomatch h
theorem sz_D : szB 4 treeD ≤ 100000 := by decide +kernel
def mkS (ys : List Str) : Bu 1 := ys
theorem bu1_at {H : Hp} {L : Addr} {ys : List Str} (h : H L = some (.lst (ys.map V.str))) : BuAt false H 1 (.ref L) (mkS ys) := by
  refine ⟨L, _, rfl, h, ?_⟩
  clear h
  show Paired (BuAt false H 0) (ys.map V.str) ys
  induction ys with
  | nil => exact .nil
  | cons y ys ih => exact .cons rfl ih
theorem sm_strs {z : Str} (az : Abc z) {ys : List Str} (h : MsgOk z ys) : ∃ m, Sm m (buD 1 (mkS ys)) := by
  obtain ⟨m, _, s⟩ := bu_smZ (c := 10004) (by decide) (d := 1) (t := mkS ys) (by decide) (fun y hy => ⟨az.plain (h.ov y hy), by have h2 : (ln y).length ≤ 1000 := h.ln y hy; show 10 * (ln y).length + 4 ≤ 10004; omega⟩)
  exact ⟨m, s⟩
theorem sm_400 : ∃ m, Sm m (buD 2 rep400) := by
  obtain ⟨m, _, s⟩ := bu_smZ (c := 4) (by decide) (d := 2) (t := rep400) (by decide) al_400
  exact ⟨m, s⟩
theorem sm_D : ∃ m, Sm m (buD 4 treeD) := by
  obtain ⟨m, _, s⟩ := bu_smZ (c := 10004) (by decide) (d := 4) (t := treeD) (by decide) (Alls.imp (fun y hy => ⟨deep_rd.az.plain hy.1, by omega⟩) al_D)
  exact ⟨m, s⟩
theorem sm_E : ∃ m, Sm m (buD 4 treeE) := by
  obtain ⟨m, _, s⟩ := bu_smZ (c := 10004) (by decide) (d := 4) (t := treeE) (by decide) (Alls.imp (fun y hy => ⟨deep_rd.az.plain hy.1, by omega⟩) al_E)
  exact ⟨m, s⟩
section
variable {P : Program} {w : World} {K : PySem.W.Frag} {mg : Str → Option Value} {base : Heap}
theorem scKnown : FnScope ["_law_flat", "_law_deep", "_law_mail_here"] [] (defScope sKnown) := ⟨rfl, rfl, rfl, by decide +kernel, rfl, by decide +kernel, by decide +kernel⟩
theorem ok_known {f : Addr} {fd : FuncData} (F : Fun K "_law_known_right" "_law_known_right" sKnown f fd) (R : RdF P w K mg base) (hB : ∃ ds, Vals (dflts.map (·.2)) ds ∧ Binds K R.di pInit ds)
    (hK : ∃ mv : List Value, KBn K R.di pInit 4 [Str.ofString "further"] (fun us ws => putF us mv ws) (fun vs zs => putF vs (lacks.map (·.2)) zs))
    (cW : Ca P w K mg base "written" 9 ["reader", "tree"] (spWrittenZ R.C)) (cT : Ca P w K mg base "tree_read" 9 ["reader", "message"] (spTreeRead R.C))
    (cO : Ca P w K mg base "own_telling" 9 ["reader", "tree"] (spOwnTZ K R.C)) (cC : Ca P w K mg base "course" 9 ["reader", "message"] (spCourse R.C K)) : FnOk P w K mg base CX0 10 f fd [] spKnown := by
  refine F.ok scKnown (fun vs H Q E h => ?_) (fun cdv A outer s H vs Q E hr h => ?_)
  · obtain ⟨rfl, _⟩ := h
    rfl
  · obtain ⟨rfl, k⟩ := h
    have nd := scKnown.nd
    obtain ⟨ds, vd, bd⟩ := hB
    obtain ⟨mv, kb⟩ := hK
    obtain ⟨m1, sm400⟩ := sm_strs apart_rd.az msg_400
    obtain ⟨m2, sm12⟩ := sm_strs deep_rd.az msg_12
    obtain ⟨m3, smR⟩ := sm_400
    obtain ⟨m4, smD⟩ := sm_D
    obtain ⟨m5, smT⟩ := sm_E
    have smE : Sm _ (roleD (endW, 1)) := Sm.tuple (k := 0) (SmL.cons (Sm.str (wd_plain (.inr (.inr rfl))).1) (Nat.le_refl _) (SmL.cons (sm_nat 1 (by decide)) (Nat.le_refl _) SmL.nil)) (by decide)
    have smC := sm_trail (tl := tD) (c := careD) (ys := y3) deep_rd.ms.lo deep_rd.ms.hi
    rw [stands_3] at smC
    refine ⟨_, pss_cons (ps_set (i := 0) nd rfl (.inl rfl) (pe_make R.mkc R.oi (hr.mono (by decide)) (by rfl) R.T.mgC bd vd pass0 (pa_cons pe_str (pa_cons (pe_lst (pa_cons pe_str pa_nil)) (pa_cons pe_str pa_nil)))))
      (pss_cons (ps_if (PW.pt (pw_or (pt_cmpR (op_neD hr.units) (pe_ca cW hr (by rfl) (pa_cons (pv 0) (pa_cons (pe_op op_rep (pe_lst (pa_cons (pe_lst pa_nil) pa_nil)) pe_int) pa_nil))) (pe_op op_cat (pe_op op_rep (pe_lst (pa_cons pe_str pa_nil)) pe_int) (pe_lst (pa_cons pe_str pa_nil))) (nomark _)) (pw_or1 (pt_cmpR (op_neD hr.units) (pe_ca cT hr (by rfl) (pa_cons (pv 0) (pa_cons (pe_op op_cat (pe_op op_rep (pe_lst (pa_cons pe_str pa_nil)) pe_int) (pe_lst (pa_cons pe_str pa_nil))) pa_nil))) (pe_op op_rep (pe_lst (pa_cons (pe_lst pa_nil) pa_nil)) pe_int) (nomark _))))) (pss_one (ps_ret pe_bl)) pss_nil)
      (pss_cons (ps_set (i := 1) nd rfl (.inl rfl) (pe_makeN (E := E0) R.mkc R.oi (hr.mono (by decide)) (by rfl) R.T.mgC kb pass0 (pa_cons pe_str (pa_cons (pe_lst (pa_cons pe_str (pa_cons pe_str (pa_cons pe_str pa_nil)))) (pa_cons pe_str pa_nil))) (pk_cons pe_str pk_nil)))
      (pss_cons (ps_set (i := 2) nd rfl (.inl rfl) (pe_ca cW hr (by rfl) (pa_cons (pv 1) (pa_cons (pe_lst (pa_cons (pe_lst (pa_cons (pe_lst (pa_cons (pe_lst (pa_cons pe_str pa_nil)) (pa_cons (pe_lst pa_nil) pa_nil))) (pa_cons (pe_lst pa_nil) pa_nil))) (pa_cons (pe_lst pa_nil) pa_nil))) pa_nil))))
      (pss_cons (ps_if (pt_cmpR (op_neD hr.units) (pv 2) (pe_lst (pa_cons pe_str (pa_cons pe_str (pa_cons pe_str (pa_cons pe_str (pa_cons pe_str (pa_cons pe_str (pa_cons pe_str (pa_cons pe_str (pa_cons pe_str (pa_cons pe_str (pa_cons pe_str (pa_cons pe_str pa_nil))))))))))))) (nomark _)) (pss_one (ps_ret pe_bl)) pss_nil)
      (pss_cons (ps_if (PW.pt (pw_or (pt_cmpR (op_neD hr.units) (pe_ca cT hr (by rfl) (pa_cons (pv 1) (pa_cons (pv 2) pa_nil))) (pe_lst (pa_cons (pe_lst (pa_cons (pe_lst (pa_cons (pe_lst (pa_cons pe_str pa_nil)) (pa_cons (pe_lst pa_nil) pa_nil))) (pa_cons (pe_lst pa_nil) pa_nil))) (pa_cons (pe_lst pa_nil) pa_nil))) (nomark _)) (pw_or1 (pt_cmpR (op_neD hr.units) (pe_ix ix_list (pe_ca cO hr (by rfl) (pa_cons (pv 1) (pa_cons (pe_lst pa_nil) pa_nil))) pe_int (fun _ _ => rfl)) (pe_tup (pa_cons pe_str (pa_cons pe_int pa_nil))) (nomark _))))) (pss_one (ps_ret pe_bl)) pss_nil)
      (pss_cons (ps_if (pt_cmpR (op_neD hr.units) (pe_ca cC hr (by rfl) (pa_cons (pv 1) (pa_cons (pe_lst (pa_cons pe_str (pa_cons pe_str (pa_cons pe_str pa_nil)))) pa_nil))) (pe_lst (pa_cons (pe_tup (pa_cons pe_int (pa_cons pe_str pa_nil))) (pa_cons (pe_tup (pa_cons pe_int (pa_cons pe_str pa_nil))) (pa_cons (pe_tup (pa_cons pe_int (pa_cons pe_str pa_nil))) (pa_cons (pe_tup (pa_cons pe_int (pa_cons pe_str pa_nil))) pa_nil))))) (nomark _)) (pss_one (ps_ret pe_bl)) pss_nil)
      (pss_one (ps_ret (pe_cmpR (op_eqD hr.units) (pe_ca cT hr (by rfl) (pa_cons (pv 1) (pa_cons (pe_lst (pa_cons pe_str (pa_cons pe_str (pa_cons pe_str (pa_cons pe_str (pa_cons pe_str (pa_cons pe_str (pa_cons pe_str pa_nil)))))))) pa_nil))) (pe_lst (pa_cons (pe_lst (pa_cons (pe_lst (pa_cons (pe_lst (pa_cons pe_str pa_nil)) pa_nil)) pa_nil)) (pa_cons (pe_lst (pa_cons (pe_lst pa_nil) pa_nil)) pa_nil))) (nomark _)))))))))), ?_⟩
    -- the flat reader
    refine ⟨(by show 1 ≤ sizeLine; decide), fun M hM => ?_⟩
    have s_ : Same H (upd H M (.lst [V.str (Str.ofString "-")])) := (Same.refl H).upd hM
    have gM : upd H M (.lst [V.str (Str.ofString "-")]) M = some (.lst [V.str (Str.ofString "-")]) := upd_same
    generalize upd H M (.lst [V.str (Str.ofString "-")]) = H1a at s_ gM ⊢
    have t0 : Same H _ := s_
    intro x dx hx hdx ne
    have sx : Same H1a (upd (upd H1a dx (.own x)) x (.ins R.C dx [])) := ((Same.refl H1a).upd hdx).upd hx
    refine ⟨x, dx, zA, M, mA1, tA, care0, rfl, upd_same, apart_rd.az, sx _ _ gM, apart_rd.ms, apart_rd.tl, apart_rd.ca, fun HA ra b2 => ⟨rfl, ?_⟩⟩
    have s_ : Same H1a HA := fun q o e => b2 q o (sx _ _ e) (ne_of_none e hx)
    clear gM
    clear b2 sx hx hdx ne
    have t0 := t0.trans s_
    -- a tree of many empty parts
    refine ⟨_, rfl, ?_⟩
    refine ⟨by decide, fun A1 hA1 => ?_⟩
    have s_ : Same HA (upd HA A1 (.lst [])) := (Same.refl HA).upd hA1
    have gA1 : upd HA A1 (.lst []) A1 = some (.lst []) := upd_same
    generalize upd HA A1 (.lst []) = H3a at s_ gA1 ⊢
    have t0 := t0.trans s_
    have ra := ra.same s_
    refine ⟨(by show 1 ≤ sizeLine; decide), fun A2 hA2 => ?_⟩
    have s_ : Same H3a (upd H3a A2 (.lst [V.ref A1])) := (Same.refl H3a).upd hA2
    have gA2 : upd H3a A2 (.lst [V.ref A1]) A2 = some (.lst [V.ref A1]) := upd_same
    generalize upd H3a A2 (.lst [V.ref A1]) = H5a at s_ gA2 ⊢
    have t0 := t0.trans s_
    have ra := ra.same s_
    have gA1 := s_ _ _ gA1
    refine ⟨A2, 400, _, rfl, rfl, gA2, by decide, by decide, (by show 1 * 400 ≤ sizeLine; decide), fun A3 hA3 => ?_⟩
    rw [show (List.replicate (400 : Int).toNat [V.ref A1]).flatten = List.replicate 400 (V.ref A1) from flat_one _ 400]
    have s_ : Same H5a (upd H5a A3 (.lst (List.replicate 400 (V.ref A1)))) := (Same.refl H5a).upd hA3
    have gA3 : upd H5a A3 (.lst (List.replicate 400 (V.ref A1))) A3 = some (.lst (List.replicate 400 (V.ref A1))) := upd_same
    generalize upd H5a A3 (.lst (List.replicate 400 (V.ref A1))) = H6a at s_ gA3 ⊢
    have t0 := t0.trans s_
    have ra := ra.same s_
    have gA1 := s_ _ _ gA1
    have gA2 := s_ _ _ gA2
    have bA : BuAt false H6a 2 (.ref A3) rep400 := ⟨A3, _, rfl, gA3, paired_rep (⟨A1, [], rfl, gA1, .nil⟩ : BuAt false H6a 1 (.ref A1) (noKids 0)) 400⟩
    clear gA1 gA2 gA3
    refine ⟨x, zA, mA1, tA, care0, .ref A3, false, 0, rep400, rfl, ra, apart_rd.ms, apart_rd.tl, rfl, bA, al_400, sz_400, fun HB L s_ hL gL => ?_⟩
    rw [show (rows mA1 tA (0 + 1) 1 rep400).map Prod.fst = y400 from fst_400] at gL
    clear bA
    have t0 := t0.trans s_
    have ra := ra.same s_
    refine ⟨(by show 1 ≤ sizeLine; decide), fun B1 hB1 => ?_⟩
    have s_ : Same HB (upd HB B1 (.lst [V.str (Str.ofString "-")])) := (Same.refl HB).upd hB1
    have gB1 : upd HB B1 (.lst [V.str (Str.ofString "-")]) B1 = some (.lst [V.str (Str.ofString "-")]) := upd_same
    generalize upd HB B1 (.lst [V.str (Str.ofString "-")]) = H8a at s_ gB1 ⊢
    have t0 := t0.trans s_
    have ra := ra.same s_
    have gL := s_ _ _ gL
    refine ⟨B1, 400, _, rfl, rfl, gB1, by decide, by decide, (by show 1 * 400 ≤ sizeLine; decide), fun B2 hB2 => ?_⟩
    rw [show (List.replicate (400 : Int).toNat [V.str (Str.ofString "-")]).flatten = List.replicate 400 (V.str (Str.ofString "-")) from flat_one _ 400]
    have s_ : Same H8a (upd H8a B2 (.lst (List.replicate 400 (V.str (Str.ofString "-"))))) := (Same.refl H8a).upd hB2
    have gB2 : upd H8a B2 (.lst (List.replicate 400 (V.str (Str.ofString "-")))) B2 = some (.lst (List.replicate 400 (V.str (Str.ofString "-")))) := upd_same
    generalize upd H8a B2 (.lst (List.replicate 400 (V.str (Str.ofString "-")))) = H9a at s_ gB2 ⊢
    have t0 := t0.trans s_
    have ra := ra.same s_
    have gL := s_ _ _ gL
    have gB1 := s_ _ _ gB1
    refine ⟨(by show 1 ≤ sizeLine; decide), fun B3 hB3 => ?_⟩
    have s_ : Same H9a (upd H9a B3 (.lst [V.str (Str.ofString "-a")])) := (Same.refl H9a).upd hB3
    have gB3 : upd H9a B3 (.lst [V.str (Str.ofString "-a")]) B3 = some (.lst [V.str (Str.ofString "-a")]) := upd_same
    generalize upd H9a B3 (.lst [V.str (Str.ofString "-a")]) = H11a at s_ gB3 ⊢
    have t0 := t0.trans s_
    have ra := ra.same s_
    have gL := s_ _ _ gL
    have gB1 := s_ _ _ gB1
    have gB2 := s_ _ _ gB2
    refine ⟨B2, B3, _, _, rfl, rfl, gB2, gB3, (by rw [List.length_replicate]; show 400 + 1 ≤ sizeLine; decide), fun B4 hB4 => ?_⟩
    rw [show List.replicate 400 (V.str (Str.ofString "-")) ++ [V.str (Str.ofString "-a")] = y400.map V.str by unfold y400; rw [List.map_append, List.map_replicate]; rfl]
    have s_ : Same H11a (upd H11a B4 (.lst (y400.map V.str))) := (Same.refl H11a).upd hB4
    have gB4 : upd H11a B4 (.lst (y400.map V.str)) B4 = some (.lst (y400.map V.str)) := upd_same
    generalize upd H11a B4 (.lst (y400.map V.str)) = H12a at s_ gB4 ⊢
    have t0 := t0.trans s_
    have ra := ra.same s_
    have gL := s_ _ _ gL
    have gB1 := s_ _ _ gB1
    have gB2 := s_ _ _ gB2
    have gB3 := s_ _ _ gB3
    clear gB1 gB2 gB3
    refine ⟨_, _, BuAt.dp (bu1_at gL), BuAt.dp (bu1_at gB4), sm400.shaped, sm400.shaped, _, rfl, ?_⟩
    rw [eqvT sm400]
    refine iteF ?_
    clear gL gB4
    refine ⟨_, rfl, ?_⟩
    refine ⟨(by show 1 ≤ sizeLine; decide), fun C1 hC1 => ?_⟩
    have s_ : Same H12a (upd H12a C1 (.lst [V.str (Str.ofString "-")])) := (Same.refl H12a).upd hC1
    have gC1 : upd H12a C1 (.lst [V.str (Str.ofString "-")]) C1 = some (.lst [V.str (Str.ofString "-")]) := upd_same
    generalize upd H12a C1 (.lst [V.str (Str.ofString "-")]) = H14a at s_ gC1 ⊢
    have t0 := t0.trans s_
    have ra := ra.same s_
    refine ⟨C1, 400, _, rfl, rfl, gC1, by decide, by decide, (by show 1 * 400 ≤ sizeLine; decide), fun C2 hC2 => ?_⟩
    rw [show (List.replicate (400 : Int).toNat [V.str (Str.ofString "-")]).flatten = List.replicate 400 (V.str (Str.ofString "-")) from flat_one _ 400]
    have s_ : Same H14a (upd H14a C2 (.lst (List.replicate 400 (V.str (Str.ofString "-"))))) := (Same.refl H14a).upd hC2
    have gC2 : upd H14a C2 (.lst (List.replicate 400 (V.str (Str.ofString "-")))) C2 = some (.lst (List.replicate 400 (V.str (Str.ofString "-")))) := upd_same
    generalize upd H14a C2 (.lst (List.replicate 400 (V.str (Str.ofString "-")))) = H15a at s_ gC2 ⊢
    have t0 := t0.trans s_
    have ra := ra.same s_
    have gC1 := s_ _ _ gC1
    refine ⟨(by show 1 ≤ sizeLine; decide), fun C3 hC3 => ?_⟩
    have s_ : Same H15a (upd H15a C3 (.lst [V.str (Str.ofString "-a")])) := (Same.refl H15a).upd hC3
    have gC3 : upd H15a C3 (.lst [V.str (Str.ofString "-a")]) C3 = some (.lst [V.str (Str.ofString "-a")]) := upd_same
    generalize upd H15a C3 (.lst [V.str (Str.ofString "-a")]) = H17a at s_ gC3 ⊢
    have t0 := t0.trans s_
    have ra := ra.same s_
    have gC1 := s_ _ _ gC1
    have gC2 := s_ _ _ gC2
    refine ⟨C2, C3, _, _, rfl, rfl, gC2, gC3, (by rw [List.length_replicate]; show 400 + 1 ≤ sizeLine; decide), fun C4 hC4 => ?_⟩
    rw [show List.replicate 400 (V.str (Str.ofString "-")) ++ [V.str (Str.ofString "-a")] = y400.map V.str by unfold y400; rw [List.map_append, List.map_replicate]; rfl]
    have s_ : Same H17a (upd H17a C4 (.lst (y400.map V.str))) := (Same.refl H17a).upd hC4
    have gC4 : upd H17a C4 (.lst (y400.map V.str)) C4 = some (.lst (y400.map V.str)) := upd_same
    generalize upd H17a C4 (.lst (y400.map V.str)) = H18a at s_ gC4 ⊢
    have t0 := t0.trans s_
    have ra := ra.same s_
    have gC1 := s_ _ _ gC1
    have gC2 := s_ _ _ gC2
    have gC3 := s_ _ _ gC3
    clear gC1 gC2 gC3
    refine ⟨x, zA, mA1, tA, care0, C4, false, y400, 0, rfl, ra, apart_rd, gC4, msg_400, rfl, fun back HC s_ hb => ?_⟩
    rw [tell_400] at hb
    obtain ⟨F, tr, _, _⟩ := hb
    rw [show grownB (0 + 1) (r400.zip y400) = rep400 from grown_400] at tr
    have bt := tr.at_
    clear tr
    clear gC4
    have t0 := t0.trans s_
    have ra := ra.same s_
    refine ⟨by decide, fun D1 hD1 => ?_⟩
    have s_ : Same HC (upd HC D1 (.lst [])) := (Same.refl HC).upd hD1
    have gD1 : upd HC D1 (.lst []) D1 = some (.lst []) := upd_same
    generalize upd HC D1 (.lst []) = H20a at s_ gD1 ⊢
    have t0 := t0.trans s_
    have ra := ra.same s_
    have bt := BuAt.same s_ bt
    refine ⟨(by show 1 ≤ sizeLine; decide), fun D2 hD2 => ?_⟩
    have s_ : Same H20a (upd H20a D2 (.lst [V.ref D1])) := (Same.refl H20a).upd hD2
    have gD2 : upd H20a D2 (.lst [V.ref D1]) D2 = some (.lst [V.ref D1]) := upd_same
    generalize upd H20a D2 (.lst [V.ref D1]) = H22a at s_ gD2 ⊢
    have t0 := t0.trans s_
    have ra := ra.same s_
    have bt := BuAt.same s_ bt
    have gD1 := s_ _ _ gD1
    refine ⟨D2, 400, _, rfl, rfl, gD2, by decide, by decide, (by show 1 * 400 ≤ sizeLine; decide), fun D3 hD3 => ?_⟩
    rw [show (List.replicate (400 : Int).toNat [V.ref D1]).flatten = List.replicate 400 (V.ref D1) from flat_one _ 400]
    have s_ : Same H22a (upd H22a D3 (.lst (List.replicate 400 (V.ref D1)))) := (Same.refl H22a).upd hD3
    have gD3 : upd H22a D3 (.lst (List.replicate 400 (V.ref D1))) D3 = some (.lst (List.replicate 400 (V.ref D1))) := upd_same
    generalize upd H22a D3 (.lst (List.replicate 400 (V.ref D1))) = H23a at s_ gD3 ⊢
    have t0 := t0.trans s_
    have ra := ra.same s_
    have bt := BuAt.same s_ bt
    have gD1 := s_ _ _ gD1
    have gD2 := s_ _ _ gD2
    have bD : BuAt false H23a 2 (.ref D3) rep400 := ⟨D3, _, rfl, gD3, paired_rep (⟨D1, [], rfl, gD1, .nil⟩ : BuAt false H23a 1 (.ref D1) (noKids 0)) 400⟩
    clear gD1 gD2 gD3
    refine ⟨_, _, BuAt.dp bt, BuAt.dp bD, smR.shaped, smR.shaped, _, rfl, ?_⟩
    rw [eqvT smR]
    refine iteF ?_
    clear bt bD ra
    -- the deep reader
    refine ⟨(by show 3 ≤ sizeLine; decide), fun M hM => ?_⟩
    have s_ : Same H23a (upd H23a M (.lst [V.str (Str.ofString "-"), V.str (Str.ofString "."), V.str (Str.ofString "a")])) := (Same.refl H23a).upd hM
    have gM : upd H23a M (.lst [V.str (Str.ofString "-"), V.str (Str.ofString "."), V.str (Str.ofString "a")]) M = some (.lst [V.str (Str.ofString "-"), V.str (Str.ofString "."), V.str (Str.ofString "a")]) := upd_same
    generalize upd H23a M (.lst [V.str (Str.ofString "-"), V.str (Str.ofString "."), V.str (Str.ofString "a")]) = H25a at s_ gM ⊢
    have t0 := t0.trans s_
    refine ⟨rfl, rfl, fun x2 dx hx hdx ne => ?_⟩
    have sx : Same H25a (upd (upd H25a dx (.own x2)) x2 (.ins R.C dx [])) := ((Same.refl H25a).upd hdx).upd hx
    refine ⟨x2, dx, zD, M, mD3, tD, careD, rfl, upd_same, deep_rd.az, sx _ _ gM, deep_rd.ms, deep_rd.tl, deep_rd.ca, fun HD ra b2 => ⟨rfl, ?_⟩⟩
    have s_ : Same H25a HD := fun q o e => b2 q o (sx _ _ e) (ne_of_none e hx)
    clear gM
    clear b2 sx hx hdx ne
    have t0 := t0.trans s_
    refine ⟨_, rfl, ?_⟩
    refine ⟨(by show 1 ≤ sizeLine; decide), fun E1 hE1 => ?_⟩
    have s_ : Same HD (upd HD E1 (.lst [V.str (Str.ofString "--a")])) := (Same.refl HD).upd hE1
    have gE1 : upd HD E1 (.lst [V.str (Str.ofString "--a")]) E1 = some (.lst [V.str (Str.ofString "--a")]) := upd_same
    generalize upd HD E1 (.lst [V.str (Str.ofString "--a")]) = H27a at s_ gE1 ⊢
    have t0 := t0.trans s_
    have ra := ra.same s_
    refine ⟨by decide, fun E2 hE2 => ?_⟩
    have s_ : Same H27a (upd H27a E2 (.lst [])) := (Same.refl H27a).upd hE2
    have gE2 : upd H27a E2 (.lst []) E2 = some (.lst []) := upd_same
    generalize upd H27a E2 (.lst []) = H29a at s_ gE2 ⊢
    have t0 := t0.trans s_
    have ra := ra.same s_
    have gE1 := s_ _ _ gE1
    refine ⟨(by show 2 ≤ sizeLine; decide), fun E3 hE3 => ?_⟩
    have s_ : Same H29a (upd H29a E3 (.lst [V.ref E1, V.ref E2])) := (Same.refl H29a).upd hE3
    have gE3 : upd H29a E3 (.lst [V.ref E1, V.ref E2]) E3 = some (.lst [V.ref E1, V.ref E2]) := upd_same
    generalize upd H29a E3 (.lst [V.ref E1, V.ref E2]) = H31a at s_ gE3 ⊢
    have t0 := t0.trans s_
    have ra := ra.same s_
    have gE1 := s_ _ _ gE1
    have gE2 := s_ _ _ gE2
    refine ⟨by decide, fun E4 hE4 => ?_⟩
    have s_ : Same H31a (upd H31a E4 (.lst [])) := (Same.refl H31a).upd hE4
    have gE4 : upd H31a E4 (.lst []) E4 = some (.lst []) := upd_same
    generalize upd H31a E4 (.lst []) = H33a at s_ gE4 ⊢
    have t0 := t0.trans s_
    have ra := ra.same s_
    have gE1 := s_ _ _ gE1
    have gE2 := s_ _ _ gE2
    have gE3 := s_ _ _ gE3
    refine ⟨(by show 2 ≤ sizeLine; decide), fun E5 hE5 => ?_⟩
    have s_ : Same H33a (upd H33a E5 (.lst [V.ref E3, V.ref E4])) := (Same.refl H33a).upd hE5
    have gE5 : upd H33a E5 (.lst [V.ref E3, V.ref E4]) E5 = some (.lst [V.ref E3, V.ref E4]) := upd_same
    generalize upd H33a E5 (.lst [V.ref E3, V.ref E4]) = H35a at s_ gE5 ⊢
    have t0 := t0.trans s_
    have ra := ra.same s_
    have gE1 := s_ _ _ gE1
    have gE2 := s_ _ _ gE2
    have gE3 := s_ _ _ gE3
    have gE4 := s_ _ _ gE4
    refine ⟨by decide, fun E6 hE6 => ?_⟩
    have s_ : Same H35a (upd H35a E6 (.lst [])) := (Same.refl H35a).upd hE6
    have gE6 : upd H35a E6 (.lst []) E6 = some (.lst []) := upd_same
    generalize upd H35a E6 (.lst []) = H37a at s_ gE6 ⊢
    have t0 := t0.trans s_
    have ra := ra.same s_
    have gE1 := s_ _ _ gE1
    have gE2 := s_ _ _ gE2
    have gE3 := s_ _ _ gE3
    have gE4 := s_ _ _ gE4
    have gE5 := s_ _ _ gE5
    refine ⟨(by show 2 ≤ sizeLine; decide), fun E7 hE7 => ?_⟩
    have s_ : Same H37a (upd H37a E7 (.lst [V.ref E5, V.ref E6])) := (Same.refl H37a).upd hE7
    have gE7 : upd H37a E7 (.lst [V.ref E5, V.ref E6]) E7 = some (.lst [V.ref E5, V.ref E6]) := upd_same
    generalize upd H37a E7 (.lst [V.ref E5, V.ref E6]) = H39a at s_ gE7 ⊢
    have t0 := t0.trans s_
    have ra := ra.same s_
    have gE1 := s_ _ _ gE1
    have gE2 := s_ _ _ gE2
    have gE3 := s_ _ _ gE3
    have gE4 := s_ _ _ gE4
    have gE5 := s_ _ _ gE5
    have gE6 := s_ _ _ gE6
    have bE : BuAt false H39a 4 (.ref E7) treeD := ⟨E7, _, rfl, gE7, .cons ⟨E5, _, rfl, gE5, .cons ⟨E3, _, rfl, gE3, .cons ⟨E1, _, rfl, gE1, .cons rfl .nil⟩ (.cons ⟨E2, _, rfl, gE2, .nil⟩ .nil)⟩ (.cons ⟨E4, _, rfl, gE4, .nil⟩ .nil)⟩ (.cons ⟨E6, _, rfl, gE6, .nil⟩ .nil)⟩
    clear gE1 gE2 gE3 gE4 gE5 gE6 gE7
    refine ⟨x2, zD, mD3, tD, careD, .ref E7, false, 2, treeD, rfl, ra, deep_rd.ms, deep_rd.tl, rfl, bE, al_D, sz_D, fun HE L s_ hL gL => ?_⟩
    rw [show (rows mD3 tD (2 + 1) 1 treeD).map Prod.fst = y12 from fst_12] at gL
    clear bE
    have t0 := t0.trans s_
    have ra := ra.same s_
    refine ⟨_, rfl, ?_⟩
    refine ⟨(by show 12 ≤ sizeLine; decide), fun G hG => ?_⟩
    rw [show ([V.str (Str.ofString "-"), V.str (Str.ofString "."), V.str (Str.ofString "a"), V.str (Str.ofString "--a"), V.str (Str.ofString "a"), V.str (Str.ofString "a-"), V.str (Str.ofString "."), V.str (Str.ofString "a-"), V.str (Str.ofString ".-"), V.str (Str.ofString "-"), V.str (Str.ofString ".-"), V.str (Str.ofString "--")] : List V) = (y12.map V.str) from rfl]
    have s_ : Same HE (upd HE G (.lst (y12.map V.str))) := (Same.refl HE).upd hG
    have gG : upd HE G (.lst (y12.map V.str)) G = some (.lst (y12.map V.str)) := upd_same
    generalize upd HE G (.lst (y12.map V.str)) = H41a at s_ gG ⊢
    have t0 := t0.trans s_
    have ra := ra.same s_
    have gL := s_ _ _ gL
    refine ⟨_, _, BuAt.dp (bu1_at gL), BuAt.dp (bu1_at gG), sm12.shaped, sm12.shaped, _, rfl, ?_⟩
    rw [eqvT sm12]
    refine iteF ?_
    clear gG
    refine ⟨_, rfl, _, rfl, x2, zD, mD3, tD, careD, L, false, y12, 2, rfl, ra, deep_rd, gL, msg_12, rfl, fun back HF s_ hb => ?_⟩
    rw [tell_12] at hb
    obtain ⟨F, tr, _, _⟩ := hb
    rw [show grownB (2 + 1) (((rows mD3 tD 3 1 treeD).map Prod.snd).zip y12) = treeD from grown_12] at tr
    have bt := tr.at_
    clear tr
    clear gL
    have t0 := t0.trans s_
    have ra := ra.same s_
    refine ⟨(by show 1 ≤ sizeLine; decide), fun J1 hJ1 => ?_⟩
    have s_ : Same HF (upd HF J1 (.lst [V.str (Str.ofString "--a")])) := (Same.refl HF).upd hJ1
    have gJ1 : upd HF J1 (.lst [V.str (Str.ofString "--a")]) J1 = some (.lst [V.str (Str.ofString "--a")]) := upd_same
    generalize upd HF J1 (.lst [V.str (Str.ofString "--a")]) = H43a at s_ gJ1 ⊢
    have t0 := t0.trans s_
    have ra := ra.same s_
    have bt := BuAt.same s_ bt
    refine ⟨by decide, fun J2 hJ2 => ?_⟩
    have s_ : Same H43a (upd H43a J2 (.lst [])) := (Same.refl H43a).upd hJ2
    have gJ2 : upd H43a J2 (.lst []) J2 = some (.lst []) := upd_same
    generalize upd H43a J2 (.lst []) = H45a at s_ gJ2 ⊢
    have t0 := t0.trans s_
    have ra := ra.same s_
    have bt := BuAt.same s_ bt
    have gJ1 := s_ _ _ gJ1
    refine ⟨(by show 2 ≤ sizeLine; decide), fun J3 hJ3 => ?_⟩
    have s_ : Same H45a (upd H45a J3 (.lst [V.ref J1, V.ref J2])) := (Same.refl H45a).upd hJ3
    have gJ3 : upd H45a J3 (.lst [V.ref J1, V.ref J2]) J3 = some (.lst [V.ref J1, V.ref J2]) := upd_same
    generalize upd H45a J3 (.lst [V.ref J1, V.ref J2]) = H47a at s_ gJ3 ⊢
    have t0 := t0.trans s_
    have ra := ra.same s_
    have bt := BuAt.same s_ bt
    have gJ1 := s_ _ _ gJ1
    have gJ2 := s_ _ _ gJ2
    refine ⟨by decide, fun J4 hJ4 => ?_⟩
    have s_ : Same H47a (upd H47a J4 (.lst [])) := (Same.refl H47a).upd hJ4
    have gJ4 : upd H47a J4 (.lst []) J4 = some (.lst []) := upd_same
    generalize upd H47a J4 (.lst []) = H49a at s_ gJ4 ⊢
    have t0 := t0.trans s_
    have ra := ra.same s_
    have bt := BuAt.same s_ bt
    have gJ1 := s_ _ _ gJ1
    have gJ2 := s_ _ _ gJ2
    have gJ3 := s_ _ _ gJ3
    refine ⟨(by show 2 ≤ sizeLine; decide), fun J5 hJ5 => ?_⟩
    have s_ : Same H49a (upd H49a J5 (.lst [V.ref J3, V.ref J4])) := (Same.refl H49a).upd hJ5
    have gJ5 : upd H49a J5 (.lst [V.ref J3, V.ref J4]) J5 = some (.lst [V.ref J3, V.ref J4]) := upd_same
    generalize upd H49a J5 (.lst [V.ref J3, V.ref J4]) = H51a at s_ gJ5 ⊢
    have t0 := t0.trans s_
    have ra := ra.same s_
    have bt := BuAt.same s_ bt
    have gJ1 := s_ _ _ gJ1
    have gJ2 := s_ _ _ gJ2
    have gJ3 := s_ _ _ gJ3
    have gJ4 := s_ _ _ gJ4
    refine ⟨by decide, fun J6 hJ6 => ?_⟩
    have s_ : Same H51a (upd H51a J6 (.lst [])) := (Same.refl H51a).upd hJ6
    have gJ6 : upd H51a J6 (.lst []) J6 = some (.lst []) := upd_same
    generalize upd H51a J6 (.lst []) = H53a at s_ gJ6 ⊢
    have t0 := t0.trans s_
    have ra := ra.same s_
    have bt := BuAt.same s_ bt
    have gJ1 := s_ _ _ gJ1
    have gJ2 := s_ _ _ gJ2
    have gJ3 := s_ _ _ gJ3
    have gJ4 := s_ _ _ gJ4
    have gJ5 := s_ _ _ gJ5
    refine ⟨(by show 2 ≤ sizeLine; decide), fun J7 hJ7 => ?_⟩
    have s_ : Same H53a (upd H53a J7 (.lst [V.ref J5, V.ref J6])) := (Same.refl H53a).upd hJ7
    have gJ7 : upd H53a J7 (.lst [V.ref J5, V.ref J6]) J7 = some (.lst [V.ref J5, V.ref J6]) := upd_same
    generalize upd H53a J7 (.lst [V.ref J5, V.ref J6]) = H55a at s_ gJ7 ⊢
    have t0 := t0.trans s_
    have ra := ra.same s_
    have bt := BuAt.same s_ bt
    have gJ1 := s_ _ _ gJ1
    have gJ2 := s_ _ _ gJ2
    have gJ3 := s_ _ _ gJ3
    have gJ4 := s_ _ _ gJ4
    have gJ5 := s_ _ _ gJ5
    have gJ6 := s_ _ _ gJ6
    have bJ : BuAt false H55a 4 (.ref J7) treeD := ⟨J7, _, rfl, gJ7, .cons ⟨J5, _, rfl, gJ5, .cons ⟨J3, _, rfl, gJ3, .cons ⟨J1, _, rfl, gJ1, .cons rfl .nil⟩ (.cons ⟨J2, _, rfl, gJ2, .nil⟩ .nil)⟩ (.cons ⟨J4, _, rfl, gJ4, .nil⟩ .nil)⟩ (.cons ⟨J6, _, rfl, gJ6, .nil⟩ .nil)⟩
    clear gJ1 gJ2 gJ3 gJ4 gJ5 gJ6 gJ7
    refine ⟨_, _, BuAt.dp bt, BuAt.dp bJ, smD.shaped, smD.shaped, _, rfl, ?_⟩
    rw [eqvT smD]
    refine iteF ?_
    clear bt bJ
    refine ⟨_, rfl, ?_⟩
    refine ⟨by decide, fun N hN => ?_⟩
    have s_ : Same H55a (upd H55a N (.lst [])) := (Same.refl H55a).upd hN
    have gN : upd H55a N (.lst []) N = some (.lst []) := upd_same
    generalize upd H55a N (.lst []) = H57a at s_ gN ⊢
    have t0 := t0.trans s_
    have ra := ra.same s_
    refine ⟨x2, zD, mD3, tD, careD, .ref N, false, 2, noKids 3, rfl, ra, deep_rd.ms, deep_rd.tl, rfl, ⟨N, [], rfl, gN, .nil⟩, (fun _ h => nomatch h), (by decide +kernel), fun HG O xs s_ hO gO hxs => ?_⟩
    have hxs : Paired (RoAt K HG) xs [(endW, 1)] := hxs
    clear gN
    have t0 := t0.trans s_
    have ra := ra.same s_
    obtain ⟨u, hu, hv⟩ : ∃ u, xs = [u] ∧ RoAt K HG u (endW, 1) := by
      cases hxs with
      | cons h r =>
        cases r
        exact ⟨_, rfl, h⟩
    obtain ⟨w1, rfl, hw⟩ := hv
    subst hu
    refine ⟨O, _, 0, .ref w1, rfl, rfl, SqL.of gO, atI_nat (j := 0) rfl, ?_⟩
    refine ⟨(by show 2 ≤ sizeLine; decide), fun T hT => ?_⟩
    have s_ : Same HG (upd HG T (.tup [V.str (Str.ofString "end"), V.int 1])) := (Same.refl HG).upd hT
    have gT : upd HG T (.tup [V.str (Str.ofString "end"), V.int 1]) T = some (.tup [V.str (Str.ofString "end"), V.int 1]) := upd_same
    generalize upd HG T (.tup [V.str (Str.ofString "end"), V.int 1]) = H59a at s_ gT ⊢
    have t0 := t0.trans s_
    have ra := ra.same s_
    have hw := (NL.same s_).sqT hw
    refine ⟨roleD (endW, 1), roleD (endW, 1), .tup hw (.cons (.str _) (.cons (.int _) .nil)), .tup (SqT.of gT) (.cons (.str _) (.cons (.int _) .nil)), smE.shaped, smE.shaped, _, rfl, ?_⟩
    rw [eqvS smE]
    refine iteF ?_
    clear hw gT
    refine ⟨_, rfl, ?_⟩
    refine ⟨(by show 3 ≤ sizeLine; decide), fun P3 hP3 => ?_⟩
    rw [show ([V.str (Str.ofString "-"), V.str (Str.ofString "."), V.str (Str.ofString "-")] : List V) = (y3.map V.str) from rfl]
    have s_ : Same H59a (upd H59a P3 (.lst (y3.map V.str))) := (Same.refl H59a).upd hP3
    have gP3 : upd H59a P3 (.lst (y3.map V.str)) P3 = some (.lst (y3.map V.str)) := upd_same
    generalize upd H59a P3 (.lst (y3.map V.str)) = H61a at s_ gP3 ⊢
    have t0 := t0.trans s_
    have ra := ra.same s_
    refine ⟨x2, zD, mD3, tD, careD, P3, false, y3, rfl, ra, deep_rd, gP3, msg_3, fun HI S xs s_ hS gS hxs => ?_⟩
    rw [stands_3] at hxs
    clear gP3
    have t0 := t0.trans s_
    have ra := ra.same s_
    refine ⟨(by show 2 ≤ sizeLine; decide), fun Q0 hQ0 => ?_⟩
    have s_ : Same HI (upd HI Q0 (.tup [V.int 1, V.str (Str.ofString "wait")])) := (Same.refl HI).upd hQ0
    have gQ0 : upd HI Q0 (.tup [V.int 1, V.str (Str.ofString "wait")]) Q0 = some (.tup [V.int 1, V.str (Str.ofString "wait")]) := upd_same
    generalize upd HI Q0 (.tup [V.int 1, V.str (Str.ofString "wait")]) = H63a at s_ gQ0 ⊢
    have t0 := t0.trans s_
    have ra := ra.same s_
    have gS := s_ _ _ gS
    have hxs := paired_imp hxs fun _ _ q => SdAt.imp (NL.same s_) q
    refine ⟨(by show 2 ≤ sizeLine; decide), fun Q1 hQ1 => ?_⟩
    have s_ : Same H63a (upd H63a Q1 (.tup [V.int 2, V.str (Str.ofString "wait")])) := (Same.refl H63a).upd hQ1
    have gQ1 : upd H63a Q1 (.tup [V.int 2, V.str (Str.ofString "wait")]) Q1 = some (.tup [V.int 2, V.str (Str.ofString "wait")]) := upd_same
    generalize upd H63a Q1 (.tup [V.int 2, V.str (Str.ofString "wait")]) = H65a at s_ gQ1 ⊢
    have t0 := t0.trans s_
    have ra := ra.same s_
    have gS := s_ _ _ gS
    have hxs := paired_imp hxs fun _ _ q => SdAt.imp (NL.same s_) q
    have gQ0 := s_ _ _ gQ0
    refine ⟨(by show 2 ≤ sizeLine; decide), fun Q2 hQ2 => ?_⟩
    have s_ : Same H65a (upd H65a Q2 (.tup [V.int 3, V.str (Str.ofString "wait")])) := (Same.refl H65a).upd hQ2
    have gQ2 : upd H65a Q2 (.tup [V.int 3, V.str (Str.ofString "wait")]) Q2 = some (.tup [V.int 3, V.str (Str.ofString "wait")]) := upd_same
    generalize upd H65a Q2 (.tup [V.int 3, V.str (Str.ofString "wait")]) = H67a at s_ gQ2 ⊢
    have t0 := t0.trans s_
    have ra := ra.same s_
    have gS := s_ _ _ gS
    have hxs := paired_imp hxs fun _ _ q => SdAt.imp (NL.same s_) q
    have gQ0 := s_ _ _ gQ0
    have gQ1 := s_ _ _ gQ1
    refine ⟨(by show 2 ≤ sizeLine; decide), fun Q3 hQ3 => ?_⟩
    have s_ : Same H67a (upd H67a Q3 (.tup [V.int 2, V.str (Str.ofString "wait")])) := (Same.refl H67a).upd hQ3
    have gQ3 : upd H67a Q3 (.tup [V.int 2, V.str (Str.ofString "wait")]) Q3 = some (.tup [V.int 2, V.str (Str.ofString "wait")]) := upd_same
    generalize upd H67a Q3 (.tup [V.int 2, V.str (Str.ofString "wait")]) = H69a at s_ gQ3 ⊢
    have t0 := t0.trans s_
    have ra := ra.same s_
    have gS := s_ _ _ gS
    have hxs := paired_imp hxs fun _ _ q => SdAt.imp (NL.same s_) q
    have gQ0 := s_ _ _ gQ0
    have gQ1 := s_ _ _ gQ1
    have gQ2 := s_ _ _ gQ2
    refine ⟨(by show 4 ≤ sizeLine; decide), fun Q4 hQ4 => ?_⟩
    have s_ : Same H69a (upd H69a Q4 (.lst [V.ref Q0, V.ref Q1, V.ref Q2, V.ref Q3])) := (Same.refl H69a).upd hQ4
    have gQ4 : upd H69a Q4 (.lst [V.ref Q0, V.ref Q1, V.ref Q2, V.ref Q3]) Q4 = some (.lst [V.ref Q0, V.ref Q1, V.ref Q2, V.ref Q3]) := upd_same
    generalize upd H69a Q4 (.lst [V.ref Q0, V.ref Q1, V.ref Q2, V.ref Q3]) = H71a at s_ gQ4 ⊢
    have t0 := t0.trans s_
    have ra := ra.same s_
    have gS := s_ _ _ gS
    have hxs := paired_imp hxs fun _ _ q => SdAt.imp (NL.same s_) q
    have gQ0 := s_ _ _ gQ0
    have gQ1 := s_ _ _ gQ1
    have gQ2 := s_ _ _ gQ2
    have gQ3 := s_ _ _ gQ3
    refine ⟨_, standsD [(1, waitW), (2, waitW), (3, waitW), (2, waitW)], stands_dp gS hxs, stands_dp gQ4 (.cons ⟨Q0, rfl, SqT.of gQ0⟩ (.cons ⟨Q1, rfl, SqT.of gQ1⟩ (.cons ⟨Q2, rfl, SqT.of gQ2⟩ (.cons ⟨Q3, rfl, SqT.of gQ3⟩ .nil)))), smC.shaped, smC.shaped, _, rfl, ?_⟩
    rw [eqvS smC]
    refine iteF ?_
    clear gS hxs gQ0 gQ1 gQ2 gQ3 gQ4
    refine ⟨_, rfl, ?_⟩
    refine ⟨(by show 7 ≤ sizeLine; decide), fun P7 hP7 => ?_⟩
    rw [show ([V.str (Str.ofString "-"), V.str (Str.ofString "."), V.str (Str.ofString "a"), V.str (Str.ofString "aa"), V.str (Str.ofString "-"), V.str (Str.ofString "."), V.str (Str.ofString "--")] : List V) = (y7.map V.str) from rfl]
    have s_ : Same H71a (upd H71a P7 (.lst (y7.map V.str))) := (Same.refl H71a).upd hP7
    have gP7 : upd H71a P7 (.lst (y7.map V.str)) P7 = some (.lst (y7.map V.str)) := upd_same
    generalize upd H71a P7 (.lst (y7.map V.str)) = H73a at s_ gP7 ⊢
    have t0 := t0.trans s_
    have ra := ra.same s_
    refine ⟨x2, zD, mD3, tD, careD, P7, false, y7, 2, rfl, ra, deep_rd, gP7, msg_7, rfl, fun back HJ s_ hb => ?_⟩
    rw [tell_7] at hb
    obtain ⟨F, tr, _, _⟩ := hb
    rw [show grownB (2 + 1) (r7.zip y7) = treeE from grown_7] at tr
    have bt := tr.at_
    clear tr
    clear gP7
    have t0 := t0.trans s_
    have ra := ra.same s_
    refine ⟨(by show 1 ≤ sizeLine; decide), fun U1 hU1 => ?_⟩
    have s_ : Same HJ (upd HJ U1 (.lst [V.str (Str.ofString "aa")])) := (Same.refl HJ).upd hU1
    have gU1 : upd HJ U1 (.lst [V.str (Str.ofString "aa")]) U1 = some (.lst [V.str (Str.ofString "aa")]) := upd_same
    generalize upd HJ U1 (.lst [V.str (Str.ofString "aa")]) = H75a at s_ gU1 ⊢
    have t0 := t0.trans s_
    have ra := ra.same s_
    have bt := BuAt.same s_ bt
    refine ⟨(by show 1 ≤ sizeLine; decide), fun U2 hU2 => ?_⟩
    have s_ : Same H75a (upd H75a U2 (.lst [V.ref U1])) := (Same.refl H75a).upd hU2
    have gU2 : upd H75a U2 (.lst [V.ref U1]) U2 = some (.lst [V.ref U1]) := upd_same
    generalize upd H75a U2 (.lst [V.ref U1]) = H77a at s_ gU2 ⊢
    have t0 := t0.trans s_
    have ra := ra.same s_
    have bt := BuAt.same s_ bt
    have gU1 := s_ _ _ gU1
    refine ⟨(by show 1 ≤ sizeLine; decide), fun U3 hU3 => ?_⟩
    have s_ : Same H77a (upd H77a U3 (.lst [V.ref U2])) := (Same.refl H77a).upd hU3
    have gU3 : upd H77a U3 (.lst [V.ref U2]) U3 = some (.lst [V.ref U2]) := upd_same
    generalize upd H77a U3 (.lst [V.ref U2]) = H79a at s_ gU3 ⊢
    have t0 := t0.trans s_
    have ra := ra.same s_
    have bt := BuAt.same s_ bt
    have gU1 := s_ _ _ gU1
    have gU2 := s_ _ _ gU2
    refine ⟨by decide, fun U4 hU4 => ?_⟩
    have s_ : Same H79a (upd H79a U4 (.lst [])) := (Same.refl H79a).upd hU4
    have gU4 : upd H79a U4 (.lst []) U4 = some (.lst []) := upd_same
    generalize upd H79a U4 (.lst []) = H81a at s_ gU4 ⊢
    have t0 := t0.trans s_
    have ra := ra.same s_
    have bt := BuAt.same s_ bt
    have gU1 := s_ _ _ gU1
    have gU2 := s_ _ _ gU2
    have gU3 := s_ _ _ gU3
    refine ⟨(by show 1 ≤ sizeLine; decide), fun U5 hU5 => ?_⟩
    have s_ : Same H81a (upd H81a U5 (.lst [V.ref U4])) := (Same.refl H81a).upd hU5
    have gU5 : upd H81a U5 (.lst [V.ref U4]) U5 = some (.lst [V.ref U4]) := upd_same
    generalize upd H81a U5 (.lst [V.ref U4]) = H83a at s_ gU5 ⊢
    have t0 := t0.trans s_
    have ra := ra.same s_
    have bt := BuAt.same s_ bt
    have gU1 := s_ _ _ gU1
    have gU2 := s_ _ _ gU2
    have gU3 := s_ _ _ gU3
    have gU4 := s_ _ _ gU4
    refine ⟨(by show 2 ≤ sizeLine; decide), fun U6 hU6 => ?_⟩
    have s_ : Same H83a (upd H83a U6 (.lst [V.ref U3, V.ref U5])) := (Same.refl H83a).upd hU6
    have gU6 : upd H83a U6 (.lst [V.ref U3, V.ref U5]) U6 = some (.lst [V.ref U3, V.ref U5]) := upd_same
    generalize upd H83a U6 (.lst [V.ref U3, V.ref U5]) = H85a at s_ gU6 ⊢
    have t0 := t0.trans s_
    have ra := ra.same s_
    have bt := BuAt.same s_ bt
    have gU1 := s_ _ _ gU1
    have gU2 := s_ _ _ gU2
    have gU3 := s_ _ _ gU3
    have gU4 := s_ _ _ gU4
    have gU5 := s_ _ _ gU5
    have bU : BuAt false H85a 4 (.ref U6) treeE := ⟨U6, _, rfl, gU6, .cons ⟨U3, _, rfl, gU3, .cons ⟨U2, _, rfl, gU2, .cons ⟨U1, _, rfl, gU1, .cons rfl .nil⟩ .nil⟩ .nil⟩ (.cons ⟨U5, _, rfl, gU5, .cons ⟨U4, _, rfl, gU4, .nil⟩ .nil⟩ .nil)⟩
    refine ⟨_, _, BuAt.dp bt, BuAt.dp bU, smT.shaped, smT.shaped, ?_⟩
    rw [eqvT smT]
    exact k _ t0
end
end K68
namespace K68
open PySem PySem.Spec PyProof.Rows L2 FL
abbrev sRight : Stmt := topS 119
abbrev sLaw : Stmt := topS 120
def spDueA (K : PySem.W.Frag) : Sp := fun vs H Q E => ∃ k, k ≤ 3 ∧ spDue K k vs H Q E
def spMailA : Sp := fun vs H Q E => ∃ k, k ≤ 3 ∧ spMail k vs H Q E
theorem cutL_drop (xs : List V) (n : Nat) : cutV xs (some ((n : Nat) : Int)) none = xs.drop n := by
  show (xs.drop (HT.sIx xs.length 0 (some ((n : Nat) : Int)))).take (xs.length - HT.sIx xs.length 0 (some ((n : Nat) : Int))) = _
  rw [HT.sIx_nat]
  by_cases h : n ≤ xs.length
  · rw [Nat.min_eq_left h, List.take_of_length_le]
    rw [List.length_drop]
    exact Nat.le_refl _
  · rw [Nat.min_eq_right (by omega), List.drop_eq_nil_of_le (by omega), List.drop_eq_nil_of_le (by omega), List.take_nil]
theorem rows_b {B : Nat} (hB : 16 ≤ B) {z : Str} {ms : List Str} {tl : Str} (om : MarksOk z ms) (ot : TailOk z tl) : ∀ {k lv : Nat} {t : Bu (k + 1)}, 1 ≤ lv → lv + k = ms.length + 1 → Alls (fun y => Over z y ∧ y.length ≤ B) (k + 1) t → ∀ q ∈ rows ms tl k lv t, Over z q.1 ∧ q.1.length ≤ B
  | 0, lv, t, _, _, h, q, hq => by
    rw [rows_zero] at hq
    obtain ⟨y, hy, rfl⟩ := List.mem_map.mp hq
    exact h y hy
  | k + 1, lv, t, l1, l2, h, q, hq => by
    have ro : ∀ wd : Str, (wd = nextW ∨ wd = endW) → Over z (roLine ms tl (wd, lv)) ∧ (roLine ms tl (wd, lv)).length ≤ B := fun wd hw =>
      ⟨ro_over om ot ⟨hw, l1, by show lv ≤ _; omega⟩, Nat.le_trans (Nat.le_trans (ro_len om ot _) (by decide)) hB⟩
    rw [rows_succ] at hq
    rcases List.mem_append.mp hq with hq | hq
    · obtain ⟨part, hp, hq⟩ := List.mem_flatMap.mp hq
      rcases List.mem_cons.mp hq with rfl | hq
      · exact ro _ (.inl rfl)
      · exact rows_b hB om ot (by omega) (by omega) (h part hp) q hq
    · rw [List.mem_singleton.mp hq]
      exact ro _ (.inr rfl)
theorem rows_role {ms : List Str} {tl : Str} (hi : ms.length ≤ 3) : ∀ {k lv : Nat} {t : Bu (k + 1)}, lv + k = ms.length + 1 → ∀ r ∈ (rows ms tl k lv t).map Prod.snd, (r.1 = lineW ∨ r.1 = nextW ∨ r.1 = endW) ∧ r.2 ≤ 3
  | 0, lv, t, _, r, hr => by
    obtain ⟨q, hq, rfl⟩ := List.mem_map.mp hr
    rw [rows_zero] at hq
    obtain ⟨y, _, rfl⟩ := List.mem_map.mp hq
    exact ⟨.inl rfl, Nat.zero_le 3⟩
  | k + 1, lv, t, l, r, hr => by
    obtain ⟨q, hq, rfl⟩ := List.mem_map.mp hr
    rw [rows_succ] at hq
    rcases List.mem_append.mp hq with hq | hq
    · obtain ⟨part, hp, hq⟩ := List.mem_flatMap.mp hq
      rcases List.mem_cons.mp (show q ∈ (roLine ms tl (nextW, lv), (nextW, lv)) :: rows ms tl k (lv + 1) part from hq) with rfl | hq
      · exact ⟨.inr (.inl rfl), show lv ≤ 3 by omega⟩
      · exact rows_role hi (by omega) q.2 (List.mem_map_of_mem hq)
    · rw [List.mem_singleton.mp hq]
      exact ⟨.inr (.inr rfl), show lv ≤ 3 by omega⟩
theorem go_take {ms : List Str} {tl : Str} {c : Cares} : ∀ {ys : List Str} {s : Sd} {j : Nat}, (goL ms tl c s ys).take j = goL ms tl c s (ys.take j)
  | [], s, j => by
    rw [List.take_nil]
    exact List.take_nil
  | y :: ys, s, 0 => by
    rw [List.take_zero, List.take_zero]
    rfl
  | y :: ys, s, j + 1 => by
    rw [List.take_succ_cons]
    show (match moveL ms tl c s y with
      | none => []
      | some q => q :: goL ms tl c q.2 ys).take (j + 1) = (match moveL ms tl c s y with
      | none => []
      | some q => q :: goL ms tl c q.2 (ys.take j))
    cases moveL ms tl c s y with
    | none => exact List.take_nil
    | some q =>
      show (q :: goL ms tl c q.2 ys).take (j + 1) = q :: goL ms tl c q.2 (ys.take j)
      rw [List.take_succ_cons, go_take]
theorem stands_take {ms : List Str} {tl : Str} {c : Cares} {ys : List Str} {j : Nat} : (standsL ms tl c ys).take (j + 1) = standsL ms tl c (ys.take j) := by
  unfold standsL
  rw [List.take_succ_cons, ← List.map_take, go_take]
/-- a mail in the heap -/
def MailL (z : Str) (H : Hp) (v : V) : Prop := ∃ (m : Addr) (ys : List Str), v = .ref m ∧ H m = some (.lst (ys.map V.str)) ∧ (∀ y ∈ ys, Over z y ∧ y.length ≤ 100) ∧ ys.length ≤ 4500
theorem MailL.same {z : Str} {H H' : Hp} {v : V} (h : MailL z H v) (s : Same H H') : MailL z H' v := by
  obtain ⟨m, ys, e, g, o⟩ := h
  exact ⟨m, ys, e, s _ _ g, o⟩
theorem max_nat {l d : Int} (h0 : 0 ≤ d) {n : Nat} (hl : l = ((n : Nat) : Int)) : ∃ a : Nat, a ≤ n ∧ (if l - 1 - d > 0 then l - 1 - d else 0) = ((a : Nat) : Int) := by
  by_cases q : l - 1 - d > 0
  · rw [if_pos q]
    exact ⟨(l - 1 - d).toNat, by omega, by omega⟩
  · rw [if_neg q]
    exact ⟨0, Nat.zero_le _, rfl⟩
section
variable {P : Program} {w : World} {K : PySem.W.Frag} {mg : Str → Option Value} {base : Heap}
theorem mail_any {f : Addr} {fd : FuncData} (c : ∀ n, FnOk P w K mg base CX0 (2 + n) f fd pMail (spMail n)) : FnOk P w K mg base CX0 5 f fd pMail spMailA :=
  ⟨fun vs H Q E ⟨d, _, h⟩ => (c d).len vs H Q E h, fun A o s H a us vs Q E hr he hb hv ⟨d, hd, h⟩ => (c d).run A o s H a us vs Q E (hr.mono (by omega)) he hb hv h⟩
theorem due_any {f : Addr} {fd : FuncData} (c : ∀ n, FnOk P w K mg base CX0 (2 + n) f fd pMail (spDue K n)) : FnOk P w K mg base CX0 5 f fd pMail (spDueA K) :=
  ⟨fun vs H Q E ⟨d, _, h⟩ => (c d).len vs H Q E h, fun A o s H a us vs Q E hr he hb hv ⟨d, hd, h⟩ => (c d).run A o s H a us vs Q E (hr.mono (by omega)) he hb hv h⟩
theorem reader_but {C p q : Addr} {Ha Hb : Hp} {z : Str} {ms : List Str} {tl : Str} {c : Cares} (pa : PotAt Ha p) (b : But p Ha Hb) (h : ReaderAt C Ha q z ms tl c) : ReaderAt C Hb q z ms tl c := by
  obtain ⟨dx, m2, c2, e1, e2, e3⟩ := h
  refine ⟨dx, m2, c2, b _ _ e1 fun e => ?_, b _ _ e2 fun e => ?_, b _ _ e3 fun e => ?_⟩
  · obtain ⟨_, _, q', _⟩ := pa
    rw [← e, e1] at q'
    cases q'
  · rw [e] at e2
    exact pot_nlst pa e2
  · obtain ⟨_, _, q', _⟩ := pa
    rw [← e, e3] at q'
    cases q'
abbrev nRight : List Str := ["_law_pot_here", "_law_model_here", "_law_rd", "_law_rules_now", "_law_bush_here", "_law_mail_here", "_law_at", "_law_other_mail", "_law_relayed", "_law_line_here", "_law_near"]
theorem scRight : FnScope nRight ["_law_pot_here"] (defScope sRight) := ⟨rfl, rfl, rfl, by decide +kernel, rfl, by decide +kernel, by decide +kernel⟩
theorem ok_right {f : Addr} {fd : FuncData} (F : Fun K "_law_right" "_law_right" sRight f fd) (R : RdF P w K mg base) (mN : mg "len" = none) (mX : mg "max" = none) (mA : mg "all" = none)
    (cO : Ca P w K mg base "_law_model" 4 ["_law_pot_here"] spModel) (cD : Ca P w K mg base "_law_draw" 1 ["_law_pot_here", "_law_many"] spDraw) (cN : Ca P w K mg base "_law_near_line" 4 ["_law_pot_here", "_law_model_here"] spNearW)
    (cR : Ca P w K mg base "_law_reader" 6 ["_law_model_here"] (spMkReader R.C)) (cS : Ca P w K mg base "_law_rules" 4 ["_law_pot_here", "_law_signs"] spRules) (cB : Ca P w K mg base "_law_wide_bush" 8 pWide spWideA) (cM : Ca P w K mg base "_law_mail" 5 pMail spMailA)
    (cW : Ca P w K mg base "written" 9 ["reader", "tree"] (spWrittenZ R.C)) (cG : Ca P w K mg base "own_telling" 9 ["reader", "tree"] (spOwnTZ K R.C)) (cU : Ca P w K mg base "_law_due" 5 pMail (spDueA K))
    (cC : Ca P w K mg base "course" 9 ["reader", "message"] (spCourse R.C K)) (cH : Ca P w K mg base "_law_turn" 1 ["_law_rules_here", "_law_line_here"] spTurn)
    (cT : Ca P w K mg base "_law_mail_right" 10 ["_law_model_here", "_law_rd", "_law_mail_here"] (spMailR R.C)) :
    FnOk P w K mg base CX0 11 f fd ["_law_pot_here"] spRight := by
  refine F.ok scRight (fun vs H Q E h => ?_) (fun cdv A outer s H vs Q E hr h => ?_)
  · obtain ⟨_, rfl, _⟩ := h
    rfl
  · obtain ⟨p, rfl, hp0, k⟩ := h
    have nd := scRight.nd
    have hu := hu_of hr
    have sz : sizeLine = 16777216 := rfl
    have h1 := hr.mono (show 1 ≤ 10 by decide)
    have h4 := hr.mono (show 4 ≤ 10 by decide)
    have h5 := hr.mono (show 5 ≤ 10 by decide)
    have h6 := hr.mono (show 6 ≤ 10 by decide)
    have h8 := hr.mono (show 8 ≤ 10 by decide)
    have h9 := hr.mono (show 9 ≤ 10 by decide)
    refine ⟨_, pss_cons (ps_set (i := 1) nd rfl (.inr rfl) (pe_ca cO h4 (by rfl) (pa_cons (pv 0) pa_nil)))
      (pss_cons (ps_asg (pe_tup (pa_cons (pe_ca cR h6 (by rfl) (pa_cons (pv 1) pa_nil)) (pa_cons (pe_ca cS h4 (by rfl) (pa_cons (pv 0) (pa_cons (pe_dget hu (pv 1) pe_str (fun _ _ => rfl)) pa_nil))) pa_nil)))
        (pg_tup rfl (pgs_cons (pg_name (i := 2) nd rfl (.inr rfl)) (pgs_cons (pg_name (i := 3) nd rfl (.inr rfl)) pgs_nil))))
      (pss_cons (ps_set (i := 4) nd rfl (.inl rfl) (pe_ca cB h8 (by rfl) (pa_cons (pv 0) (pa_cons (pv 1) (pa_cons (pe_callB callLen (by rfl) mN PySem.boot_len (pa_cons (pe_dget hu (pv 1) pe_str (fun _ _ => rfl)) pa_nil)) pa_nil)))))
      (pss_cons (ps_set (i := 5) nd rfl (.inl rfl) (pe_ca cM h5 (by rfl) (pa_cons (pv 1) (pa_cons (pv 4) (pa_cons pe_int pa_nil)))))
      (pss_cons (ps_if (PW.pt (pw_or (pt_cmpR (op_neD hr.units) (pe_ca cW h9 (by rfl) (pa_cons (pv 2) (pa_cons (pv 4) pa_nil))) (pv 5) (nomark _))
          (pw_or1 (pt_cmpR (op_neD hr.units) (pe_ca cG h9 (by rfl) (pa_cons (pv 2) (pa_cons (pv 4) pa_nil))) (pe_ca cU h5 (by rfl) (pa_cons (pv 1) (pa_cons (pv 4) (pa_cons pe_int pa_nil)))) (nomark _))))) (pss_one (ps_ret pe_bl)) pss_nil)
      (pss_cons (ps_set (i := 6) nd rfl (.inl rfl) (pe_callB (call_max2 rfl) (by rfl) mX (by decide +kernel) (pa_cons pe_int (pa_cons (pe_op op_sub (pe_op op_sub (pe_callB callLen (by rfl) mN PySem.boot_len (pa_cons (pv 5) pa_nil)) pe_int) (pe_ca cD h1 (by rfl) (pa_cons (pv 0) (pa_cons pe_int pa_nil)))) pa_nil))))
      (pss_cons (ps_set (i := 7) nd rfl (.inl rfl) (pe_op op_cat (pe_op op_cat (pe_slice sl_list (pv 5) po_none (po_some (pv 6))) (pe_lst (pa_cons (pe_ca cN h4 (by rfl) (pa_cons (pv 0) (pa_cons (pv 1) pa_nil))) pa_nil))) (pe_slice sl_list (pv 5) (po_some (pe_op op_add (pv 6) pe_int)) po_none)))
      (pss_cons (ps_if (pt_cmpR (op_neD hr.units) (pe_slice sl_list (pe_ca cC h9 (by rfl) (pa_cons (pv 2) (pa_cons (pv 7) pa_nil))) po_none (po_some (pe_op op_add (pv 6) pe_int))) (pe_slice sl_list (pe_ca cC h9 (by rfl) (pa_cons (pv 2) (pa_cons (pv 5) pa_nil))) po_none (po_some (pe_op op_add (pv 6) pe_int))) (nomark _)) (pss_one (ps_ret pe_bl)) pss_nil)
      (pss_cons (ps_setLc (i := 8) (own := [("_law_line_here", 9)]) (g := gName 9) (tt := tYes) (te := tCall spTurn [] E0 (tCons (tVar 3) (tCons (tVar 9) tNil))) rfl nd rfl rfl (sw_true rfl rfl rfl (by decide +kernel))
          (pi_list (pv 5)) (blkOk_by (N := nRight) (sc := defScope sRight) (by decide +kernel)) (fun _ _ _ _ _ => pg_name (i := 9) nd rfl (Or.inl rfl)) (fun _ _ _ _ _ => pts_nil)
          (fun _ _ _ _ _ => pe_ca cH h1 (by rfl) (pa_cons (pv 3) (pa_cons (pv 9) pa_nil))))
      (pss_one (ps_ret (pe_callB (cr_all rfl) (by rfl) mA (by decide +kernel) (pa_cons (pe_lc (own := [("_law_near", 10)]) (g := gName 10) (tt := tYes) (te := tCall (spMailR R.C) [] E0 (tCons (tVar 1) (tCons (tVar 2) (tCons (tVar 10) tNil)))) rfl nd
          (pi_list (pe_lst (pa_cons (pv 5) (pa_cons (pv 7) (pa_cons (pv 8) pa_nil))))) (blkOk_by (N := nRight) (sc := defScope sRight) (by decide +kernel)) (fun _ _ _ _ _ => pg_name (i := 10) nd rfl (Or.inl rfl)) (fun _ _ _ _ _ => pts_nil)
          (fun _ _ _ _ _ => pe_ca cT hr (by rfl) (pa_cons (pv 1) (pa_cons (pv 2) (pa_cons (pv 10) pa_nil))))) pa_nil)))))))))))), ?_⟩
    refine ⟨_, rfl, p, rfl, hp0, fun d z ms tl c HB hd0 mo om lm lt hp bB => ?_⟩
    clear lm lt hd0
    have mhi := om.ms.hi
    have mlo := om.ms.lo
    have zlo := om.az.lo
    have zhi := om.az.hi
    obtain ⟨n, en⟩ : ∃ n, ms.length = n + 1 := ⟨ms.length - 1, by omega⟩
    -- the reader, the rules
    refine ⟨_, rfl, d, z, ms, tl, c, rfl, mo, om, fun q H1 hq ra s1 => ?_⟩
    have p1 := FL.Same.pot s1 hp
    have b1 : But p HB H1 := (But.refl p HB).same s1
    obtain ⟨ma, hd, hma⟩ := mo.same s1
    refine ⟨_, rfl, _, rfl, d, _, rfl, dget_of hd (model_signs z ma tl c), p, z, rfl, p1, by omega, by omega, fun Ru rs H2 hRu gRu hrs lrs p2 b2 => ?_⟩
    clear hd hma ma
    have nRu : Ru ≠ p := Ne.symm (p1.ne hRu)
    have ra2 := reader_but p1 b2 ra
    refine ⟨(by show 2 ≤ sizeLine; decide), fun T hT => ?_⟩
    have sT : Same H2 (upd H2 T (.tup [.ref q, .ref Ru])) := (Same.refl H2).upd hT
    have gT : upd H2 T (.tup [.ref q, .ref Ru]) T = some (.tup [.ref q, .ref Ru]) := upd_same
    generalize upd H2 T (.tup [.ref q, .ref Ru]) = H3 at sT gT ⊢
    refine ⟨T, _, rfl, SqT.of gT, rfl, _, _, rfl, _, _, rfl, rfl, ?_⟩
    have p3 := FL.Same.pot sT p2
    have b3 : But p HB H3 := (b1.trans b2).same sT
    have ra3 := ra2.same sT
    have gRu3 := sT _ _ gRu
    have hrs3 : ∀ v ∈ rs, TrpAt z H3 v := fun v hv => (hrs v hv).same sT
    clear gT sT ra ra2 s1 b1 p1 hT gRu hrs p2 b2 hRu
    -- the bush
    obtain ⟨ma, hd, hma⟩ := mo.but hp b3
    refine ⟨_, rfl, _, rfl, _, rfl, d, _, rfl, dget_of hd (model_marks z ma tl c), _, ms.length, rfl, .inl ⟨_, SqL.of hma, (List.length_map _).symm⟩, n + 1, by omega, p, d, z, ms, tl, c, (by rw [en]; rfl), p3, ⟨ma, hd, hma⟩, om, fun v t H4 hb al few p4 b4 => ?_⟩
    clear hd hma ma
    have hb := hb.at_
    have b04 := b3.trans b4
    have ra4 := reader_but p3 b4 ra3
    have gRu4 := b4 _ _ gRu3 nRu
    have hrs4 : ∀ v ∈ rs, TrpAt z H4 v := fun v hv => (hrs3 v hv).but p3 b4
    have few10 : Few 10 (n + 2) t := Few.mono (by decide) few
    have al1 : Alls (fun y => Over z y ∧ y.length ≤ 1000) (n + 2) t := Alls.imp (fun y hy => ⟨hy.1, by omega⟩) al
    have szT : szB (n + 2) t ≤ 3201 := by
      refine Nat.le_trans (few_sz few) ?_
      obtain rfl | rfl | rfl : n = 0 ∨ n = 1 ∨ n = 2 := by omega
      all_goals decide
    have szT2 : szB (n + 2) t ≤ 100000 := by omega
    have lR : (rows ms tl (n + 1) 1 t).length + 1 ≤ szB (n + 2) t := rows_sz (ms := ms) (tl := tl) (k := n + 1) (lv := 1) (t := t)
    have hys : ∀ y ∈ (rows ms tl (n + 1) 1 t).map Prod.fst, Over z y ∧ y.length ≤ 52 := fun y hy => by
      obtain ⟨q, hq, rfl⟩ := List.mem_map.mp hy
      exact rows_b (by decide) om.ms om.tl (Nat.le_refl _) (by omega) al q hq
    have lY : ((rows ms tl (n + 1) 1 t).map Prod.fst).length ≤ 3200 := by rw [List.length_map]; omega
    have smR := sm_rolesN (rows_role (tl := tl) mhi (k := n + 1) (lv := 1) (t := t) (by omega))
    have mok : MsgOk z ((rows ms tl (n + 1) 1 t).map Prod.fst) := ⟨fun y hy => (hys y hy).1, fun y hy => by have := (hys y hy).2; omega, by omega⟩
    obtain ⟨mm, smS⟩ := sm_strs om.az mok
    clear gRu3 hrs3 ra3 b3 p3 b4
    -- the mail
    refine ⟨_, rfl, _, rfl, n + 1, by omega, d, z, ms, tl, c, v, 1, t, rfl, mo.but hp b04, om.ms, om.tl, Nat.le_refl _, by omega, hb, few10, fun H5 m s5 hm gm => ?_⟩
    have p5 := FL.Same.pot s5 p4
    have b05 := b04.same s5
    -- written
    refine ⟨_, rfl, _, rfl, q, z, ms, tl, c, v, false, n, t, rfl, ra4.same s5, om.ms, om.tl, en, BuAt.same s5 hb, al1, szT2, fun H6 W s6 hW gW => ?_⟩
    have s46 := s5.trans s6
    refine ⟨_, rfl, _, _, BuAt.dp (bu1_at gW), BuAt.dp (bu1_at (s6 _ _ gm)), smS.shaped, smS.shaped, _, rfl, ?_⟩
    rw [eqvT smS]
    refine iteF ?_
    refine ⟨_, rfl, _, rfl, q, z, ms, tl, c, v, false, n, t, rfl, ra4.same s46, om.ms, om.tl, en, BuAt.same s46 hb, al1, szT2, fun H7 O xs7 s7 hO gO hx7 => ?_⟩
    have s47 := s46.trans s7
    refine ⟨_, rfl, _, rfl, n + 1, by omega, d, z, ms, tl, c, v, 1, t, rfl, (mo.but hp b04).same s47, om.ms, Nat.le_refl _, by omega, BuAt.same s47 hb, few10, fun H8 U xs8 s8 hU gU hx8 => ?_⟩
    refine ⟨_, _, dp_roles (s8 _ _ gO) (Ros.imp (NL.same s8) hx7), dp_roles gU hx8, smR.shaped, smR.shaped, _, rfl, ?_⟩
    rw [eqvS smR]
    refine iteF ?_
    have s48 := s47.trans s8
    have s58 : Same H5 H8 := (s6.trans s7).trans s8
    have gm := s58 _ _ gm
    have p8 := FL.Same.pot s48 p4
    have b08 := b04.same s48
    have ra8 := ra4.same s48
    have gRu8 := s48 _ _ gRu4
    have hrs8 : ∀ v ∈ rs, TrpAt z H8 v := fun v hv => (hrs4 v hv).same s48
    have nmp : m ≠ p := fun e => pot_nlst p8 (e ▸ gm)
    clear gW hW gO hO hx7 gU hU hx8 s6 s7 s8 s5 s46 s47 s48 s58 ra4 gRu4 hrs4 b04 p4 p5 b05 hm hb al al1 few few10 szT szT2 smR smS
    generalize (rows ms tl (n + 1) 1 t).map Prod.fst = ys at gm hys lY mok
    -- a place
    refine ⟨_, rfl, _, ys.length, rfl, .inl ⟨_, SqL.of gm, (List.length_map _).symm⟩, _, _, rfl, rfl, _, rfl, p, 5, rfl, p8, by decide, by decide, fun dd H9 d0 d1 p9 b9 => ?_⟩
    refine ⟨_, _, rfl, rfl, _, _, rfl, ?_⟩
    obtain ⟨a, ha, ea⟩ := max_nat (l := ((ys.length : Nat) : Int)) (d := dd) d0 (n := ys.length) rfl
    rw [ea]
    have b09 := b08.trans b9
    have gm9 := b9 _ _ gm nmp
    have ra9 := reader_but p8 b9 ra8
    have gRu9 := b9 _ _ gRu8 nRu
    have hrs9 : ∀ v ∈ rs, TrpAt z H9 v := fun v hv => (hrs8 v hv).but p8 b9
    clear gm p8 b08 ra8 gRu8 hrs8 b9
    -- one line otherwise
    refine ⟨_, rfl, _, rfl, _, rfl, m, _, rfl, SqL.of gm9, fun A hA => ?_⟩
    rw [cutV_take]
    have npA : p ≠ A := p9.ne hA
    have sA : Same H9 (upd H9 A (.lst ((ys.map V.str).take a))) := (Same.refl H9).upd hA
    have gA : upd H9 A (.lst ((ys.map V.str).take a)) A = some (.lst ((ys.map V.str).take a)) := upd_same
    generalize upd H9 A (.lst ((ys.map V.str).take a)) = H10 at sA gA ⊢
    have b010 := b09.same sA
    have p10 := FL.Same.pot sA p9
    refine ⟨_, rfl, _, rfl, p, d, z, ms, tl, c, rfl, p10, mo.but hp b010, om, fun y H11 oy ly p11 b11 => ?_⟩
    have gA11 := b11 _ _ gA (Ne.symm npA)
    refine ⟨(by show 1 ≤ sizeLine; decide), fun B hB => ?_⟩
    have sB : Same H11 (upd H11 B (.lst [.str y])) := (Same.refl H11).upd hB
    have gB : upd H11 B (.lst [.str y]) B = some (.lst [.str y]) := upd_same
    generalize upd H11 B (.lst [.str y]) = H12 at sB gB ⊢
    refine ⟨A, B, _, _, rfl, rfl, sB _ _ gA11, gB, (by rw [List.length_take, List.length_map, sz]; show min a ys.length + 1 ≤ _; omega), fun D hD => ?_⟩
    have sD : Same H12 (upd H12 D (.lst ((ys.map V.str).take a ++ [.str y]))) := (Same.refl H12).upd hD
    have gD : upd H12 D (.lst ((ys.map V.str).take a ++ [.str y])) D = some (.lst ((ys.map V.str).take a ++ [.str y])) := upd_same
    generalize upd H12 D (.lst ((ys.map V.str).take a ++ [.str y])) = H13 at sD gD ⊢
    have b9b : But p H9 H13 := ((((But.refl p H9).same sA).trans b11).same sB).same sD
    have p13 := FL.Same.pot (sB.trans sD) p11
    have gm13 := b9b _ _ gm9 nmp
    have e1 : ((a : Nat) : Int) + 1 = ((a + 1 : Nat) : Int) := rfl
    refine ⟨_, rfl, _, rfl, _, _, rfl, rfl, _, rfl, m, _, rfl, SqL.of gm13, fun E2 hE2 => ?_⟩
    rw [e1, cutL_drop]
    have sE : Same H13 (upd H13 E2 (.lst ((ys.map V.str).drop (a + 1)))) := (Same.refl H13).upd hE2
    have gE : upd H13 E2 (.lst ((ys.map V.str).drop (a + 1))) E2 = some (.lst ((ys.map V.str).drop (a + 1))) := upd_same
    generalize upd H13 E2 (.lst ((ys.map V.str).drop (a + 1))) = H14 at sE gE ⊢
    refine ⟨D, E2, _, _, rfl, rfl, sE _ _ gD, gE, (by rw [List.length_append, List.length_take, List.length_drop, List.length_map, sz]; show min a ys.length + 1 + (ys.length - (a + 1)) ≤ _; omega), fun G hG => ?_⟩
    have eo : (ys.map V.str).take a ++ [.str y] ++ (ys.map V.str).drop (a + 1) = (ys.take a ++ [y] ++ ys.drop (a + 1)).map V.str := by
      rw [List.map_append, List.map_append, List.map_take, List.map_drop]
      rfl
    rw [eo]
    have ho : ∀ u ∈ ys.take a ++ [y] ++ ys.drop (a + 1), Over z u ∧ u.length ≤ 52 := fun u hu => by
      rcases List.mem_append.mp hu with hu | hu
      · rcases List.mem_append.mp hu with hu | hu
        · exact hys u (List.mem_of_mem_take hu)
        · rw [List.mem_singleton.mp hu]
          exact ⟨oy, by omega⟩
      · exact hys u (List.mem_of_mem_drop hu)
    have lo : (ys.take a ++ [y] ++ ys.drop (a + 1)).length ≤ 3201 := by
      rw [List.length_append, List.length_append, List.length_take, List.length_drop]
      show min a ys.length + 1 + (ys.length - (a + 1)) ≤ 3201
      omega
    have to_ : (ys.take a ++ [y] ++ ys.drop (a + 1)).take a = ys.take a := by
      rw [List.append_assoc, List.take_append_of_le_length (by rw [List.length_take]; omega), List.take_take, Nat.min_self]
    generalize ys.take a ++ [y] ++ ys.drop (a + 1) = os at ho lo to_ ⊢
    have sG : Same H14 (upd H14 G (.lst (os.map V.str))) := (Same.refl H14).upd hG
    have gG : upd H14 G (.lst (os.map V.str)) G = some (.lst (os.map V.str)) := upd_same
    generalize upd H14 G (.lst (os.map V.str)) = Ha at sG gG ⊢
    have s1a := sE.trans sG
    have b9a : But p H9 Ha := b9b.same s1a
    have p_a := FL.Same.pot s1a p13
    have b0a := b09.trans b9a
    have gma := b9a _ _ gm9 nmp
    have raa := reader_but p9 b9a ra9
    have gRua := b9a _ _ gRu9 nRu
    have hrsa : ∀ v ∈ rs, TrpAt z Ha v := fun v hv => (hrs9 v hv).but p9 b9a
    have moa := mo.but hp b0a
    have moko : MsgOk z os := ⟨fun y hy => (ho y hy).1, fun y hy => by have := (ho y hy).2; omega, by omega⟩
    clear sG sE sD sB sA gA gA11 gB gD gE hA hB hD hE2 hG b11 p10 p11 b010 b9b p13 gm13 s1a b9a gm9 ra9 gRu9 hrs9 p9 b09 ea eo npA
    -- what is told up to there
    refine ⟨_, rfl, _, rfl, q, z, ms, tl, c, G, false, os, rfl, raa, om, gG, moko, fun Hb C1 x1 sb hC1 gC1 hx1 => ?_⟩
    refine ⟨_, rfl, _, _, rfl, rfl, _, rfl, C1, _, rfl, SqL.of gC1, fun J1 hJ1 => ?_⟩
    rw [e1, cutV_take]
    have sj : Same Hb (upd Hb J1 (.lst (x1.take (a + 1)))) := (Same.refl Hb).upd hJ1
    have gJ1 : upd Hb J1 (.lst (x1.take (a + 1))) J1 = some (.lst (x1.take (a + 1))) := upd_same
    generalize upd Hb J1 (.lst (x1.take (a + 1))) = Hc at sj gJ1 ⊢
    have sac := sb.trans sj
    have hx1 := paired_take (Sds.imp (NL.same sj) hx1) (a + 1)
    rw [stands_take, to_] at hx1
    refine ⟨_, rfl, _, rfl, q, z, ms, tl, c, m, false, ys, rfl, raa.same sac, om, sac _ _ gma, mok, fun Hd C2 x2 sd hC2 gC2 hx2 => ?_⟩
    refine ⟨_, rfl, _, _, rfl, rfl, _, rfl, C2, _, rfl, SqL.of gC2, fun J2 hJ2 => ?_⟩
    rw [e1, cutV_take]
    have sk : Same Hd (upd Hd J2 (.lst (x2.take (a + 1)))) := (Same.refl Hd).upd hJ2
    have gJ2 : upd Hd J2 (.lst (x2.take (a + 1))) J2 = some (.lst (x2.take (a + 1))) := upd_same
    generalize upd Hd J2 (.lst (x2.take (a + 1))) = He at sk gJ2 ⊢
    have sce := sd.trans sk
    have hx2 := paired_take (Sds.imp (NL.same sk) hx2) (a + 1)
    rw [stands_take] at hx2
    have smC := sm_trail (tl := tl) (c := c) (ys := ys.take a) mlo mhi
    refine ⟨_, _, stands_dp (sce _ _ gJ1) (Sds.imp (NL.same sce) hx1), stands_dp gJ2 hx2, smC.shaped, smC.shaped, _, rfl, ?_⟩
    rw [eqvS smC]
    refine iteF ?_
    have sae := sac.trans sce
    have b0e := b0a.same sae
    have p_e := FL.Same.pot sae p_a
    have gme := sae _ _ gma
    have gGe := sae _ _ gG
    have rae := raa.same sae
    have gRue := sae _ _ gRua
    have hrse : ∀ v ∈ rs, TrpAt z He v := fun v hv => (hrsa v hv).same sae
    have moe := moa.same sae
    clear hx1 hx2 gJ1 gJ2 gC1 gC2 hC1 hC2 hJ1 hJ2 sb sj sd sk sac sce sae smC moa hrsa gRua raa gG gma p_a b0a
    -- the relayed mail
    refine ⟨_, rfl, m, rfl, ⟨_, SqL.of gme⟩, fun D hD => ?_⟩
    refine lc_it (walk_list (xs := ys.map V.str)) (fun j Hj => Same He Hj ∧ ∃ us : List Str, Hj D = some (.lst (us.map V.str)) ∧ us.length = j ∧ ∀ u ∈ us, Over z u ∧ u.length ≤ 100) ?_ ?_ ?_ ?_
    · exact ⟨(Same.refl He).upd hD, [], upd_same, rfl, fun _ h => nomatch h⟩
    · rintro j Hj _ ⟨sj, _⟩
      exact SqL.of (sj _ _ gme)
    · rintro j x Hj0 Hj hj ⟨sj, us, gD, lu, hus⟩ ⟨rfl, hx⟩
      obtain ⟨y1, hy1, rfl⟩ := List.mem_map.mp (List.mem_of_getElem? hx)
      have oy1 := hys y1 hy1
      rw [List.length_map] at hj
      refine ⟨rfl, _, rfl, _, rfl, z, Ru, rs, y1, rfl, sj _ _ gRue, fun v hv => (hrse v hv).same sj, oy1.1, by omega, fun y2 o2 l2 => ?_⟩
      refine ⟨_, gD, by rw [List.length_map, lu, sz]; omega, sj.upd hD, us ++ [y2], ?_, by rw [List.length_append, lu]; rfl, fun u hu => ?_⟩
      · rw [upd_same, List.map_append]
        rfl
      · rcases List.mem_append.mp hu with h | h
        · exact hus u h
        · rw [List.mem_singleton.mp h]
          exact ⟨o2, by omega⟩
    rintro Hf ⟨sf, us, gD, lu, hus⟩
    rw [List.length_map] at lu
    -- all three
    refine ⟨_, rfl, _, rfl, _, rfl, (by show 3 ≤ sizeLine; decide), fun Z hZ => ?_⟩
    have sZ : Same Hf (upd Hf Z (.lst [.ref m, .ref G, .ref D])) := (Same.refl Hf).upd hZ
    have gZ : upd Hf Z (.lst [.ref m, .ref G, .ref D]) Z = some (.lst [.ref m, .ref G, .ref D]) := upd_same
    generalize upd Hf Z (.lst [.ref m, .ref G, .ref D]) = Hz at sZ gZ ⊢
    have sez := sf.trans sZ
    have hws : ∀ v ∈ [V.ref m, .ref G, .ref D], MailL z Hz v := fun v hv => by
      rcases List.mem_cons.mp hv with rfl | hv
      · exact ⟨m, ys, rfl, sez _ _ gme, fun y hy => ⟨(hys y hy).1, by have := (hys y hy).2; omega⟩, by omega⟩
      rcases List.mem_cons.mp hv with rfl | hv
      · exact ⟨G, os, rfl, sez _ _ gGe, fun y hy => ⟨(ho y hy).1, by have := (ho y hy).2; omega⟩, by omega⟩
      rw [List.mem_singleton.mp hv]
      exact ⟨D, us, rfl, sZ _ _ gD, hus, by omega⟩
    have lw : [V.ref m, .ref G, .ref D].length = 3 := rfl
    have moz := moe.same sez
    have raz := rae.same sez
    have b0z := b0e.same sez
    have p_z := FL.Same.pot sez p_e
    generalize [V.ref m, .ref G, .ref D] = ws at gZ hws lw
    refine ⟨Z, rfl, ⟨_, SqL.of gZ⟩, fun E3 hE3 => ?_⟩
    refine lc_it (walk_list (xs := ws)) (fun j Hx => Same Hz Hx ∧ Hx E3 = some (.lst ((List.replicate j true).map V.bl))) ?_ ?_ ?_ ?_
    · exact ⟨(Same.refl Hz).upd hE3, upd_same⟩
    · rintro j Hx _ ⟨sx, _⟩
      exact SqL.of (sx _ _ gZ)
    · rintro j x Hx H'' hj ⟨sx, gx⟩ ⟨rfl, hx⟩
      obtain ⟨m', ys2, rfl, gm', hys2, ly2⟩ := (hws x (List.mem_of_getElem? hx)).same sx
      refine ⟨rfl, _, rfl, _, rfl, _, rfl, d, q, z, ms, tl, c, m', ys2, rfl, moz.same sx, om, raz.same sx, gm', hys2, by omega, fun H20 s20 => ?_⟩
      refine ⟨_, s20 _ _ gx, by rw [List.length_map, List.length_replicate, sz]; omega, (sx.trans s20).upd hE3, ?_⟩
      rw [upd_same, List.replicate_succ', List.map_append]
      rfl
    rintro Hx2 ⟨sx, gx⟩
    refine ⟨E3, _, rfl, SqL.of gx, ?_⟩
    rw [all_true]
    exact k Hx2 (FL.Same.pot sx p_z) (bB.trans (b0z.same sx))
end
end K68
namespace K68
open PySem PySem.Spec PyProof.Rows L2 FL
theorem scLaw : FnScope ["_law_script", "_law_k"] ["_law_script"] (defScope sLaw) := ⟨rfl, rfl, rfl, by decide +kernel, rfl, by decide +kernel, by decide +kernel⟩
section
variable {P : Program} {w : World} {K : PySem.W.Frag} {mg : Str → Option Value} {base : Heap}
theorem ok_law {f : Addr} {fd : FuncData} (F : Fun K "law" "law" sLaw f fd) (mA : mg "all" = none) (mG : mg "range" = none) (mX : mg "max" = none) (mI : mg "min" = none) (mN : mg "len" = none)
    (cA : CaG P w K mg base "_law_known_right" 10 [] spKnown) (cP : Ca P w K mg base "_law_pot" 1 ["_law_script", "_law_k"] (spPot K)) (cR : CaG P w K mg base "_law_right" 11 ["_law_pot_here"] spRight) :
    FnG P w K mg base CX0 12 f fd ["_law_script"] (spLaw K) := by
  refine okG F scLaw (fun vs H Q E h => ?_) (fun cdv A outer s H vs Q E hr hg h => ?_)
  · obtain ⟨_, _, rfl, _⟩ := h
    rfl
  · obtain ⟨a, ns, rfl, hs0, ln, k⟩ := h
    have nd := scLaw.nd
    have sz : sizeLine = 16777216 := rfl
    have hr1 := hr.mono (show 1 ≤ 11 by decide)
    have hrA := hr.mono (show 10 ≤ 11 by decide)
    refine ⟨_, pss_cons (ps_if (pt_not (pt_val (pe_cg0 cA hrA hg (by rfl)))) (pss_one (ps_ret pe_bl)) pss_nil) (pss_one (ps_ret (pe_callB (cr_all rfl) (by rfl) mA (by decide +kernel) (pa_cons (pe_lc (own := [("_law_k", 1)]) (g := gName 1) (tt := tYes) (te := tCall spRight [] E0 (tCons (tCall (spPot K) [] E0 (tCons (tVar 0) (tCons (tVar 1) tNil))) tNil)) rfl nd
        (pi_range1 (by rfl) mG (pa_cons (pe_callB (call_max2 rfl) (by rfl) mX (by decide +kernel) (pa_cons pe_int (pa_cons (pe_callB (call_min2 rfl) (by rfl) mI (by decide +kernel)
          (pa_cons pe_int (pa_cons (pe_callB callLen (by rfl) mN PySem.boot_len (pa_cons (pv 0) pa_nil)) pa_nil))) pa_nil))) pa_nil))
        (blkOk_by (N := ["_law_script", "_law_k"]) (sc := defScope sLaw) (by decide +kernel)) (fun _ _ _ _ _ => pg_name (i := 1) nd rfl (Or.inl rfl)) (fun _ _ _ _ _ => pts_nil)
        (fun _ _ _ _ _ => pe_cg cR hr hg (by rfl) (pa_cons (pe_ca cP hr1 (by rfl) (pa_cons (pv 0) (pa_cons (pv 1) pa_nil))) pa_nil))) pa_nil)))), ?_⟩
    refine ⟨rfl, fun H0 s0 => ?_⟩
    refine ⟨_, rfl, ?_⟩
    refine iteF ?_
    have hs : SqL K H0 a (ns.map V.int) := by
      rcases hs0 with (e | ⟨o, e⟩) | e
      · exact .inl (.inl (s0 _ _ e))
      · exact .inl (.inr ⟨o, s0 _ _ e⟩)
      · exact .inr e
    refine ⟨_, rfl, _, ns.length, rfl, .inl ⟨_, hs, (List.length_map _).symm⟩, _, _, rfl, _, _, rfl, ?_⟩
    refine ⟨_, rfl, (by split <;> split <;> omega), (by split <;> split <;> omega), fun D hD => ?_⟩
    have hDa : ∀ {Hi : Hp}, (∀ c o, H0 c = some o → c ≠ D → Hi c = some o) → SqL K Hi a (ns.map V.int) := by
      intro Hi kp
      rcases hs with (e | ⟨o, e⟩) | e
      · exact .inl (.inl (kp _ _ e (ne_of_none e hD)))
      · exact .inl (.inr ⟨o, kp _ _ e (ne_of_none e hD)⟩)
      · exact .inr e
    refine lc_range (lo := 0) (n := _) (fun j Hj => (∀ c o, H0 c = some o → c ≠ D → Hj c = some o) ∧ Hj D = some (.lst ((List.replicate j true).map V.bl))) ?_ ?_ ?_
    · exact ⟨fun c o e n => by rw [upd_ne n]; exact e, upd_same⟩
    · rintro j Hj hj ⟨kp, gD⟩
      have hj5 : j < 5 := by
        revert hj
        split <;> split <;> omega
      refine ⟨rfl, ?_⟩
      refine ⟨_, rfl, _, rfl, a, ns, _, rfl, hDa kp, by omega, by omega, ln, fun q H2 hq hp2 s2 => ?_⟩
      refine ⟨q, rfl, hp2, fun H3 p3 b3 => ?_⟩
      have nDq : D ≠ q := fun z => by rw [z, hq] at gD; cases gD
      have gD3 := b3 D _ (s2 _ _ gD) nDq
      refine ⟨_, gD3, by rw [List.length_map, List.length_replicate, sz]; omega, fun c o e n => ?_, ?_⟩
      · rw [upd_ne n]
        have e1 := kp c o e n
        exact b3 c o (s2 _ _ e1) (ne_of_none e1 hq)
      · rw [upd_same, List.replicate_succ', List.map_append]
        rfl
    · rintro Hj ⟨kp, gD⟩
      refine ⟨D, _, rfl, SqL.of gD, ?_⟩
      rw [all_true]
      exact k Hj
end
end K68
namespace FL
open PySem PySem.Spec PyProof.Rows L2
/-! ### the end of a law whose promise wants that no repr is under way -/
/-- the script alone, locked, unless the module holds it -/
def onlyH (K : PySem.W.Frag) (a : Addr) (o : Obj) (ns : List Int) : Hp := fun b => if b = a ∧ K.lookup a = none then some (.frz o (.lst (ns.map V.int))) else none
theorem only_at {K : PySem.W.Frag} {a b : Addr} {o : Obj} {ns : List Int} {u : HO} (h : onlyH K a o ns b = some u) : b = a ∧ K.lookup a = none ∧ u = .frz o (.lst (ns.map V.int)) := by
  unfold onlyH at h
  by_cases c : b = a ∧ K.lookup a = none
  · rw [if_pos c] at h
    exact ⟨c.1, c.2, (Option.some.inj h).symm⟩
  · rw [if_neg c] at h
    cases h
theorem endG {P : Program} {w : World} {K : PySem.W.Frag} {mg mb : Str → Option Value} {k : Nat} {fa a : Addr} {fd : FuncData} {x : Str} {sp : Sp} {s : Shared} {vs : List Value} {ns : List Int}
    (kx : K.In s.heap) (gl : s.heap.Ns mainGlobals mg) (bl : s.heap.Ns builtinsNs mb) (bb : ∀ y : Str, y ≠ "__name__" → mb y = bootBuiltins y) (nl : s.heap.NoLimit) (ng : s.gens = #[])
    (oa : s.heap.get? a = some { cls := .type "list", data := .seq vs.toArray }) (hi : IntsAre vs ns) (le : ns.length ≤ sizeLine) (rm : Room k callerA)
    (F : ∀ base : Heap, K.In base → base.Ns mainGlobals mg → FnG P w K mg base CX0 k fa fd [x] sp) (bd : ∀ (s : Shared) (u : Value), BindsTo s fd ⟨[u], []⟩ [(x, u)])
    (pr : ∀ H : Hp, SqL K H a (ns.map V.int) → sp [.ref a] H (fun v _ => v = .bl true) fun _ _ _ => False) :
    codeAny (model P w) callerA (.call (.ref fa) ⟨[.ref a], []⟩) (fun r t => r = .ok (.ret (.bool true)) ∧ OldK s.heap t.heap ∧ t.os = s.os ∧ AllBare t.gens) s := by
  have rv := vals_ints hi
  have lv := hi.length
  let o : Obj := { cls := .type "list", data := .seq vs.toArray }
  let H : Hp := onlyH K a o ns
  have sq : SqL K H a (ns.map V.int) := by
    cases q : K.lookup a with
    | none => exact .inl (.inr ⟨o, if_pos ⟨rfl, q⟩⟩)
    | some o' =>
      have e := kx a o' q
      rw [oa] at e
      cases e
      exact .inr ⟨_, vs.toArray, _, q, rfl, rfl, rfl, by rw [List.size_toArray, lv]; exact le, by simpa using rv⟩
  have ok : HOk P w H s.heap := fun b u e => by
    obtain ⟨rfl, _, rfl⟩ := only_at e
    exact ⟨oa, by rw [List.length_map]; exact le, vs, _, rv, oa⟩
  have stay : ∀ {b : Addr} {m : Str → Option Value}, s.heap.Ns b m → (hidT s.heap H).Ns b m := fun {b m} n => by
    obtain ⟨ob, es, ep, e, d, r⟩ := n
    refine ⟨ob, es, ep, hidT_get e ?_, d, r⟩
    cases q : H b with
    | none => rfl
    | some u =>
      obtain ⟨rfl, _, _⟩ := only_at q
      rw [oa] at e
      cases e
      cases d
  have kb : K.In (hidT s.heap H) := fun b ob e => by
    refine hidT_get (kx b ob e) ?_
    cases q : H b with
    | none => rfl
    | some u =>
      obtain ⟨rfl, n, _⟩ := only_at q
      rw [n] at e
      cases e
  have md : Mod K mg (hidT s.heap H) := ⟨kb, stay gl, ⟨mb, stay bl, bb⟩, by
    obtain ⟨mc, n1, n2⟩ := nl
    exact ⟨mc, stay n1, n2⟩⟩
  have env : Env0 P w K mg (hidT s.heap H) callerA [] s H :=
    ⟨rfl, md, fun b ob e => of_hidT e, Nat.le_of_eq (hidT_size _ _), trivial, fun b q => absurd (show b ∈ ([] : List Addr) from q) (by simp), ok, .of_eq ng⟩
  have run := (F _ kb (stay gl)).goes callerA [] s H ⟨[.ref a], []⟩ [.ref a] [.ref a] _ _ rm rfl env (bd s (.ref a)) (.cons rfl .nil) (pr H sq)
  refine codeAny_mono run fun r t z => ?_
  cases r with
  | error e => exact False.elim z
  | ok fl =>
    cases fl with
    | next => exact False.elim z
    | brk => exact False.elim z
    | cont => exact False.elim z
    | ret u =>
      obtain ⟨v, H', so, br, un, ok', rr, q⟩ := z
      obtain rfl : v = .bl true := q
      obtain rfl : u = Value.bool true := rr
      refine ⟨rfl, OldK.of_keep fun b ob e => ?_, so, br⟩
      cases q : H b with
      | none => exact un.keep b ob e q (by intro n; exact absurd (show b ∈ ([] : List Addr) from n) (by simp)) (by simp)
      | some u =>
        obtain ⟨rfl, n, rfl⟩ := only_at q
        obtain ⟨e2, _⟩ := ok' b _ (un.frzs b o _ q)
        rw [oa] at e
        cases e
        exact e2
theorem walkG {l : PySem.W.OpenLaw} {n k : Nat} {q : Program} {loose : List Str} {XP : (Str → Option Value) → Heap → Prop} {YP : World → Heap → Prop} {d : DefRec} {x : Str} (hn : l.most = some n) (hs : n ≤ sizeLine) (hd : d.params.defaults = []) (rm : Room k callerA)
    (F : ∀ (w : World) (mg : Str → Option Value) (fa : Addr) (h : Heap), YP w h → h.Ns mainGlobals mg → mg d.name = some (.ref fa) → ∃ (K : PySem.W.Frag) (fd : FuncData) (sp : Sp), K.In h ∧ (∀ (s : Shared) (u : Value), BindsTo s fd ⟨[u], []⟩ [(x, u)])
      ∧ (∀ (H : Hp) (a : Addr) (ns : List Int), ns.length ≤ n → SqL K H a (ns.map V.int) → sp [.ref a] H (fun v _ => v = .bl true) fun _ _ _ => False)
      ∧ ∀ base : Heap, K.In base → base.Ns mainGlobals mg → FnG l.prog w K mg base CX0 k fa fd [x] sp) :
    PySem.W.WalkO q loose XP YP l.row.toRowW d [] (fun f vs => PySem.call f vs) := by
  refine Att.attach_call hn hd ?_
  intro w s₀ s₁ mg mb fa o pm cd doc a vs ns G Y ho hd' hcd hmg hobj hints hlen hg
  obtain ⟨K, fd, sp, kx, bd, pr, FF⟩ := F w mg fa _ Y G.T.g hmg
  exact endG kx G.T.g G.T.b G.T.builtins G.T.nolimit hg hobj hints (Nat.le_trans hlen hs) rm FF bd fun H sq => pr H a ns hlen sq
end FL
namespace K68
open PySem PySem.Spec PyProof.Rows L2 FL
theorem getr_rec {K : PySem.W.Frag} {m : Str} (c : recB K m = true) : ∃ rest, PySem.W.recIn K (He.ma K (He.ga K "Reader") m) "property" = some (.ref (getr m K) :: rest) := by
  unfold recB at c
  show ∃ rest, PySem.W.recIn K (me m K) "property" = _
  split at c
  · rename_i g rest e
    refine ⟨rest, ?_⟩
    unfold getr
    rw [e]
  · cases c
structure Facts (K : PySem.W.Frag) : Prop where
  gs : ∀ x ∈ glos, (He.Fa.glo x).ok K = true
  gs2 : ∀ x ∈ glos2, (He.Fa.glo x).ok K = true
  fr : ∀ x ∈ free1, (He.Fa.free x).ok K = true
  i1 : (He.Fa.int "MOST_MARK_SIGNS" 12).ok K = true
  i2 : (He.Fa.int "MOST_TAIL_SIGNS" 3).ok K = true
  i3 : (He.Fa.int "MOST_LEVELS" 3).ok K = true
  i4 : (He.Fa.str "SIGN_CHARACTERS" signChars).ok K = true
  cl : Cls K (He.ga K "Reader")
  n1 : NoAttr K (He.ga K "Reader") "_signs"
  n2 : NoAttr K (He.ga K "Reader") "_marks"
  n3 : NoAttr K (He.ga K "Reader") "_tail"
  n4 : NoAttr K (He.ga K "Reader") "_cares"
  mk_ : Mk K (He.ga K "Reader") (He.ma K (He.ga K "Reader") "__init__")
  ma : Meth K (He.ga K "Reader") "asked" (He.ma K (He.ga K "Reader") "asked")
  mr : Meth K (He.ga K "Reader") "_role_line" (He.ma K (He.ga K "Reader") "_role_line")
  ml : Meth K (He.ga K "Reader") "role_at" (He.ma K (He.ga K "Reader") "role_at")
  mo : Meth K (He.ga K "Reader") "line_of" (He.ma K (He.ga K "Reader") "line_of")
  kw : kwOk K (me "__init__" K) dfl0 = true
  p1 : PropOf K (He.ga K "Reader") "signs" (He.ma K (He.ga K "Reader") "signs") (getr "signs" K)
  p2 : PropOf K (He.ga K "Reader") "depth" (He.ma K (He.ga K "Reader") "depth") (getr "depth" K)
  p3 : PropOf K (He.ga K "Reader") "further" (He.ma K (He.ga K "Reader") "further") (getr "further" K)
  p4 : PropOf K (He.ga K "Reader") "finish" (He.ma K (He.ga K "Reader") "finish") (getr "finish" K)
  it : IsT K (He.ga K "Reader")
  kin : ∀ n ∈ FL.kinds, PySem.W.mroIn K (He.ga K "Reader") (.type n) = some false
  ne : PySem.W.findIn K (.ref (He.ga K "Reader")) "__ne__" = some (some (.builtin "object.__ne__"))
  t1 : tupB K (He.ga K "SIGHTS") [.str (Str.ofString "whole"), .str (Str.ofString "start")] = true
  t2 : tupB K (He.ga K "ROLE_WORDS") [.str (Str.ofString "next"), .str (Str.ofString "end")] = true
  ts : tupB K (He.ga K "START") [.int 1, .str (Str.ofString "wait")] = true
  tc : tupB K (He.ga K "CLOSED") [.int 0, .str (Str.ofString "wait")] = true
  t3 : tupB K (He.ga K "PLAIN") [.str (Str.ofString "line"), .int 0] = true
  t4 : tupB K (dcV K "order") [.str (Str.ofString "inner"), .str (Str.ofString "outer")] = true
  t5 : tupB K (dcV K "further") [.str (Str.ofString "refuse"), .str (Str.ofString "close")] = true
  t6 : tupB K (dcV K "finish") [.str (Str.ofString "refuse"), .str (Str.ofString "close")] = true
  e1 : dcB K "order" = true
  e2 : dcB K "further" = true
  e3 : dcB K "finish" = true
theorem prop_of {K : PySem.W.Frag} {m : Str} (r : recB K m = true) (p : propB K m = true) : PropOf K (He.ga K "Reader") m (He.ma K (He.ga K "Reader") m) (getr m K) := by
  unfold propB at p
  simp only [Bool.and_eq_true] at p
  obtain ⟨a, b, c⟩ := p
  exact ⟨He.eqO_ok c, He.eqO_ok a, of_decide_eq_true b, getr_rec r⟩
theorem facts_of {K : PySem.W.Frag} (c : exs K = true) : Facts K := by
  unfold exs clsB at c
  simp only [Bool.and_eq_true] at c
  obtain ⟨g, g2, f, i1, i2, i3, i4, c1, c2, c3, c4, c5, c6, c7, c8, c9, c10, ckw, r1, r2, r3, r4, p1, p2, p3, p4, ⟨q1, q2, q3, q4, q5⟩, t1, t2, ts, tc, t3, t4, t5, t6, e1, e2, e3⟩ := c
  have kk := List.all_eq_true.mp q4
  have cl := He.cls_ok c1
  exact ⟨List.all_eq_true.mp g, List.all_eq_true.mp g2, List.all_eq_true.mp f, i1, i2, i3, i4, cl, He.noat_ok c2, He.noat_ok c3, He.noat_ok c4, He.noat_ok c5, He.mkr_ok c6, He.meth_ok c7, He.meth_ok c8, He.meth_ok c9, He.meth_ok c10, ckw, prop_of r1 p1, prop_of r2 p2, prop_of r3 p3, prop_of r4 p4,
    ⟨cl, He.eqO_ok q1, of_decide_eq_true q2, of_decide_eq_true q3, fun n hn => of_decide_eq_true (Bool.and_eq_true_iff.mp (kk n hn)).1⟩, fun n hn => of_decide_eq_true (Bool.and_eq_true_iff.mp (kk n hn)).2, He.eqO_ok q5, t1, t2, ts, tc, t3, t4, t5, t6, e1, e2, e3⟩
section
variable {P : Program} {w : World} {K : PySem.W.Frag} {mg : Str → Option Value} {base : Heap}
theorem bind_one {K : PySem.W.Frag} {x qual p : Str} {st : Stmt} {f : Addr} {fd : FuncData} (F : Fun K x qual st f fd)
    (h : ∀ (kV doc pm : Value) (an : Option Addr) (cdv ct : Value) (u : Value), bindArgs (PySem.W.fnOf x qual (defArgs st) (defBody st) (defScope st) .none kV doc pm an cdv ct) ⟨[u], []⟩ = pure [(p, u)]) (s : Shared) (u : Value) : BindsTo s fd ⟨[u], []⟩ [(p, u)] := by
  obtain ⟨oc, od, kV, doc, pm, an, cdv, ct, osl, rfl, lk, hcd⟩ := F.ex
  exact .of_eq (h kV doc pm an cdv ct u)
theorem ca_of {x : Str} {qual : Str} {st : Stmt} {f : Addr} {fd : FuncData} {k : Nat} {ps : List Str} {sp : Sp} (F : Fun K x qual st f fd) (m : mg x = some (.ref f)) (o : FnOk P w K mg base CX0 k f fd ps sp) (b : Binds K fd ps []) : Ca P w K mg base x k ps sp := ⟨f, fd, o, b, F.kp, m⟩
theorem cg_of {x : Str} {qual : Str} {st : Stmt} {f : Addr} {fd : FuncData} {k : Nat} {ps : List Str} {sp : Sp} (F : Fun K x qual st f fd) (m : mg x = some (.ref f)) (o : FnG P w K mg base CX0 k f fd ps sp) (b : Binds K fd ps []) : CaG P w K mg base x k ps sp := ⟨f, fd, o, b, F.kp, m⟩
end
theorem _root_.L2.FnOk.up {P : Program} {w : World} {K : PySem.W.Frag} {mg : Str → Option Value} {base : Heap} {f : Addr} {fd : FuncData} {k n : Nat} {ps : List Str} {sp : Sp} (c : FnOk P w K mg base CX0 k f fd ps sp) (l : k ≤ n) : FnOk P w K mg base CX0 n f fd ps sp :=
  ⟨c.len, fun A o s H a us vs Q E hr he hb hv h => c.run A o s H a us vs Q E (hr.mono l) he hb hv h⟩
theorem vals_rev : ∀ {zs : List V} {ws : List Value}, Vals zs ws → Vals zs.reverse ws.reverse
  | _, _, .nil => .nil
  | _, _, .cons r b => by
    rw [List.reverse_cons, List.reverse_cons]
    exact (vals_rev b).append (.cons r .nil)
theorem kdct_of {w : World} {K : PySem.W.Frag} {x : Str} {es : Array DictEntry} {n : Nat} (kd : KDict K w (gl "CARE_WORDS" K) es n) (e : dcB K x = true) : KDct K w (He.ga K "CARE_WORDS") x (.ref (dcV K x)) :=
  ⟨es, n, .ref (dcV K x), kd.at_, kd.lit, He.eqO_ok e, rfl⟩
theorem whole {P : Program} {w : World} {K : PySem.W.Frag} {mg : Str → Option Value} {h : Heap} (KX : K.In h) (G : h.Ns mainGlobals mg) (c : lookF defs exs K = dueF defs)
    (ct : (tbs.map fun t => He.dicW K (t.1 K)) = tbs.map fun t => some (He.keysIn w.params t.2)) :
    ∃ fd : FuncData, mg "law" = some (.ref (gl "law" K)) ∧ (∀ (s : Shared) (u : Value), BindsTo s fd ⟨[u], []⟩ [("_law_script", u)]) ∧ ∀ base : Heap, K.In base → base.Ns mainGlobals mg → FnG P w K mg base CX0 12 (gl "law" K) fd ["_law_script"] (FL.spLaw K) := by
  have T := facts_of (look_ex c)
  have g1 : ∀ x ∈ glos, mg x = some (.ref (gl x K)) := fun x hx => He.glo_ok KX G (T.gs x hx)
  have g2 : ∀ x ∈ glos2, mg x = some (.ref (gl x K)) := fun x hx => He.glo_ok KX G (T.gs2 x hx)
  have fr : ∀ x ∈ free1, mg x = none := fun x hx => He.free_ok KX G (T.fr x hx)
  obtain ⟨tk1, mM1⟩ := He.int_ok KX G T.i1
  obtain ⟨tk2, mM2⟩ := He.int_ok KX G T.i2
  obtain ⟨tk3, mM3⟩ := He.int_ok KX G T.i3
  obtain ⟨tk4, mC⟩ := He.str_ok KX G T.i4
  obtain ⟨es, nn, kd⟩ := tabs_at ct 0 (t := (gl "CARE_WORDS", [Str.ofString "order", Str.ofString "further", Str.ofString "finish"])) rfl
  have WT : WordsT K w mg := ⟨⟨_, g1 "SIGHTS" (by decide), tupB_ok T.t1⟩, ⟨_, g1 "CARE_WORDS" (by decide), ⟨_, kdct_of kd T.e1, tupB_ok T.t4⟩, ⟨_, kdct_of kd T.e2, tupB_ok T.t5⟩, ⟨_, kdct_of kd T.e3, tupB_ok T.t6⟩⟩⟩
  obtain ⟨d0, F0⟩ := look_fn c 0 (d := glD "is_integer" 21) rfl
  obtain ⟨d1, F1⟩ := look_fn c 1 (d := glD "is_list" 22) rfl
  obtain ⟨d2, F2⟩ := look_fn c 2 (d := glD "is_signs" 23) rfl
  obtain ⟨d3, F3⟩ := look_fn c 3 (d := glD "is_line" 24) rfl
  obtain ⟨d4, F4⟩ := look_fn c 4 (d := glD "check_signs" 31) rfl
  obtain ⟨d5, F5⟩ := look_fn c 5 (d := glD "is_word" 40) rfl
  obtain ⟨d6, F6⟩ := look_fn c 6 (d := glD "is_mark" 41) rfl
  obtain ⟨d7, F7⟩ := look_fn c 7 (d := glD "check_marks" 42) rfl
  obtain ⟨d8, F8⟩ := look_fn c 8 (d := glD "is_sight" 43) rfl
  obtain ⟨d9, F9⟩ := look_fn c 9 (d := glD "is_tail" 44) rfl
  obtain ⟨d10, F10⟩ := look_fn c 10 (d := glD "check_tail" 45) rfl
  obtain ⟨d11, F11⟩ := look_fn c 11 (d := glD "check_care" 46) rfl
  obtain ⟨d12, F12⟩ := look_fn c 12 (d := glD "is_level" 47) rfl
  obtain ⟨d13, F13⟩ := look_fn c 13 (d := glD "check_level" 48) rfl
  obtain ⟨d14, F14⟩ := look_fn c 14 (d := glD "is_role" 49) rfl
  obtain ⟨d15, F15⟩ := look_fn c 15 (d := glD "check_role" 50) rfl
  obtain ⟨d16, F16⟩ := look_fn c 16 (d := glD "is_tree_of" 51) rfl
  obtain ⟨d17, F17⟩ := look_fn c 17 (d := glD "check_tree" 52) rfl
  obtain ⟨d18, F18⟩ := look_fn c 18 (d := glD "lines_written" 87) rfl
  obtain ⟨d19, F19⟩ := look_fn c 19 (d := glD "written" 88) rfl
  obtain ⟨d20, F20⟩ := look_fn c 20 (d := glD "own_telling" 89) rfl
  obtain ⟨d21, F21⟩ := look_fn c 21 (d := glD "check_line" 33) rfl
  obtain ⟨d22, F22⟩ := look_fn c 22 (d := glD "is_seen" 76) rfl
  obtain ⟨d23, F23⟩ := look_fn c 23 (d := glD "told_behind" 81) rfl
  obtain ⟨d24, F24⟩ := look_fn c 24 (d := glD "line_told" 82) rfl
  obtain ⟨d25, F25⟩ := look_fn c 25 (d := glD "is_finished" 83) rfl
  obtain ⟨d26, F26⟩ := look_fn c 26 (d := glD "course_of" 84) rfl
  obtain ⟨d27, F27⟩ := look_fn c 27 (d := glD "telling_of" 85) rfl
  obtain ⟨d28, F28⟩ := look_fn c 28 (d := glD "check_message" 53) rfl
  obtain ⟨d29, F29⟩ := look_fn c 29 (d := glD "telling" 90) rfl
  obtain ⟨d30, F30⟩ := look_fn c 30 (d := glD "course" 91) rfl
  obtain ⟨d31, F31⟩ := look_fn c 31 (d := glD "tree_read" 92) rfl
  obtain ⟨d32, F32⟩ := look_fn c 32 (d := meD "__init__" "Reader.__init__" 0) rfl
  obtain ⟨d33, F33⟩ := look_fn c 33 (d := ⟨getr "signs", "signs", "Reader.signs", inClass (topS 95) 1⟩) rfl
  obtain ⟨d34, F34⟩ := look_fn c 34 (d := ⟨getr "depth", "depth", "Reader.depth", inClass (topS 95) 3⟩) rfl
  obtain ⟨d35, F35⟩ := look_fn c 35 (d := ⟨getr "further", "further", "Reader.further", inClass (topS 95) 6⟩) rfl
  obtain ⟨d36, F36⟩ := look_fn c 36 (d := ⟨getr "finish", "finish", "Reader.finish", inClass (topS 95) 7⟩) rfl
  obtain ⟨d37, F37⟩ := look_fn c 37 (d := meD "asked" "Reader.asked" 16) rfl
  obtain ⟨d38, F38⟩ := look_fn c 38 (d := meD "_role_line" "Reader._role_line" 14) rfl
  obtain ⟨d39, F39⟩ := look_fn c 39 (d := meD "role_at" "Reader.role_at" 18) rfl
  obtain ⟨d40, F40⟩ := look_fn c 40 (d := meD "line_of" "Reader.line_of" 13) rfl
  obtain ⟨d41, F41⟩ := look_fn c 41 (d := glD "_law_pot" 97) rfl
  obtain ⟨d42, F42⟩ := look_fn c 42 (d := glD "_law_draw" 98) rfl
  obtain ⟨d43, F43⟩ := look_fn c 43 (d := glD "_law_pick" 99) rfl
  obtain ⟨d44, F44⟩ := look_fn c 44 (d := glD "_law_line" 100) rfl
  obtain ⟨d45, F45⟩ := look_fn c 45 (d := glD "_law_model" 101) rfl
  obtain ⟨d46, F46⟩ := look_fn c 46 (d := glD "_law_reader" 102) rfl
  obtain ⟨d47, F47⟩ := look_fn c 47 (d := glD "_law_line_of" 103) rfl
  obtain ⟨d48, F48⟩ := look_fn c 48 (d := glD "_law_is_seen" 104) rfl
  obtain ⟨d49, F49⟩ := look_fn c 49 (d := glD "_law_role_at" 105) rfl
  obtain ⟨d50, F50⟩ := look_fn c 50 (d := glD "_law_move" 106) rfl
  obtain ⟨d51, F51⟩ := look_fn c 51 (d := glD "_law_told" 107) rfl
  obtain ⟨d52, F52⟩ := look_fn c 52 (d := glD "_law_near_line" 108) rfl
  obtain ⟨d53, F53⟩ := look_fn c 53 (d := glD "_law_mail" 110) rfl
  obtain ⟨d54, F54⟩ := look_fn c 54 (d := glD "_law_due" 111) rfl
  obtain ⟨d55, F55⟩ := look_fn c 55 (d := glD "_law_grown" 112) rfl
  obtain ⟨d56, F56⟩ := look_fn c 56 (d := glD "_law_rules" 113) rfl
  obtain ⟨d57, F57⟩ := look_fn c 57 (d := glD "_law_turn" 114) rfl
  obtain ⟨d58, F58⟩ := look_fn c 58 (d := glD "_law_wide_bush" 116) rfl
  obtain ⟨d59, F59⟩ := look_fn c 59 (d := glD "_law_mail_right" 117) rfl
  obtain ⟨d60, F60⟩ := look_fn c 60 (d := glD "_law_known_right" 118) rfl
  obtain ⟨d61, F61⟩ := look_fn c 61 (d := glD "_law_right" 119) rfl
  obtain ⟨d62, F62⟩ := look_fn c 62 (d := glD "law" 120) rfl
  have b0 : Binds K d0 ["value"] [] := F0.binds fun _ _ _ _ _ _ us hl => match us, hl with | [_], _ => rfl
  have b1 : Binds K d1 ["value"] [] := F1.binds fun _ _ _ _ _ _ us hl => match us, hl with | [_], _ => rfl
  have b2 : Binds K d2 ["value"] [] := F2.binds fun _ _ _ _ _ _ us hl => match us, hl with | [_], _ => rfl
  have b3 : Binds K d3 ["signs", "value"] [] := F3.binds fun _ _ _ _ _ _ us hl => match us, hl with | [_, _], _ => rfl
  have b4 : Binds K d4 ["signs"] [] := F4.binds fun _ _ _ _ _ _ us hl => match us, hl with | [_], _ => rfl
  have b5 : Binds K d5 ["value", "words"] [] := F5.binds fun _ _ _ _ _ _ us hl => match us, hl with | [_, _], _ => rfl
  have b6 : Binds K d6 ["signs", "value"] [] := F6.binds fun _ _ _ _ _ _ us hl => match us, hl with | [_, _], _ => rfl
  have b7 : Binds K d7 ["signs", "marks", "most"] [] := F7.binds fun _ _ _ _ _ _ us hl => match us, hl with | [_, _, _], _ => rfl
  have b8 : Binds K d8 ["signs", "value"] [] := F8.binds fun _ _ _ _ _ _ us hl => match us, hl with | [_, _], _ => rfl
  have b9 : Binds K d9 ["signs", "value"] [] := F9.binds fun _ _ _ _ _ _ us hl => match us, hl with | [_, _], _ => rfl
  have b10 : Binds K d10 ["signs", "tail"] [] := F10.binds fun _ _ _ _ _ _ us hl => match us, hl with | [_, _], _ => rfl
  have b11 : Binds K d11 ["signs", "name", "value"] [] := F11.binds fun _ _ _ _ _ _ us hl => match us, hl with | [_, _, _], _ => rfl
  have b12 : Binds K d12 ["depth", "value"] [] := F12.binds fun _ _ _ _ _ _ us hl => match us, hl with | [_, _], _ => rfl
  have b13 : Binds K d13 ["depth", "level"] [] := F13.binds fun _ _ _ _ _ _ us hl => match us, hl with | [_, _], _ => rfl
  have b14 : Binds K d14 ["depth", "value"] [] := F14.binds fun _ _ _ _ _ _ us hl => match us, hl with | [_, _], _ => rfl
  have b15 : Binds K d15 ["depth", "role"] [] := F15.binds fun _ _ _ _ _ _ us hl => match us, hl with | [_, _], _ => rfl
  have b16 : Binds K d16 ["signs", "depth", "value"] [] := F16.binds fun _ _ _ _ _ _ us hl => match us, hl with | [_, _, _], _ => rfl
  have b17 : Binds K d17 ["signs", "depth", "tree"] [] := F17.binds fun _ _ _ _ _ _ us hl => match us, hl with | [_, _, _], _ => rfl
  have b18 : Binds K d18 ["reader", "tree", "level"] [] := F18.binds fun _ _ _ _ _ _ us hl => match us, hl with | [_, _, _], _ => rfl
  have b19 : Binds K d19 ["reader", "tree"] [] := F19.binds fun _ _ _ _ _ _ us hl => match us, hl with | [_, _], _ => rfl
  have b20 : Binds K d20 ["reader", "tree"] [] := F20.binds fun _ _ _ _ _ _ us hl => match us, hl with | [_, _], _ => rfl
  have b21 : Binds K d21 ["signs", "line"] [] := F21.binds fun _ _ _ _ _ _ us hl => match us, hl with | [_, _], _ => rfl
  have b22 : Binds K d22 ["sight", "mark", "line"] [] := F22.binds fun _ _ _ _ _ _ us hl => match us, hl with | [_, _, _], _ => rfl
  have b23 : Binds K d23 ["reader", "stand", "role"] [] := F23.binds fun _ _ _ _ _ _ us hl => match us, hl with | [_, _, _], _ => rfl
  have b24 : Binds K d24 ["reader", "stand", "line"] [] := F24.binds fun _ _ _ _ _ _ us hl => match us, hl with | [_, _, _], _ => rfl
  have b25 : Binds K d25 ["reader", "stand"] [] := F25.binds fun _ _ _ _ _ _ us hl => match us, hl with | [_, _], _ => rfl
  have b26 : Binds K d26 ["reader", "message"] [] := F26.binds fun _ _ _ _ _ _ us hl => match us, hl with | [_, _], _ => rfl
  have b27 : Binds K d27 ["reader", "message"] [] := F27.binds fun _ _ _ _ _ _ us hl => match us, hl with | [_, _], _ => rfl
  have b28 : Binds K d28 ["signs", "message"] [] := F28.binds fun _ _ _ _ _ _ us hl => match us, hl with | [_, _], _ => rfl
  have b29 : Binds K d29 ["reader", "message"] [] := F29.binds fun _ _ _ _ _ _ us hl => match us, hl with | [_, _], _ => rfl
  have b30 : Binds K d30 ["reader", "message"] [] := F30.binds fun _ _ _ _ _ _ us hl => match us, hl with | [_, _], _ => rfl
  have b31 : Binds K d31 ["reader", "message"] [] := F31.binds fun _ _ _ _ _ _ us hl => match us, hl with | [_, _], _ => rfl
  have b33 : Binds K d33 ["self"] [] := F33.binds fun _ _ _ _ _ _ us hl => match us, hl with | [_], _ => rfl
  have b34 : Binds K d34 ["self"] [] := F34.binds fun _ _ _ _ _ _ us hl => match us, hl with | [_], _ => rfl
  have b35 : Binds K d35 ["self"] [] := F35.binds fun _ _ _ _ _ _ us hl => match us, hl with | [_], _ => rfl
  have b36 : Binds K d36 ["self"] [] := F36.binds fun _ _ _ _ _ _ us hl => match us, hl with | [_], _ => rfl
  have b37 : Binds K d37 ["self", "level"] [] := F37.binds fun _ _ _ _ _ _ us hl => match us, hl with | [_, _], _ => rfl
  have b38 : Binds K d38 ["self", "role"] [] := F38.binds fun _ _ _ _ _ _ us hl => match us, hl with | [_, _], _ => rfl
  have b39 : Binds K d39 ["self", "line", "level"] [] := F39.binds fun _ _ _ _ _ _ us hl => match us, hl with | [_, _, _], _ => rfl
  have b40 : Binds K d40 ["self", "role"] [] := F40.binds fun _ _ _ _ _ _ us hl => match us, hl with | [_, _], _ => rfl
  have b41 : Binds K d41 ["_law_script", "_law_k"] [] := F41.binds fun _ _ _ _ _ _ us hl => match us, hl with | [_, _], _ => rfl
  have b42 : Binds K d42 ["_law_pot_here", "_law_many"] [] := F42.binds fun _ _ _ _ _ _ us hl => match us, hl with | [_, _], _ => rfl
  have b43 : Binds K d43 ["_law_pot_here", "_law_things"] [] := F43.binds fun _ _ _ _ _ _ us hl => match us, hl with | [_, _], _ => rfl
  have b44 : Binds K d44 ["_law_pot_here", "_law_signs", "_law_most"] [] := F44.binds fun _ _ _ _ _ _ us hl => match us, hl with | [_, _, _], _ => rfl
  have b45 : Binds K d45 ["_law_pot_here"] [] := F45.binds fun _ _ _ _ _ _ us hl => match us, hl with | [_], _ => rfl
  have b46 : Binds K d46 ["_law_model_here"] [] := F46.binds fun _ _ _ _ _ _ us hl => match us, hl with | [_], _ => rfl
  have b47 : Binds K d47 ["_law_model_here", "_law_role"] [] := F47.binds fun _ _ _ _ _ _ us hl => match us, hl with | [_, _], _ => rfl
  have b48 : Binds K d48 ["_law_model_here", "_law_role", "_law_line_here"] [] := F48.binds fun _ _ _ _ _ _ us hl => match us, hl with | [_, _, _], _ => rfl
  have b49 : Binds K d49 ["_law_model_here", "_law_line_here", "_law_level"] [] := F49.binds fun _ _ _ _ _ _ us hl => match us, hl with | [_, _, _], _ => rfl
  have b50 : Binds K d50 ["_law_model_here", "_law_here", "_law_line_here"] [] := F50.binds fun _ _ _ _ _ _ us hl => match us, hl with | [_, _, _], _ => rfl
  have b51 : Binds K d51 ["_law_model_here", "_law_mail_here"] [] := F51.binds fun _ _ _ _ _ _ us hl => match us, hl with | [_, _], _ => rfl
  have b52 : Binds K d52 ["_law_pot_here", "_law_model_here"] [] := F52.binds fun _ _ _ _ _ _ us hl => match us, hl with | [_, _], _ => rfl
  have b53 : Binds K d53 ["_law_model_here", "_law_bush_here", "_law_level"] [] := F53.binds fun _ _ _ _ _ _ us hl => match us, hl with | [_, _, _], _ => rfl
  have b54 : Binds K d54 ["_law_model_here", "_law_bush_here", "_law_level"] [] := F54.binds fun _ _ _ _ _ _ us hl => match us, hl with | [_, _, _], _ => rfl
  have b55 : Binds K d55 ["_law_model_here", "_law_heard", "_law_mail_here"] [] := F55.binds fun _ _ _ _ _ _ us hl => match us, hl with | [_, _, _], _ => rfl
  have b56 : Binds K d56 ["_law_pot_here", "_law_signs"] [] := F56.binds fun _ _ _ _ _ _ us hl => match us, hl with | [_, _], _ => rfl
  have b57 : Binds K d57 ["_law_rules_here", "_law_line_here"] [] := F57.binds fun _ _ _ _ _ _ us hl => match us, hl with | [_, _], _ => rfl
  have b58 : Binds K d58 ["_law_pot_here", "_law_model_here", "_law_depth"] [] := F58.binds fun _ _ _ _ _ _ us hl => match us, hl with | [_, _, _], _ => rfl
  have b59 : Binds K d59 ["_law_model_here", "_law_rd", "_law_mail_here"] [] := F59.binds fun _ _ _ _ _ _ us hl => match us, hl with | [_, _, _], _ => rfl
  have b60 : Binds K d60 [] [] := F60.binds fun _ _ _ _ _ _ us hl => match us, hl with | [], _ => rfl
  have b61 : Binds K d61 ["_law_pot_here"] [] := F61.binds fun _ _ _ _ _ _ us hl => match us, hl with | [_], _ => rfl
  have b62 : Binds K d62 ["_law_script"] [] := F62.binds fun _ _ _ _ _ _ us hl => match us, hl with | [_], _ => rfl
  have mIs := fr "isinstance" (by decide)
  have mSt := fr "str" (by decide)
  have mLe := fr "len" (by decide)
  have mAl := fr "all" (by decide)
  have mZi := fr "zip" (by decide)
  have mLi := fr "list" (by decide)
  have mTu := fr "tuple" (by decide)
  have mEn := fr "enumerate" (by decide)
  have mRa := fr "range" (by decide)
  have mIn := fr "int" (by decide)
  have mBo := fr "bool" (by decide)
  have mDi := fr "divmod" (by decide)
  have mAb := fr "abs" (by decide)
  have mMa := fr "max" (by decide)
  have mMi := fr "min" (by decide)
  have mRe := fr "repr" (by decide)
  have mDc := fr "dict" (by decide)
  have TT : RdTxt K mg (He.ga K "Reader") := ⟨T.cl, T.n1, T.n2, T.n3, T.n4, g2 "Reader" (by decide)⟩
  have kI : KBn K d32 pInit 4 ["sight", "order", "further", "finish"] (fun us ws => us ++ ws) (fun vs zs => vs ++ zs) := kbn_of F32 (fun _ _ _ _ _ _ us ws l1 l2 => match us, ws, l1, l2 with | [_, _, _, _], [_, _, _, _], _, _ => rfl) fun a b => a.append b
  refine ⟨d62, g2 "law" (by decide), bind_one F62 (fun _ _ _ _ _ _ _ => rfl), fun base hB hN => ?_⟩
  have o0 : FnOk P w K mg base CX0 1 _ d0 ["value"] spInt1 := ok_isint F0 mIs mIn mBo
  have c_is_integer := ca_of F0 (g1 "is_integer" (by decide)) o0 b0
  have o1 : FnOk P w K mg base CX0 1 _ d1 ["value"] spIsList := ok_islist F1 mIs mLi mTu
  have c_is_list := ca_of F1 (g1 "is_list" (by decide)) o1 b1
  have o3 : FnOk P w K mg base CX0 1 _ d3 ["signs", "value"] spLine := ok_isline F3 mIs mSt
  have c_is_line := ca_of F3 (g1 "is_line" (by decide)) o3 b3
  have o2 := ok_issigns F2 o3 b3 F3.kp (g1 "is_line" (by decide)) mC mIs mSt mLe mAl mZi
  have c_is_signs := ca_of F2 (g1 "is_signs" (by decide)) o2 b2
  have o4 := ok_checksigns F4 o2 b2 F2.kp (g1 "is_signs" (by decide))
  have c_check_signs := ca_of F4 (g1 "check_signs" (by decide)) o4 b4
  have o5 : FnOk P w K mg base CX0 1 _ d5 ["value", "words"] (spWord K) := ok_isword F5 mIs mSt
  have c_is_word := ca_of F5 (g1 "is_word" (by decide)) o5 b5
  have o6 := ok_ismark F6 c_is_line mLe mM1
  have c_is_mark := ca_of F6 (g1 "is_mark" (by decide)) o6 b6
  have o7 := ok_checkmarks F7 c_is_list c_is_mark mLe mEn
  have c_check_marks := ca_of F7 (g1 "check_marks" (by decide)) o7 b7
  have o8 := ok_issight F8 WT c_is_word c_is_line mLe
  have c_is_sight := ca_of F8 (g1 "is_sight" (by decide)) o8 b8
  have o9 := ok_istail F9 c_is_line mLe mM2
  have c_is_tail := ca_of F9 (g1 "is_tail" (by decide)) o9 b9
  have o10 := ok_checktail F10 c_is_tail
  have c_check_tail := ca_of F10 (g1 "check_tail" (by decide)) o10 b10
  have o11 := ok_checkcare F11 WT c_is_word c_is_sight
  have c_check_care := ca_of F11 (g1 "check_care" (by decide)) o11 b11
  have o12 := ok_islevel F12 c_is_integer
  have c_is_level := ca_of F12 (g1 "is_level" (by decide)) o12 b12
  have o13 := ok_checklevel F13 c_is_level
  have c_check_level := ca_of F13 (g1 "check_level" (by decide)) o13 b13
  have o14 := ok_isrole F14 (g1 "ROLE_WORDS" (by decide)) (tupB_ok T.t2) c_is_word c_is_level mIs mTu mLe
  have c_is_role := ca_of F14 (g1 "is_role" (by decide)) o14 b14
  have o15 := ok_checkrole F15 c_is_role
  have c_check_role := ca_of F15 (g1 "check_role" (by decide)) o15 b15
  have o16 := ok_treeof F16 b16 (g1 "is_tree_of" (by decide)) c_is_line c_is_list mAl
  have c_is_tree_of : ∀ d, Ca P w K mg base "is_tree_of" (d + 2) ["signs", "depth", "value"] (spTreeOfZ d) := fun d => ca_of F16 (g1 "is_tree_of" (by decide)) (o16 d) b16
  have o17 := ok_checktree F17 c_is_tree_of
  have c_check_tree := ca_of F17 (g1 "check_tree" (by decide)) o17 b17
  have o21 := ok_checkline F21 c_is_line
  have c_check_line := ca_of F21 (g1 "check_line" (by decide)) o21 b21
  have o22 : FnOk P w K mg base CX0 1 _ d22 ["sight", "mark", "line"] spSeen := ok_seen F22 mLe
  have c_is_seen := ca_of F22 (g1 "is_seen" (by decide)) o22 b22
  have oI := ok_init F32 TT mM3 mLi c_check_signs c_check_marks c_check_tail c_check_care
  have oRL : FnOk P w K mg base CX0 1 _ d38 ["self", "role"] (spRoleLine (He.ga K "Reader")) := ok_roleline F38 TT
  have oAS : FnOk P w K mg base CX0 4 _ d37 ["self", "level"] (spAsked (He.ga K "Reader") K) := ok_asked F37 TT mLe mLi mRa c_check_level
  have oRA : FnOk P w K mg base CX0 5 _ d39 ["self", "line", "level"] (spRoleAt (He.ga K "Reader")) := ok_roleat F39 TT mLe c_check_line c_check_level c_is_seen T.ma oAS b37 T.mr oRL b38
  have oLO : FnOk P w K mg base CX0 5 _ d40 ["self", "role"] (spRoleLine (He.ga K "Reader")) := ok_lineof F40 TT mLe c_check_role T.mr oRL b38
  let Rr : RdF P w K mg base := ⟨He.ga K "Reader", TT, T.it, _, d32, T.mk_, oI, kI, _, _, d33, T.p1, ok_gets F33 TT, b33, _, _, d34, T.p2, ok_getd F34 TT mLe, b34, _, _, d35, T.p3, ok_getf F35 TT, b35, _, _, d36, T.p4, ok_getz F36 TT, b36, _, d39, T.ml, oRA, b39, _, d40, T.mo, oLO, b40⟩
  have o23 := ok_toldb F23 Rr (g1 "PLAIN" (by decide)) (tupB_ok T.t3)
  have c_told_behind := ca_of F23 (g1 "told_behind" (by decide)) o23 b23
  have o24 := ok_linetold F24 Rr (g1 "CLOSED" (by decide)) (tupB_ok T.tc) c_told_behind
  have c_line_told := ca_of F24 (g1 "line_told" (by decide)) o24 b24
  have o25 := ok_finished F25 Rr (g1 "CLOSED" (by decide)) (tupB_ok T.tc)
  have c_is_finished := ca_of F25 (g1 "is_finished" (by decide)) o25 b25
  have o26 := ok_courseof F26 Rr (g1 "START" (by decide)) (tupB_ok T.ts) c_line_told
  have c_course_of := ca_of F26 (g1 "course_of" (by decide)) o26 b26
  have o27 := ok_tellingof F27 Rr mLe c_course_of c_is_finished
  have c_telling_of := ca_of F27 (g1 "telling_of" (by decide)) o27 b27
  have o28 := ok_checkmsg F28 mEn c_is_list c_is_line
  have c_check_message := ca_of F28 (g1 "check_message" (by decide)) o28 b28
  have o29 := telling_h (ok_telling F29 Rr c_check_message c_telling_of)
  have o31 := ok_treeread F31 Rr mZi c_check_message c_telling_of
  have o18 := ok_rows F18 Rr b18 (g1 "lines_written" (by decide)) (g1 "PLAIN" (by decide)) (tupB_ok T.t3)
  have c_rows : ∀ n, Ca P w K mg base "lines_written" (6 + n) ["reader", "tree", "level"] (spRowsZ K Rr.C n) := fun n => ca_of F18 (g1 "lines_written" (by decide)) (o18 n) b18
  have o19 := ok_written F19 Rr c_check_tree c_rows
  have c_written := ca_of F19 (g1 "written" (by decide)) o19 b19
  have o20 := ok_ownt F20 Rr c_check_tree c_rows
  have c_own_telling := ca_of F20 (g1 "own_telling" (by decide)) o20 b20
  have o30 := (ok_course F30 Rr c_check_message c_course_of).up (show 8 ≤ 9 by decide)
  have c_course := ca_of F30 (g1 "course" (by decide)) o30 b30
  have c_tree_read := ca_of F31 (g1 "tree_read" (by decide)) o31 b31
  have c_telling := ca_of F29 (g1 "telling" (by decide)) o29 b29
  have o41 : FnOk P w K mg base CX0 1 _ d41 ["_law_script", "_law_k"] (spPot K) := ok_pot F41 mAb mLe mMa mIn
  have c__law_pot := ca_of F41 (g2 "_law_pot" (by decide)) o41 b41
  have o42 : FnOk P w K mg base CX0 1 _ d42 ["_law_pot_here", "_law_many"] spDraw := ok_draw F42 mDi mIn
  have c__law_draw := ca_of F42 (g2 "_law_draw" (by decide)) o42 b42
  have o43 := ok_pick F43 o42 b42 F42.kp (g2 "_law_draw" (by decide)) mLe
  have c__law_pick := ca_of F43 (g2 "_law_pick" (by decide)) o43 b43
  have o44 := ok_note F44 o42 b42 F42.kp (g2 "_law_draw" (by decide)) o43 b43 F43.kp (g2 "_law_pick" (by decide)) mRa
  have c__law_line := ca_of F44 (g2 "_law_line" (by decide)) o44 b44
  have o45 := ok_model F45 mRa c__law_draw c__law_pick c__law_line
  have c__law_model := ca_of F45 (g2 "_law_model" (by decide)) o45 b45
  have o46 := ok_mkr F46 Rr
  have c__law_reader := ca_of F46 (g2 "_law_reader" (by decide)) o46 b46
  have o47 : FnOk P w K mg base CX0 1 _ d47 ["_law_model_here", "_law_role"] spLLine := ok_lline F47
  have c__law_line_of := ca_of F47 (g2 "_law_line_of" (by decide)) o47 b47
  have o48 := ok_lseen F48 mLe mAl c__law_line_of
  have c__law_is_seen := ca_of F48 (g2 "_law_is_seen" (by decide)) o48 b48
  have o49 := ok_lroleat F49 mLi mRa c__law_is_seen
  have c__law_role_at := ca_of F49 (g2 "_law_role_at" (by decide)) o49 b49
  have o50 := ok_lmove F50 mLe c__law_role_at
  have c__law_move := ca_of F50 (g2 "_law_move" (by decide)) o50 b50
  have o51 := ok_ltold F51 c__law_move
  have c__law_told := ca_of F51 (g2 "_law_told" (by decide)) o51 b51
  have o52 := ok_near F52 mLe c__law_draw c__law_line c__law_line_of
  have c__law_near_line := ca_of F52 (g2 "_law_near_line" (by decide)) o52 b52
  have o53 : ∀ n, FnOk P w K mg base CX0 (2 + n) _ d53 pMail (spMail n) := ok_mail F53 b53 (g2 "_law_mail" (by decide)) mLe mLi c__law_line_of
  have c__law_mail : ∀ n, Ca P w K mg base "_law_mail" (2 + n) pMail (spMail n) := fun n => ca_of F53 (g2 "_law_mail" (by decide)) (o53 n) b53
  have c__law_mailA := ca_of F53 (g2 "_law_mail" (by decide)) (mail_any o53) b53
  have o54 : ∀ n, FnOk P w K mg base CX0 (2 + n) _ d54 pMail (spDue K n) := ok_due F54 b54 (g2 "_law_due" (by decide)) mLe
  have c__law_dueA := ca_of F54 (g2 "_law_due" (by decide)) (due_any o54) b54
  have o55 : FnOk P w K mg base CX0 1 _ d55 ["_law_model_here", "_law_heard", "_law_mail_here"] (spGrown K) := ok_grown F55 mZi mRa mLe
  have c__law_grown := ca_of F55 (g2 "_law_grown" (by decide)) o55 b55
  have o56 := ok_rules F56 mRa c__law_draw c__law_pick c__law_line
  have c__law_rules := ca_of F56 (g2 "_law_rules" (by decide)) o56 b56
  have o57 : FnOk P w K mg base CX0 1 _ d57 ["_law_rules_here", "_law_line_here"] spTurn := ok_turn F57 mLe
  have c__law_turn := ca_of F57 (g2 "_law_turn" (by decide)) o57 b57
  have o58 := wide_any (ok_wide F58 b58 (g2 "_law_wide_bush" (by decide)) mRa c__law_draw c__law_near_line c__law_pick)
  have c__law_wide_bush := ca_of F58 (g2 "_law_wide_bush" (by decide)) o58 b58
  have o59 := ok_mailr F59 Rr c__law_told c_telling c_course c_tree_read c__law_grown
  have c__law_mail_right := ca_of F59 (g2 "_law_mail_right" (by decide)) o59 b59
  have o60 := FnG.of (ok_known F60 Rr (init_binds F32 T.kw) (init_kbinds F32 T.kw) c_written c_tree_read c_own_telling c_course)
  have c__law_known_right := cg_of F60 (g2 "_law_known_right" (by decide)) o60 b60
  have o61 := FnG.of (ok_right F61 Rr mLe mMa mAl c__law_model c__law_draw c__law_near_line c__law_reader c__law_rules c__law_wide_bush c__law_mailA c_written c_own_telling c__law_dueA c_course c__law_turn c__law_mail_right)
  have c__law_right := cg_of F61 (g2 "_law_right" (by decide)) o61 b61
  exact ok_law F62 mAl mRa mMa mMi mLe c__law_known_right c__law_pot c__law_right
end K68
set_option maxHeartbeats 0
open PySem PySem.W PySem.Calls PyProof.Rows L2
theorem PySem.Challenge.cw_frontlines_k68_whole_long_messages_holds : PySem.Challenge.rw_frontlines_k68_whole_long_messages.Holds := by
  w_on; o_law
  refine HandSHeadRun.head_any (r := K68.R) (q := view K68.R.prog [120]) (H := K68.hk) (ob := K68.ob) (M := 20000) (loose := K68.loose) (d := HandSHeadRun.topDef K68.R.prog 120) (kwd := []) (fun s => FL.obA_eq s)
    (by kernel_rfl) (fun s => by kernel_rfl) K68.run (by kernel_rfl) (by kernel_rfl) (by kernel_rfl) (by rfl) (by first | assumption | decide +kernel) (by decide +kernel) ⟨rfl, rfl, rfl, rfl, rfl, by decide +kernel⟩ ?hw ?hc
  case hw => w_witness2
  case hc =>
    refine FL.walkG (l := PySem.Challenge.rw_frontlines_k68_whole_long_messages) (n := 63) (k := 12) (x := "_law_script") rfl (by decide) (by kernel_rfl) ⟨rfl, by decide, by decide⟩ ?_
    intro w mg fa h Y G hmg0
    obtain ⟨K, KX, c, ct⟩ := Y
    have hmg : mg ("law" : PySem.Str) = some (.ref fa) := by
      have e : (HandSHeadRun.topDef K68.R.prog 120).name = ("law" : PySem.Str) := by kernel_rfl
      rw [← e]
      exact hmg0
    obtain ⟨fd, e1, bd, hF⟩ := K68.whole (P := PySem.Challenge.rw_frontlines_k68_whole_long_messages.prog) (w := w) KX G c ct
    have e2 := hmg.symm.trans e1
    cases e2
    exact ⟨K, fd, FL.spLaw K, KX, bd, fun H a ns hl hS => ⟨a, ns, rfl, hS, hl, fun _ => rfl⟩, hF⟩
