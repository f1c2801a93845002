import PyProof.Rows.All
import Wide.All
import OpenK.AllK
import Wide.FinOn
import HandS.ForMost
import HandS.ForExc
import HandS.Lambda
import PyProof.Rows.NestShow
import KE.GoesEnum
import HandS.Walk
import HandS.IsInst
import HandS.StrMore
import HandS.Style
import KE.KRevSl
import HandS.Codes
import KE.DataMinMax
import HandS.FStr
import HandS.Star
import HandS.Property
import HandS.MakeKwOnly
import PyProof.EqKinds
import HandS.Head0
import HandS.Head1
import HandS.Head2
import HandS.HeadEnd
import HandS.HeadHook1
import HandS.HeadHook2
import PySem.Challenge.RW_frontlines_k21_relays_told
set_option Elab.async false
set_option linter.all false
set_option maxRecDepth 100000
set_option maxHeartbeats 4000000
namespace FL
open PySem PySem.Spec PyProof.Rows L2
/-! A promise that is kept where no repr is under way. -/
structure FnG (P : Program) (w : World) (K : PySem.W.Frag) (mg : Str → Option Value)
    (base : Heap) (C : CXT) (k : Nat) (f : Addr) (fd : FuncData) (ps : List Str) (sp : Sp) : Prop where
  size : ∀ vs H Q E, sp vs H Q E → vs.length = ps.length
  goes : ∀ (A : Around) (outer : List Env) (s : Shared) (H : Hp) (args : Args)
      (us : List Value) (vs : List V) (Q : VK) (E : XK),
    Room k A → A.guards = some [] → Env0 P w K mg base A outer s H →
    BindsTo s fd args (ps.zip us) → Vals vs us → sp vs H Q E →
    codeAny (model P w) A (.call (.ref f) args) (CR C outer P w H s Q E) s
theorem FnG.of {P : Program} {w : World} {K : PySem.W.Frag} {mg : Str → Option Value} {base : Heap}
    {C : CXT} {k : Nat} {f : Addr} {fd : FuncData} {ps : List Str} {sp : Sp}
    (F : FnOk P w K mg base C k f fd ps sp) : FnG P w K mg base C k f fd ps sp :=
  ⟨F.len, fun A o s H a us vs Q E hr _ => F.run A o s H a us vs Q E hr⟩
section
variable {P : Program} {w : World} {K : PySem.W.Frag} {mg : Str → Option Value} {base : Heap}
theorem okG {x qual : Str} {st : Stmt} {f : Addr} {fd : FuncData} {N ps : List Str} {k : Nat} {sp : Sp}
    (F : Fun K x qual st f fd) (S : FnScope N ps (defScope st))
    (size : ∀ vs H Q E, sp vs H Q E → vs.length = ps.length)
    (body : ∀ (cdv : Value) (A : Around) (outer : List Env) (s : Shared) (H : Hp) (vs : List V) (Q : VK) (E : XK),
      Room k (A.deeper (envOfC qual (defScope st) s.heap.objs.size f cdv)) → A.guards = some [] → sp vs H Q E →
      ∃ t, PSs (cxOf CX0 P w K mg base N qual (defScope st) f cdv A outer s H E).nox (defBody st) t
        ∧ t { nx := fun _ H' => Q .non H', rt := Q } (start N vs) H) :
    FnG P w K mg base CX0 (k + 1) f fd ps sp := by
  obtain ⟨oc, od, kV, doc, pm, an, cdv, ct, osl, rfl, lk, hcd⟩ := F.ex
  refine ⟨size, fun A outer s H args us vs Q E hr hg e0 hb r hsp => ?_⟩
  refine LamX.run_ofS (k := k) lk hcd S hr e0 hb r (size _ _ _ _ hsp) fun h => ?_
  obtain ⟨t, h1, h2⟩ := body cdv A outer s H vs Q E h hg hsp
  exact ⟨t, h1.nox, h2⟩
theorem okGX {x qual : Str} {st : Stmt} {f : Addr} {fd : FuncData} {N ps : List Str} {k : Nat} {sp : Sp}
    (F : Fun K x qual st f fd) (S : FnScope N ps (defScope st))
    (size : ∀ vs H Q E, sp vs H Q E → vs.length = ps.length)
    (body : ∀ (cdv : Value) (A : Around) (outer : List Env) (s : Shared) (H : Hp) (vs : List V) (Q : VK) (E : XK),
      Room k (A.deeper (envOfC qual (defScope st) s.heap.objs.size f cdv)) → A.guards = some [] → sp vs H Q E →
      ∃ t, PSs (cxOf (L2.CX P w) P w K mg base N qual (defScope st) f cdv A outer s H E) (defBody st) t
        ∧ t { nx := fun _ H' => Q .non H', rt := Q } (start N vs) H) :
    FnG P w K mg base (L2.CX P w) (k + 1) f fd ps sp := by
  obtain ⟨oc, od, kV, doc, pm, an, cdv, ct, osl, rfl, lk, hcd⟩ := F.ex
  refine ⟨size, fun A outer s H args us vs Q E hr hg e0 hb r hsp => ?_⟩
  exact LamX.run_ofS (k := k) lk hcd S hr e0 hb r (size _ _ _ _ hsp) fun h =>
    body cdv A outer s H vs Q E h hg hsp
end
section
variable {X : Cx} {C : CXT} {k : Nat} {f : Addr} {fd : FuncData} {ps : List Str} {sp : Sp}
  {dvs : List V} {ds : List Value} {E : XK} {x : Str} {p pos : Pos} {e : Expr} {es : List Expr} {t : TA}
/-! f(e, ..) by such a promise -/
theorem pg_call (F : FnG X.prog X.w X.K X.mg X.base C k f fd ps sp) (hr : Room k X.A) (hG : X.A.guards = some [])
    (hg : Gl X x) (hm : X.mg x = some (.ref f)) (hk : PySem.W.keepIn X.K (.ref f) = true)
    (hb : Binds X.K fd ps ds) (hd : Vals dvs ds) (hx : Passes C X E) (ha : PA X (e :: es) t)
    (hdb : (x == ("__debug__" : Str)) = false := by decide)
    (he : starEach (e :: es) X.env = (false, eval e X.env) :: starEach es X.env := by rfl)
    (hpl : (backTo pos (starEach es X.env)).any (·.1) = false := by rfl) :
    PE X (.Call (.Name x p) (e :: es) [] pos) (tCall sp dvs E t) := by
  constructor
  intro pins s σ H Q I h
  refine wpAny_Call_Name_kw (ld_glob I hg hm ?_ hdb)
  refine PySem.W.callWith_K (h₀ := X.base) I.ok.mod.kin hk ?_ he hpl
  refine thn (ha.run pos pins s σ H _ I h) ?_
  rintro us s1 ⟨vs, H1, J, r, q⟩
  refine ⟨J.kIn, ?_⟩
  have r2 := r.append hd
  have hl : (us ++ ds).length = ps.length := by
    rw [← r2.length]
    exact F.size _ _ _ _ q
  have run := F.goes X.A X.stack s1 H1 ⟨us, []⟩ (us ++ ds) (vs ++ dvs) Q E hr hG J.env0 (hb s1 us J.kIn hl) r2 q
  refine wpAny_call (codeAny_mono run ?_)
  rintro (er | fl) s2 z
  · exact hx pins σ H1 s1 er s2 J z
  · cases fl with
    | ret u => exact J.after z
    | _ => exact False.elim z
end
/-! ### repr of data -/
def NiceD (d : PyData) : Prop := d.showable = true ∧ d.depth ≤ 40 ∧ d.shown.length ≤ sizeLine
/-- data of a value; an empty dict too -/
def Sh (K : PySem.W.Frag) (H : Hp) (v : V) (d : PyData) : Prop :=
  (Dp K H v d ∧ d.hasDict = false) ∨ (∃ a, v = .ref a ∧ H a = some (.dK []) ∧ d = .dict [])
section
variable {X : Cx}
theorem call_repr (hG : X.A.guards = some []) (hu : X.A.units + 64 < cLine) :
    CallR X (.builtin "repr") (fun xs H Q => ∃ v d, xs = [v] ∧ Sh X.K H v d ∧ NiceD d ∧ Q (.str d.shown) H) := by
  intro pins s σ H xs us Q I r h
  obtain ⟨v, d, rfl, hd, ⟨n1, n2, n3⟩, q⟩ := h
  cases r with
  | cons r1 r2 =>
    cases r2
    rename_i u
    rcases hd with ⟨hd, nd⟩ | ⟨a, rfl, ha, rfl⟩
    · obtain ⟨as, rd⟩ := Dp.reads I d v u hd r1
      have out : ∀ (h' : Heap) (w : Tok) (tk : Nat), (∀ b o, s.heap.get? b = some o → h'.get? b = some o) →
          EP X pins σ Q (.str d.shown w) { s with heap := h', toks := tk } :=
        fun h' w tk kp => ⟨.str d.shown, H, I.kept kp, ⟨w, rfl⟩, q⟩
      cases rd with
      | none => exact P.repr_of_none (out s.heap _ _ fun _ _ e => e)
      | bool b => exact P.repr_of_bool (out s.heap _ _ fun _ _ e => e)
      | int i t => exact P.repr_of_int (by simpa [PyData.showable] using n1) (out s.heap _ _ fun _ _ e => e)
      | str z t => exact P.repr_of_str (out s.heap _ _ fun _ _ e => e) n3
      | list h1 h2 h3 h4 =>
        exact repr_of_reads' (.list h1 h2 h3 h4) n1 (PyData.noDict_hsm nd) hG (by omega) (fun _ _ e => e) out n3
      | tuple h1 h2 h3 h4 =>
        exact repr_of_reads' (.tuple h1 h2 h3 h4) n1 (PyData.noDict_hsm nd) hG (by omega) (fun _ _ e => e) out n3
      | dict h1 h2 h3 h4 h5 => simp [PyData.hasDict] at nd
    · cases r1
      obtain ⟨_, hs, vs, kv, o, es, ep, h1, h2, h3, _, pr, _⟩ := I.hok a _ ha
      cases kv
      have e0 : es.toList = [] := by
        generalize es.toList = l at pr
        cases pr
        rfl
      refine repr_of_reads' (d := .dict []) (as := a :: [] ++ []) (.dict (kvs := []) h1 h2.1 h3 ?_ ?_) n1 (fun _ => ?_) hG
        (by omega) (fun _ _ e => e) (fun h' w tk kp => ⟨.str _, H, I.kept kp, ⟨w, rfl⟩, q⟩) n3
      · rw [e0]
        exact .nil
      · rw [e0]
        exact .nil
      · intro hm
        have : sysModules = a := by simpa using hm
        rw [this] at hs
        simp at hs
end
end FL
namespace FL
open PySem PySem.Spec PyProof.Rows L2
/-! ### zip of two texts, a target of two names -/
def ItS (x y : Str) : It :=
  ⟨fun i _ => i < min x.cps.size y.cps.size,
   fun i H v H' => ∃ T a b, v = .ref T ∧ H T = none ∧ H' = upd H T (.tup [.str ⟨#[a]⟩, .str ⟨#[b]⟩])
      ∧ x.cps[i]? = some a ∧ y.cps[i]? = some b,
   fun i _ => i = min x.cps.size y.cps.size⟩
def zSt (x y : Str) (t u : Tok) (z TI TO i1 i2 : Addr) (i : Nat) (h : Heap) : Prop :=
  IsZip h z TI TO .none ∧ IsTupOf2 h TI (.ref i1) (.ref i2) ∧ (∃ a b, IsTupOf2 h TO a b)
    ∧ h.IsStrIter i1 (strIterType x) x t i ∧ h.IsStrIter i2 (strIterType y) y u i
theorem turn_zipS {P : Program} {w : World} {K : PySem.W.Frag} {elts : List Expr} {kk : Nat} {tpos : Pos}
    {x y : Str} {t u : Tok} {z TI TO i1 i2 : Addr} (S : ZipSep2 z TI TO i1 i2 [i1] [i2]) :
    Turn P w K (.Tuple elts kk tpos) (ItS x y) [z, TI, TO, i1, i2] z (zSt x y t u z TI TO i1 i2) where
  mem := by simp
  obj := by
    rintro i h ⟨hz, hT, ⟨a, b, hO⟩, s1, s2⟩ c hc
    have e' : c = z ∨ c = TI ∨ c = TO ∨ c = i1 ∨ c = i2 := by simpa using hc
    rcases e' with rfl | rfl | rfl | rfl | rfl
    · exact ⟨_, hz, fun v q => nomatch q⟩
    · exact ⟨_, hT, fun v q => nomatch q⟩
    · exact ⟨_, hO, fun v q => nomatch q⟩
    · obtain ⟨o, e, d⟩ := s1
      exact ⟨_, e, fun v q => by simp_all⟩
    · obtain ⟨o, e, d⟩ := s2
      exact ⟨_, e, fun v q => by simp_all⟩
  keep := by
    rintro i h h' ⟨hz, hT, ⟨a, b, hO⟩, s1, s2⟩ k
    refine ⟨k z (by simp) _ hz, k TI (by simp) _ hT, ⟨a, b, k TO (by simp) _ hO⟩, ?_, ?_⟩
    · obtain ⟨o, e, d⟩ := s1
      exact ⟨o, k i1 (by simp) o e, d⟩
    · obtain ⟨o, e, d⟩ := s2
      exact ⟨o, k i2 (by simp) o e, d⟩
  item := by
    intro X hP hw hK hc i pins s σ H E I hf st hg
    subst hP hw hK
    obtain ⟨hz, hT, ⟨a, b, hO⟩, s1, s2⟩ := st
    have hh : X.A.in1.handled = none := I.ok.hd hc
    have hg' : i < min x.cps.size y.cps.size := hg
    have zl := Heap.lt_size hz
    refine wpAny_pyNext_zipD2_item S (Draws.text hh i1 x t) (Draws.text hh i2 y u) hz hT hO s1 s2 (by omega) (by omega) ?_
    rintro v1 v2 h' tk ⟨c1, t1, e1, rfl⟩ ⟨c2, t2, e2, rfl⟩ z1 o1 r1 r2 nT sz kp
    refine ⟨_, rfl, wpAny_letOwnedTupleGo_zip (s := { s with heap := h', toks := tk }) z1 fun h2 z2 sb => ?_⟩
    have nz : (s.heap.objs.size : Addr) ≠ z := Nat.ne_of_gt zl
    have nT2 : h2.get? s.heap.objs.size = some { cls := .type "tuple", data := .seq #[.str ⟨#[c1]⟩ t1, .str ⟨#[c2]⟩ t2] } :=
      (sb.2 _ nz).trans nT
    have ok : ObjOk X.prog X.w (upd H s.heap.objs.size (.tup [.str ⟨#[c1]⟩, .str ⟨#[c2]⟩])) h2 s.heap.objs.size
        (.tup [.str ⟨#[c1]⟩, .str ⟨#[c2]⟩]) :=
      ⟨(by show 2 ≤ sizeLine; decide), [_, _], .cons ⟨t1, rfl⟩ (.cons ⟨t2, rfl⟩ .nil), ⟨_, nT2, rfl, _, rfl⟩⟩
    have J := I.turnedNew (t' := tk) (ch := [z, TI, TO, i1, i2]) (h' := h2) (fun c o nc q => (sb.2 c fun q' => nc (by simp [q'])).trans
      (kp c o (fun q' => nc (by simp [q'])) (fun q' => nc (by simp [q'])) (fun q' => nc (by simp [q'])) (fun q' => nc (by simp [q'])) q)) hf (Nat.le_refl _) ok
    refine ⟨.ref s.heap.objs.size, _, J, rfl, ⟨_, c1, c2, rfl, I.hok.fresh (Nat.le_refl _), rfl, e1, e2⟩, ⟨z2, ?_, ⟨_, _, (sb.2 _ S.TOz).trans o1⟩, ?_, ?_⟩, ?_⟩
    · exact (sb.2 _ S.TIz).trans (kp _ _ S.TIz S.TITO S.TIi1 S.TIi2 hT)
    · obtain ⟨o, e, d⟩ := r1
      exact ⟨o, (sb.2 _ (Ne.symm S.zi1)).trans e, d⟩
    · obtain ⟨o, e, d⟩ := r2
      exact ⟨o, (sb.2 _ (Ne.symm S.zi2)).trans e, d⟩
    · intro c hcm
      have live : ∃ o, s.heap.get? c = some o := by
        have e' : c = z ∨ c = TI ∨ c = TO ∨ c = i1 ∨ c = i2 := by simpa using hcm
        rcases e' with rfl | rfl | rfl | rfl | rfl
        · exact ⟨_, hz⟩
        · exact ⟨_, hT⟩
        · exact ⟨_, hO⟩
        · exact ⟨_, s1.choose_spec.1⟩
        · exact ⟨_, s2.choose_spec.1⟩
      obtain ⟨o, e⟩ := live
      rw [upd_ne (Nat.ne_of_lt (Heap.lt_size e))]
      exact (hf c hcm).1
  done := by
    intro X hP hw hK hc i pins s σ H E I hf st hg
    subst hP hw hK
    obtain ⟨hz, hT, ⟨a, b, hO⟩, s1, s2⟩ := st
    have hh : X.A.in1.handled = none := I.ok.hd hc
    have hg' : i = min x.cps.size y.cps.size := hg
    refine wpAny_pyNext_zipD2_end S (Draws.text hh i1 x t) (Draws.text hh i2 y u) hz hT hO s1 s2 (by omega) (by omega) (by omega) ?_
    intro h' tk kp
    exact ⟨rfl, I.turnedL (t' := tk) (ch := [z, TI, TO, i1, i2]) (fun c o nc q =>
      kp c o (fun q' => nc (by simp [q'])) (fun q' => nc (by simp [q'])) (fun q' => nc (by simp [q'])) (fun q' => nc (by simp [q'])) q) hf⟩
  self := fun A i s Q E st h => wpAny_pyIter_zip st.1 h
def iZipS (ta : TA) : TI := fun σ H R => ta σ H fun vs H1 => ∃ x y, vs = [.str x, .str y] ∧ R (ItS x y) H1
theorem pi_zipS {X : Cx} {e e2 : Expr} {ta : TA} {p pos tpos : Pos} {elts : List Expr} {kk : Nat} (hg : Gl X "zip")
    (hm : X.mg "zip" = none) (ha : PA X [e, e2] ta)
    (hs : starEach [e, e2] X.env = (false, eval e X.env) :: starEach [e2] X.env := by rfl)
    (hpl : (backTo pos (starEach [e2] X.env)).any (·.1) = false := by rfl) :
    PI X (.Tuple elts kk tpos) (.Call (.Name "zip" p) [e, e2] [] pos) (iZipS ta) := by
  constructor
  intro pins s σ H R I h
  refine Call_ (ld_blt I hg hm PyProof.Rows.boot_zip (PyProof.Rows.callWith_type1 (thn (ha.run pos pins s σ H _ I h) ?_) hs hpl))
  rintro us s1 ⟨vs, H1, J, r, x, y, rfl, q⟩
  obtain ⟨u1, u2, rfl, ⟨t1, rfl⟩, ⟨t2, rfl⟩⟩ := vals2 r
  refine zip_begins2 (begins_text x t1) (begins_text y t2) trivial trivial ?_
  intro h' hz hT hO g1 g2 sz kp
  refine wpAny_pyIter_zip hz ?_
  have J2 : Inv X pins σ H1 { s1 with heap := h' } := J.kept (t' := s1.toks) kp
  refine ⟨_, _, _, ItS x y, H1, rfl, J2, turn_zipS (zip_sep2 (fp1 := []) (fp2 := []) (fun _ z => nomatch z) (fun _ z => nomatch z)),
    ⟨hz, hT, ⟨_, _, hO⟩, ⟨_, g1, rfl, rfl⟩, ⟨_, g2, rfl, rfl⟩⟩, fun c hcm => ?_, q⟩
  have hle : s1.heap.objs.size ≤ c := by
    have e' : c = s1.heap.objs.size + 4 ∨ c = s1.heap.objs.size + 2 ∨ c = s1.heap.objs.size + 3 ∨ c = s1.heap.objs.size ∨ c = s1.heap.objs.size + 1 := by
      simpa using hcm
    rcases e' with z | z | z | z | z <;> rw [z] <;> first | exact Nat.le_add_right _ _ | exact Nat.le_refl _
  exact J.fpOk hle (J.hok.fresh hle)
end FL
namespace FL
open PySem PySem.Spec PyProof.Rows L2
/-! ### values of any kind -/
inductive Any (H : Hp) : V → String → Prop
  | non : Any H .non "NoneType"
  | bl (b : Bool) : Any H (.bl b) "bool"
  | int (i : Int) : Any H (.int i) "int"
  | str (z : Str) : Any H (.str z) "str"
  | lst {a : Addr} {xs : List V} : H a = some (.lst xs) → Any H (.ref a) "list"
  | tup {a : Addr} {xs : List V} : H a = some (.tup xs) → Any H (.ref a) "tuple"
  | dct {a : Addr} {kvs : List (Key × V)} : H a = some (.dK kvs) → Any H (.ref a) "dict"
def kinds : List String := ["NoneType", "bool", "int", "str", "list", "tuple", "dict"]
def asked : List String := ["int", "bool", "str", "list", "tuple", "dict"]
def subB (n T : String) : Bool := n == T || (n == "bool" && T == "int")
theorem Any.kind {H : Hp} {v : V} {n : String} (h : Any H v n) : n ∈ kinds := by cases h <;> decide
theorem Any.tyx {K : PySem.W.Frag} {H : Hp} {v : V} {n : String} (h : Any H v n) : TyX K H v (.type n) := by
  cases h with
  | non => exact .base .non
  | bl b => exact .base (.bl b)
  | int i => exact .base (.int i)
  | str z => exact .base (.str z)
  | lst e => exact .base (.lst e)
  | tup e => exact .base (.tup e)
  | dct e => exact .base (.dK e)
theorem kit_all : (kinds.all fun n => asked.all fun T => decide (kitB n T = some (subB n T))) = true := by decide +kernel
theorem kit_any {n T : String} (hn : n ∈ kinds) (hT : T ∈ asked) : kitB n T = some (subB n T) := by
  have h := List.all_eq_true.mp kit_all n hn
  exact of_decide_eq_true (List.all_eq_true.mp h T hT)
section
variable {X : Cx}
theorem call_isA : CallR X (.builtin "isinstance") (fun xs H Q => ∃ x n T, xs = [x, .ty T] ∧ Any H x n ∧ T ∈ asked ∧ Q (.bl (subB n T)) H) := by
  intro pins s σ H xs us Q I r h
  obtain ⟨x, n, T, rfl, a, hT, q⟩ := h
  exact call_isi pins s σ H _ us Q I r ⟨x, .ty T, _, _, _, rfl, .ty T, a.tyx, kit_ty (kit_any a.kind hT), q⟩
end
theorem Any.same {H H' : Hp} {v : V} {n : String} (h : Any H v n) (e : ∀ a o, v = .ref a → H a = some o → H' a = some o) : Any H' v n := by
  cases h with
  | non => exact .non
  | bl b => exact .bl b
  | int i => exact .int i
  | str z => exact .str z
  | lst q => exact .lst (e _ _ rfl q)
  | tup q => exact .tup (e _ _ rfl q)
  | dct q => exact .dct (e _ _ rfl q)
/-! ### lines -/
def lineB (sg : Str) : V → Bool
  | .str z => decide (Txt.stripChars z sg = (Str.ofString ""))
  | _ => false
/-- texts are not too long -/
def Short (v : V) : Prop := ∀ z, v = .str z → z.length ≤ sizeLine
def spLine : Sp := fun vs H Q _ => ∃ (sg : Str) (v : V) (n : String), vs = [.str sg, v] ∧ Any H v n ∧ Short v ∧ Q (.bl (lineB sg v)) H
end FL
namespace FL
open PySem PySem.Spec PyProof.Rows L2
/-! ### the pot -/
def PotAt (H : Hp) (p : Addr) : Prop :=
  ∃ a b : Int, H p = some (.lst [.int a, .int b]) ∧ 0 ≤ a ∧ 0 ≤ b ∧ b ≤ 2147483646
/-- all but p is as it was -/
def But (p : Addr) (H H' : Hp) : Prop := ∀ c o, H c = some o → c ≠ p → H' c = some o
theorem But.refl (p : Addr) (H : Hp) : But p H H := fun _ _ e _ => e
theorem But.trans {p : Addr} {H H1 H2 : Hp} (a : But p H H1) (b : But p H1 H2) : But p H H2 :=
  fun c o e n => b c o (a c o e n) n
theorem But.same {p : Addr} {H H1 H2 : Hp} (a : But p H H1) (b : Same H1 H2) : But p H H2 :=
  fun c o e n => b c o (a c o e n)
theorem _root_.L2.Same.but {p : Addr} {H H1 : Hp} (a : Same H H1) : But p H H1 := fun c o e _ => a c o e
def spDraw : Sp := fun vs H Q _ => ∃ (p : Addr) (n : Int), vs = [.ref p, .int n] ∧ PotAt H p ∧ 0 < n ∧ n < 1073741824 ∧
  ∀ (d : Int) (H' : Hp), 0 ≤ d → d < n → PotAt H' p → But p H H' → Q (.int d) H'
end FL
namespace FL
open PySem PySem.Spec PyProof.Rows L2
theorem But.sqL {K : PySem.W.Frag} {p q : Addr} {H H' : Hp} {xs : List V} (b : But p H H') (n : q ≠ p) (h : SqL K H q xs) : SqL K H' q xs := by
  rcases h with (h | ⟨o, h⟩) | h
  · exact .inl (.inl (b _ _ h n))
  · exact .inl (.inr ⟨o, b _ _ h n⟩)
  · exact .inr h
def spPick (K : PySem.W.Frag) : Sp := fun vs H Q _ => ∃ (p : Addr) (v : V), vs = [.ref p, v] ∧ PotAt H p ∧
  ((∃ (q : Addr) (xs : List V), v = .ref q ∧ q ≠ p ∧ SqL K H q xs ∧ 0 < xs.length ∧ xs.length ≤ 1000 ∧
      ∀ (x : V) (H' : Hp), x ∈ xs → PotAt H' p → But p H H' → Q x H')
    ∨ (∃ z : Str, v = .str z ∧ 0 < z.length ∧ z.length ≤ 1000 ∧
      ∀ (c : Nat) (H' : Hp), c ∈ z.cps.toList → PotAt H' p → But p H H' → Q (.str ⟨#[c]⟩) H'))
def spPot (K : PySem.W.Frag) : Sp := fun vs H Q _ => ∃ (a : Addr) (ns : List Int) (k : Int), vs = [.ref a, .int k] ∧ SqL K H a (ns.map V.int) ∧ 0 ≤ k ∧ k < 64 ∧ ns.length ≤ 63 ∧
  ∀ (p : Addr) (H' : Hp), H p = none → PotAt H' p → Same H H' → Q (.ref p) H'
theorem atI_lt {α : Type} {xs : List α} {d : Int} (h0 : 0 ≤ d) (h1 : d < (xs.length : Int)) : ∃ x, x ∈ xs ∧ atI xs d = some x := by
  have hl : d.toNat < xs.length := by omega
  refine ⟨xs[d.toNat], List.getElem_mem hl, ?_⟩
  have e := atI_nat (List.getElem?_eq_getElem hl)
  rw [show ((d.toNat : Nat) : Int) = d by omega] at e
  exact e
theorem str_len (z : Str) : z.length = z.cps.toList.length := by
  show z.cps.size = _
  simp
end FL
namespace FL
open PySem PySem.Spec PyProof.Rows L2
theorem sqL_upd {K : PySem.W.Frag} {q B : Addr} {H : Hp} {xs : List V} {o : HO} (h : SqL K H q xs) (n : H B = none) : SqL K (upd H B o) q xs := by
  rcases h with (h | ⟨u, h⟩) | h
  · exact .inl (.inl (by rw [upd_ne (ne_of_none h n)]; exact h))
  · exact .inl (.inr ⟨u, by rw [upd_ne (ne_of_none h n)]; exact h⟩)
  · exact .inr h
/-- what len asks -/
def rLen (K : PySem.W.Frag) : List V → Hp → VK → Prop := fun xs H Q => ∃ x n, xs = [x] ∧ LenV K x H n ∧ Q (.int n) H
theorem callLen {X : Cx} : CallR X (.builtin "len") (rLen X.K) := call_len
/-- a text of signs of z -/
def Over (z y : Str) : Prop := ∀ c ∈ y.cps.toList, c ∈ z.cps.toList
def spNote : Sp := fun vs H Q _ => ∃ (p : Addr) (z : Str) (m : Int), vs = [.ref p, .str z, .int m] ∧ PotAt H p ∧ 0 < z.length ∧ z.length ≤ 1000 ∧ 0 ≤ m ∧ m ≤ 1000 ∧
  ∀ (y : Str) (H' : Hp), Over z y → (y.length : Int) ≤ m → PotAt H' p → But p H H' → Q (.str y) H'
theorem PotAt.upd {H : Hp} {p q : Addr} {o : HO} (h : PotAt H p) (n : p ≠ q) : PotAt (upd H q o) p := by
  obtain ⟨a, b, e, r⟩ := h
  exact ⟨a, b, by rw [upd_ne n]; exact e, r⟩
theorem PotAt.ne {H : Hp} {p q : Addr} (h : PotAt H p) (n : H q = none) : p ≠ q := by
  obtain ⟨a, b, e, r⟩ := h
  exact ne_of_none e n
theorem But.upd {p q : Addr} {H H1 : Hp} {o : HO} (b : But p H H1) (n : H q = none) : But p H (upd H1 q o) := fun c u e hc => by
  rw [upd_ne (ne_of_none e n)]
  exact b c u e hc
theorem But.new {p q : Addr} {H H1 : Hp} (b : But p H H1) (hp : PotAt H p) (n : H1 q = none) (hp1 : PotAt H1 p) : H q = none := by
  cases e : H q with
  | none => rfl
  | some o =>
    by_cases hq : q = p
    · subst hq
      obtain ⟨_, _, z, _⟩ := hp1
      rw [z] at n
      cases n
    · rw [b q o e hq] at n
      cases n
theorem join_list (ys : List Str) : (Str.join (Str.ofString "") ys).cps.toList = (ys.map fun y => y.cps.toList).flatten := by
  have e0 : (Str.ofString "").cps.toList = [] := by decide +kernel
  induction ys with
  | nil => rfl
  | cons x r ih =>
    cases r with
    | nil => simp [Str.join]
    | cons y r =>
      show (x ++ Str.ofString "" ++ Str.join (Str.ofString "") (y :: r)).cps.toList = _
      rw [Str.cps_append, Str.cps_append, Array.toList_append, Array.toList_append, ih, e0]
      simp
theorem Str_ext {a b : Str} (h : a.cps.toList = b.cps.toList) : a = b := by
  obtain ⟨a⟩ := a
  obtain ⟨b⟩ := b
  congr 1
  exact Array.toList_inj.mp h
theorem txtjoin_list (ys : List Str) : (Txt.join (Str.ofString "") ys).cps.toList = (ys.map fun y => y.cps.toList).flatten := by
  rw [← join_list]
  unfold Txt.join
  rw [StrLaws.glued_eq_join]
theorem join_signs (cs : List Nat) : Txt.join (Str.ofString "") (cs.map fun c => (⟨#[c]⟩ : Str)) = ⟨cs.toArray⟩ := by
  apply Str_ext
  rw [txtjoin_list, List.map_map]
  show (cs.map fun c => [c]).flatten = cs
  induction cs with
  | nil => rfl
  | cons c cs ih => rw [List.map_cons, List.flatten_cons, ih]; rfl
end FL
namespace FL
open PySem PySem.Spec PyProof.Rows L2
/-! ### texts: list(z), z * n, z[::-1] -/
def sign (c : Nat) : V := .str ⟨#[c]⟩
section
variable {X : Cx}
theorem vals_signs {z : Str} {acc : Array Value} (h : ItemsOf (SignAt z) acc z.cps.size) : Vals (z.cps.toList.map sign) acc.toList := by
  obtain ⟨h1, h2⟩ := h
  have key : ∀ (l : List Nat) (vs : List Value), l.length = vs.length →
      (∀ (i : Nat) (c : Nat) (v : Value), l[i]? = some c → vs[i]? = some v → ∃ u, v = .str ⟨#[c]⟩ u) → Vals (l.map sign) vs := by
    intro l
    induction l with
    | nil =>
      intro vs hl _
      cases vs with
      | nil => exact .nil
      | cons _ _ => simp at hl
    | cons c l ih =>
      intro vs hl hv
      cases vs with
      | nil => simp at hl
      | cons v vs =>
        obtain ⟨u, rfl⟩ := hv 0 c v rfl rfl
        exact .cons ⟨u, rfl⟩ (ih vs (by simpa using hl) fun i c v a b => hv (i + 1) c v (by simpa using a) (by simpa using b))
  refine key _ _ (by simp [h1]) fun i c v a b => ?_
  obtain ⟨c', u, e1, e2⟩ := h2 i v (by simpa using b)
  have : c' = c := by
    have a' : z.cps[i]? = some c := by simpa using a
    rw [e1] at a'
    exact Option.some.inj a'
  exact ⟨u, this ▸ e2⟩
theorem call_list_txt (hc : X.calm = true) : CallR X (.type "list") (fun xs H Q => ∃ z, xs = [.str z] ∧ z.length ≤ sizeLine ∧
    ∀ l, H l = none → Q (.ref l) (upd H l (.lst (z.cps.toList.map sign)))) := by
  intro pins s σ H xs us Q I r h
  obtain ⟨z, rfl, hz, q⟩ := h
  obtain ⟨u, rfl, t, rfl⟩ := vals1 r
  refine call_list_str (I.ok.hd hc) z t ?_ hz
  intro h' tk acc n kp hS hacc
  refine ⟨.ref s.heap.objs.size, _, I.laid (t' := tk) (o := .lst (z.cps.toList.map sign)) kp (Nat.le_refl _) ?_, rfl, q _ (I.hok.fresh (Nat.le_refl _))⟩
  refine ⟨by rw [List.length_map, Array.length_toList]; exact hz, acc.toList, n, vals_signs hacc, ?_⟩
  rw [hS]
def repS (z : Str) (n : Nat) : Str := ⟨(List.replicate n z.cps).foldl (· ++ ·) #[]⟩
theorem foldl_app (l : List (Array Nat)) : ∀ a : Array Nat, (l.foldl (· ++ ·) a).toList = a.toList ++ (l.map Array.toList).flatten := by
  induction l with
  | nil => intro a; simp
  | cons b l ih => intro a; rw [List.foldl_cons, ih]; simp
theorem repS_list (z : Str) (n : Nat) : (repS z n).cps.toList = (List.replicate n z.cps.toList).flatten := by
  unfold repS
  rw [foldl_app]
  simp
theorem repS_len (z : Str) (n : Nat) : (repS z n).length = n * z.length := by
  rw [str_len, repS_list, str_len]
  induction n with
  | zero => simp
  | succ n ih => rw [List.replicate_succ, List.flatten_cons, List.length_append, ih, Nat.succ_mul, Nat.add_comm]
theorem repS_mem {z : Str} {n c : Nat} (h : c ∈ (repS z n).cps.toList) : c ∈ z.cps.toList := by
  rw [repS_list] at h
  obtain ⟨l, hl, hc⟩ := List.mem_flatten.mp h
  rw [List.eq_of_mem_replicate hl] at hc
  exact hc
theorem op_mul_str : OpR X (binaryOp .Mult) (fun x y H Q => ∃ z n, x = .str z ∧ y = .int n ∧ 2 ≤ n ∧ n ≤ 10000 ∧ 0 < z.length ∧ z.length ≤ 1000 ∧ Q (.str (repS z n.toNat)) H) := by
  intro pins s σ H x y v u Q I rx ry h
  obtain ⟨z, n, rfl, rfl, n0, n1, z0, z1, q⟩ := h
  obtain ⟨t, rfl⟩ := rx
  obtain ⟨t', rfl⟩ := ry
  have b1 : (n == 1 || z.length == 0) = false := by
    have e1 : (n == 1) = false := by simp; omega
    have e2 : (z.length == 0) = false := by simp; omega
    rw [e1, e2]
    rfl
  have b2 : z.length * n.toNat ≤ 10000000 := by
    have : z.length * n.toNat ≤ 1000 * 10000 := Nat.mul_le_mul z1 (by omega)
    omega
  have sz : sizeLine = 16777216 := rfl
  refine P.mul_str ?_ ?_ ?_ ?_
  · rw [decide_eq_false (show ¬ n < -(2 ^ 63 : Int) by omega), decide_eq_false (show ¬ n ≥ 2 ^ 63 by omega)]
    rfl
  · intro _ _
    have e : (1000 : Int) ≤ (2 ^ 63 - 1) / n := by
      rw [Int.le_ediv_iff_mul_le (by omega)]
      omega
    omega
  · intro _ _
    show decide (z.length * n.toNat > sizeLine) = false
    exact decide_eq_false (by omega)
  · rw [if_neg (by omega), if_neg (by rw [b1]; decide)]
    refine ⟨?_, .str (repS z n.toNat), H, I.tok _, ⟨_, rfl⟩, q⟩
    show (repS z n.toNat).length ≤ sizeLine
    rw [repS_len, Nat.mul_comm]
    omega
def tRevS (te : TE) : TE := fun σ H Q => te σ H fun x H1 => ∃ z, x = .str z ∧ z.length ≤ sizeLine ∧
  Q (.str ⟨z.cps.toList.reverse.toArray⟩) H1
theorem pe_revS {e : Expr} {te : TE} {k : Nat} {p1 p2 p3 pos : Pos} (he : PE X e te) :
    PE X (.Subscript e (.Slice none none (some (.UnaryOp .USub (.Constant (.int 1) k p1) p2)) p3) pos) (tRevS te) := by
  constructor
  intro pins s σ H Q I h
  refine Subscript_ (thn (he.run pins s σ H _ I h) ?_)
  rintro v s1 ⟨x, H1, J, r, z, rfl, hz, q⟩
  obtain ⟨t, rfl⟩ := r
  have hst : PO X (some (.UnaryOp .USub (.Constant (.int 1) k p1) p2)) (tPart (tUn (rU fun i => .int (-i)) (tC (.int 1)))) :=
    po_some (pe_un un_neg pe_int)
  refine wpAny_Slice (thn (po_none.run pins s1 σ H1 (fun o H2 => o = none ∧ H2 = H1) J ⟨rfl, rfl⟩) ?_)
  rintro vl s2 ⟨l, H2, J2, pl, rfl, rfl⟩
  refine thn (po_none.run pins s2 σ _ (fun o H3 => o = none ∧ H3 = H2) J2 ⟨rfl, rfl⟩) ?_
  rintro vu s3 ⟨u, H3, J3, pu, rfl, rfl⟩
  refine thn (hst.run pins s3 σ _ (fun o H4 => o = some (-1) ∧ H4 = H3) J3 ⟨1, rfl, -1, rfl, rfl, rfl⟩) ?_
  rintro vs s4 ⟨o, H4, J4, ps, rfl, rfl⟩
  obtain ⟨l', rfl, el⟩ := IsPart.raw pl
  obtain ⟨u', rfl, eu⟩ := IsPart.raw pu
  obtain ⟨s', rfl, es⟩ := IsPart.raw ps
  have J5 : Inv X pins σ H4 { s4 with heap := s4.heap.push { cls := .type "slice", data := .fields #[partValue l', partValue u', partValue s'] } } :=
    J4.kept (t' := s4.toks) fun b ob q => Heap.get?_push_of_some _ q
  refine tail_any (ops := [.str z t, .ref s4.heap.objs.size]) (typeIs_str _ _ _) F.slot_str_getitem.lookup ?_ (by with_unfolding_all rfl)
  refine wpAny_getItem_str_slice (l := l') (u := u') (st := s') ⟨_, Heap.get?_push_size _ rfl, rfl, rfl⟩ (by rw [es]; rfl) ?_
  have e1 : slicePicked z l' u' s' = (List.range z.length).map fun k => z.length - 1 - k := by
    unfold slicePicked
    rw [el, eu, es]
    exact PySem.W.krv_sliceRange z.length
  unfold sliceMade
  rw [es, if_neg (by simp), e1]
  have e2 : (((List.range z.length).map fun k => z.length - 1 - k).filterMap (z.cps[·]?)) = z.cps.toList.reverse := by
    rw [PySem.W.krv_range, List.filterMap_reverse]
    have := PySem.W.krv_all z.cps
    rw [show z.length = z.cps.size from rfl, this]
  rw [e2]
  refine ⟨?_, .str _, H4, J5.tok _, ⟨_, rfl⟩, q⟩
  show (z.cps.toList.reverse.toArray).size ≤ sizeLine
  rw [List.size_toArray, List.length_reverse, Array.length_toList]
  exact hz
theorem mtPopAt : MtR X "list.pop" rPopAt := mt_popAt
theorem mtAppend : MtR X "list.append" rAppend := mt_append
theorem mtExtend : MtR X "list.extend" rExtend := mt_extend
theorem mtReverse : MtR X "list.reverse" rReverse := mt_reverse
theorem mtClear : MtR X "list.clear" rClear := mt_clear
end
end FL
namespace FL
open PySem PySem.Spec PyProof.Rows L2
/-! ### signs -/
def poolCodes : List Nat := "-.0123456789=>abcdefghijklmnopqrstuvwxyz|".toList.map (·.toNat)
structure Abc (z : Str) : Prop where
  lo : 2 ≤ z.length
  hi : z.length ≤ 4
  up : z.cps.toList.Pairwise (· < ·)
  inn : ∀ c ∈ z.cps.toList, c ∈ poolCodes
theorem perm_erase {α : Type} : ∀ (xs : List α) (i : Nat) (h : i < xs.length), (xs[i] :: xs.eraseIdx i).Perm xs
  | [], _, h => absurd h (by simp)
  | x :: xs, 0, _ => List.Perm.refl _
  | x :: xs, i + 1, h => by
    have ih := perm_erase xs i (by simpa using h)
    have hi : i < xs.length := by simpa using h
    show (xs[i] :: x :: xs.eraseIdx i).Perm (x :: xs)
    exact (List.Perm.swap _ _ _).trans (ih.cons x)
theorem erase_map {α β : Type} (f : α → β) : ∀ (xs : List α) (i : Nat), (xs.map f).eraseIdx i = (xs.eraseIdx i).map f
  | [], _ => rfl
  | _ :: _, 0 => rfl
  | x :: xs, i + 1 => by
    show f x :: (xs.map f).eraseIdx i = f x :: (xs.eraseIdx i).map f
    rw [erase_map f xs i]
def one (c : Nat) : Str := ⟨#[c]⟩
theorem one_inj {a b : Nat} (h : one a = one b) : a = b := by
  have := congrArg (fun s : Str => s.cps.toList) h
  simpa [one] using this
theorem map_one {ys : List Str} {cs : List Nat} (h : ys.Perm (cs.map one)) : ∃ ds : List Nat, ys = ds.map one ∧ ds.Perm cs := by
  have hall : ∀ y ∈ ys, ∃ c, y = one c := fun y hy => by
    obtain ⟨c, _, e⟩ := List.mem_map.mp (h.mem_iff.mp hy)
    exact ⟨c, e.symm⟩
  have hd : ∃ ds : List Nat, ys = ds.map one := by
    clear h
    induction ys with
    | nil => exact ⟨[], rfl⟩
    | cons y ys ih =>
      obtain ⟨c, rfl⟩ := hall y List.mem_cons_self
      obtain ⟨ds, rfl⟩ := ih fun y hy => hall y (List.mem_cons_of_mem _ hy)
      exact ⟨c :: ds, rfl⟩
  obtain ⟨ds, rfl⟩ := hd
  refine ⟨ds, rfl, ?_⟩
  have key : ∀ l : List Nat, (l.map one).map (fun s : Str => s.cps.toList.headD 0) = l := fun l => by
    rw [List.map_map]
    conv => rhs; rw [← List.map_id l]
    apply List.map_congr_left
    intro c _
    rfl
  have := h.map (fun s : Str => s.cps.toList.headD 0)
  rwa [key, key] at this
theorem lt_one (a b : Nat) : ltCps [a] [b] = decide (a < b) := by
  unfold ltCps
  by_cases h : a < b
  · simp [h, ltCps]
  · simp [h, ltCps]
theorem rising_one : ∀ (ds : List Nat) (a : Nat), risingS (one a) (ds.map one) = true → (∀ b ∈ ds, a ≤ b) ∧ ds.Pairwise (· ≤ ·)
  | [], _, _ => ⟨(fun _ h => nomatch h), .nil⟩
  | b :: r, a, h => by
    have h' : (!ltCps [b] [a] && risingS (one b) (r.map one)) = true := h
    rw [Bool.and_eq_true] at h'
    obtain ⟨h1, h2⟩ := h'
    have hab : a ≤ b := by
      rw [lt_one] at h1
      simpa using h1
    obtain ⟨i1, i2⟩ := rising_one r b h2
    refine ⟨fun c hc => ?_, .cons i1 i2⟩
    rcases List.mem_cons.mp hc with rfl | hc
    · exact hab
    · exact Nat.le_trans hab (i1 c hc)
theorem sorted_one : ∀ (ds : List Nat), sortedS (ds.map one) = true → ds.Pairwise (· ≤ ·)
  | [], _ => .nil
  | a :: r, h => let ⟨i1, i2⟩ := rising_one r a h; .cons i1 i2
theorem strict {ds : List Nat} (h : ds.Pairwise (· ≤ ·)) (n : ds.Nodup) : ds.Pairwise (· < ·) := by
  induction ds with
  | nil => exact .nil
  | cons a r ih =>
    cases h with
    | cons h1 h2 =>
      obtain ⟨n1, n2⟩ := List.nodup_cons.mp n
      refine .cons (fun b hb => ?_) (ih h2 n2)
      have := h1 b hb
      have : a ≠ b := fun e => n1 (e ▸ hb)
      omega
theorem pool_nodup : poolCodes.Nodup := by decide +kernel
def spAbc : Sp := fun vs H Q _ => ∃ (p : Addr), vs = [.ref p, .int 4] ∧ PotAt H p ∧
  ∀ (z : Str) (H' : Hp), Abc z → PotAt H' p → But p H H' → Q (.str z) H'
end FL
namespace FL
open PySem PySem.Spec PyProof.Rows L2
/-! ### rules -/
structure Rule where
  fr : Bool
  old : Str
  new : Str
def kd : Bool → Str
  | true => Str.ofString "front"
  | false => Str.ofString "whole"
def ruleV (r : Rule) : List V := [.str (kd r.fr), .str r.old, .str r.new]
def RuleAt (H : Hp) (v : V) (r : Rule) : Prop := ∃ t, v = .ref t ∧ H t = some (.tup (ruleV r))
abbrev RulesAt (H : Hp) : List V → List Rule → Prop := Paired (RuleAt H)
structure RuleOk (z : Str) (b : Nat) (r : Rule) : Prop where
  o1 : Over z r.old
  o2 : r.old.length ≤ b
  n1 : Over z r.new
  n2 : r.new.length ≤ b
theorem RuleOk.mono {z : Str} {b c : Nat} {r : Rule} (h : RuleOk z b r) (l : b ≤ c) : RuleOk z c r := ⟨h.o1, Nat.le_trans h.o2 l, h.n1, Nat.le_trans h.n2 l⟩
theorem RulesAt.imp {H H' : Hp} : ∀ {xs : List V} {rs : List Rule}, RulesAt H xs rs → (∀ t a, H t = some (.tup a) → H' t = some (.tup a)) → RulesAt H' xs rs
  | _, _, .nil, _ => .nil
  | _, _, .cons ⟨t, e, h⟩ r, k => .cons ⟨t, e, k _ _ h⟩ (RulesAt.imp r k)
theorem But.tups {p : Addr} {H H' : Hp} (b : But p H H') (hp : PotAt H p) : ∀ t a, H t = some (.tup a) → H' t = some (.tup a) := fun t a e =>
  b t _ e fun q => by
    obtain ⟨_, _, z, _⟩ := hp
    rw [q, z] at e
    cases e
theorem over_app {z a b : Str} (h1 : Over z a) (h2 : Over z b) : Over z (a ++ b) := fun c hc => by
  rw [Str.cps_append, Array.toList_append] at hc
  exact (List.mem_append.mp hc).elim (h1 c) (h2 c)
theorem over_cut {z y : Str} (h : Over z y) (lo hi : Option Int) : Over z (cutS y lo hi) := fun c hc => by
  apply h c
  have h' : c ∈ ((y.cps.toList.drop (HT.sIx y.length 0 lo)).take (HT.sIx y.length y.length hi - HT.sIx y.length 0 lo)) := by
    simpa [cutS] using hc
  exact List.mem_of_mem_drop (List.mem_of_mem_take h')
theorem over_rev {z y : Str} (h : Over z y) : Over z ⟨y.cps.toList.reverse.toArray⟩ := fun c hc => h c (by simpa using hc)
theorem over_one {z : Str} {c : Nat} (h : c ∈ z.cps.toList) : Over z ⟨#[c]⟩ := fun d hd => by
  have : d = c := by simpa using hd
  rw [this]
  exact h
theorem len_app (a b : Str) : (a ++ b).length = a.length + b.length := Str.length_append a b
theorem len_rev (y : Str) : (⟨y.cps.toList.reverse.toArray⟩ : Str).length = y.length := by
  show (y.cps.toList.reverse.toArray).size = y.cps.size
  simp
theorem len_one (c : Nat) : (⟨#[c]⟩ : Str).length = 1 := rfl
def spDeals : Sp := fun vs H Q _ => ∃ (p : Addr) (z : Str) (lot most : Int), vs = [.ref p, .str z, .int lot, .int most] ∧ PotAt H p ∧ 0 < z.length ∧ z.length ≤ 1000 ∧
  0 ≤ lot ∧ lot ≤ 100 ∧ 0 ≤ most ∧ most ≤ 20 ∧
  ∀ (D : Addr) (xs : List V) (rs : List Rule) (H' : Hp), H D = none → H' D = some (.lst xs) → RulesAt H' xs rs → (rs.length : Int) ≤ lot →
    (∀ r ∈ rs, RuleOk z (most.toNat + 2) r) → PotAt H' p → But p H H' → Q (.ref D) H'
theorem paired_snoc {α β : Type} {R : α → β → Prop} : ∀ {xs : List α} {ys : List β} {x : α} {y : β}, Paired R xs ys → R x y → Paired R (xs ++ [x]) (ys ++ [y])
  | _, _, _, _, .nil, h => .cons h .nil
  | _, _, _, _, .cons a b, h => .cons a (paired_snoc b h)
theorem paired_len {α β : Type} {R : α → β → Prop} {xs : List α} {ys : List β} (h : Paired R xs ys) : xs.length = ys.length := Paired.length h
end FL
namespace FL
open PySem PySem.Spec PyProof.Rows L2
/-! ### turning -/
def fits (r : Rule) (y : Str) : Bool :=
  match r.fr with
  | true => decide (cutS y none (some (r.old.length : Int)) = r.old)
  | false => decide (y = r.old)
def turnR (r : Rule) (y : Str) : Str :=
  match r.fr with
  | true => r.new ++ cutS y (some (r.old.length : Int)) none
  | false => r.new
def turn : List Rule → Str → Str
  | [], y => y
  | r :: rs, y => if fits r y = true then turnR r y else turn rs y
def spTurn (K : PySem.W.Frag) : Sp := fun vs H Q _ => ∃ (D : Addr) (y : Str) (xs : List V) (rs : List Rule), vs = [.ref D, .str y] ∧ SqL K H D xs ∧ RulesAt H xs rs ∧
  y.length ≤ 100000 ∧ (∀ r ∈ rs, r.old.length ≤ 1000 ∧ r.new.length ≤ 1000) ∧ Q (.str (turn rs y)) H
theorem kd_ne : kd true ≠ kd false := by decide +kernel
theorem strV_ne {a b : Str} (h : a ≠ b) : ¬ (V.str a = V.str b) := fun e => h (V.str.inj e)
end FL
namespace FL
open PySem PySem.Spec PyProof.Rows L2
structure NoteOk (z : Str) (b : Nat) (y : Str) : Prop where
  ov : Over z y
  le : y.length ≤ b
def spNotes : Sp := fun vs H Q _ => ∃ (z : Str) (m : Int), vs = [.str z, .int m] ∧ 0 < z.length ∧ z.length ≤ 4 ∧ 0 ≤ m ∧ m ≤ 4 ∧
  ∀ (D : Addr) (ys : List Str) (H' : Hp), H D = none → H' D = some (.lst (ys.map V.str)) → (∀ y ∈ ys, NoteOk z m.toNat y) → ys.length ≤ 2000 → Same H H' → Q (.ref D) H'
theorem _root_.L2.Same.upd {H H1 : Hp} {q : Addr} {o : HO} (s : Same H H1) (n : H q = none) : Same H (upd H1 q o) := fun c u e => by
  rw [upd_ne (ne_of_none e n)]
  exact s c u e
theorem _root_.L2.Same.none {H H1 : Hp} {q : Addr} (s : Same H H1) (n : H1 q = Option.none) : H q = Option.none := s.free n
theorem pow_bound {n i : Nat} (h1 : n ≤ 4) (h2 : i ≤ 4) (h0 : 0 < n) : n ^ i ≤ 256 :=
  Nat.le_trans (Nat.pow_le_pow_left h1 i) (Nat.le_trans (Nat.pow_le_pow_right (by decide) h2) (by decide))
end FL
namespace FL
open PySem PySem.Spec PyProof.Rows L2
/-! ### data that can be shown and compared, of at most n signs -/
structure Sm (n : Nat) (d : PyData) : Prop where
  sh : d.showable = true
  nd : d.hasDict = false
  cl : d.canLay0 = true
  dp : d.depth ≤ 12
  len : d.shown.length ≤ n
structure SmL (k n : Nat) (ds : List PyData) : Prop where
  sh : PyData.showableAll ds = true
  nd : PyData.hasDictAll ds = false
  cl : PyData.canLayAll0 ds = true
  dp : PyData.depthAll ds ≤ k
  len : piled (PyData.shownAll ds) ≤ n
theorem Sm.shaped {n : Nat} {d : PyData} (h : Sm n d) : SeqAt.shaped d = true := by
  unfold SeqAt.shaped
  rw [h.cl, decide_eq_true (Nat.le_trans h.dp (by decide))]
  rfl
theorem Sm.nice {n : Nat} {d : PyData} (h : Sm n d) (hn : n ≤ sizeLine) : NiceD d := ⟨h.sh, Nat.le_trans h.dp (by decide), Nat.le_trans h.len hn⟩
theorem Sm.mono {n m : Nat} {d : PyData} (h : Sm n d) (l : n ≤ m) : Sm m d := ⟨h.sh, h.nd, h.cl, h.dp, Nat.le_trans h.len l⟩
theorem SmL.nil {k : Nat} : SmL k 0 [] := ⟨rfl, rfl, rfl, Nat.zero_le _, Nat.le_refl _⟩
theorem SmL.cons {k m n : Nat} {d : PyData} {ds : List PyData} (h : Sm m d) (hd : d.depth ≤ k) (r : SmL k n ds) : SmL k (m + 2 + n) (d :: ds) := by
  refine ⟨?_, ?_, ?_, ?_, ?_⟩
  · show (d.showable && PyData.showableAll ds) = true
    rw [h.sh, r.sh]
    rfl
  · show (d.hasDict || PyData.hasDictAll ds) = false
    rw [h.nd, r.nd]
    rfl
  · show (d.canLay0 && PyData.canLayAll0 ds) = true
    rw [h.cl, r.cl]
    rfl
  · show max d.depth (PyData.depthAll ds) ≤ k
    have := r.dp
    omega
  · show piled (d.shown :: PyData.shownAll ds) ≤ _
    rw [piled_cons]
    have := r.len
    have := h.len
    omega
theorem textFrom_le : ∀ (ts : List Str) (k : Nat) (acc : Str), (textFrom k acc ts).length ≤ acc.length + piled ts
  | [], k, acc => Nat.le_add_right _ _
  | t :: r, k, acc => by
    have h := textFrom_le r (k + 1) (acc ++ (if k > 0 then ", " else "" : String) ++ t)
    have e : (acc ++ (if k > 0 then ", " else "" : String) ++ t).length ≤ acc.length + 2 + t.length := by
      rw [strLen_append, strLen_append]
      have : ((if k > 0 then ", " else "" : String) : Str).length ≤ 2 := by split <;> decide +kernel
      omega
    show (textFrom (k + 1) _ r).length ≤ _
    rw [piled_cons]
    omega
theorem Sm.list {k n : Nat} {ds : List PyData} (h : SmL k n ds) (hk : k < 12) : Sm (n + 2) (.list ds) := by
  refine ⟨h.sh, h.nd, h.cl, ?_, ?_⟩
  · show PyData.depthAll ds + 1 ≤ 12
    have := h.dp
    omega
  · show (listText (PyData.shownAll ds)).length ≤ _
    unfold listText
    rw [strLen_append]
    have h1 := textFrom_le (PyData.shownAll ds) 0 "["
    have h2 : (("[" : String) : Str).length = 1 := rfl
    have h3 : (("]" : String) : Str).length = 1 := rfl
    have := h.len
    omega
theorem tupleText_le (ts : List Str) : (tupleText ts).length ≤ piled ts + 3 := by
  have e3 : (((if ts.length == 1 then ",)" else ")" : String) : Str)).length ≤ 2 := by split <;> decide +kernel
  have e1 : ((("(" : String) : Str)).length = 1 := rfl
  unfold tupleText
  rw [strLen_append, strLen_append, e1]
  by_cases h : ts = []
  · subst h
    have : (Str.join ", " ([] : List Str)).length = 0 := rfl
    omega
  · have := join_length_add ts h
    omega
theorem Sm.tuple {k n : Nat} {ds : List PyData} (h : SmL k n ds) (hk : k < 12) : Sm (n + 3) (.tuple ds) := by
  refine ⟨h.sh, h.nd, h.cl, ?_, ?_⟩
  · show PyData.depthAll ds + 1 ≤ 12
    have := h.dp
    omega
  · show (tupleText (PyData.shownAll ds)).length ≤ _
    have := tupleText_le (PyData.shownAll ds)
    have := h.len
    omega
/-- plain signs -/
def Plain (y : Str) : Prop := ∀ c ∈ y.cps.toList, c < 128
theorem pool_plain : ∀ c ∈ poolCodes, c < 128 := by decide +kernel
theorem Abc.plain {z y : Str} (h : Abc z) (o : Over z y) : Plain y := fun c hc => pool_plain c (h.inn c (o c hc))
theorem Sm.str {y : Str} (h : Plain y) : Sm (10 * y.length + 2) (.str y) := by
  refine ⟨rfl, rfl, ?_, Nat.zero_le _, StrLaws.reprText_len y fun c hc => Nat.lt_trans (h c hc) (by decide)⟩
  show y.cps.all (· < 0x110000) = true
  rw [Array.all_eq_true]
  intro i hi
  refine decide_eq_true (Nat.lt_trans (h y.cps[i] ?_) (by decide))
  exact Array.getElem_mem_toList hi
theorem Sm.bool (b : Bool) : Sm 5 (.bool b) := ⟨rfl, rfl, rfl, Nat.zero_le _, by cases b <;> decide +kernel⟩
def ruleD (r : Rule) : PyData := .tuple [.str (kd r.fr), .str r.old, .str r.new]
theorem kd_plain (b : Bool) : Plain (kd b) := by
  have h : ∀ c ∈ (kd b).cps.toList, c < 128 := by cases b <;> decide +kernel
  exact h
theorem kd_len (b : Bool) : (kd b).length = 5 := by cases b <;> decide +kernel
theorem Sm.rule {b : Nat} {r : Rule} (h1 : Plain r.old) (h2 : Plain r.new) (l1 : r.old.length ≤ b) (l2 : r.new.length ≤ b) : Sm (20 * b + 75) (ruleD r) := by
  have a0 := Sm.str (kd_plain r.fr)
  rw [kd_len] at a0
  have := Sm.tuple (k := 1) (SmL.cons a0 (Nat.zero_le _) (SmL.cons ((Sm.str h1).mono (show _ ≤ 10 * b + 2 by omega)) (Nat.zero_le _) (SmL.cons ((Sm.str h2).mono (show _ ≤ 10 * b + 2 by omega)) (Nat.zero_le _) SmL.nil))) (by decide)
  exact this.mono (by omega)
theorem rule_depth (r : Rule) : (ruleD r).depth = 1 := rfl
theorem SmL.rules {b : Nat} : ∀ {rs : List Rule}, (∀ r ∈ rs, Plain r.old ∧ Plain r.new ∧ r.old.length ≤ b ∧ r.new.length ≤ b) → SmL 1 ((20 * b + 77) * rs.length) (rs.map ruleD)
  | [], _ => SmL.nil
  | r :: rs, h => by
    obtain ⟨h1, h2, h3, h4⟩ := h r List.mem_cons_self
    have ih := SmL.rules (rs := rs) fun r hr => h r (List.mem_cons_of_mem _ hr)
    have := SmL.cons (Sm.rule h1 h2 h3 h4) (Nat.le_of_eq (rule_depth r)) ih
    refine ⟨this.sh, this.nd, this.cl, this.dp, Nat.le_trans this.len ?_⟩
    rw [List.length_cons, Nat.mul_add, Nat.mul_one]
    omega
theorem Sm.rules {b : Nat} {rs : List Rule} (h : ∀ r ∈ rs, Plain r.old ∧ Plain r.new ∧ r.old.length ≤ b ∧ r.new.length ≤ b) : Sm ((20 * b + 77) * rs.length + 2) (.list (rs.map ruleD)) :=
  Sm.list (SmL.rules h) (by decide)
theorem dp_rule {K : PySem.W.Frag} {H : Hp} {v : V} {r : Rule} (h : RuleAt H v r) : Dp K H v (ruleD r) := by
  obtain ⟨t, rfl, e⟩ := h
  exact .tup (SqT.of e) (.cons (.str _) (.cons (.str _) (.cons (.str _) .nil)))
theorem dp_rules {K : PySem.W.Frag} {H : Hp} : ∀ {xs : List V} {rs : List Rule}, RulesAt H xs rs → DpAll K H xs (rs.map ruleD)
  | _, _, .nil => .nil
  | _, _, .cons a b => .cons (dp_rule a) (dp_rules b)
theorem dp_list {K : PySem.W.Frag} {H : Hp} {D : Addr} {xs : List V} {rs : List Rule} (h : SqL K H D xs) (r : RulesAt H xs rs) : Dp K H (.ref D) (.list (rs.map ruleD)) := .lst h (dp_rules r)
theorem eqv_rule (a b : Rule) : PyData.eqv (ruleD a) (ruleD b) = true ↔ a = b := by
  obtain ⟨f, o, n⟩ := a
  obtain ⟨f', o', n'⟩ := b
  show ((kd f == kd f') && ((o == o') && ((n == n') && true))) = true ↔ _
  rw [Bool.and_eq_true, Bool.and_eq_true, Bool.and_eq_true]
  constructor
  · rintro ⟨h1, h2, h3, _⟩
    have e1 : kd f = kd f' := eq_of_beq h1
    have e2 : f = f' := by
      cases f <;> cases f' <;> first | rfl | exact absurd e1 kd_ne | exact absurd e1.symm kd_ne
    rw [e2, eq_of_beq h2, eq_of_beq h3]
  · intro h
    cases h
    simp
theorem eqv_rules : ∀ (a b : List Rule), PyData.eqvAll (a.map ruleD) (b.map ruleD) = true ↔ a = b
  | [], [] => by simp [PyData.eqvAll]
  | [], _ :: _ => by simp [PyData.eqvAll]
  | _ :: _, [] => by simp [PyData.eqvAll]
  | x :: a, y :: b => by
    show (PyData.eqv (ruleD x) (ruleD y) && PyData.eqvAll (a.map ruleD) (b.map ruleD)) = true ↔ _
    rw [Bool.and_eq_true, eqv_rule, eqv_rules a b]
    simp
end FL
namespace FL
open PySem PySem.Spec PyProof.Rows L2
def spHid (K : PySem.W.Frag) : Sp := fun vs H Q _ => ∃ (p : Addr) (z : Str) (D0 : Addr) (xs : List V) (rs : List Rule) (b : Nat), vs = [.ref p, .str z, .ref D0] ∧ PotAt H p ∧ Abc z ∧
  SqL K H D0 xs ∧ RulesAt H xs rs ∧ rs.length ≤ 50 ∧ b ≤ 20 ∧ 2 ≤ b ∧ (∀ r ∈ rs, RuleOk z b r) ∧
  ∀ (D : Addr) (ys : List V) (ts : List Rule) (H' : Hp), H D = none → H' D = some (.lst ys) → RulesAt H' ys ts → ts.length ≤ rs.length + 2 →
    (∀ r ∈ ts, RuleOk z (b + 2) r) → PotAt H' p → But p H H' → Q (.ref D) H'
theorem paired_mem {α β : Type} {R : α → β → Prop} : ∀ {xs : List α} {ys : List β} {x : α}, Paired R xs ys → x ∈ xs → ∃ y, y ∈ ys ∧ R x y
  | _, _, _, .nil, h => nomatch h
  | _, _, x, .cons a r, h => by
    rcases List.mem_cons.mp h with rfl | h
    · exact ⟨_, List.mem_cons_self, a⟩
    · obtain ⟨y, h1, h2⟩ := paired_mem r h
      exact ⟨y, List.mem_cons_of_mem _ h1, h2⟩
theorem ok_plain {z : Str} {b : Nat} {rs : List Rule} (h : Abc z) (ok : ∀ r ∈ rs, RuleOk z b r) : ∀ r ∈ rs, Plain r.old ∧ Plain r.new ∧ r.old.length ≤ b ∧ r.new.length ≤ b :=
  fun r hr => ⟨h.plain (ok r hr).o1, h.plain (ok r hr).n1, (ok r hr).o2, (ok r hr).n2⟩
end FL
namespace FL
open PySem PySem.Spec PyProof.Rows L2
theorem walk_zipS {x y : Str} : Walk (ItS x y) (min x.cps.size y.cps.size) (fun _ => True)
    (fun i H v H' => ∃ T a b, v = .ref T ∧ H T = none ∧ H' = upd H T (.tup [.str ⟨#[a]⟩, .str ⟨#[b]⟩]) ∧ x.cps[i]? = some a ∧ y.cps[i]? = some b) :=
  ⟨fun _ _ h _ => h, fun _ _ => rfl, fun _ _ _ _ _ _ h => h⟩
def signChars : Str := Str.ofString "abcdefghijklmnopqrstuvwxyz0123456789.-=>|"
def rise (l : List Nat) : List Bool := List.zipWith (fun a b => decide ([a] < [b])) l l.tail
def signsB : V → Bool
  | .str z => decide (2 ≤ z.length) && (decide (z.length ≤ 4) && ((rise z.cps.toList).all id && lineB signChars (.str z)))
  | _ => false
def spSigns : Sp := fun vs H Q _ => ∃ (v : V) (n : String), vs = [v] ∧ Any H v n ∧ Short v ∧ ∀ H', Same H H' → Q (.bl (signsB v)) H'
theorem cut_tail (z : Str) : (cutS z (some 1) none).cps.toList = z.cps.toList.tail := by
  show ((z.cps.toList.drop (HT.sIx z.length 0 (some ((1 : Nat) : Int)))).take (HT.sIx z.length z.length none - HT.sIx z.length 0 (some ((1 : Nat) : Int)))).toArray.toList = _
  rw [HT.sIx_nat, HT.sIx_none]
  show (List.drop (min 1 z.length) z.cps.toList).take (z.length - min 1 z.length) = _
  have hl := str_len z
  cases h : z.cps.toList with
  | nil => simp
  | cons a l =>
    rw [h] at hl
    have : z.length = l.length + 1 := by simpa using hl
    have m : min 1 z.length = 1 := by omega
    rw [m, List.drop_succ_cons, List.drop_zero, List.tail_cons, List.take_of_length_le (by omega)]
theorem rise_get {l : List Nat} {i a b : Nat} (h1 : l[i]? = some a) (h2 : l.tail[i]? = some b) : (rise l)[i]? = some (decide ([a] < [b])) := by
  unfold rise
  rw [List.getElem?_zipWith, h1, h2]
theorem take_snoc {α : Type} {l : List α} {i : Nat} {x : α} (h : l[i]? = some x) : l.take (i + 1) = l.take i ++ [x] := by
  obtain ⟨hi, e⟩ := List.getElem?_eq_some_iff.mp h
  rw [List.take_succ_eq_append_getElem hi, e]
end FL
namespace FL
open PySem PySem.Spec PyProof.Rows L2
theorem takeWhile_len {α : Type} {p : α → Bool} : ∀ {l : List α}, (∀ a ∈ l, p a = true) → (l.takeWhile p).length = l.length
  | [], _ => rfl
  | a :: l, h => by
    rw [List.takeWhile_cons, if_pos (h a List.mem_cons_self), List.length_cons, List.length_cons, takeWhile_len fun b hb => h b (List.mem_cons_of_mem _ hb)]
theorem over_line {z y : Str} (h : Over z y) : lineB z (.str y) = true := by
  show decide (Txt.stripChars y z = Str.ofString "") = true
  apply decide_eq_true
  unfold Txt.stripChars
  rw [stripBy_eq]
  have e1 : stripLo z.cps.contains true y = y.cps.size := by
    unfold stripLo
    rw [if_pos rfl, takeWhile_len, Array.length_toList]
    intro c hc
    have := h c hc
    rw [Array.contains_iff_mem]
    exact Array.mem_def.mpr this
  rw [e1]
  apply Str_ext
  show (y.cps.extract y.cps.size _).toList = (Str.ofString "").cps.toList
  rw [show (Str.ofString "").cps.toList = [] by decide +kernel]
  have : (y.cps.extract y.cps.size (stripHi z.cps.contains true y y.cps.size)).size = 0 := by
    rw [Array.size_extract]
    omega
  exact List.length_eq_zero_iff.mp (by rw [Array.length_toList]; exact this)
theorem pool_line : ∀ c ∈ poolCodes, c ∈ signChars.cps.toList := by decide +kernel
theorem rise_all : ∀ {l : List Nat}, l.Pairwise (· < ·) → (rise l).all id = true
  | [], _ => rfl
  | [a], _ => rfl
  | a :: b :: r, h => by
    cases h with
    | cons h1 h2 =>
      have ih := rise_all h2
      show (decide ([a] < [b]) && (rise (b :: r)).all id) = true
      rw [ih, decide_eq_true]
      · rfl
      · exact List.Lex.rel (h1 b List.mem_cons_self)
theorem abc_signs {z : Str} (h : Abc z) : signsB (.str z) = true := by
  show (decide (2 ≤ z.length) && (decide (z.length ≤ 4) && ((rise z.cps.toList).all id && lineB signChars (.str z)))) = true
  rw [decide_eq_true h.lo, decide_eq_true h.hi, rise_all h.up, over_line fun c hc => pool_line c (h.inn c hc)]
  rfl
/-! checks that raise nothing -/
def spCheckSigns : Sp := fun vs H Q _ => ∃ z : Str, vs = [.str z] ∧ Abc z ∧ ∀ H', Same H H' → Q .non H'
def spCheckLine : Sp := fun vs H Q _ => ∃ (z y : Str), vs = [.str z, .str y] ∧ Over z y ∧ y.length ≤ sizeLine ∧ Q .non H
end FL
namespace FL
open PySem PySem.Spec PyProof.Rows L2
def spIsList : Sp := fun vs H Q _ => ∃ (v : V) (n : String), vs = [v] ∧ Any H v n ∧ ∀ H', Same H H' → Q (.bl (n == "list" || n == "tuple")) H'
def spRuleLine : Sp := fun vs H Q _ => ∃ (z y : Str), vs = [.str z, .str y] ∧ Over z y ∧ y.length ≤ 40 ∧ Q (.bl true) H
def spIsRule : Sp := fun vs H Q _ => ∃ (z : Str) (v : V) (r : Rule), vs = [.str z, v] ∧ RuleAt H v r ∧ RuleOk z 40 r ∧ ∀ H', Same H H' → Q (.bl true) H'
theorem kitL_all : (kinds.all fun n => decide (kitB n "list" = some (n == "list")) && decide (kitB n "tuple" = some (n == "tuple"))) = true := by decide +kernel
theorem kit_lt {K : PySem.W.Frag} {n : String} (h : n ∈ kinds) : PySem.W.kitAny K (.type n) [.type "list", .type "tuple"] = some (n == "list" || n == "tuple") := by
  have h' := List.all_eq_true.mp kitL_all n h
  rw [Bool.and_eq_true] at h'
  have h1 : kitB n "list" = some (n == "list") := of_decide_eq_true h'.1
  have h2 : kitB n "tuple" = some (n == "tuple") := of_decide_eq_true h'.2
  refine kitAny_cons (kit_ty h1) (fun e => ?_) (fun e => by rw [e]; rfl)
  refine kitAny_cons (kit_ty h2) (fun e2 => ?_) (fun e2 => by rw [e2, Bool.or_true])
  rw [e, e2]
  exact kitAny_nil
end FL
namespace PySem
open Builtin
theorem fl_enum_new {v : Value} {o : Obj} {G : Heap → Prop} (B : Begins v o G) :
    Meets (Builtin.«enumerate.__new__» ⟨[.type "enumerate", v], []⟩) (fun _ R s => G s.heap ∧
      R (.ok (.ret (.ref (s.heap.push o).objs.size)))
        { s with heap := (s.heap.push o).push { cls := .type "enumerate", data := .fields #[.none, .bool false, .ref s.heap.objs.size, rawInt 0, .none, .none] } }) := by
  refine .of_wp ?_
  rintro prog w A R ⟨hp, g, d, tk, os⟩ ⟨h1, h⟩
  have known := sub_enumerate
  have it0 : ∀ {A' : Around} {E : Value → Shared → Prop} {Q : Value → Shared → Prop}, Q (.ref hp.objs.size) ⟨hp.push o, g, d, tk, os⟩ →
      wpAny (model prog w) A' (pyIter v) Q E ⟨hp, g, d, tk, os⟩ := fun q => B.iter prog w _ _ ⟨hp, g, d, tk, os⟩ _ h1 q
  wp_walk using it0
  refine wpAny_stack_any fun st => wpAny_pure ?_
  split
  · rename_i c _ _ _ _ _
    cases (c == Value.type "enumerate") <;>
      (wp_walk using it0
       exact ⟨_, rfl, h⟩)
  · wp_walk using it0
    exact ⟨_, rfl, h⟩
theorem fl_enum {prog : Program} {w : World} {A : Around} {E : Value → Shared → Prop} {s : Shared} {v : Value} {o : Obj} {G : Heap → Prop} {Q : Value → Shared → Prop} (B : Begins v o G) (h1 : G s.heap)
    (h : ∀ h', IsEnum h' (s.heap.objs.size + 1) s.heap.objs.size 0 .none → h'.get? s.heap.objs.size = some o →
      (∀ b u, s.heap.get? b = some u → h'.get? b = some u) → Q (.ref (s.heap.objs.size + 1)) { s with heap := h' }) :
    wpAny (model prog w) A (call (.type "enumerate") [v]) Q E s := by
  refine callType_new F.called_enumerate (by decide) (F.typeCall_enumerate_1 _) (F.newCall_enumerate_1 _) (fun obj => F.args_object_init_2 obj _) F.entry_enumerate_new
    (fl_enum_new B) ⟨h1, ?_⟩
  have hz : (s.heap.push o).objs.size = s.heap.objs.size + 1 := Heap.size_push ..
  have he : IsEnum ((s.heap.push o).push { cls := .type "enumerate", data := .fields #[.none, .bool false, .ref s.heap.objs.size, rawInt 0, .none, .none] }) (s.heap.objs.size + 1) s.heap.objs.size 0 .none := by
    have q := Heap.get?_push_size (s.heap.push o) (o := { cls := .type "enumerate", data := .fields #[.none, .bool false, .ref s.heap.objs.size, rawInt 0, .none, .none] }) rfl
    rw [hz] at q
    exact q
  show _ ∧ _
  rw [hz]
  exact ⟨⟨_, he, rfl⟩, h _ he (Heap.get?_push_of_some _ (Heap.get?_push_size _ B.free)) fun b u e => Heap.get?_push_of_some _ (Heap.get?_push_of_some _ e)⟩
end PySem
namespace FL
open PySem PySem.Spec PyProof.Rows L2
/-! ### enumerate of a tuple -/
def IteT (K : PySem.W.Frag) (a : Addr) (xs : List V) : It :=
  ⟨fun i H => SqT K H a xs ∧ i < xs.length,
   fun i H v H' => ∃ T x, v = .ref T ∧ H T = none ∧ H' = upd H T (.tup [.int (i : Nat), x]) ∧ xs[i]? = some x,
   fun i H => SqT K H a xs ∧ i = xs.length⟩
theorem sqT_inj {X : Cx} {pins : List (Addr × Obj)} {σ : L2.St} {H : Hp} {s : Shared} (I : L2.Inv X pins σ H s) {a : Addr} {xs : List V} (h : SqT X.K H a xs) :
    ∃ its : List Value, Vals xs its ∧ s.heap.IsTuple a its.toArray := by
  obtain ⟨its, r, e, _⟩ := I.tuple h
  exact ⟨its, r, e⟩
theorem turn_enumT {P : Program} {w : World} {K : PySem.W.Frag} {elts : List Expr} {kk : Nat} {tpos : Pos} (a e it : Addr) (xs : List V) :
    Turn P w K (.Tuple elts kk tpos) (IteT K a xs) [e, it] e (fun i h => (∃ old, IsEnum h e it ((i : Nat) : Int) old) ∧ h.IsTupleIter it a i ∧ e ≠ it ∧ a ≠ it ∧ a ≠ e) where
  mem := by simp
  obj := by
    rintro i h ⟨⟨old, he⟩, ⟨o, ho, hd⟩, _⟩ b hb
    have e' : b = e ∨ b = it := by simpa using hb
    rcases e' with rfl | rfl
    · exact ⟨_, he, fun v q => nomatch q⟩
    · exact ⟨_, ho, fun v q => by simp_all⟩
  keep := by
    rintro i h h' ⟨⟨old, he⟩, hi, n1, n2⟩ k
    exact ⟨⟨old, k e (by simp) _ he⟩, hi.at fun o q => k it (by simp) o q, n1, n2⟩
  item := by
    intro X hP hw hK hc i pins s σ H E I hf st hg
    subst hP hw hK
    obtain ⟨⟨old, he⟩, hit, hne, hna, hnb⟩ := st
    obtain ⟨hq, hlt⟩ := hg
    obtain ⟨its, rv, p⟩ := sqT_inj I hq
    have hl := rv.length
    have hh : X.A.in1.handled = none := I.ok.hd hc
    have el := Heap.lt_size he
    have il : it < s.heap.objs.size := by
      obtain ⟨_, q, _⟩ := hit
      exact Heap.lt_size q
    refine wpAny_pyNext_enum_itemD (Draws.tuple hh it a hna its.toArray) he ⟨hit, p⟩ (by simp; omega) hne (by simp [hne, Ne.symm hnb]) ?_
    rintro u h' tk hu ho ⟨hit', _⟩ hT sz kp
    have hx : xs[i]? = some xs[i] := List.getElem?_eq_getElem hlt
    obtain ⟨u', hu', ru⟩ := rv.get hx
    have : u' = u := by
      have hu2 : its[i]? = some u := by simpa using hu
      rw [hu2] at hu'
      exact (Option.some.inj hu').symm
    subst this
    refine ⟨_, rfl, wpAny_letOwnedTupleGo_enum (s := { s with heap := h', toks := tk + 1 }) ho fun h2 he2 sb => ?_⟩
    have T2 : h2.get? s.heap.objs.size = some { cls := .type "tuple", data := .seq #[.int i tk, u'] } := (sb.2 _ (Nat.ne_of_gt el)).trans hT
    have ok : ObjOk X.prog X.w (upd H s.heap.objs.size (.tup [.int (i : Nat), xs[i]])) h2 s.heap.objs.size (.tup [.int (i : Nat), xs[i]]) :=
      ⟨(by show 2 ≤ sizeLine; decide), [_, _], .cons ⟨tk, rfl⟩ (.cons ru .nil), ⟨_, T2, rfl, _, rfl⟩⟩
    have J := I.turnedNew (t' := tk + 1) (ch := [e, it]) (h' := h2) (fun b ob nb q => (sb.2 b fun z => nb (by simp [z])).trans
      (kp b ob (fun z => nb (by simp [z])) (fun z => nb (by simp [z])) q)) hf (Nat.le_refl _) ok
    refine ⟨.ref s.heap.objs.size, _, J, rfl, ⟨_, xs[i], rfl, I.hok.fresh (Nat.le_refl _), rfl, hx⟩, ⟨⟨u', ?_⟩, hit'.at fun o q => (sb.2 it (Ne.symm hne)).trans q, hne, hna, hnb⟩, fun b hb => ?_⟩
    · rw [show ((i + 1 : Nat) : Int) = (i : Int) + 1 by omega]
      exact he2
    · have lb : b < s.heap.objs.size := by
        have e' : b = e ∨ b = it := by simpa using hb
        rcases e' with rfl | rfl
        · exact el
        · exact il
      rw [upd_ne (Nat.ne_of_lt lb)]
      exact (hf b hb).1
  done := by
    intro X hP hw hK hc i pins s σ H E I hf st hg
    subst hP hw hK
    obtain ⟨⟨old, he⟩, hit, hne, hna, hnb⟩ := st
    obtain ⟨hq, rfl⟩ := hg
    obtain ⟨its, rv, p⟩ := sqT_inj I hq
    have hl := rv.length
    have hh : X.A.in1.handled = none := I.ok.hd hc
    have ez : its.toArray.size = xs.length := by simp [hl]
    obtain ⟨f0, f1, f2, f3, f4, f5⟩ := hf it (by simp)
    refine wpAny_pyNext_enum_endD (Draws.tuple hh it a hna its.toArray) he (by rw [ez]; exact ⟨hit, p⟩) fun h' eb => ?_
    exact ⟨rfl, I.turned (t' := s.toks) (fun b o nb q => eb b o nb q) f0 f1 f3 f4 f5⟩
  self := fun A i s Q E st h => let ⟨⟨_, he⟩, _⟩ := st; wpAny_pyIter_enum he h
def iEnumT (K : PySem.W.Frag) (ta : TA) : TI := fun σ H R => ta σ H fun vs H1 => ∃ a xs, vs = [.ref a] ∧ SqT K H1 a xs ∧ R (IteT K a xs) H1
theorem pi_enumT {X : Cx} {e : Expr} {ta : TA} {p pos tpos : Pos} {elts : List Expr} {kk : Nat} (hg : Gl X "enumerate") (hm : X.mg "enumerate" = none) (ha : PA X [e] ta)
    (hs : starEach [e] X.env = [(false, eval e X.env)] := by rfl) :
    PI X (.Tuple elts kk tpos) (.Call (.Name "enumerate" p) [e] [] pos) (iEnumT X.K ta) := by
  constructor
  intro pins s σ H R I h
  refine Call_ (ld_blt I hg hm boot_enumerate (PyProof.Rows.callWith_type1 (thn (ha.run pos pins s σ H _ I h) fun us s1 hu => ?_) hs rfl))
  obtain ⟨vs, H1, J, r, a, xs, rfl, hq, q⟩ := hu
  obtain ⟨u, rfl, ru⟩ := vals1 r
  cases ru
  obtain ⟨its, rv, pt⟩ := sqT_inj J hq
  refine fl_enum (begins_tuple a its.toArray) pt ?_
  intro h' he hit kp
  refine wpAny_pyIter_enum he ?_
  have J2 : Inv X pins σ H1 { s1 with heap := h' } := J.kept (t' := s1.toks) kp
  have la : a < s1.heap.objs.size := by
    obtain ⟨_, q, _⟩ := pt
    exact Heap.lt_size q
  refine ⟨_, _, _, IteT X.K a xs, H1, rfl, J2, turn_enumT a (s1.heap.objs.size + 1) s1.heap.objs.size xs,
    ⟨⟨.none, he⟩, ⟨_, hit, rfl, rfl⟩, Nat.succ_ne_self _, Nat.ne_of_lt la, Nat.ne_of_lt (Nat.lt_succ_of_lt la)⟩, fun b hb => ?_, q⟩
  have e' : b = s1.heap.objs.size + 1 ∨ b = s1.heap.objs.size := by simpa using hb
  have hle : s1.heap.objs.size ≤ b := by
    rcases e' with z | z <;> rw [z]
    · exact Nat.le_add_right _ _
    · exact Nat.le_refl _
  exact J.fpOk hle (J.hok.fresh hle)
/-- either, by one rule -/
def IteS (K : PySem.W.Frag) (a : Addr) (xs : List V) (t : Bool) : It := if t then IteT K a xs else Ite K a
def SqX (K : PySem.W.Frag) (H : Hp) (a : Addr) (xs : List V) (t : Bool) : Prop := if t = true then SqT K H a xs else SqL K H a xs
def iEnumX (K : PySem.W.Frag) (t : Bool) (ta : TA) : TI := fun σ H R => ta σ H fun vs H1 => ∃ a xs, vs = [.ref a] ∧ SqX K H1 a xs t ∧ R (IteS K a xs t) H1
theorem pi_enumX {X : Cx} {e : Expr} {ta : TA} {p pos tpos : Pos} {elts : List Expr} {kk : Nat} (t : Bool) (hg : Gl X "enumerate") (hm : X.mg "enumerate" = none) (ha : PA X [e] ta)
    (hs : starEach [e] X.env = [(false, eval e X.env)] := by rfl) :
    PI X (.Tuple elts kk tpos) (.Call (.Name "enumerate" p) [e] [] pos) (iEnumX X.K t ta) := by
  cases t with
  | true => exact pi_enumT hg hm ha hs
  | false => exact pi_enum hg hm ha hs
theorem SqX.kept {K : PySem.W.Frag} {H H' : Hp} {a : Addr} {xs : List V} {t : Bool} (h : SqX K H a xs t) (s : ∀ o, H a = some o → H' a = some o) : SqX K H' a xs t := by
  cases t with
  | true =>
    have h' : SqT K H a xs := h
    show SqT K H' a xs
    rcases h' with (h | ⟨o, h⟩) | h
    · exact .inl (.inl (s _ h))
    · exact .inl (.inr ⟨o, s _ h⟩)
    · exact .inr h
  | false =>
    have h' : SqL K H a xs := h
    show SqL K H' a xs
    rcases h' with (h | ⟨o, h⟩) | h
    · exact .inl (.inl (s _ h))
    · exact .inl (.inr ⟨o, s _ h⟩)
    · exact .inr h
theorem walk_enumT {K : PySem.W.Frag} {a : Addr} {xs : List V} : Walk (IteT K a xs) xs.length (fun H => SqT K H a xs) (YPair (fun i => some (.int (i : Nat))) (fun i => xs[i]?)) :=
  ⟨fun i H hi h => ⟨h, hi⟩, fun H h => ⟨h, rfl⟩, fun i H x H' hi h y => by
    obtain ⟨T, v, rfl, hT, rfl, e⟩ := y
    exact ⟨T, _, _, rfl, hT, rfl, rfl, e⟩⟩
theorem walk_enumX {K : PySem.W.Frag} {a : Addr} {xs : List V} {t : Bool} : Walk (IteS K a xs t) xs.length (fun H => SqX K H a xs t) (YPair (fun i => some (.int (i : Nat))) (fun i => xs[i]?)) := by
  cases t with
  | true => exact walk_enumT
  | false => exact walk_enum
/-- rules as they are passed: a list or a tuple, tracked -/
def RuArg (H : Hp) (v : V) (rs : List Rule) : Prop := ∃ (a : Addr) (xs : List V) (t : Bool), v = .ref a ∧ H a = some (if t then .tup xs else .lst xs) ∧ RulesAt H xs rs
theorem RuArg.any {H : Hp} {v : V} {rs : List Rule} (h : RuArg H v rs) : ∃ n, Any H v n ∧ (n == "list" || n == "tuple") = true := by
  obtain ⟨a, xs, t, rfl, e, _⟩ := h
  cases t with
  | true => exact ⟨"tuple", .tup e, rfl⟩
  | false => exact ⟨"list", .lst e, rfl⟩
theorem sqX_of {K : PySem.W.Frag} {H : Hp} {a : Addr} {xs : List V} {t : Bool} (e : H a = some (if t then .tup xs else .lst xs)) : SqX K H a xs t := by
  cases t with
  | true => exact SqT.of e
  | false => exact SqL.of e
theorem Same.rules {H H' : Hp} {xs : List V} {rs : List Rule} (s : Same H H') (h : RulesAt H xs rs) : RulesAt H' xs rs := RulesAt.imp h fun t a e => s t _ e
def spCheckRules : Sp := fun vs H Q _ => ∃ (z : Str) (v : V) (rs : List Rule), vs = [.str z, v] ∧ RuArg H v rs ∧ (∀ r ∈ rs, RuleOk z 40 r) ∧ ∀ H', Same H H' → Q .non H'
end FL
namespace FL
open PySem PySem.Spec PyProof.Rows L2
def ItX (K : PySem.W.Frag) (a : Addr) (t : Bool) : It := if t then Itt K a else Itl K a
def iSeqX (K : PySem.W.Frag) (t : Bool) (tl : TE) : TI := fun σ H R => tl σ H fun x H1 => ∃ a, x = .ref a ∧ (∃ xs, SqX K H1 a xs t) ∧ R (ItX K a t) H1
theorem pi_seqX {X : Cx} {tg l : Expr} {tl : TE} (t : Bool) (hl : PE X l tl) : PI X tg l (iSeqX X.K t tl) := by
  cases t with
  | true => exact pi_tup hl
  | false => exact pi_list hl
theorem walk_seqX {K : PySem.W.Frag} {a : Addr} {xs : List V} {t : Bool} : Walk (ItX K a t) xs.length (fun H => SqX K H a xs t) (YAt xs) := by
  cases t with
  | true => exact walk_tup
  | false => exact walk_list
theorem lenX {K : PySem.W.Frag} {H : Hp} {a : Addr} {xs : List V} {t : Bool} (h : SqX K H a xs t) : LenV K (.ref a) H xs.length := by
  cases t with
  | true => exact .inr ⟨_, h, rfl⟩
  | false => exact .inl ⟨_, h, rfl⟩
/-! ### a relay as it stands -/
def flds (z : Str) (ra ia : Addr) : List (Str × V) := putF "_index" (.ref ia) (putF "_rules" (.ref ra) (putF "_signs" (.str z) []))
theorem fn1 : ¬ ((Str.ofString "_rules") = Str.ofString "_index") := by decide +kernel
theorem fn2 : ¬ ((Str.ofString "_signs") = Str.ofString "_index") := by decide +kernel
theorem fn3 : ¬ ((Str.ofString "_signs") = Str.ofString "_rules") := by decide +kernel
theorem two_len (z : Str) (ra : Addr) : (putF "_rules" (.ref ra) (putF "_signs" (.str z) [])).length < 1000 := by
  show (if Str.ofString "_signs" = Str.ofString "_rules" then [(Str.ofString "_signs", V.ref ra)] else (Str.ofString "_signs", V.str z) :: putF (Str.ofString "_rules") (.ref ra) []).length < 1000
  rw [if_neg fn3]
  show 2 < 1000
  decide
theorem flds_signs (z : Str) (ra ia : Addr) : (flds z ra ia).lookup (Str.ofString "_signs") = some (.str z) := by
  unfold flds
  rw [lookup_putF, if_neg fn2, lookup_putF, if_neg fn3, lookup_putF, if_pos rfl]
theorem flds_rules (z : Str) (ra ia : Addr) : (flds z ra ia).lookup (Str.ofString "_rules") = some (.ref ra) := by
  unfold flds
  rw [lookup_putF, if_neg fn1, lookup_putF, if_pos rfl]
theorem flds_index (z : Str) (ra ia : Addr) : (flds z ra ia).lookup (Str.ofString "_index") = some (.ref ia) := by
  unfold flds
  rw [lookup_putF, if_pos rfl]
theorem flds_no (z : Str) (ra ia : Addr) {m : Str} (h1 : ¬ m = Str.ofString "_index") (h2 : ¬ m = Str.ofString "_rules") (h3 : ¬ m = Str.ofString "_signs") : (flds z ra ia).lookup m = none := by
  unfold flds
  rw [lookup_putF, if_neg h1, lookup_putF, if_neg h2, lookup_putF, if_neg h3]
  rfl
end FL
namespace FL
open PySem PySem.Spec PyProof.Rows L2
/-! ### the index of rules -/
def ky (fr : Bool) (old : Str) : List Key := [Sum.inr (kd fr), Sum.inr old]
theorem ky_inj {f f' : Bool} {o o' : Str} (h : ky f o = ky f' o') : f = f' ∧ o = o' := by
  unfold ky at h
  injection h with h1 h2
  injection h2 with h3 _
  have e1 : kd f = kd f' := Sum.inr.inj h1
  refine ⟨?_, Sum.inr.inj h3⟩
  cases f <;> cases f' <;> first | rfl | exact absurd e1 kd_ne | exact absurd e1.symm kd_ne
def Is (r : Rule) (fr : Bool) (old : Str) : Prop := r.fr = fr ∧ r.old = old
def IdxOk (H : Hp) (kvs : List (List Key × V)) (rs : List Rule) : Prop := ∀ (fr : Bool) (old : Str),
  (valV kvs (ky fr old) = none ∧ ∀ r ∈ rs, ¬ Is r fr old) ∨
  (∃ (i : Nat) (t : Addr) (new : Str), valV kvs (ky fr old) = some (.ref t) ∧ H t = some (.tup [.int (i : Nat), .str new]) ∧ rs[i]? = some ⟨fr, old, new⟩
    ∧ ∀ (j : Nat) (r : Rule), j < i → rs[j]? = some r → ¬ Is r fr old)
theorem IdxOk.imp {H H' : Hp} {kvs : List (List Key × V)} {rs : List Rule} (h : IdxOk H kvs rs) (s : ∀ t a, H t = some (.tup a) → H' t = some (.tup a)) : IdxOk H' kvs rs := fun fr old => by
  rcases h fr old with h | ⟨i, t, new, h1, h2, h3⟩
  · exact .inl h
  · exact .inr ⟨i, t, new, h1, s _ _ h2, h3⟩
theorem IdxOk.nil {H : Hp} : IdxOk H [] [] := fun fr old => .inl ⟨rfl, fun _ h => nomatch h⟩
theorem get_snoc_lt {α : Type} {l : List α} {x : α} {i : Nat} {y : α} (h : l[i]? = some y) : (l ++ [x])[i]? = some y := by
  rw [List.getElem?_append_left (List.getElem?_eq_some_iff.mp h).1]
  exact h
theorem IdxOk.skip {H : Hp} {kvs : List (List Key × V)} {rs : List Rule} {r : Rule} (h : IdxOk H kvs rs) (hv : valV kvs (ky r.fr r.old) ≠ none) : IdxOk H kvs (rs ++ [r]) := fun fr old => by
  rcases h fr old with ⟨h1, h2⟩ | ⟨i, t, new, h1, h2, h3, h4⟩
  · refine .inl ⟨h1, fun r' hr' => ?_⟩
    rcases List.mem_append.mp hr' with q | q
    · exact h2 r' q
    · rw [List.mem_singleton.mp q]
      rintro ⟨rfl, rfl⟩
      exact hv h1
  · refine .inr ⟨i, t, new, h1, h2, get_snoc_lt h3, fun j r' hj hr' => ?_⟩
    have hi := (List.getElem?_eq_some_iff.mp h3).1
    rw [List.getElem?_append_left (by omega)] at hr'
    exact h4 j r' hj hr'
theorem valV_put {kvs : List (List Key × V)} {k k' : List Key} {v : V} (h : valV kvs k = none) : valV (kvs ++ [(k, v)]) k' = if k = k' then some v else valV kvs k' := by
  induction kvs with
  | nil =>
    by_cases e : k = k'
    · rw [if_pos e]
      exact valV_pos e
    · rw [if_neg e]
      exact valV_neg e
  | cons p r ih =>
    have hp : ¬ p.1 = k := fun e => by
      rw [valV_pos e] at h
      cases h
    rw [valV_neg hp] at h
    show valV (p :: (r ++ [(k, v)])) k' = _
    by_cases e : p.1 = k'
    · rw [valV_pos e, valV_pos e, if_neg]
      intro q
      exact hp (e.trans q.symm)
    · rw [valV_neg e, valV_neg e, ih h]
theorem IdxOk.put {H H' : Hp} {kvs : List (List Key × V)} {rs : List Rule} {r : Rule} {t : Addr} (h : IdxOk H kvs rs) (hv : valV kvs (ky r.fr r.old) = none)
    (s : ∀ t a, H t = some (.tup a) → H' t = some (.tup a)) (ht : H' t = some (.tup [.int (rs.length : Nat), .str r.new])) : IdxOk H' (putK kvs (ky r.fr r.old) (.ref t)) (rs ++ [r]) := fun fr old => by
  rw [putK_new _ hv, valV_put hv]
  by_cases e : ky r.fr r.old = ky fr old
  · rw [if_pos e]
    obtain ⟨e1, e2⟩ := ky_inj e
    refine .inr ⟨rs.length, t, r.new, rfl, ht, ?_, fun j r' hj hr' => ?_⟩
    · rw [List.getElem?_append_right (Nat.le_refl _), Nat.sub_self]
      subst e1
      subst e2
      rfl
    · rw [List.getElem?_append_left hj] at hr'
      rcases h fr old with ⟨_, h2⟩ | ⟨i, t', new, h1, _⟩
      · exact h2 r' (List.mem_of_getElem? hr')
      · rw [← e, hv] at h1
        cases h1
  · rw [if_neg e]
    have := (h.imp s) fr old
    rcases this with ⟨h1, h2⟩ | ⟨i, t', new, h1, h2, h3, h4⟩
    · refine .inl ⟨h1, fun r' hr' => ?_⟩
      rcases List.mem_append.mp hr' with q | q
      · exact h2 r' q
      · rw [List.mem_singleton.mp q]
        rintro ⟨rfl, rfl⟩
        exact e rfl
    · refine .inr ⟨i, t', new, h1, h2, get_snoc_lt h3, fun j r' hj hr' => ?_⟩
      have hi := (List.getElem?_eq_some_iff.mp h3).1
      rw [List.getElem?_append_left (by omega)] at hr'
      exact h4 j r' hj hr'
theorem put_len {kvs : List (List Key × V)} {k : List Key} {v : V} (h : valV kvs k = none) : (putK kvs k v).length = kvs.length + 1 := by
  rw [putK_new _ h, List.length_append]
  rfl
def IdxAt (H : Hp) (d : Addr) (rs : List Rule) : Prop := ∃ kvs, H d = some (.dT kvs) ∧ kvs.length ≤ rs.length ∧ IdxOk H kvs rs
def spIndex : Sp := fun vs H Q _ => ∃ (v : V) (rs : List Rule), vs = [v] ∧ RuArg H v rs ∧ rs.length ≤ 10000 ∧
  ∀ (d : Addr) (H' : Hp), H d = none → IdxAt H' d rs → Same H H' → Q (.ref d) H'
end FL
namespace FL
open PySem PySem.Spec PyProof.Rows L2
/-! ### min of a list of pairs (int, text) -/
abbrev Pr := Int × Str
def pairD (q : Pr) : PyData := .tuple [.int q.1, .str q.2]
def PairAt (H : Hp) (v : V) (q : Pr) : Prop := ∃ t, v = .ref t ∧ H t = some (.tup [.int q.1, .str q.2])
theorem lt_pair {q r : Pr} (h : q.1 ≠ r.1) : PySem.W.dataLt (pairD q) (pairD r) = decide (q.1 < r.1) := by
  have e : PySem.W.dataLt (pairD q) (pairD r) = PySem.W.dataLt (.int q.1) (.int r.1) := by
    show PyProof.Rows.lexLt PyProof.Rows.itemOrd (Sum.inl q.1 :: [Sum.inr q.2.cps.toList]) (Sum.inl r.1 :: [Sum.inr r.2.cps.toList]) = PyProof.Rows.lexLt PyProof.Rows.itemOrd [Sum.inl q.1] [Sum.inl r.1]
    exact PySem.W.lex_atom (fun e => h (Sum.inl.inj e)) _ _
  rw [e, PySem.W.dataLt_int]
theorem minD_pair : ∀ (qs : List Pr) (q : Pr), ∃ r, r ∈ q :: qs ∧ PySem.W.minD (pairD q) (qs.map pairD) = pairD r ∧ ∀ p ∈ q :: qs, r.1 ≤ p.1
  | [], q => ⟨q, List.mem_cons_self, rfl, fun p hp => by rw [List.mem_singleton.mp hp]; exact Int.le_refl _⟩
  | p :: qs, q => by
    have step : PySem.W.minD (pairD q) ((p :: qs).map pairD) = PySem.W.minD (if PySem.W.dataLt (pairD p) (pairD q) then pairD p else pairD q) (qs.map pairD) := rfl
    rw [step]
    by_cases hb : PySem.W.dataLt (pairD p) (pairD q) = true
    · rw [if_pos hb]
      obtain ⟨r, hr, e, m⟩ := minD_pair qs p
      refine ⟨r, List.mem_cons_of_mem _ hr, e, fun x hx => ?_⟩
      rcases List.mem_cons.mp hx with rfl | hx
      · have hp := m p List.mem_cons_self
        by_cases hne : p.1 = x.1
        · omega
        · rw [lt_pair hne] at hb
          have := of_decide_eq_true hb
          omega
      · exact m x hx
    · rw [if_neg hb]
      obtain ⟨r, hr, e, m⟩ := minD_pair qs q
      refine ⟨r, ?_, e, fun x hx => ?_⟩
      · rcases List.mem_cons.mp hr with rfl | h
        · exact List.mem_cons_self
        · exact List.mem_cons_of_mem _ (List.mem_cons_of_mem _ h)
      · rcases List.mem_cons.mp hx with rfl | hx
        · exact m x List.mem_cons_self
        · rcases List.mem_cons.mp hx with rfl | hx
          · have hq := m q List.mem_cons_self
            by_cases hne : x.1 = q.1
            · omega
            · rw [lt_pair hne] at hb
              have : q.1 ≤ x.1 := by simpa using hb
              omega
          · exact m x (List.mem_cons_of_mem _ hx)
theorem dp_pairs {K : PySem.W.Frag} {H : Hp} : ∀ {xs : List V} {qs : List Pr}, Paired (PairAt H) xs qs → DpAll K H xs (qs.map pairD)
  | _, _, .nil => .nil
  | _, _, .cons ⟨t, e, h⟩ b => .cons (by rw [e]; exact .tup (SqT.of h) (.cons (.int _) (.cons (.str _) .nil))) (dp_pairs b)
theorem depth_pairs : ∀ qs : List Pr, PyData.depthAll (qs.map pairD) ≤ 1
  | [] => Nat.zero_le _
  | q :: qs => by
    show max (pairD q).depth (PyData.depthAll (qs.map pairD)) ≤ 1
    have := depth_pairs qs
    have e : (pairD q).depth = 1 := rfl
    omega
section
variable {X : Cx}
theorem call_minP (hc : X.calm = true) (hu : X.A.units + 64 < cLine) : CallR X (.builtin "min") (fun vs H Q => ∃ (a : Addr) (xs : List V) (qs : List Pr), vs = [.ref a] ∧ SqL X.K H a xs
    ∧ Paired (PairAt H) xs qs ∧ qs ≠ [] ∧ ∀ (v : V) (q : Pr), q ∈ qs → PairAt H v q → (∀ r ∈ qs, q.1 ≤ r.1) → Q v H) := by
  intro pins s σ H vs us Q I r h
  obtain ⟨a, xs, qs, rfl, hs, hp, ne, q⟩ := h
  obtain ⟨its, rv, hl, _⟩ := I.list hs
  rw [Vals.ref1 r]
  obtain ⟨as, rd⟩ := Dp.readsAll I (qs.map pairD) xs its (dp_pairs hp) rv
  cases qs with
  | nil => exact absurd rfl ne
  | cons p qs =>
    refine PySem.W.min_list_data (I.ok.hd hc) hl.isList (vs := its.toArray) (x := pairD p) (xs := qs.map pairD) (by simpa using rd) ?_ ?_ ?_
    · refine ⟨fun x hx y hy => ?_, fun x hx e => ?_⟩
      · have e1 : ∃ q, x = pairD q := by
          rcases List.mem_cons.mp hx with rfl | hx
          · exact ⟨p, rfl⟩
          · obtain ⟨q, _, e⟩ := List.mem_map.mp hx
            exact ⟨q, e.symm⟩
        have e2 : ∃ q, y = pairD q := by
          rcases List.mem_cons.mp hy with rfl | hy
          · exact ⟨p, rfl⟩
          · obtain ⟨q, _, e⟩ := List.mem_map.mp hy
            exact ⟨q, e.symm⟩
        obtain ⟨q1, rfl⟩ := e1
        obtain ⟨q2, rfl⟩ := e2
        rfl
      · subst e
        rcases List.mem_cons.mp hx with e | hx
        · cases e
        · obtain ⟨q, _, e⟩ := List.mem_map.mp hx
          cases e
    · have := depth_pairs (p :: qs)
      have e : PyData.depthAll (pairD p :: qs.map pairD) ≤ 1 := this
      omega
    · intro i v h' tk bs hv hrd kp
      obtain ⟨m, hm, em, hmin⟩ := minD_pair qs p
      rw [em] at hrd
      have hv' : its[i]? = some v := by simpa using hv
      have hi : i < its.length := (List.getElem?_eq_some_iff.mp hv').1
      have hxi : i < xs.length := by rw [rv.length]; exact hi
      obtain ⟨u, hu', ru⟩ := rv.get (List.getElem?_eq_getElem hxi)
      rw [hv'] at hu'
      obtain rfl : v = u := Option.some.inj hu'
      obtain ⟨qi, hqi, t, et, ht⟩ := L2.paired_get hp (List.getElem?_eq_getElem hxi)
      have I' : Inv X pins σ H { s with heap := h', toks := tk } := I.kept kp
      obtain ⟨as', rd2⟩ := Dp.reads I' (pairD qi) xs[i] v (by rw [et]; exact .tup (SqT.of ht) (.cons (.int _) (.cons (.str _) .nil))) ru
      have eq : pairD qi = pairD m := (Reads.unique rd2 _ _ hrd).1
      have e1 : qi = m := by
        have h1 : [PyData.int qi.1, PyData.str qi.2] = [PyData.int m.1, PyData.str m.2] := PyData.tuple.inj eq
        injection h1 with h2 h3
        injection h3 with h4 _
        exact Prod.ext (PyData.int.inj h2) (PyData.str.inj h4)
      subst e1
      exact ⟨xs[i], H, I', ru, q xs[i] qi hm ⟨t, et, ht⟩ hmin⟩
end
end FL
namespace FL
open PySem PySem.Spec PyProof.Rows L2
/-! ### the first rule that fits, by the index -/
theorem cut_pre_len (y : Str) (i : Nat) (h : i ≤ y.length) : (cutS y none (some (i : Int))).length = i := by
  rw [str_len]
  show ((y.cps.toList.drop (HT.sIx y.length 0 none)).take (HT.sIx y.length y.length (some (i : Int)) - HT.sIx y.length 0 none)).toArray.toList.length = i
  rw [HT.sIx_nat, HT.sIx_none]
  show ((y.cps.toList.drop 0).take (min i y.length - 0)).length = i
  rw [List.drop_zero, List.length_take, ← str_len]
  omega
theorem cut_le (y : Str) (i : Nat) : (cutS y none (some (i : Int))).length ≤ y.length := cutS_length y _ _
theorem turn_no : ∀ {rs : List Rule} {y : Str}, (∀ r ∈ rs, fits r y = false) → turn rs y = y
  | [], _, _ => rfl
  | r :: rs, y, h => by
    show (if fits r y = true then _ else turn rs y) = y
    rw [h r List.mem_cons_self, if_neg Bool.false_ne_true]
    exact turn_no fun r' hr' => h r' (List.mem_cons_of_mem _ hr')
theorem turn_at : ∀ {rs : List Rule} {y : Str} {i : Nat} {r : Rule}, rs[i]? = some r → fits r y = true → (∀ j r', j < i → rs[j]? = some r' → fits r' y = false) → turn rs y = turnR r y
  | [], _, _, _, h, _, _ => by simp at h
  | r0 :: rs, y, 0, r, h, hf, _ => by
    obtain rfl : r0 = r := by simpa using h
    show (if fits r0 y = true then _ else _) = _
    rw [if_pos hf]
  | r0 :: rs, y, i + 1, r, h, hf, hn => by
    show (if fits r0 y = true then _ else turn rs y) = _
    rw [hn 0 r0 (Nat.succ_pos _) rfl, if_neg Bool.false_ne_true]
    exact turn_at (i := i) (by simpa using h) hf fun j r' hj hr' => hn (j + 1) r' (by omega) (by simpa using hr')
def Ent (rs : List Rule) (y : Str) (q : Pr) : Prop := ∃ (i : Nat) (r : Rule), q.1 = (i : Int) ∧ rs[i]? = some r ∧ fits r y = true ∧ q.2 = turnR r y
/-- the rule at i is the first one with its key -/
def FirstKey (rs : List Rule) (i : Nat) (r : Rule) : Prop := rs[i]? = some r ∧ ∀ (j : Nat) (r' : Rule), j < i → rs[j]? = some r' → ¬ Is r' r.fr r.old
structure Found (rs : List Rule) (y : Str) (qs : List Pr) (n : Nat) : Prop where
  snd : ∀ q ∈ qs, Ent rs y q
  whl : ∀ i r, FirstKey rs i r → r.fr = false → r.old = y → ∃ q ∈ qs, q.1 = (i : Int)
  frt : ∀ i r, FirstKey rs i r → r.fr = true → fits r y = true → r.old.length < n → ∃ q ∈ qs, q.1 = (i : Int)
theorem fits_same {r r' : Rule} {y : Str} (h : Is r' r.fr r.old) : fits r' y = fits r y := by
  obtain ⟨f, o, n⟩ := r
  obtain ⟨f', o', n'⟩ := r'
  obtain ⟨h1, h2⟩ := h
  dsimp only at h1 h2
  subst h1
  subst h2
  rfl
theorem first_fit {rs : List Rule} {y : Str} {i : Nat} {r : Rule} (h : rs[i]? = some r) (hf : fits r y = true) (hn : ∀ j r', j < i → rs[j]? = some r' → fits r' y = false) : FirstKey rs i r :=
  ⟨h, fun j r' hj hr' his => by
    have := hn j r' hj hr'
    rw [fits_same his, hf] at this
    cases this⟩
theorem exists_first {rs : List Rule} {y : Str} : (∀ r ∈ rs, fits r y = false) ∨ ∃ (i : Nat) (r : Rule), rs[i]? = some r ∧ fits r y = true ∧ ∀ (j : Nat) (r' : Rule), j < i → rs[j]? = some r' → fits r' y = false := by
  induction rs with
  | nil => exact .inl fun _ h => nomatch h
  | cons r rs ih =>
    cases hf : fits r y with
    | true => exact .inr ⟨0, r, rfl, hf, fun j _ hj => absurd hj (Nat.not_lt_zero j)⟩
    | false =>
      rcases ih with h | ⟨i, r', h1, h2, h3⟩
      · refine .inl fun r' hr' => ?_
        rcases List.mem_cons.mp hr' with rfl | h'
        · exact hf
        · exact h r' h'
      · refine .inr ⟨i + 1, r', by simpa using h1, h2, fun j r2 hj hr2 => ?_⟩
        cases j with
        | zero =>
          obtain rfl : r = r2 := by simpa using hr2
          exact hf
        | succ j => exact h3 j r2 (by omega) (by simpa using hr2)
theorem fits_short {r : Rule} {y : Str} (hf : fits r y = true) (h : r.fr = true) : r.old.length ≤ y.length ∧ cutS y none (some (r.old.length : Int)) = r.old := by
  obtain ⟨f, o, n⟩ := r
  dsimp only at h
  subst h
  have e : cutS y none (some (o.length : Int)) = o := of_decide_eq_true hf
  refine ⟨?_, e⟩
  have := cut_le y o.length
  rw [e] at this
  exact this
theorem Found.turn {rs : List Rule} {y : Str} {qs : List Pr} {n : Nat} (h : Found rs y qs n) (hn : ∀ r ∈ rs, r.fr = true → fits r y = true → r.old.length < n) :
    (qs = [] → turn rs y = y) ∧ ∀ q ∈ qs, (∀ p ∈ qs, q.1 ≤ p.1) → turn rs y = q.2 := by
  have has : ∀ (i : Nat) (r : Rule), rs[i]? = some r → fits r y = true → (∀ (j : Nat) (r' : Rule), j < i → rs[j]? = some r' → fits r' y = false) → ∃ q ∈ qs, q.1 = (i : Int) := by
    intro i r h1 h2 h3
    have fk := first_fit h1 h2 h3
    cases hfr : r.fr with
    | true => exact h.frt i r fk hfr h2 (hn r (List.mem_of_getElem? h1) hfr h2)
    | false =>
      refine h.whl i r fk hfr ?_
      obtain ⟨f, o, nw⟩ := r
      dsimp only at hfr
      subst hfr
      have e : y = o := of_decide_eq_true h2
      exact e.symm
  rcases exists_first (rs := rs) (y := y) with hno | ⟨i, r, h1, h2, h3⟩
  · refine ⟨fun _ => turn_no hno, fun q hq _ => ?_⟩
    obtain ⟨j, r, _, e2, e3, _⟩ := h.snd q hq
    rw [hno r (List.mem_of_getElem? e2)] at e3
    cases e3
  · obtain ⟨q0, m0, e0⟩ := has i r h1 h2 h3
    refine ⟨fun e => ?_, fun q hq hmin => ?_⟩
    · rw [e] at m0
      cases m0
    · obtain ⟨j, r', e1, e2, e3, e4⟩ := h.snd q hq
      have hle := hmin q0 m0
      have hij : ¬ j < i := fun hj => by
        rw [h3 j r' hj e2] at e3
        cases e3
      have : j = i := by omega
      subst this
      rw [h1] at e2
      obtain rfl : r = r' := Option.some.inj e2
      rw [turn_at h1 h2 h3, e4]
theorem Found.start {rs : List Rule} {y : Str} {H : Hp} {kvs : List (List Key × V)} (ix : IdxOk H kvs rs) :
    (valV kvs (ky false y) = none ∧ Found rs y [] 0) ∨ (∃ (i : Nat) (t : Addr) (new : Str), valV kvs (ky false y) = some (.ref t) ∧ H t = some (.tup [.int (i : Nat), .str new]) ∧ Found rs y [((i : Int), new)] 0) := by
  rcases ix false y with ⟨h1, h2⟩ | ⟨i, t, new, h1, h2, h3, h4⟩
  · refine .inl ⟨h1, (fun _ h => nomatch h), fun i r fk e1 e2 => ?_, fun _ _ _ _ _ h => absurd h (Nat.not_lt_zero _)⟩
    exact absurd ⟨e1, e2⟩ (h2 r (List.mem_of_getElem? fk.1))
  · refine .inr ⟨i, t, new, h1, h2, fun q hq => ?_, fun j r fk e1 e2 => ?_, fun _ _ _ _ _ h => absurd h (Nat.not_lt_zero _)⟩
    · rw [List.mem_singleton.mp hq]
      exact ⟨i, _, rfl, h3, decide_eq_true rfl, rfl⟩
    · refine ⟨_, List.mem_singleton.mpr rfl, ?_⟩
      have : ¬ j < i := fun hj => h4 j r hj fk.1 ⟨e1, e2⟩
      have : ¬ i < j := fun hj => fk.2 i _ hj h3 ⟨e1.symm, e2.symm⟩
      have : i = j := by omega
      rw [this]
theorem Found.next {rs : List Rule} {y : Str} {H : Hp} {kvs : List (List Key × V)} {qs : List Pr} {n : Nat} (ix : IdxOk H kvs rs) (h : Found rs y qs n) (hn : n ≤ y.length) :
    (valV kvs (ky true (cutS y none (some (n : Int)))) = none ∧ Found rs y qs (n + 1)) ∨ (∃ (i : Nat) (t : Addr) (new : Str), valV kvs (ky true (cutS y none (some (n : Int)))) = some (.ref t)
      ∧ H t = some (.tup [.int (i : Nat), .str new]) ∧ (∃ r ∈ rs, r.new = new) ∧ Found rs y (qs ++ [((i : Int), new ++ cutS y (some (n : Int)) none)]) (n + 1)) := by
  have hl := cut_pre_len y n hn
  have key : ∀ r : Rule, r.fr = true → fits r y = true → r.old.length < n + 1 → ¬ r.old.length < n → r.old = cutS y none (some (n : Int)) := fun r h1 h2 h3 h4 => by
    obtain ⟨_, e⟩ := fits_short h2 h1
    have : r.old.length = n := by omega
    rw [this] at e
    exact e.symm
  rcases ix true (cutS y none (some (n : Int))) with ⟨h1, h2⟩ | ⟨i, t, new, h1, h2, h3, h4⟩
  · refine .inl ⟨h1, h.snd, h.whl, fun i r fk e1 e2 e3 => ?_⟩
    by_cases hlt : r.old.length < n
    · exact h.frt i r fk e1 e2 hlt
    · exact absurd ⟨e1, key r e1 e2 e3 hlt⟩ (h2 r (List.mem_of_getElem? fk.1))
  · refine .inr ⟨i, t, new, h1, h2, ⟨_, List.mem_of_getElem? h3, rfl⟩, fun q hq => ?_, fun j r fk e1 e2 => ?_, fun j r fk e1 e2 e3 => ?_⟩
    · rcases List.mem_append.mp hq with q' | q'
      · exact h.snd q q'
      · rw [List.mem_singleton.mp q']
        refine ⟨i, _, rfl, h3, ?_, ?_⟩
        · show decide (cutS y none (some ((cutS y none (some (n : Int))).length : Int)) = cutS y none (some (n : Int))) = true
          rw [hl]
          exact decide_eq_true rfl
        · show new ++ cutS y (some (n : Int)) none = new ++ cutS y (some ((cutS y none (some (n : Int))).length : Int)) none
          rw [hl]
    · obtain ⟨q, hq, e⟩ := h.whl j r fk e1 e2
      exact ⟨q, List.mem_append_left _ hq, e⟩
    · by_cases hlt : r.old.length < n
      · obtain ⟨q, hq, e⟩ := h.frt j r fk e1 e2 hlt
        exact ⟨q, List.mem_append_left _ hq, e⟩
      · have eo := key r e1 e2 e3 hlt
        refine ⟨_, List.mem_append_right _ (List.mem_singleton.mpr rfl), ?_⟩
        have : ¬ j < i := fun hj => h4 j r hj fk.1 ⟨e1, eo⟩
        have : ¬ i < j := fun hj => fk.2 i _ hj h3 ⟨e1.symm, eo.symm⟩
        have : i = j := by omega
        rw [this]
def spOnce : Sp := fun vs H Q _ => ∃ (d : Addr) (y : Str) (rs : List Rule), vs = [.ref d, .str y] ∧ IdxAt H d rs ∧ y.length ≤ 100000 ∧ (∀ r ∈ rs, r.old.length ≤ 40 ∧ r.new.length ≤ 1000) ∧
  ∀ H', Same H H' → Q (.str (FL.turn rs y)) H'
end FL
namespace FL
open PySem PySem.Spec PyProof.Rows L2
def RelayAt (C : Addr) (H : Hp) (p : Addr) (z : Str) (rs : List Rule) : Prop := ∃ (dx ra ia : Addr) (xs : List V), H p = some (.ins C dx (flds z ra ia)) ∧ H ra = some (.lst xs) ∧ RulesAt H xs rs ∧ IdxAt H ia rs
theorem RelayAt.same {C : Addr} {H H' : Hp} {p : Addr} {z : Str} {rs : List Rule} (h : RelayAt C H p z rs) (s : Same H H') : RelayAt C H' p z rs := by
  obtain ⟨dx, ra, ia, xs, h1, h2, h3, kvs, h4, h5, h6⟩ := h
  exact ⟨dx, ra, ia, xs, s _ _ h1, s _ _ h2, RulesAt.imp h3 fun t a e => s t _ e, kvs, s _ _ h4, h5, h6.imp fun t a e => s t _ e⟩
/-- its list of rules at ra -/
def RelayR (C : Addr) (H : Hp) (p : Addr) (z : Str) (rs : List Rule) (ra : Addr) : Prop := ∃ (dx ia : Addr) (xs : List V), H p = some (.ins C dx (flds z ra ia)) ∧ H ra = some (.lst xs) ∧ RulesAt H xs rs ∧ IdxAt H ia rs
theorem RelayR.at_ {C : Addr} {H : Hp} {p : Addr} {z : Str} {rs : List Rule} {ra : Addr} (h : RelayR C H p z rs ra) : RelayAt C H p z rs := by
  obtain ⟨dx, ia, xs, h1, h2, h3, h4⟩ := h
  exact ⟨dx, ra, ia, xs, h1, h2, h3, h4⟩
/-- another list is changed -/
theorem RelayR.updL {C : Addr} {H : Hp} {p L : Addr} {z : Str} {rs : List Rule} {ra : Addr} {vs ws : List V} (h : RelayR C H p z rs ra) (hL : H L = some (.lst vs)) (n : ra ≠ L) : RelayR C (upd H L (.lst ws)) p z rs ra := by
  obtain ⟨dx, ia, xs, h1, h2, h3, kvs, h4, h5, h6⟩ := h
  have tp : ∀ t b, H t = some (.tup b) → upd H L (.lst ws) t = some (.tup b) := fun t b e => by
    rw [upd_ne (ne_of e hL (by intro q; cases q))]
    exact e
  exact ⟨dx, ia, xs, by rw [upd_ne (ne_of h1 hL (by intro q; cases q))]; exact h1, by rw [upd_ne n]; exact h2, RulesAt.imp h3 tp, kvs, by rw [upd_ne (ne_of h4 hL (by intro q; cases q))]; exact h4, h5, h6.imp tp⟩
theorem RelayR.same {C : Addr} {H H' : Hp} {p : Addr} {z : Str} {rs : List Rule} {ra : Addr} (h : RelayR C H p z rs ra) (s : Same H H') : RelayR C H' p z rs ra := by
  obtain ⟨dx, ia, xs, h1, h2, h3, kvs, h4, h5, h6⟩ := h
  exact ⟨dx, ia, xs, s _ _ h1, s _ _ h2, RulesAt.imp h3 fun t a e => s t _ e, kvs, s _ _ h4, h5, h6.imp fun t a e => s t _ e⟩
/-- what is needed of the class Relay -/
structure RTxt (K : PySem.W.Frag) (mg : Str → Option Value) (C : Addr) : Prop where
  cl : Cls K C
  nS : NoAttr K C "_signs"
  nR : NoAttr K C "_rules"
  nI : NoAttr K C "_index"
  mgC : mg "Relay" = some (.ref C)
def spInit (C : Addr) : Sp := fun vs H Q _ => ∃ (p dx : Addr) (z : Str) (v : V) (rs : List Rule), vs = [.ref p, .str z, v] ∧ H p = some (.ins C dx []) ∧ Abc z ∧ RuArg H v rs ∧
  (∀ r ∈ rs, RuleOk z 40 r) ∧ rs.length ≤ 400 ∧ ∀ (H' : Hp) (ra : Addr), RelayR C H' p z rs ra → H ra = none → But p H H' → Q .non H'
end FL
namespace FL
open PySem PySem.Spec PyProof.Rows L2
section
variable {X : Cx} {pins : List (Addr × Obj)} {σ : L2.St} {H : Hp} {s : Shared} {k : Nat} {f : Addr} {fd : FuncData} {ps : List Str} {sp : Sp} {Q : VK} {E : XK}
theorem run_at1 {us ws : List Value} {ks : List Str} {bs : List Value} {vs : List V} {E' : Value → Shared → Prop} (F : FnG X.prog X.w X.K X.mg X.base CX0 k f fd ps sp) (hr : Room (k + 1) X.A) (hG : X.A.guards = some [])
    (I : Inv X pins σ H s) (hb : BindsTo s fd ⟨us, ks.zip ws⟩ (ps.zip bs)) (r : Vals vs bs) (h : sp vs H Q E) :
    wpAny (model X.prog X.w) X.A.in1 (call (.ref f) us (ks.zip ws)) (EP X pins σ Q) E' s := by
  refine wpAny_call (codeAny_mono (F.goes X.A.in1 X.stack s H ⟨us, ks.zip ws⟩ bs vs Q E hr.in1 hG I.env0.in1 hb r h) ?_)
  rintro (er | fl) s2 z
  · exact False.elim z
  · cases fl with
    | ret u => exact I.after z
    | _ => exact False.elim z
theorem run_at0 {us ws : List Value} {ks : List Str} {bs : List Value} {vs : List V} {E' : Value → Shared → Prop} (F : FnG X.prog X.w X.K X.mg X.base CX0 k f fd ps sp) (hr : Room k X.A) (hG : X.A.guards = some [])
    (I : Inv X pins σ H s) (hb : BindsTo s fd ⟨us, ks.zip ws⟩ (ps.zip bs)) (r : Vals vs bs) (h : sp vs H Q E) :
    wpAny (model X.prog X.w) X.A (call (.ref f) us (ks.zip ws)) (EP X pins σ Q) E' s := by
  refine wpAny_call (codeAny_mono (F.goes X.A X.stack s H ⟨us, ks.zip ws⟩ bs vs Q E hr hG I.env0 hb r h) ?_)
  rintro (er | fl) s2 z
  · exact False.elim z
  · cases fl with
    | ret u => exact I.after z
    | _ => exact False.elim z
/-! repr of an instance by its class's own text -/
theorem call_reprI {C : Addr} (F : FnG X.prog X.w X.K X.mg X.base CX0 k f fd ["self"] sp) (hb : Binds X.K fd ["self"] []) (hr : Room (k + 1) X.A) (hG : X.A.guards = some [])
    (hs : PySem.W.findIn X.K (.ref C) "__repr__" = some (some (.ref f))) (hf : PySem.W.isFn X.K (.ref f) = true) :
    CallR X (.builtin "repr") (fun xs H Q => ∃ a dx fs, xs = [.ref a] ∧ H a = some (.ins C dx fs) ∧ sp [.ref a] H (fun v H' => ∃ z, v = .str z ∧ Q (.str z) H') E) := by
  intro pins s σ H xs us Q I r h
  obtain ⟨a, dx, fs, rfl, ha, q⟩ := h
  cases r with
  | cons r1 r2 =>
    cases r2
    cases r1
    obtain ⟨mA, O, _⟩ := ins_get I.hok ha
    obtain ⟨od, J, _⟩ := O.look
    obtain ⟨m, fr⟩ := I.fr
    refine PySem.W.repr_K (h₀ := X.base) hr.in1.units0 fr I.ok.mod.kin J hs hf ?_
    refine wpAny_mono (run_at1 (ws := []) (ks := []) (E' := X.xe) (bs := [.ref a]) F hr hG I (vs := [.ref a]) (hb s [.ref a] I.kIn rfl) (.cons rfl .nil) q) ?_ fun _ _ e => e
    rintro u s2 ⟨v, H2, I2, rv, z, rfl, q2⟩
    obtain ⟨t, rfl⟩ := rv
    exact ⟨.str z, H2, I2, ⟨t, rfl⟩, q2⟩
/-! {e!r} of a list of data -/
def tFmtL (K : PySem.W.Frag) (te : TE) : TE := fun σ H Q => te σ H fun x H1 => ∃ a xs d, x = .ref a ∧ SqL K H1 a xs ∧ Dp K H1 x d ∧ d.hasDict = false ∧ NiceD d ∧ Q (.str d.shown) H1
theorem pe_fmtL {e : Expr} {te : TE} {pos : Pos} (hG : X.A.guards = some []) (hu : X.A.units + 64 < cLine) (he : PE X e te) : PE X (.FormattedValue e 114 none pos) (tFmtL X.K te) := by
  refine ⟨fun pins s σ H Q I h => ?_⟩
  refine wpAny_FormattedValue_repr (thn (he.run pins s σ H _ I h) fun v s1 hv => ?_)
  obtain ⟨x, H1, I1, r1, a, xs, d, rfl, _, hd, nd, ⟨n1, n2, n3⟩, q⟩ := hv
  obtain ⟨as, rd⟩ := Dp.reads I1 d _ v hd r1
  cases r1
  refine pyReprObj_of_reads rd n1 (PyData.noDict_hsm nd) hG (by omega) (fun _ _ e => e) (fun h' u tk kp => ?_) n3
  have I2 : Inv X pins σ H1 { s1 with heap := h', toks := tk } := I1.kept kp
  exact wpAny_formatField_str ⟨.str d.shown, H1, I2, ⟨u, rfl⟩, q⟩ ⟨.str d.shown, H1, I2.tok _, ⟨_, rfl⟩, q⟩ n3
end
end FL
namespace FL
open PySem PySem.Spec PyProof.Rows L2
section
variable {M : Model} {A : Around} {E : Value → Shared → Prop} {s : Shared} {K : PySem.W.Frag} {x C f : Addr} {ox : Obj} {od : Option Obj}
theorem rc_own {a : Value} {T ida : String} {Q : Value → Shared → Prop} (ha : s.TypeIs a T) (X : K.In s.heap) (I : PySem.W.InstAt s.heap x ox C od) (hsub : PySem.W.mroIn K C (.type T) = some false)
    (h1 : Slot T (cmpInfo .Eq).2.1 ida) (hc1 : ∀ Q' : Value → Shared → Prop, Q' .notImplemented s → wpAny M A (call (.builtin ida) [a, .ref x]) Q' E s)
    (hs : PySem.W.findIn K (.ref C) "__eq__" = some (some (.ref f))) (hf : PySem.W.isFn K (.ref f) = true) (hu : A.units < cLine)
    (h : wpAny M A (call (.ref f) [.ref x, a]) (PySem.W.CmpBack Q) E s) : wpAny M A (richCompare .Eq a (.ref x)) Q E s := by
  have hne : (Value.type T != Value.ref C) = true := by rfl
  have two : wpAny M A (tryCompare (.ref x) (cmpInfo .Eq).2.2 a) (fun r s' => ∃ v, r = some v ∧ Q v s') E s := by
    unfold tryCompare
    refine wpAny_bind (PySem.W.ifBound_K X I hs hf (wpAny_mono h (fun v s' hv => ?_) fun _ _ e => e))
    cases v <;> first | exact hv.elim | exact wpAny_pure ⟨_, rfl, hv⟩
  rcases hi : cmpInfo CmpOp.Eq with ⟨sym, g, r⟩
  rw [hi] at h1 two
  simp only [richCompare, hi, ha.oneThing_none]
  try with_reducible refine wpAny_holding ?_
  refine wpAny_bind (wpAny_cRoomFor hu ?_)
  refine wpAny_bind (wpAny_typeOf ha (wpAny_bind (I.type.here ?_)))
  simp only [hne, if_true]
  refine wpAny_bind ((PySem.W.looks_mroIn X hsub).here ?_)
  simp only [Bool.false_eq_true, if_false, Bool.not_false, if_true]
  refine wpAny_bind (m := tryCompare a _ (.ref x)) (wpAny_tryCompare_declines ha h1 (hc1 _ ⟨rfl, ?_⟩))
  refine wpAny_bind (wpAny_mono two (fun r s' z => ?_) fun _ _ e => e)
  obtain ⟨v, rfl, hq⟩ := z
  exact wpAny_pure hq
end
section
variable {K : PySem.W.Frag} {x C l : Addr} {ox : Obj} {od : Option Obj}
theorem int_no (b : Int) (u : Tok) (c : Value) (dd : Option Addr) (sl : Array (Option Value)) :
    Meets (Builtin.«int.__eq__» ⟨[.int b u, .ref x], []⟩) (fun _ R s => s.heap.get? x = some { cls := c, dict := dd, data := .plain, slots := sl } ∧ R (.ok (.ret .notImplemented)) s) :=
  .of_wp fun prog w A R s h => by obtain ⟨hp, g, d, tk, os⟩ := s; obtain ⟨hl, h⟩ := h; wp_walk using wpAny_loadPart' hl, wpAny_load hl; exact ⟨_, rfl, h⟩
theorem bool_no (b : Bool) (c : Value) (dd : Option Addr) (sl : Array (Option Value)) :
    Meets (Builtin.«int.__eq__» ⟨[.bool b, .ref x], []⟩) (fun _ R s => s.heap.get? x = some { cls := c, dict := dd, data := .plain, slots := sl } ∧ R (.ok (.ret .notImplemented)) s) :=
  .of_wp fun prog w A R s h => by obtain ⟨hp, g, d, tk, os⟩ := s; obtain ⟨hl, h⟩ := h; wp_walk using wpAny_loadPart' hl, wpAny_load hl; exact ⟨_, rfl, h⟩
theorem str_no (b : Str) (u : Tok) (c : Value) (dd : Option Addr) (sl : Array (Option Value)) :
    Meets (Builtin.«str.__eq__» ⟨[.str b u, .ref x], []⟩) (fun _ R s => s.heap.get? x = some { cls := c, dict := dd, data := .plain, slots := sl } ∧ R (.ok (.ret .notImplemented)) s) :=
  .of_wp fun prog w A R s h => by obtain ⟨hp, g, d, tk, os⟩ := s; obtain ⟨hl, h⟩ := h; wp_walk using wpAny_loadPart' hl, wpAny_load hl; exact ⟨_, rfl, h⟩
theorem list_no (items : Array Value) (n : Nat) (dd : Option Addr) (sl : Array (Option Value)) (c : Value) (dd' : Option Addr) (sl' : Array (Option Value)) :
    Meets (Builtin.«list.__eq__» ⟨[.ref l, .ref x], []⟩) (fun _ R s => s.heap.get? l = some { cls := .type "list", dict := dd, data := .seq items n, slots := sl } ∧ s.heap.get? x = some { cls := .ref C, dict := dd', data := .plain, slots := sl' }
      ∧ (K.In s.heap ∧ PySem.W.mroIn K C (.type "list") = some false) ∧ R (.ok (.ret .notImplemented)) s) :=
  .of_wp fun prog w A R s h => by
    obtain ⟨hp, g, d, tk, os⟩ := s
    obtain ⟨hl, hx, ⟨X, hm⟩, h⟩ := h
    have L := PySem.W.looks_mroIn (M := model prog w) X hm
    wp_walk using wpAny_loadPart' hl, wpAny_load hl, wpAny_loadPart' hx, wpAny_load hx, L.here
    exact ⟨_, rfl, h⟩
theorem tuple_no (items : Array Value) (n : Nat) (dd : Option Addr) (sl : Array (Option Value)) (c : Value) (dd' : Option Addr) (sl' : Array (Option Value)) :
    Meets (Builtin.«tuple.__eq__» ⟨[.ref l, .ref x], []⟩) (fun _ R s => s.heap.get? l = some { cls := .type "tuple", dict := dd, data := .seq items n, slots := sl } ∧ s.heap.get? x = some { cls := .ref C, dict := dd', data := .plain, slots := sl' }
      ∧ (K.In s.heap ∧ PySem.W.mroIn K C (.type "tuple") = some false) ∧ R (.ok (.ret .notImplemented)) s) :=
  .of_wp fun prog w A R s h => by
    obtain ⟨hp, g, d, tk, os⟩ := s
    obtain ⟨hl, hx, ⟨X, hm⟩, h⟩ := h
    have L := PySem.W.looks_mroIn (M := model prog w) X hm
    wp_walk using wpAny_loadPart' hl, wpAny_load hl, wpAny_loadPart' hx, wpAny_load hx, L.here
    exact ⟨_, rfl, h⟩
theorem dict_no (es : Array DictEntry) (n : Nat) (dd : Option Addr) (sl : Array (Option Value)) (c : Value) (dd' : Option Addr) (sl' : Array (Option Value)) :
    Meets (Builtin.«dict.__eq__» ⟨[.ref l, .ref x], []⟩) (fun _ R s => s.heap.get? l = some { cls := .type "dict", dict := dd, data := .dict es n, slots := sl } ∧ s.heap.get? x = some { cls := .ref C, dict := dd', data := .plain, slots := sl' }
      ∧ (K.In s.heap ∧ PySem.W.mroIn K C (.type "dict") = some false) ∧ R (.ok (.ret .notImplemented)) s) :=
  .of_wp fun prog w A R s h => by
    obtain ⟨hp, g, d, tk, os⟩ := s
    obtain ⟨hl, hx, ⟨X, hm⟩, h⟩ := h
    have L := PySem.W.looks_mroIn (M := model prog w) X hm
    wp_walk using wpAny_loadPart' hl, wpAny_load hl, wpAny_loadPart' hx, wpAny_load hx, L.here
    exact ⟨_, rfl, h⟩
end
end FL
namespace FL
open PySem PySem.Spec PyProof.Rows L2
/-! ### what the top left, told of defs at any address -/
def seenFn (K : PySem.W.Frag) (a : Addr) : He.FnV :=
  (K.lookup a).bind fun o => match o.data with
    | .func d => some (d.name, d.qualname, d.params, d.body, d.scope, d.globals, d.closure, d.defaults, d.builtins)
    | _ => none
def seenCode (K : PySem.W.Frag) (a : Addr) (q : Str) : Bool :=
  match K.lookup a with
  | some o => (match o.data with
    | .func d => PySem.W.codeIn K d.code q && PySem.W.keepIn K (.ref a)
    | _ => false)
  | none => false
/-- a def: where it is found, its names, its statement -/
structure DA where
  ad : PySem.W.Frag → Addr
  nm : Str
  qn : Str
  st : Stmt
def DA.due (d : DA) : He.FnV := some (d.nm, d.qn, defArgs d.st, .stmts (defBody d.st), defScope d.st, mainGlobals, [], .none, builtinsNs)
theorem DA.fn {K : PySem.W.Frag} {d : DA} (e : seenFn K (d.ad K) = d.due) (c : seenCode K (d.ad K) d.qn = true) : ∃ fd, Fun K d.nm d.qn d.st (d.ad K) fd := by
  unfold seenFn DA.due at e
  unfold seenCode at c
  cases q : K.lookup (d.ad K) with
  | none =>
    rw [q] at e
    cases e
  | some o =>
    obtain ⟨oc, od, dt, sl⟩ := o
    rw [q] at e c
    cases dt with
    | func z =>
      obtain ⟨z1, z2, z3, z4, z5, z6, z7, z8, z9, z10, z11, z12, z13, z14, z15⟩ := z
      simp only [Option.bind_some, Option.some.injEq, Prod.mk.injEq] at e
      obtain ⟨rfl, rfl, rfl, rfl, rfl, rfl, rfl, rfl, rfl⟩ := e
      obtain ⟨c1, c2⟩ := Bool.and_eq_true_iff.mp c
      exact ⟨_, fun_mk q c1 c2⟩
    | _ => cases e
def lookF (ds : List DA) (ex : PySem.W.Frag → Bool) (K : PySem.W.Frag) : Bool × List He.FnV :=
  (ex K && ds.all fun d => seenCode K (d.ad K) d.qn, ds.map fun d => seenFn K (d.ad K))
def dueF (ds : List DA) : Bool × List He.FnV := (true, ds.map DA.due)
def hookF (n : Nat) (ds : List DA) (ex : PySem.W.Frag → Bool) : PySem.W.Hook where
  α := Bool × List He.FnV
  obs := fun s => lookF ds ex (He.frG s.heap.get? (He.asD s.heap.get? n))
  val := fun _ => dueF ds
  says := fun _ h => ∃ K : PySem.W.Frag, K.In h ∧ lookF ds ex K = dueF ds
  of := fun _ _ e => ⟨_, He.frG_in, e⟩
  keeps := fun _ _ _ ⟨K, i, c⟩ k => ⟨K, PySem.W.Frag.In.keeps i k, c⟩
def obF (n : Nat) (ds : List DA) (ex : PySem.W.Frag → Bool) (g : Addr → Option Obj) : Bool × List He.FnV := lookF ds ex (He.frG g (He.asD g n))
theorem obF_eq {n : Nat} {ds : List DA} {ex : PySem.W.Frag → Bool} (s : PySem.W.SharedT) : obF n ds ex (HandSHeadRun.getT s) = (hookF n ds ex).obs s.abs := by
  have e : HandSHeadRun.getT s = s.abs.heap.get? := funext fun a => HandSHeadRun.getT_eq s a
  rw [e]
  rfl
theorem look_ex {ds : List DA} {ex : PySem.W.Frag → Bool} {K : PySem.W.Frag} (c : lookF ds ex K = dueF ds) : ex K = true :=
  (Bool.and_eq_true_iff.mp (congrArg Prod.fst c)).1
theorem look_fn {ds : List DA} {ex : PySem.W.Frag → Bool} {K : PySem.W.Frag} (c : lookF ds ex K = dueF ds) (i : Nat) {d : DA} (h : ds[i]? = some d) : ∃ fd, Fun K d.nm d.qn d.st (d.ad K) fd := by
  have c1 := (Bool.and_eq_true_iff.mp (congrArg Prod.fst c)).2
  have c2 : ds.map (fun d => seenFn K (d.ad K)) = ds.map DA.due := congrArg Prod.snd c
  have c3 : (ds.map fun d => seenFn K (d.ad K))[i]? = (ds.map DA.due)[i]? := by rw [c2]
  rw [List.getElem?_map, List.getElem?_map, h] at c3
  exact DA.fn (Option.some.inj c3) (List.all_eq_true.mp c1 d (List.mem_of_getElem? h))
end FL
namespace FL
open PySem PySem.Spec PyProof.Rows L2
/-! ### calls with keywords of defs without defaults -/
theorem kbn_of {K : PySem.W.Frag} {x qual : Str} {st : Stmt} {f : Addr} {fd : FuncData} {ps ks : List Str} {n : Nat} {g : List Value → List Value → List Value} {gV : List V → List V → List V} (F : Fun K x qual st f fd)
    (h : ∀ (kV doc pm : Value) (an : Option Addr) (cdv ct : Value) (us ws : List Value), us.length = n → ws.length = ks.length →
      bindArgs (PySem.W.fnOf x qual (defArgs st) (defBody st) (defScope st) .none kV doc pm an cdv ct) ⟨us, ks.zip ws⟩ = pure (ps.zip (g us ws)))
    (hr : ∀ {vs : List V} {us : List Value} {zs : List V} {ws : List Value}, Vals vs us → Vals zs ws → Vals (gV vs zs) (g us ws)) : KBn K fd ps n ks g gV := by
  obtain ⟨oc, od, kV, doc, pm, an, cdv, ct, osl, rfl, lk, hcd⟩ := F.ex
  exact ⟨fun s us ws _ l1 l2 => .of_eq (h kV doc pm an cdv ct us ws l1 l2), hr⟩
/-- one value ahead, two keywords the other way round -/
def swp {α : Type} : List α → List α → List α
  | [s], [r, z] => [s, z, r]
  | us, _ => us
theorem swp_rel {vs : List V} {us : List Value} {zs : List V} {ws : List Value} (a : Vals vs us) (b : Vals zs ws) : Vals (swp vs zs) (swp us ws) := by
  cases a with
  | nil => cases b <;> exact .nil
  | cons a1 a2 =>
    cases a2 with
    | nil =>
      cases b with
      | nil => exact .cons a1 .nil
      | cons b1 b2 =>
        cases b2 with
        | nil => exact .cons a1 .nil
        | cons b2 b3 =>
          cases b3 with
          | nil => exact .cons a1 (.cons b2 (.cons b1 .nil))
          | cons _ _ => exact .cons a1 .nil
    | cons a2 a3 => cases b <;> exact .cons a1 (.cons a2 a3)
/-! ### an instance called by a keyword -/
theorem callO_kw {M : Model} {A : Around} {E : Value → Shared → Prop} {s : Shared} {a : Addr} {pos : Pos} {Q : Value → Shared → Prop} {args : List (Bool × Sem Value)} {kws : List (Option Str × Sem Value)}
    (hp : (args.any (·.1) || kws.any (·.1.isNone)) = false)
    (h : wpAny M A (evalArgs (.ref a) true args kws) (fun z s1 => (∃ C ox od, PySem.W.InstAt s1.heap a ox C od ∧ ox.data = .plain) ∧ wpAny M A (call (.ref a) z.pos z.kw) Q E s1) E s) :
    wpAny M A (callWith pos (.ref a) [] args kws) Q E s := by
  unfold callWith
  refine wpAny_bind (wpAny_holding (wpAny_mono h (fun z s1 hz => ?_) fun _ _ e => e))
  obtain ⟨⟨C, ox, od, J, hd⟩, hz⟩ := hz
  refine wpAny_bind (wpAny_standAt ?_)
  have L := PySem.W.kco_keeper (M := M) J hd
  simp only [hp]
  refine wpAny_bind (L.here ?_)
  exact wpAny_bind (wpAny_operateT (wpAny_mono hz (fun r s2 hr => wpAny_bind (wpAny_holding (wpAny_point (wpAny_pure hr)))) fun _ _ e => e))
section
variable {X : Cx} {pins : List (Addr × Obj)} {σ : L2.St} {H : Hp} {s : Shared} {k : Nat} {f C g : Addr} {fd : FuncData} {ps ks : List Str} {sp : Sp} {Q : VK} {E : XK}
/-- o(k = v), o an instance of C -/
def tCallOK (C : Addr) (m : Nat) (sp : Sp) (gV : List V → List V → List V) (E : XK) (tf : TE) (tk : TA) : TE := fun σ H Q => tf σ H fun y H1 => ∃ a, y = V.ref a ∧
  tk σ H1 fun zs H2 => zs.length = m ∧ (∃ dx fs, H2 a = some (.ins C dx fs)) ∧ sp (gV [.ref a] zs) H2 Q E
theorem pe_callOK {fe : Expr} {kws : List Keyword} {pos : Pos} {tf : TE} {tk : TA} {gg : List Value → List Value → List Value} {gV : List V → List V → List V} (hf : PE X fe tf) (c : StX.CallO X.K C g)
    (F : FnOk X.prog X.w X.K X.mg X.base CX0 k g fd ps sp) (hb : KBn X.K fd ps 1 ks gg gV) (hr : Room k X.A) (hkw : PK X kws tk)
    (hall : (backToKw pos (keywordEach kws X.env)).all (·.1.isSome) = true := by rfl) (hks : (backToKw pos (keywordEach kws X.env)).filterMap (·.1) = ks := by rfl)
    (ht : eval (.Call fe [] kws pos) X.env = (do callWith pos (← eval fe X.env) [] (backTo pos (starEach [] X.env)) (backToKw pos (keywordEach kws X.env))) := by rfl)
    (hpl : ((backTo pos (starEach [] X.env)).any (·.1) || (backToKw pos (keywordEach kws X.env)).any (·.1.isNone)) = false := by rfl) :
    PE X (.Call fe [] kws pos) (tCallOK C ks.length sp gV E tf tk) := by
  refine ⟨fun pins s σ H Q I h => ?_⟩
  rw [ht]
  refine wpAny_bind (thn (hf.run pins s σ H _ I h) fun u s1 hu => ?_)
  obtain ⟨y, H1, I1, ry, a, ey, q⟩ := hu
  subst ey
  obtain rfl : u = Value.ref a := ry
  refine callO_kw hpl (evalArgs_kw2_nil hall (thn (hkw.run pos pins s1 σ H1 _ I1 q) fun ws s2 hw => ?_))
  obtain ⟨zs, H2, I2, rz, l2, ⟨dx, fs, ha⟩, q2⟩ := hw
  rw [hks]
  obtain ⟨ox, od, J, hd⟩ := StX.insC_at I2 (.inr ⟨dx, fs, ha⟩)
  refine ⟨⟨C, ox, od, J, hd⟩, ?_⟩
  have rs : Vals [V.ref a] [Value.ref a] := .cons rfl .nil
  refine wpAny_call (PySem.W.kco_code I2.kIn J hd c.at_ c.fn c.fi ?_)
  refine codeAny_mono (F.run X.A X.stack s2 H2 ⟨[.ref a], ks.zip ws⟩ (gg [.ref a] ws) (gV [.ref a] zs) Q E hr I2.env0 (hb.to s2 [.ref a] ws I2.kIn rfl (rz.length.symm.trans l2)) (hb.rel rs rz) q2) fun r s' hq => ?_
  cases r with
  | error e => exact False.elim hq
  | ok fl =>
    cases fl with
    | ret u => exact I2.after hq
    | next => exact False.elim hq
    | brk => exact False.elim hq
    | cont => exact False.elim hq
/-! ### == and != by an own == -/
/-- a value of another kind, or an instance of C -/
def Sec (C : Addr) (H : Hp) (y : V) : Prop := (∃ n, Any H y n) ∨ ∃ b dx fs, y = .ref b ∧ H b = some (.ins C dx fs)
structure EqT (K : PySem.W.Frag) (C f : Addr) (fd : FuncData) : Prop where
  cl : Cls K C
  at_ : PySem.W.findIn K (.ref C) "__eq__" = some (some (.ref f))
  fn : PySem.W.isFn K (.ref f) = true
  bd : Binds K fd ["self", "other"] []
  kin : ∀ n ∈ kinds, PySem.W.mroIn K C (.type n) = some false
  ne : PySem.W.findIn K (.ref C) "__ne__" = some (some (.builtin "object.__ne__"))
  ob : PySem.W.mroIn K C (.type "object") = some true
theorem not_first {K : PySem.W.Frag} {C : Addr} {n : String} (h : n ∈ kinds) : PySem.W.notFirst K C (.type n) = true := by
  have h' : ((fastBuiltinMro n).map fun l => l.contains (.ref C)) = some false := by
    simp only [kinds, List.mem_cons, List.mem_nil_iff, or_false] at h
    rcases h with rfl | rfl | rfl | rfl | rfl | rfl | rfl <;> kernel_rfl
  show (_ || (((fastBuiltinMro n).map fun l => l.contains (.ref C)) == some false)) = true
  rw [h']
  simp
theorem sec_type {u : Value} {y : V} (I : Inv X pins σ H s) (r : RelV y u) (h : Sec C H y) : ∃ tb, PySem.W.Looks (model X.prog X.w) s.heap (typeOf u) tb ∧ PySem.W.notFirst X.K C tb = true := by
  rcases h with ⟨n, an⟩ | ⟨b, dx, fs, rfl, hb⟩
  · obtain ⟨P, Z, p, _⟩ := kit_of I r an.tyx
    exact ⟨_, Z.ty _ _ I.kIn p, not_first an.kind⟩
  · obtain rfl : u = Value.ref b := r
    obtain ⟨mB, J, _⟩ := ins_get I.hok hb
    obtain ⟨od, J, _⟩ := J.look
    exact ⟨_, J.type, by simp [PySem.W.notFirst]⟩
def rEqO (C : Addr) (sp : Sp) : R2 := fun x y H Q => ∃ a dx fs, x = .ref a ∧ H a = some (.ins C dx fs) ∧ Sec C H y ∧ sp [x, y] H (fun v H' => ∃ b, v = .bl b ∧ Q (.bl b) H') E0
theorem op_eqO (T : EqT X.K C f fd) (Fk : FnOk X.prog X.w X.K X.mg X.base CX0 k f fd ["self", "other"] sp) (hr : Room k X.A) : OpR X (compareOp .Eq) (rEqO C sp) := by
  intro pins s σ H x y v u Q I rx ry h
  obtain ⟨a, dx, fs, rfl, ha, sc, q⟩ := h
  obtain rfl : v = Value.ref a := rx
  obtain ⟨tb, lb, nf⟩ := sec_type I ry sc
  obtain ⟨mA, J, _⟩ := ins_get I.hok ha
  obtain ⟨od, J, _⟩ := J.look
  obtain ⟨m, hF⟩ := I.fr
  show wpAny _ _ (richCompare .Eq (.ref a) u) _ _ _
  refine PySem.W.cmp_K (op := .Eq) hr.units0 hF I.ok.mod.kin J lb nf T.at_ T.fn ?_
  have rr : Vals [V.ref a, y] [Value.ref a, u] := .cons rfl (.cons ry .nil)
  refine wpAny_mono (wpAny_call (run_fnR (Fk.raw T.bd .nil) hr pass0 I rr q)) ?_ fun _ _ e => e
  rintro w s2 ⟨z, H2, I2, rz, b, rfl, qb⟩
  obtain rfl : w = Value.bool b := rz
  exact ⟨.bl b, H2, I2, rfl, qb⟩
/-- != of an instance and another value -/
def rNeO (C : Addr) (sp : Sp) : R2 := fun x y H Q => ∃ a dx fs, x = .ref a ∧ H a = some (.ins C dx fs) ∧ Sec C H y ∧ sp [x, y] H (fun v H' => ∃ b, v = .bl b ∧ Q (.bl !b) H') E0
theorem slot_obj_ne : Slot "object" "__ne__" "object.__ne__" :=
  Slot.of (T := "object") (name := "__ne__") (owner := "object") (n := "__ne__") (by rw [typeLookup_type, builtinLookup_eq_fast]; kernel_rfl) (by decide +kernel) (by decide +kernel) (by decide +kernel) (.inl (by decide +kernel)) (by rw [isSubtype_type]; kernel_rfl)
theorem op_neO (T : EqT X.K C f fd) (Fk : FnOk X.prog X.w X.K X.mg X.base CX0 k f fd ["self", "other"] sp) (hr : Room (k + 2) X.A) : OpR X (compareOp .NotEq) (rNeO C sp) := by
  intro pins s σ H x y v u Q I rx ry h
  obtain ⟨a, dx, fs, rfl, ha, sc, q⟩ := h
  obtain rfl : v = Value.ref a := rx
  obtain ⟨tb, lb, nf⟩ := sec_type I ry sc
  obtain ⟨mA, J, _⟩ := ins_get I.hok ha
  obtain ⟨od, J, _⟩ := J.look
  show wpAny _ _ (richCompare .NotEq (.ref a) u) _ _ _
  have rr : Vals [V.ref a, y] [Value.ref a, u] := .cons rfl (.cons ry .nil)
  have inner : wpAny (model X.prog X.w) X.A (call (.builtin "object.__ne__") [.ref a, u]) (PySem.W.CmpBack (EP X pins σ Q)) X.xe s := by
    have sub : PySem.W.Looks (model X.prog X.w) s.heap (isInstance (.ref a) (.type "object")) true := J.type.andThen (PySem.W.looks_mroIn I.kIn T.ob)
    refine wpAny_call (codeAny_call_builtin slot_obj_ne.plain PySem.F.cmpEntry_ne (PySem.W.check_slot PySem.F.cmpKind_ne PySem.F.cmpSplit_ne sub (PySem.F.cmpArgs_ne _ _) ?_))
    unfold Builtin.«object.__ne__»
    repeat (first | with_reducible refine wpAny_cRoomFor hr.in1.units0 ?_ | with_reducible refine PySem.W.ifBound_K I.kIn J T.at_ T.fn ?_ | wp_step)
    have c1 : codeAny (model X.prog X.w) X.A.in1 (.call (.ref f) ⟨[.ref a, u], []⟩) (fun r s' => ∃ w, r = .ok (.ret w) ∧ EP X pins σ (fun v H' => ∃ b, v = V.bl b ∧ Q (V.bl !b) H') w s') s := by
      have hb := T.bd s [.ref a, u] I.kIn rfl
      refine codeAny_mono (Fk.run X.A.in1 X.stack s H ⟨[.ref a, u], []⟩ [.ref a, u] [.ref a, y] _ E0 (hr.mono (Nat.le_succ _)).in1 I.env0.in1 hb rr q) ?_
      rintro (er | fl) s2 z
      · exact False.elim z
      · cases fl with
        | ret w => exact ⟨w, rfl, I.after z⟩
        | _ => exact False.elim z
    refine codeAny_mono c1 ?_
    rintro r s2 ⟨w, rfl, z, H2, I2, rz, b, rfl, qb⟩
    obtain rfl : w = Value.bool b := rz
    refine wpAny_bind (wpAny_truthy_bool (wpAny_pure ?_))
    exact ⟨.bl !b, H2, I2, rfl, qb⟩
  have X0 := I.kIn
  have one : wpAny (model X.prog X.w) X.A (tryCompare (.ref a) "__ne__" u) (fun r s' => ∃ v, r = some v ∧ EP X pins σ Q v s') X.xe s := by
    unfold tryCompare callSpecialIfBound? bindSpecialIfBound?
    refine wpAny_bind (wpAny_holding (wpAny_bind (wpAny_bind (wpAny_bind (J.type.here ((PySem.W.looks_findIn X0 T.ne).here ?_))))))
    have fin : wpAny (model X.prog X.w) X.A (call (.builtin "object.__ne__") ([.ref a] ++ [u]) >>= fun v => pure (some v))
        (fun r s' => wpAny (model X.prog X.w) X.A (match r with | some .notImplemented | none => pure none | some v => pure (some v)) (fun r s' => ∃ v, r = some v ∧ EP X pins σ Q v s') X.xe s') X.xe s := by
      refine wpAny_bind (wpAny_mono inner (fun v s2 hv => wpAny_pure ?_) fun _ _ e => e)
      cases v <;> first | exact hv.elim | exact wpAny_pure ⟨_, rfl, hv⟩
    simp only [slot_obj_ne.bind]
    refine wpAny_bind (wpAny_askSetting (wpAny_ite ?_))
    split
    · exact wpAny_bind (wpAny_pure (wpAny_pure fin))
    · exact wpAny_tryCatch (wpAny_bind (wpAny_pure (wpAny_pure fin)))
  unfold richCompare
  simp only [oneThing_ref]
  refine wpAny_holding (wpAny_bind (wpAny_cRoomFor hr.units0 ?_))
  refine wpAny_bind (J.type.here (wpAny_bind (lb.here ?_)))
  split
  · rename_i qne
    have e : PySem.W.subIn X.K tb (.ref C) = some false := by
      rcases Bool.or_eq_true_iff.mp nf with e | e
      · rw [beq_iff_eq.mp e] at qne
        simp at qne
      · exact beq_iff_eq.mp e
    refine wpAny_bind ((PySem.W.looks_subIn X0 e).here ?_)
    simp only [Bool.false_eq_true, if_false]
    refine wpAny_bind (wpAny_mono one (fun r s2 hz => ?_) fun _ _ e => e)
    obtain ⟨v, rfl, hv⟩ := hz
    exact wpAny_pure hv
  · refine wpAny_bind (wpAny_pure ?_)
    simp only [Bool.false_eq_true, if_false]
    refine wpAny_bind (wpAny_mono one (fun r s2 hz => ?_) fun _ _ e => e)
    obtain ⟨v, rfl, hv⟩ := hz
    exact wpAny_pure hv
end
end FL
namespace FL
open PySem PySem.Spec PyProof.Rows L2
section
variable {x C : Addr}
theorem none_no (c : Value) (dd : Option Addr) (sl : Array (Option Value)) :
    Meets (Builtin.«NoneType.__eq__» ⟨[.none, .ref x], []⟩) (fun _ R s => s.heap.get? x = some { cls := c, dict := dd, data := .plain, slots := sl } ∧ R (.ok (.ret .notImplemented)) s) :=
  .of_wp fun prog w A R s h => by obtain ⟨hp, g, d, tk, os⟩ := s; obtain ⟨hl, h⟩ := h; wp_walk using wpAny_loadPart' hl, wpAny_load hl; exact ⟨_, rfl, h⟩
end
section
variable {X : Cx} {pins : List (Addr × Obj)} {σ : L2.St} {H : Hp} {s : Shared} {k : Nat} {f C : Addr} {fd : FuncData} {sp : Sp}
/-- a value of another kind == an instance -/
def rEqR (C : Addr) (sp : Sp) : R2 := fun x y H Q => ∃ a dx fs n, y = .ref a ∧ H a = some (.ins C dx fs) ∧ Any H x n ∧ sp [y, x] H (fun v H' => ∃ b, v = .bl b ∧ Q (.bl b) H') E0
theorem op_eqR (T : EqT X.K C f fd) (Fk : FnOk X.prog X.w X.K X.mg X.base CX0 k f fd ["self", "other"] sp) (hr : Room k X.A) : OpR X (compareOp .Eq) (rEqR C sp) := by
  intro pins s σ H x y v u Q I rx ry h
  obtain ⟨a, dx, fs, n, rfl, ha, an, q⟩ := h
  obtain rfl : u = Value.ref a := ry
  obtain ⟨mA, O, _⟩ := ins_get I.hok ha
  obtain ⟨od, J, _⟩ := O.look
  have hx : s.heap.get? a = some (PySem.W.instObj C dx) := J.at_
  show wpAny _ _ (richCompare .Eq v (.ref a)) _ _ _
  have rr : Vals [V.ref a, x] [Value.ref a, v] := .cons rfl (.cons rx .nil)
  have hu := hr.units0
  have km := T.kin n an.kind
  have own : wpAny (model X.prog X.w) X.A (call (.ref f) [.ref a, v]) (PySem.W.CmpBack (EP X pins σ Q)) X.xe s := by
    refine wpAny_mono (wpAny_call (run_fnR (Fk.raw T.bd .nil) hr pass0 I rr q)) ?_ fun _ _ e => e
    rintro w s2 ⟨z, H2, I2, rz, b, rfl, qb⟩
    obtain rfl : w = Value.bool b := rz
    exact ⟨.bl b, H2, I2, rfl, qb⟩
  cases an with
  | non =>
    obtain rfl : v = Value.none := rx
    exact rc_own (T := "NoneType") rfl I.kIn J km PySem.F.slot_NoneType_eq (fun Q' hq => call_meets PySem.F.slot_NoneType_eq rfl PySem.F.entry_NoneType_eq (PySem.F.args_NoneType_eq_2 _ _) (none_no _ _ _) ⟨hx, hq⟩) T.at_ T.fn hu own
  | bl b =>
    obtain rfl : v = Value.bool b := rx
    exact rc_own (T := "bool") rfl I.kIn J km PySem.F.slot_bool_eq (fun Q' hq => call_meets PySem.F.slot_bool_eq rfl PySem.F.entry_int_eq (PySem.F.args_int_eq_2 _ _) (bool_no _ _ _ _) ⟨hx, hq⟩) T.at_ T.fn hu own
  | int i =>
    obtain ⟨t, rfl⟩ := rx
    exact rc_own (T := "int") (typeIs_int s i t) I.kIn J km PySem.F.slot_int_eq (fun Q' hq => call_meets PySem.F.slot_int_eq (typeIs_int s i t) PySem.F.entry_int_eq (PySem.F.args_int_eq_2 _ _) (int_no _ _ _ _ _) ⟨hx, hq⟩) T.at_ T.fn hu own
  | str z =>
    obtain ⟨t, rfl⟩ := rx
    exact rc_own (T := "str") (typeIs_str s z t) I.kIn J km PySem.F.slot_str_eq (fun Q' hq => call_meets PySem.F.slot_str_eq (typeIs_str s z t) PySem.F.entry_str_eq (PySem.F.args_str_eq_2 _ _) (str_no _ _ _ _ _) ⟨hx, hq⟩) T.at_ T.fn hu own
  | @lst l xs e =>
    obtain rfl : v = Value.ref l := rx
    obtain ⟨_, its, m, _, hl⟩ := I.hok l _ e
    have ty : s.TypeIs (.ref l) "list" := ⟨_, hl, rfl⟩
    exact rc_own (T := "list") ty I.kIn J km PySem.F.slot_list_eq (fun Q' hq => call_meets PySem.F.slot_list_eq ty PySem.F.entry_list_eq (PySem.F.args_list_eq_2 _ _) (list_no _ _ _ _ .none _ _) ⟨hl, hx, ⟨I.kIn, km⟩, hq⟩) T.at_ T.fn hu own
  | @tup l xs e =>
    obtain rfl : v = Value.ref l := rx
    obtain ⟨_, its, _, o, hl, hc, m, hd⟩ := I.hok l _ e
    obtain ⟨cls, dd, data, sl⟩ := o
    simp only at hc hd
    subst hc hd
    have ty : s.TypeIs (.ref l) "tuple" := ⟨_, hl, rfl⟩
    exact rc_own (T := "tuple") ty I.kIn J km PySem.F.slot_tuple_eq (fun Q' hq => call_meets PySem.F.slot_tuple_eq ty PySem.F.entry_tuple_eq (PySem.F.args_tuple_eq_2 _ _) (tuple_no _ _ _ _ .none _ _) ⟨hl, hx, ⟨I.kIn, km⟩, hq⟩) T.at_ T.fn hu own
  | @dct l kvs e =>
    obtain rfl : v = Value.ref l := rx
    obtain ⟨_, _, vs, _, o, es, ep, hl, he, hd, _⟩ := I.hok l _ e
    obtain ⟨cls, dd, data, sl⟩ := o
    obtain ⟨hc, _⟩ := he
    simp only at hc hd
    subst hc hd
    have ty : s.TypeIs (.ref l) "dict" := ⟨_, hl, rfl⟩
    exact rc_own (T := "dict") ty I.kIn J km PySem.F.slot_dict_eq (fun Q' hq => call_meets PySem.F.slot_dict_eq ty PySem.F.entry_dict_eq (PySem.F.args_dict_eq_2 _ _) (dict_no _ _ _ _ .none _ _) ⟨hl, hx, ⟨I.kIn, km⟩, hq⟩) T.at_ T.fn hu own
end
end FL
namespace FL
open PySem PySem.Spec PyProof.Rows L2
/-! ### what a relay's methods promise -/
structure IsT (K : PySem.W.Frag) (C : Addr) : Prop where
  cl : Cls K C
  ha : PySem.W.findIn K (.ref C) "__class__" = some (some (.builtin "object.__class__"))
  hm : PySem.W.mroIn K C (.type "object") = some true
  self : PySem.W.kitOne K (.ref C) (.ref C) = some true
  oth : ∀ n ∈ kinds, PySem.W.kitOne K (.type n) (.ref C) = some false
theorem IsT.ins {K : PySem.W.Frag} {C a dx : Addr} {H : Hp} {fs : List (Str × V)} (T : IsT K C) (e : H a = some (.ins C dx fs)) : TyX K H (.ref a) (.ref C) :=
  .base (.ins e T.cl T.ha (by kernel_rfl) (by kernel_rfl) T.hm)
/-- rules that are plain and not too long -/
def RP (b : Nat) (rs : List Rule) : Prop := ∀ r ∈ rs, Plain r.old ∧ Plain r.new ∧ r.old.length ≤ b ∧ r.new.length ≤ b
def rsEq (a b : List Rule) : Bool := PyData.eqvAll (a.map ruleD) (b.map ruleD)
theorem rsEq_iff {a b : List Rule} : rsEq a b = true ↔ a = b := eqv_rules a b
theorem rsEq_self (a : List Rule) : rsEq a a = true := rsEq_iff.mpr rfl
theorem rsEq_comm (a b : List Rule) : rsEq a b = rsEq b a := by
  cases h : rsEq a b with
  | true =>
    rw [rsEq_iff] at h
    rw [h, rsEq_self]
  | false =>
    cases h2 : rsEq b a with
    | false => rfl
    | true =>
      rw [rsEq_iff] at h2
      rw [h2, rsEq_self] at h
      cases h
def spGet (C : Addr) : Sp := fun vs H Q _ => ∃ (p : Addr) (z : Str) (rs : List Rule), vs = [.ref p] ∧ RelayAt C H p z rs ∧ Q (.str z) H
def spRules (C : Addr) : Sp := fun vs H Q _ => ∃ (p : Addr) (z : Str) (rs : List Rule), vs = [.ref p] ∧ RelayAt C H p z rs ∧
  ∀ (D : Addr) (xs : List V) (H' : Hp), H D = none → H' D = some (.lst xs) → RulesAt H' xs rs → Same H H' → Q (.ref D) H'
def spCall (C : Addr) : Sp := fun vs H Q _ => ∃ (p : Addr) (z : Str) (rs : List Rule) (y : Str), vs = [.ref p, .str y] ∧ RelayAt C H p z rs ∧ Over z y ∧ y.length ≤ 100000 ∧
  (∀ r ∈ rs, r.old.length ≤ 40 ∧ r.new.length ≤ 1000) ∧ ∀ H', Same H H' → Q (.str (turn rs y)) H'
def spEqR (C : Addr) : Sp := fun vs H Q _ => ∃ (p : Addr) (z : Str) (rs : List Rule) (b : Nat) (v : V), vs = [.ref p, v] ∧ RelayAt C H p z rs ∧ RP b rs ∧
  ((∃ n, Any H v n ∧ Q (.bl false) H) ∨ ∃ (q : Addr) (rs' : List Rule), v = .ref q ∧ RelayAt C H q z rs' ∧ RP b rs' ∧ Q (.bl (rsEq rs rs')) H)
def reprR (z : Str) (rs : List Rule) : Str := (((((Str.empty ++ Str.ofString "Relay(") ++ reprText z) ++ Str.ofString ", ") ++ (PyData.list (rs.map ruleD)).shown) ++ Str.ofString ")")
def spReprR (C : Addr) : Sp := fun vs H Q _ => ∃ (p : Addr) (z : Str) (rs : List Rule), vs = [.ref p] ∧ RelayAt C H p z rs ∧ Abc z ∧ RP 40 rs ∧ rs.length ≤ 400 ∧ Q (.str (reprR z rs)) H
theorem repr_abc {z : Str} (h : Abc z) : (reprText z).length ≤ 42 := by
  have h1 := (Sm.str (h.plain fun c hc => hc)).len
  have h2 : (reprText z).length ≤ 10 * z.length + 2 := h1
  have := h.hi
  omega
theorem RP.sm {b : Nat} {rs : List Rule} (h : RP b rs) : Sm ((20 * b + 77) * rs.length + 2) (.list (rs.map ruleD)) := Sm.rules h
theorem RP.sm40 {rs : List Rule} (h : RP 40 rs) (l : rs.length ≤ 400) : Sm 400000 (.list (rs.map ruleD)) := (RP.sm h).mono (by omega)
end FL
namespace FL
open PySem PySem.Spec PyProof.Rows L2
/-! ### a def by its name, all that a caller needs of it -/
structure Ca (P : Program) (w : World) (K : PySem.W.Frag) (mg : Str → Option Value) (base : Heap) (x : Str) (k : Nat) (ps : List Str) (sp : Sp) : Prop where
  ex : ∃ f fd, FnOk P w K mg base CX0 k f fd ps sp ∧ Binds K fd ps [] ∧ PySem.W.keepIn K (.ref f) = true ∧ mg x = some (.ref f)
structure CaG (P : Program) (w : World) (K : PySem.W.Frag) (mg : Str → Option Value) (base : Heap) (x : Str) (k : Nat) (ps : List Str) (sp : Sp) : Prop where
  ex : ∃ f fd, FnG P w K mg base CX0 k f fd ps sp ∧ Binds K fd ps [] ∧ PySem.W.keepIn K (.ref f) = true ∧ mg x = some (.ref f)
section
variable {X : Cx} {x : Str} {k : Nat} {ps : List Str} {sp : Sp} {p pos : Pos} {e : Expr} {es : List Expr} {t : TA}
theorem pe_ca (c : Ca X.prog X.w X.K X.mg X.base x k ps sp) (hr : Room k X.A) (hg : Gl X x) (ha : PA X (e :: es) t)
    (hdb : (x == ("__debug__" : Str)) = false := by decide) (he : starEach (e :: es) X.env = (false, eval e X.env) :: starEach es X.env := by rfl) (hpl : (backTo pos (starEach es X.env)).any (·.1) = false := by rfl) :
    PE X (.Call (.Name x p) (e :: es) [] pos) (tCall sp [] E0 t) := by
  obtain ⟨f, fd, F, b, kp, m⟩ := c.ex
  exact pe_call F hr hg m kp b .nil pass0 ha hdb he hpl
theorem pe_cg (c : CaG X.prog X.w X.K X.mg X.base x k ps sp) (hr : Room k X.A) (hG : X.A.guards = some []) (hg : Gl X x) (ha : PA X (e :: es) t)
    (hdb : (x == ("__debug__" : Str)) = false := by decide) (he : starEach (e :: es) X.env = (false, eval e X.env) :: starEach es X.env := by rfl) (hpl : (backTo pos (starEach es X.env)).any (·.1) = false := by rfl) :
    PE X (.Call (.Name x p) (e :: es) [] pos) (tCall sp [] E0 t) := by
  obtain ⟨f, fd, F, b, kp, m⟩ := c.ex
  exact pg_call F hr hG hg m kp b .nil pass0 ha hdb he hpl
end
/-! ### the class Relay, all that its users need -/
structure RelF (P : Program) (w : World) (K : PySem.W.Frag) (mg : Str → Option Value) (base : Heap) where
  C : Addr
  T : RTxt K mg C
  I : IsT K C
  fi : Addr
  di : FuncData
  mkc : Mk K C fi
  oi : FnOk P w K mg base CX0 5 fi di ["self", "signs", "rules"] (spInit C)
  bi : Binds K di ["self", "signs", "rules"] []
  ki : KBn K di ["self", "signs", "rules"] 1 ["rules", "signs"] swp swp
  fp : Addr
  fg : Addr
  dg : FuncData
  pr : PropOf K C "signs" fp fg
  og : FnOk P w K mg base CX0 1 fg dg ["self"] (spGet C)
  bg : Binds K dg ["self"] []
  fr : Addr
  dr : FuncData
  mr : Meth K C "rules" fr
  or_ : FnOk P w K mg base CX0 1 fr dr ["self"] (spRules C)
  br : Binds K dr ["self"] []
  fc : Addr
  dc : FuncData
  cc : StX.CallO K C fc
  oc : FnOk P w K mg base CX0 3 fc dc ["self", "line"] (spCall C)
  bc : Binds K dc ["self", "line"] []
  kc : KBn K dc ["self", "line"] 1 ["line"] (fun us ws => us ++ ws) (fun vs zs => vs ++ zs)
  fe : Addr
  de : FuncData
  te : EqT K C fe de
  oe : FnOk P w K mg base CX0 1 fe de ["self", "other"] (spEqR C)
  fz : Addr
  dz : FuncData
  zs : PySem.W.findIn K (.ref C) "__repr__" = some (some (.ref fz))
  zf : PySem.W.isFn K (.ref fz) = true
  oz : FnG P w K mg base CX0 1 fz dz ["self"] (spReprR C)
  bz : Binds K dz ["self"] []
theorem make_read {C : Addr} {H : Hp} {Q : VK} {z : Str} {v : V} {rs : List Rule} (hz : Abc z) (ra : RuArg H v rs) (ok : ∀ r ∈ rs, RuleOk z 40 r) (l : rs.length ≤ 400)
    (k : ∀ (x : Addr) (H' : Hp), H x = none → RelayAt C H' x z rs → Same H H' → Q (.ref x) H') :
    ∀ x dx, H x = none → H dx = none → dx ≠ x → spInit C [.ref x, .str z, v] (upd (upd H dx (.own x)) x (.ins C dx [])) (fun v H3 => v = .non ∧ Q (.ref x) H3) E0 := by
  intro x dx hx hd hne
  have s2 : Same H (upd (upd H dx (.own x)) x (.ins C dx [])) := ((Same.refl H).upd hd).upd hx
  refine ⟨x, dx, z, v, rs, rfl, upd_same, hz, ?_, ok, l, fun H' ra' rel _ b => ⟨rfl, k x H' hx rel.at_ fun c o e => b c o (s2 c o e) (ne_of_none e hx)⟩⟩
  obtain ⟨a, xs, t, rfl, ea, hrs⟩ := ra
  exact ⟨a, xs, t, rfl, s2 _ _ ea, Same.rules s2 hrs⟩
theorem RelayAt.ins {C : Addr} {H : Hp} {p : Addr} {z : Str} {rs : List Rule} (h : RelayAt C H p z rs) : ∃ dx fs, H p = some (.ins C dx fs) ∧ ∀ {m : Str}, ¬ m = Str.ofString "_index" → ¬ m = Str.ofString "_rules" → ¬ m = Str.ofString "_signs" → fs.lookup m = none := by
  obtain ⟨dx, ra, ia, xs, h1, _⟩ := h
  exact ⟨dx, _, h1, fun a b c => flds_no z ra ia a b c⟩
theorem rules_no : ¬ (Str.ofString "rules") = Str.ofString "_index" ∧ ¬ (Str.ofString "rules") = Str.ofString "_rules" ∧ ¬ (Str.ofString "rules") = Str.ofString "_signs" := by decide +kernel
end FL
namespace FL
open PySem PySem.Spec PyProof.Rows L2
theorem RelayAt.nn {C : Addr} {H : Hp} {p : Addr} {z : Str} {rs : List Rule} (h : RelayAt C H p z rs) : H p ≠ none := by
  obtain ⟨dx, fs, e, _⟩ := h.ins
  rw [e]
  exact fun q => nomatch q
/-- what the law asks of the rules of a relay -/
structure Deal (K : PySem.W.Frag) (H : Hp) (D : Addr) (z : Str) (rs : List Rule) : Prop where
  az : Abc z
  ex : ∃ xs, H D = some (.lst xs) ∧ RulesAt H xs rs
  ok : ∀ r ∈ rs, RuleOk z 30 r
  le : rs.length ≤ 100
theorem Deal.rp {K : PySem.W.Frag} {H : Hp} {D : Addr} {z : Str} {rs : List Rule} (d : Deal K H D z rs) : RP 40 rs := fun r hr => by
  have o := d.ok r hr
  exact ⟨d.az.plain o.o1, d.az.plain o.n1, Nat.le_trans o.o2 (by decide), Nat.le_trans o.n2 (by decide)⟩
theorem _root_.L2.Same.sqL {K : PySem.W.Frag} {q : Addr} {H H' : Hp} {xs : List V} (b : Same H H') (h : SqL K H q xs) : SqL K H' q xs := by
  rcases h with (h | ⟨o, h⟩) | h
  · exact .inl (.inl (b _ _ h))
  · exact .inl (.inr ⟨o, b _ _ h⟩)
  · exact .inr h
theorem Deal.same {K : PySem.W.Frag} {H H' : Hp} {D : Addr} {z : Str} {rs : List Rule} (d : Deal K H D z rs) (s : Same H H') : Deal K H' D z rs := by
  obtain ⟨xs, h1, h2⟩ := d.ex
  exact ⟨d.az, ⟨xs, s _ _ h1, Same.rules s h2⟩, d.ok, d.le⟩
def spTold (K : PySem.W.Frag) (C : Addr) : Sp := fun vs H Q _ => ∃ (z : Str) (D p : Addr) (rs : List Rule), vs = [.str z, .ref D, .ref p] ∧ Deal K H D z rs ∧ RelayAt C H p z rs ∧
  ∀ H', Same H H' → Q (.bl true) H'
/-- the shown text of rules -/
def shR (rs : List Rule) : Str := (PyData.list (rs.map ruleD)).shown
theorem Deal.sm {K : PySem.W.Frag} {H : Hp} {D : Addr} {z : Str} {rs : List Rule} (d : Deal K H D z rs) : Sm 400000 (.list (rs.map ruleD)) := d.rp.sm40 (Nat.le_trans d.le (by decide))
theorem Deal.sh {K : PySem.W.Frag} {H : Hp} {D : Addr} {z : Str} {rs : List Rule} (d : Deal K H D z rs) : Sh K H (.ref D) (.list (rs.map ruleD)) := by
  obtain ⟨xs, h1, h2⟩ := d.ex
  exact .inl ⟨dp_list (SqL.of h1) h2, d.sm.nd⟩
theorem sh_str {K : PySem.W.Frag} {H : Hp} (y : Str) : Sh K H (.str y) (.str y) := .inl ⟨.str y, rfl⟩
theorem nice_str {y : Str} (h : Plain y) (l : y.length ≤ 1000000) : NiceD (.str y) := (Sm.str h).nice (by
  have sz : sizeLine = 16777216 := rfl
  omega)
end FL
namespace FL
open PySem PySem.Spec PyProof.Rows L2
theorem empty_app (x : Str) : Str.empty ++ x = x := by
  apply Str_ext
  rw [Str.cps_append, Array.toList_append]
  rfl
theorem reprR_eq (z : Str) (rs : List Rule) : reprR z rs = (((Str.ofString "Relay(" ++ (PyData.str z).shown) ++ Str.ofString ", ") ++ (PyData.list (rs.map ruleD)).shown) ++ Str.ofString ")" := by
  show (((((Str.empty ++ Str.ofString "Relay(") ++ (PyData.str z).shown) ++ Str.ofString ", ") ++ (PyData.list (rs.map ruleD)).shown) ++ Str.ofString ")") = _
  rw [empty_app]
end FL
namespace FL
open PySem PySem.Spec PyProof.Rows L2
/-! ### what stays where only the pot changes -/
theorem But.rules {p : Addr} {H H' : Hp} {xs : List V} {rs : List Rule} (b : But p H H') (hp : PotAt H p) (h : RulesAt H xs rs) : RulesAt H' xs rs := RulesAt.imp h (b.tups hp)
theorem pot_list {H : Hp} {p : Addr} {xs : List V} {rs : List Rule} (hp : PotAt H p) (h : H p = some (.lst xs)) (r : RulesAt H xs rs) : False := by
  obtain ⟨a, b, e, _⟩ := hp
  rw [e] at h
  cases h
  cases r with
  | cons x _ =>
    obtain ⟨t, q, _⟩ := x
    cases q
theorem But.sqR {K : PySem.W.Frag} {p D : Addr} {H H' : Hp} {xs : List V} {rs : List Rule} (b : But p H H') (hp : PotAt H p) (h : SqL K H D xs) (r : RulesAt H xs rs) : SqL K H' D xs := by
  rcases h with (h | ⟨o, h⟩) | h
  · refine .inl (.inl (b _ _ h fun e => ?_))
    subst e
    exact pot_list hp h r
  · refine .inl (.inr ⟨o, b _ _ h fun e => ?_⟩)
    obtain ⟨_, _, q, _⟩ := hp
    rw [e, q] at h
    cases h
  · exact .inr h
theorem Deal.but {K : PySem.W.Frag} {H H' : Hp} {D p : Addr} {z : Str} {rs : List Rule} (d : Deal K H D z rs) (hp : PotAt H p) (b : But p H H') : Deal K H' D z rs := by
  obtain ⟨xs, h1, h2⟩ := d.ex
  exact ⟨d.az, ⟨xs, b _ _ h1 (fun e => by subst e; exact pot_list hp h1 h2), b.rules hp h2⟩, d.ok, d.le⟩
theorem RelayAt.but {C : Addr} {H H' : Hp} {p q : Addr} {z : Str} {rs : List Rule} (h : RelayAt C H p z rs) (hq : PotAt H q) (b : But q H H') : RelayAt C H' p z rs := by
  obtain ⟨dx, ra, ia, xs, h1, h2, h3, kvs, h4, h5, h6⟩ := h
  obtain ⟨_, _, e, _⟩ := id hq
  have n : ∀ {c : Addr} {o : HO}, H c = some o → (∀ l, o ≠ .lst l) → c ≠ q := fun {c o} ec no q' => by
    rw [q', e] at ec
    exact no _ (Option.some.inj ec).symm
  refine ⟨dx, ra, ia, xs, b _ _ h1 (n h1 fun l z => by cases z), b _ _ h2 (fun q' => ?_), b.rules hq h3, kvs, b _ _ h4 (n h4 fun l z => by cases z), h5, h6.imp (b.tups hq)⟩
  subst q'
  exact pot_list hq h2 h3
theorem Same.pot {H H' : Hp} {p : Addr} (s : Same H H') (h : PotAt H p) : PotAt H' p := by
  obtain ⟨a, b, e, r⟩ := h
  exact ⟨a, b, s _ _ e, r⟩
/-! ### turned lines -/
theorem turn_note {z : Str} {b : Nat} : ∀ {rs : List Rule} {y : Str}, (∀ r ∈ rs, RuleOk z b r) → Over z y → Over z (turn rs y) ∧ (turn rs y).length ≤ y.length + b
  | [], y, _, o => ⟨o, Nat.le_add_right _ _⟩
  | r :: rs, y, h, o => by
    have hr := h r List.mem_cons_self
    show Over z (if fits r y = true then turnR r y else turn rs y) ∧ (if fits r y = true then turnR r y else turn rs y).length ≤ _
    by_cases hf : fits r y = true
    · rw [if_pos hf]
      obtain ⟨f, ol, nw⟩ := r
      cases f with
      | true =>
        show Over z (nw ++ cutS y (some (ol.length : Int)) none) ∧ (nw ++ cutS y (some (ol.length : Int)) none).length ≤ _
        refine ⟨over_app hr.n1 (over_cut o _ _), ?_⟩
        rw [len_app]
        have := cutS_length y (some (ol.length : Int)) none
        have h2 : nw.length ≤ b := hr.n2
        omega
      | false => exact ⟨hr.n1, Nat.le_trans hr.n2 (Nat.le_add_left _ _)⟩
    · rw [if_neg hf]
      exact turn_note (fun r' hr' => h r' (List.mem_cons_of_mem _ hr')) o
def spTurns (K : PySem.W.Frag) (C : Addr) : Sp := fun vs H Q _ => ∃ (q : Addr) (z : Str) (D p : Addr) (rs : List Rule), vs = [.ref q, .str z, .ref D, .ref p] ∧ PotAt H q ∧ Deal K H D z rs ∧ RelayAt C H p z rs ∧
  ∀ H', PotAt H' q → But q H H' → Q (.bl true) H'
/-- a line of the signs that is not too long -/
def Ln (z y : Str) : Prop := Over z y ∧ y.length ≤ 3000
theorem three_sm {z y : Str} (az : Abc z) (o : Over z y) (l : y.length ≤ 5000) : Sm 400000 (.list [.str y, .str y, .str y]) := by
  have s := (Sm.str (az.plain o)).mono (show 10 * y.length + 2 ≤ 50002 by omega)
  exact (Sm.list (k := 0) (SmL.cons s (Nat.le_refl _) (SmL.cons s (Nat.le_refl _) (SmL.cons s (Nat.le_refl _) SmL.nil))) (by decide)).mono (by decide)
end FL
namespace FL
open PySem PySem.Spec PyProof.Rows L2
theorem snoc_of {α : Type} : ∀ {l : List α}, 0 < l.length → ∃ i x, l = i ++ [x]
  | [], h => absurd h (Nat.lt_irrefl 0)
  | a :: r, _ => by
    cases r with
    | nil => exact ⟨[], a, rfl⟩
    | cons b r =>
      obtain ⟨i, x, e⟩ := snoc_of (l := b :: r) (Nat.succ_pos _)
      exact ⟨a :: i, x, by rw [e]; rfl⟩
theorem atI_0 {α : Type} {a b : α} {r : List α} : atI (a :: b :: r) 0 = some a := atI_nat (j := 0) rfl
theorem atI_1 {α : Type} {a b : α} {r : List α} : atI (a :: b :: r) 1 = some b := atI_nat (j := 1) rfl
theorem two_signs {z : Str} (h : 2 ≤ z.length) : ∃ a b r, z.cps.toList = a :: b :: r := by
  rw [str_len] at h
  cases e : z.cps.toList with
  | nil =>
    rw [e] at h
    exact absurd h (by decide)
  | cons a l =>
    cases l with
    | nil =>
      rw [e] at h
      simp at h
    | cons b r => exact ⟨a, b, r, rfl⟩
theorem over_rep {z : Str} {c n : Nat} (h : c ∈ z.cps.toList) : Over z (repS ⟨#[c]⟩ n) := fun d hd => by
  have := repS_mem hd
  have e : d = c := by simpa using this
  rw [e]
  exact h
theorem rep_len (c n : Nat) : (repS ⟨#[c]⟩ n).length = n := by
  rw [repS_len]
  show n * 1 = n
  exact Nat.mul_one n
end FL
namespace FL
open PySem PySem.Spec PyProof.Rows L2
/-! ### rules that are hidden -/
theorem cut_pre (y : Str) (n : Nat) : (cutS y none (some (n : Int))).cps.toList = y.cps.toList.take n := by
  show ((y.cps.toList.drop (HT.sIx y.length 0 none)).take (HT.sIx y.length y.length (some (n : Int)) - HT.sIx y.length 0 none)).toArray.toList = _
  rw [HT.sIx_nat, HT.sIx_none]
  show (y.cps.toList.drop 0).take (min n y.length - 0) = _
  rw [List.drop_zero, Nat.sub_zero, str_len]
  by_cases h : n ≤ y.cps.toList.length
  · rw [Nat.min_eq_left h]
  · rw [Nat.min_eq_right (by omega), List.take_of_length_le (Nat.le_refl _), List.take_of_length_le (by omega)]
theorem pre_iff {y b : Str} : cutS y none (some (b.length : Int)) = b ↔ y.cps.toList.take b.cps.toList.length = b.cps.toList := by
  rw [← str_len]
  constructor
  · intro h
    rw [← cut_pre, h]
  · intro h
    apply Str_ext
    rw [cut_pre, h]
/-- an earlier rule says all that this one says -/
def hides (e r : Rule) : Bool := (e.fr && decide (cutS r.old none (some (e.old.length : Int)) = e.old)) || (decide (e.fr = r.fr) && decide (e.old = r.old))
theorem pre_trans {y o b : Str} (h1 : cutS o none (some (b.length : Int)) = b) (h2 : cutS y none (some (o.length : Int)) = o) : cutS y none (some (b.length : Int)) = b := by
  rw [pre_iff] at h1 h2 ⊢
  have l := congrArg List.length h1
  rw [List.length_take] at l
  rw [← h2, List.take_take, Nat.min_eq_left (by omega)] at h1
  exact h1
theorem hides_fits {e r : Rule} {y : Str} (h : hides e r = true) (hf : fits r y = true) : fits e y = true := by
  unfold hides at h
  rcases Bool.or_eq_true_iff.mp h with h | h
  · obtain ⟨h1, h2⟩ := Bool.and_eq_true_iff.mp h
    have h3 := of_decide_eq_true h2
    clear h2
    obtain ⟨f, o, n⟩ := e
    obtain ⟨f', o', n'⟩ := r
    dsimp only at h1 h3
    subst h1
    show decide (cutS y none (some (o.length : Int)) = o) = true
    apply decide_eq_true
    cases f' with
    | true => exact pre_trans h3 (of_decide_eq_true hf)
    | false =>
      have e' : y = o' := of_decide_eq_true hf
      rw [e']
      exact h3
  · obtain ⟨h1, h2⟩ := Bool.and_eq_true_iff.mp h
    rw [fits_same (r := r) ⟨of_decide_eq_true h1, of_decide_eq_true h2⟩]
    exact hf
theorem turn_fit : ∀ {l s : List Rule} {y : Str}, (∃ r ∈ l, fits r y = true) → turn (l ++ s) y = turn l y
  | [], _, _, ⟨_, h, _⟩ => nomatch h
  | a :: l, s, y, ⟨r, hr, hf⟩ => by
    show (if fits a y = true then _ else turn (l ++ s) y) = (if fits a y = true then _ else turn l y)
    by_cases ha : fits a y = true
    · rw [if_pos ha, if_pos ha]
    · rw [if_neg ha, if_neg ha]
      rcases List.mem_cons.mp hr with rfl | h
      · exact absurd hf ha
      · exact turn_fit ⟨r, h, hf⟩
theorem turn_none : ∀ {l s : List Rule} {y : Str}, (∀ r ∈ l, fits r y = false) → turn (l ++ s) y = turn s y
  | [], _, _, _ => rfl
  | a :: l, s, y, h => by
    show (if fits a y = true then _ else turn (l ++ s) y) = _
    rw [h a List.mem_cons_self, if_neg Bool.false_ne_true]
    exact turn_none fun r hr => h r (List.mem_cons_of_mem _ hr)
theorem fit_or (l : List Rule) (y : Str) : (∃ r ∈ l, fits r y = true) ∨ ∀ r ∈ l, fits r y = false := by
  rcases exists_first (rs := l) (y := y) with h | ⟨i, r, h1, h2, _⟩
  · exact .inr h
  · exact .inl ⟨r, List.mem_of_getElem? h1, h2⟩
theorem turn_skip {l t : List Rule} {r : Rule} (h : l.any (fun e => hides e r) = true) (y : Str) : turn (l ++ r :: t) y = turn (l ++ t) y := by
  obtain ⟨e, he, hh⟩ := List.any_eq_true.mp h
  rcases fit_or l y with hl | hl
  · rw [turn_fit hl, turn_fit hl]
  · rw [turn_none hl, turn_none hl]
    have : fits r y = false := by
      cases q : fits r y with
      | false => rfl
      | true =>
        have := hides_fits hh q
        rw [hl e he] at this
        cases this
    show (if fits r y = true then _ else turn t y) = _
    rw [this, if_neg Bool.false_ne_true]
theorem turn_again {l t : List Rule} (h : ∀ r ∈ t, r ∈ l) (y : Str) : turn (l ++ t) y = turn l y := by
  rcases fit_or l y with hl | hl
  · exact turn_fit hl
  · rw [turn_none hl, turn_no hl, turn_no fun r hr => hl r (h r hr)]
theorem turn_void {l : List Rule} (y : Str) : turn (l ++ [⟨true, Str.ofString "", Str.ofString ""⟩]) y = turn l y := by
  rcases fit_or l y with hl | hl
  · exact turn_fit hl
  · rw [turn_none hl, turn_no hl]
    have e0 : (Str.ofString "").cps.toList = [] := by decide +kernel
    have l0 : (Str.ofString "").length = 0 := by decide +kernel
    have hf : fits ⟨true, Str.ofString "", Str.ofString ""⟩ y = true := by
      show decide (cutS y none (some ((Str.ofString "").length : Int)) = Str.ofString "") = true
      exact decide_eq_true (pre_iff.mpr (by rw [e0]; rfl))
    show (if fits ⟨true, Str.ofString "", Str.ofString ""⟩ y = true then Str.ofString "" ++ cutS y (some ((Str.ofString "").length : Int)) none else y) = y
    rw [if_pos hf, l0]
    apply Str_ext
    rw [Str.cps_append, Array.toList_append, e0]
    show ((y.cps.toList.drop (HT.sIx y.length 0 (some ((0 : Nat) : Int)))).take (HT.sIx y.length y.length none - HT.sIx y.length 0 (some ((0 : Nat) : Int)))).toArray.toList = _
    rw [HT.sIx_nat, HT.sIx_none, Nat.zero_min, Nat.sub_zero, List.drop_zero, List.take_of_length_le (by rw [← str_len]; exact Nat.le_refl _)]
theorem eqv_key (a b : Rule) : PyData.eqv (.tuple [.str (kd a.fr), .str a.old]) (.tuple [.str (kd b.fr), .str b.old]) = (decide (a.fr = b.fr) && decide (a.old = b.old)) := by
  obtain ⟨f, o, n⟩ := a
  obtain ⟨f', o', n'⟩ := b
  show ((kd f == kd f') && ((o == o') && true)) = _
  rw [Bool.and_true]
  have e1 : (kd f == kd f') = decide (f = f') := by
    by_cases h : f = f'
    · subst h
      simp
    · rw [decide_eq_false h]
      have : kd f ≠ kd f' := by
        cases f <;> cases f' <;> first | exact absurd rfl h | exact kd_ne | exact Ne.symm kd_ne
      simpa using this
  have e2 : (o == o') = decide (o = o') := by
    by_cases h : o = o'
    · subst h
      simp
    · rw [decide_eq_false h]
      simpa using h
  rw [e1, e2]
theorem pick_rules {H : Hp} {xs : List V} {rs : List Rule} (h : RulesAt H xs rs) : ∀ {ys : List V}, (∀ y ∈ ys, y ∈ xs) → ∃ ts, RulesAt H ys ts ∧ ∀ t ∈ ts, t ∈ rs
  | [], _ => ⟨[], .nil, fun _ q => nomatch q⟩
  | y :: ys, m => by
    obtain ⟨ts, h1, h2⟩ := pick_rules h (ys := ys) fun v hv => m v (List.mem_cons_of_mem _ hv)
    obtain ⟨t, ht, hr⟩ := paired_mem h (m y List.mem_cons_self)
    refine ⟨t :: ts, .cons hr h1, fun u hu => ?_⟩
    rcases List.mem_cons.mp hu with rfl | hu
    · exact ht
    · exact h2 u hu
theorem paired_app {α β : Type} {R : α → β → Prop} : ∀ {xs zs : List α} {ys ws : List β}, Paired R xs ys → Paired R zs ws → Paired R (xs ++ zs) (ys ++ ws)
  | _, _, _, _, .nil, h => h
  | _, _, _, _, .cons a b, h => .cons a (paired_app b h)
/-! ### a call of an instance, its reading without the context -/
def tCallP (C : Addr) (sp : Sp) (tf : TE) (t : TA) : TE := fun σ H Q => tf σ H fun y H1 => ∃ a, y = V.ref a ∧ t σ H1 fun vs H2 => (∃ dx fs, H2 a = some (.ins C dx fs)) ∧ sp (V.ref a :: vs) H2 Q E0
theorem pe_callP {X : Cx} {C g : Addr} {fd : FuncData} {ps : List Str} {sp : Sp} {k : Nat} {fe e : Expr} {es : List Expr} {pos : Pos} {tf : TE} {t : TA} (hf : PE X fe tf) (c : StX.CallO X.K C g) (F : FnOk X.prog X.w X.K X.mg X.base CX0 k g fd ps sp)
    (hb : Binds X.K fd ps []) (hr : Room k X.A) (ha : PA X (e :: es) t)
    (ht : eval (.Call fe (e :: es) [] pos) X.env = (do callWith pos (← eval fe X.env) [] (backTo pos (starEach (e :: es) X.env)) (backToKw pos (keywordEach [] X.env))) := by rfl)
    (he : starEach (e :: es) X.env = (false, eval e X.env) :: starEach es X.env := by rfl) (hpl : (backTo pos (starEach es X.env)).any (·.1) = false := by rfl) : PE X (.Call fe (e :: es) [] pos) (tCallP C sp tf t) := by
  have G := F.raw hb .nil
  refine ⟨fun pins s σ H Q I h => ?_⟩
  rw [ht]
  refine wpAny_bind (thn (hf.run pins s σ H _ I h) fun u s1 hu => ?_)
  obtain ⟨y, H1, I1, ry, a, ey, q⟩ := hu
  subst ey
  obtain rfl : u = Value.ref a := ry
  refine StX.callO_with (thn (ha.run pos pins s1 σ H1 _ I1 q) fun us s2 hw => ?_) he hpl
  obtain ⟨vs, H2, I2, r, ⟨dx, fs, ea⟩, q2⟩ := hw
  obtain ⟨ox, od, J, hd⟩ := StX.insC_at I2 (.inr ⟨dx, fs, ea⟩)
  refine ⟨⟨C, ox, od, J, hd⟩, StX.run_callO c G hr pass0 I2 (.inr ⟨dx, fs, ea⟩) r ?_⟩
  show sp ((V.ref a :: vs) ++ []) H2 Q E0
  rw [List.append_nil]
  exact q2
def spHidR (K : PySem.W.Frag) (C : Addr) : Sp := fun vs H Q _ => ∃ (q : Addr) (z : Str) (D p : Addr) (rs : List Rule), vs = [.ref q, .str z, .ref D, .ref p] ∧ PotAt H q ∧ Deal K H D z rs ∧ RelayAt C H p z rs ∧
  ∀ H', PotAt H' q → But q H H' → Q (.bl true) H'
end FL
namespace FL
open PySem PySem.Spec PyProof.Rows L2
theorem key_sm {f : Bool} {o : Str} (h : Plain o) (l : o.length ≤ 40) : Sm 2000 (.tuple [.str (kd f), .str o]) := by
  have a0 := Sm.str (kd_plain f)
  rw [kd_len] at a0
  exact (Sm.tuple (k := 0) (SmL.cons a0 (Nat.le_refl _) (SmL.cons ((Sm.str h).mono (show _ ≤ 500 by omega)) (Nat.le_refl _) SmL.nil)) (by decide)).mono (by decide)
theorem any_take {α : Type} {l : List α} {j : Nat} {e : α} (f : α → Bool) (h : l[j]? = some e) : (l.take (j + 1)).any f = ((l.take j).any f || f e) := by
  rw [take_snoc h, List.any_append]
  simp
theorem drop_at {α : Type} {l : List α} {i : Nat} {r : α} (h : l[i]? = some r) : l.drop i = r :: l.drop (i + 1) := by
  obtain ⟨hi, e⟩ := List.getElem?_eq_some_iff.mp h
  rw [List.drop_eq_getElem_cons hi, e]
theorem Same.tups {H H' : Hp} (s : Same H H') : ∀ t a, H t = some (.tup a) → H' t = some (.tup a) := fun t a e => s t _ e
end FL
namespace FL
open PySem PySem.Spec PyProof.Rows L2
theorem make_one {C : Addr} {H : Hp} {G : Hp → Prop} {z : Str} {v : V} {rs : List Rule} {x dx : Addr} (hz : Abc z) (ra : RuArg H v rs) (ok : ∀ r ∈ rs, RuleOk z 40 r) (l : rs.length ≤ 400) (hx : H x = none) (hd : H dx = none) (hne : dx ≠ x)
    (k : ∀ H', RelayAt C H' x z rs → Same H H' → G H') : spInit C [.ref x, .str z, v] (upd (upd H dx (.own x)) x (.ins C dx [])) (fun v H3 => v = .non ∧ G H3) E0 := by
  have s2 : Same H (upd (upd H dx (.own x)) x (.ins C dx [])) := ((Same.refl H).upd hd).upd hx
  refine ⟨x, dx, z, v, rs, rfl, upd_same, hz, ?_, ok, l, fun H' ra' rel _ b => ⟨rfl, k H' rel.at_ fun c o e => b c o (s2 c o e) (ne_of_none e hx)⟩⟩
  obtain ⟨a, xs, t, rfl, ea, hrs⟩ := ra
  exact ⟨a, xs, t, rfl, s2 _ _ ea, Same.rules s2 hrs⟩
end FL
namespace FL
open PySem PySem.Spec PyProof.Rows L2
theorem void_ok {z : Str} : RuleOk z 40 ⟨true, Str.ofString "", Str.ofString ""⟩ := by
  have e0 : (Str.ofString "").cps.toList = [] := by decide +kernel
  have l0 : (Str.ofString "").length = 0 := by decide +kernel
  have o : Over z (Str.ofString "") := fun c hc => by
    rw [e0] at hc
    cases hc
  exact ⟨o, by show (Str.ofString "").length ≤ 40; omega, o, by show (Str.ofString "").length ≤ 40; omega⟩
/-- three relays that turn each line as these rules do -/
structure Mate (C : Addr) (H : Hp) (x : Addr) (z : Str) (rs : List Rule) : Prop where
  ex : ∃ L, RelayAt C H x z L ∧ (∀ r ∈ L, r.old.length ≤ 40 ∧ r.new.length ≤ 1000) ∧ ∀ y, turn L y = turn rs y
theorem Mate.same {C : Addr} {H H' : Hp} {x : Addr} {z : Str} {rs : List Rule} (m : Mate C H x z rs) (s : Same H H') : Mate C H' x z rs := by
  obtain ⟨L, a, b, c⟩ := m.ex
  exact ⟨L, a.same s, b, c⟩
theorem ok_lens {z : Str} {rs : List Rule} (h : ∀ r ∈ rs, RuleOk z 40 r) : ∀ r ∈ rs, r.old.length ≤ 40 ∧ r.new.length ≤ 1000 := fun r hr => ⟨(h r hr).o2, Nat.le_trans (h r hr).n2 (by decide)⟩
end FL
namespace FL
open PySem PySem.Spec PyProof.Rows L2
theorem RelayAt.updL {C C' : Addr} {H : Hp} {p M a d : Addr} {f : List (Str × V)} {z : Str} {rs : List Rule} {vs ws : List V} (h : RelayAt C H p z rs) (hM : H M = some (.lst (.ref a :: vs))) (ha : H a = some (.ins C' d f)) : RelayAt C (upd H M (.lst ws)) p z rs := by
  obtain ⟨dx, ra, ia, xs, h1, h2, h3, kvs, h4, h5, h6⟩ := h
  have tp : ∀ t b, H t = some (.tup b) → upd H M (.lst ws) t = some (.tup b) := fun t b e => by
    rw [upd_ne (ne_of e hM (by intro q; cases q))]
    exact e
  refine ⟨dx, ra, ia, xs, ?_, ?_, RulesAt.imp h3 tp, kvs, ?_, h5, h6.imp tp⟩
  · rw [upd_ne (ne_of h1 hM (by intro q; cases q))]
    exact h1
  · have n : ra ≠ M := fun e => by
      subst e
      rw [hM] at h2
      cases h2
      cases h3 with
      | cons x _ =>
        obtain ⟨t, q, g⟩ := x
        cases q
        rw [ha] at g
        cases g
    rw [upd_ne n]
    exact h2
  · rw [upd_ne (ne_of h4 hM (by intro q; cases q))]
    exact h4
end FL
namespace FL
open PySem PySem.Spec PyProof.Rows L2
theorem make_oneR {C : Addr} {H : Hp} {G : Hp → Prop} {z : Str} {v : V} {rs : List Rule} {x dx : Addr} (hz : Abc z) (ra : RuArg H v rs) (ok : ∀ r ∈ rs, RuleOk z 40 r) (l : rs.length ≤ 400) (hx : H x = none) (hd : H dx = none) (hne : dx ≠ x)
    (k : ∀ (H' : Hp) (ra : Addr), RelayR C H' x z rs ra → H ra = none → Same H H' → G H') : spInit C [.ref x, .str z, v] (upd (upd H dx (.own x)) x (.ins C dx [])) (fun v H3 => v = .non ∧ G H3) E0 := by
  have s2 : Same H (upd (upd H dx (.own x)) x (.ins C dx [])) := ((Same.refl H).upd hd).upd hx
  refine ⟨x, dx, z, v, rs, rfl, upd_same, hz, ?_, ok, l, fun H' ra' rel hn b => ⟨rfl, k H' ra' rel (s2.none hn) fun c o e => b c o (s2 c o e) (ne_of_none e hx)⟩⟩
  obtain ⟨a, xs, t, rfl, ea, hrs⟩ := ra
  exact ⟨a, xs, t, rfl, s2 _ _ ea, Same.rules s2 hrs⟩
end FL
namespace FL
open PySem PySem.Spec PyProof.Rows L2
/-! ### lists of rules, gathered -/
def RL (H : Hp) (z : Str) (a : Addr) : Prop := ∃ xs rs, H a = some (.lst xs) ∧ RulesAt H xs rs ∧ (∀ r ∈ rs, RuleOk z 40 r) ∧ rs.length ≤ 400
theorem RL.same {H H' : Hp} {z : Str} {a : Addr} (h : RL H z a) (s : Same H H') : RL H' z a := by
  obtain ⟨xs, rs, h1, h2, h3, h4⟩ := h
  exact ⟨xs, rs, s _ _ h1, Same.rules s h2, h3, h4⟩
theorem RL.updS {H : Hp} {z : Str} {a S : Addr} {ss ws : List V} (h : RL H z a) (hS : H S = some (.lst ss)) (n : a ≠ S) : RL (upd H S (.lst ws)) z a := by
  obtain ⟨xs, rs, h1, h2, h3, h4⟩ := h
  refine ⟨xs, rs, by rw [upd_ne n]; exact h1, RulesAt.imp h2 fun t b e => ?_, h3, h4⟩
  rw [upd_ne (ne_of e hS (by intro q; cases q))]
  exact e
structure Sm1 (H : Hp) (S : Addr) (z : Str) (As : List Addr) : Prop where
  at_ : H S = some (.lst (As.map V.ref))
  all : ∀ a ∈ As, a ≠ S ∧ RL H z a
theorem Sm1.same {H H' : Hp} {S : Addr} {z : Str} {As : List Addr} (h : Sm1 H S z As) (s : Same H H') : Sm1 H' S z As :=
  ⟨s _ _ h.at_, fun a ha => ⟨(h.all a ha).1, (h.all a ha).2.same s⟩⟩
theorem Sm1.add {H : Hp} {S a : Addr} {z : Str} {As : List Addr} (h : Sm1 H S z As) (ha : RL H z a) (n : a ≠ S) : Sm1 (upd H S (.lst (As.map V.ref ++ [.ref a]))) S z (As ++ [a]) := by
  refine ⟨by rw [upd_same, List.map_append]; rfl, fun b hb => ?_⟩
  rcases List.mem_append.mp hb with hb | hb
  · exact ⟨(h.all b hb).1, (h.all b hb).2.updS h.at_ (h.all b hb).1⟩
  · rw [List.mem_singleton.mp hb]
    exact ⟨n, ha.updS h.at_ n⟩
theorem paired_take {α β : Type} {R : α → β → Prop} : ∀ {xs : List α} {ys : List β}, Paired R xs ys → ∀ n, Paired R (xs.take n) (ys.take n)
  | _, _, .nil, n => by rw [List.take_nil, List.take_nil]; exact .nil
  | _, _, .cons a b, 0 => .nil
  | _, _, .cons a b, n + 1 => .cons a (paired_take b n)
theorem paired_drop {α β : Type} {R : α → β → Prop} : ∀ {xs : List α} {ys : List β}, Paired R xs ys → ∀ n, Paired R (xs.drop n) (ys.drop n)
  | _, _, .nil, n => by rw [List.drop_nil, List.drop_nil]; exact .nil
  | _, _, .cons a b, 0 => .cons a b
  | _, _, .cons a b, n + 1 => paired_drop b n
theorem paired_rev {α β : Type} {R : α → β → Prop} : ∀ {xs : List α} {ys : List β}, Paired R xs ys → Paired R xs.reverse ys.reverse
  | _, _, .nil => .nil
  | _, _, .cons a b => by
    rw [List.reverse_cons, List.reverse_cons]
    exact paired_snoc (paired_rev b) a
/-- a slice of rules is one -/
theorem cut_rules {H : Hp} {xs : List V} {rs : List Rule} (h : RulesAt H xs rs) (lo hi : Option Int) : ∃ ts, RulesAt H (cutV xs lo hi) ts ∧ (∀ t ∈ ts, t ∈ rs) ∧ ts.length ≤ rs.length := by
  refine ⟨(rs.drop (HT.sIx xs.length 0 lo)).take (HT.sIx xs.length xs.length hi - HT.sIx xs.length 0 lo), paired_take (paired_drop h _) _, fun t ht => List.mem_of_mem_drop (List.mem_of_mem_take ht), ?_⟩
  rw [List.length_take, List.length_drop]
  omega
def spEqual (K : PySem.W.Frag) (C : Addr) : Sp := fun vs H Q _ => ∃ (q : Addr) (z : Str) (D p : Addr) (rs : List Rule), vs = [.ref q, .str z, .ref D, .ref p] ∧ Deal K H D z rs ∧ RelayAt C H p z rs ∧
  ∀ H', Same H H' → Q (.bl true) H'
theorem rp_ok {z : Str} {rs : List Rule} (az : Abc z) (h : ∀ r ∈ rs, RuleOk z 40 r) : RP 40 rs := fun r hr => ⟨az.plain (h r hr).o1, az.plain (h r hr).n1, (h r hr).o2, (h r hr).n2⟩
theorem bools_sm (a b c : Bool) : Sm 100 (.list [.bool a, .bool b, .bool c]) :=
  (Sm.list (k := 0) (SmL.cons (Sm.bool a) (Nat.le_refl _) (SmL.cons (Sm.bool b) (Nat.le_refl _) (SmL.cons (Sm.bool c) (Nat.le_refl _) SmL.nil))) (by decide)).mono (by decide)
end FL
namespace FL
open PySem PySem.Spec PyProof.Rows L2
theorem comp_tail {H0 Hi : Hp} {C T : Addr} {ws : List V} {ts : List Rule} {r : Rule} (sj : Same H0 Hi) (hC0 : H0 C = none) (hC : Hi C = some (.lst ws)) (hw : RulesAt Hi ws ts) (hT : Hi T = none) :
    (upd Hi T (.tup (ruleV r))) C = some (.lst ws) ∧ Same H0 (upd (upd Hi T (.tup (ruleV r))) C (.lst (ws ++ [.ref T]))) ∧ RulesAt (upd (upd Hi T (.tup (ruleV r))) C (.lst (ws ++ [.ref T]))) (ws ++ [.ref T]) (ts ++ [r]) := by
  have n : C ≠ T := ne_of_none hC hT
  refine ⟨by rw [upd_ne n]; exact hC, (sj.upd (sj.none hT)).upd hC0, paired_snoc (RulesAt.imp hw fun t a e => ?_) ⟨T, rfl, ?_⟩⟩
  · rw [upd_ne (ne_of e hC (by intro q; cases q)), upd_ne (ne_of_none e hT)]
    exact e
  · rw [upd_ne (Ne.symm n), upd_same]
theorem map_take {α β : Type} {l : List α} {i : Nat} {x : α} (f : α → β) (h : l[i]? = some x) : (l.take (i + 1)).map f = (l.take i).map f ++ [f x] := by
  rw [take_snoc h, List.map_append]
  rfl
theorem void_rule {H : Hp} {T : Addr} {f : Bool} (h : H T = some (.tup [.str (kd f), .str (Str.ofString ""), .str (Str.ofString "")])) : RuleAt H (.ref T) ⟨f, Str.ofString "", Str.ofString ""⟩ := ⟨T, rfl, h⟩
theorem void_ok2 {z : Str} {f : Bool} : RuleOk z 40 ⟨f, Str.ofString "", Str.ofString ""⟩ := ⟨(void_ok (z := z)).o1, (void_ok (z := z)).o2, (void_ok (z := z)).n1, (void_ok (z := z)).n2⟩
end FL
namespace FL
open PySem PySem.Spec PyProof.Rows L2
def flipR (r : Rule) : Rule := ⟨!r.fr, r.old, r.new⟩
def newR (c : Nat) (r : Rule) : Rule := ⟨r.fr, r.old, r.new ++ ⟨#[c]⟩⟩
def oldR (c : Nat) (r : Rule) : Rule := ⟨r.fr, r.old ++ ⟨#[c]⟩, r.new⟩
theorem flip_ok {z : Str} {rs : List Rule} (h : ∀ r ∈ rs, RuleOk z 40 r) : ∀ r ∈ rs, RuleOk z 40 (flipR r) := fun r hr => ⟨(h r hr).o1, (h r hr).o2, (h r hr).n1, (h r hr).n2⟩
theorem new_ok {z : Str} {c : Nat} (hc : c ∈ z.cps.toList) {rs : List Rule} (h : ∀ r ∈ rs, RuleOk z 30 r) : ∀ r ∈ rs, RuleOk z 40 (newR c r) := fun r hr =>
  ⟨(h r hr).o1, Nat.le_trans (h r hr).o2 (by decide), over_app (h r hr).n1 (over_one hc), by
    show (r.new ++ ⟨#[c]⟩).length ≤ 40
    rw [len_app, len_one]
    have := (h r hr).n2
    omega⟩
theorem old_ok {z : Str} {c : Nat} (hc : c ∈ z.cps.toList) {rs : List Rule} (h : ∀ r ∈ rs, RuleOk z 30 r) : ∀ r ∈ rs, RuleOk z 40 (oldR c r) := fun r hr =>
  ⟨over_app (h r hr).o1 (over_one hc), by
    show (r.old ++ ⟨#[c]⟩).length ≤ 40
    rw [len_app, len_one]
    have := (h r hr).o2
    omega, (h r hr).n1, Nat.le_trans (h r hr).n2 (by decide)⟩
end FL
namespace FL
open PySem PySem.Spec PyProof.Rows L2
theorem Deal.updL {K : PySem.W.Frag} {H : Hp} {D L : Addr} {z : Str} {rs : List Rule} {vs ws : List V} (d : Deal K H D z rs) (hL : H L = some (.lst vs)) (n : D ≠ L) : Deal K (upd H L (.lst ws)) D z rs := by
  obtain ⟨xs, h1, h2⟩ := d.ex
  refine ⟨d.az, ⟨xs, by rw [upd_ne n]; exact h1, RulesAt.imp h2 fun t b e => ?_⟩, d.ok, d.le⟩
  rw [upd_ne (ne_of e hL (by intro q; cases q))]
  exact e
def spRight : Sp := fun vs H Q _ => ∃ q : Addr, vs = [.ref q] ∧ PotAt H q ∧ ∀ H', PotAt H' q → But q H H' → Q (.bl true) H'
def spLaw (K : PySem.W.Frag) : Sp := fun vs H Q _ => ∃ (a : Addr) (ns : List Int), vs = [.ref a] ∧ SqL K H a (ns.map V.int) ∧ ns.length ≤ 63 ∧ ∀ H', Q (.bl true) H'
theorem repr_bare (z : Str) : reprR z [] = (Str.ofString "Relay(" ++ (PyData.str z).shown) ++ Str.ofString ", [])" := by
  rw [reprR_eq]
  have e : (PyData.list (([] : List Rule).map ruleD)).shown = Str.ofString "[]" := by decide +kernel
  rw [e]
  generalize Str.ofString "Relay(" ++ (PyData.str z).shown = x
  apply Str_ext
  have e2 : (Str.ofString ", ").cps.toList ++ ((Str.ofString "[]").cps.toList ++ (Str.ofString ")").cps.toList) = (Str.ofString ", [])").cps.toList := by decide +kernel
  rw [Str.cps_append, Str.cps_append, Str.cps_append, Str.cps_append, Array.toList_append, Array.toList_append, Array.toList_append, Array.toList_append, ← e2, List.append_assoc, List.append_assoc]
theorem all_true : ∀ n : Nat, (List.replicate n true).all id = true
  | 0 => rfl
  | n + 1 => by
    rw [List.replicate_succ]
    exact all_true n
end FL
namespace FL
open PySem PySem.Spec PyProof.Rows L2
/-! ### the end of a law whose promise wants that no repr is under way -/
/-- the script alone, locked, unless the module holds it -/
def onlyH (K : PySem.W.Frag) (a : Addr) (o : Obj) (ns : List Int) : Hp := fun b => if b = a ∧ K.lookup a = none then some (.frz o (.lst (ns.map V.int))) else none
theorem only_at {K : PySem.W.Frag} {a b : Addr} {o : Obj} {ns : List Int} {u : HO} (h : onlyH K a o ns b = some u) : b = a ∧ K.lookup a = none ∧ u = .frz o (.lst (ns.map V.int)) := by
  unfold onlyH at h
  by_cases c : b = a ∧ K.lookup a = none
  · rw [if_pos c] at h
    exact ⟨c.1, c.2, (Option.some.inj h).symm⟩
  · rw [if_neg c] at h
    cases h
theorem endG {P : Program} {w : World} {K : PySem.W.Frag} {mg mb : Str → Option Value} {k : Nat} {fa a : Addr} {fd : FuncData} {x : Str} {sp : Sp} {s : Shared} {vs : List Value} {ns : List Int}
    (kx : K.In s.heap) (gl : s.heap.Ns mainGlobals mg) (bl : s.heap.Ns builtinsNs mb) (bb : ∀ y : Str, y ≠ "__name__" → mb y = bootBuiltins y) (nl : s.heap.NoLimit) (ng : s.gens = #[])
    (oa : s.heap.get? a = some { cls := .type "list", data := .seq vs.toArray }) (hi : IntsAre vs ns) (le : ns.length ≤ sizeLine) (rm : Room k callerA)
    (F : ∀ base : Heap, K.In base → base.Ns mainGlobals mg → FnG P w K mg base CX0 k fa fd [x] sp) (bd : ∀ (s : Shared) (u : Value), BindsTo s fd ⟨[u], []⟩ [(x, u)])
    (pr : ∀ H : Hp, SqL K H a (ns.map V.int) → sp [.ref a] H (fun v _ => v = .bl true) fun _ _ _ => False) :
    codeAny (model P w) callerA (.call (.ref fa) ⟨[.ref a], []⟩) (fun r t => r = .ok (.ret (.bool true)) ∧ OldK s.heap t.heap ∧ t.os = s.os ∧ AllBare t.gens) s := by
  have rv := vals_ints hi
  have lv := hi.length
  let o : Obj := { cls := .type "list", data := .seq vs.toArray }
  let H : Hp := onlyH K a o ns
  have sq : SqL K H a (ns.map V.int) := by
    cases q : K.lookup a with
    | none => exact .inl (.inr ⟨o, if_pos ⟨rfl, q⟩⟩)
    | some o' =>
      have e := kx a o' q
      rw [oa] at e
      cases e
      exact .inr ⟨_, vs.toArray, _, q, rfl, rfl, rfl, by rw [List.size_toArray, lv]; exact le, by simpa using rv⟩
  have ok : HOk P w H s.heap := fun b u e => by
    obtain ⟨rfl, _, rfl⟩ := only_at e
    exact ⟨oa, by rw [List.length_map]; exact le, vs, _, rv, oa⟩
  have stay : ∀ {b : Addr} {m : Str → Option Value}, s.heap.Ns b m → (hidT s.heap H).Ns b m := fun {b m} n => by
    obtain ⟨ob, es, ep, e, d, r⟩ := n
    refine ⟨ob, es, ep, hidT_get e ?_, d, r⟩
    cases q : H b with
    | none => rfl
    | some u =>
      obtain ⟨rfl, _, _⟩ := only_at q
      rw [oa] at e
      cases e
      cases d
  have kb : K.In (hidT s.heap H) := fun b ob e => by
    refine hidT_get (kx b ob e) ?_
    cases q : H b with
    | none => rfl
    | some u =>
      obtain ⟨rfl, n, _⟩ := only_at q
      rw [n] at e
      cases e
  have md : Mod K mg (hidT s.heap H) := ⟨kb, stay gl, ⟨mb, stay bl, bb⟩, by
    obtain ⟨mc, n1, n2⟩ := nl
    exact ⟨mc, stay n1, n2⟩⟩
  have env : Env0 P w K mg (hidT s.heap H) callerA [] s H :=
    ⟨rfl, md, fun b ob e => of_hidT e, Nat.le_of_eq (hidT_size _ _), trivial, fun b q => absurd (show b ∈ ([] : List Addr) from q) (by simp), ok, .of_eq ng⟩
  have run := (F _ kb (stay gl)).goes callerA [] s H ⟨[.ref a], []⟩ [.ref a] [.ref a] _ _ rm rfl env (bd s (.ref a)) (.cons rfl .nil) (pr H sq)
  refine codeAny_mono run fun r t z => ?_
  cases r with
  | error e => exact False.elim z
  | ok fl =>
    cases fl with
    | next => exact False.elim z
    | brk => exact False.elim z
    | cont => exact False.elim z
    | ret u =>
      obtain ⟨v, H', so, br, un, ok', rr, q⟩ := z
      obtain rfl : v = .bl true := q
      obtain rfl : u = Value.bool true := rr
      refine ⟨rfl, OldK.of_keep fun b ob e => ?_, so, br⟩
      cases q : H b with
      | none => exact un.keep b ob e q (by intro n; exact absurd (show b ∈ ([] : List Addr) from n) (by simp)) (by simp)
      | some u =>
        obtain ⟨rfl, n, rfl⟩ := only_at q
        obtain ⟨e2, _⟩ := ok' b _ (un.frzs b o _ q)
        rw [oa] at e
        cases e
        exact e2
theorem walkG {l : PySem.W.OpenLaw} {n k : Nat} {q : Program} {loose : List Str} {XP : (Str → Option Value) → Heap → Prop} {YP : World → Heap → Prop} {d : DefRec} {x : Str} (hn : l.most = some n) (hs : n ≤ sizeLine) (hd : d.params.defaults = []) (rm : Room k callerA)
    (F : ∀ (w : World) (mg : Str → Option Value) (fa : Addr) (h : Heap), YP w h → h.Ns mainGlobals mg → mg d.name = some (.ref fa) → ∃ (K : PySem.W.Frag) (fd : FuncData) (sp : Sp), K.In h ∧ (∀ (s : Shared) (u : Value), BindsTo s fd ⟨[u], []⟩ [(x, u)])
      ∧ (∀ (H : Hp) (a : Addr) (ns : List Int), ns.length ≤ n → SqL K H a (ns.map V.int) → sp [.ref a] H (fun v _ => v = .bl true) fun _ _ _ => False)
      ∧ ∀ base : Heap, K.In base → base.Ns mainGlobals mg → FnG l.prog w K mg base CX0 k fa fd [x] sp) :
    PySem.W.WalkO q loose XP YP l.row.toRowW d [] (fun f vs => PySem.call f vs) := by
  refine Att.attach_call hn hd ?_
  intro w s₀ s₁ mg mb fa o pm cd doc a vs ns G Y ho hd' hcd hmg hobj hints hlen hg
  obtain ⟨K, fd, sp, kx, bd, pr, FF⟩ := F w mg fa _ Y G.T.g hmg
  exact endG kx G.T.g G.T.b G.T.builtins G.T.nolimit hg hobj hints (Nat.le_trans hlen hs) rm FF bd fun H sq => pr H a ns hlen sq
end FL
namespace K21
open PySem PySem.Spec PyProof.Rows L2 FL
def topS (i : Nat) : Stmt := PySem.Challenge.pw_frontlines_k21_relays_told.main.body.getD i (.Pass ⟨0, 0, 0, 0⟩)
abbrev sDraw : Stmt := topS 47
section
variable {P : Program} {w : World} {K : PySem.W.Frag} {mg : Str → Option Value} {base : Heap}
theorem scDraw : FnScope ["_law_pot_here", "_law_much", "_law_digit"] ["_law_pot_here", "_law_much"] (defScope sDraw) :=
  ⟨rfl, rfl, rfl, by decide +kernel, rfl, by decide +kernel, by decide +kernel⟩
theorem ok_draw {f : Addr} {fd : FuncData} (F : Fun K "_law_draw" "_law_draw" sDraw f fd)
    (mD : mg "divmod" = none) (mI : mg "int" = none) :
    FnOk P w K mg base CX0 1 f fd ["_law_pot_here", "_law_much"] spDraw := by
  refine F.ok scDraw (fun vs H Q E h => ?_) (fun cdv A outer s H vs Q E hr h => ?_)
  · obtain ⟨p, n, rfl, _⟩ := h
    rfl
  · obtain ⟨p, n, rfl, ⟨a, b, hp, a0, b0, b1⟩, n0, n1, k⟩ := h
    refine ⟨_, pss_cons (ps_if (pt_cmpR op_gt (pe_ix ix_list (pv 0) pe_int (fun _ _ => rfl)) pe_int (nomark _))
        (pss_cons (ps_asg (pe_callB call_divmod (by rfl) mD (by decide +kernel)
            (pa_cons (pe_ix ix_list (pv 0) pe_int (fun _ _ => rfl)) (pa_cons (pv 1) pa_nil)))
            (pg_tup rfl (pgs_cons (pg_sub (pv 0) pe_int set_list) (pgs_cons (pg_name (i := 2) scDraw.nd rfl (.inl rfl)) pgs_nil))))
          (pss_one (ps_ret (pv 2)))) pss_nil)
      (pss_cons (ps_asg (pe_op op_mod (pe_callTy call_int1 (by rfl) mI (by decide +kernel)
            (pa_cons (pe_op op_add (pe_op op_mul (pe_ix ix_list (pv 0) pe_int (fun _ _ => rfl)) pe_int) pe_int) pa_nil)) pe_int)
          (pg_sub (pv 0) pe_int set_list))
      (pss_one (ps_ret (pe_op op_mod (pe_callTy call_int1 (by rfl) mI (by decide +kernel)
        (pa_cons (pe_op op_fdiv (pe_op op_mod (pe_callTy call_int1 (by rfl) mI (by decide +kernel)
          (pa_cons (pe_op op_mul (pe_ix ix_list (pv 0) pe_int (fun _ _ => rfl)) (pe_ix ix_list (pv 0) pe_int (fun _ _ => rfl))) pa_nil)) pe_int) pe_int) pa_nil)) (pv 1))))), ?_⟩
    refine ⟨_, rfl, p, _, _, .int a, rfl, rfl, SqL.of hp, rfl, _, _, rfl, rfl, _, rfl, ?_⟩
    refine ite2 (fun hc => ?_) (fun hc => ?_)
    · refine ⟨_, rfl, p, _, _, .int a, rfl, rfl, SqL.of hp, rfl, _, rfl, a, n, rfl, ⟨n0, n1⟩, fun q hq => ?_⟩
      have npq : p ≠ q := ne_of_none hp hq
      have hp1 : upd H q (.tup [.int (a / n), .int (a % n)]) p = some (.lst [.int a, .int b]) := by
        rw [upd_ne npq]
        exact hp
      refine ⟨q, _, rfl, SqT.of upd_same, rfl, _, _, rfl, _, rfl, p, _, _, 0, rfl, rfl, hp1, rfl, _, _, rfl, rfl, _, rfl, ?_⟩
      refine k (a % n) _ (Int.emod_nonneg _ (by omega)) (Int.emod_lt_of_pos _ n0) ?_ fun c o e nc => ?_
      · exact ⟨a / n, b, upd_same, Int.ediv_nonneg a0 (by omega), b0, b1⟩
      · rw [upd_ne nc, upd_ne (ne_of_none e hq)]
        exact e
    · refine ⟨_, rfl, p, _, _, .int b, rfl, rfl, SqL.of hp, rfl, _, _, rfl, rfl, .inl ⟨by omega, by omega⟩, _, _, rfl, rfl, .inl ⟨_, rfl, _, _, rfl, rfl, (by show (0 : Int) < 2147483587; decide), ?_⟩⟩
      refine ⟨_, rfl, p, _, _, 1, rfl, rfl, hp, rfl, ?_⟩
      have c0 : 0 ≤ (b * 39979 + 20021) % 2147483587 := Int.emod_nonneg _ (by decide)
      have c1 : (b * 39979 + 20021) % 2147483587 < 2147483587 := Int.emod_lt_of_pos _ (by decide)
      refine ⟨_, rfl, p, _, _, _, rfl, rfl, SqL.of upd_same, rfl, _, rfl, p, _, _, _, rfl, rfl, SqL.of upd_same, rfl, _, _, rfl, rfl, .inl ⟨Int.lt_of_lt_of_le (by decide) c0, Int.lt_trans c1 (by decide)⟩, .inl ⟨_, rfl, _, _, rfl, rfl, (by show (0 : Int) < 2147483549; decide), _, _, rfl, rfl, ⟨by decide, by decide⟩, .inl ⟨_, rfl, _, rfl, _, _, rfl, rfl, n0, ?_⟩⟩⟩
      refine k _ _ (Int.emod_nonneg _ (by omega)) (Int.emod_lt_of_pos _ n0) ?_ fun c o e nc => ?_
      · exact ⟨a, _, upd_same, a0, c0, by omega⟩
      · rw [upd_ne nc]
        exact e
end
end K21
namespace K21
open PySem PySem.Spec PyProof.Rows L2 FL
abbrev sPot : Stmt := topS 46
abbrev sPick : Stmt := topS 48
section
variable {P : Program} {w : World} {K : PySem.W.Frag} {mg : Str → Option Value} {base : Heap}
theorem scPick : FnScope ["_law_pot_here", "_law_some"] ["_law_pot_here", "_law_some"] (defScope sPick) :=
  ⟨rfl, rfl, rfl, by decide +kernel, rfl, by decide +kernel, by decide +kernel⟩
theorem ok_pick {f g : Addr} {fd gd : FuncData} (F : Fun K "_law_pick" "_law_pick" sPick f fd)
    (G : FnOk P w K mg base CX0 1 g gd ["_law_pot_here", "_law_much"] spDraw) (bG : Binds K gd ["_law_pot_here", "_law_much"] [])
    (kG : PySem.W.keepIn K (.ref g) = true) (mG : mg "_law_draw" = some (.ref g)) (mL : mg "len" = none) :
    FnOk P w K mg base CX0 2 f fd ["_law_pot_here", "_law_some"] (spPick K) := by
  refine F.ok scPick (fun vs H Q E h => ?_) (fun cdv A outer s H vs Q E hr h => ?_)
  · obtain ⟨p, v, rfl, _⟩ := h
    rfl
  · obtain ⟨p, v, rfl, hp, h⟩ := h
    refine ⟨_, pss_one (ps_ret (pe_ix ix_seq (pv 1) (pe_call G hr (by rfl) mG kG bG .nil pass0
      (pa_cons (pv 0) (pa_cons (pe_callB call_len (by rfl) mL PySem.boot_len (pa_cons (pv 1) pa_nil)) pa_nil))) (fun _ _ => rfl))), ?_⟩
    rcases h with ⟨q, xs, rfl, nq, hq, l0, l1, k⟩ | ⟨z, rfl, l0, l1, k⟩
    · refine ⟨_, rfl, _, rfl, _, rfl, _, xs.length, rfl, .inl ⟨_, hq, rfl⟩, p, (xs.length : Int), rfl, hp, by omega, by omega, fun d H' d0 d1 hp' bt => ?_⟩
      obtain ⟨x, hx, e⟩ := atI_lt d0 d1
      exact .inl ⟨q, xs, d, x, rfl, rfl, bt.sqL nq hq, e, k x H' hx hp' bt⟩
    · refine ⟨_, rfl, _, rfl, _, rfl, _, z.length, rfl, ⟨Nat.le_trans l1 (by decide), rfl⟩, p, (z.length : Int), rfl, hp, by omega, by omega, fun d H' d0 d1 hp' bt => ?_⟩
      rw [str_len] at d1
      obtain ⟨x, hx, e⟩ := atI_lt d0 d1
      exact .inr (.inr ⟨z, d, x, rfl, rfl, Nat.le_trans l1 (by decide), e, k x H' hx hp' bt⟩)
theorem scPot : FnScope ["_law_script", "_law_k", "_law_cell"] ["_law_script", "_law_k"] (defScope sPot) :=
  ⟨rfl, rfl, rfl, by decide +kernel, rfl, by decide +kernel, by decide +kernel⟩
theorem ok_pot {f : Addr} {fd : FuncData} (F : Fun K "_law_pot" "_law_pot" sPot f fd)
    (mA : mg "abs" = none) (mL : mg "len" = none) (mM : mg "max" = none) (mI : mg "int" = none) :
    FnOk P w K mg base CX0 1 f fd ["_law_script", "_law_k"] (spPot K) := by
  refine F.ok scPot (fun vs H Q E h => ?_) (fun cdv A outer s H vs Q E hr h => ?_)
  · obtain ⟨_, _, _, rfl, _⟩ := h
    rfl
  · obtain ⟨a, ns, j, rfl, hs, j0, j1, hn, k⟩ := h
    refine ⟨_, pss_cons (ps_set (i := 2) scPot.nd rfl (.inl rfl)
        (pe_ifExp (pt_cmpR op_lt (pv 1) (pe_callB call_len (by rfl) mL PySem.boot_len (pa_cons (pv 0) pa_nil)) (nomark _))
          (pe_callB call_abs (by rfl) mA (by decide +kernel) (pa_cons (pe_ix ix_list (pv 0) (pv 1) (fun _ _ => rfl)) pa_nil))
          (pe_op op_add (pe_op op_mul pe_int (pv 1)) pe_int)))
      (pss_one (ps_ret (pe_lst (pa_cons (pe_callB (call_max2 rfl) (by rfl) mM (by decide +kernel)
          (pa_cons pe_int (pa_cons (pe_op op_sub (pv 2) (pe_op op_pow pe_int pe_int)) pa_nil)))
        (pa_cons (pe_op op_add (pe_op op_mod (pe_callTy call_int1 (by rfl) mI (by decide +kernel)
          (pa_cons (pe_op op_add (pe_op op_add (pe_op op_mul (pe_op op_mod (pe_callTy call_int1 (by rfl) mI (by decide +kernel) (pa_cons (pv 2) pa_nil)) pe_int) pe_int)
            (pe_op op_mul pe_int (pv 1))) pe_int) pa_nil)) pe_int) pe_int) pa_nil))))), ?_⟩
    refine ⟨_, rfl, _, rfl, _, _, rfl, .inl ⟨_, hs, rfl⟩, _, _, rfl, rfl, _, rfl, ?_⟩
    refine ite2 (fun hc => ?A) (fun hc => ?B)
    case' A =>
      have hlt : j < ((ns.map V.int).length : Int) := of_decide_eq_true hc
      obtain ⟨x, hx, e⟩ := atI_lt j0 hlt
      obtain ⟨i, _, rfl⟩ := List.mem_map.mp hx
      refine ⟨_, rfl, _, rfl, a, _, j, .int i, rfl, rfl, hs, e, i, rfl, ?_⟩
      generalize (if i < 0 then -i else i) = z
    case' B =>
      refine ⟨_, rfl, _, _, rfl, rfl, .inl ⟨by decide, by decide⟩, _, _, rfl, rfl, ?_⟩
      generalize 29 * j + 13 = z
    all_goals
      refine ⟨_, rfl, _, _, rfl, rfl, ⟨by decide, by decide, by decide⟩, _, _, rfl, rfl, _, _, rfl, ?_⟩
      refine ⟨_, rfl, .inl ⟨_, rfl, _, _, rfl, rfl, (by show (0 : Int) < 2147483563; decide), _, _, rfl, rfl, .inr ⟨by decide, by decide⟩, _, rfl, _, _, rfl, rfl, .inl ⟨by decide, by decide⟩, _, _, rfl, rfl, _, _, rfl, rfl, .inl ⟨_, rfl, _, _, rfl, rfl, (by show (0 : Int) < 2147483629; decide), _, _, rfl, rfl, ?_⟩⟩⟩
      refine ⟨(by show 2 ≤ sizeLine; decide), fun p hp => ?_⟩
      refine k p _ hp ⟨_, _, upd_same, ?_, ?_, ?_⟩ fun c o e => ?_
      · split <;> omega
      · have := Int.emod_nonneg (z % 2147483563 * 40013 + 7919 * j + 59) (show (2147483629 : Int) ≠ 0 by decide)
        omega
      · have := Int.emod_lt_of_pos (z % 2147483563 * 40013 + 7919 * j + 59) (show (0 : Int) < 2147483629 by decide)
        omega
      · rw [upd_ne (ne_of_none e hp)]
        exact e
end
end K21
namespace K21
open PySem PySem.Spec PyProof.Rows L2 FL
abbrev sNote : Stmt := topS 51
section
variable {P : Program} {w : World} {K : PySem.W.Frag} {mg : Str → Option Value} {base : Heap}
theorem scNote : FnScope ["_law_pot_here", "_law_abc_here", "_law_most", "_law_turn_here"] ["_law_pot_here", "_law_abc_here", "_law_most"] (defScope sNote) :=
  ⟨rfl, rfl, rfl, by decide +kernel, rfl, by decide +kernel, by decide +kernel⟩
theorem ok_note {f g h : Addr} {fd gd hd : FuncData} (F : Fun K "_law_note" "_law_note" sNote f fd)
    (G : FnOk P w K mg base CX0 1 g gd ["_law_pot_here", "_law_much"] spDraw) (bG : Binds K gd ["_law_pot_here", "_law_much"] [])
    (kG : PySem.W.keepIn K (.ref g) = true) (mG : mg "_law_draw" = some (.ref g))
    (Hk : FnOk P w K mg base CX0 2 h hd ["_law_pot_here", "_law_some"] (spPick K)) (bH : Binds K hd ["_law_pot_here", "_law_some"] [])
    (kH : PySem.W.keepIn K (.ref h) = true) (mH : mg "_law_pick" = some (.ref h)) (mR : mg "range" = none) :
    FnOk P w K mg base CX0 3 f fd ["_law_pot_here", "_law_abc_here", "_law_most"] spNote := by
  refine F.ok scNote (fun vs H Q E h => ?_) (fun cdv A outer s H vs Q E hr h => ?_)
  · obtain ⟨_, _, _, rfl, _⟩ := h
    rfl
  · obtain ⟨p, z, m, rfl, hp, z0, z1, m0, m1, k⟩ := h
    refine ⟨_, pss_one (ps_ret (pe_join pe_str (pe_lc (own := [("_law_turn_here", 3)]) (g := gName 3) (tt := tYes) rfl scNote.nd
        (pi_range1 (by rfl) mR (pa_cons (pe_call G (hr.mono (by decide)) (by rfl) mG kG bG .nil pass0 (pa_cons (pv 0) (pa_cons (pe_op op_add (pv 2) pe_int) pa_nil))) pa_nil))
        (blkOk_by (N := ["_law_pot_here", "_law_abc_here", "_law_most", "_law_turn_here"]) (sc := defScope sNote) (by decide +kernel))
        (fun _ _ _ _ _ => pg_name (i := 3) scNote.nd rfl (Or.inl rfl)) (fun _ _ _ _ _ => pts_nil)
        (fun _ _ _ _ _ => pe_call Hk hr (by rfl) mH kH bH .nil pass0 (pa_cons (pv 0) (pa_cons (pv 1) pa_nil)))))), ?_⟩
    refine ⟨⟨_, rfl⟩, _, rfl, _, rfl, _, _, rfl, rfl, p, m + 1, rfl, hp, by omega, by omega, fun d H1 d0 d1 hp1 b1 => ?_⟩
    refine ⟨d, rfl, by omega, by omega, fun D hD => ?_⟩
    have npD : p ≠ D := hp1.ne hD
    refine lc_range (lo := 0) (n := d.toNat) (fun i Hi => PotAt Hi p ∧ But p H1 Hi ∧ ∃ cs : List Nat, Hi D = some (.lst (cs.map sign)) ∧ cs.length = i ∧ ∀ c ∈ cs, c ∈ z.cps.toList) ?_ ?_ ?_
    · exact ⟨hp1.upd npD, (But.refl p H1).upd hD, [], upd_same, rfl, fun _ h => nomatch h⟩
    · rintro i Hi hi ⟨hpi, bi, cs, hDi, hl, hc⟩
      refine ⟨rfl, ?_⟩
      refine ⟨_, rfl, _, rfl, p, _, rfl, hpi, .inr ⟨z, rfl, z0, z1, fun c H2 cz hp2 b2 => ?_⟩⟩
      refine ⟨cs.map sign, b2 D _ hDi (Ne.symm npD), ?_, hp2.upd npD, fun a o e na => ?_, cs ++ [c], ?_, ?_, ?_⟩
      · rw [List.length_map, hl]
        exact Nat.lt_of_lt_of_le (show i < 2000 by omega) (by decide)
      · rw [upd_ne (ne_of_none e hD)]
        exact b2 a o (bi a o e na) na
      · rw [upd_same, List.map_append]
        rfl
      · rw [List.length_append, hl]
        rfl
      · intro c' hc'
        rcases List.mem_append.mp hc' with h | h
        · exact hc c' h
        · rw [List.mem_singleton.mp h]
          exact cz
    · rintro Hi ⟨hpi, bi, cs, hDi, hl, hc⟩
      have e1 : cs.map sign = (cs.map fun c => (⟨#[c]⟩ : Str)).map V.str := by
        rw [List.map_map]
        rfl
      rw [e1] at hDi
      refine ⟨Str.ofString "", D, cs.map fun c => (⟨#[c]⟩ : Str), rfl, rfl, .inl (SqL.of hDi), ?_, ?_⟩
      · have e2 : ((cs.map fun c => (⟨#[c]⟩ : Str)).map (·.length)).sum = cs.length := by
          rw [List.map_map]
          clear hDi hl hc e1
          induction cs with
          | nil => rfl
          | cons c cs ih =>
            rw [List.map_cons, List.sum_cons, ih, List.length_cons, Nat.add_comm]
            rfl
        have e3 : (Str.ofString "").length = 0 := by decide +kernel
        rw [e2, e3, hl]
        omega
      · rw [join_signs]
        refine k _ Hi (fun c h => hc c (by simpa using h)) ?_ hpi (b1.trans bi)
        show ((cs.toArray.size : Nat) : Int) ≤ m
        rw [List.size_toArray]
        omega
end
end K21
namespace FL
open PySem PySem.Spec PyProof.Rows L2
def spMixed (K : PySem.W.Frag) : Sp := fun vs H Q _ => ∃ (p q : Addr) (xs : List V), vs = [.ref p, .ref q] ∧ PotAt H p ∧ SqL K H q xs ∧ q ≠ p ∧ xs.length ≤ 1000 ∧
  ∀ (D : Addr) (ys : List V) (H' : Hp), (∀ y ∈ ys, y ∈ xs) → ys.length = xs.length → H D = none → H' D = some (.lst ys) → PotAt H' p → But p H H' → Q (.ref D) H'
theorem seqIx {n : Nat} {d : Int} (h0 : 0 ≤ d) (h1 : d < (n : Int)) : seqIndex? d n = some d.toNat := by
  unfold seqIndex?
  simp
  omega
end FL
namespace K21
open PySem PySem.Spec PyProof.Rows L2 FL
abbrev sMixed : Stmt := topS 49
section
variable {P : Program} {w : World} {K : PySem.W.Frag} {mg : Str → Option Value} {base : Heap}
theorem scMixed : FnScope ["_law_pot_here", "_law_some", "_law_pack", "_law_turn_here"] ["_law_pot_here", "_law_some"] (defScope sMixed) :=
  ⟨rfl, rfl, rfl, by decide +kernel, rfl, by decide +kernel, by decide +kernel⟩
theorem ok_mixed {f g : Addr} {fd gd : FuncData} (F : Fun K "_law_mixed" "_law_mixed" sMixed f fd)
    (G : FnOk P w K mg base CX0 1 g gd ["_law_pot_here", "_law_much"] spDraw) (bG : Binds K gd ["_law_pot_here", "_law_much"] [])
    (kG : PySem.W.keepIn K (.ref g) = true) (mG : mg "_law_draw" = some (.ref g))
    (mL : mg "list" = none) (mN : mg "len" = none) (mR : mg "range" = none) :
    FnOk P w K mg base CX0 2 f fd ["_law_pot_here", "_law_some"] (spMixed K) := by
  refine F.ok scMixed (fun vs H Q E h => ?_) (fun cdv A outer s H vs Q E hr h => ?_)
  · obtain ⟨_, _, _, rfl, _⟩ := h
    rfl
  · obtain ⟨p, q, xs, rfl, hp, hq, nq, lx, k⟩ := h
    refine ⟨_, pss_cons (ps_set (i := 2) scMixed.nd rfl (.inr rfl) (pe_callTy call_list_of (by rfl) mL (by decide +kernel) (pa_cons (pv 1) pa_nil)))
      (pss_one (ps_ret (pe_lc (own := [("_law_turn_here", 3)]) (g := gName 3) (tt := tYes) (te := tBM K "list" rPopAt (tVar 2) (tCons (tCall spDraw [] E0 (tCons (tVar 0) (tCons (tCB (FL.rLen K) (tCons (tVar 2) tNil)) tNil))) tNil)) rfl scMixed.nd
        (pi_range1 (by rfl) mR (pa_cons (pe_callB callLen (by rfl) mN PySem.boot_len (pa_cons (pv 1) pa_nil)) pa_nil))
        (blkOk_by (N := ["_law_pot_here", "_law_some", "_law_pack", "_law_turn_here"]) (sc := defScope sMixed) (by decide +kernel))
        (fun _ _ _ _ _ => pg_name (i := 3) scMixed.nd rfl (Or.inl rfl)) (fun _ _ _ _ _ => pts_nil)
        (fun _ _ _ _ _ => pe_bm PySem.F.plainAttrs_list PySem.F.slot_list_pop PySem.F.type_list_pop mtPopAt (pv 2)
          (pa_cons (pe_call G hr (by rfl) mG kG bG .nil pass0 (pa_cons (pv 0) (pa_cons (pe_callB callLen (by rfl) mN PySem.boot_len (pa_cons (pv 2) pa_nil)) pa_nil))) pa_nil))))), ?_⟩
    refine ⟨_, rfl, q, xs, rfl, .inl hq, fun B hB => ?_⟩
    have npB : p ≠ B := hp.ne hB
    refine ⟨_, rfl, _, xs.length, rfl, .inl ⟨_, sqL_upd hq hB, rfl⟩, (xs.length : Int), rfl, by omega, by omega, fun D hD => ?_⟩
    have hDB : D ≠ B := fun e => by
      rw [e, upd_same] at hD
      cases hD
    have hD0 : H D = none := by
      rw [upd_ne hDB] at hD
      exact hD
    have npD : p ≠ D := hp.ne hD0
    refine lc_range (lo := 0) (n := ((xs.length : Nat) : Int).toNat) (fun i Hi => PotAt Hi p ∧ But p H Hi ∧ ∃ rest acc : List V, Hi B = some (.lst rest) ∧ Hi D = some (.lst acc)
      ∧ acc.length = i ∧ rest.length + i = xs.length ∧ (∀ y ∈ rest, y ∈ xs) ∧ ∀ y ∈ acc, y ∈ xs) ?_ ?_ ?_
    · refine ⟨(hp.upd npB).upd npD, ((But.refl p H).upd hB).upd hD0, xs, [], ?_, upd_same, rfl, rfl, fun _ h => h, fun _ h => nomatch h⟩
      rw [upd_ne (Ne.symm hDB), upd_same]
    · rintro i Hi hi ⟨hpi, bi, rest, acc, hr1, ha, l1, l2, m1, m2⟩
      refine ⟨rfl, ?_⟩
      refine ⟨_, rfl, .inl ⟨rfl, _, SqL.of hr1⟩, _, rfl, _, rfl, _, rest.length, rfl, .inl ⟨_, SqL.of hr1, rfl⟩, p, (rest.length : Int), rfl, hpi, by omega, by omega, fun d H2 d0 d1 hp2 b2 => ?_⟩
      have hB2 := b2 B _ hr1 (Ne.symm npB)
      have hD2 := b2 D _ ha (Ne.symm npD)
      have hlt : d.toNat < rest.length := by omega
      refine ⟨B, rest, d, d.toNat, rest[d.toNat], rfl, rfl, hB2, by omega, by omega, seqIx d0 d1, List.getElem?_eq_getElem hlt, ?_⟩
      refine ⟨acc, by rw [upd_ne hDB]; exact hD2, ?_, ?_, ?_, rest.eraseIdx d.toNat, acc ++ [rest[d.toNat]], ?_, upd_same, ?_, ?_, ?_, ?_⟩
      · exact Nat.lt_of_lt_of_le (show acc.length < 2000 by omega) (by decide)
      · exact (hp2.upd npB).upd npD
      · exact ((bi.trans b2).upd hB).upd hD0
      · rw [upd_ne (Ne.symm hDB), upd_same]
      · rw [List.length_append, l1]
        rfl
      · rw [List.length_eraseIdx_of_lt hlt]
        omega
      · intro y hy
        exact m1 y (List.mem_of_mem_eraseIdx hy)
      · intro y hy
        rcases List.mem_append.mp hy with h | h
        · exact m2 y h
        · rw [List.mem_singleton.mp h]
          exact m1 _ (List.getElem_mem hlt)
    · rintro Hi ⟨hpi, bi, rest, acc, hr1, ha, l1, l2, m1, m2⟩
      exact k D acc Hi m2 (by omega) hD0 ha hpi bi
end
end K21
namespace K21
open PySem PySem.Spec PyProof.Rows L2 FL
abbrev sAbc : Stmt := topS 50
section
variable {P : Program} {w : World} {K : PySem.W.Frag} {mg : Str → Option Value} {base : Heap}
theorem pool_eq : (Str.ofString "-.0123456789=>abcdefghijklmnopqrstuvwxyz|").cps.toList = poolCodes := by decide +kernel
theorem scAbc : FnScope ["_law_pot_here", "_law_most", "_law_pool", "_law_found", "_law_turn_here"] ["_law_pot_here", "_law_most"] (defScope sAbc) :=
  ⟨rfl, rfl, rfl, by decide +kernel, rfl, by decide +kernel, by decide +kernel⟩
theorem ok_abc {f g : Addr} {fd gd : FuncData} (F : Fun K "_law_abc" "_law_abc" sAbc f fd)
    (G : FnOk P w K mg base CX0 1 g gd ["_law_pot_here", "_law_much"] spDraw) (bG : Binds K gd ["_law_pot_here", "_law_much"] [])
    (kG : PySem.W.keepIn K (.ref g) = true) (mG : mg "_law_draw" = some (.ref g))
    (mL : mg "list" = none) (mN : mg "len" = none) (mR : mg "range" = none) (mS : mg "sorted" = none) :
    FnOk P w K mg base CX0 2 f fd ["_law_pot_here", "_law_most"] spAbc := by
  refine F.ok scAbc (fun vs H Q E h => ?_) (fun cdv A outer s H vs Q E hr h => ?_)
  · obtain ⟨_, rfl, _⟩ := h
    rfl
  · obtain ⟨p, rfl, hp, k⟩ := h
    refine ⟨_, pss_cons (ps_par (i := 2) (j := 3) (by rfl) scAbc.nd rfl rfl (by decide) rfl rfl
        (pa_cons (pe_callTy (call_list_txt rfl) (by rfl) mL (by decide +kernel) (pa_cons pe_str pa_nil)) (pa_cons (pe_lst pa_nil) pa_nil)) (by rfl))
      (pss_cons (ps_for PassesOwn.never rfl (pi_range1 (by rfl) mR (pa_cons (pe_op op_add pe_int (pe_call G hr (by rfl) mG kG bG .nil pass0
            (pa_cons (pv 0) (pa_cons (pe_op op_sub (pv 1) pe_int) pa_nil)))) pa_nil)) (pg_name (i := 4) scAbc.nd rfl (.inl rfl))
        (pss_one (ps_expr (pe_bm PySem.F.plainAttrs_list PySem.F.slot_list_append PySem.F.type_list_append mtAppend (pv 3)
          (pa_cons (pe_bm PySem.F.plainAttrs_list PySem.F.slot_list_pop PySem.F.type_list_pop mtPopAt (pv 2)
            (pa_cons (pe_call G hr (by rfl) mG kG bG .nil pass0 (pa_cons (pv 0) (pa_cons (pe_callB callLen (by rfl) mN PySem.boot_len (pa_cons (pv 2) pa_nil)) pa_nil))) pa_nil)) pa_nil)))))
      (pss_one (ps_ret (pe_join pe_str (pe_callB cr_sortedS (by rfl) mS (by decide +kernel) (pa_cons (pv 3) pa_nil)))))), ?_⟩
    refine ⟨_, rfl, by decide, fun B hB => ?_⟩
    refine ⟨by decide, fun D hD => ?_⟩
    rw [pool_eq] at *
    have hDB : D ≠ B := fun e => by
      rw [e, upd_same] at hD
      cases hD
    have hD0 : H D = none := by
      rw [upd_ne hDB] at hD
      exact hD
    have npB : p ≠ B := hp.ne hB
    have npD : p ≠ D := hp.ne hD0
    have hp0 : PotAt (upd (upd H B (.lst (poolCodes.map sign))) D (.lst [])) p := (hp.upd npB).upd npD
    refine ⟨_, _, rfl, _, rfl, _, rfl, _, _, rfl, rfl, p, 3, rfl, hp0, by decide, by decide, fun d H1 d0 d1 hp1 b1 => ?_⟩
    refine ⟨2, d, rfl, rfl, 2 + d, rfl, by omega, by omega, ?_⟩
    have bB := b1 B _ (by rw [upd_ne (Ne.symm hDB), upd_same]) (Ne.symm npB)
    have bD := b1 D _ upd_same (Ne.symm npD)
    have b0 : But p H H1 := (((But.refl p H).upd hB).upd hD0).trans b1
    refine for_range (lo := 0) (n := (2 + d).toNat) (fun i σ Hi => ∃ (o : Option V) (rest cs : List Nat), σ = [some (.ref p), some (.int 4), some (.ref B), some (.ref D), o]
      ∧ PotAt Hi p ∧ But p H Hi ∧ Hi B = some (.lst (rest.map sign)) ∧ Hi D = some (.lst (cs.map sign)) ∧ cs.length = i ∧ (cs ++ rest).Perm poolCodes) ?_ ?_ ?_
    · exact ⟨_, poolCodes, [], rfl, hp1, b0, bB, bD, rfl, List.Perm.refl _⟩
    · rintro i σ Hi hi ⟨o, rest, cs, rfl, hpi, bi, hBi, hDi, hl, hpm⟩
      have lr : cs.length + rest.length = 41 := by
        have := hpm.length_eq
        rw [List.length_append] at this
        rw [this]
        decide +kernel
      refine ⟨_, rfl, .inl ⟨rfl, _, SqL.of hDi⟩, _, rfl, .inl ⟨rfl, _, SqL.of hBi⟩, _, rfl, _, rfl, _, _, rfl, .inl ⟨_, SqL.of hBi, rfl⟩, p, _, rfl, hpi, ?_, ?_, fun e H2 e0 e1 hp2 b2 => ?_⟩
      · rw [List.length_map]
        omega
      · rw [List.length_map]
        omega
      rw [List.length_map] at e1
      have hlt : e.toNat < rest.length := by omega
      have hB2 := b2 B _ hBi (Ne.symm npB)
      have hD2 := b2 D _ hDi (Ne.symm npD)
      refine ⟨B, _, e, e.toNat, sign rest[e.toNat], rfl, rfl, hB2, by omega, by omega, seqIx e0 (by rw [List.length_map]; exact e1), ?_, ?_⟩
      · rw [List.getElem?_map, List.getElem?_eq_getElem hlt]
        rfl
      refine ⟨D, _, _, rfl, rfl, by rw [upd_ne hDB]; exact hD2, ?_, ?_⟩
      · rw [List.length_map]
        exact Nat.lt_of_lt_of_le (show cs.length < 2000 by omega) (by decide)
      refine ⟨_, rest.eraseIdx e.toNat, cs ++ [rest[e.toNat]], rfl, (hp2.upd npB).upd npD, ((bi.trans b2).upd hB).upd hD0, ?_, ?_, ?_, ?_⟩
      · rw [upd_ne (Ne.symm hDB), upd_same, erase_map]
      · rw [upd_same, List.map_append]
        rfl
      · rw [List.length_append, hl]
        rfl
      · rw [List.append_assoc]
        exact ((perm_erase rest e.toNat hlt).append_left cs).trans hpm
    · rintro σ Hi ⟨o, rest, cs, rfl, hpi, bi, hBi, hDi, hl, hpm⟩
      have e1 : cs.map sign = (cs.map one).map V.str := by
        rw [List.map_map]
        rfl
      rw [e1] at hDi
      refine ⟨⟨_, rfl⟩, _, rfl, D, cs.map one, rfl, SqL.of hDi, ?_, fun ys q pm so hq => ?_⟩
      · rw [List.length_map]
        omega
      obtain ⟨ds, rfl, pd⟩ := map_one pm
      have ld : ds.length = (2 + d).toNat := pd.length_eq.trans hl
      refine ⟨_, q, ds.map one, rfl, rfl, .inl (SqL.of upd_same), ?_, ?_⟩
      · have e2 : ((ds.map one).map (·.length)).sum = ds.length := by
          rw [List.map_map]
          clear pm so ld pd
          induction ds with
          | nil => rfl
          | cons c ds ih =>
            rw [List.map_cons, List.sum_cons, ih, List.length_cons, Nat.add_comm]
            rfl
        have e3 : (Str.ofString "").length = 0 := by decide +kernel
        rw [e2, e3]
        omega
      · have ej : Txt.join (Str.ofString "") (ds.map one) = ⟨ds.toArray⟩ := join_signs ds
        rw [ej]
        have nd : (cs ++ rest).Nodup := hpm.symm.nodup pool_nodup
        have nds : ds.Nodup := pd.symm.nodup (List.nodup_append.mp nd).1
        refine k _ _ ⟨?_, ?_, ?_, ?_⟩ (hpi.upd (hpi.ne hq)) (fun c u ec nc => ?_)
        · show 2 ≤ ds.toArray.size
          rw [List.size_toArray]
          omega
        · show ds.toArray.size ≤ 4
          rw [List.size_toArray]
          omega
        · exact strict (sorted_one ds so) nds
        · intro c hc
          exact hpm.mem_iff.mp (List.mem_append_left _ (pd.mem_iff.mp (by simpa using hc)))
        · rw [upd_ne (ne_of_none (bi c u ec nc) hq)]
          exact bi c u ec nc
end
end K21
namespace K21
open PySem PySem.Spec PyProof.Rows L2 FL
abbrev sDeals : Stmt := topS 52
section
variable {P : Program} {w : World} {K : PySem.W.Frag} {mg : Str → Option Value} {base : Heap}
theorem scDeals : FnScope ["_law_pot_here", "_law_abc_here", "_law_lot", "_law_most", "_law_found", "_law_turn_here", "_law_old", "_law_way", "_law_letter", "_law_new"]
    ["_law_pot_here", "_law_abc_here", "_law_lot", "_law_most"] (defScope sDeals) :=
  ⟨rfl, rfl, rfl, by decide +kernel, rfl, by decide +kernel, by decide +kernel⟩
theorem ok_deals {f g h e : Addr} {fd gd hd ed : FuncData} (F : Fun K "_law_deals" "_law_deals" sDeals f fd)
    (G : FnOk P w K mg base CX0 1 g gd ["_law_pot_here", "_law_much"] spDraw) (bG : Binds K gd ["_law_pot_here", "_law_much"] [])
    (kG : PySem.W.keepIn K (.ref g) = true) (mG : mg "_law_draw" = some (.ref g))
    (Hk : FnOk P w K mg base CX0 2 h hd ["_law_pot_here", "_law_some"] (spPick K)) (bH : Binds K hd ["_law_pot_here", "_law_some"] [])
    (kH : PySem.W.keepIn K (.ref h) = true) (mH : mg "_law_pick" = some (.ref h))
    (Ek : FnOk P w K mg base CX0 3 e ed ["_law_pot_here", "_law_abc_here", "_law_most"] spNote) (bE : Binds K ed ["_law_pot_here", "_law_abc_here", "_law_most"] [])
    (kE : PySem.W.keepIn K (.ref e) = true) (mE : mg "_law_note" = some (.ref e)) (mR : mg "range" = none) :
    FnOk P w K mg base CX0 4 f fd ["_law_pot_here", "_law_abc_here", "_law_lot", "_law_most"] spDeals := by
  refine F.ok scDeals (fun vs H Q E h => ?_) (fun cdv A outer s H vs Q E hr h => ?_)
  · obtain ⟨_, _, _, _, rfl, _⟩ := h
    rfl
  · obtain ⟨p, z, lot, most, rfl, hp, z0, z1, l0, l1, m0, m1, k⟩ := h
    have hr1 := hr.mono (show 1 ≤ 3 by decide)
    have hr2 := hr.mono (show 2 ≤ 3 by decide)
    refine ⟨_, pss_cons (ps_set (i := 4) scDeals.nd rfl (.inl rfl) (pe_lst pa_nil))
      (pss_cons (ps_for PassesOwn.never rfl (pi_range1 (by rfl) mR (pa_cons (pe_call G hr1 (by rfl) mG kG bG .nil pass0
          (pa_cons (pv 0) (pa_cons (pe_op op_add (pv 2) pe_int) pa_nil))) pa_nil)) (pg_name (i := 5) scDeals.nd rfl (.inl rfl))
        (pss_cons (ps_par (i := 6) (j := 7) (by rfl) scDeals.nd rfl rfl (by decide) rfl rfl
          (pa_cons (pe_call Ek hr (by rfl) mE kE bE .nil pass0 (pa_cons (pv 0) (pa_cons (pv 1) (pa_cons (pv 3) pa_nil))))
            (pa_cons (pe_call G hr1 (by rfl) mG kG bG .nil pass0 (pa_cons (pv 0) (pa_cons pe_int pa_nil))) pa_nil)) (by rfl))
        (pss_cons (ps_par (i := 8) (j := 9) (by rfl) scDeals.nd rfl rfl (by decide) rfl rfl
          (pa_cons (pe_call Hk hr2 (by rfl) mH kH bH .nil pass0 (pa_cons (pv 0) (pa_cons (pv 1) pa_nil)))
            (pa_cons (pe_call Ek hr (by rfl) mE kE bE .nil pass0 (pa_cons (pv 0) (pa_cons (pv 1) (pa_cons pe_int pa_nil)))) pa_nil)) (by rfl))
        (C8.pss_cut (ps_if (pt_cmpR op_gt (pv 7) pe_int (nomark _))
          (pss_one (ps_set (i := 9) scDeals.nd rfl (.inl rfl) (pe_ix ix_list (pe_lst (pa_cons (pe_op op_add_str (pv 8) (pv 6))
            (pa_cons (pe_slice sl_str (pv 6) (po_some pe_int) po_none) (pa_cons (pe_op op_add_str (pv 6) (pv 8)) (pa_cons (pe_revS (pv 6)) pa_nil)))))
            (pe_op op_sub (pv 7) pe_int) (fun _ _ => rfl)))) pss_nil)
        (pss_one (ps_expr (pe_bm PySem.F.plainAttrs_list PySem.F.slot_list_append PySem.F.type_list_append mtAppend (pv 4)
          (pa_cons (pe_tup (pa_cons (pe_call Hk hr2 (by rfl) mH kH bH .nil pass0 (pa_cons (pv 0) (pa_cons (pe_lst (pa_cons pe_str (pa_cons pe_str (pa_cons pe_str pa_nil)))) pa_nil)))
            (pa_cons (pv 6) (pa_cons (pv 9) pa_nil)))) pa_nil))))))))
      (pss_one (ps_ret (pv 4)))), ?_⟩
    refine ⟨by decide, fun D hD => ?_⟩
    have npD : p ≠ D := hp.ne hD
    refine ⟨_, rfl, _, rfl, _, _, rfl, rfl, p, lot + 1, rfl, hp.upd npD, by omega, by omega, fun d H1 d0 d1 hp1 b1 => ?_⟩
    refine ⟨d, rfl, by omega, by omega, ?_⟩
    have b0 : But p H H1 := ((But.refl p H).upd hD).trans b1
    refine for_range (lo := 0) (n := d.toNat) (fun i σ Hi => ∃ (o1 o2 o3 o4 o5 : Option V) (xs : List V) (rs : List Rule),
        σ = [some (.ref p), some (.str z), some (.int lot), some (.int most), some (.ref D), o1, o2, o3, o4, o5]
      ∧ PotAt Hi p ∧ But p H Hi ∧ Hi D = some (.lst xs) ∧ RulesAt Hi xs rs ∧ rs.length = i ∧ ∀ r ∈ rs, RuleOk z (most.toNat + 2) r) ?_ ?_ ?_
    · exact ⟨_, _, _, _, _, [], [], rfl, hp1, b0, b1 D _ upd_same (Ne.symm npD), .nil, rfl, fun _ h => nomatch h⟩
    · rintro i σ Hi hi ⟨o1, o2, o3, o4, o5, xs, rs, rfl, hpi, bi, hDi, hrs, hl, hok⟩
      refine ⟨_, rfl, _, rfl, _, rfl, p, z, most, rfl, hpi, z0, z1, m0, by omega, fun old H2 ov ol hp2 b2 => ?_⟩
      refine ⟨_, rfl, p, 5, rfl, hp2, by decide, by decide, fun way H3 w0 w1 hp3 b3 => ?_⟩
      refine ⟨_, _, rfl, _, rfl, _, rfl, p, _, rfl, hp3, .inr ⟨z, rfl, z0, z1, fun c H4 cz hp4 b4 => ?_⟩⟩
      refine ⟨_, rfl, _, rfl, p, z, 2, rfl, hp4, z0, z1, by decide, by decide, fun new H5 nv nl hp5 b5 => ?_⟩
      have b25 := ((b2.trans b3).trans b4).trans b5
      refine ⟨_, _, rfl, ?_⟩
      have ol' : old.length ≤ most.toNat := by omega
      have sz : sizeLine = 16777216 := rfl
      refine ⟨fun σ' H' => ∃ nw : Str, σ' = [some (.ref p), some (.str z), some (.int lot), some (.int most), some (.ref D), some (.int (0 + i)), some (.str old), some (.int way), some (.str ⟨#[c]⟩), some (.str nw)]
        ∧ Over z nw ∧ nw.length ≤ most.toNat + 2 ∧ PotAt H' p ∧ But p Hi H', ?_, ?_⟩
      · refine ⟨_, rfl, _, _, rfl, rfl, _, rfl, ?_⟩
        refine ite2 (fun hc => ?_) (fun hc => ?_)
        · have w2 : way > 0 := of_decide_eq_true hc
          refine ⟨_, rfl, _, rfl, _, _, rfl, rfl, (by rw [len_one, sz]; omega), _, rfl, 1, rfl, old, rfl, (by rw [sz]; omega), _, rfl, _, rfl, _, _, rfl, rfl, (by rw [len_one, sz]; omega), _, rfl, old, rfl, (by rw [sz]; omega), (by show 4 ≤ sizeLine; decide), fun L hL => ?_⟩
          have hpL := hp5.upd (o := .lst [V.str (⟨#[c]⟩ ++ old), V.str (cutS old (some 1) none), V.str (old ++ ⟨#[c]⟩), V.str ⟨old.cps.toList.reverse.toArray⟩]) (hp5.ne hL)
          have hbL : But p Hi (upd H5 L (.lst [V.str (⟨#[c]⟩ ++ old), V.str (cutS old (some 1) none), V.str (old ++ ⟨#[c]⟩), V.str ⟨old.cps.toList.reverse.toArray⟩])) := fun a u ea na => by
            have := b25 a u ea na
            rw [upd_ne (ne_of_none this hL)]
            exact this
          obtain ⟨x, hx, ex⟩ := atI_lt (xs := [V.str (⟨#[c]⟩ ++ old), V.str (cutS old (some 1) none), V.str (old ++ ⟨#[c]⟩), V.str ⟨old.cps.toList.reverse.toArray⟩]) (d := way - 1) (by omega) (by show way - 1 < 4; omega)
          refine ⟨_, rfl, _, _, rfl, rfl, L, _, _, x, rfl, rfl, SqL.of upd_same, ex, ?_⟩
          have hx' : ∃ nw : Str, x = .str nw ∧ Over z nw ∧ nw.length ≤ most.toNat + 2 := by
            simp only [List.mem_cons, List.mem_nil_iff, or_false] at hx
            rcases hx with rfl | rfl | rfl | rfl
            · exact ⟨_, rfl, over_app (over_one cz) ov, by rw [len_app, len_one]; omega⟩
            · exact ⟨_, rfl, over_cut ov _ _, Nat.le_trans (cutS_length _ _ _) (by omega)⟩
            · exact ⟨_, rfl, over_app ov (over_one cz), by rw [len_app, len_one]; omega⟩
            · exact ⟨_, rfl, over_rev ov, by rw [len_rev]; omega⟩
          obtain ⟨nw, rfl, h1, h2⟩ := hx'
          exact ⟨nw, rfl, h1, h2, hpL, hbL⟩
        · exact ⟨new, rfl, nv, by omega, hp5, b25⟩
      · rintro σ' H6 ⟨nw, rfl, h1, h2, hp6, b6⟩
        have hD6 := b6 D _ hDi (Ne.symm npD)
        refine ⟨_, rfl, .inl ⟨rfl, _, SqL.of hD6⟩, _, rfl, by decide, fun L hL => ?_⟩
        refine ⟨p, _, rfl, hp6.upd (hp6.ne hL), .inl ⟨L, _, rfl, Ne.symm (hp6.ne hL), SqL.of upd_same, by decide, by decide, fun x H7 hx hp7 b7 => ?_⟩⟩
        have hx' : ∃ b, x = .str (kd b) := by
          simp only [List.mem_cons, List.mem_nil_iff, or_false] at hx
          rcases hx with rfl | rfl | rfl
          · exact ⟨true, rfl⟩
          · exact ⟨true, rfl⟩
          · exact ⟨false, rfl⟩
        obtain ⟨kb, rfl⟩ := hx'
        refine ⟨_, rfl, _, rfl, (by show 3 ≤ sizeLine; decide), fun T hT => ?_⟩
        have b67 : But p Hi H7 := fun a u ea na => b7 a u (by
          have := b6 a u ea na
          rw [upd_ne (ne_of_none this hL)]
          exact this) na
        have hD7 := b67 D _ hDi (Ne.symm npD)
        have nDT : D ≠ T := ne_of_none hD7 hT
        have npT : p ≠ T := hp7.ne hT
        have lx := paired_len hrs
        refine ⟨D, xs, _, rfl, rfl, by rw [upd_ne nDT]; exact hD7, Nat.lt_of_lt_of_le (show xs.length < 2000 by omega) (by decide), ?_⟩
        refine ⟨_, _, _, _, _, xs ++ [.ref T], rs ++ [⟨kb, old, nw⟩], rfl, (hp7.upd npT).upd npD, ?_, upd_same, ?_, ?_, ?_⟩
        · intro a u ea na
          have e7 := b67 a u (bi a u ea na) na
          rw [upd_ne (ne_of_none ea hD), upd_ne (ne_of_none e7 hT)]
          exact e7
        · refine paired_snoc (RulesAt.imp hrs fun t a et => ?_) ⟨T, rfl, ?_⟩
          · have e7 := b67.tups hpi t a et
            have ntD : t ≠ D := ne_of e7 hD7 (by intro q; cases q)
            rw [upd_ne ntD, upd_ne (ne_of_none e7 hT)]
            exact e7
          · rw [upd_ne (Ne.symm nDT), upd_same]
            rfl
        · rw [List.length_append, hl]
          rfl
        · intro r hr'
          rcases List.mem_append.mp hr' with h | h
          · exact hok r h
          · rw [List.mem_singleton.mp h]
            exact ⟨ov, Nat.le_trans ol' (Nat.le_add_right _ _), h1, h2⟩
    · rintro σ Hi ⟨o1, o2, o3, o4, o5, xs, rs, rfl, hpi, bi, hDi, hrs, hl, hok⟩
      exact ⟨_, rfl, k D xs rs Hi hD hDi hrs (by omega) hok hpi bi⟩
end
end K21
namespace K21
open PySem PySem.Spec PyProof.Rows L2 FL
abbrev sTurn : Stmt := topS 53
section
variable {P : Program} {w : World} {K : PySem.W.Frag} {mg : Str → Option Value} {base : Heap}
theorem scTurn : FnScope ["_law_deals_here", "_law_note_here", "_law_kind", "_law_old", "_law_new"] ["_law_deals_here", "_law_note_here"] (defScope sTurn) :=
  ⟨rfl, rfl, rfl, by decide +kernel, rfl, by decide +kernel, by decide +kernel⟩
theorem ok_turn {f : Addr} {fd : FuncData} (F : Fun K "_law_turn" "_law_turn" sTurn f fd) (mN : mg "len" = none) :
    FnOk P w K mg base CX0 1 f fd ["_law_deals_here", "_law_note_here"] (spTurn K) := by
  refine F.ok scTurn (fun vs H Q E h => ?_) (fun cdv A outer s H vs Q E hr h => ?_)
  · obtain ⟨_, _, _, _, rfl, _⟩ := h
    rfl
  · obtain ⟨D, y, xs, rs, rfl, hD, hrs, ly, lr, k⟩ := h
    have nd := scTurn.nd
    refine ⟨_, pss_cons (ps_for PassesOwn.never rfl (pi_list (pv 0))
        (pg_tup rfl (pgs_cons (pg_name (i := 2) nd rfl (.inl rfl)) (pgs_cons (pg_name (i := 3) nd rfl (.inl rfl)) (pgs_cons (pg_name (i := 4) nd rfl (.inl rfl)) pgs_nil))))
        (pss_cons (ps_if (PW.pt (pw_and (pt_cmpR op_eq (pv 2) pe_str (nomark _)) (pw_and1 (pt_cmpR op_eq (pv 1) (pv 3) (nomark _)))))
          (pss_one (ps_ret (pv 4))) pss_nil)
        (pss_one (ps_if (PW.pt (pw_and (pt_cmpR op_eq (pv 2) pe_str (nomark _)) (pw_and1 (pt_cmpR op_eq
            (pe_slice sl_str (pv 1) po_none (po_some (pe_callB callLen (by rfl) mN PySem.boot_len (pa_cons (pv 3) pa_nil)))) (pv 3) (nomark _)))))
          (pss_one (ps_ret (pe_op op_add_str (pv 4) (pe_slice sl_str (pv 1) (po_some (pe_callB callLen (by rfl) mN PySem.boot_len (pa_cons (pv 3) pa_nil))) po_none)))) pss_nil))))
      (pss_one (ps_ret (pv 1))), ?_⟩
    have sz : sizeLine = 16777216 := rfl
    refine ⟨_, rfl, D, rfl, ⟨_, hD⟩, for_list (xs := xs) (fun i σ Hi => ∃ o1 o2 o3 : Option V, σ = [some (.ref D), some (.str y), o1, o2, o3] ∧ Hi = H ∧ turn (rs.drop i) y = turn rs y)
      ⟨_, _, _, rfl, rfl, rfl⟩ ?_ ?_ ?_⟩
    · rintro i σ Hi _ ⟨_, _, _, rfl, rfl, _⟩
      exact hD
    · rintro i x σ Hi hx ⟨o1, o2, o3, rfl, rfl, ht⟩
      obtain ⟨r, hr', t, rfl, hT⟩ := paired_get hrs hx
      have hm : r ∈ rs := List.mem_of_getElem? hr'
      obtain ⟨l1, l2⟩ := lr r hm
      have hlt : i < rs.length := (List.getElem?_eq_some_iff.mp hr').1
      have ed : rs.drop i = r :: rs.drop (i + 1) := by
        rw [List.drop_eq_getElem_cons hlt]
        congr 1
        exact (List.getElem?_eq_some_iff.mp hr').2
      rw [ed] at ht
      refine ⟨t, _, rfl, SqT.of hT, rfl, _, _, rfl, _, _, rfl, _, _, rfl, rfl, ?_⟩
      obtain ⟨fr, old, new⟩ := r
      cases fr with
      | true =>
        refine ⟨_, rfl, rfl, _, rfl, ?_⟩
        refine ite2 (fun h => absurd (of_decide_eq_true h) (strV_ne kd_ne)) (fun _ => ?_)
        refine iteF ?_
        refine ⟨_, rfl, rfl, _, rfl, ?_⟩
        refine ite2 (fun _ => ?_) (fun h => absurd (decide_eq_true rfl) h)
        refine ⟨_, rfl, _, rfl, _, old.length, rfl, ⟨(by rw [sz]; exact Nat.le_trans l1 (by decide)), rfl⟩, _, rfl, y, rfl, (by rw [sz]; exact Nat.le_trans ly (by decide)), _, rfl, rfl, _, rfl, ?_⟩
        by_cases hf : cutS y none (some (old.length : Int)) = old
        · rw [decide_eq_true (show V.str (cutS y none (some (old.length : Int))) = V.str old by rw [hf])]
          refine iteT ?_
          refine ⟨_, rfl, _, rfl, _, rfl, _, old.length, rfl, ⟨(by rw [sz]; exact Nat.le_trans l1 (by decide)), rfl⟩, _, rfl, y, rfl, (by rw [sz]; exact Nat.le_trans ly (by decide)), _, _, rfl, rfl, ?_, ?_⟩
          · have := cutS_length y (some (old.length : Int)) none
            have l2' : new.length ≤ 1000 := l2
            rw [sz]
            omega
          · have e1 : turn rs y = new ++ cutS y (some (old.length : Int)) none := by
              rw [← ht]
              show (if fits ⟨true, old, new⟩ y = true then _ else _) = _
              rw [if_pos (show fits ⟨true, old, new⟩ y = true from decide_eq_true hf)]
              rfl
            rw [e1] at k
            exact k
        · rw [decide_eq_false (strV_ne hf)]
          refine iteF ?_
          refine ⟨_, _, _, rfl, rfl, ?_⟩
          rw [← ht]
          show _ = (if fits ⟨true, old, new⟩ y = true then _ else _)
          rw [if_neg (by rw [show fits ⟨true, old, new⟩ y = false from decide_eq_false hf]; decide)]
      | false =>
        refine ⟨_, rfl, rfl, _, rfl, ?_⟩
        refine ite2 (fun _ => ?_) (fun h => absurd (decide_eq_true rfl) h)
        refine ⟨_, rfl, _, rfl, rfl, _, rfl, ?_⟩
        by_cases hf : y = old
        · rw [decide_eq_true (show V.str y = V.str old by rw [hf])]
          refine iteT ?_
          refine ⟨_, rfl, ?_⟩
          have e1 : turn rs y = new := by
            rw [← ht]
            show (if fits ⟨false, old, new⟩ y = true then _ else _) = _
            rw [if_pos (show fits ⟨false, old, new⟩ y = true from decide_eq_true hf)]
            rfl
          rw [e1] at k
          exact k
        · rw [decide_eq_false (strV_ne hf)]
          refine iteF ?_
          refine ⟨_, rfl, rfl, _, rfl, ?_⟩
          refine ite2 (fun h => absurd (of_decide_eq_true h) (strV_ne (Ne.symm kd_ne))) (fun _ => ?_)
          refine iteF ?_
          refine ⟨_, _, _, rfl, rfl, ?_⟩
          rw [← ht]
          show _ = (if fits ⟨false, old, new⟩ y = true then _ else _)
          rw [if_neg (by rw [show fits ⟨false, old, new⟩ y = false from decide_eq_false hf]; decide)]
    · rintro σ Hi ⟨o1, o2, o3, rfl, rfl, ht⟩
      have : turn rs y = y := by
        rw [← ht, paired_len hrs, List.drop_length]
        rfl
      refine ⟨_, rfl, ?_⟩
      rw [this] at k
      exact k
end
end K21
namespace K21
open PySem PySem.Spec PyProof.Rows L2 FL
abbrev sNotes : Stmt := topS 54
section
variable {P : Program} {w : World} {K : PySem.W.Frag} {mg : Str → Option Value} {base : Heap}
abbrev nNotes : List Str := ["_law_abc_here", "_law_most", "_law_found", "_law_last", "_law_turn_here", "_law_longer", "_law_note_here", "_law_letter"]
theorem scNotes : FnScope nNotes ["_law_abc_here", "_law_most"] (defScope sNotes) :=
  ⟨rfl, rfl, rfl, by decide +kernel, rfl, by decide +kernel, by decide +kernel⟩
theorem ok_notes {f : Addr} {fd : FuncData} (F : Fun K "_law_notes" "_law_notes" sNotes f fd) (mR : mg "range" = none) :
    FnOk P w K mg base CX0 1 f fd ["_law_abc_here", "_law_most"] spNotes := by
  refine F.ok scNotes (fun vs H Q E h => ?_) (fun cdv A outer s H vs Q E hr h => ?_)
  · obtain ⟨_, _, rfl, _⟩ := h
    rfl
  · obtain ⟨z, m, rfl, z0, z1, m0, m1, k⟩ := h
    have nd := scNotes.nd
    refine ⟨_, pss_cons (ps_par (i := 2) (j := 3) (by rfl) nd rfl rfl (by decide) rfl rfl
        (pa_cons (pe_lst (pa_cons pe_str pa_nil)) (pa_cons (pe_lst (pa_cons pe_str pa_nil)) pa_nil)) (by rfl))
      (pss_cons (ps_for PassesOwn.never rfl (pi_range1 (by rfl) mR (pa_cons (pv 1) pa_nil)) (pg_name (i := 4) nd rfl (.inl rfl))
        (pss_cons (ps_set (i := 5) nd rfl (.inl rfl) (pe_lst pa_nil))
        (pss_cons (ps_for PassesOwn.never rfl (pi_list (pv 3)) (pg_name (i := 6) nd rfl (.inr rfl))
          (pss_one (ps_expr (pe_bm PySem.F.plainAttrs_list PySem.F.slot_list_extend PySem.F.type_list_extend mtExtend (pv 5)
            (pa_cons (pe_lc (own := [("_law_letter", 7)]) (g := gName 7) (tt := tYes) rfl nd (pi_str (pv 0))
              (blkOk_by (N := nNotes) (sc := defScope sNotes) (by decide +kernel))
              (fun _ _ _ _ _ => pg_name (i := 7) nd rfl (Or.inl rfl)) (fun _ _ _ _ _ => pts_nil)
              (fun _ _ _ _ _ => pe_op op_add_str (pv 6) (pv 7))) pa_nil)))))
        (pss_one (ps_par (i := 2) (j := 3) (by rfl) nd rfl rfl (by decide) rfl rfl
          (pa_cons (pe_op op_cat (pv 2) (pv 5)) (pa_cons (pv 5) pa_nil)) (by rfl))))))
      (pss_one (ps_ret (pv 2)))), ?_⟩
    have sz : sizeLine = 16777216 := rfl
    have hn : z.cps.size = z.length := rfl
    refine ⟨by decide, fun A1 hA1 => ?_⟩
    refine ⟨by decide, fun A2 hA2 => ?_⟩
    have n12 : A1 ≠ A2 := fun e => by
      rw [e] at hA2
      rw [upd_same] at hA2
      cases hA2
    have hA20 : H A2 = none := by
      rw [upd_ne (Ne.symm n12)] at hA2
      exact hA2
    refine ⟨_, _, rfl, _, rfl, m, rfl, by omega, by omega, ?_⟩
    refine for_range (lo := 0) (n := m.toNat) (fun i σ Hi => ∃ (o4 o5 o6 : Option V) (F1 La : Addr) (fs ls : List Str),
        σ = [some (.str z), some (.int m), some (.ref F1), some (.ref La), o4, o5, o6, none] ∧ H F1 = none ∧ H La = none
      ∧ Hi F1 = some (.lst (fs.map V.str)) ∧ Hi La = some (.lst (ls.map V.str)) ∧ ls.length = z.length ^ i ∧ fs.length ≤ 256 * (i + 1)
      ∧ (∀ y ∈ ls, NoteOk z i y) ∧ (∀ y ∈ fs, NoteOk z i y) ∧ Same H Hi) ?_ ?_ ?_
    · have e0 : NoteOk z 0 (Str.ofString "") := ⟨fun c hc => (by rw [show (Str.ofString "").cps.toList = [] by decide +kernel] at hc; cases hc), by decide +kernel⟩
      refine ⟨_, _, _, A1, A2, [Str.ofString ""], [Str.ofString ""], rfl, hA1, hA20, ?_, upd_same, by simp, by simp, ?_, ?_, ((Same.refl H).upd hA1).upd hA20⟩
      · rw [upd_ne n12, upd_same]
        rfl
      · intro y hy
        rw [List.mem_singleton.mp hy]
        exact e0
      · intro y hy
        rw [List.mem_singleton.mp hy]
        exact e0
    · rintro i σ Hi hi ⟨o4, o5, o6, F1, La, fs, ls, rfl, nF, nL, hF, hL, ll, lf, okl, okf, sm⟩
      refine ⟨by decide, fun L hL0 => ?_⟩
      have nFL : F1 ≠ L := ne_of_none hF hL0
      have nLL : La ≠ L := ne_of_none hL hL0
      have h0L : H L = none := sm.none hL0
      have hi4 : i ≤ 4 := by omega
      have pb := pow_bound z1 hi4 z0
      refine ⟨_, rfl, La, rfl, ⟨_, SqL.of (by rw [upd_ne nLL]; exact hL)⟩, for_list (xs := ls.map V.str) (fun j σ Hj => ∃ (o6 : Option V) (ws : List Str),
          σ = [some (.str z), some (.int m), some (.ref F1), some (.ref La), some (.int (0 + i)), some (.ref L), o6, none]
        ∧ Hj F1 = some (.lst (fs.map V.str)) ∧ Hj La = some (.lst (ls.map V.str)) ∧ Hj L = some (.lst (ws.map V.str)) ∧ ws.length = j * z.length ∧ (∀ y ∈ ws, NoteOk z (i + 1) y) ∧ Same H Hj) ?_ ?_ ?_ ?_⟩
      · exact ⟨_, [], rfl, by rw [upd_ne nFL]; exact hF, by rw [upd_ne nLL]; exact hL, upd_same, by simp, (fun _ h => nomatch h), sm.upd h0L⟩
      · rintro j σ Hj _ ⟨_, ws, rfl, _, h2, _⟩
        exact SqL.of h2
      · rintro j x σ Hj hx ⟨o6, ws, rfl, h1, h2, h3, lw, okw, sj⟩
        rw [List.getElem?_map] at hx
        cases hy : ls[j]? with
        | none =>
          rw [hy] at hx
          cases hx
        | some y =>
          rw [hy] at hx
          obtain rfl : V.str y = x := Option.some.inj hx
          have my : y ∈ ls := List.mem_of_getElem? hy
          have jl : j < ls.length := (List.getElem?_eq_some_iff.mp hy).1
          have oky := okl y my
          refine ⟨_, rfl, .inl ⟨rfl, _, SqL.of h3⟩, _, rfl, z, rfl, fun C hC => ?_⟩
          have nCL : L ≠ C := ne_of_none h3 hC
          have h0C : H C = none := sj.none hC
          refine lc_it walk_str (fun t Ht => ∃ cs : List Str, Ht C = some (.lst (cs.map V.str)) ∧ cs.length = t ∧ (∀ y ∈ cs, NoteOk z (i + 1) y)
            ∧ Ht F1 = some (.lst (fs.map V.str)) ∧ Ht La = some (.lst (ls.map V.str)) ∧ Ht L = some (.lst (ws.map V.str)) ∧ Same H Ht) ?_ (fun _ _ _ _ => trivial) ?_ ?_
          · exact ⟨[], upd_same, rfl, (fun _ h => nomatch h), by rw [upd_ne (ne_of_none h1 hC)]; exact h1, by rw [upd_ne (ne_of_none h2 hC)]; exact h2, by rw [upd_ne nCL]; exact h3, sj.upd h0C⟩
          · rintro t x Ht _ ht ⟨cs, g0, g1, g2, g3, g4, g5, g6⟩ ⟨rfl, c, hc, rfl⟩
            have cz : c ∈ z.cps.toList := by
              have : z.cps.toList[t]? = some c := by simpa using hc
              exact List.mem_of_getElem? this
            have ly : y.length ≤ i := oky.le
            refine ⟨rfl, _, rfl, _, rfl, _, _, rfl, rfl, (by rw [len_one, sz]; omega), ?_⟩
            have nCF : F1 ≠ C := ne_of_none h1 hC
            have nCA : La ≠ C := ne_of_none h2 hC
            refine ⟨_, g0, (by rw [List.length_map, sz]; omega), cs ++ [y ++ ⟨#[c]⟩], ?_, ?_, ?_, ?_, ?_, ?_, g6.upd h0C⟩
            · rw [upd_same, List.map_append]
              rfl
            · rw [List.length_append, g1]
              rfl
            · intro q hq
              rcases List.mem_append.mp hq with h | h
              · exact g2 q h
              · rw [List.mem_singleton.mp h]
                exact ⟨over_app oky.ov (over_one cz), by rw [len_app, len_one]; omega⟩
            · rw [upd_ne nCF]
              exact g3
            · rw [upd_ne nCA]
              exact g4
            · rw [upd_ne nCL]
              exact g5
          · rintro Ht ⟨cs, g0, g1, g2, g3, g4, g5, g6⟩
            have jz : (j + 1) * z.length ≤ 256 * 4 := Nat.mul_le_mul (by omega) z1
            have jz2 : (j + 1) * z.length = j * z.length + z.length := Nat.succ_mul _ _
            refine ⟨L, C, _, _, rfl, rfl, g5, g0, (by rw [List.length_map, List.length_map, sz]; omega), ?_⟩
            have nFL2 : F1 ≠ L := nFL
            refine ⟨_, ws ++ cs, rfl, by rw [upd_ne nFL]; exact g3, by rw [upd_ne nLL]; exact g4, by rw [upd_same, List.map_append], ?_, ?_, g6.upd h0L⟩
            · rw [List.length_append, lw, g1]
              omega
            · intro q hq
              exact (List.mem_append.mp hq).elim (okw q) (g2 q)
      · rintro σ Hj ⟨o6, ws, rfl, h1, h2, h3, lw, okw, sj⟩
        rw [List.length_map] at lw
        have pw : ws.length = z.length ^ (i + 1) := by
          rw [lw, ll, Nat.pow_succ]
        have pb2 := pow_bound z1 (show i + 1 ≤ 4 by omega) z0
        refine ⟨_, rfl, _, rfl, F1, L, _, _, rfl, rfl, h1, h3, (by rw [List.length_map, List.length_map, sz]; omega), fun Pp hP => ?_⟩
        refine ⟨_, rfl, _, _, rfl, ?_⟩
        refine ⟨_, _, _, Pp, L, fs ++ ws, ws, rfl, sj.none hP, h0L, by rw [upd_same, List.map_append], by rw [upd_ne (ne_of_none h3 hP)]; exact h3, pw, ?_, okw, ?_, sj.upd (sj.none hP)⟩
        · rw [List.length_append]
          omega
        · intro q hq
          rcases List.mem_append.mp hq with h | h
          · exact ⟨(okf q h).ov, Nat.le_trans (okf q h).le (Nat.le_succ _)⟩
          · exact okw q h
    · rintro σ Hi ⟨o4, o5, o6, F1, La, fs, ls, rfl, nF, nL, hF, hL, ll, lf, okl, okf, sm⟩
      exact ⟨_, rfl, k F1 fs Hi nF hF okf (by omega) sm⟩
end
end K21
namespace K21
open PySem PySem.Spec PyProof.Rows L2 FL
abbrev sHid : Stmt := topS 55
section
variable {P : Program} {w : World} {K : PySem.W.Frag} {mg : Str → Option Value} {base : Heap}
abbrev nHid : List Str := ["_law_pot_here", "_law_abc_here", "_law_deals_here", "_law_found", "_law_turn_here", "_law_kind", "_law_old", "_law_new", "_law_later", "_law_sort"]
theorem scHid : FnScope nHid ["_law_pot_here", "_law_abc_here", "_law_deals_here"] (defScope sHid) :=
  ⟨rfl, rfl, rfl, by decide +kernel, rfl, by decide +kernel, by decide +kernel⟩
theorem ok_hid {f g h e : Addr} {fd gd hd ed : FuncData} (F : Fun K "_law_with_hidden" "_law_with_hidden" sHid f fd)
    (G : FnOk P w K mg base CX0 1 g gd ["_law_pot_here", "_law_much"] spDraw) (bG : Binds K gd ["_law_pot_here", "_law_much"] [])
    (kG : PySem.W.keepIn K (.ref g) = true) (mG : mg "_law_draw" = some (.ref g))
    (Hk : FnOk P w K mg base CX0 2 h hd ["_law_pot_here", "_law_some"] (spPick K)) (bH : Binds K hd ["_law_pot_here", "_law_some"] [])
    (kH : PySem.W.keepIn K (.ref h) = true) (mH : mg "_law_pick" = some (.ref h))
    (Ek : FnOk P w K mg base CX0 3 e ed ["_law_pot_here", "_law_abc_here", "_law_most"] spNote) (bE : Binds K ed ["_law_pot_here", "_law_abc_here", "_law_most"] [])
    (kE : PySem.W.keepIn K (.ref e) = true) (mE : mg "_law_note" = some (.ref e)) (mR : mg "range" = none) (mL : mg "list" = none) :
    FnOk P w K mg base CX0 4 f fd ["_law_pot_here", "_law_abc_here", "_law_deals_here"] (spHid K) := by
  refine F.ok scHid (fun vs H Q E h => ?_) (fun cdv A outer s H vs Q E hr h => ?_)
  · obtain ⟨_, _, _, _, _, _, rfl, _⟩ := h
    rfl
  · obtain ⟨p, z, D0, xs, rs, b, rfl, hp, hz, hD0, hrs, lrs, lb, lb2, hok, k⟩ := h
    have nd := scHid.nd
    have hr1 := hr.mono (show 1 ≤ 3 by decide)
    have hr2 := hr.mono (show 2 ≤ 3 by decide)
    have z0 : 0 < z.length := by have := hz.lo; omega
    have z1 : z.length ≤ 1000 := by have := hz.hi; omega
    refine ⟨_, pss_cons (ps_set (i := 3) nd rfl (.inl rfl) (pe_callTy call_list_of (by rfl) mL (by decide +kernel) (pa_cons (pv 2) pa_nil)))
      (pss_cons (ps_for PassesOwn.never rfl (pi_range1 (by rfl) mR (pa_cons (pe_call G hr1 (by rfl) mG kG bG .nil pass0
          (pa_cons (pv 0) (pa_cons pe_int pa_nil))) pa_nil)) (pg_name (i := 4) nd rfl (.inl rfl))
        (pss_one (ps_if (pt_cmpR (op_neD hr.units) (pv 3) (pe_lst pa_nil) (nomark _))
          (pss_cons (ps_asg (pe_call Hk hr2 (by rfl) mH kH bH .nil pass0 (pa_cons (pv 0) (pa_cons (pv 3) pa_nil)))
            (pg_tup rfl (pgs_cons (pg_name (i := 5) nd rfl (.inl rfl)) (pgs_cons (pg_name (i := 6) nd rfl (.inl rfl)) (pgs_cons (pg_name (i := 7) nd rfl (.inl rfl)) pgs_nil)))))
          (C8.pss_cut (ps_set (i := 8) nd rfl (.inl rfl) (pe_ifExp (pt_cmpR op_eq (pv 5) pe_str (nomark _))
            (pe_op op_add_str (pv 6) (pe_call Ek hr (by rfl) mE kE bE .nil pass0 (pa_cons (pv 0) (pa_cons (pv 1) (pa_cons pe_int pa_nil))))) (pv 6)))
          (C8.pss_cut (ps_set (i := 9) nd rfl (.inl rfl) (pe_ifExp (pt_cmpR op_eq (pv 5) pe_str (nomark _))
            (pe_call Hk hr2 (by rfl) mH kH bH .nil pass0 (pa_cons (pv 0) (pa_cons (pe_lst (pa_cons pe_str (pa_cons pe_str pa_nil))) pa_nil))) pe_str))
          (pss_one (ps_expr (pe_bm PySem.F.plainAttrs_list PySem.F.slot_list_append PySem.F.type_list_append mtAppend (pv 3)
            (pa_cons (pe_tup (pa_cons (pv 9) (pa_cons (pv 8) (pa_cons (pe_call Ek hr (by rfl) mE kE bE .nil pass0 (pa_cons (pv 0) (pa_cons (pv 1) (pa_cons pe_int pa_nil)))) pa_nil)))) pa_nil)))))))
          pss_nil)))
      (pss_one (ps_ret (pv 3)))), ?_⟩
    refine ⟨_, rfl, D0, xs, rfl, .inl hD0, fun D hD => ?_⟩
    have npD : p ≠ D := hp.ne hD
    refine ⟨_, rfl, p, 3, rfl, hp.upd npD, by decide, by decide, fun d H1 d0 d1 hp1 b1 => ?_⟩
    refine ⟨d, rfl, by omega, by omega, ?_⟩
    have b0 : But p H H1 := ((But.refl p H).upd hD).trans b1
    have sz : sizeLine = 16777216 := rfl
    refine for_range (lo := 0) (n := d.toNat) (fun i σ Hi => ∃ (o1 o2 o3 o4 o5 o6 : Option V) (ys : List V) (ts : List Rule),
        σ = [some (.ref p), some (.str z), some (.ref D0), some (.ref D), o1, o2, o3, o4, o5, o6]
      ∧ PotAt Hi p ∧ But p H Hi ∧ Hi D = some (.lst ys) ∧ RulesAt Hi ys ts ∧ ts.length ≤ rs.length + i ∧ ∀ r ∈ ts, RuleOk z (b + i) r) ?_ ?_ ?_
    · refine ⟨_, _, _, _, _, _, xs, rs, rfl, hp1, b0, b1 D _ upd_same (Ne.symm npD), ?_, Nat.le_refl _, hok⟩
      refine RulesAt.imp hrs fun t a et => ?_
      exact b0.tups hp t a et
    · rintro i σ Hi hi ⟨o1, o2, o3, o4, o5, o6, ys, ts, rfl, hpi, bi, hDi, hts, lt, okt⟩
      refine ⟨_, rfl, by decide, fun L0 hL0 => ?_⟩
      have nDL : D ≠ L0 := ne_of_none hDi hL0
      have hD1 : upd Hi L0 (.lst []) D = some (.lst ys) := by rw [upd_ne nDL]; exact hDi
      have ht1 : RulesAt (upd Hi L0 (.lst [])) ys ts := RulesAt.imp hts fun t a et => by rw [upd_ne (ne_of_none et hL0)]; exact et
      have sm := Sm.rules (ok_plain hz okt)
      refine ⟨_, _, dp_list (SqL.of hD1) ht1, .lst (SqL.of upd_same) .nil, sm.shaped, rfl, _, rfl, ?_⟩
      have bL : But p Hi (upd Hi L0 (.lst [])) := fun c u ec _ => by rw [upd_ne (ne_of_none ec hL0)]; exact ec
      have hpL : PotAt (upd Hi L0 (.lst [])) p := hpi.upd (hpi.ne hL0)
      have lys := paired_len hts
      refine ite2 (fun hc => ?_) (fun hc => ?_)
      · have hne : ts ≠ [] := fun e => by
          rw [e] at hc
          exact absurd hc (by decide)
        have hpos : 0 < ts.length := List.length_pos_iff.mpr hne
        refine ⟨_, rfl, _, rfl, p, _, rfl, hpL, .inl ⟨D, ys, rfl, Ne.symm npD, SqL.of hD1, by omega, by omega, fun x H2 hx hp2 b2 => ?_⟩⟩
        obtain ⟨r, hr', t, rfl, hT⟩ := paired_mem ht1 hx
        have okr := okt r hr'
        have hT2 := b2.tups hpL t _ hT
        refine ⟨t, _, rfl, SqT.of hT2, rfl, _, _, rfl, _, _, rfl, _, _, rfl, rfl, ?_⟩
        obtain ⟨fr, old, new⟩ := r
        have b12 : But p Hi H2 := bL.trans b2
        refine ⟨fun σ' H' => ∃ la : Str, σ' = [some (.ref p), some (.str z), some (.ref D0), some (.ref D), some (.int (0 + i)), some (.str (kd fr)), some (.str old), some (.str new), some (.str la), o6]
          ∧ Over z la ∧ la.length ≤ b + i + 1 ∧ PotAt H' p ∧ But p Hi H', ?_, ?_⟩
        · have lo : old.length ≤ b + i := okr.o2
          cases fr with
          | true =>
            refine ⟨_, rfl, rfl, _, rfl, ?_⟩
            refine ite2 (fun _ => ?_) (fun h => absurd (decide_eq_true rfl) h)
            refine ⟨_, rfl, _, rfl, _, rfl, p, z, 1, rfl, hp2, z0, z1, by decide, by decide, fun y H3 oy ly hp3 b3 => ?_⟩
            refine ⟨old, y, rfl, rfl, (by rw [sz]; omega), old ++ y, rfl, over_app okr.o1 oy, (by rw [len_app]; omega), hp3, b12.trans b3⟩
          | false =>
            refine ⟨_, rfl, rfl, _, rfl, ?_⟩
            refine ite2 (fun h => absurd (of_decide_eq_true h) (strV_ne (Ne.symm kd_ne))) (fun _ => ?_)
            exact ⟨_, rfl, old, rfl, okr.o1, (by omega), hp2, b12⟩
        · rintro σ' H3 ⟨la, rfl, ola, lla, hp3, b3⟩
          refine ⟨fun σ' H' => ∃ sb : Bool, σ' = [some (.ref p), some (.str z), some (.ref D0), some (.ref D), some (.int (0 + i)), some (.str (kd fr)), some (.str old), some (.str new), some (.str la), some (.str (kd sb))]
            ∧ PotAt H' p ∧ But p Hi H', ?_, ?_⟩
          · cases fr with
            | true =>
              refine ⟨_, rfl, rfl, _, rfl, ?_⟩
              refine ite2 (fun _ => ?_) (fun h => absurd (decide_eq_true rfl) h)
              refine ⟨_, rfl, by decide, fun L hL => ?_⟩
              refine ⟨p, _, rfl, hp3.upd (hp3.ne hL), .inl ⟨L, _, rfl, Ne.symm (hp3.ne hL), SqL.of upd_same, by decide, by decide, fun x H4 hx hp4 b4 => ?_⟩⟩
              have b34 : But p Hi H4 := fun c u ec nc => b4 c u (by
                have := b3 c u ec nc
                rw [upd_ne (ne_of_none this hL)]
                exact this) nc
              simp only [List.mem_cons, List.mem_nil_iff, or_false] at hx
              rcases hx with rfl | rfl
              · exact ⟨true, rfl, hp4, b34⟩
              · exact ⟨false, rfl, hp4, b34⟩
            | false =>
              refine ⟨_, rfl, rfl, _, rfl, ?_⟩
              refine ite2 (fun h => absurd (of_decide_eq_true h) (strV_ne (Ne.symm kd_ne))) (fun _ => ?_)
              exact ⟨false, rfl, hp3, b3⟩
          · rintro σ' H4 ⟨sb, rfl, hp4, b4⟩
            have hD4 := b4 D _ hDi (Ne.symm npD)
            refine ⟨_, rfl, .inl ⟨rfl, _, SqL.of hD4⟩, _, rfl, _, rfl, _, rfl, _, rfl, p, z, 2, rfl, hp4, z0, z1, by decide, by decide, fun nw H5 onw lnw hp5 b5 => ?_⟩
            refine ⟨(by show 3 ≤ sizeLine; decide), fun T hT => ?_⟩
            have b45 := b4.trans b5
            have hD5 := b45 D _ hDi (Ne.symm npD)
            have nDT : D ≠ T := ne_of_none hD5 hT
            refine ⟨D, ys, _, rfl, rfl, by rw [upd_ne nDT]; exact hD5, (by rw [sz]; omega), ?_⟩
            refine ⟨_, _, _, _, _, _, ys ++ [.ref T], ts ++ [⟨sb, la, nw⟩], rfl, (hp5.upd (hp5.ne hT)).upd npD, ?_, upd_same, ?_, ?_, ?_⟩
            · intro c u ec nc
              have e5 := b45 c u (bi c u ec nc) nc
              rw [upd_ne (ne_of_none ec hD), upd_ne (ne_of_none e5 hT)]
              exact e5
            · refine paired_snoc (RulesAt.imp hts fun t a et => ?_) ⟨T, rfl, ?_⟩
              · have e5 := b45.tups hpi t a et
                have ntD : t ≠ D := ne_of e5 hD5 (by intro q; cases q)
                rw [upd_ne ntD, upd_ne (ne_of_none e5 hT)]
                exact e5
              · rw [upd_ne (Ne.symm nDT), upd_same]
                rfl
            · rw [List.length_append]
              show ts.length + 1 ≤ _
              omega
            · intro r' hr'
              rcases List.mem_append.mp hr' with h | h
              · exact (okt r' h).mono (by omega)
              · rw [List.mem_singleton.mp h]
                exact ⟨ola, lla, onw, Nat.le_trans (show nw.length ≤ 2 by omega) (by omega)⟩
      · refine ⟨_, _, _, _, _, _, ys, ts, rfl, hpL, bi.trans bL, hD1, ht1, by omega, fun r hr' => (okt r hr').mono (by omega)⟩
    · rintro σ Hi ⟨o1, o2, o3, o4, o5, o6, ys, ts, rfl, hpi, bi, hDi, hts, lt, okt⟩
      exact ⟨_, rfl, k D ys ts Hi hD hDi hts (by omega) (fun r hr' => (okt r hr').mono (by omega)) hpi bi⟩
end
end K21
namespace K21
open PySem PySem.Spec PyProof.Rows L2 FL
abbrev sIsSigns : Stmt := topS 13
abbrev sIsLine : Stmt := topS 14
section
variable {P : Program} {w : World} {K : PySem.W.Frag} {mg : Str → Option Value} {base : Heap}
theorem scIsLine : FnScope ["signs", "value"] ["signs", "value"] (defScope sIsLine) :=
  ⟨rfl, rfl, rfl, by decide +kernel, rfl, by decide +kernel, by decide +kernel⟩
theorem ok_isline {f : Addr} {fd : FuncData} (F : Fun K "is_line" "is_line" sIsLine f fd)
    (mI : mg "isinstance" = none) (mS : mg "str" = none) :
    FnOk P w K mg base CX0 1 f fd ["signs", "value"] spLine := by
  refine F.ok scIsLine (fun vs H Q E h => ?_) (fun cdv A outer s H vs Q E hr h => ?_)
  · obtain ⟨_, _, _, rfl, _⟩ := h
    rfl
  · obtain ⟨sg, v, n, rfl, an, sh, k⟩ := h
    refine ⟨_, pss_one (ps_ret (pe_and (pe_callB call_isA (by rfl) mI (by decide +kernel)
        (pa_cons (pv 1) (pa_cons (pe_bltn (v := .ty "str") (by rfl) mS (by decide +kernel) rfl) pa_nil)))
      (pe_one (pe_cmpR op_eq (pe_bm PySem.F.plainAttrs_str PySem.F.slot_str_strip PySem.F.type_str_strip mt_stripChars (pv 1) (pa_cons (pv 0) pa_nil)) pe_str (nomark _))))), ?_⟩
    refine ⟨v, rfl, v, n, "str", rfl, an, by decide, _, rfl, ?_⟩
    cases an with
    | str z =>
      refine ⟨.str z, rfl, rfl, .str sg, rfl, z, sg, rfl, rfl, sh z rfl, rfl, ?_⟩
      have e : decide (V.str (Txt.stripChars z sg) = V.str (Str.ofString "")) = lineB sg (.str z) := by
        show _ = decide (Txt.stripChars z sg = (Str.ofString ""))
        by_cases h : Txt.stripChars z sg = Str.ofString ""
        · rw [h]
          simp
        · rw [decide_eq_false h, decide_eq_false]
          intro q
          exact h (V.str.inj q)
      rw [e]
      exact k
    | _ => exact k
abbrev nIsSigns : List Str := ["value", "rising", "first", "second"]
theorem scIsSigns : FnScope nIsSigns ["value"] (defScope sIsSigns) :=
  ⟨rfl, rfl, rfl, by decide +kernel, rfl, by decide +kernel, by decide +kernel⟩
theorem ok_issigns {f g : Addr} {fd gd : FuncData} (F : Fun K "is_signs" "is_signs" sIsSigns f fd)
    (G : FnOk P w K mg base CX0 1 g gd ["signs", "value"] spLine) (bG : Binds K gd ["signs", "value"] [])
    (kG : PySem.W.keepIn K (.ref g) = true) (mG : mg "is_line" = some (.ref g)) {tk : Tok}
    (mC : mg "SIGN_CHARACTERS" = some (.str signChars tk))
    (mI : mg "isinstance" = none) (mS : mg "str" = none) (mN : mg "len" = none) (mA : mg "all" = none) (mZ : mg "zip" = none) :
    FnOk P w K mg base CX0 2 f fd ["value"] spSigns := by
  refine F.ok scIsSigns (fun vs H Q E h => ?_) (fun cdv A outer s H vs Q E hr h => ?_)
  · obtain ⟨_, _, rfl, _⟩ := h
    rfl
  · obtain ⟨v, n, rfl, an, sh, k⟩ := h
    have nd := scIsSigns.nd
    refine ⟨_, pss_cons (ps_if (PW.pt (pw_or (pt_not (pt_val (pe_callB call_isA (by rfl) mI (by decide +kernel)
          (pa_cons (pv 0) (pa_cons (pe_bltn (v := .ty "str") (by rfl) mS (by decide +kernel) rfl) pa_nil)))))
        (pw_or (pt_cmpR op_lt (pe_callB callLen (by rfl) mN PySem.boot_len (pa_cons (pv 0) pa_nil)) pe_int (nomark _))
        (pw_or1 (pt_cmpR op_gt (pe_callB callLen (by rfl) mN PySem.boot_len (pa_cons (pv 0) pa_nil)) pe_int (nomark _))))))
        (pss_one (ps_ret pe_bl)) pss_nil)
      (pss_cons (ps_set (i := 1) nd rfl (.inl rfl) (pe_callB (cr_all rfl) (by rfl) mA (by decide +kernel)
        (pa_cons (pe_lc (own := [("first", 2), ("second", 3)]) (g := gTup K 2 (gCons (gName 2) (gCons (gName 3) gNil))) (tt := tYes) rfl nd
          (pi_zipS (by rfl) mZ (pa_cons (pv 0) (pa_cons (pe_slice sl_str (pv 0) (po_some pe_int) po_none) pa_nil)))
          (blkOk_by (N := nIsSigns) (sc := defScope sIsSigns) (by decide +kernel))
          (fun _ _ _ _ _ => pg_tup rfl (pgs_cons (pg_name (i := 2) nd rfl (Or.inl rfl)) (pgs_cons (pg_name (i := 3) nd rfl (Or.inl rfl)) pgs_nil)))
          (fun _ _ _ _ _ => pts_nil)
          (fun _ _ _ _ _ => pe_cmpR op_lt_str (pv 2) (pv 3) (nomark _))) pa_nil)))
      (pss_one (ps_ret (pe_and (pv 1) (pe_one (pe_call G hr (by rfl) mG kG bG .nil pass0 (pa_cons (pe_glob (v := .str signChars) rfl mC ⟨_, rfl⟩) (pa_cons (pv 0) pa_nil)))))))), ?_⟩
    refine ⟨v, rfl, v, n, "str", rfl, an, by decide, _, rfl, ?_⟩
    cases an with
    | str z =>
      have lz : z.length ≤ sizeLine := sh z rfl
      have hl := str_len z
      refine iteF ?_
      refine ⟨_, rfl, _, z.length, rfl, ⟨lz, rfl⟩, _, _, rfl, rfl, _, rfl, ?_⟩
      by_cases h2 : (z.length : Int) < 2
      · rw [decide_eq_true h2]
        refine iteT ?_
        refine iteT ?_
        have e : signsB (.str z) = false := by
          show (decide (2 ≤ z.length) && _) = false
          rw [decide_eq_false (by omega)]
          rfl
        have := k H (Same.refl H)
        rw [e] at this
        exact this
      rw [decide_eq_false h2]
      refine iteF ?_
      refine ⟨_, rfl, _, z.length, rfl, ⟨lz, rfl⟩, _, _, rfl, rfl, _, rfl, ?_⟩
      by_cases h4 : (z.length : Int) > 4
      · rw [decide_eq_true h4]
        refine iteT ?_
        have e : signsB (.str z) = false := by
          show (decide (2 ≤ z.length) && (decide (z.length ≤ 4) && _)) = false
          rw [decide_eq_false (show ¬ z.length ≤ 4 by omega)]
          simp
        have := k H (Same.refl H)
        rw [e] at this
        exact this
      rw [decide_eq_false h4]
      refine iteF ?_
      refine ⟨_, rfl, _, rfl, 1, rfl, z, rfl, lz, z, cutS z (some 1) none, rfl, fun D hD => ?_⟩
      have sz : sizeLine = 16777216 := rfl
      have ltail : (cutS z (some 1) none).cps.size = z.cps.toList.tail.length := by rw [← cut_tail, Array.length_toList]
      refine lc_it walk_zipS (fun t Ht => Same H Ht ∧ Ht D = some (.lst (((rise z.cps.toList).take t).map V.bl))) ?_ (fun _ _ _ _ => trivial) ?_ ?_
      · exact ⟨(Same.refl H).upd hD, upd_same⟩
      · rintro t x Ht _ ht ⟨g1, g2⟩ ⟨T, a, b, rfl, hT, rfl, ha, hb⟩
        refine ⟨T, _, rfl, SqT.of upd_same, rfl, _, _, rfl, _, _, rfl, rfl, rfl, ?_⟩
        refine ⟨_, rfl, _, rfl, _, _, rfl, rfl, ?_⟩
        have nDT : D ≠ T := ne_of_none g2 hT
        have ra : z.cps.toList[t]? = some a := by simpa using ha
        have rb : z.cps.toList.tail[t]? = some b := by
          rw [← cut_tail]
          simpa using hb
        refine ⟨_, by rw [upd_ne nDT]; exact g2, ?_, (g1.upd (g1.none hT)).upd hD, ?_⟩
        · rw [List.length_map, List.length_take, sz]
          have : t < z.cps.size := by omega
          have : z.cps.size = z.length := rfl
          omega
        · rw [upd_same, take_snoc (rise_get ra rb), List.map_append]
          rfl
      · rintro Ht ⟨g1, g2⟩
        refine ⟨D, (rise z.cps.toList).take _, rfl, SqL.of g2, ?_⟩
        have eall : (rise z.cps.toList).take (min z.cps.size (cutS z (some 1) none).cps.size) = rise z.cps.toList := by
          apply List.take_of_length_le
          unfold rise
          rw [List.length_zipWith, ltail, Array.length_toList]
          exact Nat.le_refl _
        rw [eall]
        refine ⟨_, rfl, _, rfl, ?_⟩
        have es : signsB (.str z) = ((rise z.cps.toList).all id && lineB signChars (.str z)) := by
          show (decide (2 ≤ z.length) && (decide (z.length ≤ 4) && _)) = _
          rw [decide_eq_true (show 2 ≤ z.length by omega), decide_eq_true (show z.length ≤ 4 by omega)]
          rfl
        have kk := k Ht g1
        rw [es] at kk
        cases hq : (rise z.cps.toList).all id with
        | true =>
          rw [hq] at kk
          exact ⟨_, rfl, signChars, .str z, "str", rfl, .str z, sh, kk⟩
        | false =>
          rw [hq] at kk
          exact kk
    | _ => exact k H (Same.refl H)
end
end K21
namespace K21
open PySem PySem.Spec PyProof.Rows L2 FL
abbrev sIsList : Stmt := topS 12
abbrev sCheckSigns : Stmt := topS 20
abbrev sCheckLine : Stmt := topS 22
abbrev sRuleLine : Stmt := topS 24
abbrev sIsWord : Stmt := topS 23
abbrev sIsRule : Stmt := topS 25
section
variable {P : Program} {w : World} {K : PySem.W.Frag} {mg : Str → Option Value} {base : Heap}
theorem scCheckSigns : FnScope ["signs"] ["signs"] (defScope sCheckSigns) := ⟨rfl, rfl, rfl, by decide +kernel, rfl, by decide +kernel, by decide +kernel⟩
theorem ok_checksigns {f g : Addr} {fd gd : FuncData} (F : Fun K "check_signs" "check_signs" sCheckSigns f fd)
    (G : FnOk P w K mg base CX0 2 g gd ["value"] spSigns) (bG : Binds K gd ["value"] [])
    (kG : PySem.W.keepIn K (.ref g) = true) (mG : mg "is_signs" = some (.ref g)) : FnOk P w K mg base CX0 3 f fd ["signs"] spCheckSigns := by
  refine F.ok scCheckSigns (fun vs H Q E h => ?_) (fun cdv A outer s H vs Q E hr h => ?_)
  · obtain ⟨_, rfl, _⟩ := h
    rfl
  · obtain ⟨z, rfl, hz, k⟩ := h
    refine ⟨_, pss_one (ps_if (pt_not (pt_val (pe_call G hr (by rfl) mG kG bG .nil pass0 (pa_cons (pv 0) pa_nil)))) (pss_one ps_never) pss_nil), ?_⟩
    refine ⟨_, rfl, .str z, "str", rfl, .str z, ?_, fun H' sm => ?_⟩
    · intro y e
      cases e
      have := hz.hi
      exact Nat.le_trans this (by decide)
    · rw [abc_signs hz]
      exact ⟨_, rfl, k H' sm⟩
theorem scCheckLine : FnScope ["signs", "line"] ["signs", "line"] (defScope sCheckLine) := ⟨rfl, rfl, rfl, by decide +kernel, rfl, by decide +kernel, by decide +kernel⟩
theorem ok_checkline {f g : Addr} {fd gd : FuncData} (F : Fun K "check_line" "check_line" sCheckLine f fd)
    (G : FnOk P w K mg base CX0 1 g gd ["signs", "value"] spLine) (bG : Binds K gd ["signs", "value"] [])
    (kG : PySem.W.keepIn K (.ref g) = true) (mG : mg "is_line" = some (.ref g)) : FnOk P w K mg base CX0 2 f fd ["signs", "line"] spCheckLine := by
  refine F.ok scCheckLine (fun vs H Q E h => ?_) (fun cdv A outer s H vs Q E hr h => ?_)
  · obtain ⟨_, _, rfl, _⟩ := h
    rfl
  · obtain ⟨z, y, rfl, oy, ly, k⟩ := h
    refine ⟨_, pss_one (ps_if (pt_not (pt_val (pe_call G hr (by rfl) mG kG bG .nil pass0 (pa_cons (pv 0) (pa_cons (pv 1) pa_nil))))) (pss_one ps_never) pss_nil), ?_⟩
    refine ⟨_, rfl, _, rfl, z, .str y, "str", rfl, .str y, (fun q e => by cases e; exact ly), ?_⟩
    rw [over_line oy]
    exact ⟨_, rfl, k⟩
theorem scIsList : FnScope ["value"] ["value"] (defScope sIsList) := ⟨rfl, rfl, rfl, by decide +kernel, rfl, by decide +kernel, by decide +kernel⟩
theorem ok_islist {f : Addr} {fd : FuncData} (F : Fun K "is_list" "is_list" sIsList f fd)
    (mI : mg "isinstance" = none) (mL : mg "list" = none) (mT : mg "tuple" = none) : FnOk P w K mg base CX0 1 f fd ["value"] spIsList := by
  refine F.ok scIsList (fun vs H Q E h => ?_) (fun cdv A outer s H vs Q E hr h => ?_)
  · obtain ⟨_, _, rfl, _⟩ := h
    rfl
  · obtain ⟨v, n, rfl, an, k⟩ := h
    refine ⟨_, pss_one (ps_ret (pe_callB call_isiT (by rfl) mI (by decide +kernel) (pa_cons (pv 0) (pa_cons
      (pe_tup (pa_cons (pe_bltn (v := .ty "list") (by rfl) mL (by decide +kernel) rfl) (pa_cons (pe_bltn (v := .ty "tuple") (by rfl) mT (by decide +kernel) rfl) pa_nil))) pa_nil)))), ?_⟩
    refine ⟨_, rfl, by decide, fun p hp => ?_⟩
    have an2 : Any (upd H p (.tup [.ty "list", .ty "tuple"])) v n := an.same fun a o _ e => by rw [upd_ne (ne_of_none e hp)]; exact e
    exact ⟨v, p, _, _, _, _, rfl, upd_same, .cons (.ty "list") (.cons (.ty "tuple") .nil), an2.tyx, kit_lt an.kind, k _ ((Same.refl H).upd hp)⟩
theorem scRuleLine : FnScope ["signs", "value"] ["signs", "value"] (defScope sRuleLine) := ⟨rfl, rfl, rfl, by decide +kernel, rfl, by decide +kernel, by decide +kernel⟩
theorem ok_ruleline {f g : Addr} {fd gd : FuncData} (F : Fun K "is_rule_line" "is_rule_line" sRuleLine f fd)
    (G : FnOk P w K mg base CX0 1 g gd ["signs", "value"] spLine) (bG : Binds K gd ["signs", "value"] [])
    (kG : PySem.W.keepIn K (.ref g) = true) (mG : mg "is_line" = some (.ref g)) {tk : Tok} (mM : mg "MOST_RULE_SIGNS" = some (.int 40 tk)) (mN : mg "len" = none) :
    FnOk P w K mg base CX0 2 f fd ["signs", "value"] spRuleLine := by
  refine F.ok scRuleLine (fun vs H Q E h => ?_) (fun cdv A outer s H vs Q E hr h => ?_)
  · obtain ⟨_, _, rfl, _⟩ := h
    rfl
  · obtain ⟨z, y, rfl, oy, ly, k⟩ := h
    refine ⟨_, pss_one (ps_ret (pe_and (pe_call G hr (by rfl) mG kG bG .nil pass0 (pa_cons (pv 0) (pa_cons (pv 1) pa_nil)))
      (pe_one (pe_cmpR op_le (pe_callB callLen (by rfl) mN PySem.boot_len (pa_cons (pv 1) pa_nil)) (pe_glob (v := .int 40) rfl mM ⟨_, rfl⟩) (nomark _))))), ?_⟩
    have l2 : y.length ≤ sizeLine := Nat.le_trans ly (by decide)
    refine ⟨_, rfl, _, rfl, z, .str y, "str", rfl, .str y, (fun q e => by cases e; exact l2), ?_⟩
    rw [over_line oy]
    refine ⟨_, rfl, _, rfl, _, y.length, rfl, ⟨l2, rfl⟩, _, _, rfl, rfl, ?_⟩
    show Q (.bl (decide ((y.length : Int) ≤ 40))) H
    rw [decide_eq_true (show (y.length : Int) ≤ 40 by omega)]
    exact k
theorem scIsWord : FnScope ["value", "words"] ["value", "words"] (defScope sIsWord) := ⟨rfl, rfl, rfl, by decide +kernel, rfl, by decide +kernel, by decide +kernel⟩
def relsB : List V → List Value → Bool
  | [], [] => true
  | x :: xs, u :: us => He.relB x u && relsB xs us
  | _, _ => false
theorem relsB_ok : ∀ {xs : List V} {us : List Value}, relsB xs us = true → Vals xs us
  | [], [], _ => .nil
  | [], _ :: _, h => nomatch h
  | _ :: _, [], h => nomatch h
  | x :: xs, u :: us, h => by
    obtain ⟨h1, h2⟩ := Bool.and_eq_true_iff.mp (show (He.relB x u && relsB xs us) = true from h)
    exact .cons (He.relB_ok h1) (relsB_ok h2)
def tupB (K : PySem.W.Frag) (a : Addr) (xs : List V) : Bool := match K.lookup a with
  | some o => (match o.cls, o.data with
    | .type c, .seq its _ => decide (c = "tuple") && (decide (its.size ≤ 1000) && relsB xs its.toList)
    | _, _ => false)
  | none => false
theorem tupB_ok {K : PySem.W.Frag} {H : Hp} {a : Addr} {xs : List V} (h : tupB K a xs = true) : SqT K H a xs := by
  unfold tupB at h
  cases q : K.lookup a with
  | none =>
    rw [q] at h
    cases h
  | some o =>
    rw [q] at h
    obtain ⟨oc, od, dt, sl⟩ := o
    cases oc with
    | type c =>
      cases dt with
      | seq its n =>
        obtain ⟨h1, h2⟩ := Bool.and_eq_true_iff.mp (show (decide (c = "tuple") && (decide (its.size ≤ 1000) && relsB xs its.toList)) = true from h)
        obtain ⟨h2, h3⟩ := Bool.and_eq_true_iff.mp h2
        have e := of_decide_eq_true h1
        subst e
        exact .inr ⟨_, its, n, q, rfl, rfl, Nat.le_trans (of_decide_eq_true h2) (by decide), relsB_ok h3⟩
      | _ => cases h
    | _ => cases dt <;> cases h
def spWord (K : PySem.W.Frag) : Sp := fun vs H Q _ => ∃ (fr : Bool) (t : Addr), vs = [.str (kd fr), .ref t] ∧ SqT K H t [.str (Str.ofString "front"), .str (Str.ofString "whole")] ∧ Q (.bl true) H
theorem ok_isword {f : Addr} {fd : FuncData} (F : Fun K "is_word" "is_word" sIsWord f fd) (mI : mg "isinstance" = none) (mS : mg "str" = none) :
    FnOk P w K mg base CX0 1 f fd ["value", "words"] (spWord K) := by
  refine F.ok scIsWord (fun vs H Q E h => ?_) (fun cdv A outer s H vs Q E hr h => ?_)
  · obtain ⟨_, _, rfl, _⟩ := h
    rfl
  · obtain ⟨fr, t, rfl, ht, k⟩ := h
    refine ⟨_, pss_one (ps_ret (pe_and (pe_callB call_isA (by rfl) mI (by decide +kernel)
          (pa_cons (pv 0) (pa_cons (pe_bltn (v := .ty "str") (by rfl) mS (by decide +kernel) rfl) pa_nil)))
          (pe_one (pe_cmpR op_in_seq (pv 0) (pv 1) (by rfl))))), ?_⟩
    refine ⟨_, rfl, _, "str", "str", rfl, .str _, by decide, _, rfl, ?_⟩
    refine ⟨_, rfl, _, rfl, t, _, rfl, .inr ht, rfl, by decide, ?_⟩
    have e : inV (.str (kd fr)) [.str (Str.ofString "front"), .str (Str.ofString "whole")] = true := by cases fr <;> decide +kernel
    rw [e]
    exact k
theorem scIsRule : FnScope ["signs", "value", "kind", "old", "new"] ["signs", "value"] (defScope sIsRule) := ⟨rfl, rfl, rfl, by decide +kernel, rfl, by decide +kernel, by decide +kernel⟩
theorem ok_isrule {f g : Addr} {fd gd : FuncData} (F : Fun K "is_rule" "is_rule" sIsRule f fd)
    (G : FnOk P w K mg base CX0 2 g gd ["signs", "value"] spRuleLine) (bG : Binds K gd ["signs", "value"] [])
    (kG : PySem.W.keepIn K (.ref g) = true) (mG : mg "is_rule_line" = some (.ref g)) {e : Addr} {ed : FuncData} (Ek : FnOk P w K mg base CX0 1 e ed ["value", "words"] (spWord K)) (bE : Binds K ed ["value", "words"] [])
    (kE : PySem.W.keepIn K (.ref e) = true) (mE : mg "is_word" = some (.ref e)) {aR : Addr} (mR : mg "RULE_WORDS" = some (.ref aR)) (hR : ∀ H : Hp, SqT K H aR [.str (Str.ofString "front"), .str (Str.ofString "whole")]) (mI : mg "isinstance" = none) (mT : mg "tuple" = none) (mN : mg "len" = none) :
    FnOk P w K mg base CX0 3 f fd ["signs", "value"] spIsRule := by
  refine F.ok scIsRule (fun vs H Q E h => ?_) (fun cdv A outer s H vs Q E hr h => ?_)
  · obtain ⟨_, _, _, rfl, _⟩ := h
    rfl
  · obtain ⟨z, v, r, rfl, ⟨t, rfl, ht⟩, ok, k⟩ := h
    have nd := scIsRule.nd
    refine ⟨_, pss_cons (ps_if (PW.pt (pw_or (pt_not (pt_val (pe_callB call_isA (by rfl) mI (by decide +kernel)
          (pa_cons (pv 1) (pa_cons (pe_bltn (v := .ty "tuple") (by rfl) mT (by decide +kernel) rfl) pa_nil)))))
        (pw_or1 (pt_cmpR op_ne (pe_callB callLen (by rfl) mN PySem.boot_len (pa_cons (pv 1) pa_nil)) pe_int (nomark _)))))
        (pss_one (ps_ret pe_bl)) pss_nil)
      (pss_cons (ps_asg (pv 1) (pg_tup rfl (pgs_cons (pg_name (i := 2) nd rfl (.inl rfl)) (pgs_cons (pg_name (i := 3) nd rfl (.inl rfl)) (pgs_cons (pg_name (i := 4) nd rfl (.inl rfl)) pgs_nil)))))
      (pss_one (ps_ret (pe_and (pe_call Ek (hr.mono (by decide)) (by rfl) mE kE bE .nil pass0 (pa_cons (pv 2) (pa_cons (pe_glob (v := .ref aR) rfl mR rfl) pa_nil)))
        (pe_and (pe_call G hr (by rfl) mG kG bG .nil pass0 (pa_cons (pv 0) (pa_cons (pv 3) pa_nil)))
        (pe_one (pe_call G hr (by rfl) mG kG bG .nil pass0 (pa_cons (pv 0) (pa_cons (pv 4) pa_nil))))))))), ?_⟩
    refine ⟨_, rfl, _, "tuple", "tuple", rfl, .tup ht, by decide, _, rfl, ?_⟩
    refine iteF ?_
    refine ⟨_, rfl, _, 3, rfl, .inr ⟨_, SqT.of ht, rfl⟩, rfl, _, rfl, ?_⟩
    refine iteF ?_
    refine ⟨_, rfl, t, _, rfl, SqT.of ht, rfl, _, _, rfl, _, _, rfl, _, _, rfl, rfl, ?_⟩
    obtain ⟨fr, old, new⟩ := r
    refine ⟨_, rfl, fr, aR, rfl, hR _, _, rfl, ?_⟩
    refine ⟨_, rfl, _, rfl, z, old, rfl, ok.o1, ok.o2, _, rfl, ?_⟩
    refine ⟨_, rfl, _, rfl, z, new, rfl, ok.n1, ok.n2, ?_⟩
    exact k _ (Same.refl H)
end
end K21
namespace K21
open PySem PySem.Spec PyProof.Rows L2 FL
abbrev sCheckRules : Stmt := topS 26
section
variable {P : Program} {w : World} {K : PySem.W.Frag} {mg : Str → Option Value} {base : Heap}
theorem scCheckRules : FnScope ["signs", "rules", "position", "rule"] ["signs", "rules"] (defScope sCheckRules) := ⟨rfl, rfl, rfl, by decide +kernel, rfl, by decide +kernel, by decide +kernel⟩
theorem ok_checkrules {f g h : Addr} {fd gd hd : FuncData} (F : Fun K "check_rules" "check_rules" sCheckRules f fd)
    (G : FnOk P w K mg base CX0 1 g gd ["value"] spIsList) (bG : Binds K gd ["value"] [])
    (kG : PySem.W.keepIn K (.ref g) = true) (mG : mg "is_list" = some (.ref g))
    (Hk : FnOk P w K mg base CX0 3 h hd ["signs", "value"] spIsRule) (bH : Binds K hd ["signs", "value"] [])
    (kH : PySem.W.keepIn K (.ref h) = true) (mH : mg "is_rule" = some (.ref h)) (mE : mg "enumerate" = none) :
    FnOk P w K mg base CX0 4 f fd ["signs", "rules"] spCheckRules := by
  refine F.ok scCheckRules (fun vs H Q E h => ?_) (fun cdv A outer s H vs Q E hr h => ?_)
  · obtain ⟨_, _, _, rfl, _⟩ := h
    rfl
  · obtain ⟨z, v, rs, rfl, ha, ok, k⟩ := h
    obtain ⟨n, an, en⟩ := ha.any
    obtain ⟨a, xs, t, rfl, ea, hrs⟩ := ha
    have nd := scCheckRules.nd
    refine ⟨_, pss_cons (ps_if (pt_not (pt_val (pe_call G (hr.mono (by decide)) (by rfl) mG kG bG .nil pass0 (pa_cons (pv 1) pa_nil)))) (pss_one ps_never) pss_nil)
      (pss_one (ps_for PassesOwn.never rfl (pi_enumX t (by rfl) mE (pa_cons (pv 1) pa_nil))
        (pg_tup rfl (pgs_cons (pg_name (i := 2) nd rfl (.inl rfl)) (pgs_cons (pg_name (i := 3) nd rfl (.inl rfl)) pgs_nil)))
        (pss_one (ps_if (pt_not (pt_val (pe_call Hk hr (by rfl) mH kH bH .nil pass0 (pa_cons (pv 0) (pa_cons (pv 3) pa_nil))))) (pss_one ps_never) pss_nil)))), ?_⟩
    refine ⟨_, rfl, _, n, rfl, an, fun H1 s1 => ?_⟩
    rw [en]
    refine ⟨_, rfl, ?_⟩
    refine iteF ?_
    refine ⟨_, rfl, a, xs, rfl, sqX_of (s1 _ _ ea), for_it walk_enumX (fun i σ Hi => ∃ o1 o2 : Option V, σ = [some (.str z), some (.ref a), o1, o2] ∧ Same H Hi) ?_ ?_ ?_ ?_⟩
    · exact ⟨_, _, rfl, s1⟩
    · rintro i σ Hi _ ⟨_, _, _, sm⟩
      exact sqX_of (sm _ _ ea)
    · rintro i x σ Hi _ hi ⟨o1, o2, rfl, sm⟩ ⟨T, p, q, rfl, hT, rfl, e1, e2⟩
      obtain ⟨r, hr', t', e3, hT'⟩ := L2.paired_get hrs e2
      subst e3
      have hm : r ∈ rs := List.mem_of_getElem? hr'
      have s2 : Same H (upd Hi T (.tup [p, .ref t'])) := sm.upd (sm.none hT)
      refine ⟨T, _, rfl, SqT.of upd_same, rfl, _, _, rfl, _, _, rfl, rfl, ?_⟩
      refine ⟨_, rfl, _, rfl, z, _, r, rfl, ⟨t', rfl, s2 _ _ hT'⟩, ok r hm, fun H3 s3 => ?_⟩
      refine ⟨_, rfl, ?_⟩
      refine iteF ?_
      exact ⟨_, _, rfl, s2.trans s3⟩
    · rintro σ Hi ⟨_, _, _, sm⟩
      exact k Hi sm
end
end K21
namespace K21
open PySem PySem.Spec PyProof.Rows L2 FL
abbrev sIndex : Stmt := topS 29
section
variable {P : Program} {w : World} {K : PySem.W.Frag} {mg : Str → Option Value} {base : Heap}
theorem scIndex : FnScope ["rules", "index", "place", "kind", "old", "new"] ["rules"] (defScope sIndex) := ⟨rfl, rfl, rfl, by decide +kernel, rfl, by decide +kernel, by decide +kernel⟩
theorem ok_index {f : Addr} {fd : FuncData} (F : Fun K "rule_index" "rule_index" sIndex f fd) (mE : mg "enumerate" = none) :
    FnOk P w K mg base CX0 1 f fd ["rules"] spIndex := by
  refine F.ok scIndex (fun vs H Q E h => ?_) (fun cdv A outer s H vs Q E hr h => ?_)
  · obtain ⟨_, _, rfl, _⟩ := h
    rfl
  · obtain ⟨v, rs, rfl, ⟨a, xs, t, rfl, ea, hrs⟩, lrs, k⟩ := h
    have nd := scIndex.nd
    have hu := hu_of hr
    refine ⟨_, pss_cons (ps_set (i := 1) nd rfl (.inl rfl) pe_dnewT)
      (pss_cons (ps_for PassesOwn.never rfl (pi_enumX t (by rfl) mE (pa_cons (pv 0) pa_nil))
        (pg_tup rfl (pgs_cons (pg_name (i := 2) nd rfl (.inl rfl)) (pgs_cons
          (pg_tup rfl (pgs_cons (pg_name (i := 3) nd rfl (.inl rfl)) (pgs_cons (pg_name (i := 4) nd rfl (.inl rfl)) (pgs_cons (pg_name (i := 5) nd rfl (.inl rfl)) pgs_nil)))) pgs_nil)))
        (pss_one (ps_if (pt_cmp (pc_dnotin hu (pe_tup (pa_cons (pv 3) (pa_cons (pv 4) pa_nil))) (pv 1)))
          (pss_one (ps_dput hu (pv 1) (pe_tup (pa_cons (pv 3) (pa_cons (pv 4) pa_nil))) (pe_tup (pa_cons (pv 2) (pa_cons (pv 5) pa_nil))) rfl)) pss_nil)))
      (pss_one (ps_ret (pv 1)))), ?_⟩
    intro d hd
    have nad : a ≠ d := ne_of_none ea hd
    have sz : sizeLine = 16777216 := rfl
    have e0 : upd H d (.dT []) a = some (if t then .tup xs else .lst xs) := by rw [upd_ne nad]; exact ea
    refine ⟨_, rfl, a, xs, rfl, sqX_of e0, for_it walk_enumX (fun i σ Hi => ∃ (o1 o2 o3 o4 : Option V) (kvs : List (List Key × V)), σ = [some (.ref a), some (.ref d), o1, o2, o3, o4]
      ∧ Same H Hi ∧ Hi d = some (.dT kvs) ∧ kvs.length ≤ i ∧ IdxOk Hi kvs (rs.take i)) ?_ ?_ ?_ ?_⟩
    · exact ⟨_, _, _, _, [], rfl, (Same.refl H).upd hd, upd_same, Nat.le_refl _, by rw [List.take_zero]; exact IdxOk.nil⟩
    · rintro i σ Hi _ ⟨_, _, _, _, _, _, sm, _⟩
      exact sqX_of (sm _ _ ea)
    · rintro i x σ Hi _ hi ⟨o1, o2, o3, o4, kvs, rfl, sm, hdi, lk, ix⟩ ⟨T, p, q, rfl, hT, rfl, e1, e2⟩
      obtain rfl : V.int (i : Nat) = p := Option.some.inj e1
      obtain ⟨r, hr', t', e3, hT'⟩ := L2.paired_get hrs e2
      subst e3
      have hlt : i < rs.length := (List.getElem?_eq_some_iff.mp hr').1
      have nT : H T = none := sm.none hT
      have s2 : Same H (upd Hi T (.tup [.int (i : Nat), .ref t'])) := sm.upd nT
      have ndT : d ≠ T := ne_of_none hdi hT
      have hd2 : upd Hi T (.tup [.int (i : Nat), .ref t']) d = some (.dT kvs) := by rw [upd_ne ndT]; exact hdi
      have ts : ∀ c b, Hi c = some (.tup b) → upd Hi T (.tup [.int (i : Nat), .ref t']) c = some (.tup b) := fun c b ec => by rw [upd_ne (ne_of_none ec hT)]; exact ec
      have hTT : upd Hi T (.tup [.int (i : Nat), .ref t']) T = some (.tup [.int (i : Nat), .ref t']) := upd_same
      generalize upd Hi T (.tup [.int (i : Nat), .ref t']) = H2 at s2 hd2 ts hTT ⊢
      refine ⟨T, _, rfl, SqT.of hTT, rfl, _, _, rfl, _, _, rfl, t', _, rfl, SqT.of (s2 _ _ hT'), rfl, _, _, rfl, _, _, rfl, _, _, rfl, rfl, rfl, ?_⟩
      refine ⟨_, rfl, _, rfl, (by show 2 ≤ sizeLine; decide), fun B hB => ?_⟩
      have ndB : d ≠ B := ne_of_none hd2 hB
      have hd3 : upd H2 B (.tup [.str (kd r.fr), .str r.old]) d = some (.dT kvs) := by rw [upd_ne ndB]; exact hd2
      have s3 : Same H (upd H2 B (.tup [.str (kd r.fr), .str r.old])) := s2.upd (s2.none hB)
      have ts3 : ∀ c b, Hi c = some (.tup b) → upd H2 B (.tup [.str (kd r.fr), .str r.old]) c = some (.tup b) := fun c b ec => by rw [upd_ne (ne_of_none (ts c b ec) hB)]; exact ts c b ec
      have hBB : upd H2 B (.tup [.str (kd r.fr), .str r.old]) B = some (.tup ((ky r.fr r.old).map kV)) := upd_same
      generalize upd H2 B (.tup [.str (kd r.fr), .str r.old]) = H3 at hd3 s3 ts3 hBB ⊢
      have etake : rs.take (i + 1) = rs.take i ++ [r] := take_snoc hr'
      refine ⟨_, rfl, d, _, rfl, DGet.t hd3 hBB, _, rfl, ?_⟩
      cases ev : valV kvs (ky r.fr r.old) with
      | some w' =>
        refine iteF ?_
        refine ⟨_, _, _, _, kvs, rfl, s3, hd3, by omega, ?_⟩
        rw [etake]
        exact (ix.imp ts3).skip (by rw [ev]; exact fun q => nomatch q)
      | none =>
        refine iteT ?_
        refine ⟨_, rfl, _, rfl, (by show 2 ≤ sizeLine; decide), fun V' hV => ?_⟩
        have ndV : d ≠ V' := ne_of_none hd3 hV
        refine ⟨_, rfl, _, rfl, _, rfl, (by show 2 ≤ sizeLine; decide), fun B2 hB2 => ?_⟩
        have nVB : V' ≠ B2 := fun q => by
          rw [← q, upd_same] at hB2
          cases hB2
        have hB20 : H3 B2 = none := by
          rw [upd_ne (Ne.symm nVB)] at hB2
          exact hB2
        have ndB2 : d ≠ B2 := ne_of_none hd3 hB20
        have hd4 : upd (upd H3 V' (.tup [.int (i : Nat), .str r.new])) B2 (.tup [.str (kd r.fr), .str r.old]) d = some (.dT kvs) := by rw [upd_ne ndB2, upd_ne ndV]; exact hd3
        have hBB2 : upd (upd H3 V' (.tup [.int (i : Nat), .str r.new])) B2 (.tup [.str (kd r.fr), .str r.old]) B2 = some (.tup ((ky r.fr r.old).map kV)) := upd_same
        refine ⟨d, _, rfl, DPut.t hd4 hBB2 (by rw [sz]; omega), ?_⟩
        have s4 := ((s3.upd (o := .tup [.int (i : Nat), .str r.new]) (s3.none hV)).upd (o := .tup [.str (kd r.fr), .str r.old]) (s3.none hB20)).upd (o := .dT (putK kvs (ky r.fr r.old) (.ref V'))) hd
        refine ⟨_, _, _, _, putK kvs (ky r.fr r.old) (.ref V'), rfl, s4, upd_same, by rw [put_len ev]; omega, ?_⟩
        rw [etake]
        have lt : (rs.take i).length = i := by rw [List.length_take]; omega
        refine IdxOk.put ix ev (fun c b ec => ?_) ?_
        · have e3 := ts3 c b ec
          have ncd : c ≠ d := ne_of e3 hd3 (by intro q; cases q)
          rw [upd_ne ncd, upd_ne (ne_of_none e3 hB20), upd_ne (ne_of_none e3 hV)]
          exact e3
        · rw [lt, upd_ne (Ne.symm ndV), upd_ne nVB, upd_same]
    · rintro σ Hi ⟨_, _, _, _, kvs, rfl, sm, hdi, lk, ix⟩
      rw [paired_len hrs, List.take_length] at ix
      exact ⟨_, rfl, k d Hi hd ⟨kvs, hdi, by rw [← paired_len hrs]; exact lk, ix⟩ sm⟩
end
end K21
namespace K21
open PySem PySem.Spec PyProof.Rows L2 FL
abbrev sOnce : Stmt := topS 30
section
variable {P : Program} {w : World} {K : PySem.W.Frag} {mg : Str → Option Value} {base : Heap}
theorem scOnce : FnScope ["index", "line", "fitting", "size", "place", "new"] ["index", "line"] (defScope sOnce) := ⟨rfl, rfl, rfl, by decide +kernel, rfl, by decide +kernel, by decide +kernel⟩
theorem pairs_imp {H H' : Hp} : ∀ {xs : List V} {qs : List Pr}, Paired (PairAt H) xs qs → (∀ t a, H t = some (.tup a) → H' t = some (.tup a)) → Paired (PairAt H') xs qs
  | _, _, .nil, _ => .nil
  | _, _, .cons ⟨t, e, h⟩ r, k => .cons ⟨t, e, k _ _ h⟩ (pairs_imp r k)
theorem ok_once {f : Addr} {fd : FuncData} (F : Fun K "turned_once" "turned_once" sOnce f fd) {tk : Tok} (mM : mg "MOST_RULE_SIGNS" = some (.int 40 tk))
    (mN : mg "len" = none) (mR : mg "range" = none) (mI : mg "min" = none) : FnOk P w K mg base CX0 1 f fd ["index", "line"] spOnce := by
  refine F.ok scOnce (fun vs H Q E h => ?_) (fun cdv A outer s H vs Q E hr h => ?_)
  · obtain ⟨_, _, _, rfl, _⟩ := h
    rfl
  · obtain ⟨d, y, rs, rfl, ⟨kvs, hd, lk, ix⟩, ly, lr, k⟩ := h
    have nd := scOnce.nd
    have hu := hu_of hr
    have sz : sizeLine = 16777216 := rfl
    refine ⟨_, pss_cons (ps_set (i := 2) nd rfl (.inl rfl) (pe_lst pa_nil))
      (C8.pss_cut (ps_if (pt_cmp (pc_din hu (pe_tup (pa_cons pe_str (pa_cons (pv 1) pa_nil))) (pv 0)))
        (pss_one (ps_expr (pe_bm PySem.F.plainAttrs_list PySem.F.slot_list_append PySem.F.type_list_append mtAppend (pv 2)
          (pa_cons (pe_dget hu (pv 0) (pe_tup (pa_cons pe_str (pa_cons (pv 1) pa_nil))) (fun _ _ => rfl)) pa_nil)))) pss_nil)
      (pss_cons (ps_for PassesOwn.never rfl (pi_range1 (by rfl) mR (pa_cons (pe_op op_add (pe_callB (call_min2 rfl) (by rfl) mI (by decide +kernel)
            (pa_cons (pe_callB callLen (by rfl) mN PySem.boot_len (pa_cons (pv 1) pa_nil)) (pa_cons (pe_glob (v := .int 40) rfl mM ⟨_, rfl⟩) pa_nil))) pe_int) pa_nil)) (pg_name (i := 3) nd rfl (.inl rfl))
        (pss_one (ps_if (pt_cmp (pc_din hu (pe_tup (pa_cons pe_str (pa_cons (pe_slice sl_str (pv 1) po_none (po_some (pv 3))) pa_nil))) (pv 0)))
          (pss_cons (ps_asg (pe_dget hu (pv 0) (pe_tup (pa_cons pe_str (pa_cons (pe_slice sl_str (pv 1) po_none (po_some (pv 3))) pa_nil))) (fun _ _ => rfl))
            (pg_tup rfl (pgs_cons (pg_name (i := 4) nd rfl (.inl rfl)) (pgs_cons (pg_name (i := 5) nd rfl (.inl rfl)) pgs_nil))))
          (pss_one (ps_expr (pe_bm PySem.F.plainAttrs_list PySem.F.slot_list_append PySem.F.type_list_append mtAppend (pv 2)
            (pa_cons (pe_tup (pa_cons (pv 4) (pa_cons (pe_op op_add_str (pv 5) (pe_slice sl_str (pv 1) (po_some (pv 3)) po_none)) pa_nil))) pa_nil))))) pss_nil)))
      (pss_one (ps_ret (pe_ifExp (pt_truth (pv 2) (by intro _; rfl)) (pe_ix ix_tup (pe_callB (call_minP rfl hr.units) (by rfl) mI (by decide +kernel) (pa_cons (pv 2) pa_nil)) pe_int (fun _ _ => rfl)) (pv 1)))))), ?_⟩
    refine ⟨by decide, fun L hL => ?_⟩
    have ndL : d ≠ L := ne_of_none hd hL
    refine ⟨fun σ' H' => ∃ (xs : List V) (qs : List Pr), σ' = [some (.ref d), some (.str y), some (.ref L), none, none, none] ∧ Same H H' ∧ H' L = some (.lst xs) ∧ Paired (PairAt H') xs qs ∧ qs.length ≤ 1 ∧ Found rs y qs 0, ?_, ?_⟩
    · refine ⟨_, rfl, (by show 2 ≤ sizeLine; decide), fun B hB => ?_⟩
      have s1 : Same H (upd (upd H L (.lst [])) B (.tup [.str (Str.ofString "whole"), .str y])) := by
        refine ((Same.refl H).upd hL).upd ?_
        exact ((Same.refl H).upd hL).none hB
      have hd1 := s1 _ _ hd
      have hBB : upd (upd H L (.lst [])) B (.tup [.str (Str.ofString "whole"), .str y]) B = some (.tup ((ky false y).map kV)) := upd_same
      have nLB : L ≠ B := fun e => by
        rw [← e, upd_same] at hB
        cases hB
      have hL1 : upd (upd H L (.lst [])) B (.tup [.str (Str.ofString "whole"), .str y]) L = some (.lst []) := by rw [upd_ne nLB, upd_same]
      generalize upd (upd H L (.lst [])) B (.tup [.str (Str.ofString "whole"), .str y]) = H1 at s1 hd1 hBB hL1 ⊢
      refine ⟨_, rfl, d, _, rfl, DGet.t hd1 hBB, _, rfl, ?_⟩
      have ix1 : IdxOk H1 kvs rs := ix.imp fun t a e => s1 t _ e
      rcases Found.start (y := y) ix1 with ⟨ev, fd0⟩ | ⟨i, t, new, ev, ht, fd0⟩
      · rw [ev]
        refine iteF ?_
        exact ⟨[], [], rfl, s1, hL1, .nil, Nat.zero_le _, fd0⟩
      · rw [ev]
        refine iteT ?_
        refine ⟨_, rfl, .inl ⟨rfl, _, SqL.of hL1⟩, _, rfl, _, rfl, (by show 2 ≤ sizeLine; decide), fun B2 hB2 => ?_⟩
        have s2 : Same H (upd H1 B2 (.tup [.str (Str.ofString "whole"), .str y])) := s1.upd (s1.none hB2)
        have hd2 := s2 _ _ hd
        have hBB2 : upd H1 B2 (.tup [.str (Str.ofString "whole"), .str y]) B2 = some (.tup ((ky false y).map kV)) := upd_same
        refine ⟨d, _, rfl, by have := DGet.t hd2 hBB2; rw [ev] at this; exact this, ?_⟩
        have nL2 : L ≠ B2 := ne_of_none hL1 hB2
        refine ⟨L, [], _, rfl, rfl, by rw [upd_ne nL2]; exact hL1, (by rw [sz]; decide), ?_⟩
        have ntL : t ≠ L := ne_of ht hL1 (by intro q; cases q)
        refine ⟨[.ref t], [((i : Int), new)], rfl, s2.upd hL, upd_same, .cons ⟨t, rfl, ?_⟩ .nil, Nat.le_refl _, fd0⟩
        rw [upd_ne ntL, upd_ne (ne_of_none ht hB2)]
        exact ht
    · rintro σ' H1 ⟨xs0, qs0, rfl, s1, hL1, hq0, lq0, f0⟩
      refine ⟨_, rfl, _, y.length, rfl, ⟨(by rw [sz]; omega), rfl⟩, _, _, rfl, _, _, rfl, rfl, _, rfl, ?_, ?_, ?_⟩
      · split <;> omega
      · split <;> omega
      have en : ((if (40 : Int) < (y.length : Int) then (40 : Int) else (y.length : Int)) + 1).toNat = min y.length 40 + 1 := by split <;> omega
      rw [en]
      refine for_range (lo := 0) (n := min y.length 40 + 1) (fun i σ Hi => ∃ (o3 o4 o5 : Option V) (xs : List V) (qs : List Pr), σ = [some (.ref d), some (.str y), some (.ref L), o3, o4, o5]
        ∧ Same H Hi ∧ Hi L = some (.lst xs) ∧ Paired (PairAt Hi) xs qs ∧ qs.length ≤ i + 1 ∧ Found rs y qs i) ?_ ?_ ?_
      · exact ⟨_, _, _, xs0, qs0, rfl, s1, hL1, hq0, lq0, f0⟩
      · rintro i σ Hi hi ⟨o3, o4, o5, xs, qs, rfl, si, hLi, hqi, lqi, fi⟩
        have iy : i ≤ y.length := by omega
        have ei : (0 : Int) + (i : Int) = (i : Int) := by omega
        have lc : (cutS y none (some (i : Int))).length ≤ y.length := cutS_length y _ _
        rw [ei]
        refine ⟨_, rfl, _, rfl, _, rfl, y, rfl, (by rw [sz]; omega), (by show 2 ≤ sizeLine; decide), fun B hB => ?_⟩
        have s2 : Same H (upd Hi B (.tup [.str (Str.ofString "front"), .str (cutS y none (some (i : Int)))])) := si.upd (si.none hB)
        have hd2 := s2 _ _ hd
        have hBB : upd Hi B (.tup [.str (Str.ofString "front"), .str (cutS y none (some (i : Int)))]) B = some (.tup ((ky true (cutS y none (some (i : Int)))).map kV)) := upd_same
        have hL2 : upd Hi B (.tup [.str (Str.ofString "front"), .str (cutS y none (some (i : Int)))]) L = some (.lst xs) := by rw [upd_ne (ne_of_none hLi hB)]; exact hLi
        have hq2 : Paired (PairAt (upd Hi B (.tup [.str (Str.ofString "front"), .str (cutS y none (some (i : Int)))]))) xs qs := pairs_imp hqi fun t a e => by rw [upd_ne (ne_of_none e hB)]; exact e
        generalize upd Hi B (.tup [.str (Str.ofString "front"), .str (cutS y none (some (i : Int)))]) = H2 at s2 hd2 hBB hL2 hq2 ⊢
        refine ⟨_, rfl, d, _, rfl, DGet.t hd2 hBB, _, rfl, ?_⟩
        have ix2 : IdxOk H2 kvs rs := ix.imp fun t a e => s2 t _ e
        rcases Found.next ix2 fi iy with ⟨ev, fn⟩ | ⟨j, t, new, ev, ht, ⟨r, hr', en'⟩, fn⟩
        · rw [ev]
          refine iteF ?_
          exact ⟨_, _, _, xs, qs, rfl, s2, hL2, hq2, by omega, fn⟩
        · rw [ev]
          refine iteT ?_
          refine ⟨_, rfl, _, rfl, _, rfl, _, rfl, y, rfl, (by rw [sz]; omega), (by show 2 ≤ sizeLine; decide), fun B2 hB2 => ?_⟩
          have s3 : Same H (upd H2 B2 (.tup [.str (Str.ofString "front"), .str (cutS y none (some (i : Int)))])) := s2.upd (s2.none hB2)
          have hd3 := s3 _ _ hd
          have hBB2 : upd H2 B2 (.tup [.str (Str.ofString "front"), .str (cutS y none (some (i : Int)))]) B2 = some (.tup ((ky true (cutS y none (some (i : Int)))).map kV)) := upd_same
          have hL3 : upd H2 B2 (.tup [.str (Str.ofString "front"), .str (cutS y none (some (i : Int)))]) L = some (.lst xs) := by rw [upd_ne (ne_of_none hL2 hB2)]; exact hL2
          have hq3 : Paired (PairAt (upd H2 B2 (.tup [.str (Str.ofString "front"), .str (cutS y none (some (i : Int)))]))) xs qs := pairs_imp hq2 fun t a e => by rw [upd_ne (ne_of_none e hB2)]; exact e
          have ht3 : upd H2 B2 (.tup [.str (Str.ofString "front"), .str (cutS y none (some (i : Int)))]) t = some (.tup [.int (j : Nat), .str new]) := by rw [upd_ne (ne_of_none ht hB2)]; exact ht
          generalize upd H2 B2 (.tup [.str (Str.ofString "front"), .str (cutS y none (some (i : Int)))]) = H3 at s3 hd3 hBB2 hL3 hq3 ht3 ⊢
          refine ⟨d, _, rfl, by have := DGet.t hd3 hBB2; rw [ev] at this; exact this, ?_⟩
          refine ⟨t, _, rfl, SqT.of ht3, rfl, _, _, rfl, _, _, rfl, rfl, ?_⟩
          have ln : new.length ≤ 1000 := by rw [← en']; exact (lr r hr').2
          have lc2 : (cutS y (some (i : Int)) none).length ≤ y.length := cutS_length y _ _
          refine ⟨_, rfl, .inl ⟨rfl, _, SqL.of hL3⟩, _, rfl, _, rfl, _, rfl, _, rfl, _, rfl, y, rfl, (by rw [sz]; omega), new, cutS y (some (i : Int)) none, rfl, rfl, (by rw [sz]; omega), (by show 2 ≤ sizeLine; decide), fun T hT => ?_⟩
          have nLT : L ≠ T := ne_of_none hL3 hT
          have lx := paired_len hq3
          refine ⟨L, xs, _, rfl, rfl, by rw [upd_ne nLT]; exact hL3, (by rw [sz]; omega), ?_⟩
          refine ⟨_, _, _, xs ++ [.ref T], qs ++ [((j : Int), new ++ cutS y (some (i : Int)) none)], rfl, (s3.upd (s3.none hT)).upd hL, upd_same, ?_, ?_, fn⟩
          · refine paired_snoc (pairs_imp hq3 fun t a e => ?_) ⟨T, rfl, ?_⟩
            · have ntL : t ≠ L := ne_of e hL3 (by intro q; cases q)
              rw [upd_ne ntL, upd_ne (ne_of_none e hT)]
              exact e
            · rw [upd_ne (Ne.symm nLT), upd_same]
          · rw [List.length_append]
            show qs.length + 1 ≤ _
            omega
      · rintro σ Hi ⟨o3, o4, o5, xs, qs, rfl, si, hLi, hqi, lqi, fi⟩
        obtain ⟨t1, t2⟩ := fi.turn fun r hr' e1 e2 => by
          have := (fits_short e2 e1).1
          have := (lr r hr').1
          omega
        have lx := paired_len hqi
        refine ⟨_, rfl, _, .inl ⟨xs, SqL.of hLi, rfl⟩, ?_⟩
        cases hx : xs with
        | nil =>
          rw [hx] at lx
          have e0 : qs = [] := List.length_eq_zero_iff.mp lx.symm
          refine iteF ?_
          refine ⟨_, rfl, ?_⟩
          have := k Hi si
          rw [t1 e0] at this
          exact this
        | cons x0 xs' =>
          refine iteT ?_
          have ne : qs ≠ [] := fun e => by
            rw [hx, e] at lx
            cases lx
          refine ⟨_, rfl, L, xs, qs, rfl, SqL.of hLi, hqi, ne, fun v q hq hv hmin => ?_⟩
          obtain ⟨t, rfl, ht⟩ := hv
          refine ⟨t, _, _, _, rfl, rfl, SqT.of ht, rfl, ?_⟩
          have := k Hi si
          rw [t2 q hq hmin] at this
          exact this
end
end K21
namespace K21
open PySem PySem.Spec PyProof.Rows L2 FL
abbrev sInit : Stmt := inClass (topS 44) 0
section
variable {P : Program} {w : World} {K : PySem.W.Frag} {mg : Str → Option Value} {base : Heap}
abbrev nInit : List Str := ["self", "signs", "rules", "kind", "old", "new"]
theorem scInit : FnScope nInit ["self", "signs", "rules"] (defScope sInit) := ⟨rfl, rfl, rfl, by decide +kernel, rfl, by decide +kernel, by decide +kernel⟩
theorem ok_init {f g h e C : Addr} {fd gd hd ed : FuncData} (F : Fun K "__init__" "Relay.__init__" sInit f fd) (T : RTxt K mg C)
    (G : FnOk P w K mg base CX0 3 g gd ["signs"] spCheckSigns) (bG : Binds K gd ["signs"] []) (kG : PySem.W.keepIn K (.ref g) = true) (mG : mg "check_signs" = some (.ref g))
    (Hk : FnOk P w K mg base CX0 4 h hd ["signs", "rules"] spCheckRules) (bH : Binds K hd ["signs", "rules"] []) (kH : PySem.W.keepIn K (.ref h) = true) (mH : mg "check_rules" = some (.ref h))
    (Ek : FnOk P w K mg base CX0 1 e ed ["rules"] spIndex) (bE : Binds K ed ["rules"] []) (kE : PySem.W.keepIn K (.ref e) = true) (mE : mg "rule_index" = some (.ref e))
    (mN : mg "len" = none) {tk : Tok} (mM : mg "MOST_RULES" = some (.int 400 tk)) : FnOk P w K mg base CX0 5 f fd ["self", "signs", "rules"] (spInit C) := by
  refine F.ok scInit (fun vs H Q E h => ?_) (fun cdv A outer s H vs Q E hr h => ?_)
  · obtain ⟨_, _, _, _, _, rfl, _⟩ := h
    rfl
  · obtain ⟨p, dx, z, v, rs, rfl, hp, hz, ⟨a, xs, t, rfl, ea, hrs⟩, ok, lrs, k⟩ := h
    have nd := scInit.nd
    refine ⟨_, pss_cons (ps_expr (pe_call G (hr.mono (by decide)) (by rfl) mG kG bG .nil pass0 (pa_cons (pv 1) pa_nil)))
      (pss_cons (ps_expr (pe_call Hk hr (by rfl) mH kH bH .nil pass0 (pa_cons (pv 1) (pa_cons (pv 2) pa_nil))))
      (pss_cons (ps_if (pt_cmpR op_gt (pe_callB callLen (by rfl) mN PySem.boot_len (pa_cons (pv 2) pa_nil)) (pe_glob (v := .int 400) rfl mM ⟨_, rfl⟩) (nomark _)) (pss_one ps_never) pss_nil)
      (pss_cons (ps_fld (pv 0) (pv 1) rfl)
      (pss_cons (ps_fld (pv 0) (pe_lc (own := [("kind", 3), ("old", 4), ("new", 5)]) (g := gTup K 3 (gCons (gName 3) (gCons (gName 4) (gCons (gName 5) gNil)))) (tt := tYes) rfl nd
          (pi_seqX t (pv 2)) (blkOk_by (N := nInit) (sc := defScope sInit) (by decide +kernel))
          (fun _ _ _ _ _ => pg_tup rfl (pgs_cons (pg_name (i := 3) nd rfl (Or.inl rfl)) (pgs_cons (pg_name (i := 4) nd rfl (Or.inl rfl)) (pgs_cons (pg_name (i := 5) nd rfl (Or.inl rfl)) pgs_nil))))
          (fun _ _ _ _ _ => pts_nil) (fun _ _ _ _ _ => pe_tup (pa_cons (pv 3) (pa_cons (pv 4) (pa_cons (pv 5) pa_nil))))) rfl)
      (pss_one (ps_fld (pv 0) (pe_call Ek (hr.mono (by decide)) (by rfl) mE kE bE .nil pass0 (pa_cons (pv 2) pa_nil)) rfl)))))), ?_⟩
    have nap : a ≠ p := fun e => by
      rw [e, hp] at ea
      cases t <;> cases ea
    have lx := paired_len hrs
    refine ⟨_, rfl, z, rfl, hz, fun H1 s1 => ?_⟩
    refine ⟨_, rfl, _, rfl, z, _, rs, rfl, ⟨a, xs, t, rfl, s1 _ _ ea, RulesAt.imp hrs fun c b e => s1 c _ e⟩, ok, fun H2 s2 => ?_⟩
    have s12 := s1.trans s2
    have ea2 := s12 _ _ ea
    refine ⟨_, rfl, _, xs.length, rfl, lenX (sqX_of ea2), _, _, rfl, rfl, _, rfl, ?_⟩
    refine ite2 (fun h => absurd (of_decide_eq_true h) (by omega)) (fun _ => ?_)
    have hp2 := s12 _ _ hp
    refine ⟨_, rfl, _, rfl, p, C, dx, [], rfl, hp2, T.cl, T.nS, (by show 0 < 1000; decide), ?_⟩
    have b3 : But p H (upd H2 p (.ins C dx (putF "_signs" (.str z) []))) := fun c o e nc => by rw [upd_ne nc]; exact s12 c o e
    have hp3 : upd H2 p (.ins C dx (putF "_signs" (.str z) [])) p = some (.ins C dx (putF "_signs" (.str z) [])) := upd_same
    generalize upd H2 p (.ins C dx (putF "_signs" (.str z) [])) = H3 at b3 hp3 ⊢
    have ea3 := b3 _ _ ea nap
    refine ⟨_, rfl, a, rfl, ⟨_, sqX_of ea3⟩, fun D hD => ?_⟩
    have npD : p ≠ D := ne_of_none hp3 hD
    have naD : a ≠ D := ne_of_none ea3 hD
    have sz : sizeLine = 16777216 := rfl
    have tp : ∀ c b, H c = some (.tup b) → c ≠ p := fun c b e q => by
      rw [q, hp] at e
      cases e
    refine lc_it (walk_seqX (xs := xs)) (fun i Hi => ∃ ys : List V, But p H Hi ∧ Hi p = some (.ins C dx (putF "_signs" (.str z) [])) ∧ Hi D = some (.lst ys) ∧ H D = none ∧ RulesAt Hi ys (rs.take i)) ?_ ?_ ?_ ?_
    · have hD0 : H D = none := by
        cases e : H D with
        | none => rfl
        | some o =>
          rw [b3 D o e (Ne.symm npD)] at hD
          cases hD
      exact ⟨[], b3.upd hD0, by rw [upd_ne npD]; exact hp3, upd_same, hD0, by rw [List.take_zero]; exact .nil⟩
    · rintro i Hi _ ⟨ys, bi, _⟩
      exact sqX_of (bi _ _ ea nap)
    · rintro i x Hi _ hi ⟨ys, bi, hpi, hDi, hD0, hry⟩ ⟨rfl, hx⟩
      obtain ⟨r, hr', c, rfl, hc⟩ := L2.paired_get hrs hx
      have hci := bi c _ hc (tp c _ hc)
      refine ⟨c, _, rfl, SqT.of hci, rfl, _, _, rfl, _, _, rfl, _, _, rfl, rfl, rfl, ?_⟩
      refine ⟨_, rfl, _, rfl, _, rfl, (by show 3 ≤ sizeLine; decide), fun B hB => ?_⟩
      have nDB : D ≠ B := ne_of_none hDi hB
      have npB : p ≠ B := ne_of_none hpi hB
      have ly := paired_len hry
      refine ⟨ys, by rw [upd_ne nDB]; exact hDi, ?_, ys ++ [.ref B], ?_, ?_, upd_same, hD0, ?_⟩
      · have : (rs.take i).length ≤ rs.length := by rw [List.length_take]; omega
        rw [sz]
        omega
      · intro q o eq nq
        have e1 := bi q o eq nq
        rw [upd_ne (ne_of_none eq hD0), upd_ne (ne_of_none e1 hB)]
        exact e1
      · rw [upd_ne npD, upd_ne npB]
        exact hpi
      · rw [take_snoc hr']
        refine paired_snoc (RulesAt.imp hry fun q b eq => ?_) ⟨B, rfl, ?_⟩
        · have nqD : q ≠ D := ne_of eq hDi (by intro z; cases z)
          rw [upd_ne nqD, upd_ne (ne_of_none eq hB)]
          exact eq
        · rw [upd_ne (Ne.symm nDB), upd_same]
          rfl
    · rintro Hi ⟨ys, bi, hpi, hDi, hD0, hry⟩
      rw [lx, List.take_length] at hry
      refine ⟨_, rfl, p, C, dx, _, rfl, hpi, T.cl, T.nR, (by show 1 < 1000; decide), ?_⟩
      have b4 : But p H (upd Hi p (.ins C dx (putF "_rules" (.ref D) (putF "_signs" (.str z) [])))) := fun c o e nc => by rw [upd_ne nc]; exact bi c o e nc
      have hp4 : upd Hi p (.ins C dx (putF "_rules" (.ref D) (putF "_signs" (.str z) []))) p = some (.ins C dx (putF "_rules" (.ref D) (putF "_signs" (.str z) []))) := upd_same
      have hD4 : upd Hi p (.ins C dx (putF "_rules" (.ref D) (putF "_signs" (.str z) []))) D = some (.lst ys) := by rw [upd_ne (Ne.symm npD)]; exact hDi
      have hr4 : RulesAt (upd Hi p (.ins C dx (putF "_rules" (.ref D) (putF "_signs" (.str z) [])))) ys rs := RulesAt.imp hry fun q b eq => by
        have nqp : q ≠ p := ne_of eq hpi (by intro z; cases z)
        rw [upd_ne nqp]
        exact eq
      generalize upd Hi p (.ins C dx (putF "_rules" (.ref D) (putF "_signs" (.str z) []))) = H4 at b4 hp4 hD4 hr4 ⊢
      have ea4 := b4 _ _ ea nap
      refine ⟨_, rfl, _, rs, rfl, ⟨a, xs, t, rfl, ea4, RulesAt.imp hrs fun c b e => b4 c _ e (tp c b e)⟩, by omega, fun ia H5 hia ixa s5 => ?_⟩
      have hp5 := s5 _ _ hp4
      refine ⟨_, rfl, p, C, dx, _, rfl, hp5, T.cl, T.nI, two_len z D, ?_⟩
      obtain ⟨kvs, hI, lI, ix⟩ := ixa
      have nip : ia ≠ p := ne_of hI hp5 (by intro z; cases z)
      refine k _ D ⟨dx, ia, ys, upd_same, ?_, ?_, kvs, ?_, lI, ?_⟩ hD0 fun c o e nc => ?_
      · rw [upd_ne (Ne.symm npD)]
        exact s5 _ _ hD4
      · refine RulesAt.imp hr4 fun q b eq => ?_
        have nqp : q ≠ p := ne_of eq hp4 (by intro z; cases z)
        rw [upd_ne nqp]
        exact s5 _ _ eq
      · rw [upd_ne nip]
        exact hI
      · refine ix.imp fun q b eq => ?_
        have nqp : q ≠ p := ne_of eq hp5 (by intro z; cases z)
        rw [upd_ne nqp]
        exact eq
      · rw [upd_ne nc]
        exact s5 _ _ (b4 c o e nc)
end
end K21
namespace K21
open PySem PySem.Spec PyProof.Rows L2 FL
abbrev sGet : Stmt := inClass (topS 44) 1
abbrev sRules : Stmt := inClass (topS 44) 2
abbrev sCall : Stmt := inClass (topS 44) 3
abbrev sEq : Stmt := inClass (topS 44) 12
abbrev sRepr : Stmt := inClass (topS 44) 13
section
variable {P : Program} {w : World} {K : PySem.W.Frag} {mg : Str → Option Value} {base : Heap}
theorem scGet : FnScope ["self"] ["self"] (defScope sGet) := ⟨rfl, rfl, rfl, by decide +kernel, rfl, by decide +kernel, by decide +kernel⟩
theorem scRules : FnScope ["self"] ["self"] (defScope sRules) := ⟨rfl, rfl, rfl, by decide +kernel, rfl, by decide +kernel, by decide +kernel⟩
theorem scCall : FnScope ["self", "line"] ["self", "line"] (defScope sCall) := ⟨rfl, rfl, rfl, by decide +kernel, rfl, by decide +kernel, by decide +kernel⟩
theorem scEq : FnScope ["self", "other"] ["self", "other"] (defScope sEq) := ⟨rfl, rfl, rfl, by decide +kernel, rfl, by decide +kernel, by decide +kernel⟩
theorem scRepr : FnScope ["self"] ["self"] (defScope sRepr) := ⟨rfl, rfl, rfl, by decide +kernel, rfl, by decide +kernel, by decide +kernel⟩
theorem ok_get {f C : Addr} {fd : FuncData} (F : Fun K "signs" "Relay.signs" sGet f fd) (T : RTxt K mg C) : FnOk P w K mg base CX0 1 f fd ["self"] (spGet C) := by
  refine F.ok scGet (fun vs H Q E h => ?_) (fun cdv A outer s H vs Q E hr h => ?_)
  · obtain ⟨_, _, _, rfl, _⟩ := h
    rfl
  · obtain ⟨p, z, rs, rfl, ⟨dx, ra, ia, xs, h1, h2, h3, h4⟩, k⟩ := h
    refine ⟨_, pss_one (ps_ret (pe_fld (pv 0) rfl)), ?_⟩
    exact ⟨_, rfl, p, C, dx, _, _, rfl, h1, T.cl, T.nS, flds_signs z ra ia, k⟩
theorem ok_rules {f C : Addr} {fd : FuncData} (F : Fun K "rules" "Relay.rules" sRules f fd) (T : RTxt K mg C) (mL : mg "list" = none) : FnOk P w K mg base CX0 1 f fd ["self"] (spRules C) := by
  refine F.ok scRules (fun vs H Q E h => ?_) (fun cdv A outer s H vs Q E hr h => ?_)
  · obtain ⟨_, _, _, rfl, _⟩ := h
    rfl
  · obtain ⟨p, z, rs, rfl, ⟨dx, ra, ia, xs, h1, h2, h3, h4⟩, k⟩ := h
    refine ⟨_, pss_one (ps_ret (pe_callTy call_list_of (by rfl) mL (by decide +kernel) (pa_cons (pe_fld (pv 0) rfl) pa_nil))), ?_⟩
    refine ⟨_, rfl, p, C, dx, _, _, rfl, h1, T.cl, T.nR, flds_rules z ra ia, ra, xs, rfl, .inl (SqL.of h2), fun D hD => ?_⟩
    have sm : Same H (upd H D (.lst xs)) := (Same.refl H).upd hD
    exact k D xs _ hD upd_same (Same.rules sm h3) sm
theorem ok_call {f g h C : Addr} {fd gd hd : FuncData} (F : Fun K "__call__" "Relay.__call__" sCall f fd) (T : RTxt K mg C)
    (G : FnOk P w K mg base CX0 2 g gd ["signs", "line"] spCheckLine) (bG : Binds K gd ["signs", "line"] []) (kG : PySem.W.keepIn K (.ref g) = true) (mG : mg "check_line" = some (.ref g))
    (Hk : FnOk P w K mg base CX0 1 h hd ["index", "line"] spOnce) (bH : Binds K hd ["index", "line"] []) (kH : PySem.W.keepIn K (.ref h) = true) (mH : mg "turned_once" = some (.ref h)) :
    FnOk P w K mg base CX0 3 f fd ["self", "line"] (spCall C) := by
  refine F.ok scCall (fun vs H Q E h => ?_) (fun cdv A outer s H vs Q E hr h => ?_)
  · obtain ⟨_, _, _, _, rfl, _⟩ := h
    rfl
  · obtain ⟨p, z, rs, y, rfl, ⟨dx, ra, ia, xs, h1, h2, h3, h4⟩, oy, ly, lr, k⟩ := h
    refine ⟨_, pss_cons (ps_expr (pe_call G hr (by rfl) mG kG bG .nil pass0 (pa_cons (pe_fld (pv 0) rfl) (pa_cons (pv 1) pa_nil))))
      (pss_one (ps_ret (pe_call Hk (hr.mono (by decide)) (by rfl) mH kH bH .nil pass0 (pa_cons (pe_fld (pv 0) rfl) (pa_cons (pv 1) pa_nil))))), ?_⟩
    refine ⟨_, rfl, p, C, dx, _, _, rfl, h1, T.cl, T.nS, flds_signs z ra ia, _, rfl, z, y, rfl, oy, Nat.le_trans ly (by decide), ?_⟩
    exact ⟨_, rfl, p, C, dx, _, _, rfl, h1, T.cl, T.nI, flds_index z ra ia, _, rfl, ia, y, rs, rfl, h4, ly, lr, k⟩
theorem ok_eq {f C : Addr} {fd : FuncData} (F : Fun K "__eq__" "Relay.__eq__" sEq f fd) (T : RTxt K mg C) (I : IsT K C) (mI : mg "isinstance" = none) : FnOk P w K mg base CX0 1 f fd ["self", "other"] (spEqR C) := by
  refine F.ok scEq (fun vs H Q E h => ?_) (fun cdv A outer s H vs Q E hr h => ?_)
  · obtain ⟨_, _, _, _, _, rfl, _⟩ := h
    rfl
  · obtain ⟨p, z, rs, b, v, rfl, ⟨dx, ra, ia, xs, h1, h2, h3, h4⟩, rp, k⟩ := h
    refine ⟨_, pss_one (ps_ret (pe_and (pe_callB call_isi (by rfl) mI (by decide +kernel) (pa_cons (pv 1) (pa_cons (pe_glob (v := .ref C) rfl T.mgC rfl) pa_nil)))
      (pe_and (pe_cmpR op_eq (pe_fld (pv 0) rfl) (pe_fld (pv 1) rfl) (nomark _)) (pe_one (pe_cmpR (op_eqD hr.units) (pe_fld (pv 0) rfl) (pe_fld (pv 1) rfl) (nomark _)))))), ?_⟩
    rcases k with ⟨n, an, k⟩ | ⟨q, rs', rfl, ⟨dy, rb, ib, ys, g1, g2, g3, g4⟩, rp', k⟩
    · exact ⟨_, rfl, v, .ref C, _, _, false, rfl, .own C, an.tyx, I.oth n an.kind, _, rfl, k⟩
    · refine ⟨_, rfl, _, .ref C, _, _, true, rfl, .own C, I.ins g1, I.self, _, rfl, ?_⟩
      refine ⟨_, rfl, p, C, dx, _, _, rfl, h1, T.cl, T.nS, flds_signs z ra ia, _, rfl, q, C, dy, _, _, rfl, g1, T.cl, T.nS, flds_signs z rb ib, rfl, ?_⟩
      rw [decide_eq_true (show V.str z = V.str z from rfl)]
      refine ⟨_, rfl, ?_⟩
      exact ⟨_, rfl, p, C, dx, _, _, rfl, h1, T.cl, T.nR, flds_rules z ra ia, _, rfl, q, C, dy, _, _, rfl, g1, T.cl, T.nR, flds_rules z rb ib, _, _, dp_list (SqL.of h2) h3, dp_list (SqL.of g2) g3, rp.sm.shaped, rp'.sm.shaped, k⟩
theorem ok_repr {f C : Addr} {fd : FuncData} (F : Fun K "__repr__" "Relay.__repr__" sRepr f fd) (T : RTxt K mg C) : FnG P w K mg base CX0 1 f fd ["self"] (spReprR C) := by
  refine okG F scRepr (fun vs H Q E h => ?_) (fun cdv A outer s H vs Q E hr hg h => ?_)
  · obtain ⟨_, _, _, rfl, _⟩ := h
    rfl
  · obtain ⟨p, z, rs, rfl, ⟨dx, ra, ia, xs, h1, h2, h3, h4⟩, az, rp, lr, k⟩ := h
    have sz : sizeLine = 16777216 := rfl
    refine ⟨_, pss_one (ps_ret (pe_joined (.cons pe_str (.cons (pe_fmtR (pe_fld (pv 0) rfl)) (.cons pe_str (.cons (pe_fmtL hg hr.units (pe_fld (pv 0) rfl)) (.cons pe_str .nil))))))), ?_⟩
    have l1 : (reprText z).length ≤ 42 := repr_abc az
    have sm := rp.sm40 lr
    have l2 : ((PyData.list (rs.map ruleD)).shown).length ≤ 400000 := sm.len
    have e1 : (Str.ofString "Relay(").length = 6 := by decide +kernel
    have e2 : (Str.ofString ", ").length = 2 := by decide +kernel
    have e3 : (Str.ofString ")").length = 1 := by decide +kernel
    have e0 : Str.empty.length = 0 := by decide +kernel
    refine ⟨_, rfl, (by rw [len_app, sz]; omega), ?_⟩
    refine ⟨_, rfl, p, C, dx, _, _, rfl, h1, T.cl, T.nS, flds_signs z ra ia, .inl ⟨z, rfl, (by rw [sz]; omega), _, rfl, (by rw [len_app, len_app, sz]; omega), ?_⟩⟩
    refine ⟨_, rfl, (by rw [len_app, len_app, len_app, sz]; omega), ?_⟩
    refine ⟨_, rfl, p, C, dx, _, _, rfl, h1, T.cl, T.nR, flds_rules z ra ia, ra, xs, _, rfl, SqL.of h2, dp_list (SqL.of h2) h3, sm.nd, sm.nice (by decide), _, rfl, (by rw [len_app, len_app, len_app, len_app, sz]; omega), ?_⟩
    refine ⟨_, rfl, (by rw [len_app, len_app, len_app, len_app, len_app, sz]; omega), ?_⟩
    exact k
end
end K21
namespace K21
open PySem PySem.Spec PyProof.Rows L2 FL
abbrev sTold : Stmt := topS 57
section
variable {P : Program} {w : World} {K : PySem.W.Frag} {mg : Str → Option Value} {base : Heap}
abbrev nTold : List Str := ["_law_abc_here", "_law_deals_here", "_law_plan", "_law_told", "_law_due", "_law_later"]
theorem scTold : FnScope nTold ["_law_abc_here", "_law_deals_here", "_law_plan"] (defScope sTold) := ⟨rfl, rfl, rfl, by decide +kernel, rfl, by decide +kernel, by decide +kernel⟩
theorem ok_told {f : Addr} {fd : FuncData} (F : Fun K "_law_told_right" "_law_told_right" sTold f fd) (R : RelF P w K mg base) (mR : mg "repr" = none) :
    FnG P w K mg base CX0 3 f fd ["_law_abc_here", "_law_deals_here", "_law_plan"] (spTold K R.C) := by
  refine okG F scTold (fun vs H Q E h => ?_) (fun cdv A outer s H vs Q E hr hg h => ?_)
  · obtain ⟨_, _, _, _, rfl, _⟩ := h
    rfl
  · obtain ⟨z, D, p, rs, rfl, dl, rel, k⟩ := h
    have nd := scTold.nd
    have hr1 := hr.mono (show 1 ≤ 2 by decide)
    refine ⟨_, pss_cons (ps_par (i := 3) (j := 4) (by rfl) nd rfl rfl (by decide) rfl rfl
        (pa_cons (pe_meth0 (pv 2) R.T.cl R.mr R.or_ hr1 R.br .nil pass0)
          (pa_cons (pe_op op_add_str (pe_op op_add_str (pe_op op_add_str (pe_op op_add_str pe_str (pe_callB (call_repr hg hr.units) (by rfl) mR (by decide +kernel) (pa_cons (pv 0) pa_nil))) pe_str)
            (pe_callB (call_repr hg hr.units) (by rfl) mR (by decide +kernel) (pa_cons (pv 1) pa_nil))) pe_str) pa_nil)) (by rfl))
      (pss_cons (ps_if (PW.pt (pw_or (pt_cmpR op_ne (pe_callB (call_repr hg hr.units) (by rfl) mR (by decide +kernel) (pa_cons (pv 3) pa_nil)) (pe_callB (call_repr hg hr.units) (by rfl) mR (by decide +kernel) (pa_cons (pv 1) pa_nil)) (nomark _))
          (pw_or (pt_cmpR op_ne (pe_callB (call_reprI (E := E0) R.oz R.bz hr hg R.zs R.zf) (by rfl) mR (by decide +kernel) (pa_cons (pv 2) pa_nil)) (pv 4) (nomark _))
          (pw_or1 (pt_cmpR op_ne (pe_callB (call_repr hg hr.units) (by rfl) mR (by decide +kernel) (pa_cons (pe_prop (pv 2) R.T.cl R.pr R.og hr R.bg .nil pass0 rfl) pa_nil)) (pe_callB (call_repr hg hr.units) (by rfl) mR (by decide +kernel) (pa_cons (pv 0) pa_nil)) (nomark _))))))
        (pss_one (ps_ret pe_bl)) pss_nil)
      (pss_cons (ps_expr (pe_bm0 PySem.F.plainAttrs_list PySem.F.slot_list_reverse PySem.F.type_list_reverse mtReverse (pv 3)))
      (pss_cons (ps_expr (pe_bm PySem.F.plainAttrs_list PySem.F.slot_list_append PySem.F.type_list_append mtAppend (pv 3) (pa_cons pe_non pa_nil)))
      (pss_cons (ps_set (i := 5) nd rfl (.inl rfl) (pe_meth0 (pv 2) R.T.cl R.mr R.or_ hr1 R.br .nil pass0))
      (pss_cons (ps_expr (pe_bm0 PySem.F.plainAttrs_list PySem.F.slot_list_clear PySem.F.type_list_clear mtClear (pv 5)))
      (pss_one (ps_ret (pe_and (pe_cmpR op_eq (pe_callB (call_repr hg hr.units) (by rfl) mR (by decide +kernel) (pa_cons (pe_meth0 (pv 2) R.T.cl R.mr R.or_ hr1 R.br .nil pass0) pa_nil))
          (pe_callB (call_repr hg hr.units) (by rfl) mR (by decide +kernel) (pa_cons (pv 1) pa_nil)) (nomark _))
        (pe_one (pe_cmpR op_eq (pe_callB (call_reprI (E := E0) R.oz R.bz hr hg R.zs R.zf) (by rfl) mR (by decide +kernel) (pa_cons (pv 2) pa_nil)) (pv 4) (nomark _))))))))))), ?_⟩
    obtain ⟨dx, fs, ep, no⟩ := rel.ins
    obtain ⟨n1, n2, n3⟩ := rules_no
    have sz : sizeLine = 16777216 := rfl
    have pz : Plain z := dl.az.plain fun c hc => hc
    have lz := dl.az.hi
    have nz : NiceD (.str z) := nice_str pz (by omega)
    have nd2 : NiceD (.list (rs.map ruleD)) := dl.sm.nice (by decide)
    have l1 : (reprText z).length ≤ 42 := repr_abc dl.az
    have l2 : ((PyData.list (rs.map ruleD)).shown).length ≤ 400000 := dl.sm.len
    have e1 : (Str.ofString "Relay(").length = 6 := by decide +kernel
    have e2 : (Str.ofString ", ").length = 2 := by decide +kernel
    have e3 : (Str.ofString ")").length = 1 := by decide +kernel
    refine ⟨_, rfl, p, dx, fs, rfl, ep, no n1 n2 n3, p, z, rs, rfl, rel, fun D1 xs1 H1 hD1 hx1 hr1' s1 => ?_⟩
    have dl1 := dl.same s1
    have rel1 := rel.same s1
    refine ⟨_, rfl, .str z, .str z, rfl, sh_str z, nz, _, _, rfl, rfl, (by show _ + (reprText z).length ≤ _; rw [sz]; omega), ?_⟩
    refine ⟨_, _, rfl, rfl, (by rw [len_app, sz]; show _ + (reprText z).length + _ ≤ _; omega), ?_⟩
    refine ⟨_, rfl, .ref D, _, rfl, dl1.sh, nd2, _, _, rfl, rfl, (by rw [len_app, len_app, sz]; show _ + (reprText z).length + _ + _ ≤ _; omega), ?_⟩
    refine ⟨_, _, rfl, rfl, (by rw [len_app, len_app, len_app, sz]; show _ + (reprText z).length + _ + _ + _ ≤ _; omega), ?_⟩
    refine ⟨_, _, rfl, ?_⟩
    refine ⟨_, rfl, .ref D1, _, rfl, .inl ⟨.lst (SqL.of hx1) (dp_rules hr1'), dl.sm.nd⟩, nd2, _, rfl, .ref D, _, rfl, dl1.sh, nd2, rfl, _, rfl, ?_⟩
    refine iteNS rfl ?_
    obtain ⟨dx1, fs1, ep1, no1⟩ := rel1.ins
    refine ⟨_, rfl, p, dx1, fs1, rfl, ep1, p, z, rs, rfl, rel1, dl.az, dl.rp, Nat.le_trans dl.le (by decide), _, rfl, _, rfl, rfl, _, rfl, ?_⟩
    refine iteNS (congrArg V.str (reprR_eq z rs)) ?_
    refine ⟨_, rfl, p, dx1, fs1, rfl, ep1, p, z, rs, rfl, rel1, .str z, .str z, rfl, sh_str z, nz, _, rfl, .str z, .str z, rfl, sh_str z, nz, rfl, _, rfl, ?_⟩
    refine iteNS rfl ?_
    refine ⟨_, rfl, .inl ⟨rfl, _, SqL.of hx1⟩, _, _, rfl, rfl, hx1, ?_⟩
    have u1 : upd H1 D1 (.lst xs1.reverse) D1 = some (.lst xs1.reverse) := upd_same
    have su1 : Same H (upd H1 D1 (.lst xs1.reverse)) := s1.upd hD1
    generalize upd H1 D1 (.lst xs1.reverse) = H2 at u1 su1 ⊢
    have lx : xs1.length ≤ 100 := by
      rw [paired_len hr1']
      exact dl.le
    refine ⟨_, rfl, .inl ⟨rfl, _, SqL.of u1⟩, D1, _, _, rfl, rfl, u1, (by rw [List.length_reverse, sz]; omega), ?_⟩
    have su2 : Same H (upd H2 D1 (.lst (xs1.reverse ++ [.non]))) := su1.upd hD1
    generalize upd H2 D1 (.lst (xs1.reverse ++ [.non])) = H3 at su2 ⊢
    obtain ⟨dx3, fs3, ep3, no3⟩ := (rel.same su2).ins
    refine ⟨_, rfl, p, dx3, fs3, rfl, ep3, no3 n1 n2 n3, p, z, rs, rfl, rel.same su2, fun D4 xs4 H4 hD4 hx4 hr4 s4 => ?_⟩
    have s34 := su2.trans s4
    refine ⟨_, rfl, .inl ⟨rfl, _, SqL.of hx4⟩, _, _, rfl, rfl, hx4, ?_⟩
    have su5 : Same H (upd H4 D4 (.lst [])) := s34.upd (su2.none hD4)
    generalize upd H4 D4 (.lst []) = H5 at su5 ⊢
    obtain ⟨dx5, fs5, ep5, no5⟩ := (rel.same su5).ins
    refine ⟨_, rfl, p, dx5, fs5, rfl, ep5, no5 n1 n2 n3, p, z, rs, rfl, rel.same su5, fun D6 xs6 H6 hD6 hx6 hr6 s6 => ?_⟩
    have s56 := su5.trans s6
    obtain ⟨dx6, fs6, ep6, no6⟩ := (rel.same s56).ins
    refine ⟨.ref D6, _, rfl, .inl ⟨.lst (SqL.of hx6) (dp_rules hr6), dl.sm.nd⟩, nd2, _, rfl, .ref D, _, rfl, (dl.same s56).sh, nd2, rfl, ?_⟩
    rw [decide_eq_true (rfl : V.str ((PyData.list (rs.map ruleD)).shown) = _)]
    refine ⟨_, rfl, ?_⟩
    refine ⟨_, rfl, p, dx6, fs6, rfl, ep6, p, z, rs, rfl, rel.same s56, dl.az, dl.rp, Nat.le_trans dl.le (by decide), _, rfl, _, rfl, rfl, ?_⟩
    rw [decide_eq_true (congrArg V.str (reprR_eq z rs))]
    exact k _ s56
end
end K21
namespace K21
open PySem PySem.Spec PyProof.Rows L2 FL
abbrev sTurns : Stmt := topS 56
section
variable {P : Program} {w : World} {K : PySem.W.Frag} {mg : Str → Option Value} {base : Heap}
abbrev nTurns : List Str := ["_law_pot_here", "_law_abc_here", "_law_deals_here", "_law_plan", "_law_few", "_law_far", "_law_note_here", "_law_due", "_law_turn_here", "_law_kind", "_law_old", "_law_new"]
theorem scTurns : FnScope nTurns ["_law_pot_here", "_law_abc_here", "_law_deals_here", "_law_plan"] (defScope sTurns) := ⟨rfl, rfl, rfl, by decide +kernel, rfl, by decide +kernel, by decide +kernel⟩
theorem ok_turns {f : Addr} {fd : FuncData} (F : Fun K "_law_turns_right" "_law_turns_right" sTurns f fd) (R : RelF P w K mg base) (mR : mg "repr" = none) (mN : mg "len" = none) (mG : mg "range" = none)
    (cN : Ca P w K mg base "_law_notes" 1 ["_law_abc_here", "_law_most"] spNotes) (cO : Ca P w K mg base "_law_note" 3 ["_law_pot_here", "_law_abc_here", "_law_most"] spNote)
    (cT : Ca P w K mg base "_law_turn" 1 ["_law_deals_here", "_law_note_here"] (spTurn K)) :
    FnG P w K mg base CX0 4 f fd ["_law_pot_here", "_law_abc_here", "_law_deals_here", "_law_plan"] (spTurns K R.C) := by
  refine okG F scTurns (fun vs H Q E h => ?_) (fun cdv A outer s H vs Q E hr hg h => ?_)
  · obtain ⟨_, _, _, _, _, rfl, _⟩ := h
    rfl
  · obtain ⟨q, z, D, p, rs, rfl, hq, dl, rel, k⟩ := h
    have nd := scTurns.nd
    have hr1 := hr.mono (show 1 ≤ 3 by decide)
    refine ⟨_, pss_cons (ps_set (i := 4) nd rfl (.inl rfl) (pe_ca cN hr1 (by rfl) (pa_cons (pv 1) (pa_cons
        (pe_ifExp (pt_cmpR op_lt (pe_callB callLen (by rfl) mN PySem.boot_len (pa_cons (pv 1) pa_nil)) pe_int (nomark _)) pe_int pe_int) pa_nil))))
      (pss_cons (ps_setLc (i := 5) (own := [("_law_turn_here", 8)]) (g := gName 8) (tt := tYes) rfl nd rfl rfl (sw_true rfl rfl rfl (by decide +kernel))
        (pi_range1 (by rfl) mG (pa_cons pe_int pa_nil))
        (blkOk_by (N := nTurns) (sc := defScope sTurns) (by decide +kernel))
        (fun _ _ _ _ _ => pg_name (i := 8) nd rfl (Or.inl rfl)) (fun _ _ _ _ _ => pts_nil)
        (fun _ _ _ _ _ => pe_ca cO hr (by rfl) (pa_cons (pv 0) (pa_cons (pv 1) (pa_cons pe_int pa_nil)))))
      (pss_cons (ps_expr (pe_bm PySem.F.plainAttrs_list PySem.F.slot_list_extend PySem.F.type_list_extend mtExtend (pv 5)
        (pa_cons (pe_lc (own := [("_law_kind", 9), ("_law_old", 10), ("_law_new", 11)]) (g := gTup K 3 (gCons (gName 9) (gCons (gName 10) (gCons (gName 11) gNil)))) (tt := tYes) rfl nd
          (pi_list (pv 2)) (blkOk_by (N := nTurns) (sc := defScope sTurns) (by decide +kernel))
          (fun _ _ _ _ _ => pg_tup rfl (pgs_cons (pg_name (i := 9) nd rfl (Or.inl rfl)) (pgs_cons (pg_name (i := 10) nd rfl (Or.inl rfl)) (pgs_cons (pg_name (i := 11) nd rfl (Or.inl rfl)) pgs_nil))))
          (fun _ _ _ _ _ => pts_nil)
          (fun _ _ _ _ _ => pe_op op_add_str (pv 10) (pe_ca cO hr (by rfl) (pa_cons (pv 0) (pa_cons (pv 1) (pa_cons pe_int pa_nil)))))) pa_nil)))
      (pss_cons (ps_expr (pe_bm PySem.F.plainAttrs_list PySem.F.slot_list_extend PySem.F.type_list_extend mtExtend (pv 5)
        (pa_cons (pe_lst (pa_cons (pe_op op_add_str (pe_ix ix_list (pv 5) (pe_un un_neg pe_int) (fun _ _ => rfl)) (pe_op op_mul_str (pe_ix ix_str (pv 1) pe_int (fun _ _ => rfl)) pe_int))
          (pa_cons (pe_op op_mul_str (pe_ix ix_str (pv 1) pe_int (fun _ _ => rfl)) pe_int) pa_nil))) pa_nil)))
      (pss_cons (ps_for PassesOwn.never rfl (pi_list (pe_op op_cat (pv 4) (pv 5))) (pg_name (i := 6) nd rfl (.inl rfl))
        (pss_cons (ps_set (i := 7) nd rfl (.inl rfl) (pe_ca cT hr1 (by rfl) (pa_cons (pv 2) (pa_cons (pv 6) pa_nil))))
        (pss_one (ps_if (pt_cmpR op_ne
            (pe_callB (call_repr hg hr.units) (by rfl) mR (by decide +kernel) (pa_cons (pe_lst (pa_cons (StX.pe_callO (pv 3) R.cc (R.oc.raw R.bc .nil) hr pass0 (pa_cons (pv 6) pa_nil))
              (pa_cons (pe_callOK (E := E0) (pv 3) R.cc R.oc R.kc hr (pk_cons (pv 6) pk_nil)) (pa_cons (StX.pe_callO (pv 3) R.cc (R.oc.raw R.bc .nil) hr pass0 (pa_cons (pv 6) pa_nil)) pa_nil)))) pa_nil))
            (pe_callB (call_repr hg hr.units) (by rfl) mR (by decide +kernel) (pa_cons (pe_lst (pa_cons (pv 7) (pa_cons (pv 7) (pa_cons (pv 7) pa_nil)))) pa_nil)) (nomark _))
          (pss_one (ps_ret pe_bl)) pss_nil))))
      (pss_one (ps_ret pe_bl)))))), ?_⟩
    have sz : sizeLine = 16777216 := rfl
    have z0 := dl.az.lo
    have z1 := dl.az.hi
    have sl := Nat.le_trans z1 (show 4 ≤ sizeLine by decide)
    refine ⟨_, rfl, _, rfl, _, z.length, rfl, ⟨sl, rfl⟩, _, _, rfl, rfl, _, rfl, ?_⟩
    have hqD : ∀ {H' : Hp} {c : Addr}, PotAt H' q → H' c = none → q ≠ c := fun hp hn => hp.ne hn
    obtain ⟨c0, c1, cr, ez⟩ := two_signs z0
    have m0 : c0 ∈ z.cps.toList := by rw [ez]; exact List.mem_cons_self
    have m1 : c1 ∈ z.cps.toList := by rw [ez]; exact List.mem_cons_of_mem _ List.mem_cons_self
    refine ite2 (fun _ => ?_) (fun _ => ?_)
    all_goals
      refine ⟨z, _, rfl, by omega, z1, by decide, by decide, fun D1 ys H1 hD1 hx1 ok1 l1 s1 => ?_⟩
      have hq1 : PotAt H1 q := Same.pot s1 hq
      have ln1 : ∀ y ∈ ys, Ln z y := fun y hy => ⟨(ok1 y hy).ov, Nat.le_trans (ok1 y hy).le (by decide)⟩
      clear ok1
      refine ⟨6, rfl, by decide, by decide, fun D2 hD2 => ?_⟩
      have nq2 := hqD hq1 hD2
      have n12 : D1 ≠ D2 := ne_of_none hx1 hD2
      have nq1 : q ≠ D1 := hqD hq hD1
      refine lc_range (lo := 0) (n := 6) (fun i Hi => PotAt Hi q ∧ But q H1 Hi ∧ ∃ vs : List Str, Hi D2 = some (.lst (vs.map V.str)) ∧ vs.length = i ∧ ∀ y ∈ vs, Ln z y) ?_ ?_ ?_
      · exact ⟨hq1.upd nq2, (But.refl q H1).upd hD2, [], upd_same, rfl, fun _ h => nomatch h⟩
      · rintro i Hi hi ⟨hqi, bi, vs, hDi, lv, okv⟩
        refine ⟨rfl, ?_⟩
        refine ⟨_, rfl, _, rfl, q, z, 30, rfl, hqi, by omega, by omega, by decide, by decide, fun y H2 oy ly hp2 b2 => ?_⟩
        refine ⟨_, b2 D2 _ hDi (Ne.symm nq2), (by rw [List.length_map, sz]; omega), hp2.upd nq2, (bi.trans b2).upd hD2, vs ++ [y], by rw [upd_same, List.map_append]; rfl, by rw [List.length_append, lv]; rfl, ?_⟩
        intro y' hy'
        rcases List.mem_append.mp hy' with h | h
        · exact okv y' h
        · rw [List.mem_singleton.mp h]
          exact ⟨oy, by omega⟩
      · rintro H2 ⟨hq2, b2, vs, hDv, lv, okv⟩
        have bH2 : But q H H2 := s1.but.trans b2
        have dl2 := dl.but hq bH2
        have e1 := b2 D1 _ hx1 (Ne.symm nq1)
        have sH : ∀ c o, H c = some o → c ≠ q → H2 c = some o := bH2
        obtain ⟨xs, hxs, hrs⟩ := dl2.ex
        refine ⟨_, rfl, .inl ⟨rfl, _, SqL.of hDv⟩, _, rfl, D, rfl, ⟨xs, SqL.of hxs⟩, fun D3 hD3 => ?_⟩
        have n23 : D2 ≠ D3 := ne_of_none hDv hD3
        have n13 : D1 ≠ D3 := ne_of_none e1 hD3
        have nq3 := hqD hq2 hD3
        refine lc_it (walk_list (xs := xs)) (fun i Hi => PotAt Hi q ∧ But q H2 Hi ∧ ∃ ws : List Str, Hi D3 = some (.lst (ws.map V.str)) ∧ ws.length = i ∧ ∀ y ∈ ws, Ln z y) ?_ ?_ ?_ ?_
        · exact ⟨hq2.upd nq3, (But.refl q H2).upd hD3, [], upd_same, rfl, fun _ h => nomatch h⟩
        · rintro i Hi _ ⟨hqi, bi, _⟩
          exact bi.sqR hq2 (SqL.of hxs) hrs
        · rintro i x Hi _ hi ⟨hqi, bi, ws, hDi, lw, okw⟩ ⟨rfl, hx⟩
          obtain ⟨r, hr', c, rfl, hc⟩ := L2.paired_get (bi.rules hq2 hrs) hx
          have okr := dl2.ok r (List.mem_of_getElem? hr')
          have lo : r.old.length ≤ 30 := okr.o2
          have li : i < rs.length := (List.getElem?_eq_some_iff.mp hr').1
          have lrs := dl2.le
          refine ⟨c, _, rfl, SqT.of hc, rfl, _, _, rfl, _, _, rfl, _, _, rfl, rfl, rfl, ?_⟩
          refine ⟨_, rfl, _, rfl, _, rfl, q, z, 4, rfl, hqi, by omega, by omega, by decide, by decide, fun y H4 oy ly hp4 b4 => ?_⟩
          refine ⟨_, _, rfl, rfl, (by rw [sz]; omega), ?_⟩
          refine ⟨_, b4 D3 _ hDi (Ne.symm nq3), (by rw [List.length_map, sz]; omega), hp4.upd nq3, (bi.trans b4).upd hD3, ws ++ [r.old ++ y], by rw [upd_same, List.map_append]; rfl, by rw [List.length_append, lw]; rfl, ?_⟩
          intro y' hy'
          rcases List.mem_append.mp hy' with h | h
          · exact okw y' h
          · rw [List.mem_singleton.mp h]
            exact ⟨over_app okr.o1 oy, by rw [len_app]; omega⟩
        · rintro H3 ⟨hq3, b3, ws, hDw, lw, okw⟩
          rw [paired_len hrs] at lw
          have lrs := dl2.le
          refine ⟨D2, D3, _, _, rfl, rfl, b3 D2 _ hDv (Ne.symm nq2), hDw, (by rw [List.length_map, List.length_map, sz]; omega), ?_⟩
          have hD2x : upd H3 D2 (.lst (vs.map V.str ++ ws.map V.str)) D2 = some (.lst ((vs ++ ws).map V.str)) := by rw [upd_same, List.map_append]
          have hq4 : PotAt (upd H3 D2 (.lst (vs.map V.str ++ ws.map V.str))) q := hq3.upd nq2
          have hD0 : H D2 = none := s1.none hD2
          have b4 : But q H (upd H3 D2 (.lst (vs.map V.str ++ ws.map V.str))) := (bH2.trans b3).upd hD0
          have e14 : upd H3 D2 (.lst (vs.map V.str ++ ws.map V.str)) D1 = some (.lst (ys.map V.str)) := by
            rw [upd_ne n12]
            exact b3 D1 _ e1 (Ne.symm nq1)
          generalize upd H3 D2 (.lst (vs.map V.str ++ ws.map V.str)) = H4 at hD2x hq4 b4 e14 ⊢
          have okv4 : ∀ y ∈ vs ++ ws, Ln z y := fun y hy => (List.mem_append.mp hy).elim (okv y) (okw y)
          have l4 : (vs ++ ws).length = 6 + rs.length := by rw [List.length_append, lv, lw]
          obtain ⟨ini, las, es⟩ := snoc_of (l := vs ++ ws) (by omega)
          rw [es] at hD2x okv4 l4
          have okl := okv4 las (List.mem_append_right _ List.mem_cons_self)
          have ll : las.length ≤ 3000 := okl.2
          refine ⟨_, rfl, .inl ⟨rfl, _, SqL.of hD2x⟩, _, rfl, _, rfl, D2, _, _, _, rfl, rfl, SqL.of hD2x, (by rw [List.map_append]; exact atI_last _ _), ?_⟩
          refine ⟨_, rfl, z, _, c0, rfl, rfl, sl, (by rw [ez]; exact atI_0), _, _, rfl, rfl, by decide, by decide, (by rw [len_one]; decide), (by rw [len_one]; decide), ?_⟩
          have r0 := rep_len c0 1500
          refine ⟨_, _, rfl, rfl, (by show _ + (repS ⟨#[c0]⟩ 1500).length ≤ _; rw [r0, sz]; omega), ?_⟩
          have r1 := rep_len c1 60
          refine ⟨_, rfl, z, _, c1, rfl, rfl, sl, (by rw [ez]; exact atI_1), _, _, rfl, rfl, by decide, by decide, (by rw [len_one]; decide), (by rw [len_one]; decide), ?_⟩
          refine ⟨(by show 2 ≤ sizeLine; decide), fun L hL => ?_⟩
          have n2L : D2 ≠ L := ne_of_none hD2x hL
          refine ⟨D2, L, _, _, rfl, rfl, (by rw [upd_ne n2L]; exact hD2x), upd_same, (by rw [List.length_map, sz]; show (ini ++ [las]).length + 2 ≤ _; omega), ?_⟩
          have eW : (ini ++ [las]).map V.str ++ [V.str (las ++ repS ⟨#[c0]⟩ (1500 : Int).toNat), V.str (repS ⟨#[c1]⟩ (60 : Int).toNat)] = (ini ++ [las] ++ [las ++ repS ⟨#[c0]⟩ 1500, repS ⟨#[c1]⟩ 60]).map V.str := by
            rw [List.map_append (l₁ := ini ++ [las])]
            rfl
          rw [eW]
          have okf : ∀ y ∈ ini ++ [las] ++ [las ++ repS ⟨#[c0]⟩ 1500, repS ⟨#[c1]⟩ 60], Over z y ∧ y.length ≤ 4500 := by
            intro y hy
            rcases List.mem_append.mp hy with h | h
            · exact ⟨(okv4 y h).1, Nat.le_trans (okv4 y h).2 (by decide)⟩
            · simp only [List.mem_cons, List.mem_nil_iff, or_false] at h
              rcases h with rfl | rfl
              · exact ⟨over_app okl.1 (over_rep m0), by rw [len_app, r0]; omega⟩
              · exact ⟨over_rep m1, by rw [r1]; decide⟩
          have lf : (ini ++ [las] ++ [las ++ repS ⟨#[c0]⟩ 1500, repS ⟨#[c1]⟩ 60]).length ≤ 108 := by
            rw [List.length_append, l4]
            show 6 + rs.length + 2 ≤ 108
            omega
          generalize ini ++ [las] ++ [las ++ repS ⟨#[c0]⟩ 1500, repS ⟨#[c1]⟩ 60] = far at okf lf ⊢
          have b5 : But q H (upd (upd H4 L (.lst [V.str (las ++ repS ⟨#[c0]⟩ (1500 : Int).toNat), V.str (repS ⟨#[c1]⟩ (60 : Int).toNat)])) D2 (.lst (far.map V.str))) := (b4.upd (b4.new hq hL hq4)).upd hD0
          have hq5 : PotAt (upd (upd H4 L (.lst [V.str (las ++ repS ⟨#[c0]⟩ (1500 : Int).toNat), V.str (repS ⟨#[c1]⟩ (60 : Int).toNat)])) D2 (.lst (far.map V.str))) q := (hq4.upd (hq4.ne hL)).upd nq2
          have f5 : upd (upd H4 L (.lst [V.str (las ++ repS ⟨#[c0]⟩ (1500 : Int).toNat), V.str (repS ⟨#[c1]⟩ (60 : Int).toNat)])) D2 (.lst (far.map V.str)) D2 = some (.lst (far.map V.str)) := upd_same
          have g5 : upd (upd H4 L (.lst [V.str (las ++ repS ⟨#[c0]⟩ (1500 : Int).toNat), V.str (repS ⟨#[c1]⟩ (60 : Int).toNat)])) D2 (.lst (far.map V.str)) D1 = some (.lst (ys.map V.str)) := by
            rw [upd_ne n12, upd_ne (ne_of_none e14 hL)]
            exact e14
          generalize upd (upd H4 L (.lst [V.str (las ++ repS ⟨#[c0]⟩ (1500 : Int).toNat), V.str (repS ⟨#[c1]⟩ (60 : Int).toNat)])) D2 (.lst (far.map V.str)) = H5 at b5 hq5 f5 g5 ⊢
          have dl5 := dl.but hq b5
          have rel5 := rel.but hq b5
          have okA : ∀ y ∈ ys ++ far, Over z y ∧ y.length ≤ 4500 := fun y hy => (List.mem_append.mp hy).elim (fun h => ⟨(ln1 y h).1, Nat.le_trans (ln1 y h).2 (by decide)⟩) (okf y)
          refine ⟨_, rfl, _, rfl, D1, D2, _, _, rfl, rfl, g5, f5, (by rw [List.length_map, List.length_map, sz]; omega), fun W hW => ?_⟩
          rw [← List.map_append]
          have s6 : Same H5 (upd H5 W (.lst ((ys ++ far).map V.str))) := (Same.refl H5).upd hW
          have w6 : upd H5 W (.lst ((ys ++ far).map V.str)) W = some (.lst ((ys ++ far).map V.str)) := upd_same
          generalize upd H5 W (.lst ((ys ++ far).map V.str)) = H6 at s6 w6 ⊢
          have dl6 := dl5.same s6
          have rel6 := rel5.same s6
          have lr : ∀ r ∈ rs, r.old.length ≤ 40 ∧ r.new.length ≤ 1000 := fun r hr' => ⟨Nat.le_trans (dl.ok r hr').o2 (by decide), Nat.le_trans (dl.ok r hr').n2 (by decide)⟩
          refine ⟨W, rfl, ⟨_, SqL.of w6⟩, for_list (xs := (ys ++ far).map V.str) (fun i σ Hi => ∃ o6 o7 : Option V, σ = [some (.ref q), some (.str z), some (.ref D), some (.ref p), some (.ref D1), some (.ref D2), o6, o7, none, none, none, none] ∧ Same H6 Hi) ?_ ?_ ?_ ?_⟩
          · exact ⟨_, _, rfl, Same.refl H6⟩
          · rintro i σ Hi _ ⟨_, _, _, sm⟩
            exact SqL.of (sm _ _ w6)
          · rintro i x σ Hi hx ⟨o6, o7, rfl, sm⟩
            rw [List.getElem?_map] at hx
            cases hy : (ys ++ far)[i]? with
            | none =>
              rw [hy] at hx
              cases hx
            | some y =>
              rw [hy] at hx
              obtain rfl : V.str y = x := Option.some.inj hx
              obtain ⟨oy, ly⟩ := okA y (List.mem_of_getElem? hy)
              obtain ⟨ot, lt⟩ := turn_note (b := 30) dl.ok oy
              have dli := dl6.same sm
              obtain ⟨xs', gx, gr⟩ := dli.ex
              have reli := rel6.same sm
              obtain ⟨dx, fs, ep, _⟩ := reli.ins
              refine ⟨_, rfl, _, rfl, D, y, xs', rs, rfl, SqL.of gx, gr, by omega, (fun r hr' => ⟨Nat.le_trans (lr r hr').1 (by decide), (lr r hr').2⟩), ?_⟩
              refine ⟨_, rfl, p, rfl, _, rfl, .inr ⟨dx, fs, ep⟩, p, z, rs, y, rfl, reli, oy, by omega, lr, fun Ha sa => ?_⟩
              obtain ⟨dxa, fsa, epa, _⟩ := (reli.same sa).ins
              refine ⟨_, rfl, p, rfl, _, rfl, rfl, ⟨dxa, fsa, epa⟩, p, z, rs, y, rfl, reli.same sa, oy, by omega, lr, fun Hb sb => ?_⟩
              have sab := sa.trans sb
              obtain ⟨dxb, fsb, epb, _⟩ := (reli.same sab).ins
              refine ⟨_, rfl, p, rfl, _, rfl, .inr ⟨dxb, fsb, epb⟩, p, z, rs, y, rfl, reli.same sab, oy, by omega, lr, fun Hc sc => ?_⟩
              have sabc := sab.trans sc
              have tsm := three_sm dl.az ot (by omega)
              refine ⟨(by show 3 ≤ sizeLine; decide), fun L1 hL1 => ?_⟩
              refine ⟨.ref L1, .list [.str (turn rs y), .str (turn rs y), .str (turn rs y)], rfl, .inl ⟨.lst (SqL.of upd_same) (.cons (.str _) (.cons (.str _) (.cons (.str _) .nil))), tsm.nd⟩, tsm.nice (by decide), ?_⟩
              refine ⟨_, rfl, _, rfl, _, rfl, (by show 3 ≤ sizeLine; decide), fun L2 hL2 => ?_⟩
              refine ⟨.ref L2, .list [.str (turn rs y), .str (turn rs y), .str (turn rs y)], rfl, .inl ⟨.lst (SqL.of upd_same) (.cons (.str _) (.cons (.str _) (.cons (.str _) .nil))), tsm.nd⟩, tsm.nice (by decide), ?_⟩
              refine ⟨rfl, _, rfl, ?_⟩
              refine iteNS rfl ?_
              have se := sm.trans sabc
              exact ⟨_, _, rfl, (se.upd (se.none hL1)).upd ((se.upd (se.none hL1)).none hL2)⟩
          · rintro σ Hi ⟨o6, o7, rfl, sm⟩
            have st := s6.trans sm
            exact k Hi (Same.pot st hq5) (b5.same st)
end
end K21
namespace K21
open PySem PySem.Spec PyProof.Rows L2 FL
abbrev sHidR : Stmt := topS 59
section
variable {P : Program} {w : World} {K : PySem.W.Frag} {mg : Str → Option Value} {base : Heap}
abbrev nHidR : List Str := ["_law_pot_here", "_law_abc_here", "_law_deals_here", "_law_plan", "_law_less", "_law_kind", "_law_old", "_law_new", "_law_is_hidden", "_law_early", "_law_begun", "_law_made", "_law_mates", "_law_note_here", "_law_mate"]
theorem scHidR : FnScope nHidR ["_law_pot_here", "_law_abc_here", "_law_deals_here", "_law_plan"] (defScope sHidR) := ⟨rfl, rfl, rfl, by decide +kernel, rfl, by decide +kernel, by decide +kernel⟩
theorem ok_hidr {f : Addr} {fd : FuncData} (F : Fun K "_law_hidden_right" "_law_hidden_right" sHidR f fd) (R : RelF P w K mg base) (mN : mg "len" = none)
    (cN : Ca P w K mg base "_law_notes" 1 ["_law_abc_here", "_law_most"] spNotes) (cM : Ca P w K mg base "_law_mixed" 2 ["_law_pot_here", "_law_some"] (spMixed K)) :
    FnOk P w K mg base CX0 7 f fd ["_law_pot_here", "_law_abc_here", "_law_deals_here", "_law_plan"] (spHidR K R.C) := by
  refine F.ok scHidR (fun vs H Q E h => ?_) (fun cdv A outer s H vs Q E hr h => ?_)
  · obtain ⟨_, _, _, _, _, rfl, _⟩ := h
    rfl
  · obtain ⟨q, z, D, p, rs, rfl, hq, dl, rel, k⟩ := h
    have nd := scHidR.nd
    have hr1 := hr.mono (show 1 ≤ 6 by decide)
    have hr2 := hr.mono (show 2 ≤ 6 by decide)
    have hr3 := hr.mono (show 3 ≤ 6 by decide)
    refine ⟨_, pss_cons (ps_set (i := 4) nd rfl (.inl rfl) (pe_lst pa_nil))
      (pss_cons (ps_for PassesOwn.never rfl (pi_list (pv 2))
          (pg_tup rfl (pgs_cons (pg_name (i := 5) nd rfl (.inl rfl)) (pgs_cons (pg_name (i := 6) nd rfl (.inl rfl)) (pgs_cons (pg_name (i := 7) nd rfl (.inl rfl)) pgs_nil))))
        (pss_cons (ps_set (i := 8) nd rfl (.inl rfl) pe_bl)
        (pss_cons (ps_for PassesOwn.never rfl (pi_list (pv 4))
            (pg_tup rfl (pgs_cons (pg_name (i := 9) nd rfl (.inl rfl)) (pgs_cons (pg_name (i := 10) nd rfl (.inl rfl)) (pgs_cons (pg_name (i := 11) nd rfl (.inl rfl)) pgs_nil))))
          (C8.pss_cut (ps_if (PW.pt (pw_and (pt_cmpR op_eq (pv 9) pe_str (nomark _)) (pw_and1 (pt_cmpR op_eq
              (pe_slice sl_str (pv 6) po_none (po_some (pe_callB callLen (by rfl) mN PySem.boot_len (pa_cons (pv 10) pa_nil)))) (pv 10) (nomark _)))))
            (pss_one (ps_set (i := 8) nd rfl (.inl rfl) pe_bl)) pss_nil)
          (pss_one (ps_if (pt_cmpR (op_eqD hr.units) (pe_tup (pa_cons (pv 9) (pa_cons (pv 10) pa_nil))) (pe_tup (pa_cons (pv 5) (pa_cons (pv 6) pa_nil))) (nomark _))
            (pss_one (ps_set (i := 8) nd rfl (.inl rfl) pe_bl)) pss_nil))))
        (pss_one (ps_if (pt_not (pt_val (pv 8)))
          (pss_one (ps_expr (pe_bm PySem.F.plainAttrs_list PySem.F.slot_list_append PySem.F.type_list_append mtAppend (pv 4)
            (pa_cons (pe_tup (pa_cons (pv 5) (pa_cons (pv 6) (pa_cons (pv 7) pa_nil)))) pa_nil)))) pss_nil)))))
      (pss_cons (ps_set (i := 12) nd rfl (.inl rfl) (pe_lst (pa_cons (pe_make R.mkc R.oi hr (by rfl) R.T.mgC R.bi .nil pass0 (pa_cons (pv 1) (pa_cons (pv 4) pa_nil)))
          (pa_cons (pe_make R.mkc R.oi hr (by rfl) R.T.mgC R.bi .nil pass0 (pa_cons (pv 1) (pa_cons (pe_op op_cat (pv 2) (pe_ca cM hr2 (by rfl) (pa_cons (pv 0) (pa_cons (pv 2) pa_nil)))) pa_nil))) pa_nil))))
      (pss_cons (ps_expr (pe_bm PySem.F.plainAttrs_list PySem.F.slot_list_append PySem.F.type_list_append mtAppend (pv 12)
          (pa_cons (pe_make R.mkc R.oi hr (by rfl) R.T.mgC R.bi .nil pass0 (pa_cons (pv 1) (pa_cons (pe_op op_cat (pv 2) (pe_lst (pa_cons (pe_tup (pa_cons pe_str (pa_cons pe_str (pa_cons pe_str pa_nil)))) pa_nil))) pa_nil))) pa_nil)))
      (pss_cons (ps_for PassesOwn.never rfl (pi_list (pe_ca cN hr1 (by rfl) (pa_cons (pv 1) (pa_cons
          (pe_ifExp (pt_cmpR op_lt (pe_callB callLen (by rfl) mN PySem.boot_len (pa_cons (pv 1) pa_nil)) pe_int (nomark _)) pe_int pe_int) pa_nil)))) (pg_name (i := 13) nd rfl (.inr rfl))
        (pss_one (ps_if (pt_cmpR (op_neD hr.units)
            (pe_lc (own := [("_law_mate", 14)]) (g := gName 14) (tt := tYes) (te := tCallP R.C (spCall R.C) (tVar 14) (tCons (tVar 13) tNil)) rfl nd (pi_list (pv 12))
              (blkOk_by (N := nHidR) (sc := defScope sHidR) (by decide +kernel)) (fun _ _ _ _ _ => pg_name (i := 14) nd rfl (Or.inl rfl)) (fun _ _ _ _ _ => pts_nil)
              (fun _ _ _ _ _ => pe_callP (pv 14) R.cc R.oc R.bc hr3 (pa_cons (pv 13) pa_nil)))
            (pe_op op_rep (pe_lst (pa_cons (pe_callP (pv 3) R.cc R.oc R.bc hr3 (pa_cons (pv 13) pa_nil)) pa_nil)) pe_int) (nomark _))
          (pss_one (ps_ret pe_bl)) pss_nil)))
      (pss_one (ps_ret pe_bl)))))), ?_⟩
    have sz : sizeLine = 16777216 := rfl
    have z0 := dl.az.lo
    have z1 := dl.az.hi
    have sl := Nat.le_trans z1 (show 4 ≤ sizeLine by decide)
    obtain ⟨xs, hxs, hrs⟩ := dl.ex
    have lrs := dl.le
    refine ⟨by decide, fun Ls hLs => ?_⟩
    have s0 : Same H (upd H Ls (.lst [])) := (Same.refl H).upd hLs
    refine ⟨_, rfl, D, rfl, ⟨xs, SqL.of (s0 _ _ hxs)⟩, for_list (xs := xs) (fun i σ Hi => ∃ (o5 o6 o7 o8 o9 o10 o11 : Option V) (xl : List V) (L : List Rule),
        σ = [some (.ref q), some (.str z), some (.ref D), some (.ref p), some (.ref Ls), o5, o6, o7, o8, o9, o10, o11, none, none, none]
      ∧ Same H Hi ∧ Hi Ls = some (.lst xl) ∧ RulesAt Hi xl L ∧ (∀ r ∈ L, r ∈ rs) ∧ L.length ≤ i ∧ ∀ y, turn (L ++ rs.drop i) y = turn rs y) ?_ ?_ ?_ ?_⟩
    · exact ⟨_, _, _, _, _, _, _, [], [], rfl, s0, upd_same, .nil, (fun _ h => nomatch h), Nat.le_refl _, fun _ => rfl⟩
    · rintro i σ Hi _ ⟨_, _, _, _, _, _, _, _, _, _, sm, _⟩
      exact SqL.of (sm _ _ hxs)
    · rintro i x σ Hi hx ⟨o5, o6, o7, o8, o9, o10, o11, xl, L, rfl, sm, hL, hrL, memL, lL, tL⟩
      obtain ⟨r, hr', t, rfl, hT⟩ := L2.paired_get hrs hx
      have mr : r ∈ rs := List.mem_of_getElem? hr'
      have okr := dl.ok r mr
      have lor : r.old.length ≤ 30 := okr.o2
      have hTi := sm _ _ hT
      refine ⟨t, _, rfl, SqT.of hTi, rfl, _, _, rfl, _, _, rfl, _, _, rfl, rfl, ?_⟩
      refine ⟨_, rfl, Ls, rfl, ⟨_, SqL.of hL⟩, for_list (xs := xl) (fun j σ Hj => ∃ o9 o10 o11 : Option V,
          σ = [some (.ref q), some (.str z), some (.ref D), some (.ref p), some (.ref Ls), some (.str (kd r.fr)), some (.str r.old), some (.str r.new), some (.bl ((L.take j).any fun e => hides e r)), o9, o10, o11, none, none, none]
        ∧ Same Hi Hj) ?_ ?_ ?_ ?_⟩
      · exact ⟨_, _, _, by rw [List.take_zero]; rfl, Same.refl Hi⟩
      · rintro j σ Hj _ ⟨_, _, _, _, sj⟩
        exact SqL.of (sj _ _ hL)
      · rintro j x σ Hj hx2 ⟨o9, o10, o11, rfl, sj⟩
        obtain ⟨e, he, c, rfl, hc⟩ := L2.paired_get hrL hx2
        have oke := dl.ok e (memL e (List.mem_of_getElem? he))
        have loe : e.old.length ≤ 30 := oke.o2
        have hcj := sj _ _ hc
        refine ⟨c, _, rfl, SqT.of hcj, rfl, _, _, rfl, _, _, rfl, _, _, rfl, rfl, ?_⟩
        refine ⟨fun σ' H' => σ' = [some (.ref q), some (.str z), some (.ref D), some (.ref p), some (.ref Ls), some (.str (kd r.fr)), some (.str r.old), some (.str r.new),
            some (.bl ((L.take j).any (fun e => hides e r) || (e.fr && decide (cutS r.old none (some (e.old.length : Int)) = e.old)))), some (.str (kd e.fr)), some (.str e.old), some (.str e.new), none, none, none] ∧ H' = Hj, ?_, ?_⟩
        · obtain ⟨fr, old, new⟩ := e
          have loe' : old.length ≤ 30 := loe
          cases fr with
          | true =>
            refine ⟨_, rfl, rfl, _, rfl, ?_⟩
            refine ite2 (fun _ => ?_) (fun h => absurd (decide_eq_true rfl) h)
            refine ⟨_, rfl, _, rfl, _, old.length, rfl, ⟨(by rw [sz]; omega), rfl⟩, _, rfl, r.old, rfl, (by rw [sz]; omega), _, rfl, rfl, _, rfl, ?_⟩
            by_cases hf : cutS r.old none (some (old.length : Int)) = old
            · rw [decide_eq_true (show V.str (cutS r.old none (some (old.length : Int))) = V.str old by rw [hf])]
              refine iteT ?_
              refine ⟨?_, rfl⟩
              rw [decide_eq_true hf, Bool.and_self, Bool.or_true]
              rfl
            · rw [decide_eq_false (strV_ne hf)]
              refine iteF ?_
              refine ⟨?_, rfl⟩
              rw [decide_eq_false hf, Bool.and_false, Bool.or_false]
              rfl
          | false =>
            refine ⟨_, rfl, rfl, _, rfl, ?_⟩
            refine ite2 (fun h => absurd (of_decide_eq_true h) (strV_ne (Ne.symm kd_ne))) (fun _ => ?_)
            refine iteF ?_
            refine ⟨?_, rfl⟩
            rw [Bool.false_and, Bool.or_false]
            rfl
        · rintro σ' H' ⟨rfl, rfl⟩
          refine ⟨_, rfl, _, rfl, (by show 2 ≤ sizeLine; decide), fun T1 hT1 => ?_⟩
          refine ⟨_, rfl, _, rfl, (by show 2 ≤ sizeLine; decide), fun T2 hT2 => ?_⟩
          have n12 : T1 ≠ T2 := fun e => by
            rw [← e, upd_same] at hT2
            cases hT2
          have d1 : Dp K (upd (upd H' T1 (.tup [.str (kd e.fr), .str e.old])) T2 (.tup [.str (kd r.fr), .str r.old])) (.ref T1) (.tuple [.str (kd e.fr), .str e.old]) :=
            .tup (SqT.of (by rw [upd_ne n12, upd_same])) (.cons (.str _) (.cons (.str _) .nil))
          have d2 : Dp K (upd (upd H' T1 (.tup [.str (kd e.fr), .str e.old])) T2 (.tup [.str (kd r.fr), .str r.old])) (.ref T2) (.tuple [.str (kd r.fr), .str r.old]) :=
            .tup (SqT.of upd_same) (.cons (.str _) (.cons (.str _) .nil))
          have k1 := (key_sm (f := e.fr) (dl.az.plain oke.o1) (by omega)).shaped
          have k2 := (key_sm (f := r.fr) (dl.az.plain okr.o1) (by omega)).shaped
          refine ⟨_, _, d1, d2, k1, k2, _, rfl, ?_⟩
          rw [eqv_key]
          have eh : hides e r = ((e.fr && decide (cutS r.old none (some (e.old.length : Int)) = e.old)) || (decide (e.fr = r.fr) && decide (e.old = r.old))) := rfl
          have st := any_take (fun e => hides e r) he
          have sx : Same Hi (upd (upd H' T1 (.tup [.str (kd e.fr), .str e.old])) T2 (.tup [.str (kd r.fr), .str r.old])) := (sj.upd (sj.none hT1)).upd ((sj.upd (sj.none hT1)).none hT2)
          cases hc2 : (decide (e.fr = r.fr) && decide (e.old = r.old)) with
          | true =>
            refine iteT ?_
            refine ⟨some (.str (kd e.fr)), some (.str e.old), some (.str e.new), ?_, sx⟩
            rw [st, eh, hc2, Bool.or_true, Bool.or_true]
            rfl
          | false =>
            refine iteF ?_
            refine ⟨some (.str (kd e.fr)), some (.str e.old), some (.str e.new), ?_, sx⟩
            rw [st, eh, hc2, Bool.or_false]
      · rintro σ Hj ⟨o9, o10, o11, rfl, sj⟩
        rw [paired_len hrL, List.take_length]
        have hLj := sj _ _ hL
        have hrLj : RulesAt Hj xl L := Same.rules sj hrL
        have smj := sm.trans sj
        have ed := drop_at hr'
        refine ⟨_, rfl, _, rfl, ?_⟩
        cases hB : (L.any fun e => hides e r) with
        | true =>
          refine iteF ?_
          refine ⟨_, _, _, _, _, _, _, xl, L, rfl, smj, hLj, hrLj, memL, by omega, fun y => ?_⟩
          rw [← turn_skip hB y, ← ed]
          exact tL y
        | false =>
          refine iteT ?_
          refine ⟨_, rfl, .inl ⟨rfl, _, SqL.of hLj⟩, _, rfl, _, rfl, _, rfl, (by show 3 ≤ sizeLine; decide), fun T hT2 => ?_⟩
          have nLT : Ls ≠ T := ne_of_none hLj hT2
          have lxl := paired_len hrLj
          have hi : i < rs.length := (List.getElem?_eq_some_iff.mp hr').1
          refine ⟨Ls, xl, _, rfl, rfl, by rw [upd_ne nLT]; exact hLj, (by rw [sz]; omega), ?_⟩
          refine ⟨_, _, _, _, _, _, _, xl ++ [.ref T], L ++ [r], rfl, (smj.upd (smj.none hT2)).upd hLs, upd_same, ?_, ?_, by rw [List.length_append]; show L.length + 1 ≤ _; omega, fun y => ?_⟩
          · refine paired_snoc (RulesAt.imp hrLj fun t a et => ?_) ⟨T, rfl, ?_⟩
            · have ntL : t ≠ Ls := ne_of et hLj (by intro q; cases q)
              rw [upd_ne ntL, upd_ne (ne_of_none et hT2)]
              exact et
            · rw [upd_ne (Ne.symm nLT), upd_same]
              rfl
          · intro r' hr2
            rcases List.mem_append.mp hr2 with h | h
            · exact memL r' h
            · rw [List.mem_singleton.mp h]
              exact mr
          · rw [List.append_assoc]
            show turn (L ++ r :: rs.drop (i + 1)) y = _
            rw [← ed]
            exact tL y
    · rintro σ H1 ⟨o5, o6, o7, o8, o9, o10, o11, xl, L, rfl, s1, hL, hrL, memL, lL, tL⟩
      have tL' : ∀ y, turn L y = turn rs y := fun y => by
        have := tL y
        rw [paired_len hrs, List.drop_length, List.append_nil] at this
        exact this
      have lenL : L.length ≤ 400 := by have := lL; rw [paired_len hrs] at lL; omega
      have okL : ∀ r ∈ L, RuleOk z 40 r := fun r hr' => (dl.ok r (memL r hr')).mono (by decide)
      have okR : ∀ r ∈ rs, RuleOk z 40 r := fun r hr' => (dl.ok r hr').mono (by decide)
      refine ⟨_, rfl, _, rfl, fun x1 dx1 hx1 hdx1 hne1 => make_one dl.az ⟨Ls, xl, false, rfl, hL, hrL⟩ okL lenL hx1 hdx1 hne1 fun H2 rel1 s2 => ?_⟩
      have hq2 : PotAt H2 q := Same.pot (s1.trans s2) hq
      have b2 : But q H H2 := (s1.trans s2).but
      have hD2 := (s1.trans s2) _ _ hxs
      have hr2' := Same.rules (s1.trans s2) hrs
      have nDq : D ≠ q := fun e => by
        subst e
        exact pot_list hq hxs hrs
      refine ⟨_, rfl, _, rfl, _, rfl, _, rfl, q, D, xs, rfl, hq2, SqL.of hD2, nDq, (by rw [paired_len hrs]; omega), fun M ys H3 my ly hM hM' hq3 b3 => ?_⟩
      obtain ⟨ts, hts, memT⟩ := pick_rules hr2' my
      have hts3 := b3.rules hq2 hts
      have hr3' := b3.rules hq2 hr2'
      have hD3 := b3 D _ hD2 nDq
      have lys := paired_len hts
      have lxs := paired_len hrs
      refine ⟨D, M, _, _, rfl, rfl, hD3, hM', (by rw [sz]; omega), fun W hW => ?_⟩
      have s3 : Same H3 (upd H3 W (.lst (xs ++ ys))) := (Same.refl H3).upd hW
      have w3 : upd H3 W (.lst (xs ++ ys)) W = some (.lst (xs ++ ys)) := upd_same
      have rel1b := (rel1.but hq2 b3).same s3
      have bW : But q H (upd H3 W (.lst (xs ++ ys))) := (b2.trans b3).same s3
      have hqW : PotAt (upd H3 W (.lst (xs ++ ys))) q := Same.pot s3 hq3
      have dlW := dl.but hq bW
      have rrW : RulesAt (upd H3 W (.lst (xs ++ ys))) (xs ++ ys) (rs ++ ts) := Same.rules s3 (paired_app hr3' hts3)
      have hDW := s3 _ _ hD3
      generalize upd H3 W (.lst (xs ++ ys)) = HW at s3 w3 rel1b bW hqW dlW rrW hDW ⊢
      have okT : ∀ r ∈ rs ++ ts, RuleOk z 40 r := fun r hr' => (List.mem_append.mp hr').elim (okR r) fun h => okR r (memT r h)
      have lT : (rs ++ ts).length ≤ 400 := by rw [List.length_append]; omega
      intro x2 dx2 hx2 hdx2 hne2
      refine make_one dl.az ⟨W, _, false, rfl, w3, rrW⟩ okT lT hx2 hdx2 hne2 fun H4 rel2 s4 => ?_
      have rel1c := rel1b.same s4
      refine ⟨(by show 2 ≤ sizeLine; decide), fun ML hML => ?_⟩
      have s5 : Same H4 (upd H4 ML (.lst [.ref x1, .ref x2])) := (Same.refl H4).upd hML
      have m5 : upd H4 ML (.lst [.ref x1, .ref x2]) ML = some (.lst [.ref x1, .ref x2]) := upd_same
      generalize upd H4 ML (.lst [.ref x1, .ref x2]) = H5 at s5 m5 ⊢
      have hHML : ∀ {c : Addr} {o : HO}, HW c = some o → c ≠ ML := fun e => ne_of_none (s4 _ _ e) hML
      refine ⟨_, rfl, .inl ⟨rfl, _, SqL.of m5⟩, _, rfl, _, rfl, (by show 3 ≤ sizeLine; decide), fun T hT => ?_⟩
      have s6 : Same H5 (upd H5 T (.tup [.str (Str.ofString "front"), .str (Str.ofString ""), .str (Str.ofString "")])) := (Same.refl H5).upd hT
      have t6 : upd H5 T (.tup [.str (Str.ofString "front"), .str (Str.ofString ""), .str (Str.ofString "")]) T = some (.tup (ruleV ⟨true, Str.ofString "", Str.ofString ""⟩)) := upd_same
      generalize upd H5 T (.tup [.str (Str.ofString "front"), .str (Str.ofString ""), .str (Str.ofString "")]) = H6 at s6 t6 ⊢
      refine ⟨(by show 1 ≤ sizeLine; decide), fun V1 hV1 => ?_⟩
      have s7 : Same H6 (upd H6 V1 (.lst [.ref T])) := (Same.refl H6).upd hV1
      have v7 : upd H6 V1 (.lst [.ref T]) V1 = some (.lst [.ref T]) := upd_same
      generalize upd H6 V1 (.lst [.ref T]) = H7 at s7 v7 ⊢
      have s47 : Same HW H7 := s4.trans (s5.trans (s6.trans s7))
      have hD7 := s47 _ _ hDW
      refine ⟨D, V1, _, _, rfl, rfl, hD7, v7, (by rw [sz]; show xs.length + 1 ≤ _; omega), fun W2 hW2 => ?_⟩
      have s8 : Same H7 (upd H7 W2 (.lst (xs ++ [.ref T]))) := (Same.refl H7).upd hW2
      have w8 : upd H7 W2 (.lst (xs ++ [.ref T])) W2 = some (.lst (xs ++ [.ref T])) := upd_same
      generalize upd H7 W2 (.lst (xs ++ [.ref T])) = H8 at s8 w8 ⊢
      have dl8 := dlW.same (s47.trans s8)
      have rr8 : RulesAt H8 (xs ++ [.ref T]) (rs ++ [⟨true, Str.ofString "", Str.ofString ""⟩]) :=
        paired_snoc (Same.rules (s47.trans s8) (b3.rules hq2 hr2' |> fun h => Same.rules (by exact fun c o e => e) (by
          have := dlW.ex
          obtain ⟨xs', g1, g2⟩ := this
          rw [hDW] at g1
          cases g1
          exact g2))) ⟨T, rfl, s8 _ _ (s7 _ _ t6)⟩
      have okV : ∀ r ∈ rs ++ [⟨true, Str.ofString "", Str.ofString ""⟩], RuleOk z 40 r := fun r hr' => (List.mem_append.mp hr').elim (okR r) fun h => by
        rw [List.mem_singleton.mp h]
        exact void_ok
      intro x3 dx3 hx3 hdx3 hne3
      refine make_one dl.az ⟨W2, _, false, rfl, w8, rr8⟩ okV (by rw [List.length_append]; show rs.length + 1 ≤ 400; omega) hx3 hdx3 hne3 fun H9 rel3 s9 => ?_
      have s49 : Same H4 H9 := s5.trans (s6.trans (s7.trans (s8.trans s9)))
      have m9 := s9 _ _ (s8 _ _ (s7 _ _ (s6 _ _ m5)))
      refine ⟨ML, _, _, rfl, rfl, m9, (by show 2 < _; decide), ?_⟩
      have nML : ∀ {c : Addr} {o : HO}, H4 c = some o → c ≠ ML := fun e => ne_of_none e hML
      have mA : Mate R.C H4 x1 z rs := ⟨L, rel1c, ok_lens okL, tL'⟩
      have mB : Mate R.C H4 x2 z rs := ⟨_, rel2, ok_lens okT, fun y => turn_again memT y⟩
      have mC : Mate R.C H9 x3 z rs := ⟨_, rel3, ok_lens okV, fun y => turn_void y⟩
      have hx19 : ∃ d f, H9 x1 = some (.ins R.C d f) := by
        obtain ⟨d, f, e, _⟩ := (rel1c.same s49).ins
        exact ⟨d, f, e⟩
      obtain ⟨da, fa, ea⟩ := hx19
      have mC2 : Mate R.C (upd H9 ML (.lst ([.ref x1, .ref x2] ++ [.ref x3]))) x3 z rs := by
        obtain ⟨L3, g1, g2, g3⟩ := mC.ex
        exact ⟨L3, g1.updL m9 ea, g2, g3⟩
      have s10 : Same H4 (upd H9 ML (.lst ([.ref x1, .ref x2] ++ [.ref x3]))) := s49.upd hML
      have m10 : upd H9 ML (.lst ([.ref x1, .ref x2] ++ [.ref x3])) ML = some (.lst [.ref x1, .ref x2, .ref x3]) := upd_same
      generalize upd H9 ML (.lst ([.ref x1, .ref x2] ++ [.ref x3])) = HA at mC2 s10 m10 ⊢
      have mA2 := mA.same s10
      have mB2 := mB.same s10
      have sWA : Same HW HA := s4.trans s10
      have bA : But q H HA := bW.same sWA
      have hqA : PotAt HA q := Same.pot sWA hqW
      have relA := rel.but hq bA
      refine ⟨_, rfl, _, rfl, _, z.length, rfl, ⟨sl, rfl⟩, _, _, rfl, rfl, _, rfl, ?_⟩
      refine ite2 (fun _ => ?_) (fun _ => ?_)
      all_goals
        refine ⟨z, _, rfl, by omega, z1, by decide, by decide, fun N1 ns HB hN1 hB okN lN sB => ?_⟩
        have okN' : ∀ y ∈ ns, Over z y ∧ y.length ≤ 4 := fun y hy => ⟨(okN y hy).ov, Nat.le_trans (okN y hy).le (by decide)⟩
        clear okN
        have mA3 := mA2.same sB
        have mB3 := mB2.same sB
        have mC3 := mC2.same sB
        have relB := relA.same sB
        have mlB := sB _ _ m10
        refine ⟨N1, rfl, ⟨_, SqL.of hB⟩, for_list (xs := ns.map V.str) (fun i σ Hi => ∃ o13 : Option V, σ = [some (.ref q), some (.str z), some (.ref D), some (.ref p), some (.ref Ls), o5, o6, o7, o8, o9, o10, o11, some (.ref ML), o13, none] ∧ Same HB Hi) ?_ ?_ ?_ ?_⟩
        · exact ⟨_, rfl, Same.refl HB⟩
        · rintro i σ Hi _ ⟨_, _, sm⟩
          exact SqL.of (sm _ _ hB)
        · rintro i x σ Hi hx ⟨o13, rfl, sm⟩
          rw [List.getElem?_map] at hx
          cases hy : ns[i]? with
          | none =>
            rw [hy] at hx
            cases hx
          | some y =>
            rw [hy] at hx
            obtain rfl : V.str y = x := Option.some.inj hx
            obtain ⟨oy, ly⟩ := okN' y (List.mem_of_getElem? hy)
            obtain ⟨ot, lt⟩ := turn_note (b := 30) dl.ok oy
            refine ⟨_, rfl, ML, rfl, ⟨_, SqL.of (sm _ _ mlB)⟩, fun C1 hC1 => ?_⟩
            refine lc_it (walk_list (xs := [V.ref x1, V.ref x2, V.ref x3])) (fun j Hj => Same Hi Hj ∧ Hj C1 = some (.lst (List.replicate j (V.str (turn rs y))))) ?_ ?_ ?_ ?_
            · exact ⟨(Same.refl Hi).upd hC1, upd_same⟩
            · rintro j Hj _ ⟨sj, _⟩
              exact SqL.of (sj _ _ (sm _ _ mlB))
            · rintro j x Hj0 Hj hj ⟨sj, hj1⟩ ⟨rfl, hxj⟩
              have mt : ∃ a, x = .ref a ∧ Mate R.C Hj a z rs := by
                have e : x = .ref x1 ∨ x = .ref x2 ∨ x = .ref x3 := by
                  have := List.mem_of_getElem? hxj
                  simpa using this
                rcases e with rfl | rfl | rfl
                · exact ⟨x1, rfl, (mA3.same sm).same sj⟩
                · exact ⟨x2, rfl, (mB3.same sm).same sj⟩
                · exact ⟨x3, rfl, (mC3.same sm).same sj⟩
              obtain ⟨a, rfl, mt⟩ := mt
              obtain ⟨Lm, g1, g2, g3⟩ := mt.ex
              obtain ⟨dxm, fsm, em, _⟩ := g1.ins
              have hj3 : j < 3 := hj
              refine ⟨rfl, _, rfl, a, rfl, _, rfl, ⟨dxm, fsm, em⟩, a, z, Lm, y, rfl, g1, oy, by omega, g2, fun Hk sk => ?_⟩
              rw [g3 y]
              refine ⟨_, sk _ _ hj1, (by rw [List.length_replicate, sz]; omega), (sj.trans sk).upd hC1, ?_⟩
              rw [upd_same, List.replicate_succ']
            · rintro Hj ⟨sj, hj1⟩
              have relj := (relB.same sm).same sj
              obtain ⟨dxp, fsp, epp, _⟩ := relj.ins
              refine ⟨_, rfl, p, rfl, _, rfl, ⟨dxp, fsp, epp⟩, p, z, rs, y, rfl, relj, oy, by omega, (fun r hr' => ⟨Nat.le_trans (dl.ok r hr').o2 (by decide), Nat.le_trans (dl.ok r hr').n2 (by decide)⟩), fun Hk sk => ?_⟩
              refine ⟨(by show 1 ≤ sizeLine; decide), fun V2 hV2 => ?_⟩
              have hV : upd Hk V2 (.lst [.str (turn rs y)]) V2 = some (.lst [.str (turn rs y)]) := upd_same
              have sv : Same Hi (upd Hk V2 (.lst [.str (turn rs y)])) := (sj.trans sk).upd ((sj.trans sk).none hV2)
              have hc1 : upd Hk V2 (.lst [.str (turn rs y)]) C1 = some (.lst [.str (turn rs y), .str (turn rs y), .str (turn rs y)]) := by
                have := sk _ _ hj1
                rw [upd_ne (ne_of_none this hV2)]
                exact this
              generalize upd Hk V2 (.lst [.str (turn rs y)]) = Hm at hV sv hc1 ⊢
              refine ⟨V2, 3, _, rfl, rfl, hV, by decide, by decide, (by show 1 * 3 ≤ sizeLine; decide), fun W3 hW3 => ?_⟩
              have hc2 : upd Hm W3 (.lst (List.replicate (3 : Int).toNat [V.str (turn rs y)]).flatten) C1 = some (.lst [.str (turn rs y), .str (turn rs y), .str (turn rs y)]) := by
                rw [upd_ne (ne_of_none hc1 hW3)]
                exact hc1
              have tsm := three_sm dl.az ot (by omega)
              refine ⟨.list [.str (turn rs y), .str (turn rs y), .str (turn rs y)], .list [.str (turn rs y), .str (turn rs y), .str (turn rs y)], .lst (SqL.of hc2) (.cons (.str _) (.cons (.str _) (.cons (.str _) .nil))),
                .lst (SqL.of upd_same) (.cons (.str _) (.cons (.str _) (.cons (.str _) .nil))), tsm.shaped, tsm.shaped, _, rfl, ?_⟩
              rw [SeqAt.eqv_refl _ tsm.cl]
              refine iteF ?_
              exact ⟨_, rfl, sm.trans (sv.upd (sv.none hW3))⟩
        · rintro σ Hi ⟨o13, rfl, sm⟩
          have st := sB.trans sm
          exact k Hi (Same.pot st hqA) (bA.same st)
end
end K21
namespace K21
open PySem PySem.Spec PyProof.Rows L2 FL
abbrev sEqual : Stmt := topS 58
abbrev eqS (i : Nat) : Stmt := (defBody sEqual).getD i (.Pass ⟨0, 0, 0, 0⟩)
abbrev nEqual : List Str := ["_law_pot_here", "_law_abc_here", "_law_deals_here", "_law_plan", "_law_twin", "_law_some", "_law_others", "_law_mate", "_law_is_due", "_law_odd", "_law_kind", "_law_old", "_law_new", "_law_thing"]
theorem scEqual : FnScope nEqual ["_law_pot_here", "_law_abc_here", "_law_deals_here", "_law_plan"] (defScope sEqual) := ⟨rfl, rfl, rfl, by decide +kernel, rfl, by decide +kernel, by decide +kernel⟩
abbrev gKON (K : PySem.W.Frag) : TG := gTup K 3 (gCons (gName 10) (gCons (gName 11) (gCons (gName 12) gNil)))
def sg5 (q : Addr) (z : Str) (D p tw S : Addr) : L2.St := [some (.ref q), some (.str z), some (.ref D), some (.ref p), some (.ref tw), some (.ref S), none, none, none, none, none, none, none, none]
/-- a statement that puts one list of rules more into the list at S -/
def AddsOne (t : TS) : Prop := ∀ (D' : Ends) (H : Hp) (q D p tw S : Addr) (z : Str) (rs : List Rule) (xs : List V) (As : List Addr), Abc z → H D = some (.lst xs) → RulesAt H xs rs → (∀ r ∈ rs, RuleOk z 30 r) → rs.length ≤ 100 →
  Sm1 H S z As → As.length ≤ 100 → (∀ (H' : Hp) (C : Addr), Sm1 H' S z (As ++ [C]) → (∀ H0 : Hp, Same H0 H → H0 S = none → Same H0 H') → D'.nx (sg5 q z D p tw S) H') → t D' (sg5 q z D p tw S) H
section
variable {P : Program} {w : World} {K : PySem.W.Frag} {mg : Str → Option Value} {base : Heap} {f : Addr} {cdv : Value} {A : Around} {outer : List Env} {s : Shared} {H : Hp} {E : XK}
abbrev XE (P : Program) (w : World) (K : PySem.W.Frag) (mg : Str → Option Value) (base : Heap) (f : Addr) (cdv : Value) (A : Around) (outer : List Env) (s : Shared) (H : Hp) (E : XK) : Cx :=
  (cxOf CX0 P w K mg base nEqual "_law_equal_right" (defScope sEqual) f cdv A outer s H E).nox
theorem eq3 : ∃ t, PS (XE P w K mg base f cdv A outer s H E) (eqS 3) t ∧ AddsOne t := by
  have nd := scEqual.nd
  refine ⟨_, ps_expr (pe_bm PySem.F.plainAttrs_list PySem.F.slot_list_append PySem.F.type_list_append mtAppend (pv 5)
        (pa_cons (pe_lc (own := [("_law_kind", 10), ("_law_old", 11), ("_law_new", 12)]) (g := gKON K) (tt := tYes) rfl nd
          (pi_list (pv 2)) (blkOk_by (N := nEqual) (sc := defScope sEqual) (by decide +kernel))
          (fun _ _ _ _ _ => pg_tup rfl (pgs_cons (pg_name (i := 10) nd rfl (Or.inl rfl)) (pgs_cons (pg_name (i := 11) nd rfl (Or.inl rfl)) (pgs_cons (pg_name (i := 12) nd rfl (Or.inl rfl)) pgs_nil))))
          (fun _ _ _ _ _ => pts_nil)
          (fun _ _ _ _ _ => pe_tup (pa_cons (pe_ifExp (pt_cmpR op_eq (pv 10) pe_str (nomark _)) pe_str pe_str) (pa_cons (pv 11) (pa_cons (pv 12) pa_nil))))) pa_nil)), ?_⟩
  intro D' HS q D p tw S z rs xs As az hDS hrS okr lrs smS lAs k
  have sz : sizeLine = 16777216 := rfl
  have lxs := paired_len hrS
  refine ⟨_, rfl, .inl ⟨rfl, _, SqL.of smS.at_⟩, _, rfl, D, rfl, ⟨xs, SqL.of hDS⟩, fun C1 hC1 => ?_⟩
  have nCS : C1 ≠ S := fun e => by
    rw [e, smS.at_] at hC1
    cases hC1
  refine lc_it (walk_list (xs := xs)) (fun i Hi => Same HS Hi ∧ ∃ ws, Hi C1 = some (.lst ws) ∧ RulesAt Hi ws ((rs.take i).map flipR)) ?_ ?_ ?_ ?_
  · exact ⟨(Same.refl HS).upd hC1, [], upd_same, .nil⟩
  · rintro i Hi _ ⟨sj, _⟩
    exact SqL.of (sj _ _ hDS)
  · rintro i x Hi0 Hi hi ⟨sj, ws, hws, hrw⟩ ⟨rfl, hx⟩
    obtain ⟨r, hr', t, rfl, hT'⟩ := L2.paired_get (Same.rules sj hrS) hx
    have lw := paired_len hrw
    have lwi : ws.length ≤ 100 := by
      rw [lw, List.length_map, List.length_take]
      omega
    have emt := map_take flipR hr'
    refine ⟨t, _, rfl, SqT.of hT', rfl, _, _, rfl, _, _, rfl, _, _, rfl, rfl, rfl, ?_⟩
    obtain ⟨fr, old, new⟩ := r
    cases fr with
    | true =>
      refine ⟨_, rfl, rfl, _, rfl, ?_⟩
      refine ite2 (fun _ => ?_) (fun h => absurd (decide_eq_true rfl) h)
      refine ⟨_, rfl, _, rfl, (by show 3 ≤ sizeLine; decide), fun T hT => ?_⟩
      obtain ⟨g1, g2, g3⟩ := comp_tail (r := flipR ⟨true, old, new⟩) sj hC1 hws hrw hT
      refine ⟨ws, g1, (by rw [sz]; omega), g2, ws ++ [.ref T], upd_same, ?_⟩
      rw [emt]
      exact g3
    | false =>
      refine ⟨_, rfl, rfl, _, rfl, ?_⟩
      refine ite2 (fun h => absurd (of_decide_eq_true h) (strV_ne (Ne.symm kd_ne))) (fun _ => ?_)
      refine ⟨_, rfl, _, rfl, (by show 3 ≤ sizeLine; decide), fun T hT => ?_⟩
      obtain ⟨g1, g2, g3⟩ := comp_tail (r := flipR ⟨false, old, new⟩) sj hC1 hws hrw hT
      refine ⟨ws, g1, (by rw [sz]; omega), g2, ws ++ [.ref T], upd_same, ?_⟩
      rw [emt]
      exact g3
  · rintro Hb ⟨sb, ws, hws, hrw⟩
    rw [paired_len hrS, List.take_length] at hrw
    have lw := paired_len hrw
    rw [List.length_map] at lw
    have rlc : RL Hb z C1 := ⟨ws, rs.map flipR, hws, hrw, fun r hr' => by
      obtain ⟨r0, h0, rfl⟩ := List.mem_map.mp hr'
      exact flip_ok (fun r hr => (okr r hr).mono (by decide)) r0 h0, by rw [List.length_map]; omega⟩
    have smb := smS.same sb
    refine ⟨S, _, _, rfl, rfl, smb.at_, (by rw [List.length_map, sz]; omega), ?_⟩
    exact k _ C1 (smb.add rlc nCS) fun H0 s0 n0 => (s0.trans sb).upd n0
theorem eq4 : ∃ t, PS (XE P w K mg base f cdv A outer s H E) (eqS 4) t ∧ AddsOne t := by
  have nd := scEqual.nd
  refine ⟨_, ps_expr (pe_bm PySem.F.plainAttrs_list PySem.F.slot_list_append PySem.F.type_list_append mtAppend (pv 5)
        (pa_cons (pe_lc (own := [("_law_kind", 10), ("_law_old", 11), ("_law_new", 12)]) (g := gKON K) (tt := tYes) rfl nd
          (pi_list (pv 2)) (blkOk_by (N := nEqual) (sc := defScope sEqual) (by decide +kernel))
          (fun _ _ _ _ _ => pg_tup rfl (pgs_cons (pg_name (i := 10) nd rfl (Or.inl rfl)) (pgs_cons (pg_name (i := 11) nd rfl (Or.inl rfl)) (pgs_cons (pg_name (i := 12) nd rfl (Or.inl rfl)) pgs_nil))))
          (fun _ _ _ _ _ => pts_nil)
          (fun _ _ _ _ _ => pe_tup (pa_cons (pv 10) (pa_cons (pv 11) (pa_cons (pe_op op_add_str (pv 12) (pe_ix ix_str (pv 1) pe_int (fun _ _ => rfl))) pa_nil))))) pa_nil)), ?_⟩
  intro D' HS q D p tw S z rs xs As az hDS hrS okr lrs smS lAs k
  have sz : sizeLine = 16777216 := rfl
  have lxs := paired_len hrS
  have z0 := az.lo
  have sl := Nat.le_trans az.hi (show 4 ≤ sizeLine by decide)
  obtain ⟨c0, c1, cr, ez⟩ := two_signs z0
  have m0 : c0 ∈ z.cps.toList := by rw [ez]; exact List.mem_cons_self
  have m1 : c1 ∈ z.cps.toList := by rw [ez]; exact List.mem_cons_of_mem _ List.mem_cons_self
  refine ⟨_, rfl, .inl ⟨rfl, _, SqL.of smS.at_⟩, _, rfl, D, rfl, ⟨xs, SqL.of hDS⟩, fun C1 hC1 => ?_⟩
  have nCS : C1 ≠ S := fun e => by
    rw [e, smS.at_] at hC1
    cases hC1
  refine lc_it (walk_list (xs := xs)) (fun i Hi => Same HS Hi ∧ ∃ ws, Hi C1 = some (.lst ws) ∧ RulesAt Hi ws ((rs.take i).map (newR c0))) ?_ ?_ ?_ ?_
  · exact ⟨(Same.refl HS).upd hC1, [], upd_same, .nil⟩
  · rintro i Hi _ ⟨sj, _⟩
    exact SqL.of (sj _ _ hDS)
  · rintro i x Hi0 Hi hi ⟨sj, ws, hws, hrw⟩ ⟨rfl, hx⟩
    obtain ⟨r, hr', t, rfl, hT'⟩ := L2.paired_get (Same.rules sj hrS) hx
    have lw := paired_len hrw
    have lwi : ws.length ≤ 100 := by
      rw [lw, List.length_map, List.length_take]
      omega
    have emt := map_take (newR c0) hr'
    refine ⟨t, _, rfl, SqT.of hT', rfl, _, _, rfl, _, _, rfl, _, _, rfl, rfl, rfl, ?_⟩
    have ln : r.new.length ≤ 30 := (okr r (List.mem_of_getElem? hr')).n2
    refine ⟨_, rfl, _, rfl, _, rfl, _, rfl, z, _, c0, rfl, rfl, sl, (by rw [ez]; exact atI_0), _, _, rfl, rfl, (by rw [len_one, sz]; omega), (by show 3 ≤ sizeLine; decide), fun T hT => ?_⟩
    obtain ⟨g1, g2, g3⟩ := comp_tail (r := newR c0 r) sj hC1 hws hrw hT
    refine ⟨ws, g1, (by rw [sz]; omega), g2, ws ++ [.ref T], upd_same, ?_⟩
    rw [emt]
    exact g3
  · rintro Hb ⟨sb, ws, hws, hrw⟩
    rw [paired_len hrS, List.take_length] at hrw
    have lw := paired_len hrw
    rw [List.length_map] at lw
    have rlc : RL Hb z C1 := ⟨ws, rs.map (newR c0), hws, hrw, fun r hr' => by
      obtain ⟨r0, h0, rfl⟩ := List.mem_map.mp hr'
      exact new_ok m0 okr r0 h0, by rw [List.length_map]; omega⟩
    have smb := smS.same sb
    refine ⟨S, _, _, rfl, rfl, smb.at_, (by rw [List.length_map, sz]; omega), ?_⟩
    exact k _ C1 (smb.add rlc nCS) fun H0 s0 n0 => (s0.trans sb).upd n0
theorem eq5 : ∃ t, PS (XE P w K mg base f cdv A outer s H E) (eqS 5) t ∧ AddsOne t := by
  have nd := scEqual.nd
  refine ⟨_, ps_expr (pe_bm PySem.F.plainAttrs_list PySem.F.slot_list_append PySem.F.type_list_append mtAppend (pv 5)
        (pa_cons (pe_lc (own := [("_law_kind", 10), ("_law_old", 11), ("_law_new", 12)]) (g := gKON K) (tt := tYes) rfl nd
          (pi_list (pv 2)) (blkOk_by (N := nEqual) (sc := defScope sEqual) (by decide +kernel))
          (fun _ _ _ _ _ => pg_tup rfl (pgs_cons (pg_name (i := 10) nd rfl (Or.inl rfl)) (pgs_cons (pg_name (i := 11) nd rfl (Or.inl rfl)) (pgs_cons (pg_name (i := 12) nd rfl (Or.inl rfl)) pgs_nil))))
          (fun _ _ _ _ _ => pts_nil)
          (fun _ _ _ _ _ => pe_tup (pa_cons (pv 10) (pa_cons (pe_op op_add_str (pv 11) (pe_ix ix_str (pv 1) pe_int (fun _ _ => rfl))) (pa_cons (pv 12) pa_nil))))) pa_nil)), ?_⟩
  intro D' HS q D p tw S z rs xs As az hDS hrS okr lrs smS lAs k
  have sz : sizeLine = 16777216 := rfl
  have lxs := paired_len hrS
  have z0 := az.lo
  have sl := Nat.le_trans az.hi (show 4 ≤ sizeLine by decide)
  obtain ⟨c0, c1, cr, ez⟩ := two_signs z0
  have m0 : c0 ∈ z.cps.toList := by rw [ez]; exact List.mem_cons_self
  have m1 : c1 ∈ z.cps.toList := by rw [ez]; exact List.mem_cons_of_mem _ List.mem_cons_self
  refine ⟨_, rfl, .inl ⟨rfl, _, SqL.of smS.at_⟩, _, rfl, D, rfl, ⟨xs, SqL.of hDS⟩, fun C1 hC1 => ?_⟩
  have nCS : C1 ≠ S := fun e => by
    rw [e, smS.at_] at hC1
    cases hC1
  refine lc_it (walk_list (xs := xs)) (fun i Hi => Same HS Hi ∧ ∃ ws, Hi C1 = some (.lst ws) ∧ RulesAt Hi ws ((rs.take i).map (oldR c1))) ?_ ?_ ?_ ?_
  · exact ⟨(Same.refl HS).upd hC1, [], upd_same, .nil⟩
  · rintro i Hi _ ⟨sj, _⟩
    exact SqL.of (sj _ _ hDS)
  · rintro i x Hi0 Hi hi ⟨sj, ws, hws, hrw⟩ ⟨rfl, hx⟩
    obtain ⟨r, hr', t, rfl, hT'⟩ := L2.paired_get (Same.rules sj hrS) hx
    have lw := paired_len hrw
    have lwi : ws.length ≤ 100 := by
      rw [lw, List.length_map, List.length_take]
      omega
    have emt := map_take (oldR c1) hr'
    refine ⟨t, _, rfl, SqT.of hT', rfl, _, _, rfl, _, _, rfl, _, _, rfl, rfl, rfl, ?_⟩
    have ln : r.old.length ≤ 30 := (okr r (List.mem_of_getElem? hr')).o2
    refine ⟨_, rfl, _, rfl, _, rfl, z, _, c1, rfl, rfl, sl, (by rw [ez]; exact atI_1), _, _, rfl, rfl, (by rw [len_one, sz]; omega), _, rfl, (by show 3 ≤ sizeLine; decide), fun T hT => ?_⟩
    obtain ⟨g1, g2, g3⟩ := comp_tail (r := oldR c1 r) sj hC1 hws hrw hT
    refine ⟨ws, g1, (by rw [sz]; omega), g2, ws ++ [.ref T], upd_same, ?_⟩
    rw [emt]
    exact g3
  · rintro Hb ⟨sb, ws, hws, hrw⟩
    rw [paired_len hrS, List.take_length] at hrw
    have lw := paired_len hrw
    rw [List.length_map] at lw
    have rlc : RL Hb z C1 := ⟨ws, rs.map (oldR c1), hws, hrw, fun r hr' => by
      obtain ⟨r0, h0, rfl⟩ := List.mem_map.mp hr'
      exact old_ok m1 okr r0 h0, by rw [List.length_map]; omega⟩
    have smb := smS.same sb
    refine ⟨S, _, _, rfl, rfl, smb.at_, (by rw [List.length_map, sz]; omega), ?_⟩
    exact k _ C1 (smb.add rlc nCS) fun H0 s0 n0 => (s0.trans sb).upd n0
theorem eq6 : ∃ t, PS (XE P w K mg base f cdv A outer s H E) (eqS 6) t ∧ AddsOne t := by
  have nd := scEqual.nd
  refine ⟨_, ps_expr (pe_bm PySem.F.plainAttrs_list PySem.F.slot_list_append PySem.F.type_list_append mtAppend (pv 5) (pa_cons (pe_revL (pv 2)) pa_nil)), ?_⟩
  intro D' HS q D p tw S z rs xs As az hDS hrS okr lrs smS lAs k
  have sz : sizeLine = 16777216 := rfl
  refine ⟨_, rfl, .inl ⟨rfl, _, SqL.of smS.at_⟩, _, rfl, D, xs, rfl, SqL.of hDS, fun C1 hC1 => ?_⟩
  have nCS : C1 ≠ S := fun e => by
    rw [e, smS.at_] at hC1
    cases hC1
  have s1 : Same HS (upd HS C1 (.lst xs.reverse)) := (Same.refl HS).upd hC1
  have rl : RL (upd HS C1 (.lst xs.reverse)) z C1 := ⟨_, rs.reverse, upd_same, Same.rules s1 (paired_rev hrS), fun r hr => (okr r (List.mem_reverse.mp hr)).mono (by decide), by rw [List.length_reverse]; omega⟩
  have smb := smS.same s1
  refine ⟨S, _, _, rfl, rfl, smb.at_, (by rw [List.length_map, sz]; omega), ?_⟩
  exact k _ C1 (smb.add rl nCS) fun H0 s0 n0 => (s0.trans s1).upd n0
theorem eq7 (R : RelF P w K mg base) (mR : mg "repr" = none) (hr : Room 6 (XE P w K mg base f cdv A outer s H E).A) (hg : (XE P w K mg base f cdv A outer s H E).A.guards = some []) :
    ∃ t, PS (XE P w K mg base f cdv A outer s H E) (eqS 7) t ∧ ∀ (D' : Ends) (H : Hp) (q D p tw S : Addr) (z : Str) (rs : List Rule) (As : List Addr), Deal K H D z rs → RelayAt R.C H p z rs → Sm1 H S z As → As.length ≤ 100 →
      (∀ (H' : Hp) (o6 o7 o8 : Option V), Same H H' → D'.nx [some (.ref q), some (.str z), some (.ref D), some (.ref p), some (.ref tw), some (.ref S), o6, o7, o8, none, none, none, none, none] H') → t D' (sg5 q z D p tw S) H := by
  have nd := scEqual.nd
  have hr1 := hr.mono (show 1 ≤ 6 by decide)
  have hr3 := hr.mono (show 3 ≤ 6 by decide)
  refine ⟨_, ps_for PassesOwn.never rfl (pi_list (pv 5)) (pg_name (i := 6) nd rfl (.inl rfl))
        (pss_cons (ps_set (i := 7) nd rfl (.inl rfl) (pe_make R.mkc R.oi hr (by rfl) R.T.mgC R.bi .nil pass0 (pa_cons (pv 1) (pa_cons (pv 6) pa_nil))))
        (pss_cons (ps_set (i := 8) nd rfl (.inl rfl) (pe_cmpR (op_eqD hr.units) (pv 6) (pv 2) (nomark _)))
        (pss_one (ps_if (pt_cmpR op_ne
            (pe_callB (call_repr hg hr.units) (by rfl) mR (by decide +kernel) (pa_cons (pe_lst (pa_cons (pe_cmpR (op_eqO R.te R.oe hr1) (pv 3) (pv 7) (nomark _)) (pa_cons (pe_cmpR (op_eqO R.te R.oe hr1) (pv 7) (pv 3) (nomark _))
              (pa_cons (pe_cmpR (op_neO R.te R.oe hr3) (pv 3) (pv 7) (nomark _)) pa_nil)))) pa_nil))
            (pe_callB (call_repr hg hr.units) (by rfl) mR (by decide +kernel) (pa_cons (pe_lst (pa_cons (pv 8) (pa_cons (pv 8) (pa_cons (pe_not (pv 8)) pa_nil)))) pa_nil)) (nomark _))
          (pss_one (ps_ret pe_bl)) pss_nil)))), ?_⟩
  intro D' HS q D p tw S z rs As dl rel smS lAs k
  refine ⟨_, rfl, S, rfl, ⟨_, SqL.of smS.at_⟩, for_list (xs := As.map V.ref) (fun i σ Hi => ∃ o6 o7 o8 : Option V, σ = [some (.ref q), some (.str z), some (.ref D), some (.ref p), some (.ref tw), some (.ref S), o6, o7, o8, none, none, none, none, none] ∧ Same HS Hi) ?_ ?_ ?_ ?_⟩
  · exact ⟨_, _, _, rfl, Same.refl HS⟩
  · rintro i σ Hi _ ⟨_, _, _, _, sm⟩
    exact SqL.of (sm _ _ smS.at_)
  · rintro i x σ Hi hx ⟨o6, o7, o8, rfl, sm⟩
    rw [List.getElem?_map] at hx
    cases ha : As[i]? with
    | none =>
      rw [ha] at hx
      cases hx
    | some a =>
      rw [ha] at hx
      obtain rfl : V.ref a = x := Option.some.inj hx
      obtain ⟨xs', rs', h1, h2, h3, h4⟩ := (smS.all a (List.mem_of_getElem? ha)).2.same sm
      refine ⟨_, rfl, _, rfl, fun mt dm hmt hdm hnm => make_one dl.az ⟨a, xs', false, rfl, h1, h2⟩ h3 h4 hmt hdm hnm fun H1 relM s1 => ?_⟩
      have s01 := sm.trans s1
      have dl1 := dl.same s01
      have rel1 := rel.same s01
      obtain ⟨xd, g1, g2⟩ := dl1.ex
      have rp' := rp_ok dl.az h3
      obtain ⟨dx1, fs1, ep1, _⟩ := rel1.ins
      obtain ⟨dxm, fsm, epm, _⟩ := relM.ins
      refine ⟨_, rfl, _, rfl, _, _, dp_list (SqL.of (s1 _ _ h1)) (Same.rules s1 h2), dp_list (SqL.of g1) g2, rp'.sm.shaped, dl.rp.sm.shaped, ?_⟩
      refine ⟨_, rfl, _, rfl, p, dx1, fs1, rfl, ep1, .inr ⟨mt, dxm, fsm, rfl, epm⟩, p, z, rs, 40, _, rfl, rel1, dl.rp, .inr ⟨mt, rs', rfl, relM, rp', _, rfl, ?_⟩⟩
      refine ⟨_, rfl, _, rfl, mt, dxm, fsm, rfl, epm, .inr ⟨p, dx1, fs1, rfl, ep1⟩, mt, z, rs', 40, _, rfl, relM, rp', .inr ⟨p, rs, rfl, rel1, dl.rp, _, rfl, ?_⟩⟩
      refine ⟨_, rfl, _, rfl, p, dx1, fs1, rfl, ep1, .inr ⟨mt, dxm, fsm, rfl, epm⟩, p, z, rs, 40, _, rfl, rel1, dl.rp, .inr ⟨mt, rs', rfl, relM, rp', _, rfl, ?_⟩⟩
      have eb : PyData.eqv (.list (rs'.map ruleD)) (.list (rs.map ruleD)) = rsEq rs' rs := rfl
      rw [eb, rsEq_comm rs rs']
      refine ⟨(by show 3 ≤ sizeLine; decide), fun L1 hL1 => ?_⟩
      have b1 := bools_sm (rsEq rs' rs) (rsEq rs' rs) (!rsEq rs' rs)
      refine ⟨.ref L1, .list [.bool (rsEq rs' rs), .bool (rsEq rs' rs), .bool (!rsEq rs' rs)], rfl, .inl ⟨.lst (SqL.of upd_same) (.cons (.bl _) (.cons (.bl _) (.cons (.bl _) .nil))), b1.nd⟩, b1.nice (by decide), ?_⟩
      refine ⟨_, rfl, _, rfl, _, rfl, _, rfl, (by show 3 ≤ sizeLine; decide), fun L2 hL2 => ?_⟩
      refine ⟨.ref L2, .list [.bool (rsEq rs' rs), .bool (rsEq rs' rs), .bool (!rsEq rs' rs)], rfl, .inl ⟨.lst (SqL.of upd_same) (.cons (.bl _) (.cons (.bl _) (.cons (.bl _) .nil))), b1.nd⟩, b1.nice (by decide), ?_⟩
      refine ⟨rfl, _, rfl, ?_⟩
      refine iteNS rfl ?_
      exact ⟨_, _, _, rfl, (s01.upd (s01.none hL1)).upd ((s01.upd (s01.none hL1)).none hL2)⟩
  · rintro σ Hi ⟨o6, o7, o8, rfl, sm⟩
    exact k Hi o6 o7 o8 sm
theorem eq8 (R : RelF P w K mg base) (mR : mg "repr" = none) (mT : mg "tuple" = none) (mA : mg "any" = none) (hr : Room 6 (XE P w K mg base f cdv A outer s H E).A) (hg : (XE P w K mg base f cdv A outer s H E).A.guards = some []) :
    ∃ t, PSs (XE P w K mg base f cdv A outer s H E) ((defBody sEqual).drop 8) t ∧ ∀ (D' : Ends) (H : Hp) (q D p tw S : Addr) (z : Str) (rs : List Rule) (o6 o7 o8 : Option V), Deal K H D z rs → RelayAt R.C H p z rs →
      (∀ H' : Hp, Same H H' → D'.rt (.bl true) H') → t D' [some (.ref q), some (.str z), some (.ref D), some (.ref p), some (.ref tw), some (.ref S), o6, o7, o8, none, none, none, none, none] H := by
  have nd := scEqual.nd
  have hr1 := hr.mono (show 1 ≤ 6 by decide)
  have hr2 := hr.mono (show 2 ≤ 6 by decide)
  refine ⟨_, pss_cons (ps_set (i := 9) nd rfl (.inl rfl) (pe_lst (pa_cons pe_non (pa_cons pe_int (pa_cons pe_bl (pa_cons (pv 1) (pa_cons (pv 2) (pa_cons (pe_callTy call_tuple_of (by rfl) mT (by decide +kernel) (pa_cons (pv 2) pa_nil))
        (pa_cons (pe_callB (call_reprI (E := E0) R.oz R.bz hr2 hg R.zs R.zf) (by rfl) mR (by decide +kernel) (pa_cons (pv 3) pa_nil))
        (pa_cons (pe_meth0 (pv 3) R.T.cl R.mr R.or_ hr1 R.br .nil pass0) (pa_cons (pe_tup (pa_cons (pv 1) (pa_cons (pv 2) pa_nil))) (pa_cons (pe_lst (pa_cons (pv 3) pa_nil)) (pa_cons pe_dnewK pa_nil)))))))))))))
      (pss_one (ps_ret (pe_not (pe_callB (cr_any rfl) (by rfl) mA (by decide +kernel)
        (pa_cons (pe_lc (own := [("_law_thing", 13)]) (g := gName 13) (tt := tYes) (te := tOrV (tOp (rEqO R.C (spEqR R.C)) (tVar 3) (tVar 13)) (tOp (rEqR R.C (spEqR R.C)) (tVar 13) (tVar 3))) rfl nd (pi_list (pv 9))
          (blkOk_by (N := nEqual) (sc := defScope sEqual) (by decide +kernel)) (fun _ _ _ _ _ => pg_name (i := 13) nd rfl (Or.inl rfl)) (fun _ _ _ _ _ => pts_nil)
          (fun _ _ _ _ _ => pe_or (pe_cmpR (op_eqO R.te R.oe hr1) (pv 3) (pv 13) (nomark _)) (pe_one (pe_cmpR (op_eqR R.te R.oe hr1) (pv 13) (pv 3) (nomark _))))) pa_nil))))), ?_⟩
  intro D' H q D p tw S z rs o6 o7 o8 dl rel k
  have sz : sizeLine = 16777216 := rfl
  obtain ⟨xs, hxs, hrs⟩ := dl.ex
  obtain ⟨n1, n2, n3⟩ := rules_no
  refine ⟨_, rfl, _, rfl, _, rfl, D, xs, rfl, .inl ⟨SqL.of hxs, fun T hT => ?_⟩⟩
  have s1 : Same H (upd H T (.tup xs)) := (Same.refl H).upd hT
  have t1 : upd H T (.tup xs) T = some (.tup xs) := upd_same
  generalize upd H T (.tup xs) = H1 at s1 t1 ⊢
  obtain ⟨dx1, fs1, ep1, no1⟩ := (rel.same s1).ins
  refine ⟨_, rfl, p, dx1, fs1, rfl, ep1, p, z, rs, rfl, rel.same s1, dl.az, dl.rp, Nat.le_trans dl.le (by decide), _, rfl, ?_⟩
  refine ⟨_, rfl, p, dx1, fs1, rfl, ep1, no1 n1 n2 n3, p, z, rs, rfl, rel.same s1, fun D4 xs4 H4 hD4 hx4 hr4 s4 => ?_⟩
  refine ⟨_, rfl, _, rfl, (by show 2 ≤ sizeLine; decide), fun TT hTT => ?_⟩
  have s5 : Same H4 (upd H4 TT (.tup [.str z, .ref D])) := (Same.refl H4).upd hTT
  have t5 : upd H4 TT (.tup [.str z, .ref D]) TT = some (.tup [.str z, .ref D]) := upd_same
  generalize upd H4 TT (.tup [.str z, .ref D]) = H5 at s5 t5 ⊢
  refine ⟨_, rfl, (by show 1 ≤ sizeLine; decide), fun LL hLL => ?_⟩
  have s6 : Same H5 (upd H5 LL (.lst [.ref p])) := (Same.refl H5).upd hLL
  have l6 : upd H5 LL (.lst [.ref p]) LL = some (.lst [.ref p]) := upd_same
  generalize upd H5 LL (.lst [.ref p]) = H6 at s6 l6 ⊢
  refine fun DD hDD => ?_
  have s7 : Same H6 (upd H6 DD (.dK [])) := (Same.refl H6).upd hDD
  have d7 : upd H6 DD (.dK []) DD = some (.dK []) := upd_same
  generalize upd H6 DD (.dK []) = H7 at s7 d7 ⊢
  refine ⟨(by show 11 ≤ sizeLine; decide), fun O hO => ?_⟩
  have s8 : Same H7 (upd H7 O (.lst [.non, .int 0, .bl true, .str z, .ref D, .ref T, .str (reprR z rs), .ref D4, .ref TT, .ref LL, .ref DD])) := (Same.refl H7).upd hO
  have o8' : upd H7 O (.lst [.non, .int 0, .bl true, .str z, .ref D, .ref T, .str (reprR z rs), .ref D4, .ref TT, .ref LL, .ref DD]) O = some (.lst [.non, .int 0, .bl true, .str z, .ref D, .ref T, .str (reprR z rs), .ref D4, .ref TT, .ref LL, .ref DD]) := upd_same
  generalize upd H7 O (.lst [.non, .int 0, .bl true, .str z, .ref D, .ref T, .str (reprR z rs), .ref D4, .ref TT, .ref LL, .ref DD]) = H8 at s8 o8' ⊢
  have s68 := s7.trans s8
  have s58 := s6.trans s68
  have s48 := s5.trans s58
  have s18 := s4.trans s48
  have sAll := s1.trans s18
  have any : ∀ v ∈ [V.non, .int 0, .bl true, .str z, .ref D, .ref T, .str (reprR z rs), .ref D4, .ref TT, .ref LL, .ref DD], ∃ n, Any H8 v n := by
    intro v hv
    simp only [List.mem_cons, List.mem_nil_iff, or_false] at hv
    rcases hv with rfl | rfl | rfl | rfl | rfl | rfl | rfl | rfl | rfl | rfl | rfl
    · exact ⟨_, .non⟩
    · exact ⟨_, .int 0⟩
    · exact ⟨_, .bl true⟩
    · exact ⟨_, .str z⟩
    · exact ⟨_, .lst (sAll _ _ hxs)⟩
    · exact ⟨_, .tup (s18 _ _ t1)⟩
    · exact ⟨_, .str _⟩
    · exact ⟨_, .lst (s48 _ _ hx4)⟩
    · exact ⟨_, .tup (s58 _ _ t5)⟩
    · exact ⟨_, .lst (s68 _ _ l6)⟩
    · exact ⟨_, .dct (s8 _ _ d7)⟩
  have lod : ([V.non, .int 0, .bl true, .str z, .ref D, .ref T, .str (reprR z rs), .ref D4, .ref TT, .ref LL, .ref DD] : List V).length = 11 := rfl
  generalize [V.non, .int 0, .bl true, .str z, .ref D, .ref T, .str (reprR z rs), .ref D4, .ref TT, .ref LL, .ref DD] = odd at o8' any lod ⊢
  refine ⟨_, rfl, O, rfl, ⟨odd, SqL.of o8'⟩, fun C1 hC1 => ?_⟩
  refine lc_it (walk_list (xs := odd)) (fun i Hi => Same H8 Hi ∧ Hi C1 = some (.lst ((List.replicate i false).map V.bl))) ?_ ?_ ?_ ?_
  · exact ⟨(Same.refl H8).upd hC1, upd_same⟩
  · rintro i Hi _ ⟨sj, _⟩
    exact SqL.of (sj _ _ o8')
  · rintro i x Hi0 Hi hi ⟨sj, hj⟩ ⟨rfl, hx⟩
    obtain ⟨n, an0⟩ := any x (List.mem_of_getElem? hx)
    have an : Any Hi x n := an0.same fun a o _ e => sj _ _ e
    have relj := rel.same (sAll.trans sj)
    obtain ⟨dxj, fsj, epj, _⟩ := relj.ins
    have hi' : i < 11 := by rw [← lod]; exact hi
    refine ⟨rfl, _, rfl, _, rfl, p, dxj, fsj, rfl, epj, .inl ⟨n, an⟩, p, z, rs, 40, _, rfl, relj, dl.rp, .inl ⟨n, an, _, rfl, ?_⟩⟩
    refine ⟨_, rfl, ?_⟩
    refine ⟨_, rfl, _, rfl, p, dxj, fsj, n, rfl, epj, an, p, z, rs, 40, _, rfl, relj, dl.rp, .inl ⟨n, an, _, rfl, ?_⟩⟩
    refine ⟨_, hj, (by rw [List.length_map, List.length_replicate, sz]; omega), sj.upd hC1, ?_⟩
    rw [upd_same, List.replicate_succ', List.map_append]
    rfl
  · rintro Hi ⟨sj, hj⟩
    refine ⟨C1, List.replicate odd.length false, rfl, SqL.of hj, _, rfl, ?_⟩
    rw [lod]
    exact k _ (sAll.trans sj)
end
end K21
namespace K21
open PySem PySem.Spec PyProof.Rows L2 FL
section
variable {P : Program} {w : World} {K : PySem.W.Frag} {mg : Str → Option Value} {base : Heap}
theorem ok_equal {f : Addr} {fd : FuncData} (F : Fun K "_law_equal_right" "_law_equal_right" sEqual f fd) (R : RelF P w K mg base) (mR : mg "repr" = none) (mT : mg "tuple" = none) (mA : mg "any" = none) :
    FnG P w K mg base CX0 7 f fd ["_law_pot_here", "_law_abc_here", "_law_deals_here", "_law_plan"] (spEqual K R.C) := by
  refine okG F scEqual (fun vs H Q E h => ?_) (fun cdv A outer s H vs Q E hr hg h => ?_)
  · obtain ⟨_, _, _, _, _, rfl, _⟩ := h
    rfl
  · obtain ⟨q, z, D, p, rs, rfl, dl, rel, k⟩ := h
    have nd := scEqual.nd
    have hr1 := hr.mono (show 1 ≤ 6 by decide)
    have hr2 := hr.mono (show 2 ≤ 6 by decide)
    have hr3 := hr.mono (show 3 ≤ 6 by decide)
    obtain ⟨t3, p3, q3⟩ := eq3 (P := P) (w := w) (K := K) (mg := mg) (base := base) (f := f) (cdv := cdv) (A := A) (outer := outer) (s := s) (H := H) (E := E)
    obtain ⟨t4, p4, q4⟩ := eq4 (P := P) (w := w) (K := K) (mg := mg) (base := base) (f := f) (cdv := cdv) (A := A) (outer := outer) (s := s) (H := H) (E := E)
    obtain ⟨t5, p5, q5⟩ := eq5 (P := P) (w := w) (K := K) (mg := mg) (base := base) (f := f) (cdv := cdv) (A := A) (outer := outer) (s := s) (H := H) (E := E)
    obtain ⟨t6, p6, q6⟩ := eq6 (P := P) (w := w) (K := K) (mg := mg) (base := base) (f := f) (cdv := cdv) (A := A) (outer := outer) (s := s) (H := H) (E := E)
    obtain ⟨t7, p7, q7⟩ := eq7 (f := f) (cdv := cdv) (A := A) (outer := outer) (s := s) (H := H) (E := E) R mR hr hg
    obtain ⟨t8, p8, q8⟩ := eq8 (f := f) (cdv := cdv) (A := A) (outer := outer) (s := s) (H := H) (E := E) R mR mT mA hr hg
    refine ⟨_, pss_cons (ps_set (i := 4) nd rfl (.inl rfl) (pe_make R.mkc R.oi hr (by rfl) R.T.mgC R.bi .nil pass0 (pa_cons (pv 1) (pa_cons
        (pe_callTy call_tuple_of (by rfl) mT (by decide +kernel) (pa_cons (pv 2) pa_nil)) pa_nil))))
      (pss_cons (ps_if (PW.pt (pw_or (pt_not (pt_cmpR (op_eqO R.te R.oe hr1) (pv 3) (pv 4) (nomark _))) (pw_or (pt_cmpR (op_neO R.te R.oe hr3) (pv 3) (pv 4) (nomark _))
          (pw_or1 (pt_not (pt_cmpR (op_eqO R.te R.oe hr1) (pv 4) (pv 3) (nomark _))))))) (pss_one (ps_ret pe_bl)) pss_nil)
      (pss_cons (ps_set (i := 5) nd rfl (.inl rfl) (pe_lst (pa_cons (pe_op op_cat (pv 2) (pe_lst (pa_cons (pe_tup (pa_cons pe_str (pa_cons pe_str (pa_cons pe_str pa_nil)))) pa_nil)))
          (pa_cons (pe_ifExp (pt_cmpR (op_neD hr.units) (pv 2) (pe_lst pa_nil) (nomark _)) (pe_op op_cat (pv 2) (pe_slice sl_list (pv 2) (po_some (pe_un un_neg pe_int)) po_none))
              (pe_lst (pa_cons (pe_tup (pa_cons pe_str (pa_cons pe_str (pa_cons pe_str pa_nil)))) pa_nil)))
          (pa_cons (pe_slice sl_list (pv 2) (po_some pe_int) po_none) pa_nil)))))
      (pss_cons p3 (pss_cons p4 (pss_cons p5 (pss_cons p6 (pss_cons p7 p8))))))), ?_⟩
    have sz : sizeLine = 16777216 := rfl
    have z0 := dl.az.lo
    have z1 := dl.az.hi
    have sl := Nat.le_trans z1 (show 4 ≤ sizeLine by decide)
    obtain ⟨xs, hxs, hrs⟩ := dl.ex
    have lrs := dl.le
    have lxs := paired_len hrs
    have okR : ∀ r ∈ rs, RuleOk z 40 r := fun r hr' => (dl.ok r hr').mono (by decide)
    obtain ⟨c0, c1, cr, ez⟩ := two_signs z0
    have m0 : c0 ∈ z.cps.toList := by rw [ez]; exact List.mem_cons_self
    have m1 : c1 ∈ z.cps.toList := by rw [ez]; exact List.mem_cons_of_mem _ List.mem_cons_self
    refine ⟨_, rfl, _, rfl, D, xs, rfl, .inl ⟨SqL.of hxs, fun T hT => ?_⟩⟩
    have s1 : Same H (upd H T (.tup xs)) := (Same.refl H).upd hT
    have t1 : upd H T (.tup xs) T = some (.tup xs) := upd_same
    generalize upd H T (.tup xs) = H1 at s1 t1 ⊢
    intro tw dxt htw hdt hnt
    refine make_one dl.az ⟨T, xs, true, rfl, t1, Same.rules s1 hrs⟩ okR (by omega) htw hdt hnt fun H2 relT s2 => ?_
    have s12 := s1.trans s2
    have rel2 := rel.same s12
    obtain ⟨dx2, fs2, ep2, _⟩ := rel2.ins
    obtain ⟨dxw, fsw, epw, _⟩ := relT.ins
    refine ⟨_, rfl, _, rfl, p, dx2, fs2, rfl, ep2, .inr ⟨tw, dxw, fsw, rfl, epw⟩, p, z, rs, 40, _, rfl, rel2, dl.rp, .inr ⟨tw, rs, rfl, relT, dl.rp, _, rfl, _, rfl, ?_⟩⟩
    rw [rsEq_self]
    refine iteF ?_
    refine ⟨_, rfl, _, rfl, p, dx2, fs2, rfl, ep2, .inr ⟨tw, dxw, fsw, rfl, epw⟩, p, z, rs, 40, _, rfl, rel2, dl.rp, .inr ⟨tw, rs, rfl, relT, dl.rp, _, rfl, _, rfl, ?_⟩⟩
    rw [rsEq_self]
    refine iteF ?_
    refine ⟨_, rfl, _, rfl, tw, dxw, fsw, rfl, epw, .inr ⟨p, dx2, fs2, rfl, ep2⟩, tw, z, rs, 40, _, rfl, relT, dl.rp, .inr ⟨p, rs, rfl, rel2, dl.rp, _, rfl, _, rfl, ?_⟩⟩
    rw [rsEq_self]
    refine iteF ?_
    have hD2 := s12 _ _ hxs
    have hr2' := Same.rules s12 hrs
    refine ⟨_, rfl, (by show 3 ≤ sizeLine; decide), fun T1 hT1 => ?_⟩
    have s3 : Same H2 (upd H2 T1 (.tup [.str (Str.ofString "front"), .str (Str.ofString ""), .str (Str.ofString "")])) := (Same.refl H2).upd hT1
    have t3 : upd H2 T1 (.tup [.str (Str.ofString "front"), .str (Str.ofString ""), .str (Str.ofString "")]) T1 = some (.tup [.str (kd true), .str (Str.ofString ""), .str (Str.ofString "")]) := upd_same
    generalize upd H2 T1 (.tup [.str (Str.ofString "front"), .str (Str.ofString ""), .str (Str.ofString "")]) = H3 at s3 t3 ⊢
    refine ⟨(by show 1 ≤ sizeLine; decide), fun V1 hV1 => ?_⟩
    have s4 : Same H3 (upd H3 V1 (.lst [.ref T1])) := (Same.refl H3).upd hV1
    have v4 : upd H3 V1 (.lst [.ref T1]) V1 = some (.lst [.ref T1]) := upd_same
    generalize upd H3 V1 (.lst [.ref T1]) = H4 at s4 v4 ⊢
    have s24 := s3.trans s4
    refine ⟨D, V1, _, _, rfl, rfl, s24 _ _ hD2, v4, (by rw [sz]; show xs.length + 1 ≤ _; omega), fun L1 hL1 => ?_⟩
    have s5 : Same H4 (upd H4 L1 (.lst (xs ++ [.ref T1]))) := (Same.refl H4).upd hL1
    have l5 : upd H4 L1 (.lst (xs ++ [.ref T1])) L1 = some (.lst (xs ++ [.ref T1])) := upd_same
    generalize upd H4 L1 (.lst (xs ++ [.ref T1])) = H5 at s5 l5 ⊢
    have s25 := s24.trans s5
    have rl1 : RL H5 z L1 := ⟨_, rs ++ [⟨true, Str.ofString "", Str.ofString ""⟩], l5, paired_snoc (Same.rules s25 hr2') (void_rule (s5 _ _ (s4 _ _ t3))), fun r hr' => (List.mem_append.mp hr').elim (okR r) fun h => by rw [List.mem_singleton.mp h]; exact void_ok2,
      by rw [List.length_append]; show rs.length + 1 ≤ 400; omega⟩
    have hD5 := s25 _ _ hD2
    have hr5 := Same.rules s25 hr2'
    refine ⟨_, rfl, by decide, fun E1 hE1 => ?_⟩
    have s6 : Same H5 (upd H5 E1 (.lst [])) := (Same.refl H5).upd hE1
    have e6 : upd H5 E1 (.lst []) E1 = some (.lst []) := upd_same
    generalize upd H5 E1 (.lst []) = H6 at s6 e6 ⊢
    have hD6 := s6 _ _ hD5
    have hr6 := Same.rules s6 hr5
    refine ⟨_, _, dp_list (SqL.of hD6) hr6, .lst (SqL.of e6) .nil, dl.sm.shaped, rfl, _, rfl, ?_⟩
    have s26 := s25.trans s6
    have rl1' := rl1.same s6
    refine ite2 (fun _ => ?A) (fun _ => ?B)
    case' A =>
      refine ⟨_, rfl, _, rfl, 1, rfl, _, rfl, D, xs, rfl, SqL.of hD6, fun C7 hC7 => ?_⟩
      obtain ⟨ts, ht, mt, lt⟩ := cut_rules hr6 (some (-1)) none
      have s7 : Same H6 (upd H6 C7 (.lst (cutV xs (some (-1)) none))) := (Same.refl H6).upd hC7
      have c7 : upd H6 C7 (.lst (cutV xs (some (-1)) none)) C7 = some (.lst (cutV xs (some (-1)) none)) := upd_same
      generalize upd H6 C7 (.lst (cutV xs (some (-1)) none)) = H7 at s7 c7 ⊢
      have lcv := cutV_length xs (some (-1)) none
      refine ⟨D, C7, _, _, rfl, rfl, s7 _ _ hD6, c7, (by rw [sz]; omega), fun L2 hL2 => ?_⟩
      have rl2 : RL (upd H7 L2 (.lst (xs ++ cutV xs (some (-1)) none))) z L2 := ⟨_, rs ++ ts, upd_same, Same.rules ((Same.refl H7).upd hL2) (paired_app (Same.rules s7 hr6) (Same.rules s7 ht)), fun r hr' => (List.mem_append.mp hr').elim (okR r) fun h => okR r (mt r h),
        by rw [List.length_append]; omega⟩
      have s8 : Same H6 (upd H7 L2 (.lst (xs ++ cutV xs (some (-1)) none))) := s7.trans ((Same.refl H7).upd hL2)
      generalize upd H7 L2 (.lst (xs ++ cutV xs (some (-1)) none)) = H8 at s8 rl2 ⊢
      clear s7 c7 ht mt lt lcv hL2 hC7
    case' B =>
      refine ⟨(by show 3 ≤ sizeLine; decide), fun T7 hT7 => ?_⟩
      have s7 : Same H6 (upd H6 T7 (.tup [.str (Str.ofString "whole"), .str (Str.ofString ""), .str (Str.ofString "")])) := (Same.refl H6).upd hT7
      have t7 : upd H6 T7 (.tup [.str (Str.ofString "whole"), .str (Str.ofString ""), .str (Str.ofString "")]) T7 = some (.tup [.str (kd false), .str (Str.ofString ""), .str (Str.ofString "")]) := upd_same
      generalize upd H6 T7 (.tup [.str (Str.ofString "whole"), .str (Str.ofString ""), .str (Str.ofString "")]) = H7 at s7 t7 ⊢
      refine ⟨(by show 1 ≤ sizeLine; decide), fun L2 hL2 => ?_⟩
      have s72 : Same H7 (upd H7 L2 (.lst [.ref T7])) := (Same.refl H7).upd hL2
      have rl2 : RL (upd H7 L2 (.lst [.ref T7])) z L2 := ⟨_, [⟨false, Str.ofString "", Str.ofString ""⟩], upd_same, .cons (void_rule (s72 _ _ t7)) .nil, fun r hr' => by rw [List.mem_singleton.mp hr']; exact void_ok2, by show 1 ≤ 400; decide⟩
      have s8 : Same H6 (upd H7 L2 (.lst [.ref T7])) := s7.trans s72
      generalize upd H7 L2 (.lst [.ref T7]) = H8 at s8 rl2 ⊢
      clear s7 t7 hL2 hT7
    all_goals
      have hD8 := s8 _ _ hD6
      have hr8 := Same.rules s8 hr6
      refine ⟨_, rfl, 1, rfl, D, xs, rfl, SqL.of hD8, fun L3 hL3 => ?_⟩
      obtain ⟨ts, ht, mt, lt⟩ := cut_rules hr8 (some 1) none
      have rl3 : RL (upd H8 L3 (.lst (cutV xs (some 1) none))) z L3 := ⟨_, ts, upd_same, Same.rules ((Same.refl H8).upd hL3) ht, fun r hr' => okR r (mt r hr'), by omega⟩
      have s9 : Same H6 (upd H8 L3 (.lst (cutV xs (some 1) none))) := s8.trans ((Same.refl H8).upd hL3)
      have rl2' := rl2.same ((Same.refl H8).upd (o := .lst (cutV xs (some 1) none)) hL3)
      generalize upd H8 L3 (.lst (cutV xs (some 1) none)) = H9 at rl3 s9 rl2' ⊢
      have rl1b := rl1'.same s9
      refine ⟨(by show 3 ≤ sizeLine; decide), fun S hS => ?_⟩
      have sS : Same H9 (upd H9 S (.lst [.ref L1, .ref L2, .ref L3])) := (Same.refl H9).upd hS
      have nn : ∀ {a : Addr}, RL H9 z a → a ≠ S := fun h => by
        obtain ⟨_, _, e, _⟩ := h
        exact ne_of_none e hS
      have smS : Sm1 (upd H9 S (.lst [.ref L1, .ref L2, .ref L3])) S z [L1, L2, L3] := ⟨upd_same, fun a ha => by
        simp only [List.mem_cons, List.mem_nil_iff, or_false] at ha
        rcases ha with rfl | rfl | rfl
        · exact ⟨nn rl1b, rl1b.same sS⟩
        · exact ⟨nn rl2', rl2'.same sS⟩
        · exact ⟨nn rl3, rl3.same sS⟩⟩
      have s29 := s26.trans s9
      have sH9 := s12.trans s29
      have hS0 : H S = none := sH9.none hS
      have sHS : Same H (upd H9 S (.lst [.ref L1, .ref L2, .ref L3])) := sH9.trans sS
      generalize upd H9 S (.lst [.ref L1, .ref L2, .ref L3]) = HS at smS sHS ⊢
      have as1 := fun (H' : Hp) (h : Same H H') => (show H' D = some (.lst xs) ∧ RulesAt H' xs rs from ⟨h _ _ hxs, Same.rules h hrs⟩)
      refine q3 _ _ q D p tw S z rs xs _ dl.az (as1 _ sHS).1 (as1 _ sHS).2 dl.ok dl.le smS (by show 3 ≤ 100; decide) fun HA CA smA gA => ?_
      have sA := gA _ sHS hS0
      refine q4 _ _ q D p tw S z rs xs _ dl.az (as1 _ sA).1 (as1 _ sA).2 dl.ok dl.le smA (by show 4 ≤ 100; decide) fun HB CB smB gB => ?_
      have sB := gB _ sA hS0
      refine q5 _ _ q D p tw S z rs xs _ dl.az (as1 _ sB).1 (as1 _ sB).2 dl.ok dl.le smB (by show 5 ≤ 100; decide) fun HC CC smC gC => ?_
      have sC := gC _ sB hS0
      refine q6 _ _ q D p tw S z rs xs _ dl.az (as1 _ sC).1 (as1 _ sC).2 dl.ok dl.le smC (by show 6 ≤ 100; decide) fun HD CD smD gD => ?_
      have sD := gD _ sC hS0
      refine q7 _ _ q D p tw S z rs _ (dl.same sD) (rel.same sD) smD (by show 7 ≤ 100; decide) fun HE o6 o7 o8 sE => ?_
      have sDE := sD.trans sE
      exact q8 _ _ q D p tw S z rs o6 o7 o8 (dl.same sDE) (rel.same sDE) fun HF sF => k HF (sDE.trans sF)
end
end K21
namespace K21
open PySem PySem.Spec PyProof.Rows L2 FL
abbrev sRight : Stmt := topS 60
abbrev sLaw : Stmt := topS 61
section
variable {P : Program} {w : World} {K : PySem.W.Frag} {mg : Str → Option Value} {base : Heap}
abbrev nRight : List Str := ["_law_pot_here", "_law_abc_here", "_law_turn_here", "_law_deals_here", "_law_passed", "_law_plan", "_law_bare", "_law_note_here"]
theorem scRight : FnScope nRight ["_law_pot_here"] (defScope sRight) := ⟨rfl, rfl, rfl, by decide +kernel, rfl, by decide +kernel, by decide +kernel⟩
theorem scLaw : FnScope ["_law_script", "_law_k"] ["_law_script"] (defScope sLaw) := ⟨rfl, rfl, rfl, by decide +kernel, rfl, by decide +kernel, by decide +kernel⟩
theorem ok_law {f : Addr} {fd : FuncData} (F : Fun K "law" "law" sLaw f fd) (mA : mg "all" = none) (mG : mg "range" = none) (mX : mg "max" = none) (mI : mg "min" = none) (mN : mg "len" = none)
    (cP : Ca P w K mg base "_law_pot" 1 ["_law_script", "_law_k"] (spPot K)) (cR : CaG P w K mg base "_law_right" 8 ["_law_pot_here"] spRight) :
    FnG P w K mg base CX0 9 f fd ["_law_script"] (FL.spLaw K) := by
  refine okG F scLaw (fun vs H Q E h => ?_) (fun cdv A outer s H vs Q E hr hg h => ?_)
  · obtain ⟨_, _, rfl, _⟩ := h
    rfl
  · obtain ⟨a, ns, rfl, hs, ln, k⟩ := h
    have nd := scLaw.nd
    have hr1 := hr.mono (show 1 ≤ 8 by decide)
    refine ⟨_, pss_one (ps_ret (pe_callB (cr_all rfl) (by rfl) mA (by decide +kernel) (pa_cons (pe_lc (own := [("_law_k", 1)]) (g := gName 1) (tt := tYes)
      (te := tCall spRight [] E0 (tCons (tCall (spPot K) [] E0 (tCons (tVar 0) (tCons (tVar 1) tNil))) tNil)) rfl nd
      (pi_range1 (by rfl) mG (pa_cons (pe_callB (call_max2 rfl) (by rfl) mX (by decide +kernel) (pa_cons pe_int (pa_cons (pe_callB (call_min2 rfl) (by rfl) mI (by decide +kernel)
        (pa_cons (pe_callB callLen (by rfl) mN PySem.boot_len (pa_cons (pv 0) pa_nil)) (pa_cons pe_int pa_nil))) pa_nil))) pa_nil))
      (blkOk_by (N := ["_law_script", "_law_k"]) (sc := defScope sLaw) (by decide +kernel)) (fun _ _ _ _ _ => pg_name (i := 1) nd rfl (Or.inl rfl)) (fun _ _ _ _ _ => pts_nil)
      (fun _ _ _ _ _ => pe_cg cR hr hg (by rfl) (pa_cons (pe_ca cP hr1 (by rfl) (pa_cons (pv 0) (pa_cons (pv 1) pa_nil))) pa_nil))) pa_nil))), ?_⟩
    have sz : sizeLine = 16777216 := rfl
    refine ⟨_, rfl, _, ns.length, rfl, .inl ⟨_, hs, (List.length_map _).symm⟩, _, _, rfl, _, _, rfl, ?_⟩
    refine ⟨_, rfl, (by split <;> split <;> omega), (by split <;> split <;> omega), fun D hD => ?_⟩
    refine lc_range (lo := 0) (n := _) (fun i Hi => Same H Hi ∧ Hi D = some (.lst ((List.replicate i true).map V.bl))) ?_ ?_ ?_
    · exact ⟨(Same.refl H).upd hD, upd_same⟩
    · rintro i Hi hi ⟨si, hDi⟩
      have hi4 : i < 4 := by
        revert hi
        split <;> split <;> omega
      refine ⟨rfl, _, rfl, _, rfl, a, ns, _, rfl, si.sqL hs, by omega, by omega, ln, fun q H2 hq hp2 s2 => ?_⟩
      refine ⟨q, rfl, hp2, fun H3 hp3 b3 => ?_⟩
      have nDq : D ≠ q := ne_of_none hDi hq
      have hD3 := b3 D _ (s2 _ _ hDi) nDq
      have s3 : Same Hi H3 := fun c o e => b3 c o (s2 c o e) (ne_of_none e hq)
      refine ⟨_, hD3, (by rw [List.length_map, List.length_replicate, sz]; omega), (si.trans s3).upd hD, ?_⟩
      rw [upd_same, List.replicate_succ', List.map_append]
      rfl
    · rintro Hi ⟨si, hDi⟩
      refine ⟨D, _, rfl, SqL.of hDi, ?_⟩
      rw [all_true]
      exact k Hi
end
end K21
namespace K21
open PySem PySem.Spec PyProof.Rows L2 FL
section
variable {P : Program} {w : World} {K : PySem.W.Frag} {mg : Str → Option Value} {base : Heap} {f : Addr} {cdv : Value} {A : Around} {outer : List Env} {s : Shared} {H : Hp} {E : XK}
abbrev XR (P : Program) (w : World) (K : PySem.W.Frag) (mg : Str → Option Value) (base : Heap) (f : Addr) (cdv : Value) (A : Around) (outer : List Env) (s : Shared) (H : Hp) (E : XK) : Cx :=
  (cxOf CX0 P w K mg base nRight "_law_right" (defScope sRight) f cdv A outer s H E).nox
abbrev rgS (i : Nat) : Stmt := (defBody sRight).getD i (.Pass ⟨0, 0, 0, 0⟩)
/-- what stands behind the loop -/
theorem rg2 (R : RelF P w K mg base) (mR : mg "repr" = none) (cO : Ca P w K mg base "_law_note" 3 ["_law_pot_here", "_law_abc_here", "_law_most"] spNote)
    (hr : Room 7 (XR P w K mg base f cdv A outer s H E).A) (hg : (XR P w K mg base f cdv A outer s H E).A.guards = some []) :
    ∃ t, PSs (XR P w K mg base f cdv A outer s H E) ((defBody sRight).drop 2) t ∧ ∀ (D' : Ends) (H0 H : Hp) (q : Addr) (z : Str) (o2 o3 o4 o5 : Option V), Abc z → PotAt H0 q → PotAt H q → But q H0 H →
      (∀ H' : Hp, PotAt H' q → But q H0 H' → D'.rt (.bl true) H') → t D' [some (.ref q), some (.str z), o2, o3, o4, o5, none, none] H := by
  have nd := scRight.nd
  have hr1 := hr.mono (show 1 ≤ 7 by decide)
  have hr2 := hr.mono (show 2 ≤ 7 by decide)
  have hr3 := hr.mono (show 3 ≤ 7 by decide)
  have hr6 := hr.mono (show 6 ≤ 7 by decide)
  refine ⟨_, pss_cons (ps_par (i := 6) (j := 7) (by rfl) nd rfl rfl (by decide) rfl rfl
        (pa_cons (pe_make R.mkc R.oi hr6 (by rfl) R.T.mgC R.bi .nil pass0 (pa_cons (pv 1) (pa_cons (pe_lst pa_nil) pa_nil)))
          (pa_cons (pe_ca cO hr3 (by rfl) (pa_cons (pv 0) (pa_cons (pv 1) (pa_cons pe_int pa_nil)))) pa_nil)) (by rfl))
      (pss_cons (ps_if (PW.pt (pw_or (pt_cmpR op_ne (pe_callP (pv 6) R.cc R.oc R.bc hr3 (pa_cons (pv 7) pa_nil)) (pv 7) (nomark _))
          (pw_or1 (pt_cmpR (op_neD hr.units) (pe_meth0 (pv 6) R.T.cl R.mr R.or_ hr1 R.br .nil pass0) (pe_lst pa_nil) (nomark _))))) (pss_one (ps_ret pe_bl)) pss_nil)
      (pss_one (ps_ret (pe_cmpR op_eq (pe_callB (call_reprI (E := E0) R.oz R.bz hr2 hg R.zs R.zf) (by rfl) mR (by decide +kernel) (pa_cons (pv 6) pa_nil))
        (pe_op op_add_str (pe_op op_add_str pe_str (pe_callB (call_repr hg hr.units) (by rfl) mR (by decide +kernel) (pa_cons (pv 1) pa_nil))) pe_str) (nomark _))))), ?_⟩
  intro D' H0 H q z o2 o3 o4 o5 az hq0 hq hb k
  have sz : sizeLine = 16777216 := rfl
  have z0 := az.lo
  have z1 := az.hi
  obtain ⟨n1, n2, n3⟩ := rules_no
  refine ⟨_, rfl, by decide, fun L hL => ?_⟩
  have s1 : Same H (upd H L (.lst [])) := (Same.refl H).upd hL
  have l1 : upd H L (.lst []) L = some (.lst []) := upd_same
  generalize upd H L (.lst []) = H1 at s1 l1 ⊢
  intro x dx hx hdx hne
  refine make_one az ⟨L, [], false, rfl, l1, .nil⟩ (fun _ h => nomatch h) (Nat.zero_le _) hx hdx hne fun H2 rel2 s2 => ?_
  have s12 := s1.trans s2
  have hq2 := Same.pot s12 hq
  refine ⟨_, rfl, _, rfl, q, z, 9, rfl, hq2, by omega, by omega, by decide, by decide, fun y H3 oy ly hq3 b3 => ?_⟩
  have rel3 := rel2.but hq2 b3
  have b03 := (hb.same s12).trans b3
  refine ⟨_, _, rfl, ?_⟩
  obtain ⟨dx3, fs3, ep3, _⟩ := rel3.ins
  refine ⟨_, rfl, x, rfl, _, rfl, ⟨dx3, fs3, ep3⟩, x, z, [], y, rfl, rel3, oy, by omega, (fun _ h => nomatch h), fun H4 s4 => ?_⟩
  refine ⟨_, rfl, rfl, _, rfl, ?_⟩
  refine iteNS rfl ?_
  have rel4 := rel3.same s4
  obtain ⟨dx4, fs4, ep4, no4⟩ := rel4.ins
  refine ⟨_, rfl, x, dx4, fs4, rfl, ep4, no4 n1 n2 n3, x, z, [], rfl, rel4, fun D5 xs5 H5 hD5 hx5 hr5 s5 => ?_⟩
  cases hr5
  refine ⟨by decide, fun E6 hE6 => ?_⟩
  have s6 : Same H5 (upd H5 E6 (.lst [])) := (Same.refl H5).upd hE6
  have e6 : upd H5 E6 (.lst []) E6 = some (.lst []) := upd_same
  generalize upd H5 E6 (.lst []) = H6 at s6 e6 ⊢
  refine ⟨_, _, .lst (SqL.of (s6 _ _ hx5)) .nil, .lst (SqL.of e6) .nil, rfl, rfl, _, rfl, ?_⟩
  refine iteF ?_
  have rel6 := (rel4.same s5).same s6
  obtain ⟨dx6, fs6, ep6, no6⟩ := rel6.ins
  refine ⟨_, rfl, x, dx6, fs6, rfl, ep6, x, z, [], rfl, rel6, az, (fun _ h => nomatch h), Nat.zero_le _, _, rfl, ?_⟩
  have pz : Plain z := az.plain fun c hc => hc
  have nz : NiceD (.str z) := nice_str pz (by omega)
  have lrz : (reprText z).length ≤ 42 := repr_abc az
  have e1 : (Str.ofString "Relay(").length = 6 := by decide +kernel
  have e2 : (Str.ofString ", [])").length = 5 := by decide +kernel
  refine ⟨_, rfl, .str z, .str z, rfl, sh_str z, nz, _, _, rfl, rfl, (by show _ + (reprText z).length ≤ _; rw [sz]; omega), ?_⟩
  refine ⟨_, _, rfl, rfl, (by rw [len_app, sz]; show _ + (reprText z).length + _ ≤ _; omega), ?_⟩
  refine ⟨rfl, ?_⟩
  rw [decide_eq_true (congrArg V.str (repr_bare z))]
  have s36 := s4.trans (s5.trans s6)
  exact k _ (Same.pot s36 hq3) (b03.same s36)
end
end K21
namespace K21
open PySem PySem.Spec PyProof.Rows L2 FL
section
variable {P : Program} {w : World} {K : PySem.W.Frag} {mg : Str → Option Value} {base : Heap}
theorem ok_right {f : Addr} {fd : FuncData} (F : Fun K "_law_right" "_law_right" sRight f fd) (R : RelF P w K mg base) (mR : mg "repr" = none) (mG : mg "range" = none) (mL : mg "list" = none)
    (cA : Ca P w K mg base "_law_abc" 2 ["_law_pot_here", "_law_most"] spAbc) (cO : Ca P w K mg base "_law_note" 3 ["_law_pot_here", "_law_abc_here", "_law_most"] spNote)
    (cH : Ca P w K mg base "_law_with_hidden" 4 ["_law_pot_here", "_law_abc_here", "_law_deals_here"] (spHid K)) (cD : Ca P w K mg base "_law_deals" 4 ["_law_pot_here", "_law_abc_here", "_law_lot", "_law_most"] spDeals)
    (cT : CaG P w K mg base "_law_told_right" 3 ["_law_abc_here", "_law_deals_here", "_law_plan"] (spTold K R.C)) (cU : CaG P w K mg base "_law_turns_right" 4 ["_law_pot_here", "_law_abc_here", "_law_deals_here", "_law_plan"] (spTurns K R.C))
    (cE : CaG P w K mg base "_law_equal_right" 7 ["_law_pot_here", "_law_abc_here", "_law_deals_here", "_law_plan"] (spEqual K R.C)) (cI : Ca P w K mg base "_law_hidden_right" 7 ["_law_pot_here", "_law_abc_here", "_law_deals_here", "_law_plan"] (spHidR K R.C)) :
    FnG P w K mg base CX0 8 f fd ["_law_pot_here"] spRight := by
  refine okG F scRight (fun vs H Q E h => ?_) (fun cdv A outer s H vs Q E hr hg h => ?_)
  · obtain ⟨_, rfl, _⟩ := h
    rfl
  · obtain ⟨q, rfl, hq, k⟩ := h
    have nd := scRight.nd
    have hr2 := hr.mono (show 2 ≤ 7 by decide)
    have hr3 := hr.mono (show 3 ≤ 7 by decide)
    have hr4 := hr.mono (show 4 ≤ 7 by decide)
    have hr6 := hr.mono (show 6 ≤ 7 by decide)
    obtain ⟨t2, p2, q2⟩ := rg2 (f := f) (cdv := cdv) (A := A) (outer := outer) (s := s) (H := H) (E := E) R mR cO hr hg
    refine ⟨_, pss_cons (ps_set (i := 1) nd rfl (.inl rfl) (pe_ca cA hr2 (by rfl) (pa_cons (pv 0) (pa_cons pe_int pa_nil))))
      (pss_cons (ps_for PassesOwn.never rfl (pi_range1 (by rfl) mG (pa_cons pe_int pa_nil)) (pg_name (i := 2) nd rfl (.inl rfl))
        (pss_cons (ps_set (i := 3) nd rfl (.inl rfl) (pe_ca cH hr4 (by rfl) (pa_cons (pv 0) (pa_cons (pv 1) (pa_cons (pe_ca cD hr4 (by rfl) (pa_cons (pv 0) (pa_cons (pv 1) (pa_cons pe_int (pa_cons pe_int pa_nil))))) pa_nil)))))
        (pss_cons (ps_set (i := 4) nd rfl (.inl rfl) (pe_callTy call_list_of (by rfl) mL (by decide +kernel) (pa_cons (pv 3) pa_nil)))
        (C8.pss_cut (ps_set (i := 5) nd rfl (.inl rfl) (pe_ifExp (pt_cmpR op_eq (pv 2) pe_int (nomark _)) (pe_make R.mkc R.oi hr6 (by rfl) R.T.mgC R.bi .nil pass0 (pa_cons (pv 1) (pa_cons (pv 4) pa_nil)))
          (pe_makeK0 (E := E0) R.mkc R.oi hr6 (by rfl) R.T.mgC R.ki pass0 (pk_cons (pv 4) (pk_cons (pv 1) pk_nil)))))
        (pss_cons (ps_expr (pe_bm0 PySem.F.plainAttrs_list PySem.F.slot_list_reverse PySem.F.type_list_reverse mtReverse (pv 4)))
        (pss_cons (ps_expr (pe_bm PySem.F.plainAttrs_list PySem.F.slot_list_append PySem.F.type_list_append mtAppend (pv 4) (pa_cons (pe_tup (pa_cons pe_str (pa_cons pe_str (pa_cons (pv 1) pa_nil)))) pa_nil)))
        (pss_cons (ps_expr (pe_bm PySem.F.plainAttrs_list PySem.F.slot_list_append PySem.F.type_list_append mtAppend (pv 4) (pa_cons pe_non pa_nil)))
        (pss_cons (ps_if (PW.pt (pw_or (pt_not (pt_val (pe_cg cT hr3 hg (by rfl) (pa_cons (pv 1) (pa_cons (pv 3) (pa_cons (pv 5) pa_nil)))))) (pw_or1 (pt_not (pt_val (pe_cg cU hr4 hg (by rfl) (pa_cons (pv 0) (pa_cons (pv 1) (pa_cons (pv 3) (pa_cons (pv 5) pa_nil)))))))))) (pss_one (ps_ret pe_bl)) pss_nil)
        (pss_cons (ps_if (PW.pt (pw_or (pt_not (pt_val (pe_cg cE hr hg (by rfl) (pa_cons (pv 0) (pa_cons (pv 1) (pa_cons (pv 3) (pa_cons (pv 5) pa_nil))))))) (pw_or1 (pt_not (pt_val (pe_ca cI hr (by rfl) (pa_cons (pv 0) (pa_cons (pv 1) (pa_cons (pv 3) (pa_cons (pv 5) pa_nil)))))))))) (pss_one (ps_ret pe_bl)) pss_nil)
        (pss_one (ps_if (pt_not (pt_val (pe_cg cT hr3 hg (by rfl) (pa_cons (pv 1) (pa_cons (pv 3) (pa_cons (pv 5) pa_nil)))))) (pss_one (ps_ret pe_bl)) pss_nil))))))))))) p2), ?_⟩
    have sz : sizeLine = 16777216 := rfl
    refine ⟨_, rfl, q, rfl, hq, fun z H1 az hq1 b1 => ?_⟩
    have z0 := az.lo
    have z1 := az.hi
    refine ⟨2, rfl, by decide, by decide, ?_⟩
    refine for_range (lo := 0) (n := 2) (fun i σ Hi => ∃ o2 o3 o4 o5 : Option V, σ = [some (.ref q), some (.str z), o2, o3, o4, o5, none, none] ∧ PotAt Hi q ∧ But q H Hi) ?_ ?_ ?_
    · exact ⟨_, _, _, _, rfl, hq1, b1⟩
    · rintro i σ Hi hi ⟨o2, o3, o4, o5, rfl, hqi, bi⟩
      refine ⟨_, rfl, _, rfl, _, rfl, _, rfl, q, z, 4, 2, rfl, hqi, by omega, by omega, by decide, by decide, by decide, by decide, fun D0 xs0 rs0 H2 hD0 hx0 hr0 l0 ok0 hq2' b2 => ?_⟩
      refine ⟨q, z, D0, xs0, rs0, 4, rfl, hq2', az, SqL.of hx0, hr0, by omega, by decide, by decide, ok0, fun D xs rs H3 hD hx hrs lrs okrs hq3 b3 => ?_⟩
      have l0' : rs0.length ≤ 4 := by omega
      have dl : Deal K H3 D z rs := ⟨az, ⟨xs, hx, hrs⟩, fun r hr' => (okrs r hr').mono (by decide), by omega⟩
      have b03 := bi.trans (b2.trans b3)
      refine ⟨_, rfl, D, xs, rfl, .inl (SqL.of hx), fun Ls hLs => ?_⟩
      have s4 : Same H3 (upd H3 Ls (.lst xs)) := (Same.refl H3).upd hLs
      have v4 : upd H3 Ls (.lst xs) Ls = some (.lst xs) := upd_same
      have hL0 : H Ls = none := b03.new hq hLs hq3
      have nDL : D ≠ Ls := ne_of_none hx hLs
      have nqL : q ≠ Ls := hq3.ne hLs
      have hq4 := Same.pot s4 hq3
      have b04 := b03.same s4
      have dl4 := dl.same s4
      generalize upd H3 Ls (.lst xs) = H4 at s4 v4 hq4 b04 dl4 ⊢
      have ra4 : RuArg H4 (.ref Ls) rs := ⟨Ls, xs, false, rfl, v4, Same.rules s4 hrs⟩
      have ok40 : ∀ r ∈ rs, RuleOk z 40 r := fun r hr' => (okrs r hr').mono (by decide)
      have l400 : rs.length ≤ 400 := by omega
      refine ⟨fun σ' H' => ∃ x ra : Addr, σ' = [some (.ref q), some (.str z), some (.int (0 + i)), some (.ref D), some (.ref Ls), some (.ref x), none, none] ∧ Same H4 H' ∧ RelayR R.C H' x z rs ra ∧ ra ≠ Ls, ?_, ?_⟩
      · refine ⟨_, rfl, rfl, _, rfl, ?_⟩
        refine ite2 (fun _ => ?_) (fun _ => ?_)
        · refine ⟨_, rfl, _, rfl, fun x dx hx hdx hne => make_oneR az ra4 ok40 l400 hx hdx hne fun H5 ra rel hra s5 => ?_⟩
          exact ⟨x, ra, rfl, s5, rel, fun e => by rw [e, v4] at hra; cases hra⟩
        · refine ⟨_, rfl, _, rfl, rfl, rfl, fun x dx hx hdx hne => make_oneR az ra4 ok40 l400 hx hdx hne fun H5 ra rel hra s5 => ?_⟩
          exact ⟨x, ra, rfl, s5, rel, fun e => by rw [e, v4] at hra; cases hra⟩
      · rintro σ' H5 ⟨x, ra, rfl, s5, rel5, nra⟩
        have v5 := s5 _ _ v4
        refine ⟨_, rfl, .inl ⟨rfl, _, SqL.of v5⟩, _, _, rfl, rfl, v5, ?_⟩
        have hq5 := Same.pot s5 hq4
        have b05 := b04.same s5
        have dl5 := dl4.same s5
        have hq6 : PotAt (upd H5 Ls (.lst xs.reverse)) q := hq5.upd nqL
        have b06 : But q H (upd H5 Ls (.lst xs.reverse)) := b05.upd hL0
        have dl6 := dl5.updL (ws := xs.reverse) v5 nDL
        have rel6 := rel5.updL (ws := xs.reverse) v5 nra
        have v6 : upd H5 Ls (.lst xs.reverse) Ls = some (.lst xs.reverse) := upd_same
        generalize upd H5 Ls (.lst xs.reverse) = H6 at hq6 b06 dl6 rel6 v6 ⊢
        have lxs := paired_len hrs
        refine ⟨_, rfl, .inl ⟨rfl, _, SqL.of v6⟩, _, rfl, (by show 3 ≤ sizeLine; decide), fun T hT => ?_⟩
        have s7 : Same H6 (upd H6 T (.tup [.str (Str.ofString "front"), .str (Str.ofString ""), .str z])) := (Same.refl H6).upd hT
        generalize upd H6 T (.tup [.str (Str.ofString "front"), .str (Str.ofString ""), .str z]) = H7 at s7 ⊢
        have v7 := s7 _ _ v6
        refine ⟨Ls, _, _, rfl, rfl, v7, (by rw [List.length_reverse, sz]; omega), ?_⟩
        have hq8 : PotAt (upd H7 Ls (.lst (xs.reverse ++ [.ref T]))) q := (Same.pot s7 hq6).upd nqL
        have b08 : But q H (upd H7 Ls (.lst (xs.reverse ++ [.ref T]))) := (b06.same s7).upd hL0
        have dl8 := (dl6.same s7).updL (ws := xs.reverse ++ [.ref T]) v7 nDL
        have rel8 := (rel6.same s7).updL (ws := xs.reverse ++ [.ref T]) v7 nra
        have v8 : upd H7 Ls (.lst (xs.reverse ++ [.ref T])) Ls = some (.lst (xs.reverse ++ [.ref T])) := upd_same
        generalize upd H7 Ls (.lst (xs.reverse ++ [.ref T])) = H8 at hq8 b08 dl8 rel8 v8 ⊢
        refine ⟨_, rfl, .inl ⟨rfl, _, SqL.of v8⟩, Ls, _, _, rfl, rfl, v8, (by rw [List.length_append, List.length_reverse, sz]; show xs.length + 1 < _; omega), ?_⟩
        have hq9 : PotAt (upd H8 Ls (.lst (xs.reverse ++ [.ref T] ++ [.non]))) q := hq8.upd nqL
        have b09 : But q H (upd H8 Ls (.lst (xs.reverse ++ [.ref T] ++ [.non]))) := b08.upd hL0
        have dl9 := dl8.updL (ws := xs.reverse ++ [.ref T] ++ [.non]) v8 nDL
        have rel9 := (rel8.updL (ws := xs.reverse ++ [.ref T] ++ [.non]) v8 nra).at_
        generalize upd H8 Ls (.lst (xs.reverse ++ [.ref T] ++ [.non])) = H9 at hq9 b09 dl9 rel9 ⊢
        refine ⟨_, rfl, _, rfl, _, rfl, z, D, x, rs, rfl, dl9, rel9, fun HA sA => ?_⟩
        refine ⟨_, rfl, ?_⟩
        refine iteF ?_
        have hqA := Same.pot sA hq9
        refine ⟨_, rfl, _, rfl, _, rfl, _, rfl, q, z, D, x, rs, rfl, hqA, dl9.same sA, rel9.same sA, fun HB hqB bB => ?_⟩
        refine ⟨_, rfl, ?_⟩
        refine iteF ?_
        have dlB := (dl9.same sA).but hqA bB
        have relB := (rel9.same sA).but hqA bB
        have b0B := (b09.same sA).trans bB
        refine ⟨_, rfl, _, rfl, _, rfl, _, rfl, q, z, D, x, rs, rfl, dlB, relB, fun HC sC => ?_⟩
        refine ⟨_, rfl, ?_⟩
        refine iteF ?_
        have hqC := Same.pot sC hqB
        refine ⟨_, rfl, _, rfl, _, rfl, _, rfl, q, z, D, x, rs, rfl, hqC, dlB.same sC, relB.same sC, fun HD hqD bD => ?_⟩
        refine ⟨_, rfl, ?_⟩
        refine iteF ?_
        have dlD := (dlB.same sC).but hqC bD
        have relD := (relB.same sC).but hqC bD
        have b0D := (b0B.same sC).trans bD
        refine ⟨_, rfl, _, rfl, _, rfl, z, D, x, rs, rfl, dlD, relD, fun HE sE => ?_⟩
        refine ⟨_, rfl, ?_⟩
        refine iteF ?_
        exact ⟨_, _, _, _, rfl, Same.pot sE hqD, b0D.same sE⟩
    · rintro σ Hi ⟨o2, o3, o4, o5, rfl, hqi, bi⟩
      exact q2 _ H Hi q z o2 o3 o4 o5 az hq hqi bi fun HF hqF bF => k HF hqF bF
end
end K21
set_option maxHeartbeats 0
namespace K21
open PySem PySem.Spec PyProof.Rows L2 FL
abbrev R : PySem.W.OpenRow := PySem.W.OpenLaw.row PySem.Challenge.rw_frontlines_k21_relays_told
def gl (x : Str) (K : PySem.W.Frag) : Addr := He.ga K x
def me (m : Str) (K : PySem.W.Frag) : Addr := He.ma K (He.ga K "Relay") m
def getr (K : PySem.W.Frag) : Addr := match PySem.W.recIn K (me "signs" K) "property" with
  | some (.ref g :: _) => g
  | _ => 0
def glD (x : Str) (i : Nat) : DA := ⟨gl x, x, x, topS i⟩
def meD (m q : Str) (i : Nat) : DA := ⟨me m, m, q, inClass (topS 44) i⟩
def defs : List DA := [glD "is_list" 12, glD "is_signs" 13, glD "is_line" 14, glD "check_signs" 20, glD "check_line" 22, glD "is_rule_line" 24, glD "is_rule" 25, glD "check_rules" 26,
  glD "rule_index" 29, glD "turned_once" 30, meD "__init__" "Relay.__init__" 0, ⟨getr, "signs", "Relay.signs", inClass (topS 44) 1⟩, meD "rules" "Relay.rules" 2, meD "__call__" "Relay.__call__" 3,
  meD "__eq__" "Relay.__eq__" 12, meD "__repr__" "Relay.__repr__" 13,
  glD "_law_pot" 46, glD "_law_draw" 47, glD "_law_pick" 48, glD "_law_mixed" 49, glD "_law_abc" 50, glD "_law_note" 51, glD "_law_deals" 52, glD "_law_turn" 53, glD "_law_notes" 54,
  glD "_law_with_hidden" 55, glD "_law_turns_right" 56, glD "_law_told_right" 57, glD "_law_equal_right" 58, glD "_law_hidden_right" 59, glD "_law_right" 60, glD "law" 61, glD "is_word" 23]
def free1 : List Str := ["isinstance", "str", "len", "all", "zip", "list", "tuple", "enumerate", "range", "min", "divmod", "int", "abs", "max", "sorted", "repr", "any"]
def glos : List Str := ["is_list", "is_signs", "is_line", "check_signs", "check_line", "is_rule_line", "is_rule", "check_rules", "rule_index", "turned_once", "_law_pot", "_law_draw", "_law_pick", "_law_mixed", "_law_abc", "_law_note", "is_word"]
def glos2 : List Str := ["_law_deals", "_law_turn", "_law_notes", "_law_with_hidden", "_law_turns_right", "_law_told_right", "_law_equal_right", "_law_hidden_right", "_law_right", "law", "Relay"]
/-- what is needed of the class besides -/
def relB (K : PySem.W.Frag) (C : Addr) : Bool :=
  He.eqO (PySem.W.specialIn K (.ref (He.ma K C "signs")) "__get__") (some (some (.builtin "property.__get__")))
  && (decide (PySem.W.takesIn K (.ref (He.ma K C "signs")) = some true)
  && (He.eqO (PySem.W.findIn K (.ref C) "signs") (some (some (.ref (He.ma K C "signs"))))
  && (He.eqO (PySem.W.findIn K (.ref C) "__call__") (some (some (.ref (He.ma K C "__call__"))))
  && (PySem.W.isFn K (.ref (He.ma K C "__call__")) && (PySem.W.fnIn K (He.ma K C "__call__")
  && (He.eqO (PySem.W.findIn K (.ref C) "__class__") (some (some (.builtin "object.__class__")))
  && (decide (PySem.W.mroIn K C (.type "object") = some true)
  && (decide (PySem.W.kitOne K (.ref C) (.ref C) = some true)
  && (FL.kinds.all (fun n => decide (PySem.W.kitOne K (.type n) (.ref C) = some false) && decide (PySem.W.mroIn K C (.type n) = some false))
  && He.eqO (PySem.W.findIn K (.ref C) "__ne__") (some (some (.builtin "object.__ne__"))))))))))))
def recB (K : PySem.W.Frag) : Bool := match PySem.W.recIn K (me "signs" K) "property" with
  | some (.ref g :: _) => true
  | _ => false
def exs0 (K : PySem.W.Frag) : Bool :=
  glos.all (fun x => (He.Fa.glo x).ok K) && (glos2.all (fun x => (He.Fa.glo x).ok K) && (free1.all (fun x => (He.Fa.free x).ok K)
  && ((He.Fa.int "MOST_RULE_SIGNS" 40).ok K && ((He.Fa.int "MOST_RULES" 400).ok K && ((He.Fa.str "SIGN_CHARACTERS" signChars).ok K
  && ((He.Fa.cls "Relay").ok K && ((He.Fa.noat "Relay" "_signs").ok K && ((He.Fa.noat "Relay" "_rules").ok K && ((He.Fa.noat "Relay" "_index").ok K
  && ((He.Fa.mkr "Relay").ok K && ((He.Fa.meth "Relay" "rules").ok K && ((He.Fa.meth "Relay" "__eq__").ok K && ((He.Fa.meth "Relay" "__repr__").ok K
  && (recB K && relB K (He.ga K "Relay")))))))))))))))
def exs (K : PySem.W.Frag) : Bool := exs0 K && ((He.Fa.glo "RULE_WORDS").ok K && tupB K (He.ga K "RULE_WORDS") [.str (Str.ofString "front"), .str (Str.ofString "whole")])
def loose1 : List Str := ["_wall", "__name__", "LineError", "InvalidSigns", "InvalidLine", "InvalidRules", "StateError", "OtherSigns", "LimitError", "TooMany", "SIGN_CHARACTERS", "is_list", "is_signs", "is_line", "line_order", "in_order", "MOST_RULE_SIGNS", "check_signs", "check_same_signs", "check_line", "is_rule_line", "is_rule", "check_rules", "MOST_CELLS", "rule_index", "turned_once", "turned_through", "beginnings", "uneven_lines", "is_even_by_signs"]
def loose2 : List Str := ["uneven_of", "check_cells", "cells_of", "limited_table", "product_table", "uneven_ends", "changing_cells", "MOST_RULES", "Relay", "_law_pot", "_law_draw", "_law_pick", "_law_mixed", "_law_abc", "_law_note", "_law_deals", "_law_turn", "_law_notes", "_law_with_hidden", "_law_turns_right", "_law_told_right", "_law_equal_right", "_law_hidden_right", "_law_right", "is_word", "RULE_WORDS"]
def loose : List Str := loose1 ++ loose2
abbrev hk : PySem.W.Hook := hookF 7 defs exs
def ob (s : PySem.W.SharedT) : Bool × List He.FnV := obF 7 defs exs (HandSHeadRun.getT s)
end K21
namespace K21
open PySem PySem.Spec PyProof.Rows L2 FL
section
variable {P : Program} {w : World} {K : PySem.W.Frag} {mg : Str → Option Value} {h : Heap}
theorem getr_rec (c : recB K = true) : ∃ rest, PySem.W.recIn K (He.ma K (He.ga K "Relay") "signs") "property" = some (.ref (getr K) :: rest) := by
  unfold recB at c
  show ∃ rest, PySem.W.recIn K (me "signs" K) "property" = _
  split at c
  · rename_i g rest e
    refine ⟨rest, ?_⟩
    unfold getr
    rw [e]
  · cases c
theorem glo_mg (KX : K.In h) (G : h.Ns mainGlobals mg) {x : Str} (c : exs0 K = true) (hx : x ∈ glos ∨ x ∈ glos2) : mg x = some (.ref (gl x K)) := by
  unfold exs0 at c
  simp only [Bool.and_eq_true] at c
  obtain ⟨c1, c2, _⟩ := c
  rcases hx with hx | hx
  · exact He.glo_ok KX G (List.all_eq_true.mp c1 x hx)
  · exact He.glo_ok KX G (List.all_eq_true.mp c2 x hx)
theorem free_mg (KX : K.In h) (G : h.Ns mainGlobals mg) {x : Str} (c : exs0 K = true) (hx : x ∈ free1) : mg x = none := by
  unfold exs0 at c
  simp only [Bool.and_eq_true] at c
  obtain ⟨_, _, c3, _⟩ := c
  exact He.free_ok KX G (List.all_eq_true.mp c3 x hx)
structure Facts (K : PySem.W.Frag) : Prop where
  i1 : (He.Fa.int "MOST_RULE_SIGNS" 40).ok K = true
  i2 : (He.Fa.int "MOST_RULES" 400).ok K = true
  i3 : (He.Fa.str "SIGN_CHARACTERS" signChars).ok K = true
  cl : Cls K (He.ga K "Relay")
  n1 : NoAttr K (He.ga K "Relay") "_signs"
  n2 : NoAttr K (He.ga K "Relay") "_rules"
  n3 : NoAttr K (He.ga K "Relay") "_index"
  mk_ : Mk K (He.ga K "Relay") (He.ma K (He.ga K "Relay") "__init__")
  mr : Meth K (He.ga K "Relay") "rules" (He.ma K (He.ga K "Relay") "rules")
  me_ : Meth K (He.ga K "Relay") "__eq__" (He.ma K (He.ga K "Relay") "__eq__")
  mz : Meth K (He.ga K "Relay") "__repr__" (He.ma K (He.ga K "Relay") "__repr__")
  pr : PropOf K (He.ga K "Relay") "signs" (He.ma K (He.ga K "Relay") "signs") (getr K)
  cc : StX.CallO K (He.ga K "Relay") (He.ma K (He.ga K "Relay") "__call__")
  it : IsT K (He.ga K "Relay")
  kin : ∀ n ∈ FL.kinds, PySem.W.mroIn K (He.ga K "Relay") (.type n) = some false
  ne : PySem.W.findIn K (.ref (He.ga K "Relay")) "__ne__" = some (some (.builtin "object.__ne__"))
theorem facts_of (c : exs0 K = true) : Facts K := by
  unfold exs0 relB at c
  simp only [Bool.and_eq_true] at c
  obtain ⟨_, _, _, i1, i2, i3, c1, c2, c3, c4, c5, c6, c7, c8, r0, r1, r2, r3, r4, r5, r6, r7, r8, r9, r10, r11⟩ := c
  have kk := List.all_eq_true.mp r10
  have cl := He.cls_ok c1
  exact ⟨i1, i2, i3, cl, He.noat_ok c2, He.noat_ok c3, He.noat_ok c4, He.mkr_ok c5, He.meth_ok c6, He.meth_ok c7, He.meth_ok c8,
    ⟨He.eqO_ok r3, He.eqO_ok r1, of_decide_eq_true r2, getr_rec r0⟩, ⟨He.eqO_ok r4, r5, r6⟩,
    ⟨cl, He.eqO_ok r7, of_decide_eq_true r8, of_decide_eq_true r9, fun n hn => of_decide_eq_true (Bool.and_eq_true_iff.mp (kk n hn)).1⟩,
    fun n hn => of_decide_eq_true (Bool.and_eq_true_iff.mp (kk n hn)).2, He.eqO_ok r11⟩
end
end K21
namespace K21
open PySem PySem.Spec PyProof.Rows L2 FL
section
variable {P : Program} {w : World} {K : PySem.W.Frag} {mg : Str → Option Value} {base : Heap}
theorem bind_one {K : PySem.W.Frag} {x qual p : Str} {st : Stmt} {f : Addr} {fd : FuncData} (F : Fun K x qual st f fd)
    (h : ∀ (kV doc pm : Value) (an : Option Addr) (cdv ct : Value) (u : Value), bindArgs (PySem.W.fnOf x qual (defArgs st) (defBody st) (defScope st) .none kV doc pm an cdv ct) ⟨[u], []⟩ = pure [(p, u)]) (s : Shared) (u : Value) : BindsTo s fd ⟨[u], []⟩ [(p, u)] := by
  obtain ⟨oc, od, kV, doc, pm, an, cdv, ct, osl, rfl, lk, hcd⟩ := F.ex
  exact .of_eq (h kV doc pm an cdv ct u)
theorem ca_of {x : Str} {qual : Str} {st : Stmt} {f : Addr} {fd : FuncData} {k : Nat} {ps : List Str} {sp : Sp} (F : Fun K x qual st f fd) (m : mg x = some (.ref f)) (o : FnOk P w K mg base CX0 k f fd ps sp) (b : Binds K fd ps []) : Ca P w K mg base x k ps sp := ⟨f, fd, o, b, F.kp, m⟩
theorem cg_of {x : Str} {qual : Str} {st : Stmt} {f : Addr} {fd : FuncData} {k : Nat} {ps : List Str} {sp : Sp} (F : Fun K x qual st f fd) (m : mg x = some (.ref f)) (o : FnG P w K mg base CX0 k f fd ps sp) (b : Binds K fd ps []) : CaG P w K mg base x k ps sp := ⟨f, fd, o, b, F.kp, m⟩
end
theorem whole {P : Program} {w : World} {K : PySem.W.Frag} {mg : Str → Option Value} {h : Heap} (KX : K.In h) (G : h.Ns mainGlobals mg) (c : lookF defs exs K = dueF defs) :
    ∃ fd : FuncData, mg "law" = some (.ref (gl "law" K)) ∧ (∀ (s : Shared) (u : Value), BindsTo s fd ⟨[u], []⟩ [("_law_script", u)]) ∧ ∀ base : Heap, K.In base → base.Ns mainGlobals mg → FnG P w K mg base CX0 9 (gl "law" K) fd ["_law_script"] (FL.spLaw K) := by
  obtain ⟨cx, cR⟩ := Bool.and_eq_true_iff.mp (look_ex c)
  obtain ⟨cR1, cR2⟩ := Bool.and_eq_true_iff.mp cR
  have T := facts_of cx
  have g1 : ∀ x ∈ glos, mg x = some (.ref (gl x K)) := fun x hx => glo_mg KX G cx (.inl hx)
  have g2 : ∀ x ∈ glos2, mg x = some (.ref (gl x K)) := fun x hx => glo_mg KX G cx (.inr hx)
  have fr : ∀ x ∈ free1, mg x = none := fun x hx => free_mg KX G cx hx
  obtain ⟨tk1, mM1⟩ := He.int_ok KX G T.i1
  obtain ⟨tk2, mM2⟩ := He.int_ok KX G T.i2
  obtain ⟨tk3, mC⟩ := He.str_ok KX G T.i3
  obtain ⟨d0, F0⟩ := look_fn c 0 (d := glD "is_list" 12) rfl
  obtain ⟨d1, F1⟩ := look_fn c 1 (d := glD "is_signs" 13) rfl
  obtain ⟨d2, F2⟩ := look_fn c 2 (d := glD "is_line" 14) rfl
  obtain ⟨d3, F3⟩ := look_fn c 3 (d := glD "check_signs" 20) rfl
  obtain ⟨d4, F4⟩ := look_fn c 4 (d := glD "check_line" 22) rfl
  obtain ⟨d5, F5⟩ := look_fn c 5 (d := glD "is_rule_line" 24) rfl
  obtain ⟨d6, F6⟩ := look_fn c 6 (d := glD "is_rule" 25) rfl
  obtain ⟨d7, F7⟩ := look_fn c 7 (d := glD "check_rules" 26) rfl
  obtain ⟨d8, F8⟩ := look_fn c 8 (d := glD "rule_index" 29) rfl
  obtain ⟨d9, F9⟩ := look_fn c 9 (d := glD "turned_once" 30) rfl
  obtain ⟨d10, F10⟩ := look_fn c 10 (d := meD "__init__" "Relay.__init__" 0) rfl
  obtain ⟨d11, F11⟩ := look_fn c 11 (d := ⟨getr, "signs", "Relay.signs", inClass (topS 44) 1⟩) rfl
  obtain ⟨d12, F12⟩ := look_fn c 12 (d := meD "rules" "Relay.rules" 2) rfl
  obtain ⟨d13, F13⟩ := look_fn c 13 (d := meD "__call__" "Relay.__call__" 3) rfl
  obtain ⟨d14, F14⟩ := look_fn c 14 (d := meD "__eq__" "Relay.__eq__" 12) rfl
  obtain ⟨d15, F15⟩ := look_fn c 15 (d := meD "__repr__" "Relay.__repr__" 13) rfl
  obtain ⟨d16, F16⟩ := look_fn c 16 (d := glD "_law_pot" 46) rfl
  obtain ⟨d17, F17⟩ := look_fn c 17 (d := glD "_law_draw" 47) rfl
  obtain ⟨d18, F18⟩ := look_fn c 18 (d := glD "_law_pick" 48) rfl
  obtain ⟨d19, F19⟩ := look_fn c 19 (d := glD "_law_mixed" 49) rfl
  obtain ⟨d20, F20⟩ := look_fn c 20 (d := glD "_law_abc" 50) rfl
  obtain ⟨d21, F21⟩ := look_fn c 21 (d := glD "_law_note" 51) rfl
  obtain ⟨d22, F22⟩ := look_fn c 22 (d := glD "_law_deals" 52) rfl
  obtain ⟨d23, F23⟩ := look_fn c 23 (d := glD "_law_turn" 53) rfl
  obtain ⟨d24, F24⟩ := look_fn c 24 (d := glD "_law_notes" 54) rfl
  obtain ⟨d25, F25⟩ := look_fn c 25 (d := glD "_law_with_hidden" 55) rfl
  obtain ⟨d26, F26⟩ := look_fn c 26 (d := glD "_law_turns_right" 56) rfl
  obtain ⟨d27, F27⟩ := look_fn c 27 (d := glD "_law_told_right" 57) rfl
  obtain ⟨d28, F28⟩ := look_fn c 28 (d := glD "_law_equal_right" 58) rfl
  obtain ⟨d29, F29⟩ := look_fn c 29 (d := glD "_law_hidden_right" 59) rfl
  obtain ⟨d30, F30⟩ := look_fn c 30 (d := glD "_law_right" 60) rfl
  obtain ⟨d31, F31⟩ := look_fn c 31 (d := glD "law" 61) rfl
  obtain ⟨d32, F32⟩ := look_fn c 32 (d := glD "is_word" 23) rfl
  have b0 : Binds K d0 ["value"] [] := F0.binds fun _ _ _ _ _ _ us hl => match us, hl with | [_], _ => rfl
  have b1 : Binds K d1 ["value"] [] := F1.binds fun _ _ _ _ _ _ us hl => match us, hl with | [_], _ => rfl
  have b2 : Binds K d2 ["signs", "value"] [] := F2.binds fun _ _ _ _ _ _ us hl => match us, hl with | [_, _], _ => rfl
  have b3 : Binds K d3 ["signs"] [] := F3.binds fun _ _ _ _ _ _ us hl => match us, hl with | [_], _ => rfl
  have b4 : Binds K d4 ["signs", "line"] [] := F4.binds fun _ _ _ _ _ _ us hl => match us, hl with | [_, _], _ => rfl
  have b5 : Binds K d5 ["signs", "value"] [] := F5.binds fun _ _ _ _ _ _ us hl => match us, hl with | [_, _], _ => rfl
  have b6 : Binds K d6 ["signs", "value"] [] := F6.binds fun _ _ _ _ _ _ us hl => match us, hl with | [_, _], _ => rfl
  have b7 : Binds K d7 ["signs", "rules"] [] := F7.binds fun _ _ _ _ _ _ us hl => match us, hl with | [_, _], _ => rfl
  have b8 : Binds K d8 ["rules"] [] := F8.binds fun _ _ _ _ _ _ us hl => match us, hl with | [_], _ => rfl
  have b9 : Binds K d9 ["index", "line"] [] := F9.binds fun _ _ _ _ _ _ us hl => match us, hl with | [_, _], _ => rfl
  have b10 : Binds K d10 ["self", "signs", "rules"] [] := F10.binds fun _ _ _ _ _ _ us hl => match us, hl with | [_, _, _], _ => rfl
  have b11 : Binds K d11 ["self"] [] := F11.binds fun _ _ _ _ _ _ us hl => match us, hl with | [_], _ => rfl
  have b12 : Binds K d12 ["self"] [] := F12.binds fun _ _ _ _ _ _ us hl => match us, hl with | [_], _ => rfl
  have b13 : Binds K d13 ["self", "line"] [] := F13.binds fun _ _ _ _ _ _ us hl => match us, hl with | [_, _], _ => rfl
  have b14 : Binds K d14 ["self", "other"] [] := F14.binds fun _ _ _ _ _ _ us hl => match us, hl with | [_, _], _ => rfl
  have b15 : Binds K d15 ["self"] [] := F15.binds fun _ _ _ _ _ _ us hl => match us, hl with | [_], _ => rfl
  have b16 : Binds K d16 ["_law_script", "_law_k"] [] := F16.binds fun _ _ _ _ _ _ us hl => match us, hl with | [_, _], _ => rfl
  have b17 : Binds K d17 ["_law_pot_here", "_law_much"] [] := F17.binds fun _ _ _ _ _ _ us hl => match us, hl with | [_, _], _ => rfl
  have b18 : Binds K d18 ["_law_pot_here", "_law_some"] [] := F18.binds fun _ _ _ _ _ _ us hl => match us, hl with | [_, _], _ => rfl
  have b19 : Binds K d19 ["_law_pot_here", "_law_some"] [] := F19.binds fun _ _ _ _ _ _ us hl => match us, hl with | [_, _], _ => rfl
  have b20 : Binds K d20 ["_law_pot_here", "_law_most"] [] := F20.binds fun _ _ _ _ _ _ us hl => match us, hl with | [_, _], _ => rfl
  have b21 : Binds K d21 ["_law_pot_here", "_law_abc_here", "_law_most"] [] := F21.binds fun _ _ _ _ _ _ us hl => match us, hl with | [_, _, _], _ => rfl
  have b22 : Binds K d22 ["_law_pot_here", "_law_abc_here", "_law_lot", "_law_most"] [] := F22.binds fun _ _ _ _ _ _ us hl => match us, hl with | [_, _, _, _], _ => rfl
  have b23 : Binds K d23 ["_law_deals_here", "_law_note_here"] [] := F23.binds fun _ _ _ _ _ _ us hl => match us, hl with | [_, _], _ => rfl
  have b24 : Binds K d24 ["_law_abc_here", "_law_most"] [] := F24.binds fun _ _ _ _ _ _ us hl => match us, hl with | [_, _], _ => rfl
  have b25 : Binds K d25 ["_law_pot_here", "_law_abc_here", "_law_deals_here"] [] := F25.binds fun _ _ _ _ _ _ us hl => match us, hl with | [_, _, _], _ => rfl
  have b26 : Binds K d26 ["_law_pot_here", "_law_abc_here", "_law_deals_here", "_law_plan"] [] := F26.binds fun _ _ _ _ _ _ us hl => match us, hl with | [_, _, _, _], _ => rfl
  have b27 : Binds K d27 ["_law_abc_here", "_law_deals_here", "_law_plan"] [] := F27.binds fun _ _ _ _ _ _ us hl => match us, hl with | [_, _, _], _ => rfl
  have b28 : Binds K d28 ["_law_pot_here", "_law_abc_here", "_law_deals_here", "_law_plan"] [] := F28.binds fun _ _ _ _ _ _ us hl => match us, hl with | [_, _, _, _], _ => rfl
  have b29 : Binds K d29 ["_law_pot_here", "_law_abc_here", "_law_deals_here", "_law_plan"] [] := F29.binds fun _ _ _ _ _ _ us hl => match us, hl with | [_, _, _, _], _ => rfl
  have b30 : Binds K d30 ["_law_pot_here"] [] := F30.binds fun _ _ _ _ _ _ us hl => match us, hl with | [_], _ => rfl
  have b31 : Binds K d31 ["_law_script"] [] := F31.binds fun _ _ _ _ _ _ us hl => match us, hl with | [_], _ => rfl
  have b32 : Binds K d32 ["value", "words"] [] := F32.binds fun _ _ _ _ _ _ us hl => match us, hl with | [_, _], _ => rfl
  have kI : KBn K d10 ["self", "signs", "rules"] 1 ["rules", "signs"] swp swp := kbn_of F10 (fun _ _ _ _ _ _ us ws l1 l2 => match us, ws, l1, l2 with | [_], [_, _], _, _ => rfl) swp_rel
  have kC : KBn K d13 ["self", "line"] 1 ["line"] (fun us ws => us ++ ws) (fun vs zs => vs ++ zs) := kbn_of F13 (fun _ _ _ _ _ _ us ws l1 l2 => match us, ws, l1, l2 with | [_], [_], _, _ => rfl) fun a b => a.append b
  have mIs := fr "isinstance" (by decide)
  have mSt := fr "str" (by decide)
  have mLe := fr "len" (by decide)
  have mAl := fr "all" (by decide)
  have mZi := fr "zip" (by decide)
  have mLi := fr "list" (by decide)
  have mTu := fr "tuple" (by decide)
  have mEn := fr "enumerate" (by decide)
  have mRa := fr "range" (by decide)
  have mMi := fr "min" (by decide)
  have mDi := fr "divmod" (by decide)
  have mIn := fr "int" (by decide)
  have mAb := fr "abs" (by decide)
  have mMa := fr "max" (by decide)
  have mSo := fr "sorted" (by decide)
  have mRe := fr "repr" (by decide)
  have mAn := fr "any" (by decide)
  have TT : RTxt K mg (He.ga K "Relay") := ⟨T.cl, T.n1, T.n2, T.n3, g2 "Relay" (by decide)⟩
  refine ⟨d31, g2 "law" (by decide), bind_one F31 (fun _ _ _ _ _ _ _ => rfl), fun base hB hN => ?_⟩
  · have o2 : FnOk P w K mg base CX0 1 _ d2 ["signs", "value"] spLine := ok_isline F2 mIs mSt
    have o1 := ok_issigns F1 o2 b2 F2.kp (g1 "is_line" (by decide)) mC mIs mSt mLe mAl mZi
    have o0 : FnOk P w K mg base CX0 1 _ d0 ["value"] spIsList := ok_islist F0 mIs mLi mTu
    have o3 := ok_checksigns F3 o1 b1 F1.kp (g1 "is_signs" (by decide))
    have o4 := ok_checkline F4 o2 b2 F2.kp (g1 "is_line" (by decide))
    have o5 := ok_ruleline F5 o2 b2 F2.kp (g1 "is_line" (by decide)) mM1 mLe
    have o32 : FnOk P w K mg base CX0 1 _ d32 ["value", "words"] (spWord K) := ok_isword F32 mIs mSt
    have o6 := ok_isrule F6 o5 b5 F5.kp (g1 "is_rule_line" (by decide)) o32 b32 F32.kp (g1 "is_word" (by decide)) (He.glo_ok KX G cR1) (fun _ => tupB_ok cR2) mIs mTu mLe
    have o7 := ok_checkrules F7 o0 b0 F0.kp (g1 "is_list" (by decide)) o6 b6 F6.kp (g1 "is_rule" (by decide)) mEn
    have o8 : FnOk P w K mg base CX0 1 _ d8 ["rules"] spIndex := ok_index F8 mEn
    have o9 : FnOk P w K mg base CX0 1 _ d9 ["index", "line"] spOnce := ok_once F9 mM1 mLe mRa mMi
    have o10 := ok_init F10 TT o3 b3 F3.kp (g1 "check_signs" (by decide)) o7 b7 F7.kp (g1 "check_rules" (by decide)) o8 b8 F8.kp (g1 "rule_index" (by decide)) mLe mM2
    have o13 := ok_call F13 TT o4 b4 F4.kp (g1 "check_line" (by decide)) o9 b9 F9.kp (g1 "turned_once" (by decide))
    let R : RelF P w K mg base := ⟨He.ga K "Relay", TT, T.it, _, d10, T.mk_, o10, b10, kI, _, _, d11, T.pr, ok_get F11 TT, b11, _, d12, T.mr, ok_rules F12 TT mLi, b12, _, d13, T.cc, o13, b13, kC, _, d14,
      ⟨T.cl, T.me_.at_, T.me_.fn, b14, T.kin, T.ne, T.it.hm⟩, ok_eq F14 TT T.it mIs, _, d15, T.mz.at_, T.mz.fn, ok_repr F15 TT, b15⟩
    have o17 : FnOk P w K mg base CX0 1 _ d17 ["_law_pot_here", "_law_much"] spDraw := ok_draw F17 mDi mIn
    have m17 := g1 "_law_draw" (by decide)
    have o16 : FnOk P w K mg base CX0 1 _ d16 ["_law_script", "_law_k"] (spPot K) := ok_pot F16 mAb mLe mMa mIn
    have o18 := ok_pick F18 o17 b17 F17.kp m17 mLe
    have m18 := g1 "_law_pick" (by decide)
    have o19 := ok_mixed F19 o17 b17 F17.kp m17 mLi mLe mRa
    have o20 := ok_abc F20 o17 b17 F17.kp m17 mLi mLe mRa mSo
    have o21 := ok_note F21 o17 b17 F17.kp m17 o18 b18 F18.kp m18 mRa
    have m21 := g1 "_law_note" (by decide)
    have o22 := ok_deals F22 o17 b17 F17.kp m17 o18 b18 F18.kp m18 o21 b21 F21.kp m21 mRa
    have o23 : FnOk P w K mg base CX0 1 _ d23 ["_law_deals_here", "_law_note_here"] (spTurn K) := ok_turn F23 mLe
    have o24 : FnOk P w K mg base CX0 1 _ d24 ["_law_abc_here", "_law_most"] spNotes := ok_notes F24 mRa
    have o25 := ok_hid F25 o17 b17 F17.kp m17 o18 b18 F18.kp m18 o21 b21 F21.kp m21 mRa mLi
    have cN := ca_of F24 (g2 "_law_notes" (by decide)) o24 b24
    have cO := ca_of F21 m21 o21 b21
    have cM := ca_of F19 (g1 "_law_mixed" (by decide)) o19 b19
    have cT := ca_of F23 (g2 "_law_turn" (by decide)) o23 b23
    have o26 := ok_turns F26 R mRe mLe mRa cN cO cT
    have o27 := ok_told F27 R mRe
    have o28 := ok_equal F28 R mRe mTu mAn
    have o29 := ok_hidr F29 R mLe cN cM
    have o30 := ok_right F30 R mRe mRa mLi (ca_of F20 (g1 "_law_abc" (by decide)) o20 b20) cO (ca_of F25 (g2 "_law_with_hidden" (by decide)) o25 b25) (ca_of F22 (g2 "_law_deals" (by decide)) o22 b22)
      (cg_of F27 (g2 "_law_told_right" (by decide)) o27 b27) (cg_of F26 (g2 "_law_turns_right" (by decide)) o26 b26) (cg_of F28 (g2 "_law_equal_right" (by decide)) o28 b28) (ca_of F29 (g2 "_law_hidden_right" (by decide)) o29 b29)
    exact ok_law F31 mAl mRa mMa mMi mLe (ca_of F16 (g1 "_law_pot" (by decide)) o16 b16) (cg_of F30 (g2 "_law_right" (by decide)) o30 b30)
end K21
set_option maxHeartbeats 0
namespace K21
open PySem PySem.W PySem.Calls PySem.Spec PyProof.Rows L2 FL
theorem run (w : World) : HandSHeadRun.RunEq R (view R.prog [61]) hk ob 20000 loose w := by
  intro os
  kernel_rfl
end K21
open PySem PySem.W PySem.Calls PyProof.Rows
theorem PySem.Challenge.cw_frontlines_k21_relays_told_holds : PySem.Challenge.rw_frontlines_k21_relays_told.Holds := by
  w_on; o_law
  refine HandSHeadRun.head_any (r := K21.R) (q := view K21.R.prog [61]) (H := K21.hk) (ob := K21.ob) (M := 20000) (loose := K21.loose) (d := HandSHeadRun.topDef K21.R.prog 61) (kwd := []) (fun s => FL.obF_eq s)
    (by kernel_rfl) (fun s => by kernel_rfl) K21.run (by kernel_rfl) (by kernel_rfl) (by kernel_rfl) (by rfl) (by first | assumption | decide +kernel) (by decide +kernel) ⟨rfl, rfl, rfl, rfl, rfl, by decide +kernel⟩ ?hw ?hc
  case hw => w_witness2
  case hc =>
    refine FL.walkG (l := PySem.Challenge.rw_frontlines_k21_relays_told) (n := 63) (k := 9) (x := "_law_script") rfl (by decide) (by kernel_rfl) ⟨rfl, by decide, by decide⟩ ?_
    intro w mg fa h Y G hmg0
    obtain ⟨K, KX, c⟩ := Y
    have hmg : mg ("law" : PySem.Str) = some (.ref fa) := by
      have e : (HandSHeadRun.topDef K21.R.prog 61).name = ("law" : PySem.Str) := by kernel_rfl
      rw [← e]
      exact hmg0
    obtain ⟨fd, e1, bd, hF⟩ := K21.whole (P := PySem.Challenge.rw_frontlines_k21_relays_told.prog) (w := w) KX G c
    have e2 := hmg.symm.trans e1
    cases e2
    exact ⟨K, fd, FL.spLaw K, KX, bd, fun H a ns hl hS => ⟨a, ns, rfl, hS, hl, fun _ => rfl⟩, hF⟩
