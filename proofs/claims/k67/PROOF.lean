import PyProof.Rows.All
import Wide.All
import OpenK.AllK
import Wide.FinOn
import HandS.ForMost
import HandS.Wide
import HandS.WideBits
import HandS.RaiseMore
import HandS.Star
import HandS.ClsMeth
import HandS.IsInst
import HandS.Zip
import HandS.TupAny
import HandS.Property
import HandS.Walk
import KE.GoesEnum
import OpenK.KMeth
import KE.KOpsOwn
import PyProof.InstNe
import KE.KDictItemsList
import KE.KDictZip
import HandS.Gcd
import HandS.GenList
import HandS.TupMul
import KE.KDictList
import HandS.Iter
import HandS.Small
import HandS.Conv
import PyProof.ReprRoads
import HandS.DictComp
import HandS.NoneIn
import HandS.MakeKwOnly
import PyProof.Rows.ReprOcc
import HandS.Style
import PyProof.Rows.IntBool
import HandS.List
import HandS.SetKeys
import PyProof.Rows.InDataRows
import PySem.Challenge.RW_rulerkeep_k67_whole_wishes_that_rules_pr
set_option Elab.async false
set_option linter.all false
set_option maxRecDepth 100000
namespace Rk
open PySem PySem.Spec PyProof.Rows L2

/-! ### powers of great bases -/
def CPowB (i j : Int) : Prop := 0 ≤ j ∧ (Builtin.Int.intBits i : Int) * j ≤ 2 ^ 27
section
variable {X : Cx}
theorem op_powB : OpR X (binaryOp .Pow) (rI CPowB fun i j => .int (i ^ j.toNat)) :=
  opI fun _ _ _ _ _ _ _ hc q => pow_int hc.1 hc.2 q

/-! ### repr of plain values -/
def plainD : V → Option PyData
  | .non => some .none
  | .bl b => some (.bool b)
  | .int i => some (.int i)
  | .str x => some (.str x)
  | _ => none
theorem call_repr0 : CallR X (.builtin "repr") (fun xs H Q => ∃ x d, xs = [x] ∧ plainD x = some d ∧ d.showable = true ∧ d.shown.length ≤ sizeLine ∧ Q (.str d.shown) H) := by
  intro pins s σ H xs us Q I r h
  obtain ⟨x, d, rfl, hd, hs, hl, q⟩ := h
  obtain ⟨u, rfl, rx⟩ := vals1 r
  cases x with
  | non =>
    cases rx
    cases hd
    exact PySem.P.repr_of_none ⟨.str _, H, I.tok _, ⟨_, rfl⟩, q⟩
  | bl b =>
    cases rx
    cases hd
    exact PySem.P.repr_of_bool ⟨.str _, H, I.tok _, ⟨_, rfl⟩, q⟩
  | int i =>
    obtain ⟨t, rfl⟩ := rx
    cases hd
    exact PySem.P.repr_of_int (by simpa [PyData.showable] using hs) ⟨.str _, H, I.tok _, ⟨_, rfl⟩, q⟩
  | str z =>
    obtain ⟨t, rfl⟩ := rx
    cases hd
    exact PySem.P.repr_of_str (hsz := hl) ⟨.str _, H, I.tok _, ⟨_, rfl⟩, q⟩
  | _ => cases hd
end
end Rk
namespace Rk
open PySem PySem.Spec PyProof.Rows L2

/-! ### defs that are called where no repr is under way: with that, repr of tuples and lists is known -/
structure FnG (P : Program) (w : World) (K : PySem.W.Frag) (mg : Str → Option Value) (base : Heap) (k : Nat) (f : Addr) (fd : FuncData) (ps : List Str) (sp : Sp) : Prop where
  len : ∀ vs H Q E, sp vs H Q E → vs.length = ps.length
  run : ∀ (A : Around) (outer : List Env) (s : Shared) (H : Hp) (args : Args) (us : List Value) (vs : List V) (Q : VK) (E : XK), A.guards = some [] →
    Room k A → Env0 P w K mg base A outer s H → BindsTo s fd args (ps.zip us) → Vals vs us → sp vs H Q E →
    codeAny (model P w) A (.call (.ref f) args) (CR CX0 outer P w H s Q E) s
section
variable {P : Program} {w : World} {K : PySem.W.Frag} {mg : Str → Option Value} {base : Heap} {k : Nat} {f : Addr} {fd : FuncData} {ps N : List Str} {sp : Sp}
theorem FnG.of (F : FnOk P w K mg base CX0 k f fd ps sp) : FnG P w K mg base k f fd ps sp :=
  ⟨F.len, fun A o s H a us vs Q E _ => F.run A o s H a us vs Q E⟩
theorem FnG.mono {j : Nat} (F : FnG P w K mg base j f fd ps sp) (h : j ≤ k) : FnG P w K mg base k f fd ps sp :=
  ⟨F.len, fun A o s H a us vs Q E hg hr => F.run A o s H a us vs Q E hg (hr.mono h)⟩

theorem FnG.body {x qual : Str} {st : Stmt} (F : Fun K x qual st f fd) (S : FnScope N ps (defScope st)) (len : ∀ vs H Q E, sp vs H Q E → vs.length = ps.length)
    (bd : ∀ (cdv : Value) (A : Around) (outer : List Env) (s : Shared) (H : Hp) (vs : List V) (Q : VK) (E : XK), A.guards = some [] → Room k (A.deeper (envOfC qual (defScope st) s.heap.objs.size f cdv)) → sp vs H Q E →
      ∃ t, PSs (cxOf CX0 P w K mg base N qual (defScope st) f cdv A outer s H E).nox (defBody st) t ∧ t { nx := fun _ H' => Q .non H', rt := Q } (start N vs) H) :
    FnG P w K mg base (k + 1) f fd ps sp := by
  obtain ⟨oc, od, kV, doc, pm, an, cdv, ct, osl, efd, lk, hcd⟩ := F.ex
  subst efd
  refine ⟨len, ?_⟩
  intro A outer s H args us vs Q E gd hr e0 hb r hsp
  have kin : K.In s.heap := e0.mod.kin.keeps (fun b o e => And.left (e0.bs b o e))
  have nol : s.heap.NoLimit := e0.mod.nolimit.keeps (fun b o e => And.left (e0.bs b o e))
  have kinds : ∀ y ∈ ps.zip us, (defScope st).names.lookup y.1 = some .local ∨ ((defScope st).names.lookup y.1 = some .cell ∧ ((cellsFrom (s.heap.objs.size + 1) (defScope st).names []).lookup y.1).isSome = true) := by
    rintro ⟨n, v⟩ hy
    rcases S.par n (List.of_mem_zip hy).1 with q | q
    · exact Or.inl q
    · exact Or.inr ⟨q, PySem.W.cellsFrom_some _ _ _ (Or.inl q)⟩
  refine codeAny_call_function hr.depth (kin _ _ lk) rfl S.co S.gen rfl (PySem.W.codeRec_of kin hcd) (hb _ _ _ _ (wpAny_newFunctionEnv_cells S.kind kinds ?_))
  intro env he s1 x
  subst he
  refine ⟨nol.keeps x.toInCall.keep, codeAny_func ?_⟩
  obtain ⟨t, ht, hq⟩ := bd cdv A outer s H vs Q E gd (hr.deeper _) hsp
  have I : Inv (cxOf CX0 P w K mg base N qual (defScope st) f cdv A outer s H E) [] (start N vs) H s1 := inv_start S hr.hd e0 (len _ _ _ _ hsp) r x
  refine wpAny_mono (ht.nox.run [] s1 (start N vs) H _ I hq) ?_ (fun _ _ z => z)
  intro fl s' hs
  cases fl with
  | brk => exact hs.elim fun _ z => z.elim fun _ z => z.2.elim
  | cont => exact hs.elim fun _ z => z.elim fun _ z => z.2.elim
  | next =>
    obtain ⟨σ', H', J, q⟩ := hs
    exact ⟨V.non, H', J.os, J.bare, J.base, J.hok, rfl, q⟩
  | ret u =>
    obtain ⟨v, σ', H', J, rv, q⟩ := hs
    exact ⟨v, H', J.os, J.bare, J.base, J.hok, rv, q⟩
end

/-! ### a def of the text by its name -/
structure Df (K : PySem.W.Frag) (mg : Str → Option Value) (x : Str) (st : Stmt) (ps : List Str) : Prop where
  ex : ∃ (f : Addr) (fd : FuncData), Fun K x x st f fd ∧ mg x = some (.ref f) ∧ Binds K fd ps []
/-- the def of this name keeps the promise -/
def Has (P : Program) (w : World) (K : PySem.W.Frag) (mg : Str → Option Value) (base : Heap) (k : Nat) (x : Str) (ps : List Str) (sp : Sp) : Prop :=
  ∃ (f : Addr) (fd : FuncData), mg x = some (.ref f) ∧ PySem.W.keepIn K (.ref f) = true ∧ Binds K fd ps [] ∧ FnG P w K mg base k f fd ps sp
section
variable {P : Program} {w : World} {K : PySem.W.Frag} {mg : Str → Option Value} {base : Heap} {k : Nat} {x : Str} {ps N : List Str} {sp : Sp} {st : Stmt}
theorem Df.has (D : Df K mg x st ps) (S : FnScope N ps (defScope st)) (len : ∀ vs H Q E, sp vs H Q E → vs.length = ps.length)
    (bd : ∀ (f : Addr) (cdv : Value) (A : Around) (outer : List Env) (s : Shared) (H : Hp) (vs : List V) (Q : VK) (E : XK), A.guards = some [] → Room k (A.deeper (envOfC x (defScope st) s.heap.objs.size f cdv)) → sp vs H Q E →
      ∃ t, PSs (cxOf CX0 P w K mg base N x (defScope st) f cdv A outer s H E).nox (defBody st) t ∧ t { nx := fun _ H' => Q .non H', rt := Q } (start N vs) H) :
    Has P w K mg base (k + 1) x ps sp := by
  obtain ⟨f, fd, F, m, b⟩ := D.ex
  exact ⟨f, fd, m, F.kp, b, FnG.body F S len (bd f)⟩
end

section
variable {X : Cx} {k : Nat} {ps : List Str} {sp : Sp} {x : Str} {p pos : Pos} {e : Expr} {es : List Expr} {t : TA}
/-- f(e, ..), f a def of the text -/
theorem pe_has (h : Has X.prog X.w X.K X.mg X.base k x ps sp) (hg : X.A.guards = some []) (hr : Room k X.A) (gx : Gl X x) (ha : PA X (e :: es) t) (hdb : (x == ("__debug__" : Str)) = false := by decide)
    (he : starEach (e :: es) X.env = (false, eval e X.env) :: starEach es X.env := by rfl) (hpl : (backTo pos (starEach es X.env)).any (·.1) = false := by rfl) :
    PE X (.Call (.Name x p) (e :: es) [] pos) (tCall sp [] E0 t) := by
  obtain ⟨f, fd, m, kp, b, F⟩ := h
  constructor
  intro pins s σ H Q I hq
  refine wpAny_Call_Name_kw (ld_glob I gx m ?_ hdb)
  refine PySem.W.callWith_K (h₀ := X.base) I.ok.mod.kin kp (thn (ha.run pos pins s σ H _ I hq) ?_) he hpl
  rintro us s1 ⟨vs, H1, I1, r, q⟩
  refine ⟨I1.kIn, ?_⟩
  have q' : sp vs H1 Q E0 := by
    rw [List.append_nil] at q
    exact q
  have hl : us.length = ps.length := r.length.symm.trans (F.len _ _ _ _ q')
  have hb := b s1 us I1.kIn (by rw [List.append_nil]; exact hl)
  rw [List.append_nil] at hb
  refine wpAny_call (codeAny_mono (F.run X.A X.stack s1 H1 ⟨us, []⟩ us vs Q E0 hg hr I1.env0 hb r q') ?_)
  intro res s' z
  cases res with
  | error e => exact z.elim
  | ok fl =>
    cases fl with
    | ret u => exact I1.after z
    | _ => exact z.elim
end

/-! ### repr of data -/
section
variable {X : Cx}
def rRepr (K : PySem.W.Frag) : List V → Hp → VK → Prop := fun xs H Q => ∃ x d, xs = [x] ∧ Dp K H x d ∧ d.showable = true ∧ d.hasDict = false ∧ d.depth ≤ 60 ∧ d.shown.length ≤ sizeLine ∧ Q (.str d.shown) H
theorem call_reprD (hg : X.A.guards = some []) (hu : X.A.units + 64 < cLine) : CallR X (.builtin "repr") (rRepr X.K) := by
  intro pins s σ H xs us Q I r h
  obtain ⟨x, d, rfl, hd, hs, hn, hdp, hl, q⟩ := h
  obtain ⟨u, rfl, rx⟩ := vals1 r
  cases hd with
  | non =>
    cases rx
    exact PySem.P.repr_of_none ⟨.str _, H, I.tok _, ⟨_, rfl⟩, q⟩
  | bl b =>
    cases rx
    exact PySem.P.repr_of_bool ⟨.str _, H, I.tok _, ⟨_, rfl⟩, q⟩
  | int i =>
    obtain ⟨t, rfl⟩ := rx
    exact PySem.P.repr_of_int (by simpa [PyData.showable] using hs) ⟨.str _, H, I.tok _, ⟨_, rfl⟩, q⟩
  | str z =>
    obtain ⟨t, rfl⟩ := rx
    exact PySem.P.repr_of_str (hsz := hl) ⟨.str _, H, I.tok _, ⟨_, rfl⟩, q⟩
  | lst h1 h2 =>
    obtain ⟨as, rd⟩ := Dp.reads I _ _ _ (.lst h1 h2) rx
    cases rx
    exact repr_of_reads' rd hs (PyData.noDict_hsm hn) hg (by omega) (fun _ _ e => e) (fun h' u tk hk => ⟨.str _, H, I.kept (t' := tk) hk, ⟨_, rfl⟩, q⟩) hl
  | tup h1 h2 =>
    obtain ⟨as, rd⟩ := Dp.reads I _ _ _ (.tup h1 h2) rx
    cases rx
    exact repr_of_reads' rd hs (PyData.noDict_hsm hn) hg (by omega) (fun _ _ e => e) (fun h' u tk hk => ⟨.str _, H, I.kept (t' := tk) hk, ⟨_, rfl⟩, q⟩) hl
end
end Rk
namespace Rk
open PySem PySem.Spec PyProof.Rows L2

/-! ### the law's own call -/
/-- from a heap H that tracks the script at most -/
theorem enterG {P : Program} {w : World} {K : PySem.W.Frag} {mg mb : Str → Option Value} {k : Nat} {fa a : Addr} {nm x : Str} {sp : Sp} {s₁ : Shared} {vs : List Value} {H : Hp}
    (KX : K.In s₁.heap) (hns : s₁.heap.Ns mainGlobals mg) (hb : s₁.heap.Ns builtinsNs mb) (hbb : ∀ x : Str, x ≠ "__name__" → mb x = bootBuiltins x) (hlim : s₁.heap.NoLimit) (hg : s₁.gens = #[])
    (ha : s₁.heap.get? a = some { cls := .type "list", data := .seq vs.toArray }) (hr : Room k callerA)
    (F : ∀ base : Heap, K.In base → base.Ns mainGlobals mg → Has P w K mg base k nm [x] sp) (hfa : mg nm = some (.ref fa))
    (hO : Only H) (ok : HOk P w H s₁.heap) (hA : ∀ b, H b ≠ none → b = a) (hK : H a ≠ none → K.lookup a = none) (hsp : sp [.ref a] H (fun v _ => v = .bl true) E0) :
    codeAny (model P w) callerA (.call (.ref fa) ⟨[.ref a], []⟩) (fun r s' => r = .ok (.ret (.bool true)) ∧ OldK s₁.heap s'.heap ∧ s'.os = s₁.os ∧ AllBare s'.gens) s₁ := by
  have dictFree : ∀ {b : Addr} {o : Obj} {es : Array DictEntry} {ep : Nat}, s₁.heap.get? b = some o → o.data = .dict es ep → H b = none := by
    intro b o es ep e d
    cases q : H b with
    | none => rfl
    | some u =>
      have z := hA b (by rw [q]; simp)
      subst z
      rw [ha] at e
      cases e
      exact absurd (show Data.seq vs.toArray _ = Data.dict es ep from d) (fun z => by cases z)
  have nsH : ∀ {b : Addr} {m : Str → Option Value}, s₁.heap.Ns b m → (hidT s₁.heap H).Ns b m := by
    rintro b m ⟨o, es, ep, e, d, r⟩
    exact ⟨o, es, ep, hidT_get e (dictFree e d), d, r⟩
  have kinH : K.In (hidT s₁.heap H) := by
    intro b o e
    refine hidT_get (KX b o e) ?_
    cases q : H b with
    | none => rfl
    | some u =>
      have z := hA b (by rw [q]; simp)
      subst z
      have n := hK (by rw [q]; simp)
      rw [n] at e
      cases e
  obtain ⟨mc, l1, l2⟩ := hlim
  have e0 : Env0 P w K mg (hidT s₁.heap H) callerA [] s₁ H := by
    refine ⟨rfl, ⟨kinH, nsH hns, ⟨mb, nsH hb, hbb⟩, mc, nsH l1, l2⟩, fun b o e => of_hidT e, Nat.le_of_eq (hidT_size _ _), trivial, ?_, ok, .of_eq hg⟩
    intro b z
    exact absurd (show b ∈ ([] : List Addr) from z) (by simp)
  obtain ⟨f, fd, m, kp, bd, F1⟩ := F _ kinH (nsH hns)
  have ef := Option.some.inj (m.symm.trans hfa)
  cases ef
  have run := F1.run callerA [] s₁ H ⟨[.ref a], []⟩ [.ref a] [.ref a] _ _ rfl hr e0 (bd s₁ [.ref a] KX rfl) (.cons rfl .nil) hsp
  refine codeAny_mono run ?_
  intro r s' h
  cases r with
  | error e => exact h.elim
  | ok fl =>
    cases fl with
    | ret u =>
      obtain ⟨v, H', os, bare, un, hok', r', q⟩ := h
      have q' : v = .bl true := q
      subst q'
      obtain rfl : u = Value.bool true := r'
      refine ⟨rfl, OldK.of_keep ?_, os, bare⟩
      intro b o e
      rcases hO b with z | ⟨ob, xs, z⟩
      · exact un.keep b o e z (fun y => absurd (show b ∈ ([] : List Addr) from y) (by simp)) (by simp)
      · have z2 := un.frzs b ob _ z
        have e1 := (ok b _ z).1
        have e2 := (hok' b _ z2).1
        rw [e] at e1
        cases e1
        exact e2
    | _ => exact h.elim

theorem law_callG {P : Program} {w : World} {K : PySem.W.Frag} {mg mb : Str → Option Value} {k : Nat} {fa a : Addr} {nm x : Str} {sp : Sp} {s₁ : Shared} {vs : List Value} {ns : List Int}
    (KX : K.In s₁.heap) (hns : s₁.heap.Ns mainGlobals mg) (hb : s₁.heap.Ns builtinsNs mb) (hbb : ∀ x : Str, x ≠ "__name__" → mb x = bootBuiltins x) (hlim : s₁.heap.NoLimit) (hg : s₁.gens = #[])
    (ha : s₁.heap.get? a = some { cls := .type "list", data := .seq vs.toArray }) (hi : IntsAre vs ns) (hl : ns.length ≤ sizeLine) (hr : Room k callerA)
    (F : ∀ base : Heap, K.In base → base.Ns mainGlobals mg → Has P w K mg base k nm [x] sp) (hfa : mg nm = some (.ref fa))
    (hsp : ∀ H : Hp, Only H → SqL K H a (ns.map V.int) → sp [.ref a] H (fun v _ => v = .bl true) E0) :
    codeAny (model P w) callerA (.call (.ref fa) ⟨[.ref a], []⟩) (fun r s' => r = .ok (.ret (.bool true)) ∧ OldK s₁.heap s'.heap ∧ s'.os = s₁.os ∧ AllBare s'.gens) s₁ := by
  have rv : Vals (ns.map V.int) vs := vals_ints hi
  have lenV : vs.length = ns.length := hi.length
  cases hk : K.lookup a with
  | some o =>
    have e := KX a o hk
    rw [ha] at e
    cases e
    have O : Only (fun _ => none) := fun _ => Or.inl rfl
    refine enterG (H := fun _ => none) KX hns hb hbb hlim hg ha hr F hfa O ?_ (fun b z => absurd rfl z) (fun z => absurd rfl z) (hsp _ O (Or.inr ⟨_, vs.toArray, _, hk, rfl, rfl, rfl, ?_, ?_⟩))
    · intro b u z
      exact absurd (show (none : Option HO) = some u from z) (fun y => by cases y)
    · rw [List.size_toArray, lenV]
      exact hl
    · simpa using rv
  | none =>
    let H : Hp := fun b => if b = a then some (.frz { cls := .type "list", data := .seq vs.toArray } (.lst (ns.map V.int))) else none
    have Ha : H a = some (.frz { cls := .type "list", data := .seq vs.toArray } (.lst (ns.map V.int))) := if_pos rfl
    have Hn : ∀ b, b ≠ a → H b = none := fun b z => if_neg z
    have O : Only H := by
      intro b
      by_cases z : b = a
      · subst z
        exact Or.inr ⟨_, _, Ha⟩
      · exact Or.inl (Hn b z)
    refine enterG (H := H) KX hns hb hbb hlim hg ha hr F hfa O ?_ ?_ (fun _ => hk) (hsp _ O (Or.inl (Or.inr ⟨_, Ha⟩)))
    · intro b u z
      by_cases y : b = a
      · subst y
        rw [Ha] at z
        cases z
        exact ⟨ha, by rw [List.length_map]; exact hl, vs, _, rv, ha⟩
      · rw [Hn b y] at z
        cases z
    · intro b z
      by_cases y : b = a
      · exact y
      · exact absurd (Hn b y) z

theorem walkG {l : PySem.W.OpenLaw} {n k : Nat} {q : Program} {loose : List Str} {XP : (Str → Option Value) → Heap → Prop} {YP : World → Heap → Prop} {d : DefRec} {K : Params → PySem.W.Frag} {sp : PySem.W.Frag → Sp} {x : Str}
    (hn : l.most = some n) (hn2 : n ≤ sizeLine) (hdf : d.params.defaults = []) (hr : Room k callerA) (hY : ∀ (w : World) (h : Heap), YP w h → (K w.params).In h)
    (F : ∀ (w : World) (mg : Str → Option Value) (h : Heap), (K w.params).In h → h.Ns mainGlobals mg → ∀ base : Heap, (K w.params).In base → base.Ns mainGlobals mg → Has l.prog w (K w.params) mg base k d.name [x] (sp (K w.params)))
    (hsp : ∀ (K : PySem.W.Frag) (H : Hp) (a : Addr) (ns : List Int), ns.length ≤ n → Only H → SqL K H a (ns.map V.int) → sp K [.ref a] H (fun v _ => v = .bl true) E0) :
    PySem.W.WalkO q loose XP YP l.row.toRowW d [] (fun f vs => PySem.call f vs) := by
  refine Att.attach_call hn hdf ?_
  intro w s₀ s₁ mg mb fa o pm cd doc a vs ns G Y ho hd hcd hmg hobj hints hlen hg
  exact law_callG (hY w _ Y) G.T.g G.T.b G.T.builtins G.T.nolimit hg hobj hints (Nat.le_trans hlen hn2) hr (F w mg _ (hY w _ Y) G.T.g) hmg (fun H hO hS => hsp _ H a ns hlen hO hS)

/-- the facts of a def of the text, as the head tells them -/
theorem df_mk {K : PySem.W.Frag} {h : Heap} {mg : Str → Option Value} {x : Str} {st : Stmt} {ps : List Str} {f : Addr} {oc : Value} {od an : Option Addr} {osl : Array (Option Value)} {kV doc pm cdv ct : Value} (X : K.In h) (G : h.Ns mainGlobals mg)
    (a : PySem.W.nsIn K mainGlobals x = some (some (.ref f))) (l : K.lookup f = some ⟨oc, od, .func (PySem.W.fnOf x x (defArgs st) (defBody st) (defScope st) .none kV doc pm an cdv ct), osl⟩)
    (c : PySem.W.codeIn K cdv x = true) (k : PySem.W.keepIn K (.ref f) = true)
    (b : ∀ (kV doc pm : Value) (an : Option Addr) (cdv ct : Value) (us : List Value), us.length = ps.length → bindArgs (PySem.W.fnOf x x (defArgs st) (defBody st) (defScope st) .none kV doc pm an cdv ct) ⟨us, []⟩ = pure (ps.zip us)) : Df K mg x st ps :=
  ⟨f, _, fun_mk l c k, PySem.W.mg_of X G a, (fun_mk l c k).binds b⟩
end Rk
namespace Rk
open PySem PySem.Spec PyProof.Rows L2
theorem same_upd {H : Hp} {p : Addr} {o : HO} (hp : H p = none) : Same H (upd H p o) := fun b u e => by
  rw [upd_ne (ne_of_none e hp)]
  exact e
/-! ### zeros at the end -/
def tz (n : Nat) : Nat := if h : n = 0 then 0 else if n % 2 = 0 then tz (n / 2) + 1 else 0
termination_by n
decreasing_by omega
theorem tz_even {n : Nat} (h0 : 0 < n) (h : n % 2 = 0) : tz n = tz (n / 2) + 1 := by
  rw [tz, dif_neg (by omega), if_pos h]
theorem tz_odd {n : Nat} (h : n % 2 = 1) : tz n = 0 := by
  rw [tz, dif_neg (by omega), if_neg (by omega)]
theorem tz_le : ∀ n : Nat, 0 < n → 2 ^ tz n ≤ n := by
  intro n
  induction n using Nat.strongRecOn with
  | ind n ih =>
    intro h0
    by_cases h : n % 2 = 0
    · rw [tz_even h0 h, Nat.pow_succ]
      have := ih (n / 2) (by omega) (by omega)
      omega
    · rw [tz_odd (by omega)]
      omega
theorem tz_lt {n k : Nat} (h0 : 0 < n) (h : n < 2 ^ k) : tz n < k := by
  have h1 := tz_le n h0
  exact (Nat.pow_lt_pow_iff_right (by decide : 1 < 2)).mp (Nat.lt_of_le_of_lt h1 h)
theorem low_bit : ∀ n : Nat, 0 < n → n - (n &&& (n - 1)) = 2 ^ tz n := by
  intro n
  induction n using Nat.strongRecOn with
  | ind n ih =>
    intro h0
    have a1 : (n &&& (n - 1)) / 2 = (n / 2) &&& ((n - 1) / 2) := Nat.and_div_two
    have a3 : ¬ (n &&& (n - 1)) % 2 = 1 := by
      rw [Nat.and_mod_two_eq_one]
      omega
    by_cases h : n % 2 = 0
    · have i := ih (n / 2) (by omega) (by omega)
      rw [tz_even h0 h, Nat.pow_succ, ← i]
      have a2 : (n - 1) / 2 = n / 2 - 1 := by omega
      have le : (n / 2) &&& (n / 2 - 1) ≤ n / 2 := Nat.and_le_left
      rw [a2] at a1
      omega
    · rw [tz_odd (by omega)]
      have a2 : (n - 1) / 2 = n / 2 := by omega
      rw [a2, Nat.and_self] at a1
      omega
theorem low_int {p : Int} (h : 0 < p) : Builtin.bitAnd p (-p) = ((2 ^ tz p.toNat : Nat) : Int) := by
  have e1 : decide (0 ≤ p) = true := decide_eq_true (by omega)
  have e2 : decide (0 ≤ -p) = false := decide_eq_false (by omega)
  have e3 : (Builtin.bitNot (-p)).toNat = p.toNat - 1 := by
    unfold Builtin.bitNot
    omega
  have l := low_bit p.toNat (by omega)
  have le : p.toNat &&& (p.toNat - 1) ≤ p.toNat := Nat.and_le_left
  unfold Builtin.bitAnd
  rw [e1, e2]
  show p - ((p.toNat &&& (Builtin.bitNot (-p)).toNat : Nat) : Int) = _
  rw [e3, ← l]
  omega
theorem bits_pow (k : Nat) : Builtin.Int.intBits ((2 ^ k : Nat) : Int) = k + 1 := by
  have h0 : 0 < 2 ^ k := Nat.pow_pos (by decide)
  unfold Builtin.Int.intBits
  have hz : ¬ (((2 ^ k : Nat) : Int) == 0) = true := by
    intro z
    have := of_decide_eq_true z
    omega
  rw [if_neg hz, Int.natAbs_natCast, Nat.log2_two_pow]
theorem tz_60 {p : Int} (h : 0 < p) (h2 : p ≤ 10 ^ 18) : tz p.toNat < 60 := tz_lt (by omega) (by
  have : p.toNat ≤ 10 ^ 18 := by omega
  exact Nat.lt_of_le_of_lt this (by decide))
theorem SqT.same {K : PySem.W.Frag} {H H' : Hp} {a : Addr} {xs : List V} (e : Same H H') (h : SqT K H a xs) : SqT K H' a xs := by
  rcases h with (h | ⟨o, h⟩) | h
  · exact .inl (.inl (e _ _ h))
  · exact .inl (.inr ⟨o, e _ _ h⟩)
  · exact .inr h
theorem map_at {α : Type} {f : α → V} {xs : List α} {i : Nat} {x : V} (h : (xs.map f)[i]? = some x) : ∃ n, xs[i]? = some n ∧ x = f n := by
  rw [List.getElem?_map] at h
  cases e : xs[i]? with
  | none => rw [e] at h; cases h
  | some n =>
    rw [e] at h
    exact ⟨n, rfl, (Option.some.inj h).symm⟩
end Rk
namespace Rk
open PySem PySem.Spec PyProof.Rows L2

/-! ### static methods, read off the class -/
structure SMet (K : PySem.W.Frag) (C : Addr) (mc : Value) (m : Str) (p f : Addr) : Prop where
  at_ : PySem.W.findCls K (.ref C) mc m = some (.get (.builtin "staticmethod.__get__") (.ref p) .none (.ref C))
  rc : ∃ rest, PySem.W.recIn K p "staticmethod" = some (.ref f :: rest)
  hi : PySem.W.handedIn (.ref f) = true
  kp : PySem.W.keepIn K (.ref f) = true
def tStatic (C : Addr) (sp : Sp) (ta : TE) (t : TA) : TE := fun σ H Q => ta σ H fun x H1 => x = .ref C ∧ t σ H1 fun vs H2 => sp vs H2 Q E0
section
variable {X : Cx} {k : Nat} {C p f : Addr} {mc : Value} {fd : FuncData} {ps : List Str} {sp : Sp} {o e : Expr} {es : List Expr} {m : Str} {pos apos : Pos} {ta : TE} {t : TA} {pl : Sem Bool}
theorem pe_static (he : PE X o ta) (r : ClX.CRead X.K C mc) (c : SMet X.K C mc m p f) (F : FnOk X.prog X.w X.K X.mg X.base CX0 k f fd ps sp) (hb : Binds X.K fd ps []) (hr : Room k X.A) (ha : PA X (e :: es) t)
    (hst : starEach (e :: es) X.env = (false, eval e X.env) :: starEach es X.env := by rfl) (hpl : (backTo pos (starEach es X.env)).any (·.1) = false := by rfl)
    (ht : eval (.Call (.Attribute o m apos) (e :: es) [] pos) X.env = (do
      let ov ← eval o X.env; standAt apos.atName
      let (f, first) ← holding [ov] (getMethod ov m pl); callWith pos f first (backTo pos (starEach (e :: es) X.env)) (backToKw pos (keywordEach [] X.env))) := by rfl) :
    PE X (.Call (.Attribute o m apos) (e :: es) [] pos) (tStatic C sp ta t) := by
  constructor
  intro pins s σ H Q I h
  refine PySem.W.methodCall_KW (pl := pl) (thn (he.run pins s σ H _ I h) ?_) ht
  rintro u s1 ⟨x, H1, I1, rx, ex, q⟩
  subst ex
  obtain rfl : u = Value.ref C := rx
  obtain ⟨rest, hp⟩ := c.rc
  refine PySem.W.method_cls I1.kIn r.ga (PySem.W.cls_bind I1.kIn r.rd c.at_ (wpAny_call (PySem.W.sm_get (s := { s1 with toks := s1.toks + 1 }) I1.kIn hp (PySem.W.handed_on c.hi ?_))))
  have I2 : Inv X pins σ H1 { s1 with toks := s1.toks + 1 } := I1.tok _
  refine PySem.W.callWith_K (first := []) (h₀ := X.base) I2.ok.mod.kin c.kp (thn (ha.run pos pins _ σ H1 _ I2 q) ?_) hst hpl
  rintro us s3 ⟨vs, H2, I3, rv, q2⟩
  exact ⟨I3.kIn, run_fn F hr hb .nil pass0 I3 rv (by rw [List.append_nil]; exact q2)⟩
end

/-! ### C(*y) -/
section
variable {X : Cx} {k : Nat} {f C : Addr} {sp : Sp} {x : Str} {e : Expr} {te : TE} {p sp_ pos : Pos}
def tMakeS (K : PySem.W.Frag) (C : Addr) (sp : Sp) (te : TE) : TE := fun σ H Q => te σ H fun y H1 => ∃ a xs, y = V.ref a ∧ (SqT K H1 a xs ∨ SqL K H1 a xs) ∧ ∀ x dx, H1 x = Option.none → H1 dx = Option.none → dx ≠ x →
  sp (V.ref x :: xs) (upd (upd H1 dx (.own x)) x (.ins C dx [])) (fun v H2 => v = .non ∧ Q (.ref x) H2) E0
theorem pe_makeS (M : Mk X.K C f) (F : FnR X.prog X.w X.K X.mg X.base CX0 k f sp) (hr : Room (k + 1) X.A) (hg : Gl X x) (hm : X.mg x = some (.ref C)) (he : PE X e te) (hd : (x == ("__debug__" : Str)) = false := by decide)
    (hst : starEach [.Starred e sp_] X.env = [(true, eval e X.env)] := by rfl) : PE X (.Call (.Name x p) [.Starred e sp_] [] pos) (tMakeS X.K C sp te) := by
  constructor
  intro pins s σ H Q I h
  refine wpAny_Call_Name_kw (ld_glob I hg hm ?_ hd)
  refine PySem.W.callWith_S (h₀ := X.base) I.ok.mod.kin M.kp (thn (he.run pins s σ H _ I h) ?_) hst
  rintro v s1 ⟨y, H1, I1, ry, a, xs, ey, hxs, q⟩
  subst ey
  obtain rfl : v = Value.ref a := ry
  exact StX.star_any I1 hxs fun us s2 I2 rv => ⟨I2.kIn, StX.run_makeR M F hr pass0 I2 rv q⟩
end

/-! ### program defs, called from anywhere -/
def HasO (P : Program) (w : World) (K : PySem.W.Frag) (mg : Str → Option Value) (base : Heap) (k : Nat) (x : Str) (ps : List Str) (sp : Sp) : Prop :=
  ∃ (f : Addr) (fd : FuncData), mg x = some (.ref f) ∧ PySem.W.keepIn K (.ref f) = true ∧ Binds K fd ps [] ∧ FnOk P w K mg base CX0 k f fd ps sp
section
variable {P : Program} {w : World} {K : PySem.W.Frag} {mg : Str → Option Value} {base : Heap} {k : Nat} {x : Str} {ps N : List Str} {sp : Sp} {st : Stmt}
theorem Df.hasO (D : Df K mg x st ps) (S : FnScope N ps (defScope st)) (len : ∀ vs H Q E, sp vs H Q E → vs.length = ps.length)
    (bd : ∀ (f : Addr) (cdv : Value) (A : Around) (outer : List Env) (s : Shared) (H : Hp) (vs : List V) (Q : VK) (E : XK), Room k (A.deeper (envOfC x (defScope st) s.heap.objs.size f cdv)) → sp vs H Q E →
      ∃ t, PSs (cxOf CX0 P w K mg base N x (defScope st) f cdv A outer s H E).nox (defBody st) t ∧ t { nx := fun _ H' => Q .non H', rt := Q } (start N vs) H) :
    HasO P w K mg base (k + 1) x ps sp := by
  obtain ⟨f, fd, F, m, b⟩ := D.ex
  exact ⟨f, fd, m, F.kp, b, F.ok S len (bd f)⟩
end
section
variable {X : Cx} {k : Nat} {ps : List Str} {sp : Sp} {x : Str} {p pos : Pos} {e : Expr} {es : List Expr} {t : TA}
theorem pe_hasO (h : HasO X.prog X.w X.K X.mg X.base k x ps sp) (hr : Room k X.A) (gx : Gl X x) (ha : PA X (e :: es) t) (hdb : (x == ("__debug__" : Str)) = false := by decide)
    (he : starEach (e :: es) X.env = (false, eval e X.env) :: starEach es X.env := by rfl) (hpl : (backTo pos (starEach es X.env)).any (·.1) = false := by rfl) :
    PE X (.Call (.Name x p) (e :: es) [] pos) (tCall sp [] E0 t) := by
  obtain ⟨f, fd, m, kp, b, F⟩ := h
  exact pe_call F hr gx m kp b .nil pass0 ha hdb he hpl
end
end Rk
namespace Rk
open PySem PySem.Spec PyProof.Rows L2

/-! ### lives as data -/
def lv : Option Int → V
  | none => .non
  | some i => .int i
theorem lv_inj {x y : Option Int} (h : lv x = lv y) : x = y := by
  cases x <;> cases y <;> simp_all [lv]
def leO : Option Int → Option Int → Bool
  | _, none => true
  | none, some _ => false
  | some a, some b => decide (a ≤ b)
/-- without the last ones that repeat -/
def cutN (ls : List (Option Int)) : Nat → Nat
  | 0 => 0
  | 1 => 1
  | n + 2 => if ls[n + 1]? = ls[n]? then cutN ls (n + 1) else n + 2
def short (ls : List (Option Int)) : List (Option Int) := ls.take (cutN ls ls.length)
theorem cutN_le (ls : List (Option Int)) : ∀ n, cutN ls n ≤ n
  | 0 => Nat.le_refl _
  | 1 => Nat.le_refl _
  | n + 2 => by
    unfold cutN
    split
    · exact Nat.le_succ_of_le (cutN_le ls (n + 1))
    · exact Nat.le_refl _
theorem cutN_pos (ls : List (Option Int)) : ∀ n, 0 < n → 0 < cutN ls n
  | 0, h => h
  | 1, _ => Nat.one_pos
  | n + 2, _ => by
    unfold cutN
    split
    · exact cutN_pos ls (n + 1) (by omega)
    · omega
theorem cutN_eq {ls : List (Option Int)} {n : Nat} (h : ls[n + 1]? = ls[n]?) : cutN ls (n + 2) = cutN ls (n + 1) := by
  conv => lhs; unfold cutN
  rw [if_pos h]
theorem cutN_ne {ls : List (Option Int)} {n : Nat} (h : ¬ ls[n + 1]? = ls[n]?) : cutN ls (n + 2) = n + 2 := by
  conv => lhs; unfold cutN
  rw [if_neg h]
/-- the least rank from j on whose life is old enough -/
def due : Nat → List (Option Int) → Int → Option Int
  | _, [], _ => none
  | j, l :: r, a => if leO (some (a + 2 ^ j)) l = true then some (2 ^ j - 1) else due (j + 1) r a
theorem due_snoc {a : Int} {l : Option Int} : ∀ (xs : List (Option Int)) (j : Nat), xs.getLast? = some l → due j (xs ++ [l]) a = due j xs a
  | [], _, h => by simp at h
  | [x], j, h => by
    have e : x = l := by simpa using h
    subst e
    show (if leO (some (a + 2 ^ j)) x = true then some (2 ^ j - 1) else due (j + 1) [x] a) = (if leO (some (a + 2 ^ j)) x = true then some (2 ^ j - 1) else due (j + 1) [] a)
    by_cases h : leO (some (a + 2 ^ j)) x = true
    · rw [if_pos h, if_pos h]
    · rw [if_neg h, if_neg h]
      show (if leO (some (a + 2 ^ (j + 1))) x = true then some (2 ^ (j + 1) - 1) else none) = none
      rw [if_neg]
      cases x with
      | none => exact absurd rfl h
      | some i =>
        have h1 : ¬ a + 2 ^ j ≤ i := fun z => h (decide_eq_true z)
        have h2 : (0 : Int) < 2 ^ j := Int.pow_pos (by decide)
        intro z
        have z' : a + 2 ^ (j + 1) ≤ i := of_decide_eq_true z
        rw [Int.pow_succ] at z'
        omega
  | x :: y :: r, j, h => by
    have h' : (y :: r).getLast? = some l := by simpa [List.getLast?_cons_cons] using h
    have ih := due_snoc (a := a) (y :: r) (j + 1) h'
    show (if leO (some (a + 2 ^ j)) x = true then some (2 ^ j - 1) else due (j + 1) ((y :: r) ++ [l]) a) = (if leO (some (a + 2 ^ j)) x = true then some (2 ^ j - 1) else due (j + 1) (y :: r) a)
    rw [ih]
theorem due_take {ls : List (Option Int)} {a : Int} : ∀ n, n ≤ ls.length → due 0 (ls.take (cutN ls n)) a = due 0 (ls.take n) a
  | 0, _ => rfl
  | 1, _ => rfl
  | n + 2, hn => by
    by_cases h : ls[n + 1]? = ls[n]?
    · rw [cutN_eq h, due_take (n + 1) (by omega)]
      have h1 : n + 1 < ls.length := by omega
      have e : ls.take (n + 2) = ls.take (n + 1) ++ [ls[n + 1]] := (List.take_append_getElem h1).symm
      rw [e]
      symm
      apply due_snoc
      rw [List.getLast?_eq_getElem?, List.length_take, Nat.min_eq_left (by omega)]
      show (ls.take (n + 1))[n]? = some ls[n + 1]
      rw [List.getElem?_take_of_lt (by omega), ← h, List.getElem?_eq_getElem h1]
    · rw [cutN_ne h]
theorem due_short (ls : List (Option Int)) (a : Int) : due 0 (short ls) a = due 0 ls a := by
  unfold short
  rw [due_take _ (Nat.le_refl _), List.take_length]
/-- what lives are: from 0 to 10 ** 18, none less than the one ahead, the last one perhaps None -/
structure Good (ls : List (Option Int)) : Prop where
  pos : 0 < ls.length
  most : ls.length ≤ 61
  init : ∃ (is : List Int) (l : Option Int), ls = is.map some ++ [l] ∧ (∀ i ∈ is, 0 ≤ i ∧ i ≤ 10 ^ 18) ∧ (∀ i, l = some i → 0 ≤ i ∧ i ≤ 10 ^ 18)
  asc : ∀ (i : Nat) (x y : Option Int), ls[i]? = some x → ls[i + 1]? = some y → leO x y = true

/-! ### slices of tuples, whole or not -/
def rSlB (K : PySem.W.Frag) : V → Option Int → Option Int → Hp → VK → Prop := fun x lo hi H Q => ∃ a xs, x = .ref a ∧ SqT K H a xs ∧
  ∀ r H', (r = a ∧ H' = H ∧ cutV xs lo hi = xs) ∨ (H r = none ∧ H' = upd H r (.tup (cutV xs lo hi))) → Q (.ref r) H'
section
variable {X : Cx}
theorem sl_tupB : SlR X (rSlB X.K) := by
  intro pins s σ H x v vl vu lo hi sl Q I rx hs pl pu h
  obtain ⟨a, xs, e, hx, q⟩ := h
  refine sl_tupA pins s σ H x v vl vu lo hi sl Q I rx hs pl pu ⟨a, xs, e, hx, fun w => q a H (Or.inl ⟨rfl, rfl, ?_⟩), fun w p hp => q p _ (Or.inr ⟨hp, rfl⟩)⟩
  unfold cutV
  rw [w.1, w.2]
  simp
end
theorem rSlB_same {H H' : Hp} {a r : Addr} {xs : List V} {lo hi : Option Int} (h : (r = a ∧ H' = H ∧ cutV xs lo hi = xs) ∨ (H r = none ∧ H' = upd H r (.tup (cutV xs lo hi)))) : Same H H' := by
  rcases h with ⟨_, e, _⟩ | ⟨n, e⟩
  · rw [e]
    exact Same.refl _
  · rw [e]
    intro b u z
    rw [upd_ne (ne_of_none z n)]
    exact z
theorem rSlB_at {K : PySem.W.Frag} {H H' : Hp} {a r : Addr} {xs : List V} {lo hi : Option Int} (hx : SqT K H a xs) (h : (r = a ∧ H' = H ∧ cutV xs lo hi = xs) ∨ (H r = none ∧ H' = upd H r (.tup (cutV xs lo hi)))) : SqT K H' r (cutV xs lo hi) := by
  rcases h with ⟨e1, e, ec⟩ | ⟨n, e⟩
  · rw [e, e1, ec]
    exact hx
  · rw [e]
    exact SqT.of upd_same
theorem cut_init (xs : List V) (v : V) : cutV (xs ++ [v]) none (some (-1)) = xs := by
  have h : HT.sIx (xs ++ [v]).length (xs ++ [v]).length (some (-1)) = xs.length := by
    rw [List.length_append, List.length_singleton]
    unfold HT.sIx
    simp
    omega
  have h0 : HT.sIx (xs ++ [v]).length 0 none = 0 := by
    unfold HT.sIx
    simp
  unfold cutV
  rw [h, h0]
  simp
theorem cut_take (xs : List V) (n : Nat) (h : n ≤ xs.length) : cutV xs none (some (n : Int)) = xs.take n := by
  have h0 : HT.sIx xs.length 0 none = 0 := by
    unfold HT.sIx
    simp
  have h1 : HT.sIx xs.length xs.length (some (n : Int)) = n := by
    rw [HT.sIx_nat]
    omega
  unfold cutV
  rw [h1, h0]
  simp
theorem cut_drop (xs : List V) : cutV xs (some 1) none = xs.drop 1 := by
  have h0 : HT.sIx xs.length xs.length none = xs.length := by
    unfold HT.sIx
    simp
  have h1 : HT.sIx xs.length 0 (some 1) = min 1 xs.length := HT.sIx_nat _ _ 1
  unfold cutV
  rw [h1, h0]
  cases xs with
  | nil => rfl
  | cons x r =>
    have e : min 1 (x :: r).length = 1 := by rw [List.length_cons]; omega
    rw [e]
    simp
end Rk
namespace Rk
open PySem PySem.Spec PyProof.Rows L2
open Sem (wp)
open AutoSeq1 (wpAny_loadPart')

theorem meets_enum1 {v : Value} {o : Obj} {H : Heap → Prop} (B : Begins v o H) :
    Meets (Builtin.«enumerate.__new__» ⟨[.type "enumerate", v], []⟩) (fun _ R s => H s.heap ∧ R (.ok (.ret (.ref (s.heap.push o).objs.size)))
      { s with heap := (s.heap.push o).push { cls := .type "enumerate", data := .fields #[.none, .bool false, .ref s.heap.objs.size, rawInt 0, .none, .none] } }) :=
  .of_wp fun prog w A R s h => by
    obtain ⟨hp, g, d, tk, os⟩ := s
    obtain ⟨hl, h⟩ := h
    have hsub := sub_enumerate
    have hi : ∀ {A2 : Around} {E2 : Value → Shared → Prop} {R2 : Value → Shared → Prop}, R2 (.ref hp.objs.size) ⟨hp.push o, g, d, tk, os⟩ →
        wpAny (model prog w) A2 (pyIter v) R2 E2 ⟨hp, g, d, tk, os⟩ := by
      intro A2 E2 R2 z
      exact B.iter prog w A2 E2 ⟨hp, g, d, tk, os⟩ R2 hl z
    wp_walk
    refine wpAny_stack_any fun st => wpAny_pure ?_
    split
    · rename_i c _ _ _ _ _
      cases (c == Value.type "enumerate")
      · wp_walk using hi
        exact ⟨_, rfl, h⟩
      · wp_walk using hi
        exact ⟨_, rfl, h⟩
    · wp_walk using hi
      exact ⟨_, rfl, h⟩
section
variable {prog : Program} {w : World} {A : Around} {E : Value → Shared → Prop} {s : Shared}
theorem enum_tup {a : Addr} {items : Array Value} {Q : Value → Shared → Prop} (hT : s.heap.IsTuple a items)
    (h : ∀ h', IsEnum h' (s.heap.objs.size + 1) s.heap.objs.size 0 .none → h'.IsTupleIter s.heap.objs.size a 0 → h'.objs.size = s.heap.objs.size + 2 →
      (∀ b o, s.heap.get? b = some o → h'.get? b = some o) → Q (.ref (s.heap.objs.size + 1)) { s with heap := h' }) : wpAny (model prog w) A (call (.type "enumerate") [.ref a]) Q E s := by
  have B := begins_tuple a items
  refine callType_new F.called_enumerate (by decide) (F.typeCall_enumerate_1 _) (F.newCall_enumerate_1 _) (fun obj => F.args_object_init_2 obj _) F.entry_enumerate_new (meets_enum1 B) ⟨hT, ?_⟩
  generalize eo : ({ cls := .type "tuple_iterator", data := .fields #[.ref a, .int 0 0] } : Obj) = oi
  have fr : oi.isFreed = false := by rw [← eo]; rfl
  generalize ee : ({ cls := .type "enumerate", data := .fields #[.none, .bool false, .ref s.heap.objs.size, rawInt 0, .none, .none] } : Obj) = oe
  have fe : oe.isFreed = false := by rw [← ee]; rfl
  have z1 : (s.heap.push oi).objs.size = s.heap.objs.size + 1 := Heap.size_push _ _
  have g1 : (s.heap.push oi).get? s.heap.objs.size = some oi := Heap.get?_push_size _ fr
  have g2 : ((s.heap.push oi).push oe).get? (s.heap.objs.size + 1) = some oe := by
    rw [← z1]
    exact Heap.get?_push_size _ fe
  show _ ∧ _
  rw [z1]
  refine ⟨⟨oe, g2, by rw [← ee]⟩, h _ (by rw [← ee] at g2 ⊢; exact g2) ?_ (by rw [Heap.size_push, z1]) (fun b o x => Heap.get?_push_of_some _ (Heap.get?_push_of_some _ x))⟩
  exact ⟨oi, Heap.get?_push_of_some _ g1, by rw [← eo], by rw [← eo]; rfl⟩
end
/-- the tuple at a as it stands at each turn, each item in a new pair -/
def IteT (K : PySem.W.Frag) (a : Addr) : It :=
  ⟨fun i H => ∃ (xs : List V) (x : V), SqT K H a xs ∧ xs[i]? = some x, fun i H v H' => ∃ t x, v = .ref t ∧ H t = none ∧ H' = upd H t (.tup [.int (i : Nat), x]) ∧ ∀ xs, SqT K H a xs → xs[i]? = some x, fun i H => ∃ xs : List V, SqT K H a xs ∧ xs.length ≤ i⟩
theorem turn_enumT {P : Program} {w : World} {K : PySem.W.Frag} {elts : List Expr} {kk : Nat} {tpos : Pos} (a e it : Addr) :
    Turn P w K (.Tuple elts kk tpos) (IteT K a) [e, it] e (fun i h => (∃ old, IsEnum h e it ((i : Nat) : Int) old) ∧ h.IsTupleIter it a i ∧ e ≠ it) where
  mem := List.mem_cons_self
  obj := by
    rintro i h ⟨⟨old, he⟩, ⟨o, ho, hc, hd⟩, _⟩ b hb
    rcases List.mem_cons.mp hb with z | z
    · subst z
      exact ⟨_, he, fun v q => nomatch q⟩
    · obtain rfl : b = it := List.mem_singleton.mp z
      exact ⟨o, ho, fun v q => by rw [hd] at q; cases q⟩
  keep := by
    rintro i h h' ⟨⟨old, he⟩, hi, hne⟩ k
    exact ⟨⟨old, k e List.mem_cons_self _ he⟩, hi.at fun o q => k it (List.mem_cons_of_mem _ List.mem_cons_self) o q, hne⟩
  item := by
    intro X hP hw hK hc i pins s σ H E I hf st hg
    subst hP hw hK
    obtain ⟨⟨old, he⟩, hit, hne⟩ := st
    obtain ⟨xs, x, hq, hx⟩ := hg
    obtain ⟨its, rv, p, hz⟩ := I.tuple hq
    obtain ⟨u, hu, ru⟩ := rv.get hx
    have tl : s.heap.IsTuple a its.toArray := p
    have la : a < s.heap.objs.size := by obtain ⟨_, q, _⟩ := tl; exact Heap.lt_size q
    have le : e < s.heap.objs.size := Heap.lt_size he
    have li : it < s.heap.objs.size := by obtain ⟨_, q, _⟩ := hit; exact Heap.lt_size q
    have cls : ∀ {b : Addr}, (∃ o, s.heap.get? b = some o ∧ o.cls ≠ .type "tuple") → a ≠ b := by
      rintro b ⟨o, ho, hn⟩ z
      subst z
      obtain ⟨o2, h2, c2, _⟩ := tl
      rw [ho] at h2
      cases h2
      exact hn c2
    have ae : a ≠ e := cls ⟨_, he, by intro z; injection z with z; exact absurd z (by decide)⟩
    have ai : a ≠ it := cls (by obtain ⟨o, ho, hc', _⟩ := hit; exact ⟨o, ho, by rw [hc']; intro z; injection z with z; exact absurd z (by decide)⟩)
    have hn : i < its.toArray.size := by
      have := (List.getElem?_eq_some_iff.mp hu).1
      simpa using this
    refine wpAny_pyNext_enum_itemD (Draws.tuple (A := X.A.in1) (I.ok.hd hc) it a ai its.toArray) he ⟨hit, tl⟩ hn hne (by
      intro z
      rcases List.mem_cons.mp z with z | z
      · exact hne z
      · exact ae (List.mem_singleton.mp z).symm) ?_
    intro u' h' tk hx' ho hst hT hsz hk
    obtain rfl : u' = u := by
      have q : its[i]? = some u' := by simpa using hx'
      rw [hu] at q
      exact (Option.some.inj q).symm
    refine ⟨_, rfl, wpAny_letOwnedTupleGo_enum (s := { s with heap := h', toks := tk + 1 }) ho fun h'' he' sb => ?_⟩
    have hT2 : h''.get? s.heap.objs.size = some { cls := .type "tuple", data := .seq #[.int i tk, u'] } := (sb.2 _ (Nat.ne_of_gt le)).trans hT
    have new : ObjOk X.prog X.w (upd H s.heap.objs.size (.tup [.int (i : Nat), x])) h'' s.heap.objs.size (.tup [.int (i : Nat), x]) :=
      ⟨by show 2 ≤ sizeLine; decide, [.int i tk, u'], .cons ⟨_, rfl⟩ (.cons ru .nil), ⟨_, hT2, rfl, _, rfl⟩⟩
    have I1 : Inv X pins σ (upd H s.heap.objs.size (.tup [.int (i : Nat), x])) { s with heap := h'', toks := tk + 1 } := by
      refine I.turnedNew (ch := [e, it]) ?_ hf (Nat.le_refl _) new
      intro b ob hb q
      have be : b ≠ e := fun z => hb (by rw [z]; exact List.mem_cons_self)
      have bi : b ≠ it := fun z => hb (by rw [z]; exact List.mem_cons_of_mem _ List.mem_cons_self)
      exact (sb.2 b be).trans (hk b ob be bi q)
    refine ⟨.ref s.heap.objs.size, _, I1, rfl, ⟨_, x, rfl, I.hok.fresh (Nat.le_refl _), rfl, fun ys hy => by rw [I.tuple_inj hy hq]; exact hx⟩, ⟨⟨u', ?_⟩, hst.1.at fun o q => (sb.2 it (Ne.symm hne)).trans q, hne⟩, ?_⟩
    · have e1 : ((i + 1 : Nat) : Int) = (i : Int) + 1 := by omega
      rw [e1]
      exact he'
    · intro b hb
      have lb : b < s.heap.objs.size := by
        rcases List.mem_cons.mp hb with z | z
        · rw [z]; exact le
        · rw [List.mem_singleton.mp z]; exact li
      rw [upd_ne (Nat.ne_of_lt lb)]
      exact (hf b hb).1
  done := by
    intro X hP hw hK hc i pins s σ H E I hf st hg
    subst hP hw hK
    obtain ⟨⟨old, he⟩, hit, hne⟩ := st
    obtain ⟨xs, hq, hx⟩ := hg
    obtain ⟨its, rv, p, hz⟩ := I.tuple hq
    have tl : s.heap.IsTuple a its.toArray := p
    obtain ⟨f0, f1, f2, f3, f4, f5⟩ := hf it (List.mem_cons_of_mem _ List.mem_cons_self)
    have hl := rv.length
    have none : its.toArray[i]? = Option.none := by
      rw [List.getElem?_toArray]
      exact List.getElem?_eq_none (by omega)
    have D : Draws X.prog X.w X.A.in1 it [it, a] 0 (fun _ _ => False) (fun _ h => h.IsTupleIter it a i ∧ h.IsTuple a its.toArray) :=
      { live := fun _ _ z => let ⟨o, ho, _⟩ := z.1; ⟨o, ho⟩
        frame := fun _ _ _ z k => ⟨z.1.at fun o q => k it List.mem_cons_self o q, z.2.at fun o q => k a (List.mem_cons_of_mem _ List.mem_cons_self) o q⟩
        item := fun _ _ _ _ z => absurd z (Nat.not_lt_zero _)
        done := fun _ _ _ z hE => wpAny_nextOf_tuple_end (I.ok.hd hc) z.1 z.2 none hE }
    exact wpAny_pyNext_enum_endD D he ⟨hit, tl⟩ fun h' eb => ⟨rfl, I.turned (t' := s.toks) (fun b o hb q => eb b o hb q) f0 f1 f3 f4 f5⟩
  self := fun A i s Q E st h => let ⟨⟨_, he⟩, _⟩ := st; wpAny_pyIter_enum he h
def iEnumT (K : PySem.W.Frag) (ta : TA) : TI := fun σ H R => ta σ H fun vs H1 => ∃ a xs, vs = [.ref a] ∧ SqT K H1 a xs ∧ R (IteT K a) H1
theorem pi_enumT {X : Cx} {e : Expr} {ta : TA} {p pos tpos : Pos} {elts : List Expr} {kk : Nat} (hg : Gl X "enumerate") (hm : X.mg "enumerate" = none) (ha : PA X [e] ta) (hs : starEach [e] X.env = [(false, eval e X.env)] := by rfl) :
    PI X (.Tuple elts kk tpos) (.Call (.Name "enumerate" p) [e] [] pos) (iEnumT X.K ta) := by
  constructor
  intro pins s σ H R I h
  refine Call_ (ld_blt I hg hm boot_enumerate (PyProof.Rows.callWith_type1 (thn (ha.run pos pins s σ H _ I h) ?_) hs rfl))
  rintro us s1 ⟨vs, H1, I1, r1, a, xs, ex, hq, q⟩
  subst ex
  obtain rfl : us = [Value.ref a] := Vals.ref1 r1
  obtain ⟨its, rv, p', hz⟩ := I1.tuple hq
  refine enum_tup p' fun h' he hit hsz hk => wpAny_pyIter_enum he ?_
  have I2 : Inv X pins σ H1 { s1 with heap := h' } := I1.kept (t' := s1.toks) hk
  refine ⟨s1.heap.objs.size + 1, [s1.heap.objs.size + 1, s1.heap.objs.size], _, _, H1, rfl, I2, turn_enumT a (s1.heap.objs.size + 1) s1.heap.objs.size, ⟨⟨.none, he⟩, hit, Nat.succ_ne_self _⟩, ?_, q⟩
  intro b hb
  have hle : s1.heap.objs.size ≤ b := by
    rcases List.mem_cons.mp hb with z | z
    · rw [z]; exact Nat.le_add_right _ _
    · rw [List.mem_singleton.mp z]; exact Nat.le_refl _
  exact I1.fpOk hle (I1.hok.fresh hle)
theorem walk_enumT {K : PySem.W.Frag} {a : Addr} {xs : List V} : Walk (IteT K a) xs.length (fun H => SqT K H a xs) (YPair (fun i => some (.int (i : Nat))) (fun i => xs[i]?)) := by
  constructor
  · intro i H hi q
    exact ⟨xs, xs[i], q, List.getElem?_eq_getElem hi⟩
  · intro H q
    exact ⟨xs, q, Nat.le_refl _⟩
  · rintro i H v H' _ q ⟨t, x, h1, h2, h3, h4⟩
    exact ⟨t, .int (i : Nat), x, h1, h2, h3, rfl, h4 xs q⟩
end Rk
namespace Rk
open PySem PySem.Spec PyProof.Rows L2

/-! ### lists of ascending ints as lives -/
def Asc (is : List Int) : Prop := ∀ (i : Nat) (x y : Int), is[i]? = some x → is[i + 1]? = some y → x ≤ y
theorem asc_nil : Asc [] := fun i x y h => by simp at h
theorem asc_snoc {is : List Int} {z : Int} (h : Asc is) (hz : ∀ x ∈ is, x ≤ z) : Asc (is ++ [z]) := by
  intro i x y hx hy
  have hi : i + 1 < is.length + 1 := by
    have := (List.getElem?_eq_some_iff.mp hy).1
    simpa using this
  have h1 : is[i]? = some x := by
    rw [List.getElem?_append_left (by omega)] at hx
    exact hx
  by_cases hl : i + 1 < is.length
  · rw [List.getElem?_append_left hl] at hy
    exact h i x y h1 hy
  · have e : i + 1 = is.length := by omega
    rw [e, List.getElem?_append_right (Nat.le_refl _), Nat.sub_self] at hy
    have : z = y := Option.some.inj hy
    rw [← this]
    exact hz x (List.mem_of_getElem? h1)
theorem asc_init {is : List Int} {z : Int} (h : Asc (is ++ [z])) : Asc is := by
  intro i x y hx hy
  have l1 := (List.getElem?_eq_some_iff.mp hy).1
  exact h i x y (by rw [List.getElem?_append_left (by omega)]; exact hx) (by rw [List.getElem?_append_left l1]; exact hy)
theorem good_ints {ini : List Int} {z : Int} (h1 : ini.length ≤ 60) (hb : ∀ x ∈ ini ++ [z], 0 ≤ x ∧ x ≤ 10 ^ 18) (ha : Asc (ini ++ [z])) : Good (ini.map some ++ [some z]) := by
  have e : ini.map some ++ [some z] = (ini ++ [z]).map some := by rw [List.map_append]; rfl
  refine ⟨by simp, by simp; omega, ⟨ini, some z, rfl, fun i hi => hb i (List.mem_append_left _ hi), fun i hi => ?_⟩, fun i x y hx hy => ?_⟩
  · have : z = i := Option.some.inj hi
    exact hb i (List.mem_append_right _ (by rw [this]; exact List.mem_singleton_self _))
  · rw [e, List.getElem?_map] at hx hy
    cases ex : (ini ++ [z])[i]? with
    | none => rw [ex] at hx; cases hx
    | some a =>
      cases ey : (ini ++ [z])[i + 1]? with
      | none => rw [ey] at hy; cases hy
      | some b =>
        rw [ex] at hx
        rw [ey] at hy
        cases hx
        cases hy
        exact decide_eq_true (ha i a b ex ey)
theorem good_none {is : List Int} (h1 : is.length ≤ 60) (hb : ∀ x ∈ is, 0 ≤ x ∧ x ≤ 10 ^ 18) (ha : Asc is) : Good (is.map some ++ [none]) := by
  refine ⟨by simp, by simp; omega, ⟨is, none, rfl, hb, fun i hi => by cases hi⟩, fun i x y hx hy => ?_⟩
  have hi : i + 1 < is.length + 1 := by
    have := (List.getElem?_eq_some_iff.mp hy).1
    simpa using this
  by_cases hl : i + 1 < is.length
  · rw [List.getElem?_append_left (by rw [List.length_map]; exact hl), List.getElem?_map] at hy
    rw [List.getElem?_append_left (by rw [List.length_map]; omega), List.getElem?_map] at hx
    cases ex : is[i]? with
    | none => rw [ex] at hx; cases hx
    | some a =>
      cases ey : is[i + 1]? with
      | none => rw [ey] at hy; cases hy
      | some b =>
        rw [ex] at hx
        rw [ey] at hy
        cases hx
        cases hy
        exact decide_eq_true (ha i a b ex ey)
  · have e : i + 1 = (is.map some).length := by rw [List.length_map]; omega
    rw [e, List.getElem?_append_right (Nat.le_refl _), Nat.sub_self] at hy
    have : (none : Option Int) = y := Option.some.inj hy
    rw [← this]
    rfl
theorem map_lv_some (is : List Int) : (is.map some).map lv = is.map V.int := by
  rw [List.map_map]
  rfl

/-! ### the worst distance does not fall with the age -/
def wid (x : Option Int) : Int := match x with
  | none => 10 ^ 30
  | some i => i
theorem due_big {a : Int} : ∀ (ls : List (Option Int)) (j : Nat), j + ls.length ≤ 62 → 2 ^ j - 1 ≤ wid (due j ls a) ∧ wid (due j ls a) ≤ 10 ^ 30
  | [], j, h => by
    have h1 : (2 : Nat) ^ j ≤ 2 ^ 62 := Nat.pow_le_pow_right (by decide) (by simp at h; omega)
    have h2 : ((2 ^ j : Nat) : Int) = (2 : Int) ^ j := by rw [Int.natCast_pow]; rfl
    refine ⟨?_, Int.le_refl _⟩
    show (2 : Int) ^ j - 1 ≤ 10 ^ 30
    omega
  | l :: r, j, h => by
    have h1 : (2 : Nat) ^ j ≤ 2 ^ 62 := Nat.pow_le_pow_right (by decide) (by simp at h; omega)
    have h2 : ((2 ^ j : Nat) : Int) = (2 : Int) ^ j := by rw [Int.natCast_pow]; rfl
    have ih := due_big (a := a) r (j + 1) (by simp at h; omega)
    have e : due j (l :: r) a = if leO (some (a + 2 ^ j)) l = true then some (2 ^ j - 1) else due (j + 1) r a := rfl
    rw [e]
    by_cases hc : leO (some (a + 2 ^ j)) l = true
    · rw [if_pos hc]
      show (2 : Int) ^ j - 1 ≤ 2 ^ j - 1 ∧ (2 : Int) ^ j - 1 ≤ 10 ^ 30
      omega
    · rw [if_neg hc]
      have e3 : (2 : Int) ^ (j + 1) = 2 ^ j * 2 := Int.pow_succ _ _
      have h3 : (0 : Int) < 2 ^ j := Int.pow_pos (by decide)
      omega
theorem due_mono {a b : Int} (hab : a ≤ b) : ∀ (ls : List (Option Int)) (j : Nat), j + ls.length ≤ 62 → wid (due j ls a) ≤ wid (due j ls b)
  | [], _, _ => Int.le_refl _
  | l :: r, j, h => by
    have ea : due j (l :: r) a = if leO (some (a + 2 ^ j)) l = true then some (2 ^ j - 1) else due (j + 1) r a := rfl
    have eb : due j (l :: r) b = if leO (some (b + 2 ^ j)) l = true then some (2 ^ j - 1) else due (j + 1) r b := rfl
    rw [ea, eb]
    have ih := due_mono hab r (j + 1) (by simp at h; omega)
    by_cases hb : leO (some (b + 2 ^ j)) l = true
    · have ha : leO (some (a + 2 ^ j)) l = true := by
        cases l with
        | none => rfl
        | some i =>
          have : b + 2 ^ j ≤ i := of_decide_eq_true hb
          exact decide_eq_true (by omega)
      rw [if_pos ha, if_pos hb]
      exact Int.le_refl _
    · rw [if_neg hb]
      by_cases ha : leO (some (a + 2 ^ j)) l = true
      · rw [if_pos ha]
        have := (due_big (a := b) r (j + 1) (by simp at h; omega)).1
        have e3 : (2 : Int) ^ (j + 1) = 2 ^ j * 2 := Int.pow_succ _ _
        have h2 : (0 : Int) < 2 ^ j := Int.pow_pos (by decide)
        show (2 : Int) ^ j - 1 ≤ _
        omega
      · rw [if_neg ha]
        exact ih
theorem wids_sorted (ls : List (Option Int)) (h : ls.length ≤ 62) (n : Nat) : ((List.range n).map fun k => wid (due 0 ls ((k : Nat) : Int))).Pairwise (· ≤ ·) := by
  rw [List.pairwise_map]
  exact List.Pairwise.imp (fun {a b} (z : a < b) => due_mono (by omega) ls 0 (by omega)) List.pairwise_lt_range
/-! ### repr of what is due -/
theorem shownInt {i : Int} (h : i.natAbs.log2 < 1920) : (PyData.int i).shown.length ≤ sizeLine := int_text_fits h
def dO : Option Int → PyData
  | none => .none
  | some i => .int i
theorem dp_lv {K : PySem.W.Frag} {H : Hp} (x : Option Int) : Dp K H (lv x) (dO x) := by
  cases x with
  | none => exact .non
  | some i => exact .int i
/-- repr of None or an int of less than 600 bits -/
theorem repr_ok {x : Option Int} (hx : ∀ i, x = some i → i.natAbs < 2 ^ 600) : (dO x).showable = true ∧ (dO x).hasDict = false ∧ (dO x).depth ≤ 60 ∧ (dO x).shown.length ≤ sizeLine := by
  refine ⟨?_, ?_, ?_, ?_⟩
  · cases x with
    | none => rfl
    | some i =>
      refine decide_eq_true ?_
      have := PySem.Flt.log2_lt_of (by decide : 0 < 600) (hx i rfl)
      omega
  · cases x <;> rfl
  · cases x <;> simp [dO, PyData.depth]
  · cases x with
    | none => decide +kernel
    | some i =>
      refine shownInt ?_
      have := PySem.Flt.log2_lt_of (by decide : 0 < 600) (hx i rfl)
      omega
theorem due_600 {ls : List (Option Int)} {a i : Int} (h : ls.length ≤ 61) (e : due 0 ls a = some i) : i.natAbs < 2 ^ 600 := by
  have hb := due_big (a := a) ls 0 (by omega)
  rw [e] at hb
  have h1 : (0 : Int) ≤ i := by
    have : (2 : Int) ^ 0 - 1 ≤ i := hb.1
    simpa using this
  have h2 : i ≤ 10 ^ 30 := hb.2
  exact Nat.lt_of_le_of_lt (show i.natAbs ≤ 10 ^ 30 by omega) (Nat.lt_of_lt_of_le (show 10 ^ 30 < 2 ^ 100 by decide) (Nat.pow_le_pow_right (by decide) (by decide)))
/-! ### a list of ints as data -/
theorem dpAll_ints {K : PySem.W.Frag} {H : Hp} : ∀ ns : List Int, DpAll K H (ns.map V.int) (ns.map PyData.int)
  | [] => .nil
  | n :: r => .cons (.int n) (dpAll_ints r)
theorem lay_ints : ∀ ns : List Int, PyData.canLayAll0 (ns.map PyData.int) = true ∧ PyData.depthAll (ns.map PyData.int) = 0
  | [] => ⟨rfl, rfl⟩
  | n :: r => by
    have ih := lay_ints r
    constructor
    · show (true && PyData.canLayAll0 (r.map PyData.int)) = true
      rw [ih.1]
      rfl
    · show max 0 (PyData.depthAll (r.map PyData.int)) = 0
      rw [ih.2]
      rfl
theorem shaped_ints (ns : List Int) : SeqAt.shaped (.list (ns.map PyData.int)) = true := by
  have h := lay_ints ns
  unfold SeqAt.shaped
  have e1 : PyData.canLay0 (.list (ns.map PyData.int)) = true := h.1
  have e2 : PyData.depth (.list (ns.map PyData.int)) = 1 := by
    show PyData.depthAll (ns.map PyData.int) + 1 = 1
    rw [h.2]
  rw [e1, e2]
  rfl
end Rk
namespace Rk
open PySem PySem.Spec PyProof.Rows L2
open PySem.W (InstAt findIn isFn subIn mroIn)

/-! ### operators of an own class -/
section
variable {X : Cx} {pins : List (Addr × Obj)} {σ : L2.St} {H : Hp} {s : Shared} {k : Nat} {f C : Addr} {sp : Sp}
theorem ins_inst {a dx : Addr} {fs : List (Str × V)} (I : Inv X pins σ H s) (h : H a = some (.ins C dx fs)) : ∃ ox od, InstAt s.heap a ox C (some od) := by
  obtain ⟨mA, O, _⟩ := ins_get I.hok h
  obtain ⟨od, J, _⟩ := O.look
  exact ⟨_, od, J⟩
/-- what comes back from the method, seen by the operator -/
theorem back_of {Q : VK} {v : Value} {s' : Shared} (h : EP X pins σ Q v s') : PySem.W.CmpBack (EP X pins σ Q) v s' := by
  obtain ⟨x, H', I', r, q⟩ := h
  cases x with
  | non => cases r; exact ⟨.non, H', I', rfl, q⟩
  | bl b => cases r; exact ⟨.bl b, H', I', rfl, q⟩
  | int i => obtain ⟨t, rfl⟩ := (show ∃ t, v = Value.int i t from r); exact ⟨.int i, H', I', ⟨t, rfl⟩, q⟩
  | str z => obtain ⟨t, rfl⟩ := (show ∃ t, v = Value.str z t from r); exact ⟨.str z, H', I', ⟨t, rfl⟩, q⟩
  | byt z => obtain ⟨t, rfl⟩ := (show ∃ t, v = Value.bytes z t from r); exact ⟨.byt z, H', I', ⟨t, rfl⟩, q⟩
  | flt z => obtain ⟨t, rfl⟩ := (show ∃ t, v = Value.float z t from r); exact ⟨.flt z, H', I', ⟨t, rfl⟩, q⟩
  | ref a => cases r; exact ⟨.ref a, H', I', rfl, q⟩
  | ty n => cases r; exact ⟨.ty n, H', I', rfl, q⟩
theorem run_own {A : Around} {x y : V} {v u : Value} {Q : VK} (F : FnR X.prog X.w X.K X.mg X.base CX0 k f sp) (hr : Room k X.A) (I : Inv X pins σ H s) (rx : RelV x v) (ry : RelV y u) (h : sp [x, y] H Q E0) :
    wpAny (model X.prog X.w) X.A (call (.ref f) [v, u]) (PySem.W.CmpBack (EP X pins σ Q)) X.xe s :=
  wpAny_mono (wpAny_call (run_fnR F hr pass0 I (.cons rx (.cons ry .nil)) h)) (fun _ _ z => back_of z) fun _ _ z => z
def rOwn2 (C : Addr) (sp : Sp) : R2 := fun x y H Q => ∃ a b dx dy fs gs, x = .ref a ∧ y = .ref b ∧ H a = some (.ins C dx fs) ∧ H b = some (.ins C dy gs) ∧ sp [.ref a, .ref b] H Q E0
structure OwnOp (K : PySem.W.Frag) (C f : Addr) (m : Str) : Prop where
  at_ : findIn K (.ref C) m = some (some (.ref f))
  fn : isFn K (.ref f) = true
/-- one op other, both of the class -/
theorem op_own2 {op : Operator} (c : PySem.W.selfFirst X.K C = true) (m : OwnOp X.K C f (PySem.dunder op.info.2)) (F : FnR X.prog X.w X.K X.mg X.base CX0 k f sp) (hr : Room k X.A) : OpR X (binaryOp op) (rOwn2 C sp) := by
  intro pins s σ H x y v u Q I rx ry h
  obtain ⟨a, b, dx, dy, fs, gs, rfl, rfl, ha, hb, q⟩ := h
  cases rx
  cases ry
  obtain ⟨oa, da, Ja⟩ := ins_inst I ha
  obtain ⟨ob, db, Jb⟩ := ins_inst I hb
  obtain ⟨mm, hF⟩ := I.fr
  exact PySem.W.binop_K hF I.ok.mod.kin Ja Jb.type c m.at_ m.fn (run_own (A := X.A) (x := .ref a) (y := .ref b) F hr I rfl rfl q)
/-- the comparison one op other by the class's own method -/
theorem op_ownC {op : CmpOp} (hop : ∀ v u, compareOp op v u = richCompare op v u) (m : OwnOp X.K C f (cmpInfo op).2.1) (F : FnR X.prog X.w X.K X.mg X.base CX0 k f sp) (hr : Room k X.A) : OpR X (compareOp op) (rOwn2 C sp) := by
  intro pins s σ H x y v u Q I rx ry h
  obtain ⟨a, b, dx, dy, fs, gs, rfl, rfl, ha, hb, q⟩ := h
  cases rx
  cases ry
  obtain ⟨oa, da, Ja⟩ := ins_inst I ha
  obtain ⟨ob, db, Jb⟩ := ins_inst I hb
  obtain ⟨mm, hF⟩ := I.fr
  rw [hop]
  exact PySem.W.cmp_K hr.units0 hF I.ok.mod.kin Ja Jb.type (by simp [PySem.W.notFirst]) m.at_ m.fn (run_own (A := X.A) (x := .ref a) (y := .ref b) F hr I rfl rfl q)
/-- rule + n: the right one an int -/
structure OwnInt (K : PySem.W.Frag) (C : Addr) (nm : String) : Prop where
  rev : ∃ rc, findIn K (.ref C) (dunderR nm) = some rc ∧ (rc = none ∨ ∃ g : Addr, rc = some (.ref g))
  fo : ∃ fo, findIn K (.type "int") (PySem.dunder nm) = some fo
  ro : ∃ ro, findIn K (.type "int") (dunderR nm) = some ro
  sub : subIn K (.type "int") (.ref C) = some false
def rOwnI (C : Addr) (sp : Sp) : R2 := fun x y H Q => ∃ a dx fs i, x = .ref a ∧ y = .int i ∧ H a = some (.ins C dx fs) ∧ sp [.ref a, .int i] H Q E0
theorem op_ownI {op : Operator} (c : PySem.W.selfFirst X.K C = true) (m : OwnOp X.K C f (PySem.dunder op.info.2)) (n : OwnInt X.K C op.info.2) (F : FnR X.prog X.w X.K X.mg X.base CX0 k f sp) (hr : Room k X.A) : OpR X (binaryOp op) (rOwnI C sp) := by
  intro pins s σ H x y v u Q I rx ry h
  obtain ⟨a, dx, fs, i, rfl, rfl, ha, q⟩ := h
  cases rx
  obtain ⟨oa, da, Ja⟩ := ins_inst I ha
  obtain ⟨mm, hF⟩ := I.fr
  obtain ⟨rc, h1, h2⟩ := n.rev
  obtain ⟨fo, h3⟩ := n.fo
  obtain ⟨ro, h4⟩ := n.ro
  obtain ⟨t, rfl⟩ := (show ∃ t, u = Value.int i t from ry)
  exact PySem.W.ksp_binT hF I.ok.mod.kin Ja (by rfl) c m.at_ m.fn h1 h2 h3 h4 n.sub (run_own (A := X.A) (x := .ref a) (y := .int i) F hr I rfl ⟨t, rfl⟩ q)
/-- one != other, the class having == alone: the answer turned -/
structure OwnNe (K : PySem.W.Frag) (C f : Addr) : Prop where
  eq : OwnOp K C f "__eq__"
  ne : findIn K (.ref C) "__ne__" = some (some (.builtin "object.__ne__"))
  ob : mroIn K C (.type "object") = some true
def rOwnNe (C : Addr) (sp : Sp) : R2 := fun x y H Q => ∃ a b dx dy fs gs, x = .ref a ∧ y = .ref b ∧ H a = some (.ins C dx fs) ∧ H b = some (.ins C dy gs) ∧ sp [.ref a, .ref b] H (fun v H' => ∃ r, v = .bl r ∧ Q (.bl (!r)) H') E0
theorem op_ownNe (m : OwnNe X.K C f) (F : FnR X.prog X.w X.K X.mg X.base CX0 k f sp) (hr : Room (k + 1) X.A) : OpR X (compareOp .NotEq) (rOwnNe C sp) := by
  intro pins s σ H x y v u Q I rx ry h
  obtain ⟨a, b, dx, dy, fs, gs, rfl, rfl, ha, hb, q⟩ := h
  cases rx
  cases ry
  obtain ⟨oa, da, Ja⟩ := ins_inst I ha
  obtain ⟨ob, db, Jb⟩ := ins_inst I hb
  have kin := I.kIn
  show wpAny (model X.prog X.w) X.A (richCompare .NotEq (.ref a) (.ref b)) (EP X pins σ Q) X.xe s
  unfold richCompare
  simp only [oneThing_ref]
  refine wpAny_holding (wpAny_bind (wpAny_cRoomFor hr.units0 (wpAny_bind (Ja.type.here (wpAny_bind (Jb.type.here ?_))))))
  rw [cmpInfo_NotEq]
  dsimp only
  rw [show (Value.ref C != Value.ref C) = false from by simp]
  simp only [Bool.false_eq_true, if_false]
  refine wpAny_bind (wpAny_pure ?_)
  simp only [Bool.false_eq_true, if_false]
  refine wpAny_bind ?_
  have hin : PySem.W.Looks (model X.prog X.w) s.heap (isInstance (.ref a) (.type "object")) true := Ja.type.andThen (f := fun t => isSubtype t (.type "object")) (PySem.W.looks_mroIn kin m.ob)
  have body : wpAny (model X.prog X.w) X.A (call (.builtin "object.__ne__") [.ref a, .ref b]) (EP X pins σ Q) X.xe s := by
    refine wpAny_call (codeAny_call_builtin PySem.F.cmp_object.ne.plain PySem.F.cmpEntry_ne (PySem.W.check_slot PySem.F.cmpKind_ne PySem.F.cmpSplit_ne hin (PySem.F.cmpArgs_ne _ _) ?_))
    unfold Builtin.«object.__ne__»
    refine wpAny_bind (m := slotArgs "__ne__" 1 _) (wpAny_pure ?_)
    dsimp only
    refine wpAny_bind (m := cRoomFor _ _) (wpAny_cRoomFor (by have := hr.units0; have := hr.un; show X.A.units + 1 < cLine; omega) ?_)
    refine wpAny_bind (PySem.W.ifBound_K kin Ja m.eq.at_ m.eq.fn ?_)
    refine wpAny_call (codeAny_mono (F X.A.in1 X.stack s H [.ref a, .ref b] [.ref a, .ref b] _ E0 hr.in1 I.env0.in1 (.cons rfl (.cons rfl .nil)) q) ?_)
    intro r s' z
    cases r with
    | error e => exact z.elim
    | ok fl =>
      cases fl with
      | ret u =>
        obtain ⟨v, H', I', rv, c, rfl, q2⟩ := I.after z
        obtain rfl : u = Value.bool c := rv
        dsimp only
        refine wpAny_bind (wpAny_truthy_bool ?_)
        exact wpAny_pure ⟨.bl (!c), H', I', rfl, q2⟩
      | _ => exact z.elim
  unfold tryCompare
  simp only [callSpecialIfBound?, bindSpecialIfBound?]
  refine wpAny_bind (wpAny_holding (wpAny_bind (wpAny_bind (wpAny_bind (Ja.type.here ((PySem.W.looks_findIn kin m.ne).here ?_))))))
  refine wpAny_bind (wpAny_askSetting (wpAny_ite ?_))
  have hbn : bindSpecial (.builtin "object.__ne__") (.ref a) = pure (.builtin "object.__ne__", [.ref a]) := PySem.F.cmp_object.ne.bind _
  rw [hbn]
  have step : ∀ (v : Value) (s' : Shared), EP X pins σ Q v s' → PySem.W.CmpBack (EP X pins σ Q) v s' := fun _ _ z => back_of z
  split
  · refine wpAny_bind (wpAny_pure (wpAny_pure (wpAny_bind (wpAny_mono body ?_ fun _ _ z => z))))
    intro v s' z
    have z2 := step v s' z
    cases v <;> first | exact z2.elim | exact wpAny_pure (wpAny_pure (wpAny_pure z))
  · refine wpAny_tryCatch (wpAny_bind (wpAny_pure (wpAny_pure (wpAny_bind (wpAny_mono body ?_ fun _ _ z => z)))))
    intro v s' z
    have z2 := step v s' z
    cases v <;> first | exact z2.elim | exact wpAny_pure (wpAny_pure (wpAny_pure z))
end
end Rk
namespace Rk
open PySem PySem.Spec PyProof.Rows L2

/-! ### lives rank by rank -/
def lifeAt (ls : List (Option Int)) (n : Nat) : Option Int := match ls[n]? with
  | some x => x
  | none => match ls.getLast? with
    | some x => x
    | none => none
def maxO (x y : Option Int) : Option Int := if leO x y = true then y else x
def minO (x y : Option Int) : Option Int := if leO x y = true then x else y
theorem lifeAt_lt {ls : List (Option Int)} {n : Nat} {x : Option Int} (h : ls[n]? = some x) : lifeAt ls n = x := by
  unfold lifeAt
  rw [h]
theorem lifeAt_ge {ls : List (Option Int)} {n : Nat} {x : Option Int} (h : ls.length ≤ n) (hx : ls.getLast? = some x) : lifeAt ls n = x := by
  unfold lifeAt
  rw [List.getElem?_eq_none h, hx]
/-- the first n lives -/
def rows (g : Nat → Option Int) (n : Nat) : List (Option Int) := (List.range n).map g
theorem rows_get {g : Nat → Option Int} {n i : Nat} (h : i < n) : (rows g n)[i]? = some (g i) := by
  unfold rows
  rw [List.getElem?_map, List.getElem?_range h]
  rfl
theorem rows_length (g : Nat → Option Int) (n : Nat) : (rows g n).length = n := by
  unfold rows
  rw [List.length_map, List.length_range]
theorem rows_succ (g : Nat → Option Int) (n : Nat) : rows g (n + 1) = rows g n ++ [g n] := by
  unfold rows
  rw [List.range_succ, List.map_append]
  rfl
theorem rows_take (g : Nat → Option Int) {m n : Nat} (h : m ≤ n) : (rows g n).take m = rows g m := by
  unfold rows
  rw [← List.map_take, List.take_range, Nat.min_eq_left h]
/-- the cut looks at the first n alone -/
theorem cutN_rows (g : Nat → Option Int) {n N : Nat} (h : n ≤ N) : cutN (rows g N) n = cutN (rows g n) n := by
  have key : ∀ m, m ≤ n → cutN (rows g N) m = cutN (rows g n) m := by
    intro m
    induction m using Nat.strongRecOn with
    | ind m ih =>
      intro hm
      match m, hm with
      | 0, _ => rfl
      | 1, _ => rfl
      | j + 2, hm =>
        have e1 : (rows g N)[j + 1]? = (rows g n)[j + 1]? := by rw [rows_get (by omega), rows_get (by omega)]
        have e0 : (rows g N)[j]? = (rows g n)[j]? := by rw [rows_get (by omega), rows_get (by omega)]
        by_cases h : (rows g n)[j + 1]? = (rows g n)[j]?
        · rw [cutN_eq h, cutN_eq (by rw [e1, e0]; exact h)]
          exact ih (j + 1) (by omega) (by omega)
        · rw [cutN_ne h, cutN_ne (by rw [e1, e0]; exact h)]
  exact key n (Nat.le_refl _)
theorem short_rows_succ (g : Nat → Option Int) {n : Nat} (h0 : 0 < n) (h : g n = g (n - 1)) : short (rows g (n + 1)) = short (rows g n) := by
  obtain ⟨j, rfl⟩ : ∃ j, n = j + 1 := ⟨n - 1, by omega⟩
  have e : (rows g (j + 2))[j + 1]? = (rows g (j + 2))[j]? := by
    rw [rows_get (by omega), rows_get (by omega)]
    exact congrArg some h
  unfold short
  rw [rows_length, rows_length, cutN_eq e, cutN_rows g (by omega : j + 1 ≤ j + 2)]
  have hc := cutN_le (rows g (j + 1)) (j + 1)
  rw [rows_take g (by omega), rows_take g hc]
/-- from n on the same: any longer list of them has the same shortest one -/
theorem short_rows (g : Nat → Option Int) {n : Nat} (h0 : 0 < n) (h : ∀ m, n ≤ m → g m = g (n - 1)) : ∀ k, short (rows g (n + k)) = short (rows g n)
  | 0 => rfl
  | k + 1 => by
    rw [← short_rows g h0 h k]
    have e : g (n + k) = g (n + k - 1) := by
      rw [h (n + k) (by omega)]
      by_cases hk : k = 0
      · rw [hk]
        rfl
      · exact (h (n + k - 1) (by omega)).symm
    exact short_rows_succ g (by omega : 0 < n + k) e
theorem rows_lifeAt (ls : List (Option Int)) : rows (lifeAt ls) ls.length = ls := by
  apply List.ext_getElem?
  intro i
  by_cases h : i < ls.length
  · rw [rows_get h, List.getElem?_eq_getElem h, lifeAt_lt (List.getElem?_eq_getElem h)]
  · rw [List.getElem?_eq_none (by rw [rows_length]; omega), List.getElem?_eq_none (by omega)]
theorem lifeAt_const {ls : List (Option Int)} (h0 : 0 < ls.length) : ∀ m, ls.length ≤ m → lifeAt ls m = lifeAt ls (ls.length - 1) := by
  intro m hm
  obtain ⟨x, hx⟩ : ∃ x, ls.getLast? = some x := by
    cases ls with
    | nil => simp at h0
    | cons a r => exact ⟨_, List.getLast?_eq_some_getLast (by simp)⟩
  rw [lifeAt_ge hm hx]
  rw [List.getLast?_eq_getElem?] at hx
  rw [lifeAt_lt hx]
/-- the life of a rank does not change by cutting -/
theorem lifeAt_cut {ls : List (Option Int)} (h0 : 0 < ls.length) : ∀ n, 0 < n → n ≤ ls.length → ∀ i, lifeAt (ls.take (cutN ls n)) i = lifeAt (ls.take n) i := by
  intro n
  induction n using Nat.strongRecOn with
  | ind n ih =>
    intro hn hl i
    match n, hn, hl with
    | 1, _, _ => rfl
    | j + 2, _, hl =>
      by_cases h : ls[j + 1]? = ls[j]?
      · rw [cutN_eq h, ih (j + 1) (by omega) (by omega) (by omega) i]
        have lj : (ls.take (j + 1)).length = j + 1 := by rw [List.length_take]; omega
        have lj2 : (ls.take (j + 2)).length = j + 2 := by rw [List.length_take]; omega
        have last1 : (ls.take (j + 1)).getLast? = ls[j]? := by
          rw [List.getLast?_eq_getElem?, lj]
          exact List.getElem?_take_of_lt (by omega)
        have last2 : (ls.take (j + 2)).getLast? = ls[j + 1]? := by
          rw [List.getLast?_eq_getElem?, lj2]
          exact List.getElem?_take_of_lt (by omega)
        have hx : ls[j]? = some ls[j] := List.getElem?_eq_getElem (by omega)
        by_cases hi : i < j + 1
        · have a1 : (ls.take (j + 1))[i]? = some ls[i] := by rw [List.getElem?_take_of_lt hi]; exact List.getElem?_eq_getElem (by omega)
          have a2 : (ls.take (j + 2))[i]? = some ls[i] := by rw [List.getElem?_take_of_lt (by omega)]; exact List.getElem?_eq_getElem (by omega)
          rw [lifeAt_lt a1, lifeAt_lt a2]
        · rw [lifeAt_ge (by omega) (last1.trans hx)]
          by_cases hi2 : i < j + 2
          · have e : i = j + 1 := by omega
            subst e
            have a2 : (ls.take (j + 2))[j + 1]? = some ls[j] := by rw [List.getElem?_take_of_lt (by omega), h, hx]
            rw [lifeAt_lt a2]
          · rw [lifeAt_ge (by omega) (last2.trans (h.trans hx))]
      · rw [cutN_ne h]
theorem lifeAt_short {ls : List (Option Int)} (h0 : 0 < ls.length) (i : Nat) : lifeAt (short ls) i = lifeAt ls i := by
  unfold short
  rw [lifeAt_cut h0 _ h0 (Nat.le_refl _), List.take_length]
theorem short_len_pos {ls : List (Option Int)} (h : 0 < ls.length) : 0 < (short ls).length := by
  have := cutN_pos ls ls.length h
  unfold short
  rw [List.length_take]
  omega
theorem short_len_le (ls : List (Option Int)) : (short ls).length ≤ ls.length := by
  unfold short
  rw [List.length_take]
  omega
/-- lives of ranks by g, at n and more the same: whatever list of them is taken -/
theorem short_any (g : Nat → Option Int) {n m : Nat} (h0 : 0 < n) (h : ∀ k, n ≤ k → g k = g (n - 1)) (hm : n ≤ m) : short (rows g m) = short (rows g n) := by
  obtain ⟨k, rfl⟩ : ∃ k, m = n + k := ⟨m - n, by omega⟩
  exact short_rows g h0 h k
/-! ### lives as data -/
def dLs (ls : List (Option Int)) : PyData := .tuple (ls.map dO)
theorem dpAll_lv {K : PySem.W.Frag} {H : Hp} : ∀ ls : List (Option Int), DpAll K H (ls.map lv) (ls.map dO)
  | [] => .nil
  | x :: r => .cons (dp_lv x) (dpAll_lv r)
theorem dp_lives {K : PySem.W.Frag} {H : Hp} {a : Addr} {ls : List (Option Int)} (h : SqT K H a (ls.map lv)) : Dp K H (.ref a) (dLs ls) := .tup h (dpAll_lv ls)
theorem eqv_lv (x y : Option Int) : PyData.eqv (dO x) (dO y) = decide (x = y) := by
  cases x with
  | none => cases y <;> simp [dO, PyData.eqv]
  | some i =>
    cases y with
    | none => simp [dO, PyData.eqv]
    | some j =>
      show (i == j) = decide (some i = some j)
      rw [Bool.eq_iff_iff]
      simp
theorem eqv_all : ∀ ls ms : List (Option Int), PyData.eqvAll (ls.map dO) (ms.map dO) = decide (ls = ms)
  | [], [] => rfl
  | [], _ :: _ => rfl
  | _ :: _, [] => rfl
  | x :: r, y :: q => by
    show (PyData.eqv (dO x) (dO y) && PyData.eqvAll (r.map dO) (q.map dO)) = decide (x :: r = y :: q)
    rw [eqv_lv, eqv_all r q, Bool.eq_iff_iff]
    simp
theorem eqv_lives (ls ms : List (Option Int)) : PyData.eqv (dLs ls) (dLs ms) = decide (ls = ms) := eqv_all ls ms
theorem lay_lives : ∀ ls : List (Option Int), PyData.canLayAll0 (ls.map dO) = true ∧ PyData.depthAll (ls.map dO) = 0
  | [] => ⟨rfl, rfl⟩
  | x :: r => by
    have ih := lay_lives r
    constructor
    · show (PyData.canLay0 (dO x) && PyData.canLayAll0 (r.map dO)) = true
      rw [ih.1]
      cases x <;> rfl
    · show max (PyData.depth (dO x)) (PyData.depthAll (r.map dO)) = 0
      rw [ih.2]
      cases x <;> rfl
theorem shaped_lives (ls : List (Option Int)) : SeqAt.shaped (dLs ls) = true := by
  have h := lay_lives ls
  unfold SeqAt.shaped
  have e1 : PyData.canLay0 (dLs ls) = true := h.1
  have e2 : PyData.depth (dLs ls) = 1 := by
    show PyData.depthAll (ls.map dO) + 1 = 1
    rw [h.2]
  rw [e1, e2]
  rfl
def addO (n : Int) (x : Option Int) : Option Int := x.map (· + n)
end Rk
namespace Rk
open PySem PySem.Spec PyProof.Rows L2
open Sem (wp)

/-! ### list(zip(a, b)) of two lists -/
theorem zip_no_len : typeLookup (.type "zip") "__len__" = pure none := am_miss_of_fast (by decide +kernel)
theorem zip_no_hint : typeLookup (.type "zip") "__length_hint__" = pure none := am_miss_of_fast (by decide +kernel)
structure ZlSt (h : Heap) (z TI TO i1 i2 l1 l2 S : Addr) (xs ys : Array Value) (k : Nat) : Prop where
  pi : IsPair h TI (.ref i1) (.ref i2)
  h1 : h.IsListIter i1 l1 k
  h2 : h.IsListIter i2 l2 k
  hl1 : h.IsList l1 xs
  hl2 : h.IsList l2 ys
  hz : (IsZip h z TI TO .none ∧ ∃ a b, IsPair h TO a b) ∨ ∃ T f oT, IsZipHeld h z TI TO T f ∧ h.get? T = some oT ∧ T ≠ z ∧ T ≠ i1 ∧ T ≠ i2 ∧ T ≠ S
/-- the pairs laid so far -/
structure ZlG (xs ys : Array Value) (lo : Addr) (h : Heap) (as : List Addr) : Prop where
  rise : as.Pairwise (· < ·)
  above : ∀ a ∈ as, lo < a
  pairs : ∀ (j : Nat) (a : Addr), as[j]? = some a → ∃ x y, xs[j]? = some x ∧ ys[j]? = some y ∧ h.get? a = some { cls := .type "tuple", data := .seq #[x, y] }
theorem ZlG.there {xs ys : Array Value} {lo : Addr} {h : Heap} {as : List Addr} (g : ZlG xs ys lo h as) {a : Addr} (ha : a ∈ as) : a < h.objs.size := by
  obtain ⟨j, hj⟩ := List.mem_iff_getElem?.mp ha
  obtain ⟨_, _, _, _, e⟩ := g.pairs j a hj
  exact Heap.lt_size e
structure ZlOff (z TI TO i1 i2 l1 l2 S : Addr) : Prop where
  z : z ≠ S
  TI : TI ≠ S
  TO : TO ≠ S
  i1 : i1 ≠ S
  i2 : i2 ≠ S
  l1 : l1 ≠ S
  l2 : l2 ≠ S
theorem ZlSt.keep {h h' : Heap} {z TI TO i1 i2 l1 l2 S : Addr} {xs ys : Array Value} {k : Nat} (st : ZlSt h z TI TO i1 i2 l1 l2 S xs ys k) (o : ZlOff z TI TO i1 i2 l1 l2 S) (hk : ∀ b u, b ≠ S → h.get? b = some u → h'.get? b = some u) : ZlSt h' z TI TO i1 i2 l1 l2 S xs ys k := by
  obtain ⟨a1, a2, a3, a4, a5, a6⟩ := st
  refine ⟨hk _ _ o.TI a1, a2.at fun u e => hk _ u o.i1 e, a3.at fun u e => hk _ u o.i2 e, a4.at fun u e => hk _ u o.l1 e, a5.at fun u e => hk _ u o.l2 e, ?_⟩
  rcases a6 with ⟨hz, a, b, hTO⟩ | ⟨T, f, oT, hz, hT, r1, r2, r3, r4⟩
  · exact .inl ⟨hk _ _ o.z hz, a, b, hk _ _ o.TO hTO⟩
  · exact .inr ⟨T, f, oT, hk _ _ o.z hz, hk _ _ r4 hT, r1, r2, r3, r4⟩
section
variable {prog : Program} {w : World} {A : Around} {E : Value → Shared → Prop} {s : Shared}
theorem zl_item {z TI TO i1 i2 l1 l2 S : Addr} {xs ys : Array Value} {i : Nat} {x y : Value} {Q : Option Value → Shared → Prop} (D : ZipApart z TI TO i1 i2 l1 l2) (st : ZlSt s.heap z TI TO i1 i2 l1 l2 S xs ys i) (hS : S < s.heap.objs.size) (ex : xs[i]? = some x) (ey : ys[i]? = some y)
    (hQ : ∀ h', ZlSt h' z TI TO i1 i2 l1 l2 S xs ys (i + 1) → h'.get? s.heap.objs.size = some { cls := .type "tuple", data := .seq #[x, y] } →
      (∀ b o, b ≠ z → b ≠ TO → b ≠ i1 → b ≠ i2 → s.heap.get? b = some o → h'.get? b = some o) → Q (some (.ref s.heap.objs.size)) { s with heap := h' }) :
    wpAny (model prog w) A (pyNext (.ref z)) Q E s := by
  obtain ⟨hTI, h1, h2, hl1, hl2, hz⟩ := st
  have lt : ∀ {c o}, s.heap.get? c = some o → s.heap.objs.size ≠ c := fun e => Nat.ne_of_gt (Heap.lt_size e)
  have n1 : s.heap.objs.size ≠ i1 := let ⟨_, e, _⟩ := h1; lt e
  have n2 : s.heap.objs.size ≠ i2 := let ⟨_, e, _⟩ := h2; lt e
  rcases hz with ⟨hz, a, b, hTO⟩ | ⟨T, f, oT, hz, hT, r1, r2, r3, r4⟩
  · refine wpAny_pyNext_zip_item D hz hTI hTO h1 h2 hl1 hl2 ex ey fun h' a1 a2 a3 a4 a5 a6 hk => ?_
    exact hQ h' ⟨hk _ _ D.TIz D.TITO D.TIi1 D.TIi2 hTI, a3, a4, hl1.at fun o e => hk _ o D.l1z D.l1TO D.l1i1 D.l1i2 e, hl2.at fun o e => hk _ o D.l2z D.l2TO D.l2i1 D.l2i2 e,
        .inr ⟨s.heap.objs.size, false, _, a1, a5, lt hz, n1, n2, Nat.ne_of_gt hS⟩⟩ a5 hk
  · refine wpAny_pyNext_zip_item_held D hz hT hTI h1 h2 hl1 hl2 ex ey fun h' a1 a3 a4 a5 a6 hk => ?_
    exact hQ h' ⟨hk _ _ D.TIz D.TIi1 D.TIi2 hTI, a3, a4, hl1.at fun o e => hk _ o D.l1z D.l1i1 D.l1i2 e, hl2.at fun o e => hk _ o D.l2z D.l2i1 D.l2i2 e,
        .inr ⟨T, true, oT, a1, hk _ _ r1 r2 r3 hT, r1, r2, r3, r4⟩⟩ a5 fun b o c1 _ c3 c4 e => hk b o c1 c3 c4 e
theorem zl_done {z TI TO i1 i2 l1 l2 S : Addr} {xs ys : Array Value} {i : Nat} {Q : Option Value → Shared → Prop} (hh : A.handled = none) (D : ZipApart z TI TO i1 i2 l1 l2) (st : ZlSt s.heap z TI TO i1 i2 l1 l2 S xs ys i) (hend : xs[i]? = none ∨ ys[i]? = none)
    (hQ : ∀ h', (∀ b o, b ≠ z → b ≠ TO → b ≠ i1 → b ≠ i2 → s.heap.get? b = some o → h'.get? b = some o) → Q none { s with heap := h' }) :
    wpAny (model prog w) A (pyNext (.ref z)) Q E s := by
  obtain ⟨hTI, h1, h2, hl1, hl2, hz⟩ := st
  rcases hz with ⟨hz, a, b, hTO⟩ | ⟨T, f, oT, hz, hT, r1, r2, r3, r4⟩
  · exact wpAny_pyNext_zip_end hh D hz hTI hTO h1 h2 hl1 hl2 hend fun h' hk => hQ h' hk
  · exact wpAny_pyNext_zip_end_held hh D hz hT hTI h1 h2 hl1 hl2 hend fun h' hk => hQ h' fun b o c1 _ c3 c4 e => hk b o c1 c3 c4 e
end
section
variable {prog : Program} {w : World} {A : Around} {s : Shared} {R : Result → Shared → Prop}
theorem zl_loop {z TI TO i1 i2 l1 l2 S : Addr} {xs ys : Array Value} {n : Nat} (hh : A.handled = none) (D : ZipApart z TI TO i1 i2 l1 l2) (O : ZlOff z TI TO i1 i2 l1 l2 S) (lw : z < S ∧ TO < S ∧ i1 < S ∧ i2 < S) (hn : n = min xs.size ys.size) (hsz : n ≤ sizeLine) (res : Value) {h₁ : Heap}
    (hR : ∀ h' tk acc c as, (∀ b o, b ≠ S → b ≠ z → b ≠ TO → b ≠ i1 → b ≠ i2 → h₁.get? b = some o → h'.get? b = some o) → h'.get? S = some { cls := .type "list", dict := none, data := .seq acc c, slots := #[] } → as.length = n → ZlG xs ys S h' as →
      acc.toList = as.map Value.ref → R (.ok (.ret res)) { s with heap := h', toks := tk }) :
    ∀ (k i : Nat) (h : Heap) (tk c : Nat) (acc : Array Value) (as : List Addr), n - i = k → i ≤ n → ZlSt h z TI TO i1 i2 l1 l2 S xs ys i → (∀ b o, b ≠ S → b ≠ z → b ≠ TO → b ≠ i1 → b ≠ i2 → h₁.get? b = some o → h.get? b = some o) →
      h.get? S = some { cls := .type "list", dict := none, data := .seq acc c, slots := #[] } → acc.toList = as.map Value.ref → as.length = i → ZlG xs ys S h as →
      codeAny (model prog w) A (.builtin "list.extend.loop" ⟨[.ref S, .ref z, res], []⟩) R { s with heap := h, toks := tk } := by
  obtain ⟨w1, w2, w3, w4⟩ := lw
  have ab : ∀ b, S < b → b ≠ z ∧ b ≠ TO ∧ b ≠ i1 ∧ b ≠ i2 := fun b hb => ⟨Nat.ne_of_gt (Nat.lt_trans w1 hb), Nat.ne_of_gt (Nat.lt_trans w2 hb), Nat.ne_of_gt (Nat.lt_trans w3 hb), Nat.ne_of_gt (Nat.lt_trans w4 hb)⟩
  intro k
  induction k with
  | zero =>
    intro i h tk c acc as hk hi hst hkeep hS hacc hal hG
    have hin : i = n := by omega
    have hend : xs[i]? = none ∨ ys[i]? = none := by
      rcases Nat.le_total xs.size ys.size with q | q
      · exact .inl (Array.getElem?_eq_none (by omega))
      · exact .inr (Array.getElem?_eq_none (by omega))
    refine codeAny_builtin PySem.F.entry_extend_loop ?_
    rw [Around.under_plainId PySem.F.plain_extend_loop _]
    show wpAny _ A.in1 (pyNext (.ref z) >>= _) _ _ _
    refine wpAny_bind (zl_done (s := { s with heap := h, toks := tk }) (A := A.in1) hh D hst hend fun h' he => ?_)
    refine wpAny_pure (hR h' tk acc c as (fun b o q1 q2 q3 q4 q5 e => he b o q2 q3 q4 q5 (hkeep b o q1 q2 q3 q4 q5 e)) (he S _ O.z.symm O.TO.symm O.i1.symm O.i2.symm hS) (by omega) ⟨hG.rise, hG.above, fun j a hj => ?_⟩ hacc)
    obtain ⟨x, y, ex, ey, e3⟩ := hG.pairs j a hj
    obtain ⟨b1, b2, b3, b4⟩ := ab a (hG.above a (List.mem_of_getElem? hj))
    exact ⟨x, y, ex, ey, he a _ b1 b2 b3 b4 e3⟩
  | succ k ih =>
    intro i h tk c acc as hk hi hst hkeep hS hacc hal hG
    have hlt : i < n := by omega
    have hsz2 : acc.size = i := by rw [← Array.length_toList, hacc, List.length_map, hal]
    have hSl : S < h.objs.size := Heap.lt_size hS
    have ex := Array.getElem?_eq_getElem (show i < xs.size by omega)
    have ey := Array.getElem?_eq_getElem (show i < ys.size by omega)
    refine codeAny_builtin PySem.F.entry_extend_loop ?_
    rw [Around.under_plainId PySem.F.plain_extend_loop _]
    show wpAny _ A.in1 (pyNext (.ref z) >>= _) _ _ _
    refine wpAny_bind (zl_item (s := { s with heap := h, toks := tk }) (S := S) D hst hSl ex ey fun h' hst' ht hkp => ?_)
    dsimp only at ht hkp ⊢
    have hS' := hkp S _ O.z.symm O.TO.symm O.i1.symm O.i2.symm hS
    have up : ∀ b o, b ≠ S → h'.get? b = some o → (h'.update S (Obj.mapSeq (·.push (Value.ref h.objs.size)))).get? b = some o := fun b o hb e => (Heap.get?_update_other _ _ (Ne.symm hb)).trans e
    show wpAny _ A.in1 (updateSeq S (·.push (Value.ref h.objs.size)) >>= _) _ _ _
    refine wpAny_bind ?_
    refine wpAny_updateSeq hS' rfl (wpAny_pure ⟨plainId_quiet PySem.F.plain_extend_loop _, ih (i + 1) _ tk _ (acc.push (Value.ref h.objs.size)) (as ++ [h.objs.size]) (by omega) hlt (hst'.keep O up)
      (fun b o q1 q2 q3 q4 q5 e => up b o q1 (hkp b o q2 q3 q4 q5 (hkeep b o q1 q2 q3 q4 q5 e))) (Heap.get?_update_self _ hS' rfl) (by rw [Array.toList_push, hacc, List.map_append]; rfl) (by rw [List.length_append, hal]; rfl) ⟨?_, ?_, ?_⟩⟩) (by rw [hsz2]; omega) (by show (acc.push (Value.ref h.objs.size)).size ≤ sizeLine + 1; rw [Array.size_push, hsz2]; omega)
    · refine List.pairwise_append.mpr ⟨hG.rise, List.pairwise_singleton _ _, fun a ha b hb => ?_⟩
      rw [List.mem_singleton.mp hb]
      exact hG.there ha
    · intro a ha
      rcases List.mem_append.mp ha with ha | ha
      · exact hG.above a ha
      · rw [List.mem_singleton.mp ha]; exact hSl
    · intro j b hj
      rcases Nat.lt_trichotomy j as.length with q | q | q
      · rw [List.getElem?_append_left q] at hj
        obtain ⟨x, y, ex', ey', e3⟩ := hG.pairs j b hj
        have hb := hG.above b (List.mem_of_getElem? hj)
        obtain ⟨b1, b2, b3, b4⟩ := ab b hb
        exact ⟨x, y, ex', ey', up b _ (Nat.ne_of_gt hb) (hkp b _ b1 b2 b3 b4 e3)⟩
      · subst q
        have hb : h.objs.size = b := by simpa using hj
        subst hb
        subst hal
        exact ⟨_, _, ex, ey, up _ _ (Nat.ne_of_gt hSl) ht⟩
      · have hnone : (as ++ [h.objs.size])[j]? = none := List.getElem?_eq_none (by rw [List.length_append, List.length_singleton]; omega)
        rw [hnone] at hj; cases hj
end
section
variable {prog : Program} {w : World} {A : Around} {E : Value → Shared → Prop} {s : Shared} {z TI TO i1 i2 l1 l2 : Addr} {xs ys : Array Value} {n : Nat}
theorem zl_extend {R : Result → Shared → Prop} {S : Addr} (hh : A.handled = none) (D : ZipApart z TI TO i1 i2 l1 l2) (O : ZlOff z TI TO i1 i2 l1 l2 S) (lw : z < S ∧ TO < S ∧ i1 < S ∧ i2 < S) (hn : n = min xs.size ys.size) (hsz : n ≤ sizeLine)
    (hz : IsZip s.heap z TI TO .none) (st : ZlSt s.heap z TI TO i1 i2 l1 l2 S xs ys 0) (res : Value) (c₀ : Nat) (hS : s.heap.get? S = some { cls := .type "list", data := .seq #[] c₀ })
    (hR : ∀ h' tk acc c as, (∀ b o, b ≠ S → b ≠ z → b ≠ TO → b ≠ i1 → b ≠ i2 → s.heap.get? b = some o → h'.get? b = some o) → h'.get? S = some { cls := .type "list", dict := none, data := .seq acc c, slots := #[] } → as.length = n → ZlG xs ys S h' as →
      acc.toList = as.map Value.ref → R (.ok (.ret res)) { s with heap := h', toks := tk }) :
    wpAny (model prog w) A.in1 (Builtin.List.listExtendWith (.ref S) (.ref z) res)
      (fun fin s' => match fin with | .done f => R (.ok f) s' | .again c' => c'.quiet = true ∧ codeAny (model prog w) A c' R s') (fun e s' => R (.error e) s') s := by
  have hT : s.TypeIs (.ref z) "zip" := ⟨_, hz, rfl⟩
  unfold Builtin.List.listExtendWith
  refine wpAny_bind (wpAny_typeOf hT ?_)
  have h1 : Builtin.List.listSameRef (.ref S) (.ref z) = false := by simp [Builtin.List.listSameRef, O.z.symm]
  have h2 : (Value.type "zip" == Value.type "list") = false := by decide
  have h3 : (Value.type "zip" == Value.type "tuple") = false := by decide
  simp only [h1, h2, h3, Bool.or_false, Bool.false_eq_true, if_false]
  refine wpAny_bind (wpAny_pyIter_zip hz ?_)
  refine wpAny_bind (wpAny_holding ?_)
  unfold Builtin.List.listLengthHint
  refine wpAny_bind (wpAny_specialOf hT zip_no_len ?_)
  show wpAny _ A.in1 (specialOf (Value.ref z) (Str.ofString "__length_hint__") >>= _) _ _ _
  refine wpAny_bind (wpAny_specialOf hT zip_no_hint ?_)
  refine wpAny_pure ?_
  show wpAny _ A.in1 (rule "list.extend.makes-room" >>= fun _ => Builtin.List.listTouch (.ref S) >>= fun _ =>
    again (.builtin "list.extend.loop" ⟨[.ref S, .ref z, res], []⟩)) _ _ _
  refine wpAny_bind (wpAny_rule ?_)
  refine wpAny_bind ?_
  show wpAny _ A.in1 (updateSeq S (·.push .none) >>= fun _ => updateSeq S (·.pop)) _ _ _
  refine wpAny_bind (wpAny_updateSeq hS rfl ?_)
  have hS₂ := Heap.get?_update_self (Obj.mapSeq (·.push Value.none)) hS rfl
  refine wpAny_updateSeq (hz := by seq_fits) hS₂ rfl ?_
  have hS₃ := Heap.get?_update_self (Obj.mapSeq (·.pop)) hS₂ rfl
  have oth : ∀ b o, b ≠ S → s.heap.get? b = some o → ((s.heap.update S (Obj.mapSeq (·.push Value.none))).update S (Obj.mapSeq (·.pop))).get? b = some o :=
    fun b o hb e => (Heap.get?_update_other _ _ (Ne.symm hb)).trans ((Heap.get?_update_other _ _ (Ne.symm hb)).trans e)
  exact wpAny_pure ⟨plainId_quiet PySem.F.plain_extend_loop _, zl_loop (s := s) (h₁ := s.heap) hh D O lw hn hsz res hR n 0 _ _ _ _ [] (Nat.sub_zero _) (Nat.zero_le _) (st.keep O oth) (fun b o q1 _ _ _ _ e => oth b o q1 e) hS₃ rfl rfl
    ⟨List.Pairwise.nil, (fun _ ha => nomatch ha), (fun j a hj => by simp at hj)⟩⟩
theorem zl_call {Q : Value → Shared → Prop} (hh : A.handled = none) (D : ZipApart z TI TO i1 i2 l1 l2) (hz : IsZip s.heap z TI TO .none) (hTI : IsPair s.heap TI (.ref i1) (.ref i2)) (hTO : ∃ a b, IsPair s.heap TO a b) (h1 : s.heap.IsListIter i1 l1 0) (h2 : s.heap.IsListIter i2 l2 0)
    (hl1 : s.heap.IsList l1 xs) (hl2 : s.heap.IsList l2 ys) (hn : n = min xs.size ys.size) (hsz : n ≤ sizeLine)
    (hQ : ∀ h' tk acc c as, (∀ b o, b ≠ z → b ≠ TO → b ≠ i1 → b ≠ i2 → s.heap.get? b = some o → h'.get? b = some o) → h'.get? s.heap.objs.size = some { cls := .type "list", dict := none, data := .seq acc c, slots := #[] } → as.length = n → ZlG xs ys s.heap.objs.size h' as →
      acc.toList = as.map Value.ref → Q (.ref s.heap.objs.size) { s with heap := h', toks := tk }) :
    wpAny (model prog w) A (call (.type "list") [.ref z]) Q E s := by
  have lt : ∀ {c o}, s.heap.get? c = some o → c < s.heap.objs.size := fun e => Heap.lt_size e
  obtain ⟨a0, b0, eTO⟩ := id hTO
  obtain ⟨o1, e1, _⟩ := id h1
  obtain ⟨o2, e2, _⟩ := id h2
  obtain ⟨o3, e3, _⟩ := id hl1
  obtain ⟨o4, e4, _⟩ := id hl2
  refine callType_codes (Q₁ := fun obj s₁ => obj = .ref s.heap.objs.size ∧ s₁ = { s with heap := s.heap.push { cls := .type "list", data := .seq #[] } }) PySem.F.called_list (PySem.F.typeCall_list_1 _) PySem.F.entry_list_init
    (code_list_new _ ⟨rfl, rfl⟩) fun obj s₁ h₁ => ?_
  obtain ⟨rfl, rfl⟩ := h₁
  have hS : (s.heap.push { cls := .type "list", data := .seq #[] }).get? s.heap.objs.size = some { cls := .type "list", data := .seq #[] } := Heap.get?_push_size _ rfl
  have O : ZlOff z TI TO i1 i2 l1 l2 s.heap.objs.size := ⟨Nat.ne_of_lt (lt hz), Nat.ne_of_lt (lt hTI), Nat.ne_of_lt (lt eTO), Nat.ne_of_lt (lt e1), Nat.ne_of_lt (lt e2), Nat.ne_of_lt (lt e3), Nat.ne_of_lt (lt e4)⟩
  have oth : ∀ b o, b ≠ s.heap.objs.size → s.heap.get? b = some o → ((s.heap.push { cls := .type "list", data := .seq #[] }).update s.heap.objs.size (Obj.mapSeq (fun _ => (#[] : Array Value)))).get? b = some o :=
    fun b o hb e => (Heap.get?_update_other _ _ (Ne.symm hb)).trans (Heap.get?_push_of_some _ e)
  have st : ZlSt s.heap z TI TO i1 i2 l1 l2 s.heap.objs.size xs ys 0 := ⟨hTI, h1, h2, hl1, hl2, .inl ⟨hz, hTO⟩⟩
  refine ⟨⟨_, hS, rfl⟩, PySem.F.args_list_init_2 _ _, ?_⟩
  show wpAny _ A.in1.in1 (do let old ← Builtin.List.listItems (.ref s.heap.objs.size); Builtin.List.listUpdate (.ref s.heap.objs.size) (fun _ => #[]); letGo old.toList.reverse; Builtin.List.listExtendWith (.ref s.heap.objs.size) (.ref z) .none) _ _ _
  refine wpAny_bind ?_
  unfold Builtin.List.listItems
  refine wpAny_bind (wpAny_seqItems hS rfl (wpAny_pure ?_))
  show wpAny _ A.in1.in1 (updateSeq s.heap.objs.size (fun _ => #[]) >>= fun _ => letGo (#[] : Array Value).toList.reverse >>= fun _ => Builtin.List.listExtendWith (.ref s.heap.objs.size) (.ref z) .none) _ _ _
  refine wpAny_bind (wpAny_updateSeq hS rfl ?_)
  have hS₂ := Heap.get?_update_self (Obj.mapSeq (fun _ => (#[] : Array Value))) hS rfl
  refine wpAny_bind (wpAny_letGo ?_)
  refine zl_extend (n := n) (A := A.in1) hh D O ⟨lt hz, lt eTO, lt e1, lt e2⟩ hn hsz (oth _ _ O.z hz) ?_ .none _ hS₂ fun h' tk acc c as hk hS' hl hG hacc => ?_
  · obtain ⟨a1, a2, a3, a4, a5, a6⟩ := st
    refine ⟨oth _ _ O.TI hTI, h1.at fun u e => oth _ u O.i1 e, h2.at fun u e => oth _ u O.i2 e, hl1.at fun u e => oth _ u O.l1 e, hl2.at fun u e => oth _ u O.l2 e, .inl ⟨oth _ _ O.z hz, a0, b0, oth _ _ O.TO eTO⟩⟩
  · exact ⟨rfl, hQ h' tk acc c as (fun b o q1 q2 q3 q4 e => hk b o (Nat.ne_of_lt (lt e)) q1 q2 q3 q4 (oth b o (Nat.ne_of_lt (lt e)) e)) hS' hl hG hacc⟩
end
end Rk
namespace Rk
open PySem PySem.Spec PyProof.Rows L2
open Sem (wp)
/-- pairs laid at new places -/
def layT (H : Hp) : List (Addr × V × V) → Hp
  | [] => H
  | (t, x, y) :: r => upd (layT H r) t (.tup [x, y])
theorem layT_off {H : Hp} {b : Addr} : ∀ l : List (Addr × V × V), (∀ p ∈ l, b ≠ p.1) → layT H l b = H b
  | [], _ => rfl
  | (t, x, y) :: r, h => by
    show upd (layT H r) t (.tup [x, y]) b = H b
    rw [upd_ne (h _ List.mem_cons_self), layT_off r fun p hp => h p (List.mem_cons_of_mem _ hp)]
theorem layT_on {H : Hp} : ∀ l : List (Addr × V × V), (l.map Prod.fst).Nodup → ∀ t x y, (t, x, y) ∈ l → layT H l t = some (.tup [x, y])
  | [], _, _, _, _, h => nomatch h
  | (t0, x0, y0) :: r, n, t, x, y, h => by
    rw [List.map_cons, List.nodup_cons] at n
    show upd (layT H r) t0 (.tup [x0, y0]) t = _
    rcases List.mem_cons.mp h with e | h
    · cases e
      exact upd_same
    · rw [upd_ne (fun z => n.1 (by rw [← z]; exact List.mem_map.mpr ⟨_, h, rfl⟩)), layT_on r n.2 t x y h]
theorem layT_some {H : Hp} {b : Addr} {o : HO} : ∀ l : List (Addr × V × V), layT H l b = some o → H b = some o ∨ ∃ x y, (b, x, y) ∈ l ∧ o = .tup [x, y]
  | [], h => .inl h
  | (t, x, y) :: r, h => by
    by_cases z : b = t
    · subst z
      rw [show layT H ((b, x, y) :: r) = upd (layT H r) b (.tup [x, y]) from rfl, upd_same] at h
      exact .inr ⟨x, y, List.mem_cons_self, (Option.some.inj h).symm⟩
    · rw [show layT H ((t, x, y) :: r) = upd (layT H r) t (.tup [x, y]) from rfl, upd_ne z] at h
      rcases layT_some r h with q | ⟨x', y', q, e⟩
      · exact .inl q
      · exact .inr ⟨x', y', List.mem_cons_of_mem _ q, e⟩
def zip3 : List Addr → List V → List V → List (Addr × V × V)
  | t :: ts, x :: xs, y :: ys => (t, x, y) :: zip3 ts xs ys
  | _, _, _ => []
theorem zip3_get : ∀ (ts : List Addr) (xs ys : List V) (i : Nat) t x y, ts[i]? = some t → xs[i]? = some x → ys[i]? = some y → (t, x, y) ∈ zip3 ts xs ys
  | [], _, _, _, _, _, _, h, _, _ => by simp at h
  | _ :: _, [], _, _, _, _, _, _, h, _ => by simp at h
  | _ :: _, _ :: _, [], _, _, _, _, _, _, h => by simp at h
  | t0 :: ts, x0 :: xs, y0 :: ys, 0, t, x, y, h1, h2, h3 => by
    cases h1
    cases h2
    cases h3
    exact List.mem_cons_self
  | t0 :: ts, x0 :: xs, y0 :: ys, i + 1, t, x, y, h1, h2, h3 => List.mem_cons_of_mem _ (zip3_get ts xs ys i t x y h1 h2 h3)
theorem zip3_mem : ∀ (ts : List Addr) (xs ys : List V) t x y, (t, x, y) ∈ zip3 ts xs ys → ∃ i : Nat, ts[i]? = some t ∧ xs[i]? = some x ∧ ys[i]? = some y
  | [], _, _, _, _, _, h => by simp [zip3] at h
  | _ :: _, [], _, _, _, _, h => by simp [zip3] at h
  | _ :: _, _ :: _, [], _, _, _, h => by simp [zip3] at h
  | t0 :: ts, x0 :: xs, y0 :: ys, t, x, y, h => by
    rcases List.mem_cons.mp h with e | h
    · cases e
      exact ⟨0, rfl, rfl, rfl⟩
    · obtain ⟨i, h1, h2, h3⟩ := zip3_mem ts xs ys t x y h
      exact ⟨i + 1, h1, h2, h3⟩
theorem zip3_fst : ∀ (ts : List Addr) (xs ys : List V), ((zip3 ts xs ys).map Prod.fst).Sublist ts
  | [], _, _ => by cases ‹List V› <;> exact List.nil_sublist _
  | _ :: _, [], _ => List.nil_sublist _
  | _ :: _, _ :: _, [] => List.nil_sublist _
  | t :: ts, x :: xs, y :: ys => (zip3_fst ts xs ys).cons_cons t
def kLZ (K : PySem.W.Frag) (vs : List V) (H : Hp) (Q : VK) : Prop := ∃ (a b : Addr) (xs ys : List V), vs = [.ref a, .ref b] ∧ SqL K H a xs ∧ SqL K H b ys ∧ xs.length = ys.length ∧
  ∀ (D : Addr) (ts : List Addr) (H' : Hp), Same H H' → H D = none → H' D = some (.lst (ts.map V.ref)) → ts.length = xs.length →
    (∀ (i : Nat) t x y, ts[i]? = some t → xs[i]? = some x → ys[i]? = some y → H' t = some (.tup [x, y]) ∧ H t = none) → Q (.ref D) H'
def tLZ (K : PySem.W.Frag) (ta : TA) : TE := fun σ H Q => ta σ H fun vs H1 => kLZ K vs H1 Q
theorem vals_refs : ∀ ts : List Addr, Vals (ts.map V.ref) (ts.map Value.ref)
  | [] => .nil
  | t :: r => .cons rfl (vals_refs r)
theorem pe_listZip {X : Cx} {e e2 : Expr} {ta : TA} {p p2 pos pos2 : Pos} (hc : X.calm = true) (hgl : Gl X "list") (hml : X.mg "list" = none) (hgz : Gl X "zip") (hmz : X.mg "zip" = none) (ha : PA X [e, e2] ta)
    (hs : starEach [e, e2] X.env = (false, eval e X.env) :: starEach [e2] X.env := by rfl) (hpl : (backTo pos2 (starEach [e2] X.env)).any (·.1) = false := by rfl) :
    PE X (.Call (.Name "list" p) [.Call (.Name "zip" p2) [e, e2] [] pos2] [] pos) (tLZ X.K ta) := by
  refine ⟨fun pins s σ H Q I h => ?_⟩
  refine wpAny_Call_Name_kw (ld_blt I hgl hml (by decide +kernel : bootBuiltins "list" = some (.type "list")) ?_)
  refine PyProof.Rows.callWith_type1 ?_ rfl rfl
  show wpAny _ _ (spliced ((false, eval (.Call (.Name "zip" p2) [e, e2] [] pos2) X.env) :: backTo pos (starEach [] X.env))) _ _ s
  refine Calls.spliced_cons ?_
  refine wpAny_Call_Name_kw (ld_blt I hgz hmz PyProof.Rows.boot_zip (PyProof.Rows.callWith_type1 (thn (ha.run pos2 pins s σ H _ I h) fun us s1 ⟨vs, H1, I1, r1, q1⟩ => ?_) hs hpl))
  obtain ⟨a, b, xs, ys, ex, hqx, hqy, hlen, q⟩ := q1
  subst ex
  cases r1 with
  | cons r rr =>
    cases rr with
    | cons r' rr =>
      cases rr
      cases r
      cases r'
      obtain ⟨its, rv, p1, _⟩ := I1.list hqx
      obtain ⟨its2, rv2, p22, hz2⟩ := I1.list hqy
      have l1 := rv.length
      have l2 := rv2.length
      refine call_zip_2 p1.isList p22.isList fun h' hz hTI hTO h1 h2 hsz hk => ?_
      refine Calls.spliced_nil ?_
      have D := PySem.W.ktu_apart s1.heap.objs.size a b p1.lt p22.lt
      have I2 : Inv X pins σ H1 { s1 with heap := h' } := I1.kept (t' := s1.toks) hk
      obtain ⟨its', rv', p1', _⟩ := I2.list hqx
      obtain ⟨its2', rv2', p22', _⟩ := I2.list hqy
      have ee : its'.toArray = its.toArray := by
        obtain ⟨o, n, e, _, _, d⟩ := p1
        obtain ⟨o', n', e', _, _, d'⟩ := p1'
        rw [hk _ _ e] at e'
        cases e'
        rw [d] at d'
        injection d' with d1 _
        exact d1.symm
      have ee2 : its2'.toArray = its2.toArray := by
        obtain ⟨o, n, e, _, _, d⟩ := p22
        obtain ⟨o', n', e', _, _, d'⟩ := p22'
        rw [hk _ _ e] at e'
        cases e'
        rw [d] at d'
        injection d' with d1 _
        exact d1.symm
      refine zl_call (s := { s1 with heap := h' }) (n := min its.toArray.size its2.toArray.size) (I.ok.hd hc) D hz hTI ⟨_, _, hTO⟩ h1 h2 (by rw [← ee]; exact p1'.isList) (by rw [← ee2]; exact p22'.isList) rfl (by simp only [List.size_toArray]; omega) fun h2' tk acc c as hk2 hD hl hG hacc => ?_
      simp only [List.size_toArray] at hl
      have hsz' : h'.objs.size = s1.heap.objs.size + 5 := hsz
      have lo : s1.heap.objs.size ≤ h'.objs.size := by rw [hsz']; exact Nat.le_add_right _ _
      -- all of s1's heap is as it was
      have kp : ∀ b o, s1.heap.get? b = some o → h2'.get? b = some o := fun b o e => by
        have lt := Heap.lt_size e
        exact hk2 b o (Nat.ne_of_lt (Nat.lt_of_lt_of_le lt (Nat.le_add_right _ _))) (Nat.ne_of_lt (Nat.lt_of_lt_of_le lt (Nat.le_add_right _ _))) (Nat.ne_of_lt lt) (Nat.ne_of_lt (Nat.lt_of_lt_of_le lt (Nat.le_add_right _ _))) (hk b o e)
      have fr : ∀ b, s1.heap.objs.size ≤ b → H1 b = none := fun b hb => I1.hok.fresh hb
      have asl : ∀ t ∈ as, s1.heap.objs.size ≤ t ∧ t ≠ h'.objs.size := fun t ht => by
        have := hG.above t ht
        exact ⟨Nat.le_trans lo (Nat.le_of_lt this), Nat.ne_of_gt this⟩
      have nd : as.Nodup := hG.rise.imp fun h => Nat.ne_of_lt h
      have ndz : ((zip3 as xs ys).map Prod.fst).Nodup := (zip3_fst as xs ys).nodup nd
      have zmem : ∀ p ∈ zip3 as xs ys, p.1 ∈ as := fun p hp => (zip3_fst as xs ys).subset (List.mem_map.mpr ⟨p, hp, rfl⟩)
      let L := h'.objs.size
      let H2 : Hp := upd (layT H1 (zip3 as xs ys)) h'.objs.size (.lst (as.map V.ref))
      have old : ∀ b o, H1 b = some o → H2 b = some o := fun b o e => by
        have lt : b < s1.heap.objs.size := I1.hok.lt e
        show upd (layT H1 (zip3 as xs ys)) h'.objs.size _ b = _
        rw [upd_ne (Nat.ne_of_lt (Nat.lt_of_lt_of_le lt lo)), layT_off _ fun p hp z => ?_]
        · exact e
        · have := (asl _ (zmem p hp)).1
          rw [← z] at this
          exact absurd (Nat.lt_of_lt_of_le lt this) (Nat.lt_irrefl _)
      have onT : ∀ (i : Nat) t x y, as[i]? = some t → xs[i]? = some x → ys[i]? = some y → H2 t = some (.tup [x, y]) := fun i t x y e1 e2 e3 => by
        show upd (layT H1 (zip3 as xs ys)) h'.objs.size _ t = _
        rw [upd_ne (asl t (List.mem_of_getElem? e1)).2]
        exact layT_on _ ndz t x y (zip3_get as xs ys i t x y e1 e2 e3)
      have hok2 : HOk X.prog X.w H2 h2' := by
        intro b o e
        by_cases hb : b = h'.objs.size
        · subst hb
          have e' : o = .lst (as.map V.ref) := by
            have : H2 h'.objs.size = some (.lst (as.map V.ref)) := upd_same
            rw [this] at e
            exact (Option.some.inj e).symm
          subst e'
          refine ⟨?_, as.map Value.ref, c, vals_refs as, ?_⟩
          · rw [List.length_map]
            omega
          · rw [← hacc, Array.toArray_toList]
            exact hD
        · have e2 : layT H1 (zip3 as xs ys) b = some o := by
            have z : H2 b = layT H1 (zip3 as xs ys) b := upd_ne hb
            rw [← z]
            exact e
          rcases layT_some _ e2 with q1 | ⟨x, y, q1, rfl⟩
          · have ok := I1.hok b o q1
            refine ok.stay (fun c v _ q => kp c v q) (fun c q => old c _ q) fun c zs q => old c _ q
          · obtain ⟨i, i1, i2, i3⟩ := zip3_mem _ _ _ _ _ _ q1
            obtain ⟨u, u2, hu, hu2, e3⟩ := hG.pairs i b i1
            obtain ⟨v, hv, rv3⟩ := rv.get i2
            obtain ⟨v2, hv2, rv4⟩ := rv2.get i3
            have c1 : u = v := by
              simp only [List.getElem?_toArray] at hu
              rw [hv] at hu
              exact (Option.some.inj hu).symm
            have c2 : u2 = v2 := by
              simp only [List.getElem?_toArray] at hu2
              rw [hv2] at hu2
              exact (Option.some.inj hu2).symm
            subst c1
            subst c2
            exact ⟨by show 2 ≤ sizeLine; decide, [u, u2], .cons rv3 (.cons rv4 .nil), ⟨_, e3, rfl, _, rfl⟩⟩
      have un : Un X.fs [] H1 H2 s1.heap h2' := {
        keep := fun b o e _ _ _ => kp b o e
        slot := fun b o e _ _ _ => ⟨o.slots, kp b o e⟩
        free := fun b o e n _ => by
          have lt := Heap.lt_size e
          show upd (layT H1 (zip3 as xs ys)) h'.objs.size _ b = none
          rw [upd_ne (Nat.ne_of_lt (Nat.lt_of_lt_of_le lt lo)), layT_off _ fun p hp z => ?_]
          · exact n
          · have := (asl _ (zmem p hp)).1
            rw [← z] at this
            exact absurd (Nat.lt_of_lt_of_le lt this) (Nat.lt_irrefl _)
        there := fun b o e _ => ⟨o, kp b o e⟩
        tups := fun b zs e => old b _ e
        frzs := fun b o u e => old b _ e
        tbls := fun b ps e => ⟨#[], by rw [old b _ e]; simp⟩ }
      have I3 : Inv X pins σ H2 { s1 with heap := h2', toks := tk } := I1.un un hok2
      refine ⟨.ref h'.objs.size, H2, I3, rfl, q h'.objs.size as H2 old (fr _ lo) upd_same (by omega) fun i t x y e1 e2 e3 => ⟨onT i t x y e1 e2 e3, fr _ (asl t (List.mem_of_getElem? e1)).1⟩⟩

/-! ### max, min of a pair -/
section
variable {prog : Program} {w : World} {A : Around} {E : Value → Shared → Prop} {s : Shared}
theorem max_pair {T : Addr} {a b : Int} {t u : Tok} {Q : Value → Shared → Prop} (hh : A.handled = none) (hT : s.heap.IsTuple T #[.int a t, .int b u])
    (h : ∀ h' tk, (∀ c o, s.heap.get? c = some o → h'.get? c = some o) → Q (if b > a then .int b u else .int a t) { s with heap := h', toks := tk }) :
    wpAny (model prog w) A (call (.builtin "max") [.ref T]) Q E s := by
  have hT2 : s.heap.IsTuple T (intItems #[(a, t), (b, u)]) := by
    have : intItems #[(a, t), (b, u)] = #[.int a t, .int b u] := by simp [intItems]
    rw [this]
    exact hT
  obtain ⟨oT, eT, _⟩ := id hT
  have ne : T ≠ s.heap.objs.size := Nat.ne_of_lt (Heap.lt_size eT)
  refine call_max_walk (wpAny_pyIter_tuple hT2 ?_)
  refine ⟨_, [_, T], [_], _, _, _, _, rfl, Walks.tuple (A := A.in1) hh _ T ne (intItems #[(a, t), (b, u)]),
    ⟨⟨_, Heap.get?_push_size _ rfl, rfl, rfl⟩, hT2.push _⟩, fun c hc => ?_, by simp [intItems], CmpOf.ints_gt (numAt #[(a, t), (b, u)]) (fun _ _ => intItems_at), fun v h' tk hP hk => ?_⟩
  · show c < (s.heap.push _).objs.size
    rw [Heap.size_push]
    rcases List.mem_cons.mp hc with rfl | hc
    · exact Nat.lt_succ_self _
    · rcases List.mem_cons.mp hc with rfl | hc
      · exact Nat.lt_succ_of_lt (Heap.lt_size eT)
      · cases hc
  · have hold : ∀ c o, s.heap.get? c = some o → h'.get? c = some o := fun c o e => by
      refine hk c o (fun hm => ?_) (Heap.get?_push_of_some _ e)
      rcases List.mem_cons.mp hm with e1 | hm
      · have := Heap.lt_size e; rw [e1] at this; exact Nat.lt_irrefl _ this
      · cases hm
    have := h h' tk hold
    have hv : v = if b > a then Value.int b u else Value.int a t := by
      have hP' : (intItems #[(a, t), (b, u)])[argBest (fun i j => decide (numAt #[(a, t), (b, u)] i > numAt #[(a, t), (b, u)] j)) 1]? = some v := by
        have hsz2 : (intItems #[(a, t), (b, u)]).size - 1 = 1 := by simp [intItems]
        rw [← hsz2]; exact hP
      by_cases hba : b > a
      · have e : argBest (fun i j => decide (numAt #[(a, t), (b, u)] i > numAt #[(a, t), (b, u)] j)) 1 = 1 := by simp [argBest, numAt, hba]
        rw [e] at hP'
        simpa [intItems, hba] using hP'.symm
      · have e : argBest (fun i j => decide (numAt #[(a, t), (b, u)] i > numAt #[(a, t), (b, u)] j)) 1 = 0 := by simp [argBest, numAt, hba]
        rw [e] at hP'
        simpa [intItems, hba] using hP'.symm
    rw [hv]; exact this
theorem min_pair {T : Addr} {a b : Int} {t u : Tok} {Q : Value → Shared → Prop} (hh : A.handled = none) (hT : s.heap.IsTuple T #[.int a t, .int b u])
    (h : ∀ h' tk, (∀ c o, s.heap.get? c = some o → h'.get? c = some o) → Q (if b < a then .int b u else .int a t) { s with heap := h', toks := tk }) :
    wpAny (model prog w) A (call (.builtin "min") [.ref T]) Q E s := by
  have hT2 : s.heap.IsTuple T (intItems #[(a, t), (b, u)]) := by
    have : intItems #[(a, t), (b, u)] = #[.int a t, .int b u] := by simp [intItems]
    rw [this]
    exact hT
  obtain ⟨oT, eT, _⟩ := id hT
  have ne : T ≠ s.heap.objs.size := Nat.ne_of_lt (Heap.lt_size eT)
  refine call_min_walk (wpAny_pyIter_tuple hT2 ?_)
  refine ⟨_, [_, T], [_], _, _, _, _, rfl, Walks.tuple (A := A.in1) hh _ T ne (intItems #[(a, t), (b, u)]),
    ⟨⟨_, Heap.get?_push_size _ rfl, rfl, rfl⟩, hT2.push _⟩, fun c hc => ?_, by simp [intItems], CmpOf.ints_lt (numAt #[(a, t), (b, u)]) (fun _ _ => intItems_at), fun v h' tk hP hk => ?_⟩
  · show c < (s.heap.push _).objs.size
    rw [Heap.size_push]
    rcases List.mem_cons.mp hc with rfl | hc
    · exact Nat.lt_succ_self _
    · rcases List.mem_cons.mp hc with rfl | hc
      · exact Nat.lt_succ_of_lt (Heap.lt_size eT)
      · cases hc
  · have hold : ∀ c o, s.heap.get? c = some o → h'.get? c = some o := fun c o e => by
      refine hk c o (fun hm => ?_) (Heap.get?_push_of_some _ e)
      rcases List.mem_cons.mp hm with e1 | hm
      · have := Heap.lt_size e; rw [e1] at this; exact Nat.lt_irrefl _ this
      · cases hm
    have := h h' tk hold
    have hv : v = if b < a then Value.int b u else Value.int a t := by
      have hP' : (intItems #[(a, t), (b, u)])[argBest (fun i j => decide (numAt #[(a, t), (b, u)] i < numAt #[(a, t), (b, u)] j)) 1]? = some v := by
        have hsz2 : (intItems #[(a, t), (b, u)]).size - 1 = 1 := by simp [intItems]
        rw [← hsz2]; exact hP
      by_cases hba : b < a
      · have e : argBest (fun i j => decide (numAt #[(a, t), (b, u)] i < numAt #[(a, t), (b, u)] j)) 1 = 1 := by simp [argBest, numAt, hba]
        rw [e] at hP'
        simpa [intItems, hba] using hP'.symm
      · have e : argBest (fun i j => decide (numAt #[(a, t), (b, u)] i < numAt #[(a, t), (b, u)] j)) 1 = 0 := by simp [argBest, numAt, hba]
        rw [e] at hP'
        simpa [intItems, hba] using hP'.symm
    rw [hv]; exact this
end
section
variable {X : Cx}
def rMaxP (K : PySem.W.Frag) : List V → Hp → VK → Prop := fun vs H Q => ∃ (a : Addr) (i j : Int), vs = [.ref a] ∧ SqT K H a [.int i, .int j] ∧ Q (.int (if j > i then j else i)) H
def rMinP (K : PySem.W.Frag) : List V → Hp → VK → Prop := fun vs H Q => ∃ (a : Addr) (i j : Int), vs = [.ref a] ∧ SqT K H a [.int i, .int j] ∧ Q (.int (if j < i then j else i)) H
theorem cr_maxP (hc : X.calm = true) : CallR X (.builtin "max") (rMaxP X.K) := by
  intro pins s σ H vs us Q I r h
  obtain ⟨a, i, j, rfl, hs, q⟩ := h
  obtain ⟨its, rv, hl, _⟩ := I.tuple hs
  rw [Vals.ref1 r]
  obtain ⟨u1, u2, rfl, ⟨t, rfl⟩, ⟨t2, rfl⟩⟩ := vals2 rv
  obtain ⟨o, ho, hcl, n, hd⟩ := hl
  refine max_pair (I.ok.hd hc) ⟨o, ho, hcl, n, hd⟩ fun h' tk k => ⟨_, H, I.kept k, ?_, q⟩
  by_cases hj : j > i
  · rw [if_pos hj, if_pos hj]; exact ⟨_, rfl⟩
  · rw [if_neg hj, if_neg hj]; exact ⟨_, rfl⟩
theorem cr_minP (hc : X.calm = true) : CallR X (.builtin "min") (rMinP X.K) := by
  intro pins s σ H vs us Q I r h
  obtain ⟨a, i, j, rfl, hs, q⟩ := h
  obtain ⟨its, rv, hl, _⟩ := I.tuple hs
  rw [Vals.ref1 r]
  obtain ⟨u1, u2, rfl, ⟨t, rfl⟩, ⟨t2, rfl⟩⟩ := vals2 rv
  obtain ⟨o, ho, hcl, n, hd⟩ := hl
  refine min_pair (I.ok.hd hc) ⟨o, ho, hcl, n, hd⟩ fun h' tk k => ⟨_, H, I.kept k, ?_, q⟩
  by_cases hj : j < i
  · rw [if_pos hj, if_pos hj]; exact ⟨_, rfl⟩
  · rw [if_neg hj, if_neg hj]; exact ⟨_, rfl⟩
/-- the same, inside a comprehension -/
theorem cr_maxK {K : PySem.W.Frag} (hK : X.K = K) (hc : X.calm = true) : CallR X (.builtin "max") (rMaxP K) := by
  subst hK
  exact cr_maxP hc
theorem cr_minK {K : PySem.W.Frag} (hK : X.K = K) (hc : X.calm = true) : CallR X (.builtin "min") (rMinP K) := by
  subst hK
  exact cr_minP hc
end
end Rk
namespace Rk
open PySem PySem.Spec PyProof.Rows L2

/-! ### what repr shows: small data -/
structure Sh (d : PyData) (n k : Nat) : Prop where
  s : d.showable = true
  h : d.hasDict = false
  p : d.depth ≤ k
  l : d.shown.length ≤ n
theorem Sh.non : Sh .none 4 0 := ⟨rfl, rfl, by simp [PyData.depth], by decide +kernel⟩
theorem Sh.bl (b : Bool) : Sh (.bool b) 5 0 := ⟨rfl, rfl, by simp [PyData.depth], by cases b <;> decide +kernel⟩
theorem Sh.int {i : Int} (h : i.natAbs < 2 ^ 600) : Sh (.int i) 700 0 := by
  have q := PySem.Flt.log2_lt_of (by decide : 0 < 600) h
  refine ⟨decide_eq_true (by omega), rfl, by simp [PyData.depth], ?_⟩
  have e := int_text_length_le (k := 600) (by decide) q
  show (Str.ofString (toString i)).length ≤ 700
  rw [PySem.ofString_length]
  omega
theorem Sh.mono {d : PyData} {n k n' k' : Nat} (x : Sh d n k) (h : n ≤ n') (h' : k ≤ k') : Sh d n' k' := ⟨x.s, x.h, Nat.le_trans x.p h', Nat.le_trans x.l h⟩
theorem sh_all {n k : Nat} : ∀ ds : List PyData, (∀ d ∈ ds, Sh d n k) → PyData.showableAll ds = true ∧ PyData.hasDictAll ds = false ∧ PyData.depthAll ds ≤ k ∧ ((PyData.shownAll ds).map (·.length)).sum ≤ ds.length * n ∧ (PyData.shownAll ds).length = ds.length
  | [], _ => ⟨rfl, rfl, by simp [PyData.depthAll], by simp [PyData.shownAll], rfl⟩
  | d :: r, h => by
    obtain ⟨a1, a2, a3, a4, a5⟩ := sh_all r fun x hx => h x (List.mem_cons_of_mem _ hx)
    have x := h d List.mem_cons_self
    have x3 := x.p
    have x4 := x.l
    refine ⟨?_, ?_, ?_, ?_, ?_⟩
    · show (PyData.showable d && PyData.showableAll r) = true
      rw [x.s, a1]
      rfl
    · show (PyData.hasDict d || PyData.hasDictAll r) = false
      rw [x.h, a2]
      rfl
    · show max (PyData.depth d) (PyData.depthAll r) ≤ k
      omega
    · show (PyData.shown d).length + ((PyData.shownAll r).map (·.length)).sum ≤ (r.length + 1) * n
      rw [Nat.succ_mul]
      omega
    · show (PyData.shownAll r).length + 1 = r.length + 1
      omega
theorem Sh.list {n k : Nat} {ds : List PyData} (h : ∀ d ∈ ds, Sh d n k) : Sh (.list ds) (ds.length * n + 2 * ds.length + 3) (k + 1) := by
  obtain ⟨a1, a2, a3, a4, a5⟩ := sh_all ds h
  refine ⟨a1, a2, ?_, ?_⟩
  · show PyData.depthAll ds + 1 ≤ k + 1
    omega
  · have e := listText_len_le (PyData.shownAll ds)
    show (listText (PyData.shownAll ds)).length ≤ _
    omega
theorem Sh.tup {n k : Nat} {ds : List PyData} (h : ∀ d ∈ ds, Sh d n k) : Sh (.tuple ds) (ds.length * n + 2 * ds.length + 3) (k + 1) := by
  obtain ⟨a1, a2, a3, a4, a5⟩ := sh_all ds h
  refine ⟨a1, a2, ?_, ?_⟩
  · show PyData.depthAll ds + 1 ≤ k + 1
    omega
  · have e := tupleText_len_le (PyData.shownAll ds)
    show (tupleText (PyData.shownAll ds)).length ≤ _
    omega
theorem Sh.ok {d : PyData} {n k : Nat} (x : Sh d n k) (h : n ≤ 1000000) (h' : k ≤ 60) : d.showable = true ∧ d.hasDict = false ∧ d.depth ≤ 60 ∧ d.shown.length ≤ sizeLine := by
  have l := x.l
  refine ⟨x.s, x.h, Nat.le_trans x.p h', ?_⟩
  rw [sizeLine_eq]
  omega
theorem sh_life {x : Option Int} (hx : ∀ i, x = some i → i.natAbs < 2 ^ 600) : Sh (dO x) 700 0 := by
  cases x with
  | none => exact Sh.non.mono (by decide) (Nat.le_refl _)
  | some i => exact Sh.int (hx i rfl)
theorem sh_lives {ls : List (Option Int)} (h : ∀ x ∈ ls, ∀ i, x = some i → i.natAbs < 2 ^ 600) (hl : ls.length ≤ 100) : Sh (dLs ls) 71000 1 := by
  have q : Sh (dLs ls) _ 1 := Sh.tup (n := 700) (k := 0) fun d hd => by
    obtain ⟨x, hx, rfl⟩ := List.mem_map.mp hd
    exact sh_life (h x hx)
  refine q.mono ?_ (Nat.le_refl _)
  rw [List.length_map]
  omega
theorem sh_two {d e : PyData} (x : Sh d 71000 1) (y : Sh e 71000 1) : Sh (.list [d, e]) 150000 2 := by
  have q : Sh (.list [d, e]) _ 2 := Sh.list (n := 71000) (k := 1) fun z hz => by
    rcases List.mem_cons.mp hz with rfl | hz
    · exact x
    · rw [List.mem_singleton.mp hz]
      exact y
  exact q.mono (show 2 * 71000 + 2 * 2 + 3 ≤ 150000 by decide) (Nat.le_refl _)
/-! ### lives: bounds, beyond, joined -/
def Bd (x : Option Int) : Prop := ∀ i, x = some i → 0 ≤ i ∧ i ≤ 2 * 10 ^ 18
set_option exponentiation.threshold 2000 in
theorem Bd.small {x : Option Int} (b : Bd x) : ∀ i, x = some i → i.natAbs < 2 ^ 600 := fun i e => by
  have := b i e
  exact Nat.lt_of_le_of_lt (show i.natAbs ≤ 2 * 10 ^ 18 by omega) (Nat.lt_of_lt_of_le (show 2 * 10 ^ 18 < 2 ^ 100 by decide) (Nat.pow_le_pow_right (by decide) (by decide)))
theorem lifeAt_mem {ls : List (Option Int)} (h0 : 0 < ls.length) (i : Nat) : lifeAt ls i ∈ ls := by
  by_cases h : i < ls.length
  · rw [lifeAt_lt (List.getElem?_eq_getElem h)]
    exact List.getElem_mem h
  · rw [lifeAt_const h0 i (by omega), lifeAt_lt (List.getElem?_eq_getElem (by omega))]
    exact List.getElem_mem _
theorem Good.bd {ls : List (Option Int)} (g : Good ls) : ∀ x ∈ ls, ∀ i, x = some i → 0 ≤ i ∧ i ≤ 10 ^ 18 := by
  obtain ⟨is, l, rfl, h1, h2⟩ := g.init
  intro x hx i e
  rcases List.mem_append.mp hx with h | h
  · obtain ⟨j, hj, rfl⟩ := List.mem_map.mp h
    cases e
    exact h1 i hj
  · rw [List.mem_singleton.mp h] at e
    exact h2 i e
theorem Good.at {ls : List (Option Int)} (g : Good ls) (i : Nat) : ∀ v, lifeAt ls i = some v → 0 ≤ v ∧ v ≤ 10 ^ 18 := g.bd _ (lifeAt_mem g.pos i)
theorem Bd.of {x : Option Int} (h : ∀ v, x = some v → 0 ≤ v ∧ v ≤ (10 : Int) ^ 18) : Bd x := fun i e => by have := h i e; omega
theorem bd_max {x y : Option Int} (a : Bd x) (b : Bd y) : Bd (maxO x y) := by
  unfold maxO
  split
  · exact b
  · exact a
theorem bd_min {x y : Option Int} (a : Bd x) (b : Bd y) : Bd (minO x y) := by
  unfold minO
  split
  · exact a
  · exact b
theorem bd_add {x : Option Int} {n : Int} (h : ∀ v, x = some v → 0 ≤ v ∧ v ≤ (10 : Int) ^ 18) (h0 : 0 ≤ n) (h1 : n ≤ 10 ^ 18) : Bd (addO n x) := fun i e => by
  cases x with
  | none => cases e
  | some v =>
    have := h v rfl
    cases e
    show 0 ≤ v + n ∧ v + n ≤ 2 * 10 ^ 18
    omega
/-- as lives are compared, and back -/
def bakO (n : Int) : Option Int := if n ≥ 10 ^ 30 then none else some n
theorem bak_wid {x : Option Int} (b : Bd x) : bakO (wid x) = x := by
  cases x with
  | none => exact if_pos (Int.le_refl _)
  | some i =>
    have := b i rfl
    exact if_neg (show ¬ i ≥ 10 ^ 30 by omega)
theorem wid_max {x y : Option Int} (a : Bd x) (b : Bd y) : (if wid y > wid x then wid y else wid x) = wid (maxO x y) := by
  cases x with
  | none =>
    cases y with
    | none => rfl
    | some j =>
      have := b j rfl
      show (if j > 10 ^ 30 then j else (10 : Int) ^ 30) = 10 ^ 30
      rw [if_neg (by omega)]
  | some i =>
    have := a i rfl
    cases y with
    | none =>
      show (if (10 : Int) ^ 30 > i then (10 : Int) ^ 30 else i) = 10 ^ 30
      rw [if_pos (by omega)]
    | some j =>
      by_cases h : i ≤ j
      · have e : maxO (some i) (some j) = some j := if_pos (decide_eq_true h)
        rw [e]
        show (if j > i then j else i) = j
        split <;> omega
      · have e : maxO (some i) (some j) = some i := if_neg (fun z => h (of_decide_eq_true z))
        rw [e]
        show (if j > i then j else i) = i
        rw [if_neg (by omega)]
theorem wid_min {x y : Option Int} (a : Bd x) (b : Bd y) : (if wid y < wid x then wid y else wid x) = wid (minO x y) := by
  cases x with
  | none =>
    cases y with
    | none => rfl
    | some j =>
      have := b j rfl
      show (if j < 10 ^ 30 then j else (10 : Int) ^ 30) = j
      rw [if_pos (by omega)]
  | some i =>
    have := a i rfl
    cases y with
    | none =>
      show (if (10 : Int) ^ 30 < i then (10 : Int) ^ 30 else i) = i
      rw [if_neg (by omega)]
    | some j =>
      by_cases h : i ≤ j
      · have e : minO (some i) (some j) = some i := if_pos (decide_eq_true h)
        rw [e]
        show (if j < i then j else i) = i
        rw [if_neg (by omega)]
      · have e : minO (some i) (some j) = some j := if_neg (fun z => h (of_decide_eq_true z))
        rw [e]
        show (if j < i then j else i) = j
        rw [if_pos (by omega)]
theorem wid_le {x y : Option Int} (a : Bd x) (b : Bd y) : decide (wid x ≤ wid y) = leO x y := by
  cases x with
  | none =>
    cases y with
    | none => exact decide_eq_true (Int.le_refl _)
    | some j =>
      have := b j rfl
      show decide ((10 : Int) ^ 30 ≤ j) = false
      exact decide_eq_false (by omega)
  | some i =>
    have := a i rfl
    cases y with
    | none =>
      show decide (i ≤ (10 : Int) ^ 30) = true
      exact decide_eq_true (by omega)
    | some j => rfl
theorem wid_add {x : Option Int} {n : Int} (b : Bd x) : (if wid x < 10 ^ 30 then wid x + n else wid x) = wid (addO n x) := by
  cases x with
  | none => exact if_neg (Int.lt_irrefl _)
  | some i =>
    have := b i rfl
    exact if_pos (show i < 10 ^ 30 by omega)
theorem lifeAt_far {ls : List (Option Int)} (h0 : 0 < ls.length) {N k : Nat} (h : ls.length ≤ N) (hk : N ≤ k) : lifeAt ls k = lifeAt ls (N - 1) := by
  rw [lifeAt_const h0 k (by omega)]
  by_cases z : N - 1 < ls.length
  · have e : N - 1 = ls.length - 1 := by omega
    rw [e]
  · rw [lifeAt_const h0 (N - 1) (by omega)]
theorem short_join {ls ms : List (Option Int)} (g : Option Int → Option Int → Option Int) (h0 : 0 < ls.length) (h1 : 0 < ms.length) (h2 : ls.length ≤ 65) (h3 : ms.length ≤ 65) :
    short (rows (fun i => g (lifeAt (short ls) i) (lifeAt (short ms) i)) (max (short ls).length (short ms).length)) = short (rows (fun i => g (lifeAt ls i) (lifeAt ms i)) 65) := by
  have p0 := short_len_pos h0
  have p1 := short_len_pos h1
  have q0 := short_len_le ls
  have q1 := short_len_le ms
  have e : (fun i => g (lifeAt (short ls) i) (lifeAt (short ms) i)) = fun i => g (lifeAt ls i) (lifeAt ms i) := by
    funext i
    rw [lifeAt_short h0, lifeAt_short h1]
  rw [← e]
  refine (short_any _ (by omega) (fun k hk => ?_) (by omega)).symm
  show g (lifeAt (short ls) k) (lifeAt (short ms) k) = g (lifeAt (short ls) _) (lifeAt (short ms) _)
  rw [lifeAt_far p0 (Nat.le_max_left _ _) hk, lifeAt_far p1 (Nat.le_max_right _ _) hk]
theorem rows_map (f : Option Int → Option Int) (g : Nat → Option Int) (n : Nat) : (rows g n).map f = rows (fun i => f (g i)) n := by
  unfold rows
  rw [List.map_map]
  rfl
theorem short_add {ls : List (Option Int)} (n : Int) (h0 : 0 < ls.length) (h2 : ls.length ≤ 65) : short ((short ls).map (addO n)) = short (rows (fun i => addO n (lifeAt ls i)) 65) := by
  have p0 := short_len_pos h0
  have q0 := short_len_le ls
  have e : (short ls).map (addO n) = rows (fun i => addO n (lifeAt ls i)) (short ls).length := by
    conv => lhs; rw [← rows_lifeAt (short ls)]
    rw [rows_map]
    congr 1
    funext i
    rw [lifeAt_short h0]
  rw [e]
  refine (short_any _ p0 (fun k hk => ?_) (by omega)).symm
  show addO n (lifeAt ls k) = addO n (lifeAt ls _)
  rw [← lifeAt_short h0 k, ← lifeAt_short h0 ((short ls).length - 1), lifeAt_far p0 (Nat.le_refl _) hk]
theorem short_short {ls : List (Option Int)} (h0 : 0 < ls.length) : short (short ls) = short ls := by
  have p0 := short_len_pos h0
  have q0 := short_len_le ls
  have e : short ls = rows (lifeAt ls) (short ls).length := by
    conv => lhs; rw [← rows_lifeAt (short ls)]
    congr 1
    funext i
    rw [lifeAt_short h0]
  have e2 : short (rows (lifeAt ls) ls.length) = short (rows (lifeAt ls) (short ls).length) := short_any _ p0 (fun k hk => by
    rw [← lifeAt_short h0 k, ← lifeAt_short h0 ((short ls).length - 1), lifeAt_far p0 (Nat.le_refl _) hk]) q0
  rw [rows_lifeAt ls] at e2
  rw [← e] at e2
  exact e2.symm
theorem addO_zero (ls : List (Option Int)) : ls.map (addO 0) = ls := by
  have e : addO 0 = id := by
    funext x
    cases x with
    | none => rfl
    | some i => exact congrArg some (Int.add_zero i)
  rw [e, List.map_id]
theorem maxO_comm {x y : Option Int} : maxO x y = maxO y x := by
  unfold maxO
  cases x with
  | none => cases y <;> rfl
  | some i =>
    cases y with
    | none => rfl
    | some j =>
      show (if decide (i ≤ j) = true then some j else some i) = if decide (j ≤ i) = true then some i else some j
      by_cases h : i ≤ j
      · rw [if_pos (decide_eq_true h)]
        by_cases h2 : j ≤ i
        · rw [if_pos (decide_eq_true h2)]
          congr 1
          omega
        · rw [if_neg (fun z => h2 (of_decide_eq_true z))]
      · rw [if_neg (fun z => h (of_decide_eq_true z)), if_pos (decide_eq_true (by omega))]
theorem minO_comm {x y : Option Int} : minO x y = minO y x := by
  unfold minO
  cases x with
  | none => cases y <;> rfl
  | some i =>
    cases y with
    | none => rfl
    | some j =>
      show (if decide (i ≤ j) = true then some i else some j) = if decide (j ≤ i) = true then some j else some i
      by_cases h : i ≤ j
      · rw [if_pos (decide_eq_true h)]
        by_cases h2 : j ≤ i
        · rw [if_pos (decide_eq_true h2)]
          congr 1
          omega
        · rw [if_neg (fun z => h2 (of_decide_eq_true z))]
      · rw [if_neg (fun z => h (of_decide_eq_true z)), if_pos (decide_eq_true (by omega))]
theorem all_far {p : Nat → Bool} {N M : Nat} (h : N ≤ M) (h0 : 0 < N) (far : ∀ k, N ≤ k → p k = p (N - 1)) : (List.range N).all p = (List.range M).all p := by
  rw [Bool.eq_iff_iff, List.all_eq_true, List.all_eq_true]
  constructor
  · intro q k hk
    by_cases z : k < N
    · exact q k (List.mem_range.mpr z)
    · rw [far k (by omega)]
      exact q _ (List.mem_range.mpr (by omega))
  · intro q k hk
    exact q k (List.mem_range.mpr (by have := List.mem_range.mp hk; omega))
theorem le_all {ls ms : List (Option Int)} (h0 : 0 < ls.length) (h1 : 0 < ms.length) (h2 : ls.length ≤ 65) (h3 : ms.length ≤ 65) :
    ((List.range (max (short ls).length (short ms).length)).all fun i => leO (lifeAt (short ls) i) (lifeAt (short ms) i)) = (List.range 65).all fun i => leO (lifeAt ls i) (lifeAt ms i) := by
  have p0 := short_len_pos h0
  have p1 := short_len_pos h1
  have q0 := short_len_le ls
  have q1 := short_len_le ms
  have e : (fun i => leO (lifeAt (short ls) i) (lifeAt (short ms) i)) = fun i => leO (lifeAt ls i) (lifeAt ms i) := by
    funext i
    rw [lifeAt_short h0, lifeAt_short h1]
  rw [← e]
  refine all_far (by omega) (by omega) fun k hk => ?_
  show leO (lifeAt (short ls) k) (lifeAt (short ms) k) = leO (lifeAt (short ls) _) (lifeAt (short ms) _)
  rw [lifeAt_far p0 (Nat.le_max_left _ _) hk, lifeAt_far p1 (Nat.le_max_right _ _) hk]
theorem short_sub {ls : List (Option Int)} {x : Option Int} (h : x ∈ short ls) : x ∈ ls := List.mem_of_mem_take h
theorem rows_mem {g : Nat → Option Int} {n : Nat} {x : Option Int} (h : x ∈ rows g n) : ∃ i, x = g i := by
  obtain ⟨i, _, rfl⟩ := List.mem_map.mp h
  exact ⟨i, rfl⟩
end Rk
namespace Rk
open PySem PySem.Spec PyProof.Rows L2

/-! ### tuples that the heap holds: their slices and sums -/
section
variable {X : Cx}
def rCatH : R2 := fun x y H Q => ∃ (a b : Addr) (xs ys : List V), x = .ref a ∧ y = .ref b ∧ H a = some (.tup xs) ∧ H b = some (.tup ys) ∧ xs.length + ys.length ≤ sizeLine ∧
  ∀ r H', Same H H' → H' r = some (.tup (xs ++ ys)) → Q (.ref r) H'
theorem op_catH : OpR X (binaryOp .Add) rCatH := by
  intro pins s σ H x y v u Q I rx ry h
  obtain ⟨a, b, xs, ys, ex, ey, ha, hb, hz, q⟩ := h
  refine op_catA pins s σ H x y v u Q I rx ry ⟨a, b, xs, ys, ex, ey, SqT.of ha, SqT.of hb, hz, fun z => ?_, fun _ z => ?_, fun _ _ p hp => ?_⟩
  · refine q b H (Same.refl _) ?_
    rw [z, List.nil_append]
    exact hb
  · refine q a H (Same.refl _) ?_
    rw [z, List.append_nil]
    exact ha
  · exact q p _ (same_upd hp) upd_same
def rSlH : V → Option Int → Option Int → Hp → VK → Prop := fun x lo hi H Q => ∃ (a : Addr) (xs : List V), x = .ref a ∧ H a = some (.tup xs) ∧
  ∀ r H', Same H H' → H' r = some (.tup (cutV xs lo hi)) → Q (.ref r) H'
theorem sl_tupH : SlR X rSlH := by
  intro pins s σ H x v vl vu lo hi sl Q I rx hs pl pu h
  obtain ⟨a, xs, e, hx, q⟩ := h
  refine sl_tupB pins s σ H x v vl vu lo hi sl Q I rx hs pl pu ⟨a, xs, e, SqT.of hx, fun r H' z => q r H' (rSlB_same z) ?_⟩
  rcases z with ⟨e1, e2, e3⟩ | ⟨n, e⟩
  · rw [e1, e2, e3]
    exact hx
  · rw [e]
    exact upd_same
end
/-! ### the least rank that is old enough -/
def idx : Nat → List (Option Int) → Int → Option Nat
  | _, [], _ => none
  | j, l :: r, a => if leO (some (a + 2 ^ j)) l = true then some j else idx (j + 1) r a
def gapO : Option Nat → Option Int
  | none => none
  | some j => some (2 ^ j - 1)
theorem due_idx (a : Int) : ∀ (ls : List (Option Int)) (j : Nat), due j ls a = gapO (idx j ls a)
  | [], _ => rfl
  | l :: r, j => by
    show (if leO (some (a + 2 ^ j)) l = true then some (2 ^ j - 1) else due (j + 1) r a) = gapO (if leO (some (a + 2 ^ j)) l = true then some j else idx (j + 1) r a)
    by_cases h : leO (some (a + 2 ^ j)) l = true
    · rw [if_pos h, if_pos h]
      rfl
    · rw [if_neg h, if_neg h]
      exact due_idx a r (j + 1)
theorem idx_lt {a : Int} : ∀ (ls : List (Option Int)) (j k : Nat), idx j ls a = some k → k < j + ls.length
  | [], _, _, h => by cases h
  | l :: r, j, k, h => by
    have h' : (if leO (some (a + 2 ^ j)) l = true then some j else idx (j + 1) r a) = some k := h
    by_cases hc : leO (some (a + 2 ^ j)) l = true
    · rw [if_pos hc] at h'
      have := Option.some.inj h'
      simp
      omega
    · rw [if_neg hc] at h'
      have := idx_lt r (j + 1) k h'
      simp
      omega
def lvN : Option Nat → V
  | none => .non
  | some j => .int (j : Nat)
theorem drop_cons {α : Type} {ls : List α} {i : Nat} {l : α} (h : ls[i]? = some l) : ls.drop i = l :: ls.drop (i + 1) := by
  have hi := (List.getElem?_eq_some_iff.mp h).1
  rw [List.drop_eq_getElem_cons hi, (List.getElem?_eq_some_iff.mp h).2]
theorem b01 (k : Bool) : -(2 ^ 64) < (if k = true then (1 : Int) else 0) ∧ (if k = true then (1 : Int) else 0) < 2 ^ 64 := by cases k <;> decide
theorem pow2_natAbs (j : Nat) : ((2 : Int) ^ j).natAbs = 2 ^ j := by rw [Int.natAbs_pow]; rfl
theorem pow2_pos (j : Nat) : (0 : Int) < 2 ^ j := Int.pow_pos (by decide)
theorem pow2_le {j k : Nat} (h : j ≤ k) : (2 : Int) ^ j ≤ 2 ^ k := by
  have h1 : (2 : Nat) ^ j ≤ 2 ^ k := Nat.pow_le_pow_right (by decide) h
  have h2 : ((2 ^ j : Nat) : Int) = (2 : Int) ^ j := by rw [Int.natCast_pow]; rfl
  have h3 : ((2 ^ k : Nat) : Int) = (2 : Int) ^ k := by rw [Int.natCast_pow]; rfl
  omega
/-- bounded from both sides -/
theorem small600 {x : Int} (h0 : -(10 ^ 40) ≤ x) (h1 : x ≤ 10 ^ 40) : x.natAbs < 2 ^ 600 := Nat.lt_of_le_of_lt (show x.natAbs ≤ 10 ^ 40 by omega) (by decide)
end Rk
namespace Rk
open PySem PySem.Spec PyProof.Rows L2

/-! ### items of tuples within a comprehension -/
theorem ix_tupK {X : Cx} {K : PySem.W.Frag} (hK : X.K = K) : IxR X (rIxT K) := by
  subst hK
  exact ix_tup
theorem atI_neg {xs : List V} {k : Nat} (h0 : 0 < k) (h : k ≤ xs.length) : atI xs (-(k : Int)) = xs[xs.length - k]? := by
  have e : ixN xs.length (-(k : Int)) = some (xs.length - k) := by
    unfold ixN
    rw [if_neg (by omega), if_pos (by omega)]
    congr 1
    omega
  unfold atI
  rw [e]
  rfl
/-! ### pairs that the heap holds -/
def PrAt (H : Hp) : List V → List (Option Int × Int) → Prop
  | [], [] => True
  | x :: xs, p :: ps => (∃ t, x = .ref t ∧ H t = some (.tup [lv p.1, .int p.2])) ∧ PrAt H xs ps
  | _, _ => False
theorem PrAt.length {H : Hp} : ∀ {xs : List V} {ps : List (Option Int × Int)}, PrAt H xs ps → xs.length = ps.length
  | [], [], _ => rfl
  | _ :: _, _ :: _, h => congrArg (· + 1) (PrAt.length h.2)
  | [], _ :: _, h => h.elim
  | _ :: _, [], h => h.elim
theorem PrAt.keep {H H' : Hp} (k : ∀ t ys, H t = some (.tup ys) → H' t = some (.tup ys)) : ∀ {xs : List V} {ps : List (Option Int × Int)}, PrAt H xs ps → PrAt H' xs ps
  | [], [], _ => trivial
  | _ :: _, _ :: _, ⟨⟨t, e, h⟩, r⟩ => ⟨⟨t, e, k _ _ h⟩, PrAt.keep k r⟩
  | [], _ :: _, h => h.elim
  | _ :: _, [], h => h.elim
theorem PrAt.same {H H' : Hp} (s : Same H H') {xs : List V} {ps : List (Option Int × Int)} (h : PrAt H xs ps) : PrAt H' xs ps := h.keep fun _ _ e => s _ _ e
theorem PrAt.snoc {H : Hp} {t : Addr} {p : Option Int × Int} (e : H t = some (.tup [lv p.1, .int p.2])) : ∀ {xs : List V} {ps : List (Option Int × Int)}, PrAt H xs ps → PrAt H (xs ++ [.ref t]) (ps ++ [p])
  | [], [], _ => ⟨⟨t, rfl, e⟩, trivial⟩
  | _ :: _, _ :: _, ⟨a, r⟩ => ⟨a, PrAt.snoc e r⟩
  | [], _ :: _, h => h.elim
  | _ :: _, [], h => h.elim
theorem PrAt.get {H : Hp} : ∀ {xs : List V} {ps : List (Option Int × Int)} {i : Nat} {x : V}, PrAt H xs ps → xs[i]? = some x → ∃ t p, x = .ref t ∧ ps[i]? = some p ∧ H t = some (.tup [lv p.1, .int p.2])
  | [], [], i, x, _, e => by simp at e
  | _ :: _, p :: _, 0, x, ⟨⟨t, a, h⟩, r⟩, e => by
    have : x = .ref t := by rw [← a]; simpa using e.symm
    exact ⟨t, p, this, rfl, h⟩
  | _ :: xs, _ :: ps, i + 1, x, ⟨_, r⟩, e => PrAt.get (xs := xs) (ps := ps) (i := i) r (by simpa using e)
  | [], _ :: _, _, _, h, _ => h.elim
  | _ :: _, [], _, _, h, _ => h.elim
def dP (p : Option Int × Int) : PyData := .tuple [dO p.1, .int p.2]
theorem PrAt.dp {K : PySem.W.Frag} {H : Hp} : ∀ {xs : List V} {ps : List (Option Int × Int)}, PrAt H xs ps → DpAll K H xs (ps.map dP)
  | [], [], _ => .nil
  | _ :: _, _ :: _, ⟨⟨_, e, h⟩, r⟩ => by
    subst e
    exact .cons (.tup (SqT.of h) (.cons (dp_lv _) (.cons (.int _) .nil))) (PrAt.dp r)
  | [], _ :: _, h => h.elim
  | _ :: _, [], h => h.elim
theorem sh_pair {p : Option Int × Int} (h1 : ∀ i, p.1 = some i → i.natAbs < 2 ^ 600) (h2 : p.2.natAbs < 2 ^ 600) : Sh (dP p) 2000 1 := by
  have z : Sh (dP p) _ 1 := Sh.tup (n := 700) (k := 0) fun d hd => by
    rcases List.mem_cons.mp hd with rfl | hd
    · exact sh_life h1
    · rw [List.mem_singleton.mp hd]
      exact Sh.int h2
  exact z.mono (by show 2 * 700 + 2 * 2 + 3 ≤ 2000; decide) (Nat.le_refl _)
theorem sh_pairs {ps : List (Option Int × Int)} (h : ∀ p ∈ ps, (∀ i, p.1 = some i → i.natAbs < 2 ^ 600) ∧ p.2.natAbs < 2 ^ 600) (hl : ps.length ≤ 100) : Sh (.tuple (ps.map dP)) 300000 2 := by
  have z : Sh (.tuple (ps.map dP)) _ 2 := Sh.tup (n := 2000) (k := 1) fun d hd => by
    obtain ⟨p, hp, rfl⟩ := List.mem_map.mp hd
    exact sh_pair (h p hp).1 (h p hp).2
  refine z.mono ?_ (Nat.le_refl _)
  rw [List.length_map]
  omega

/-! ### what is promised -/
def offO (i : Nat) (l : Option Int) : Option Int := l.map (· - 2 ^ i)
def prom : Nat → Option Int → List (Option Int) → List (Option Int × Int)
  | _, _, [] => []
  | i, reach, l :: r => if leO (offO i l) reach = true then prom (i + 1) reach r else (offO i l, 2 ^ i - 1) :: prom (i + 1) (offO i l) r
theorem prom_len : ∀ (ls : List (Option Int)) (i : Nat) (reach : Option Int), (prom i reach ls).length ≤ ls.length
  | [], _, _ => Nat.le_refl _
  | l :: r, i, reach => by
    show (if leO (offO i l) reach = true then prom (i + 1) reach r else (offO i l, 2 ^ i - 1) :: prom (i + 1) (offO i l) r).length ≤ r.length + 1
    by_cases h : leO (offO i l) reach = true
    · rw [if_pos h]
      exact Nat.le_succ_of_le (prom_len r _ _)
    · rw [if_neg h]
      exact Nat.succ_le_succ (prom_len r _ _)
theorem prom_none (ls : List (Option Int)) (i : Nat) : prom i none ls = [] := by
  induction ls generalizing i with
  | nil => rfl
  | cons l r ih =>
    show (if leO (offO i l) none = true then prom (i + 1) none r else _) = []
    rw [if_pos (by cases h : offO i l <;> rfl)]
    exact ih _
/-- what a step of the promise says of the lives from j on: no life ahead reaches it, its own does -/
theorem prom_due : ∀ (ls : List (Option Int)) (j : Nat) (reach : Option Int) (a g : Int), reach ≠ none → (some a, g) ∈ prom j reach ls → due j ls a = some g ∧ leO (some a) reach = false ∧ (due j ls (a + 1) ≠ some g) ∧ 2 ^ j - 1 ≤ g
  | [], _, _, _, _, _, h => nomatch h
  | l :: r, j, reach, a, g, hr, h => by
    have h' : (some a, g) ∈ (if leO (offO j l) reach = true then prom (j + 1) reach r else (offO j l, 2 ^ j - 1) :: prom (j + 1) (offO j l) r) := h
    have ea : ∀ b : Int, due j (l :: r) b = if leO (some (b + 2 ^ j)) l = true then some (2 ^ j - 1) else due (j + 1) r b := fun _ => rfl
    have p2 : (2 : Int) ^ (j + 1) = 2 ^ j * 2 := Int.pow_succ _ _
    have p0 := pow2_pos j
    have off : ∀ b : Int, leO (some (b + 2 ^ j)) l = leO (some b) (offO j l) := by
      intro b
      cases l with
      | none => rfl
      | some x =>
        show decide (b + 2 ^ j ≤ x) = decide (b ≤ x - 2 ^ j)
        rw [decide_eq_decide]
        omega
    have far : ∀ q : Option Int, q ≠ none → leO (some a) q = false → leO (offO j l) q = true ∨ q = offO j l → leO (some a) (offO j l) = false := by
      intro q hq h1 h2
      rcases h2 with h2 | h2
      · cases hl : offO j l with
        | none =>
          rw [hl] at h2
          cases q with
          | none => exact absurd rfl hq
          | some q => cases h2
        | some x =>
          cases q with
          | none => exact absurd rfl hq
          | some q =>
            rw [hl] at h2
            have t1 : x ≤ q := of_decide_eq_true h2
            have t2 : ¬ a ≤ q := of_decide_eq_false h1
            exact decide_eq_false (by omega)
      · rw [← h2]
        exact h1
    have step : due (j + 1) r a = some g ∧ due (j + 1) r (a + 1) ≠ some g ∧ 2 ^ (j + 1) - 1 ≤ g → leO (some a) (offO j l) = false → due j (l :: r) a = some g ∧ (due j (l :: r) (a + 1) ≠ some g) ∧ 2 ^ j - 1 ≤ g := by
      rintro ⟨i1, i3, i4⟩ h5
      have h6 : leO (some (a + 1)) (offO j l) = false := by
        cases hl : offO j l with
        | none => rw [hl] at h5; cases h5
        | some x =>
          rw [hl] at h5
          have t2 : ¬ a ≤ x := of_decide_eq_false h5
          exact decide_eq_false (by omega)
      rw [ea, ea, off, off, h5, h6, if_neg (by decide), if_neg (by decide)]
      exact ⟨i1, i3, by omega⟩
    by_cases hc : leO (offO j l) reach = true
    · rw [if_pos hc] at h'
      obtain ⟨i1, i2, i3, i4⟩ := prom_due r (j + 1) reach a g hr h'
      obtain ⟨s1, s2, s3⟩ := step ⟨i1, i3, i4⟩ (far reach hr i2 (.inl hc))
      exact ⟨s1, i2, s2, s3⟩
    · rw [if_neg hc] at h'
      have wide : ∀ b : Int, (leO (some b) (offO j l) = false → leO (some b) reach = false) := by
        intro b hb
        cases reach with
        | none => exact absurd rfl hr
        | some q =>
          cases hl : offO j l with
          | none => rw [hl] at hb; cases hb
          | some x =>
            rw [hl] at hb hc
            have t1 : ¬ x ≤ q := fun z => hc (decide_eq_true z)
            have t2 : ¬ b ≤ x := of_decide_eq_false hb
            exact decide_eq_false (by omega)
      rcases List.mem_cons.mp h' with e | h''
      · have e1 : some a = offO j l := congrArg Prod.fst e
        have e2 : g = 2 ^ j - 1 := congrArg Prod.snd e
        have k1 : leO (some a) (offO j l) = true := by rw [← e1]; exact decide_eq_true (Int.le_refl _)
        have k2 : leO (some (a + 1)) (offO j l) = false := by rw [← e1]; exact decide_eq_false (by omega)
        refine ⟨?_, ?_, ?_, by omega⟩
        · rw [ea, off, if_pos k1, e2]
        · cases reach with
          | none => exact absurd rfl hr
          | some q =>
            rw [← e1] at hc
            have t1 : ¬ a ≤ q := fun z => hc (decide_eq_true z)
            exact decide_eq_false t1
        · rw [ea, off, k2, if_neg (by decide)]
          intro z
          have big := due_ge r (j + 1) (a + 1) g z
          omega
      · cases hl : offO j l with
        | none =>
          rw [hl, prom_none] at h''
          exact nomatch h''
        | some x =>
          obtain ⟨i1, i2, i3, i4⟩ := prom_due r (j + 1) (offO j l) a g (by rw [hl]; intro z; cases z) h''
          obtain ⟨s1, s2, s3⟩ := step ⟨i1, i3, i4⟩ i2
          exact ⟨s1, wide a i2, s2, s3⟩
where
  due_ge : ∀ (ls : List (Option Int)) (j : Nat) (b g : Int), due j ls b = some g → 2 ^ j - 1 ≤ g
    | [], _, _, _, h => by cases h
    | l :: r, j, b, g, h => by
      have h' : (if leO (some (b + 2 ^ j)) l = true then some (2 ^ j - 1) else due (j + 1) r b) = some g := h
      by_cases hc : leO (some (b + 2 ^ j)) l = true
      · rw [if_pos hc] at h'
        have := Option.some.inj h'
        omega
      · rw [if_neg hc] at h'
        have i := due_ge r (j + 1) b g h'
        have p2 : (2 : Int) ^ (j + 1) = 2 ^ j * 2 := Int.pow_succ _ _
        have p0 := pow2_pos j
        omega
/-- bounds of what is promised -/
theorem prom_bound {B : Int} : ∀ (ls : List (Option Int)) (j : Nat) (reach : Option Int), j + ls.length ≤ 100 → (∀ x ∈ ls, ∀ i, x = some i → -B ≤ i ∧ i ≤ B) → ∀ p ∈ prom j reach ls, (∀ i, p.1 = some i → -B - 2 ^ 100 ≤ i ∧ i ≤ B) ∧ 0 ≤ p.2 ∧ p.2 ≤ 2 ^ 100
  | [], _, _, _, _, p, hp => nomatch hp
  | l :: r, j, reach, hj, hb, p, hp => by
    have h' : p ∈ (if leO (offO j l) reach = true then prom (j + 1) reach r else (offO j l, 2 ^ j - 1) :: prom (j + 1) (offO j l) r) := hp
    have hj' : j + 1 + r.length ≤ 100 := by simp at hj; omega
    have hb' : ∀ x ∈ r, ∀ i, x = some i → -B ≤ i ∧ i ≤ B := fun x hx => hb x (List.mem_cons_of_mem _ hx)
    have p0 := pow2_pos j
    have p1 : (2 : Int) ^ j ≤ 2 ^ 100 := pow2_le (by omega)
    by_cases hc : leO (offO j l) reach = true
    · rw [if_pos hc] at h'
      exact prom_bound r (j + 1) reach hj' hb' p h'
    · rw [if_neg hc] at h'
      rcases List.mem_cons.mp h' with e | h''
      · subst e
        refine ⟨fun i hi => ?_, ?_, ?_⟩
        · cases l with
          | none => cases hi
          | some x =>
            have e : x - 2 ^ j = i := Option.some.inj hi
            have := hb (some x) List.mem_cons_self x rfl
            omega
        · show (0 : Int) ≤ 2 ^ j - 1
          omega
        · show (2 : Int) ^ j - 1 ≤ 2 ^ 100
          omega
      · exact prom_bound r (j + 1) _ hj' hb' p h''
/-! ### shortest lives are lives -/
theorem good_take {ls : List (Option Int)} (g : Good ls) {n : Nat} (h0 : 0 < n) (h1 : n ≤ ls.length) : Good (ls.take n) := by
  refine ⟨by rw [List.length_take]; omega, by rw [List.length_take]; have := g.most; omega, ?_, ?_⟩
  · obtain ⟨is, l, e, hb, hl⟩ := g.init
    by_cases hn : n = ls.length
    · rw [hn, List.take_length]
      exact ⟨is, l, e, hb, hl⟩
    · have hlen : ls.length = is.length + 1 := by rw [e]; simp
      have hn2 : n ≤ is.length := by omega
      have e2 : ls.take n = (is.take n).map some := by rw [e, List.take_append_of_le_length (by rw [List.length_map]; exact hn2), List.map_take]
      obtain ⟨ini, z, ez⟩ : ∃ ini z, is.take n = ini ++ [z] := ⟨(is.take n).dropLast, (is.take n).getLast (fun z => absurd (congrArg List.length z) (by rw [List.length_take]; show ¬ min n is.length = 0; omega)), (List.dropLast_concat_getLast _).symm⟩
      have sub : ∀ y ∈ ini ++ [z], y ∈ is := fun y hy => List.mem_of_mem_take (by rw [← ez] at hy; exact hy)
      refine ⟨ini, some z, by rw [e2, ez, List.map_append]; rfl, fun i hi => hb i (sub i (List.mem_append_left _ hi)), fun i hi => ?_⟩
      have e3 : z = i := Option.some.inj hi
      rw [← e3]
      exact hb z (sub z (List.mem_append_right _ (List.mem_singleton_self _)))
  · intro i x y hx hy
    have li := (List.getElem?_eq_some_iff.mp hy).1
    rw [List.length_take] at li
    rw [List.getElem?_take_of_lt (by omega)] at hx hy
    exact g.asc i x y hx hy
theorem good_short {ls : List (Option Int)} (g : Good ls) : Good (short ls) := good_take g (cutN_pos _ _ g.pos) (cutN_le _ _)
theorem good_none_last {ls : List (Option Int)} (g : Good ls) {i : Nat} (h : ls[i]? = some none) : i + 1 = ls.length := by
  obtain ⟨is, l, e, hb, hl⟩ := g.init
  have hi := (List.getElem?_eq_some_iff.mp h).1
  have hlen : ls.length = is.length + 1 := by rw [e]; simp
  by_cases z : i < is.length
  · rw [e, List.getElem?_append_left (by rw [List.length_map]; exact z), List.getElem?_map, List.getElem?_eq_getElem z] at h
    cases h
  · omega
end Rk
namespace Rk
open PySem PySem.Spec PyProof.Rows L2

/-! ### sums over the ranks -/
def psum (g : Nat → Int) (z : Nat) : Nat → Int
  | 0 => 0
  | i + 1 => psum g z i + g i * 2 ^ (z - 1 - i)
/-- how many points 2 ** z ticks have, k the last rank -/
def pall (g : Nat → Int) (z k : Nat) : Int := g k * 2 ^ (z - k) + psum g z k
theorem psum_congr {g h : Nat → Int} {z : Nat} : ∀ i, (∀ j, j < i → g j = h j) → psum g z i = psum h z i
  | 0, _ => rfl
  | i + 1, e => by
    show psum g z i + g i * 2 ^ (z - 1 - i) = psum h z i + h i * 2 ^ (z - 1 - i)
    rw [psum_congr i fun j hj => e j (by omega), e i (by omega)]
theorem pall_congr {g h : Nat → Int} {z k : Nat} (e : ∀ j, j ≤ k → g j = h j) : pall g z k = pall h z k := by
  unfold pall
  rw [psum_congr k fun j hj => e j (by omega), e k (Nat.le_refl _)]
theorem psum_succ {g : Nat → Int} {z : Nat} : ∀ i, i ≤ z → psum g (z + 1) i = 2 * psum g z i
  | 0, _ => rfl
  | i + 1, h => by
    show psum g (z + 1) i + g i * 2 ^ (z + 1 - 1 - i) = 2 * (psum g z i + g i * 2 ^ (z - 1 - i))
    have e : z + 1 - 1 - i = (z - 1 - i) + 1 := by omega
    rw [psum_succ i (by omega), e, Int.pow_succ, Int.mul_add]
    congr 1
    rw [← Int.mul_assoc, Int.mul_comm 2]
theorem pall_wide {g : Nat → Int} {z k : Nat} (h : k ≤ z) : pall g (z + 1) k = 2 * pall g z k := by
  unfold pall
  have e : z + 1 - k = (z - k) + 1 := by omega
  rw [psum_succ k h, e, Int.pow_succ, Int.mul_add]
  congr 1
  rw [← Int.mul_assoc, Int.mul_comm 2]
/-- a last life that repeats the one ahead doubles it -/
theorem pall_same {g : Nat → Int} {k : Nat} (h : g (k + 1) = g k) : pall g (k + 1) (k + 1) = 2 * pall g k k := by
  have h2 := pall_wide (g := g) (Nat.le_refl k)
  rw [← h2]
  unfold pall
  show g (k + 1) * 2 ^ (k + 1 - (k + 1)) + (psum g (k + 1) k + g k * 2 ^ (k + 1 - 1 - k)) = g k * 2 ^ (k + 1 - k) + psum g (k + 1) k
  have e1 : k + 1 - (k + 1) = 0 := by omega
  have e2 : k + 1 - 1 - k = 0 := by omega
  have e3 : k + 1 - k = 1 := by omega
  rw [h, e1, e2, e3]
  have e4 : g k * 2 ^ 1 = g k * 2 ^ 0 + g k * 2 ^ 0 := by
    show g k * 2 = g k * 1 + g k * 1
    omega
  rw [e4]
  omega
def getI (is : List Int) (i : Nat) : Int := (is[i]?).getD 0
theorem getI_at {is : List Int} {i : Nat} {x : Int} (h : is[i]? = some x) : getI is i = x := by
  unfold getI
  rw [h]
  rfl
theorem getI_take {is : List Int} {i n : Nat} (h : i < n) : getI (is.take n) i = getI is i := by
  unfold getI
  rw [List.getElem?_take_of_lt h]
/-- cutting what repeats at the end -/
theorem pall_cut (is : List Int) : ∀ n, 0 < n → n ≤ is.length → pall (getI is) (n - 1) (n - 1) = pall (getI is) (cutN (is.map some) n - 1) (cutN (is.map some) n - 1) * 2 ^ (n - cutN (is.map some) n)
  | 0, h, _ => absurd h (by decide)
  | 1, _, _ => by
    show _ = pall (getI is) (1 - 1) (1 - 1) * 2 ^ (1 - 1)
    show _ = _ * 1
    rw [Int.mul_one]
  | n + 2, _, hl => by
    by_cases h : (is.map some)[n + 1]? = (is.map some)[n]?
    · rw [cutN_eq h]
      have ih := pall_cut is (n + 1) (by omega) (by omega)
      have hc := cutN_le (is.map some) (n + 1)
      have l1 : n + 1 < is.length := by omega
      have l0 : n < is.length := by omega
      have hg : getI is (n + 1) = getI is n := by
        rw [List.getElem?_map, List.getElem?_map, List.getElem?_eq_getElem l1, List.getElem?_eq_getElem l0] at h
        have e : is[n + 1] = is[n] := by simpa using h
        rw [getI_at (List.getElem?_eq_getElem l1), getI_at (List.getElem?_eq_getElem l0), e]
      have e1 : n + 2 - 1 = n + 1 := by omega
      have e2 : n + 1 - 1 = n := by omega
      have e3 : n + 2 - cutN (is.map some) (n + 1) = (n + 1 - cutN (is.map some) (n + 1)) + 1 := by omega
      rw [e2] at ih
      rw [e1, pall_same hg, ih, e3, Int.pow_succ, ← Int.mul_assoc, Int.mul_comm 2, Int.mul_assoc, Int.mul_comm 2]
    · rw [cutN_ne h, Nat.sub_self]
      show _ = _ * 1
      rw [Int.mul_one]
theorem psum_nonneg {g : Nat → Int} (h : ∀ i, 0 ≤ g i) (z : Nat) : ∀ i, 0 ≤ psum g z i
  | 0 => Int.le_refl _
  | i + 1 => Int.add_nonneg (psum_nonneg h z i) (Int.mul_nonneg (h i) (Int.le_of_lt (pow2_pos _)))
theorem pall_nonneg {g : Nat → Int} (h : ∀ i, 0 ≤ g i) (z k : Nat) : 0 ≤ pall g z k := Int.add_nonneg (Int.mul_nonneg (h k) (Int.le_of_lt (pow2_pos _))) (psum_nonneg h z k)
theorem psum_le {g : Nat → Int} {B : Int} (hB : 0 ≤ B) (h : ∀ i, g i ≤ B) (z : Nat) : ∀ i, psum g z i ≤ (i : Nat) * (B * 2 ^ z)
  | 0 => by show (0 : Int) ≤ ((0 : Nat) : Int) * _; simp
  | i + 1 => by
    have ih := psum_le hB h z i
    have e : g i * 2 ^ (z - 1 - i) ≤ B * 2 ^ z := by
      have a1 : g i * 2 ^ (z - 1 - i) ≤ B * 2 ^ (z - 1 - i) := Int.mul_le_mul_of_nonneg_right (h i) (Int.le_of_lt (pow2_pos _))
      have a2 : B * 2 ^ (z - 1 - i) ≤ B * 2 ^ z := Int.mul_le_mul_of_nonneg_left (pow2_le (by omega)) hB
      omega
    show psum g z i + g i * 2 ^ (z - 1 - i) ≤ ((i + 1 : Nat) : Int) * (B * 2 ^ z)
    have e2 : ((i + 1 : Nat) : Int) * (B * 2 ^ z) = (i : Nat) * (B * 2 ^ z) + B * 2 ^ z := by
      rw [Int.natCast_add, Int.add_mul]
      simp
    omega
theorem pall_le {g : Nat → Int} {B : Int} (hB : 0 ≤ B) (h : ∀ i, g i ≤ B) (z k : Nat) : pall g z k ≤ ((k : Int) + 1) * (B * 2 ^ z) := by
  have e := psum_le hB h z k
  have a1 : g k * 2 ^ (z - k) ≤ B * 2 ^ (z - k) := Int.mul_le_mul_of_nonneg_right (h k) (Int.le_of_lt (pow2_pos _))
  have a2 : B * 2 ^ (z - k) ≤ B * 2 ^ z := Int.mul_le_mul_of_nonneg_left (pow2_le (by omega)) hB
  unfold pall
  rw [Int.add_mul, Int.one_mul]
  omega
/-! ### lowest terms -/
theorem dvd_pow2 : ∀ (k d : Nat), d ∣ 2 ^ k → ∃ m, m ≤ k ∧ d = 2 ^ m
  | 0, d, h => ⟨0, Nat.le_refl _, Nat.eq_one_of_dvd_one h⟩
  | k + 1, d, h => by
    by_cases hd : d % 2 = 0
    · obtain ⟨e, rfl⟩ : ∃ e, d = 2 * e := ⟨d / 2, by omega⟩
      rw [Nat.pow_succ, Nat.mul_comm (2 ^ k)] at h
      obtain ⟨m, hm, em⟩ := dvd_pow2 k e (Nat.dvd_of_mul_dvd_mul_left (by decide) h)
      exact ⟨m + 1, by omega, by rw [em, Nat.pow_succ, Nat.mul_comm]⟩
    · have c : Nat.Coprime d 2 := by
        have g2 : d.gcd 2 ∣ 2 := Nat.gcd_dvd_right _ _
        have gd : d.gcd 2 ∣ d := Nat.gcd_dvd_left _ _
        have le := Nat.le_of_dvd (by decide) g2
        have pos : 0 < d.gcd 2 := Nat.gcd_pos_of_pos_right _ (by decide)
        by_cases e : d.gcd 2 = 2
        · rw [e] at gd
          obtain ⟨q, hq⟩ := gd
          omega
        · show d.gcd 2 = 1
          omega
      exact ⟨0, Nat.zero_le _, (c.pow_right (k + 1)).eq_one_of_dvd h⟩
/-- A / G and 2 ^ k / G for G their greatest common divisor -/
theorem lowest (A k : Nat) : ∃ j a : Nat, j ≤ k ∧ 2 ^ k / A.gcd (2 ^ k) = 2 ^ j ∧ A / A.gcd (2 ^ k) = a ∧ a * 2 ^ k = A * 2 ^ j ∧ (j = 0 ∨ a % 2 = 1) := by
  have pk : 0 < 2 ^ k := Nat.pow_pos (by decide)
  have gp : 0 < A.gcd (2 ^ k) := Nat.gcd_pos_of_pos_right _ pk
  have gl : A.gcd (2 ^ k) ∣ A := Nat.gcd_dvd_left _ _
  have gr : A.gcd (2 ^ k) ∣ 2 ^ k := Nat.gcd_dvd_right _ _
  obtain ⟨m, hm, em⟩ := dvd_pow2 k _ gr
  have cop := Nat.coprime_div_gcd_div_gcd gp
  have e2 : 2 ^ k / A.gcd (2 ^ k) = 2 ^ (k - m) := by
    rw [em]
    exact Nat.pow_div hm (by decide)
  refine ⟨k - m, _, by omega, e2, rfl, ?_, ?_⟩
  · rw [← e2]
    have a1 := Nat.div_mul_cancel gl
    have a2 := Nat.div_mul_cancel gr
    generalize A.gcd (2 ^ k) = G at *
    calc A / G * 2 ^ k = A / G * (2 ^ k / G * G) := by rw [a2]
      _ = A / G * G * (2 ^ k / G) := by rw [Nat.mul_comm (2 ^ k / G) G, Nat.mul_assoc]
      _ = A * (2 ^ k / G) := by rw [a1]
  · by_cases h : k - m = 0
    · exact .inl h
    · refine .inr ?_
      rw [e2] at cop
      by_cases o : A / A.gcd (2 ^ k) % 2 = 1
      · exact o
      · exfalso
        have d1 : 2 ∣ A / A.gcd (2 ^ k) := Nat.dvd_of_mod_eq_zero (by omega)
        have d2 : 2 ∣ 2 ^ (k - m) := ⟨2 ^ (k - m - 1), by rw [← Nat.pow_succ']; congr 1; omega⟩
        have d3 := Nat.dvd_gcd d1 d2
        have d4 : (A / A.gcd (2 ^ k)).gcd (2 ^ (k - m)) = 1 := cop
        rw [d4] at d3
        have := Nat.le_of_dvd (by decide) d3
        omega
/-! ### the last life of the shortest lives -/
theorem short_last {ls : List (Option Int)} (h0 : 0 < ls.length) {l : Option Int} (h : ls.getLast? = some l) : (short ls).getLast? = some l := by
  have p := short_len_pos h0
  obtain ⟨y, hy⟩ : ∃ y, (short ls).getLast? = some y := by
    cases e : short ls with
    | nil => rw [e] at p; exact absurd p (by decide)
    | cons a r => exact ⟨_, List.getLast?_eq_some_getLast (by simp)⟩
  have le := short_len_le ls
  have e1 : lifeAt (short ls) ls.length = y := lifeAt_ge le hy
  rw [lifeAt_short h0, lifeAt_ge (Nat.le_refl _) h] at e1
  rw [hy, e1]
theorem shl_int {i j : Int} {n : Nat} (h : i.natAbs < 2 ^ n) (h0 : 0 ≤ j) (h1 : (n : Int) + j ≤ 134217728) : CShl i j := by
  obtain ⟨m, rfl⟩ := Int.eq_ofNat_of_zero_le h0
  exact shl_ok h (by omega)
end Rk
namespace Rk
open PySem PySem.Spec PyProof.Rows L2

/-! ### tuples that the heap holds, one by one -/
def TAt (H : Hp) : List V → List (List V) → Prop
  | [], [] => True
  | x :: xs, y :: ys => (∃ t, x = .ref t ∧ H t = some (.tup y)) ∧ TAt H xs ys
  | _, _ => False
theorem TAt.length {H : Hp} : ∀ {xs : List V} {ps : List (List V)}, TAt H xs ps → xs.length = ps.length
  | [], [], _ => rfl
  | _ :: _, _ :: _, h => congrArg (· + 1) (TAt.length h.2)
  | [], _ :: _, h => h.elim
  | _ :: _, [], h => h.elim
theorem TAt.keep {H H' : Hp} (k : ∀ t ys, H t = some (.tup ys) → H' t = some (.tup ys)) : ∀ {xs : List V} {ps : List (List V)}, TAt H xs ps → TAt H' xs ps
  | [], [], _ => trivial
  | _ :: _, _ :: _, ⟨⟨t, e, h⟩, r⟩ => ⟨⟨t, e, k _ _ h⟩, TAt.keep k r⟩
  | [], _ :: _, h => h.elim
  | _ :: _, [], h => h.elim
theorem TAt.same {H H' : Hp} (s : Same H H') {xs : List V} {ps : List (List V)} (h : TAt H xs ps) : TAt H' xs ps := h.keep fun _ _ e => s _ _ e
theorem TAt.snoc {H : Hp} {t : Addr} {p : List V} (e : H t = some (.tup p)) : ∀ {xs : List V} {ps : List (List V)}, TAt H xs ps → TAt H (xs ++ [.ref t]) (ps ++ [p])
  | [], [], _ => ⟨⟨t, rfl, e⟩, trivial⟩
  | _ :: _, _ :: _, ⟨a, r⟩ => ⟨a, TAt.snoc e r⟩
  | [], _ :: _, h => h.elim
  | _ :: _, [], h => h.elim
theorem TAt.get {H : Hp} : ∀ {xs : List V} {ps : List (List V)} {i : Nat} {x : V}, TAt H xs ps → xs[i]? = some x → ∃ t p, x = .ref t ∧ ps[i]? = some p ∧ H t = some (.tup p)
  | [], [], i, x, _, e => by simp at e
  | _ :: _, p :: _, 0, x, ⟨⟨t, a, h⟩, r⟩, e => by
    have : x = .ref t := by rw [← a]; simpa using e.symm
    exact ⟨t, p, this, rfl, h⟩
  | _ :: xs, _ :: ps, i + 1, x, ⟨_, r⟩, e => TAt.get (xs := xs) (ps := ps) (i := i) r (by simpa using e)
  | [], _ :: _, _, _, h, _ => h.elim
  | _ :: _, [], _, _, h, _ => h.elim
theorem TAt.upd {H : Hp} {F : Addr} {ys : List V} {o : HO} (hF : H F = some (.lst ys)) {xs : List V} {ps : List (List V)} (h : TAt H xs ps) : TAt (upd H F o) xs ps := h.keep fun t ws e => by
  have n : t ≠ F := ne_of e hF (by intro z; cases z)
  rw [upd_ne n]
  exact e

/-! ### the bands of the kept points -/
def bandLo (tick : Int) : Option Int → Int
  | none => 0
  | some b => if tick + 1 ≤ b then 0 else tick + 1 - b
theorem bandLo_some (tick b : Int) : bandLo tick (some b) = if tick + 1 ≤ b then 0 else tick + 1 - b := rfl
def bandsOf (tick : Int) : Nat → Int → List (Option Int) → List (Int × Int × Int)
  | _, _, [] => []
  | i, hi, l :: r => (bandLo tick l, hi, 2 ^ i) :: bandsOf tick (i + 1) (bandLo tick l - 1) r
def bandV (b : Int × Int × Int) : List V := [.int b.1, .int b.2.1, .int b.2.2]
theorem bands_len (tick : Int) : ∀ (ls : List (Option Int)) (i : Nat) (hi : Int), (bandsOf tick i hi ls).length = ls.length
  | [], _, _ => rfl
  | _ :: r, i, hi => congrArg (· + 1) (bands_len tick r (i + 1) _)
theorem bandLo_le {tick : Int} (h : 0 ≤ tick) {l : Option Int} (hl : ∀ v, l = some v → 0 ≤ v) : 0 ≤ bandLo tick l ∧ bandLo tick l ≤ tick + 1 := by
  cases l with
  | none => exact ⟨Int.le_refl _, show (0 : Int) ≤ tick + 1 by omega⟩
  | some b =>
    have := hl b rfl
    rw [bandLo_some]
    by_cases c : tick + 1 ≤ b
    · rw [if_pos c]; omega
    · rw [if_neg c]; omega
theorem bandLo_mono {tick : Int} (h : 0 ≤ tick) {x y : Option Int} (e : leO x y = true) : bandLo tick y ≤ bandLo tick x := by
  cases y with
  | none =>
    cases x with
    | none => exact Int.le_refl _
    | some a =>
      show (0 : Int) ≤ bandLo tick (some a)
      rw [bandLo_some]
      by_cases c : tick + 1 ≤ a
      · rw [if_pos c]; exact Int.le_refl _
      · rw [if_neg c]; omega
  | some b =>
    cases x with
    | none => cases e
    | some a =>
      have hab : a ≤ b := of_decide_eq_true e
      rw [bandLo_some, bandLo_some]
      by_cases c : tick + 1 ≤ b
      · rw [if_pos c]
        by_cases d : tick + 1 ≤ a
        · rw [if_pos d]; exact Int.le_refl _
        · rw [if_neg d]; omega
      · have d : ¬ tick + 1 ≤ a := by omega
        rw [if_neg c, if_neg d]
        omega
/-- how many multiples of s lie from l to h -/
def mulN (l h s : Int) : Int := if l > h then 0 else h / s - (l - 1) / s
theorem mulN_nonneg {l h s : Int} (hs : 0 < s) : 0 ≤ mulN l h s := by
  unfold mulN
  by_cases c : l > h
  · rw [if_pos c]; exact Int.le_refl _
  · rw [if_neg c]
    have := Int.ediv_le_ediv hs (show l - 1 ≤ h by omega)
    omega
theorem mulN_le {l h s : Int} (hs : 0 < s) (hl : 0 ≤ l) (hh : 0 ≤ h) : mulN l h s ≤ h + 1 := by
  unfold mulN
  by_cases c : l > h
  · rw [if_pos c]; omega
  · rw [if_neg c]
    have a1 : h / s ≤ h := Int.ediv_le_self s hh
    have a2 : -1 ≤ (l - 1) / s := by
      have := Int.ediv_le_ediv hs (show (-1 : Int) ≤ l - 1 by omega)
      have e : (-1 : Int) / s = -1 := by
        rw [Int.ediv_eq_iff_of_pos hs]
        omega
      omega
    omega
theorem mulN_cut {l m h s : Int} (h1 : l ≤ m + 1) (h2 : m ≤ h) : mulN l m s + mulN (m + 1) h s = mulN l h s := by
  unfold mulN
  have e : m + 1 - 1 = m := by omega
  by_cases a : l > m
  · rw [if_pos a]
    have : l = m + 1 := by omega
    subst this
    omega
  · rw [if_neg a]
    by_cases b : m + 1 > h
    · rw [if_pos b]
      have : m = h := by omega
      subst this
      rw [if_neg a]
      omega
    · rw [if_neg b, if_neg (show ¬ l > h by omega), e]
      omega
def cntB (low high tick : Int) : Nat → Int → List (Option Int) → Int
  | _, _, [] => 0
  | i, hi, l :: r => mulN (max low (bandLo tick l)) (min high hi) (2 ^ i) + cntB low high tick (i + 1) (bandLo tick l - 1) r
/-- the law's own sum -/
def lcnt (low H tick : Int) : Nat → List (Option Int) → Int
  | _, [] => 0
  | i, [l] => mulN (max low (bandLo tick l)) H (2 ^ i)
  | i, l :: m :: r => mulN (max low (bandLo tick l)) H (2 ^ i) - mulN (max low (bandLo tick l)) H (2 ^ (i + 1)) + lcnt low H tick (i + 1) (m :: r)
theorem mulN_split {low high tick lo P s : Int} (h1 : lo ≤ P) (h2 : P ≤ tick + 1) : mulN (max low lo) (min high tick) s - mulN (max low P) (min high tick) s = mulN (max low lo) (min high (P - 1)) s := by
  by_cases a : max low lo > min high tick
  · have b : max low P > min high tick := by omega
    have c : max low lo > min high (P - 1) := by omega
    unfold mulN
    rw [if_pos a, if_pos b, if_pos c]
    rfl
  · by_cases b : max low P > min high tick
    · have e : min high (P - 1) = min high tick := by omega
      rw [e]
      unfold mulN
      rw [if_pos b]
      omega
    · by_cases d : low ≤ P
      · have e1 : max low P = P := by omega
        have e2 : min high (P - 1) = P - 1 := by omega
        rw [e1, e2]
        rw [e1] at b
        have q := mulN_cut (l := max low lo) (m := P - 1) (h := min high tick) (s := s) (by omega) (by omega)
        have e3 : P - 1 + 1 = P := by omega
        rw [e3] at q
        omega
      · have e1 : max low lo = max low P := by omega
        have e2 : max low P > min high (P - 1) := by omega
        rw [e1]
        have e3 : mulN (max low P) (min high (P - 1)) s = 0 := if_pos e2
        rw [e3]
        omega
theorem lcnt_bands {low high tick : Int} (ht : 0 ≤ tick) : ∀ (ls : List (Option Int)) (i : Nat) (P : Int), ls ≠ [] → P ≤ tick + 1 → (∀ l, ls.head? = some l → bandLo tick l ≤ P) → (∀ (i : Nat) (x y : Option Int), ls[i]? = some x → ls[i + 1]? = some y → leO x y = true) → (∀ l ∈ ls, ∀ v, l = some v → 0 ≤ v) →
    lcnt low (min high tick) tick i ls - mulN (max low P) (min high tick) (2 ^ i) = cntB low high tick i (P - 1) ls
  | [], _, _, h, _, _, _, _ => absurd rfl h
  | [l], i, P, _, hP, hd, _, _ => by
    show mulN (max low (bandLo tick l)) (min high tick) (2 ^ i) - _ = mulN (max low (bandLo tick l)) (min high (P - 1)) (2 ^ i) + 0
    rw [mulN_split (hd l rfl) hP, Int.add_zero]
  | l :: m :: r, i, P, _, hP, hd, asc, hb => by
    have q := mulN_split (low := low) (high := high) (tick := tick) (s := 2 ^ i) (hd l rfl) hP
    have hlo := bandLo_le ht (hb l List.mem_cons_self)
    have ih := lcnt_bands (low := low) (high := high) ht (m :: r) (i + 1) (bandLo tick l) (by simp) hlo.2 (fun x hx => by
      have : m = x := by simpa using hx
      rw [← this]
      exact bandLo_mono ht (asc 0 l m rfl rfl)) (fun j x y hx hy => asc (j + 1) x y hx hy) (fun x hx => hb x (List.mem_cons_of_mem _ hx))
    show mulN (max low (bandLo tick l)) (min high tick) (2 ^ i) - mulN (max low (bandLo tick l)) (min high tick) (2 ^ (i + 1)) + lcnt low (min high tick) tick (i + 1) (m :: r) - _ = mulN (max low (bandLo tick l)) (min high (P - 1)) (2 ^ i) + cntB low high tick (i + 1) (bandLo tick l - 1) (m :: r)
    omega
theorem lcnt_all {low high tick : Int} (ht : 0 ≤ tick) {ls : List (Option Int)} (g : Good ls) : lcnt low (min high tick) tick 0 ls = cntB low high tick 0 tick ls := by
  have hb : ∀ l ∈ ls, ∀ v, l = some v → 0 ≤ v := fun l hl v e => (g.bd l hl v e).1
  have q := lcnt_bands (low := low) (high := high) ht ls 0 (tick + 1) (by intro z; have := g.pos; rw [z] at this; exact absurd this (by decide)) (Int.le_refl _) (fun l hl => (bandLo_le ht (hb l (by
    cases ls with
    | nil => cases hl
    | cons a r => rw [show a = l by simpa using hl]; exact List.mem_cons_self))).2) g.asc hb
  have e1 : tick + 1 - 1 = tick := by omega
  have e2 : mulN (max low (tick + 1)) (min high tick) (2 ^ 0) = 0 := if_pos (by omega)
  rw [e1, e2] at q
  omega
theorem lcnt_snoc {low H tick : Int} {l : Option Int} : ∀ (xs : List (Option Int)) (i : Nat), xs.getLast? = some l → lcnt low H tick i (xs ++ [l]) = lcnt low H tick i xs
  | [], _, h => by simp at h
  | [x], i, h => by
    have e : x = l := by simpa using h
    subst e
    show mulN (max low (bandLo tick x)) H (2 ^ i) - mulN (max low (bandLo tick x)) H (2 ^ (i + 1)) + mulN (max low (bandLo tick x)) H (2 ^ (i + 1)) = mulN (max low (bandLo tick x)) H (2 ^ i)
    omega
  | x :: y :: r, i, h => by
    have h' : (y :: r).getLast? = some l := by simpa [List.getLast?_cons_cons] using h
    have ih := lcnt_snoc (low := low) (H := H) (tick := tick) (y :: r) (i + 1) h'
    show _ - _ + lcnt low H tick (i + 1) ((y :: r) ++ [l]) = _ - _ + lcnt low H tick (i + 1) (y :: r)
    rw [ih]
theorem lcnt_take {low H tick : Int} {ls : List (Option Int)} : ∀ n, n ≤ ls.length → lcnt low H tick 0 (ls.take (cutN ls n)) = lcnt low H tick 0 (ls.take n)
  | 0, _ => rfl
  | 1, _ => rfl
  | n + 2, hn => by
    by_cases h : ls[n + 1]? = ls[n]?
    · rw [cutN_eq h, lcnt_take (n + 1) (by omega)]
      have h1 : n + 1 < ls.length := by omega
      have e : ls.take (n + 2) = ls.take (n + 1) ++ [ls[n + 1]] := (List.take_append_getElem h1).symm
      rw [e]
      symm
      apply lcnt_snoc
      rw [List.getLast?_eq_getElem?, List.length_take, Nat.min_eq_left (by omega)]
      show (ls.take (n + 1))[n]? = some ls[n + 1]
      rw [List.getElem?_take_of_lt (by omega), ← h, List.getElem?_eq_getElem h1]
    · rw [cutN_ne h]
/-- the law's sum over all lives is the count over the bands of the shortest -/
theorem lcnt_short {low high tick : Int} (ht : 0 ≤ tick) {ls : List (Option Int)} (g : Good ls) : lcnt low (min high tick) tick 0 ls = cntB low high tick 0 tick (short ls) := by
  rw [← lcnt_all ht (good_short g)]
  unfold short
  rw [lcnt_take _ (Nat.le_refl _), List.take_length]
theorem cntB_cut {a m c tick : Int} (h1 : a ≤ m + 1) (h2 : m ≤ c) : ∀ (ls : List (Option Int)) (i : Nat) (hi : Int), cntB a m tick i hi ls + cntB (m + 1) c tick i hi ls = cntB a c tick i hi ls
  | [], _, _ => rfl
  | l :: r, i, hi => by
    have ih := cntB_cut (tick := tick) h1 h2 r (i + 1) (bandLo tick l - 1)
    have key : ∀ lo s : Int, mulN (max a lo) (min m hi) s + mulN (max (m + 1) lo) (min c hi) s = mulN (max a lo) (min c hi) s := by
      intro lo s
      by_cases x : lo ≤ m + 1
      · by_cases y : m ≤ hi
        · have e1 : min m hi = m := by omega
          have e2 : max (m + 1) lo = m + 1 := by omega
          rw [e1, e2]
          exact mulN_cut (by omega) (by omega)
        · have e1 : min m hi = hi := by omega
          have e2 : min c hi = hi := by omega
          have e3 : mulN (max (m + 1) lo) hi s = 0 := if_pos (by omega)
          rw [e1, e2, e3]
          omega
      · have e1 : mulN (max a lo) (min m hi) s = 0 := if_pos (by omega)
        have e2 : max (m + 1) lo = max a lo := by omega
        rw [e1, e2]
        omega
    have k := key (bandLo tick l) (2 ^ i)
    show mulN (max a (bandLo tick l)) (min m hi) (2 ^ i) + cntB a m tick (i + 1) (bandLo tick l - 1) r + (mulN (max (m + 1) (bandLo tick l)) (min c hi) (2 ^ i) + cntB (m + 1) c tick (i + 1) (bandLo tick l - 1) r) = mulN (max a (bandLo tick l)) (min c hi) (2 ^ i) + cntB a c tick (i + 1) (bandLo tick l - 1) r
    omega
theorem cntB_over {low high tick : Int} (ht : 0 ≤ tick) (h : tick < low) : ∀ (ls : List (Option Int)) (i : Nat) (hi : Int), hi ≤ tick → (∀ l ∈ ls, ∀ v, l = some v → 0 ≤ v) → cntB low high tick i hi ls = 0
  | [], _, _, _, _ => rfl
  | l :: r, i, hi, hh, hb => by
    have hlo := bandLo_le ht (hb l List.mem_cons_self)
    have ih := cntB_over (low := low) (high := high) ht h r (i + 1) (bandLo tick l - 1) (by omega) (fun x hx => hb x (List.mem_cons_of_mem _ hx))
    have e : mulN (max low (bandLo tick l)) (min high hi) (2 ^ i) = 0 := if_pos (by omega)
    show mulN (max low (bandLo tick l)) (min high hi) (2 ^ i) + cntB low high tick (i + 1) (bandLo tick l - 1) r = 0
    rw [e, ih]
    rfl
theorem cntB_bound {low high tick : Int} (h0 : 0 ≤ low) (h1 : 0 ≤ high) : ∀ (ls : List (Option Int)) (i : Nat) (hi : Int), 0 ≤ cntB low high tick i hi ls ∧ cntB low high tick i hi ls ≤ (ls.length : Int) * (high + 1)
  | [], _, _ => ⟨Int.le_refl _, by show (0 : Int) ≤ ((0 : Nat) : Int) * _; simp⟩
  | l :: r, i, hi => by
    have ih := cntB_bound (tick := tick) h0 h1 r (i + 1) (bandLo tick l - 1)
    have a1 := mulN_nonneg (l := max low (bandLo tick l)) (h := min high hi) (pow2_pos i)
    have a2 : mulN (max low (bandLo tick l)) (min high hi) (2 ^ i) ≤ high + 1 := by
      by_cases c : 0 ≤ min high hi
      · have := mulN_le (l := max low (bandLo tick l)) (h := min high hi) (pow2_pos i) (by omega) c
        omega
      · have e : mulN (max low (bandLo tick l)) (min high hi) (2 ^ i) = 0 := if_pos (by omega)
        omega
    have e : (((l :: r).length : Nat) : Int) * (high + 1) = (r.length : Int) * (high + 1) + (high + 1) := by
      rw [List.length_cons, Int.natCast_add, Int.add_mul]
      simp
    show 0 ≤ mulN (max low (bandLo tick l)) (min high hi) (2 ^ i) + cntB low high tick (i + 1) (bandLo tick l - 1) r ∧ mulN (max low (bandLo tick l)) (min high hi) (2 ^ i) + cntB low high tick (i + 1) (bandLo tick l - 1) r ≤ _
    rw [e]
    omega
/-- the law's own way to count multiples -/
theorem mulN_law {l h s : Int} (hs : 0 < s) : (if h / s - (l + s - 1) / s + 1 > 0 then h / s - (l + s - 1) / s + 1 else 0) = mulN l h s := by
  have e : (l + s - 1) / s = (l - 1) / s + 1 := by
    have e2 : l + s - 1 = (l - 1) + 1 * s := by omega
    rw [e2, Int.add_mul_ediv_right _ _ (by omega)]
  rw [e]
  unfold mulN
  by_cases c : l > h
  · rw [if_pos c]
    have := Int.ediv_le_ediv hs (show h ≤ l - 1 by omega)
    rw [if_neg (by omega)]
  · rw [if_neg c]
    have := Int.ediv_le_ediv hs (show l - 1 ≤ h by omega)
    by_cases d : h / s - ((l - 1) / s + 1) + 1 > 0
    · rw [if_pos d]; omega
    · rw [if_neg d]; omega
end Rk
namespace Rk
open PySem PySem.Spec PyProof.Rows L2

/-! ### lives rise with the rank -/
theorem leO_refl (x : Option Int) : leO x x = true := by
  cases x with
  | none => rfl
  | some a => exact decide_eq_true (Int.le_refl a)
theorem leO_trans {x y z : Option Int} (a : leO x y = true) (b : leO y z = true) : leO x z = true := by
  cases z with
  | none => cases x <;> rfl
  | some c =>
    cases y with
    | none => cases b
    | some b' =>
      cases x with
      | none => cases a
      | some a' =>
        have h1 : a' ≤ b' := of_decide_eq_true a
        have h2 : b' ≤ c := of_decide_eq_true b
        exact decide_eq_true (Int.le_trans h1 h2)
theorem lifeAt_step {ls : List (Option Int)} (g : Good ls) (j : Nat) : leO (lifeAt ls j) (lifeAt ls (j + 1)) = true := by
  by_cases h : j + 1 < ls.length
  · have e0 := List.getElem?_eq_getElem (show j < ls.length by omega)
    have e1 := List.getElem?_eq_getElem h
    rw [lifeAt_lt e0, lifeAt_lt e1]
    exact g.asc j _ _ e0 e1
  · rw [lifeAt_const g.pos (j + 1) (by omega)]
    by_cases h2 : j = ls.length - 1
    · rw [h2]
      exact leO_refl _
    · rw [lifeAt_const g.pos j (by omega)]
      exact leO_refl _
theorem lifeAt_mono {ls : List (Option Int)} (g : Good ls) {j : Nat} : ∀ k, leO (lifeAt ls j) (lifeAt ls (j + k)) = true
  | 0 => leO_refl _
  | k + 1 => leO_trans (lifeAt_mono g k) (lifeAt_step g (j + k))
theorem lifeAt_le {ls : List (Option Int)} (g : Good ls) {j k : Nat} (h : j ≤ k) : leO (lifeAt ls j) (lifeAt ls k) = true := by
  have := lifeAt_mono g (j := j) (k - j)
  rw [show j + (k - j) = k by omega] at this
  exact this
/-! ### the rank of a point -/
def rkI (n : Int) : Nat := if n = 0 then 1000 else tz n.toNat
theorem tz_dvd : ∀ (i n : Nat), 0 < n → (n % 2 ^ i = 0 ↔ i ≤ tz n)
  | 0, n, _ => by
    rw [Nat.pow_zero, Nat.mod_one]
    exact ⟨fun _ => Nat.zero_le _, fun _ => rfl⟩
  | i + 1, n, h => by
    by_cases e : n % 2 = 0
    · rw [tz_even h e]
      have ih := tz_dvd i (n / 2) (by omega)
      have q : n % 2 ^ (i + 1) = 2 * (n / 2 % 2 ^ i) := by
        have e1 : n = 2 * (n / 2) := by omega
        conv => lhs; rw [e1, Nat.pow_succ, Nat.mul_comm (2 ^ i), Nat.mul_mod_mul_left]
      rw [q]
      omega
    · rw [tz_odd (by omega)]
      constructor
      · intro z
        exfalso
        have d : 2 ^ (i + 1) ∣ n := Nat.dvd_of_mod_eq_zero z
        have d2 : 2 ∣ n := Nat.dvd_trans ⟨2 ^ i, by rw [Nat.pow_succ, Nat.mul_comm]⟩ d
        omega
      · intro z
        exact absurd z (by omega)
theorem emod_pow_cast (n i : Nat) : ((n : Nat) : Int) % 2 ^ i = 0 ↔ n % 2 ^ i = 0 := by
  have e : (2 : Int) ^ i = ((2 ^ i : Nat) : Int) := by rw [Int.natCast_pow]; rfl
  rw [e, ← Int.natCast_emod]
  omega
theorem rk_dvd {n : Int} (h : 0 ≤ n) {i : Nat} (hi : i ≤ 1000) : n % 2 ^ i = 0 ↔ i ≤ rkI n := by
  unfold rkI
  by_cases z : n = 0
  · rw [if_pos z, z]
    simp [hi]
  · rw [if_neg z]
    obtain ⟨m, rfl⟩ := Int.eq_ofNat_of_zero_le h
    rw [emod_pow_cast]
    exact tz_dvd i m (by omega)
/-! ### what is kept -/
def Kept (ls : List (Option Int)) (t n : Int) : Prop := 0 ≤ n ∧ n ≤ t ∧ leO (some (t - n + 1)) (lifeAt ls (rkI n)) = true
theorem enough_iff {t n : Int} (h : 0 ≤ n) (l : Option Int) : leO (some (t - n + 1)) l = true ↔ bandLo t l ≤ n := by
  cases l with
  | none => exact ⟨fun _ => h, fun _ => rfl⟩
  | some b =>
    rw [bandLo_some]
    constructor
    · intro z
      have z' : t - n + 1 ≤ b := of_decide_eq_true z
      by_cases c : t + 1 ≤ b
      · rw [if_pos c]; exact h
      · rw [if_neg c]; omega
    · intro z
      refine decide_eq_true ?_
      by_cases c : t + 1 ≤ b
      · omega
      · rw [if_neg c] at z
        omega
theorem kept_short {ls : List (Option Int)} (h0 : 0 < ls.length) {t n : Int} : Kept (short ls) t n ↔ Kept ls t n := by
  unfold Kept
  rw [lifeAt_short h0]
def inB (t : Int) : Nat → Int → List (Option Int) → Int → Prop
  | _, _, [], _ => False
  | i, hi, l :: r, n => (bandLo t l ≤ n ∧ n ≤ hi ∧ n % 2 ^ i = 0) ∨ inB t (i + 1) (bandLo t l - 1) r n
theorem inB_le {t : Int} (ht : 0 ≤ t) : ∀ (ls : List (Option Int)) (i : Nat) (hi n : Int), (∀ l, ls.head? = some l → bandLo t l ≤ hi + 1) → (∀ (i : Nat) (x y : Option Int), ls[i]? = some x → ls[i + 1]? = some y → leO x y = true) → inB t i hi ls n → n ≤ hi
  | [], _, _, _, _, _, h => h.elim
  | l :: r, i, hi, n, hd, asc, h => by
    have h1 := hd l rfl
    rcases h with h | h
    · exact h.2.1
    · have q := inB_le ht r (i + 1) (bandLo t l - 1) n (fun m hm => by
        cases r with
        | nil => cases hm
        | cons a r' =>
          have e : a = m := by simpa using hm
          have := bandLo_mono ht (asc 0 l a rfl rfl)
          rw [← e]
          omega) (fun j x y hx hy => asc (j + 1) x y hx hy) h
      omega
theorem inB_kept {ls : List (Option Int)} (g : Good ls) {t : Int} (ht : 0 ≤ t) {n : Int} (hn : 0 ≤ n) (hnt : n ≤ t) : ∀ (r : List (Option Int)) (i : Nat) (hi : Int), ls.drop i = r → i ≤ ls.length → n ≤ hi → (i = 0 ∨ n < bandLo t (lifeAt ls (i - 1))) → (inB t i hi r n ↔ Kept ls t n)
  | [], i, hi, e, hil, hnh, hp => by
    have hi0 : i = ls.length := by
      have := congrArg List.length e
      rw [List.length_drop, List.length_nil] at this
      omega
    have h0 := g.pos
    refine ⟨fun z => z.elim, fun z => ?_⟩
    rcases hp with hp | hp
    · omega
    · have k := (enough_iff hn _).mp z.2.2
      have m : leO (lifeAt ls (rkI n)) (lifeAt ls (i - 1)) = true := by
        by_cases c : rkI n ≤ i - 1
        · exact lifeAt_le g c
        · rw [hi0, lifeAt_const h0 (rkI n) (by omega)]
          exact leO_refl _
      have := bandLo_mono ht m
      omega
  | l :: r, i, hi, e, hil, hnh, hp => by
    have hi1 : i < ls.length := by
      have := congrArg List.length e
      rw [List.length_drop, List.length_cons] at this
      omega
    have hm := g.most
    have el : lifeAt ls i = l := by
      have e2 := drop_cons (List.getElem?_eq_getElem hi1)
      rw [e] at e2
      have e3 : l = ls[i] := (List.cons.inj e2).1
      rw [lifeAt_lt (List.getElem?_eq_getElem hi1), e3]
    have er : ls.drop (i + 1) = r := by
      have e2 := drop_cons (List.getElem?_eq_getElem hi1)
      rw [e] at e2
      exact (List.cons.inj e2).2.symm
    by_cases c : bandLo t l ≤ n
    · have no : ¬ inB t (i + 1) (bandLo t l - 1) r n := by
        intro z
        have := inB_le ht r (i + 1) (bandLo t l - 1) n (fun m hm2 => by
          have e2 : ls[i + 1]? = some m := by
            rw [← er] at hm2
            rw [List.head?_drop] at hm2
            exact hm2
          have := bandLo_mono ht (g.asc i (ls[i]) m (List.getElem?_eq_getElem hi1) e2)
          rw [← lifeAt_lt (List.getElem?_eq_getElem hi1), el] at this
          omega) (fun j x y hx hy => by
            rw [← er] at hx hy
            rw [List.getElem?_drop] at hx hy
            exact g.asc (i + 1 + j) x y hx (by rw [show i + 1 + j + 1 = i + 1 + (j + 1) by omega]; exact hy)) z
        omega
      have k : Kept ls t n ↔ i ≤ rkI n := by
        constructor
        · intro z
          by_cases d : i ≤ rkI n
          · exact d
          · exfalso
            rcases hp with hp | hp
            · omega
            · have k := (enough_iff hn _).mp z.2.2
              have := bandLo_mono ht (lifeAt_le g (show rkI n ≤ i - 1 by omega))
              omega
        · intro z
          refine ⟨hn, hnt, (enough_iff hn _).mpr ?_⟩
          have := bandLo_mono ht (lifeAt_le g z)
          rw [el] at this
          omega
      rw [k, ← rk_dvd hn (by omega : i ≤ 1000)]
      constructor
      · rintro (z | z)
        · exact z.2.2
        · exact absurd z no
      · intro z
        exact .inl ⟨c, hnh, z⟩
    · have ih := inB_kept g ht hn hnt r (i + 1) (bandLo t l - 1) er (by omega) (by omega) (.inr (by
        show n < bandLo t (lifeAt ls (i + 1 - 1))
        rw [show i + 1 - 1 = i by omega, el]
        omega))
      rw [← ih]
      constructor
      · rintro (z | z)
        · exact absurd z.1 c
        · exact z
      · exact .inr
theorem inB_iff {ls : List (Option Int)} (g : Good ls) {t : Int} (ht : 0 ≤ t) {n : Int} (hn : 0 ≤ n) (hnt : n ≤ t) : inB t 0 t ls n ↔ Kept ls t n := inB_kept g ht hn hnt ls 0 t rfl (Nat.zero_le _) hnt (.inl rfl)
/-! ### the restore point -/
def rpB : List (Int × Int × Int) → Int → Option Int
  | [], _ => none
  | b :: r, e => if b.1 ≤ min b.2.1 e - min b.2.1 e % b.2.2 then some (min b.2.1 e - min b.2.1 e % b.2.2) else rpB r e
theorem mult_le {m n s : Int} (hs : 0 < s) (h : n ≤ m) (hn : n % s = 0) : n ≤ m - m % s := by
  have e1 := Int.mul_ediv_add_emod m s
  have e2 := Int.mul_ediv_add_emod n s
  have e3 := Int.ediv_le_ediv hs h
  have e4 : s * (n / s) ≤ s * (m / s) := Int.mul_le_mul_of_nonneg_left e3 (Int.le_of_lt hs)
  omega
theorem mult_self {m s : Int} (hs : 0 < s) : (m - m % s) % s = 0 := by
  have e1 := Int.mul_ediv_add_emod m s
  have e2 : m - m % s = s * (m / s) := by omega
  rw [e2]
  exact Int.mul_emod_right s _
theorem rpB_spec {t : Int} (ht : 0 ≤ t) (e : Int) : ∀ (ls : List (Option Int)) (i : Nat) (hi : Int), (∀ l, ls.head? = some l → bandLo t l ≤ hi + 1) → (∀ (i : Nat) (x y : Option Int), ls[i]? = some x → ls[i + 1]? = some y → leO x y = true) →
    (∀ p, rpB (bandsOf t i hi ls) e = some p → inB t i hi ls p ∧ p ≤ e ∧ ∀ n, inB t i hi ls n → n ≤ e → n ≤ p) ∧ (rpB (bandsOf t i hi ls) e = none → ∀ n, inB t i hi ls n → ¬ n ≤ e)
  | [], _, _, _, _ => ⟨fun p h => (by cases h), fun _ n h => h.elim⟩
  | l :: r, i, hi, hd, asc => by
    have hh : ∀ m, r.head? = some m → bandLo t m ≤ bandLo t l - 1 + 1 := fun m hm => by
      cases r with
      | nil => cases hm
      | cons a r' =>
        have e : a = m := by simpa using hm
        have := bandLo_mono ht (asc 0 l a rfl rfl)
        rw [← e]
        omega
    have ha : ∀ (i : Nat) (x y : Option Int), r[i]? = some x → r[i + 1]? = some y → leO x y = true := fun j x y hx hy => asc (j + 1) x y hx hy
    obtain ⟨i1, i2⟩ := rpB_spec ht e r (i + 1) (bandLo t l - 1) hh ha
    have p2 := pow2_pos i
    have m0 := Int.emod_nonneg (min hi e) (show (2 : Int) ^ i ≠ 0 by omega)
    have m1 := Int.emod_lt_of_pos (min hi e) p2
    have m2 := mult_self (m := min hi e) p2
    have low : ∀ n, inB t (i + 1) (bandLo t l - 1) r n → n ≤ bandLo t l - 1 := fun n z => inB_le ht r (i + 1) (bandLo t l - 1) n hh ha z
    have eu : rpB (bandsOf t i hi (l :: r)) e = if bandLo t l ≤ min hi e - min hi e % 2 ^ i then some (min hi e - min hi e % 2 ^ i) else rpB (bandsOf t (i + 1) (bandLo t l - 1) r) e := rfl
    rw [eu]
    by_cases c : bandLo t l ≤ min hi e - min hi e % 2 ^ i
    · rw [if_pos c]
      refine ⟨fun p hp => ?_, fun z => by cases z⟩
      obtain rfl : min hi e - min hi e % 2 ^ i = p := Option.some.inj hp
      refine ⟨.inl ⟨c, by omega, m2⟩, by omega, fun n hn hne => ?_⟩
      rcases hn with hn | hn
      · exact mult_le p2 (by omega) hn.2.2
      · have := low n hn
        omega
    · rw [if_neg c]
      have none1 : ∀ n, (bandLo t l ≤ n ∧ n ≤ hi ∧ n % 2 ^ i = 0) → ¬ n ≤ e := fun n hn hne => by
        have := mult_le p2 (show n ≤ min hi e by omega) hn.2.2
        omega
      refine ⟨fun p hp => ?_, fun z n hn => ?_⟩
      · obtain ⟨a1, a2, a3⟩ := i1 p hp
        refine ⟨.inr a1, a2, fun n hn hne => ?_⟩
        rcases hn with hn | hn
        · exact absurd hne (none1 n hn)
        · exact a3 n hn hne
      · rcases hn with hn | hn
        · exact none1 n hn
        · exact i2 z n hn
def rpO (ls : List (Option Int)) (t e : Int) : Option Int := rpB (bandsOf t 0 t ls) e
theorem inB_nonneg {t : Int} (ht : 0 ≤ t) : ∀ (ls : List (Option Int)) (i : Nat) (hi n : Int), (∀ l ∈ ls, ∀ v, l = some v → 0 ≤ v) → inB t i hi ls n → 0 ≤ n
  | [], _, _, _, _, h => h.elim
  | l :: r, i, hi, n, hb, h => by
    rcases h with h | h
    · have := (bandLo_le ht (hb l List.mem_cons_self)).1
      omega
    · exact inB_nonneg ht r _ _ n (fun x hx => hb x (List.mem_cons_of_mem _ hx)) h
theorem rpO_spec {ls : List (Option Int)} (g : Good ls) {t : Int} (ht : 0 ≤ t) (e : Int) :
    (∀ p, rpO ls t e = some p → Kept ls t p ∧ p ≤ e ∧ ∀ n, Kept ls t n → n ≤ e → n ≤ p) ∧ (rpO ls t e = none → ∀ n, Kept ls t n → ¬ n ≤ e) := by
  have hb : ∀ l ∈ ls, ∀ v, l = some v → 0 ≤ v := fun l hl v e => (g.bd l hl v e).1
  have hd : ∀ l, ls.head? = some l → bandLo t l ≤ t + 1 := fun l hl => (bandLo_le ht (hb l (List.mem_of_mem_head? hl))).2
  obtain ⟨a, b⟩ := rpB_spec ht e ls 0 t hd g.asc
  refine ⟨fun p hp => ?_, fun z n hn => ?_⟩
  · obtain ⟨a1, a2, a3⟩ := a p hp
    have p0 := inB_nonneg ht ls 0 t p hb a1
    have p1 := inB_le ht ls 0 t p hd g.asc a1
    exact ⟨(inB_iff g ht p0 p1).mp a1, a2, fun n hn hne => a3 n ((inB_iff g ht hn.1 hn.2.1).mpr hn) hne⟩
  · exact b z n ((inB_iff g ht hn.1 hn.2.1).mpr hn)
/-- the restore point is told by what is kept -/
theorem rpO_some {ls : List (Option Int)} (g : Good ls) {t : Int} (ht : 0 ≤ t) {e p : Int} (hp : Kept ls t p) (he : p ≤ e) (h : ∀ n, Kept ls t n → n ≤ e → n ≤ p) : rpO ls t e = some p := by
  obtain ⟨a, b⟩ := rpO_spec g ht e
  cases z : rpO ls t e with
  | none => exact absurd he (b z p hp)
  | some q =>
    obtain ⟨a1, a2, a3⟩ := a q z
    have h1 := a3 p hp he
    have h2 := h q a1 a2
    rw [show q = p by omega]
theorem rpO_none {ls : List (Option Int)} (g : Good ls) {t : Int} (ht : 0 ≤ t) {e : Int} (h : ∀ n, Kept ls t n → ¬ n ≤ e) : rpO ls t e = none := by
  obtain ⟨a, b⟩ := rpO_spec g ht e
  cases z : rpO ls t e with
  | none => rfl
  | some q =>
    obtain ⟨a1, a2, a3⟩ := a q z
    exact absurd a2 (h q a1)
theorem rpO_short {ls : List (Option Int)} (g : Good ls) {t : Int} (ht : 0 ≤ t) (e : Int) : rpO (short ls) t e = rpO ls t e := by
  obtain ⟨a, b⟩ := rpO_spec g ht e
  cases z : rpO ls t e with
  | none => exact rpO_none (good_short g) ht fun n hn => b z n ((kept_short g.pos).mp hn)
  | some q =>
    obtain ⟨a1, a2, a3⟩ := a q z
    exact rpO_some (good_short g) ht ((kept_short g.pos).mpr a1) a2 fun n hn => a3 n ((kept_short g.pos).mp hn)
def distO (ls : List (Option Int)) (t a : Int) : Option Int := (rpO ls t (t - a)).map fun p => t - a - p
theorem distO_short {ls : List (Option Int)} (g : Good ls) {t : Int} (ht : 0 ≤ t) (a : Int) : distO (short ls) t a = distO ls t a := by
  unfold distO
  rw [rpO_short g ht]
end Rk
namespace Rk
open PySem PySem.Spec PyProof.Rows L2
/-! ### worst distances, by what is kept -/
theorem leO_low {x y : Int} {l : Option Int} (h : leO (some x) l = true) (e : y ≤ x) : leO (some y) l = true := leO_trans (show leO (some y) (some x) = true from decide_eq_true e) h
theorem idx_all {a : Int} : ∀ (ls : List (Option Int)) (k : Nat), (∀ j, idx k ls a = some j → k ≤ j ∧ (∃ l, ls[j - k]? = some l ∧ leO (some (a + 2 ^ j)) l = true) ∧ ∀ i, k ≤ i → i < j → ∃ m, ls[i - k]? = some m ∧ leO (some (a + 2 ^ i)) m = false) ∧
    (idx k ls a = none → ∀ i l, ls[i]? = some l → leO (some (a + 2 ^ (k + i))) l = false)
  | [], k => ⟨fun j h => (by cases h), fun _ i l h => (by simp at h)⟩
  | x :: r, k => by
    have eu : idx k (x :: r) a = if leO (some (a + 2 ^ k)) x = true then some k else idx (k + 1) r a := rfl
    obtain ⟨i1, i2⟩ := idx_all (a := a) r (k + 1)
    rw [eu]
    by_cases c : leO (some (a + 2 ^ k)) x = true
    · rw [if_pos c]
      refine ⟨fun j hj => ?_, fun z => by cases z⟩
      obtain rfl : k = j := Option.some.inj hj
      exact ⟨Nat.le_refl _, ⟨x, by rw [Nat.sub_self]; rfl, c⟩, fun i h1 h2 => absurd h2 (by omega)⟩
    · have cf : leO (some (a + 2 ^ k)) x = false := by
        cases z : leO (some (a + 2 ^ k)) x with
        | true => exact absurd z c
        | false => rfl
      rw [if_neg c]
      refine ⟨fun j hj => ?_, fun z i l hl => ?_⟩
      · obtain ⟨a1, ⟨l, a2, a3⟩, a4⟩ := i1 j hj
        refine ⟨by omega, ⟨l, ?_, a3⟩, fun i h1 h2 => ?_⟩
        · rw [show j - k = (j - (k + 1)) + 1 by omega]
          exact a2
        · by_cases e : i = k
          · subst e
            exact ⟨x, by rw [Nat.sub_self]; rfl, cf⟩
          · obtain ⟨m, b1, b2⟩ := a4 i (by omega) h2
            exact ⟨m, by rw [show i - k = (i - (k + 1)) + 1 by omega]; exact b1, b2⟩
      · cases i with
        | zero =>
          have e : x = l := by simpa using hl
          rw [← e]
          exact cf
        | succ i =>
          have := i2 z i l (by simpa using hl)
          rw [show k + (i + 1) = k + 1 + i by omega]
          exact this
theorem idx_some {ls : List (Option Int)} {a : Int} {j : Nat} (h : idx 0 ls a = some j) : j < ls.length ∧ leO (some (a + 2 ^ j)) (lifeAt ls j) = true ∧ ∀ i, i < j → leO (some (a + 2 ^ i)) (lifeAt ls i) = false := by
  obtain ⟨_, ⟨l, a2, a3⟩, a4⟩ := (idx_all ls 0).1 j h
  rw [Nat.sub_zero] at a2
  refine ⟨(List.getElem?_eq_some_iff.mp a2).1, by rw [lifeAt_lt a2]; exact a3, fun i hi => ?_⟩
  obtain ⟨m, b1, b2⟩ := a4 i (Nat.zero_le _) hi
  rw [Nat.sub_zero] at b1
  rw [lifeAt_lt b1]
  exact b2
theorem idx_none {ls : List (Option Int)} {a : Int} (h : idx 0 ls a = none) : ∀ i, i < ls.length → leO (some (a + 2 ^ i)) (lifeAt ls i) = false := by
  intro i hi
  have e := List.getElem?_eq_getElem hi
  rw [lifeAt_lt e]
  have q := (idx_all ls 0).2 h i _ e
  rw [Nat.zero_add] at q
  exact q
theorem rk_small {n : Int} {j : Nat} (h0 : 0 < n) (h1 : n < 2 ^ j) (hj : j ≤ 1000) : rkI n < j ∧ 2 ^ rkI n ≤ 2 ^ j - n := by
  have r : rkI n < j := by
    by_cases c : rkI n < j
    · exact c
    · exfalso
      have d := (rk_dvd (by omega : 0 ≤ n) hj).mpr (by omega)
      rw [Int.emod_eq_of_lt (by omega) h1] at d
      omega
  refine ⟨r, ?_⟩
  have d1 : (2 : Int) ^ rkI n ∣ n := Int.dvd_of_emod_eq_zero ((rk_dvd (by omega : 0 ≤ n) (by omega)).mpr (Nat.le_refl _))
  have d2 : (2 : Int) ^ rkI n ∣ 2 ^ j := ⟨2 ^ (j - rkI n), by rw [← Int.pow_add]; congr 1; omega⟩
  exact Int.le_of_dvd (by omega) (Int.dvd_sub d2 d1)
theorem late_none {ls : List (Option Int)} {a : Int} {j : Nat} (hj : j ≤ 1000) (f : ∀ i, i < j → leO (some (a + 2 ^ i)) (lifeAt ls i) = false) {n : Int} (h0 : 0 < n) (hn : n ≤ 2 ^ j - 1) : ¬ Kept ls (a + 2 ^ j - 1) n := by
  intro k
  obtain ⟨r, q⟩ := rk_small h0 (by omega : n < 2 ^ j) hj
  have e := leO_low k.2.2 (show a + 2 ^ rkI n ≤ a + 2 ^ j - 1 - n + 1 by omega)
  rw [f _ r] at e
  cases e
theorem emod_le {m s : Int} (h : 0 ≤ m) (hs : 0 < s) : m % s ≤ m := by
  have e := Int.mul_ediv_add_emod m s
  have q := Int.mul_nonneg (Int.le_of_lt hs) (Int.ediv_nonneg h (Int.le_of_lt hs))
  omega
theorem lifeAt_last {ls : List (Option Int)} (h0 : 0 < ls.length) {m : Nat} (h : ls.length - 1 ≤ m) : lifeAt ls m = lifeAt ls (ls.length - 1) := by
  by_cases c : m = ls.length - 1
  · rw [c]
  · exact lifeAt_const h0 m (by omega)
theorem rkI_zero : rkI 0 = 1000 := rfl
theorem dist_at {ls : List (Option Int)} (g : Good ls) {a : Int} (ha : 0 ≤ a) {j : Nat} (h : idx 0 ls a = some j) : distO ls (a + 2 ^ j - 1) a = some (2 ^ j - 1) := by
  obtain ⟨h1, h2, h3⟩ := idx_some h
  have hm := g.most
  have p2 := pow2_pos j
  have e : a + 2 ^ j - 1 - a = 2 ^ j - 1 := by omega
  have k0 : Kept ls (a + 2 ^ j - 1) 0 := ⟨Int.le_refl _, by omega, by
    rw [rkI_zero, show a + 2 ^ j - 1 - 0 + 1 = a + 2 ^ j by omega]
    exact leO_trans h2 (lifeAt_le g (by omega))⟩
  unfold distO
  rw [e, rpO_some g (by omega) k0 (by omega) (fun n hn hne => by
    by_cases c : 0 < n
    · exact absurd hn (late_none (by omega) h3 c hne)
    · omega)]
  show some (2 ^ j - 1 - 0) = _
  rw [Int.sub_zero]
theorem dist_none {ls : List (Option Int)} (g : Good ls) {a : Int} (ha : 0 ≤ a) (h : idx 0 ls a = none) : distO ls (a + 2 ^ (ls.length - 1) - 1) a = none := by
  have h3 := idx_none h
  have hm := g.most
  have h0 := g.pos
  have p2 := pow2_pos (ls.length - 1)
  have e : a + 2 ^ (ls.length - 1) - 1 - a = 2 ^ (ls.length - 1) - 1 := by omega
  unfold distO
  rw [e, rpO_none g (by omega) (fun n hn hne => by
    by_cases c : 0 < n
    · exact late_none (by omega) (fun i hi => h3 i (by omega)) c hne hn
    · have z : n = 0 := by have := hn.1; omega
      subst z
      have k := hn.2.2
      rw [rkI_zero, lifeAt_const h0 1000 (by omega), show a + 2 ^ (ls.length - 1) - 1 - 0 + 1 = a + 2 ^ (ls.length - 1) by omega, h3 _ (by omega)] at k
      cases k)]
  rfl
theorem dist_lt {ls : List (Option Int)} (g : Good ls) {t a d : Int} (ht : 0 ≤ t) (h : distO ls t a = some d) : 0 ≤ d ∧ d ≤ t - a := by
  unfold distO at h
  cases z : rpO ls t (t - a) with
  | none => rw [z] at h; cases h
  | some p =>
    rw [z] at h
    have e : t - a - p = d := Option.some.inj h
    obtain ⟨a1, a2, _⟩ := (rpO_spec g ht (t - a)).1 p z
    have := a1.1
    omega
/-! ### the law's look, rank by rank -/
def gapP (L : Nat) (e : Int) (i : Nat) : Int := if i = L - 1 then e - e % 2 ^ i else e - (e - 2 ^ i) % (2 * 2 ^ i)
def gapF (ls : List (Option Int)) (t e : Int) (i : Nat) : Option Int := if (i = ls.length - 1 ∨ 2 ^ i ≤ e) ∧ leO (some (t - gapP ls.length e i + 1)) (lifeAt ls i) = true then some (e - gapP ls.length e i) else none
def gapL (ls : List (Option Int)) (t e : Int) (n : Nat) : List Int := (List.range n).filterMap (gapF ls t e)
theorem gapL_succ (ls : List (Option Int)) (t e : Int) (n : Nat) : gapL ls t e (n + 1) = gapL ls t e n ++ (match gapF ls t e n with | some x => [x] | none => []) := by
  unfold gapL
  rw [List.range_succ, List.filterMap_append]
  congr 1
  cases h : gapF ls t e n with
  | none => simp [List.filterMap, h]
  | some x => simp [List.filterMap, h]
/-- the candidate of a rank: in range, and of this rank's life -/
theorem gapP_at {ls : List (Option Int)} (g : Good ls) {e : Int} (he : 0 ≤ e) {i : Nat} (hi : i < ls.length) (hc : i = ls.length - 1 ∨ 2 ^ i ≤ e) : 0 ≤ gapP ls.length e i ∧ gapP ls.length e i ≤ e ∧ lifeAt ls (rkI (gapP ls.length e i)) = lifeAt ls i := by
  have p2 := pow2_pos i
  have hm := g.most
  unfold gapP
  by_cases c : i = ls.length - 1
  · rw [if_pos c]
    have m0 := Int.emod_nonneg e (show (2 : Int) ^ i ≠ 0 by omega)
    have m1 := Int.emod_lt_of_pos e p2
    have m2 := mult_self (m := e) p2
    have q0 : 0 ≤ e - e % 2 ^ i := by
      have := emod_le he p2
      omega
    refine ⟨q0, by omega, ?_⟩
    have r := (rk_dvd q0 (by omega : i ≤ 1000)).mp m2
    rw [lifeAt_last g.pos (m := rkI (e - e % 2 ^ i)) (by omega), c]
  · rw [if_neg c]
    have hc2 : 2 ^ i ≤ e := hc.resolve_left c
    have p3 : (0 : Int) < 2 * 2 ^ i := by omega
    have m0 := Int.emod_nonneg (e - 2 ^ i) (show (2 : Int) * 2 ^ i ≠ 0 by omega)
    have m1 := Int.emod_lt_of_pos (e - 2 ^ i) p3
    have m3 : (e - 2 ^ i) % (2 * 2 ^ i) ≤ e - 2 ^ i := emod_le (by omega) p3
    have dv : (2 * 2 ^ i : Int) ∣ (e - 2 ^ i) - (e - 2 ^ i) % (2 * 2 ^ i) := Int.dvd_of_emod_eq_zero (mult_self p3)
    refine ⟨by omega, by omega, ?_⟩
    have r : rkI (e - (e - 2 ^ i) % (2 * 2 ^ i)) = i := by
      obtain ⟨q, hq⟩ := dv
      have n0 : 0 ≤ e - (e - 2 ^ i) % (2 * 2 ^ i) := by omega
      have eq : e - (e - 2 ^ i) % (2 * 2 ^ i) = 2 ^ i * (2 * q + 1) := by
        have h1 : (2 : Int) ^ i * (2 * q + 1) = 2 * 2 ^ i * q + 2 ^ i := by
          rw [Int.mul_add, Int.mul_one, ← Int.mul_assoc, Int.mul_comm (2 ^ i) 2]
        omega
      have a1 := (rk_dvd n0 (by omega : i ≤ 1000)).mp (by rw [eq]; exact Int.mul_emod_right _ _)
      have a2 : ¬ i + 1 ≤ rkI (e - (e - 2 ^ i) % (2 * 2 ^ i)) := by
        intro z
        have b := (rk_dvd n0 (by omega : i + 1 ≤ 1000)).mpr z
        rw [eq, Int.pow_succ, Int.mul_emod_mul_of_pos _ _ p2, show (2 * q + 1) % 2 = 1 by omega, Int.mul_one] at b
        omega
      omega
    rw [r]
theorem gapP_max {ls : List (Option Int)} (g : Good ls) {t e n : Int} (hn : Kept ls t n) (hne : n ≤ e) : ∃ i, i < ls.length ∧ (i = ls.length - 1 ∨ 2 ^ i ≤ e) ∧ n ≤ gapP ls.length e i ∧ lifeAt ls i = lifeAt ls (rkI n) := by
  have h0 := g.pos
  have hm := g.most
  have n0 := hn.1
  by_cases c : rkI n < ls.length - 1
  · have p2 := pow2_pos (rkI n)
    have np : 0 < n := by
      by_cases z : n = 0
      · subst z
        rw [rkI_zero] at c
        omega
      · omega
    have d : (2 : Int) ^ rkI n ∣ n := Int.dvd_of_emod_eq_zero ((rk_dvd n0 (by omega)).mpr (Nat.le_refl _))
    have ge : (2 : Int) ^ rkI n ≤ n := Int.le_of_dvd np d
    refine ⟨rkI n, by omega, .inr (by omega), ?_, rfl⟩
    unfold gapP
    rw [if_neg (by omega)]
    obtain ⟨q, hq⟩ := d
    have odd : q % 2 = 1 := by
      have z : ¬ rkI n + 1 ≤ rkI n := by omega
      rw [← rk_dvd n0 (by omega : rkI n + 1 ≤ 1000)] at z
      have : ¬ (2 : Int) ^ rkI n * q % (2 ^ rkI n * 2) = 0 := by
        rw [← hq, ← Int.pow_succ]
        exact z
      rw [Int.mul_emod_mul_of_pos _ _ p2] at this
      by_cases c2 : q % 2 = 1
      · exact c2
      · exfalso
        rw [show q % 2 = 0 by omega, Int.mul_zero] at this
        exact this rfl
    have p3 : (0 : Int) < 2 * 2 ^ rkI n := by omega
    have dz : (n - 2 ^ rkI n) % (2 * 2 ^ rkI n) = 0 := by
      refine Int.emod_eq_zero_of_dvd ⟨q / 2, ?_⟩
      have e1 : q = 2 * (q / 2) + 1 := by omega
      have e2 : n = 2 ^ rkI n * (2 * (q / 2) + 1) := by rw [← e1]; exact hq
      have h1 : (2 : Int) ^ rkI n * (2 * (q / 2) + 1) = 2 * 2 ^ rkI n * (q / 2) + 2 ^ rkI n := by
        rw [Int.mul_add, Int.mul_one, ← Int.mul_assoc, Int.mul_comm (2 ^ rkI n) 2]
      omega
    have := mult_le p3 (show n - 2 ^ rkI n ≤ e - 2 ^ rkI n by omega) dz
    omega
  · refine ⟨ls.length - 1, by omega, .inl rfl, ?_, ?_⟩
    · unfold gapP
      rw [if_pos rfl]
      exact mult_le (pow2_pos _) hne ((rk_dvd n0 (by omega)).mpr (by omega))
    · exact (lifeAt_last h0 (by omega)).symm
theorem gapL_mem {ls : List (Option Int)} {t e : Int} {n : Nat} {x : Int} : x ∈ gapL ls t e n ↔ ∃ i, i < n ∧ gapF ls t e i = some x := by
  unfold gapL
  rw [List.mem_filterMap]
  constructor
  · rintro ⟨i, hi, h⟩
    exact ⟨i, List.mem_range.mp hi, h⟩
  · rintro ⟨i, hi, h⟩
    exact ⟨i, List.mem_range.mpr hi, h⟩
/-- the least one of the law's list is the distance -/
theorem gap_dist {ls : List (Option Int)} (g : Good ls) {t a : Int} (h0 : 0 ≤ a) (h1 : a ≤ t) :
    (gapL ls t (t - a) ls.length = [] ∧ distO ls t a = none) ∨ ∃ d, distO ls t a = some d ∧ d ∈ gapL ls t (t - a) ls.length ∧ ∀ x ∈ gapL ls t (t - a) ls.length, d ≤ x := by
  have ht : 0 ≤ t := by omega
  have he : 0 ≤ t - a := by omega
  have sound : ∀ x, x ∈ gapL ls t (t - a) ls.length → ∃ n, Kept ls t n ∧ n ≤ t - a ∧ x = t - a - n := by
    intro x hx
    obtain ⟨i, hi, hf⟩ := gapL_mem.mp hx
    unfold gapF at hf
    by_cases c : (i = ls.length - 1 ∨ 2 ^ i ≤ t - a) ∧ leO (some (t - gapP ls.length (t - a) i + 1)) (lifeAt ls i) = true
    · rw [if_pos c] at hf
      obtain ⟨b0, b1, b2⟩ := gapP_at g he hi c.1
      exact ⟨_, ⟨b0, by omega, by rw [b2]; exact c.2⟩, b1, (Option.some.inj hf).symm⟩
    · rw [if_neg c] at hf
      cases hf
  have full : ∀ n, Kept ls t n → n ≤ t - a → ∃ x, x ∈ gapL ls t (t - a) ls.length ∧ x ≤ t - a - n := by
    intro n hn hne
    obtain ⟨i, hi, hc, hp, hl⟩ := gapP_max g hn hne
    refine ⟨t - a - gapP ls.length (t - a) i, gapL_mem.mpr ⟨i, hi, ?_⟩, by omega⟩
    unfold gapF
    refine if_pos ⟨hc, ?_⟩
    rw [hl]
    exact leO_low hn.2.2 (by omega)
  obtain ⟨s1, s2⟩ := rpO_spec g ht (t - a)
  cases z : rpO ls t (t - a) with
  | none =>
    refine .inl ⟨?_, by unfold distO; rw [z]; rfl⟩
    cases e : gapL ls t (t - a) ls.length with
    | nil => rfl
    | cons x r =>
      obtain ⟨n, hn, hne, _⟩ := sound x (by rw [e]; exact List.mem_cons_self)
      exact absurd hne (s2 z n hn)
  | some p =>
    obtain ⟨k1, k2, k3⟩ := s1 p z
    refine .inr ⟨t - a - p, by unfold distO; rw [z]; rfl, ?_, fun x hx => ?_⟩
    · obtain ⟨x, hx, hxl⟩ := full p k1 k2
      obtain ⟨n, hn, hne, ex⟩ := sound x hx
      have := k3 n hn hne
      rw [show t - a - p = x by omega]
      exact hx
    · obtain ⟨n, hn, hne, ex⟩ := sound x hx
      have := k3 n hn hne
      omega
end Rk
namespace Rk
open PySem PySem.Spec PyProof.Rows L2

/-! ### lists of kept points -/
def keptB (ls : List (Option Int)) (t n : Int) : Bool := decide (n ≤ t) && leO (some (t - n + 1)) (lifeAt ls (rkI n))
theorem keptB_iff {ls : List (Option Int)} {t n : Int} (h : 0 ≤ n) : keptB ls t n = true ↔ Kept ls t n := by
  unfold keptB Kept
  rw [Bool.and_eq_true, decide_eq_true_iff]
  exact ⟨fun z => ⟨h, z⟩, fun z => z.2⟩
theorem filter_yes {α : Type} (p : α → Bool) {x : α} (h : p x = true) : List.filter p [x] = [x] := by simp [List.filter, h]
theorem filter_no {α : Type} (p : α → Bool) {x : α} (h : p x = false) : List.filter p [x] = [] := by simp [List.filter, h]
/-- the last one of those that are p -/
theorem filter_last (p : Nat → Bool) : ∀ n, ((((List.range n).filter p).getLast? = none ∧ ∀ k, k < n → p k = false) ∨ ∃ m, ((List.range n).filter p).getLast? = some m ∧ m < n ∧ p m = true ∧ ∀ k, k < n → p k = true → k ≤ m)
  | 0 => .inl ⟨rfl, fun k h => absurd h (by omega)⟩
  | n + 1 => by
    rw [List.range_succ, List.filter_append]
    by_cases h : p n = true
    · refine .inr ⟨n, ?_, by omega, h, fun k hk _ => by omega⟩
      simp [List.filter, h]
    · have hf : p n = false := by simpa using h
      have e : List.filter p [n] = [] := by simp [List.filter, hf]
      rw [e, List.append_nil]
      rcases filter_last p n with ⟨a, b⟩ | ⟨m, a, b, c, d⟩
      · refine .inl ⟨a, fun k hk => ?_⟩
        by_cases z : k = n
        · rw [z]; exact hf
        · exact b k (by omega)
      · refine .inr ⟨m, a, by omega, c, fun k hk hp => ?_⟩
        by_cases z : k = n
        · rw [z, hf] at hp
          cases hp
        · exact d k (by omega) hp
/-- all kept points up to now -/
def keptL (ls : List (Option Int)) (t : Nat) : List Nat := (List.range (t + 1)).filter fun n => keptB ls t ((n : Nat) : Int)
theorem old_last {ls : List (Option Int)} (g : Good ls) (t : Nat) (e : Int) (he : e ≤ t) : rpO ls t e = (((keptL ls t).filter fun n => decide (((n : Nat) : Int) ≤ e)).getLast?).map fun n => ((n : Nat) : Int) := by
  unfold keptL
  rw [List.filter_filter]
  rcases filter_last (fun n => (decide (((n : Nat) : Int) ≤ e) && keptB ls t ((n : Nat) : Int))) (t + 1) with ⟨a, b⟩ | ⟨m, a, b, c, d⟩
  · rw [a]
    refine rpO_none g (by omega) fun n hn hne => ?_
    obtain ⟨k, rfl⟩ := Int.eq_ofNat_of_zero_le hn.1
    have q := b k (by have := hn.2.1; omega)
    rw [decide_eq_true hne, Bool.true_and, (keptB_iff hn.1).mpr hn] at q
    cases q
  · rw [a]
    rw [Bool.and_eq_true, decide_eq_true_iff] at c
    refine rpO_some g (by omega) ((keptB_iff (Int.natCast_nonneg _)).mp c.2) c.1 fun n hn hne => ?_
    obtain ⟨k, rfl⟩ := Int.eq_ofNat_of_zero_le hn.1
    have q := d k (by have := hn.2.1; omega) (by rw [decide_eq_true hne, Bool.true_and]; exact (keptB_iff hn.1).mpr hn)
    show ((k : Nat) : Int) ≤ ((m : Nat) : Int)
    omega
/-! ### where nothing is kept nothing is counted -/
theorem mulN_zero {l h s : Int} (hs : 0 < s) (n : ∀ x, l ≤ x → x ≤ h → ¬ x % s = 0) : mulN l h s = 0 := by
  unfold mulN
  by_cases c : l > h
  · exact if_pos c
  · rw [if_neg c]
    have q := mult_self (m := h) hs
    have m1 := Int.emod_nonneg h (show s ≠ 0 by omega)
    have q2 : ¬ l ≤ h - h % s := fun z => n _ z (by omega) q
    have e1 := Int.mul_ediv_add_emod h s
    have e2 := Int.mul_ediv_add_emod (l - 1) s
    have e3 := Int.emod_nonneg (l - 1) (show s ≠ 0 by omega)
    have e4 := Int.emod_lt_of_pos (l - 1) hs
    have d1 : h / s ≤ (l - 1) / s := by
      rw [Int.le_ediv_iff_mul_le hs, Int.mul_comm]
      omega
    have d2 := Int.ediv_le_ediv hs (show l - 1 ≤ h by omega)
    omega
theorem cntB_zero {low high t : Int} : ∀ (ls : List (Option Int)) (i : Nat) (hi : Int), (∀ n, low ≤ n → n ≤ high → ¬ inB t i hi ls n) → cntB low high t i hi ls = 0
  | [], _, _, _ => rfl
  | l :: r, i, hi, h => by
    have e1 : mulN (max low (bandLo t l)) (min high hi) (2 ^ i) = 0 := mulN_zero (pow2_pos i) fun x h1 h2 z => h x (by omega) (by omega) (.inl ⟨by omega, by omega, z⟩)
    have e2 := cntB_zero r (i + 1) (bandLo t l - 1) fun n h1 h2 z => h n h1 h2 (.inr z)
    show mulN (max low (bandLo t l)) (min high hi) (2 ^ i) + cntB low high t (i + 1) (bandLo t l - 1) r = 0
    rw [e1, e2]
    rfl
theorem cnt_none {ls : List (Option Int)} (g : Good ls) {t low high : Int} (ht : 0 ≤ t) (h0 : 0 ≤ low) (h : ∀ n, low ≤ n → n ≤ high → ¬ Kept ls t n) : cntB low high t 0 t (short ls) = 0 := by
  have g2 := good_short g
  refine cntB_zero (short ls) 0 t fun n h1 h2 z => ?_
  have n1 := inB_le ht (short ls) 0 t n (fun l hl => (bandLo_le ht (fun v e => (g2.bd l (List.mem_of_mem_head? hl) v e).1)).2) g2.asc z
  exact h n h1 h2 ((kept_short g.pos).mp ((inB_iff g2 ht (by omega) n1).mp z))
end Rk
namespace Rk
open PySem PySem.Spec PyProof.Rows L2

/-! ### lists that the heap holds, one by one -/
def LAt (H : Hp) : List V → List (List V) → Prop
  | [], [] => True
  | x :: xs, y :: ys => (∃ t, x = .ref t ∧ H t = some (.lst y)) ∧ LAt H xs ys
  | _, _ => False
theorem LAt.length {H : Hp} : ∀ {xs : List V} {ps : List (List V)}, LAt H xs ps → xs.length = ps.length
  | [], [], _ => rfl
  | _ :: _, _ :: _, h => congrArg (· + 1) (LAt.length h.2)
  | [], _ :: _, h => h.elim
  | _ :: _, [], h => h.elim
theorem LAt.same {H H' : Hp} (s : Same H H') : ∀ {xs : List V} {ps : List (List V)}, LAt H xs ps → LAt H' xs ps
  | [], [], _ => trivial
  | _ :: _, _ :: _, ⟨⟨t, e, h⟩, r⟩ => ⟨⟨t, e, s _ _ h⟩, LAt.same s r⟩
  | [], _ :: _, h => h.elim
  | _ :: _, [], h => h.elim
/-- as same, but for what stands at one place that none of them is -/
theorem LAt.but {H H' : Hp} {D : Addr} (hD : ∀ y, H D = some (.lst y) → False) (s : ∀ b o, H b = some o → b ≠ D → H' b = some o) : ∀ {xs : List V} {ps : List (List V)}, LAt H xs ps → LAt H' xs ps
  | [], [], _ => trivial
  | _ :: _, y :: _, ⟨⟨t, e, h⟩, r⟩ => ⟨⟨t, e, s _ _ h (fun z => hD y (z ▸ h))⟩, LAt.but hD s r⟩
  | [], _ :: _, h => h.elim
  | _ :: _, [], h => h.elim
theorem LAt.snoc {H : Hp} {t : Addr} {p : List V} (e : H t = some (.lst p)) : ∀ {xs : List V} {ps : List (List V)}, LAt H xs ps → LAt H (xs ++ [.ref t]) (ps ++ [p])
  | [], [], _ => ⟨⟨t, rfl, e⟩, trivial⟩
  | _ :: _, _ :: _, ⟨a, r⟩ => ⟨a, LAt.snoc e r⟩
  | [], _ :: _, h => h.elim
  | _ :: _, [], h => h.elim
theorem LAt.get {H : Hp} : ∀ {xs : List V} {ps : List (List V)} {i : Nat} {p : List V}, LAt H xs ps → ps[i]? = some p → ∃ t, xs[i]? = some (.ref t) ∧ H t = some (.lst p)
  | [], [], i, p, _, e => by simp at e
  | x :: _, q :: _, 0, p, ⟨⟨t, a, h⟩, r⟩, e => by
    have e1 : q = p := by simpa using e
    exact ⟨t, by rw [a]; rfl, by rw [← e1]; exact h⟩
  | _ :: xs, _ :: ps, i + 1, p, ⟨_, r⟩, e => LAt.get (xs := xs) (ps := ps) (i := i) r (by simpa using e)
  | [], _ :: _, _, _, h, _ => h.elim
  | _ :: _, [], _, _, h, _ => h.elim
theorem LAt.upd {H : Hp} {D : Addr} {o : HO} : ∀ {xs : List V} {ps : List (List V)}, (∀ x ∈ xs, x ≠ V.ref D) → LAt H xs ps → LAt (L2.upd H D o) xs ps
  | [], [], _, _ => trivial
  | x :: _, _ :: _, n, ⟨⟨t, e, h⟩, r⟩ => ⟨⟨t, e, by
      rw [upd_ne (fun z => n x List.mem_cons_self (by rw [e, z]))]
      exact h⟩, LAt.upd (fun y hy => n y (List.mem_cons_of_mem _ hy)) r⟩
  | [], _ :: _, _, h => h.elim
  | _ :: _, [], _, h => h.elim
/-! ### no distance is greater than the worst one -/
theorem dist_le {ls : List (Option Int)} (g : Good ls) {a t : Int} (ha : 0 ≤ a) (ht : a ≤ t) {j : Nat} (h : idx 0 ls a = some j) : ∃ d, distO ls t a = some d ∧ 0 ≤ d ∧ d ≤ 2 ^ j - 1 ∧ d ≤ t - a := by
  obtain ⟨h1, h2, h3⟩ := idx_some h
  have hm := g.most
  have p2 := pow2_pos j
  have he : 0 ≤ t - a := by omega
  have m0 := Int.emod_nonneg (t - a) (show (2 : Int) ^ j ≠ 0 by omega)
  have m1 := Int.emod_lt_of_pos (t - a) p2
  have m2 := mult_self (m := t - a) p2
  have m3 := emod_le he p2
  have kp : Kept ls t (t - a - (t - a) % 2 ^ j) := by
    refine ⟨by omega, by omega, ?_⟩
    have r := (rk_dvd (by omega : 0 ≤ t - a - (t - a) % 2 ^ j) (by omega : j ≤ 1000)).mp m2
    exact leO_low (leO_trans h2 (lifeAt_le g r)) (by omega)
  obtain ⟨s1, s2⟩ := rpO_spec g (by omega : 0 ≤ t) (t - a)
  cases e : rpO ls t (t - a) with
  | none => exact absurd (show t - a - (t - a) % 2 ^ j ≤ t - a by omega) (s2 e _ kp)
  | some p =>
    obtain ⟨k1, k2, k3⟩ := s1 p e
    have := k3 _ kp (by omega)
    have := k1.1
    exact ⟨t - a - p, by unfold distO; rw [e]; rfl, by omega, by omega, by omega⟩
/-- all gaps of an age from its own tick on -/
def gapsL (ls : List (Option Int)) (a n : Nat) : List (Option Int) := (List.range n).map fun i : Nat => distO ls ((a : Int) + (i : Int)) (a : Int)
theorem gapsL_at {ls : List (Option Int)} {a n i : Nat} (h : i < n) : (gapsL ls a n)[i]? = some (distO ls ((a : Int) + (i : Int)) (a : Int)) := by
  unfold gapsL
  rw [List.getElem?_map, List.getElem?_range h]
  rfl
theorem gapsL_len (ls : List (Option Int)) (a n : Nat) : (gapsL ls a n).length = n := by
  unfold gapsL
  rw [List.length_map, List.length_range]
/-- without a worst distance some gap is None, at the tick told -/
theorem gaps_none {ls : List (Option Int)} (g : Good ls) {a n : Nat} (h : idx 0 ls (a : Int) = none) (hn : 2 ^ ((short ls).length - 1) ≤ n) : none ∈ gapsL ls a n := by
  have g2 := good_short g
  have p2 : 0 < 2 ^ ((short ls).length - 1) := Nat.pow_pos (by decide)
  have e := dist_none g2 (by omega : (0 : Int) ≤ (a : Int)) (by
    have e := due_short ls (a : Int)
    rw [due_idx, due_idx, h] at e
    cases z : idx 0 (short ls) (a : Int) with
    | none => rfl
    | some j => rw [z] at e; cases e)
  have c : ((2 ^ ((short ls).length - 1) : Nat) : Int) = (2 : Int) ^ ((short ls).length - 1) := by rw [Int.natCast_pow]; rfl
  refine List.mem_map.mpr ⟨2 ^ ((short ls).length - 1) - 1, List.mem_range.mpr (by omega), ?_⟩
  rw [← distO_short g (by omega)]
  rw [show (a : Int) + ((2 ^ ((short ls).length - 1) - 1 : Nat) : Int) = (a : Int) + 2 ^ ((short ls).length - 1) - 1 by omega]
  exact e
/-- the gaps with a worst distance: ints, the greatest first at its own place -/
theorem gaps_some {ls : List (Option Int)} (g : Good ls) {a n j : Nat} (h : idx 0 ls (a : Int) = some j) (hn : 2 ^ j ≤ n) :
    ∃ ds : List Int, gapsL ls a n = ds.map some ∧ ds.length = n ∧ ds[2 ^ j - 1]? = some (2 ^ j - 1) ∧ (∀ d ∈ ds, d ≤ 2 ^ j - 1) ∧ (∀ (i : Nat) d, ds[i]? = some d → d ≤ i ∧ 0 ≤ d) := by
  have p2 : 0 < 2 ^ j := Nat.pow_pos (by decide)
  have c : ((2 ^ j : Nat) : Int) = (2 : Int) ^ j := by rw [Int.natCast_pow]; rfl
  have one : ∀ i : Nat, ∃ d, distO ls ((a : Int) + (i : Int)) (a : Int) = some d ∧ 0 ≤ d ∧ d ≤ 2 ^ j - 1 ∧ d ≤ (i : Int) := fun i => by
    obtain ⟨d, d1, d2, d3, d4⟩ := dist_le g (by omega : (0 : Int) ≤ (a : Int)) (show (a : Int) ≤ (a : Int) + (i : Int) by omega) h
    exact ⟨d, d1, d2, d3, by omega⟩
  let f : Nat → Int := fun i => (distO ls ((a : Int) + (i : Int)) (a : Int)).getD 0
  have hf : ∀ i : Nat, distO ls ((a : Int) + (i : Int)) (a : Int) = some (f i) := fun i => by
    obtain ⟨d, d1, _⟩ := one i
    show _ = some ((distO ls ((a : Int) + (i : Int)) (a : Int)).getD 0)
    rw [d1]
    rfl
  have fb : ∀ i : Nat, 0 ≤ f i ∧ f i ≤ 2 ^ j - 1 ∧ f i ≤ (i : Int) := fun i => by
    obtain ⟨d, d1, d2, d3, d4⟩ := one i
    have e : f i = d := by
      have := hf i
      rw [d1] at this
      exact (Option.some.inj this).symm
    rw [e]
    exact ⟨d2, d3, d4⟩
  refine ⟨(List.range n).map f, ?_, by rw [List.length_map, List.length_range], ?_, ?_, ?_⟩
  · unfold gapsL
    rw [List.map_map]
    exact List.map_congr_left fun i _ => hf i
  · rw [List.getElem?_map, List.getElem?_range (by omega)]
    show some (f (2 ^ j - 1)) = _
    have e := dist_at g (by omega : (0 : Int) ≤ (a : Int)) h
    have q := hf (2 ^ j - 1)
    rw [show (a : Int) + ((2 ^ j - 1 : Nat) : Int) = (a : Int) + 2 ^ j - 1 by omega, e] at q
    exact congrArg some (Option.some.inj q).symm
  · intro d hd
    obtain ⟨i, _, rfl⟩ := List.mem_map.mp hd
    exact (fb i).2.1
  · intro i d hd
    rw [List.getElem?_map] at hd
    cases e : (List.range n)[i]? with
    | none => rw [e] at hd; cases hd
    | some k =>
      rw [e] at hd
      have hk := (List.getElem?_eq_some_iff.mp e)
      obtain ⟨hk1, hk2⟩ := hk
      rw [List.getElem_range] at hk2
      have e2 : f k = d := Option.some.inj hd
      rw [← e2, ← hk2]
      exact ⟨(fb i).2.2, (fb i).1⟩
theorem gapO_inj {x y : Option Nat} (h : gapO x = gapO y) : x = y := by
  cases x with
  | none => cases y with
    | none => rfl
    | some j => cases h
  | some i => cases y with
    | none => cases h
    | some j =>
      have e : (2 : Int) ^ i - 1 = 2 ^ j - 1 := Option.some.inj h
      have e2 : (2 : Int) ^ i = 2 ^ j := by omega
      have e3 : (2 : Nat) ^ i = 2 ^ j := by
        have a1 := pow2_natAbs i
        have a2 := pow2_natAbs j
        rw [← a1, ← a2, e2]
      have e4 : i = j := by
        rcases Nat.lt_trichotomy i j with h | h | h
        · have := Nat.pow_lt_pow_right (a := 2) (by decide) h
          omega
        · exact h
        · have := Nat.pow_lt_pow_right (a := 2) (by decide) h
          omega
      rw [e4]
theorem idx_short (ls : List (Option Int)) (a : Int) : idx 0 (short ls) a = idx 0 ls a := by
  have e := due_short ls a
  rw [due_idx, due_idx] at e
  exact gapO_inj e
end Rk
namespace Rk
open PySem PySem.Spec PyProof.Rows L2

/-! ### wishes -/
def wV (p : Int × Int) : List V := [.int p.1, .int p.2]
structure WOk (ws : List (Int × Int)) : Prop where
  bd : ∀ p ∈ ws, 0 ≤ p.1 ∧ p.1 ≤ 10 ^ 18 ∧ 0 ≤ p.2 ∧ p.2 ≤ 10 ^ 18
  asc : ws.Pairwise fun p q => p.1 < q.1 ∧ p.2 < q.2
  pos : 0 < ws.length
  most : ws.length ≤ 12
def okAt (ls : List (Option Int)) (p : Int × Int) : Bool := leO (due 0 ls p.1) (some p.2)
def stepAt (ws : List (Int × Int)) (a : Int) : Option (Int × Int) := ws.find? fun p => decide (a ≤ p.1)
/-! ### how far a distance reaches -/
def rch (w : Int) : List (Option Int × Int) → Option Int → Option Int
  | [], r => r
  | p :: t, r => rch w t (if p.2 ≤ w then p.1 else r)
theorem prom_ge : ∀ (ls : List (Option Int)) (i : Nat) (r : Option Int), ∀ p ∈ prom i r ls, 2 ^ i - 1 ≤ p.2
  | [], _, _, p, hp => nomatch hp
  | l :: t, i, r, p, hp => by
    have h' : p ∈ (if leO (offO i l) r = true then prom (i + 1) r t else (offO i l, 2 ^ i - 1) :: prom (i + 1) (offO i l) t) := hp
    have p2 : (2 : Int) ^ (i + 1) = 2 ^ i * 2 := Int.pow_succ _ _
    have p0 := pow2_pos i
    by_cases c : leO (offO i l) r = true
    · rw [if_pos c] at h'
      have := prom_ge t (i + 1) r p h'
      omega
    · rw [if_neg c] at h'
      rcases List.mem_cons.mp h' with e | h''
      · rw [e]
        show (2 : Int) ^ i - 1 ≤ 2 ^ i - 1
        omega
      · have := prom_ge t (i + 1) _ p h''
        omega
theorem rch_stay {w : Int} : ∀ (ps : List (Option Int × Int)) (r : Option Int), (∀ p ∈ ps, w < p.2) → rch w ps r = r
  | [], _, _ => rfl
  | p :: t, r, h => by
    show rch w t (if p.2 ≤ w then p.1 else r) = r
    rw [if_neg (by have := h p List.mem_cons_self; omega)]
    exact rch_stay t r fun q hq => h q (List.mem_cons_of_mem _ hq)
theorem due_far {w a : Int} {ls : List (Option Int)} {i : Nat} (h : w < 2 ^ i - 1) : leO (due i ls a) (some w) = false := by
  cases e : due i ls a with
  | none => rfl
  | some g =>
    have := prom_due.due_ge ls i a g e
    exact decide_eq_false (by omega)
theorem off_le (a : Int) (i : Nat) (l : Option Int) : leO (some (a + 2 ^ i)) l = leO (some a) (offO i l) := by
  cases l with
  | none => rfl
  | some x =>
    show decide (a + 2 ^ i ≤ x) = decide (a ≤ x - 2 ^ i)
    rw [decide_eq_decide]
    omega
theorem leO_not {x y : Option Int} (h : ¬ leO x y = true) : leO y x = true := by
  cases x with
  | none => cases y <;> rfl
  | some a =>
    cases y with
    | none => exact absurd rfl h
    | some b =>
      have : ¬ a ≤ b := fun z => h (decide_eq_true z)
      exact decide_eq_true (by omega)
theorem rch_due {w a : Int} : ∀ (ls : List (Option Int)) (i : Nat) (r : Option Int), 2 ^ i - 1 ≤ w → leO (some a) (rch w (prom i r ls) r) = (leO (some a) r || leO (due i ls a) (some w))
  | [], _, r, _ => by
    show leO (some a) r = (leO (some a) r || false)
    rw [Bool.or_false]
  | l :: t, i, r, h => by
    have ed : due i (l :: t) a = if leO (some a) (offO i l) = true then some (2 ^ i - 1) else due (i + 1) t a := by
      show (if leO (some (a + 2 ^ i)) l = true then some (2 ^ i - 1) else due (i + 1) t a) = _
      rw [off_le]
    have here : leO (some (2 ^ i - 1 : Int)) (some w) = true := decide_eq_true h
    -- what follows, whatever the reach
    have next : ∀ r', leO (some a) (rch w (prom (i + 1) r' t) r') = (leO (some a) r' || leO (due (i + 1) t a) (some w)) := fun r' => by
      by_cases c : (2 : Int) ^ (i + 1) - 1 ≤ w
      · exact rch_due t (i + 1) r' c
      · rw [rch_stay _ _ (fun p hp => by have := prom_ge t (i + 1) r' p hp; omega), due_far (by omega), Bool.or_false]
    rw [ed]
    show leO (some a) (rch w (if leO (offO i l) r = true then prom (i + 1) r t else (offO i l, 2 ^ i - 1) :: prom (i + 1) (offO i l) t) r) = _
    by_cases c : leO (offO i l) r = true
    · rw [if_pos c, next r]
      by_cases d : leO (some a) (offO i l) = true
      · rw [if_pos d, leO_trans d c, Bool.true_or, Bool.true_or]
      · rw [if_neg d]
    · rw [if_neg c]
      show leO (some a) (rch w (prom (i + 1) (offO i l) t) (if (2 : Int) ^ i - 1 ≤ w then offO i l else r)) = _
      rw [if_pos h, next (offO i l)]
      by_cases d : leO (some a) (offO i l) = true
      · rw [if_pos d, d, here, Bool.true_or, Bool.or_true]
      · rw [if_neg d]
        have df : leO (some a) (offO i l) = false := by
          cases z : leO (some a) (offO i l) with
          | true => exact absurd z d
          | false => rfl
        have rf : leO (some a) r = false := by
          cases z : leO (some a) r with
          | true => exact absurd (leO_trans z (leO_not c)) d
          | false => rfl
        rw [df, rf]
def reachO (ls : List (Option Int)) (w : Int) : Option Int := rch w (prom 0 (some (-1)) ls) (some (-1))
theorem reach_ok {ls : List (Option Int)} {w a : Int} (hw : 0 ≤ w) (ha : 0 ≤ a) : leO (due 0 ls a) (some w) = leO (some a) (reachO ls w) := by
  unfold reachO
  rw [rch_due ls 0 (some (-1)) (by simpa using hw)]
  have : leO (some a) (some (-1)) = false := decide_eq_false (by omega)
  rw [this, Bool.false_or]
theorem reach_low {ls : List (Option Int)} {w : Int} (hw : 0 ≤ w) : leO (some (-1)) (reachO ls w) = true := by
  unfold reachO
  rw [rch_due ls 0 (some (-1)) (by simpa using hw)]
  have : leO (some (-1)) (some (-1)) = true := rfl
  rw [this, Bool.true_or]
/-! ### the first age that is broken -/
def fbL (ls : List (Option Int)) : List (Int × Int) → Option Int
  | [] => none
  | p :: t => if leO ((reachO ls p.2).map (· + 1)) (some p.1) = true then (reachO ls p.2).map (· + 1) else fbL ls t
theorem fb_head {ls : List (Option Int)} {p : Int × Int} : leO ((reachO ls p.2).map (· + 1)) (some p.1) = true ↔ leO (some p.1) (reachO ls p.2) = false := by
  cases e : reachO ls p.2 with
  | none => exact ⟨fun z => (by cases z), fun z => (by cases z)⟩
  | some r =>
    constructor
    · intro z
      have z' : r + 1 ≤ p.1 := of_decide_eq_true z
      exact decide_eq_false (by omega)
    · intro z
      have z' : ¬ p.1 ≤ r := of_decide_eq_false z
      exact decide_eq_true (show r + 1 ≤ p.1 by omega)
theorem fb_none {ls : List (Option Int)} : ∀ ws : List (Int × Int), (∀ p ∈ ws, 0 ≤ p.1 ∧ 0 ≤ p.2) → (fbL ls ws = none ↔ ws.all (okAt ls) = true)
  | [], _ => ⟨fun _ => rfl, fun _ => rfl⟩
  | p :: t, h => by
    have ih := fb_none (ls := ls) t fun q hq => h q (List.mem_cons_of_mem _ hq)
    have hp := h p List.mem_cons_self
    have eo : okAt ls p = leO (some p.1) (reachO ls p.2) := reach_ok hp.2 hp.1
    show (if leO ((reachO ls p.2).map (· + 1)) (some p.1) = true then (reachO ls p.2).map (· + 1) else fbL ls t) = none ↔ _
    rw [List.all_cons, eo]
    by_cases c : leO ((reachO ls p.2).map (· + 1)) (some p.1) = true
    · rw [if_pos c, fb_head.mp c, Bool.false_and]
      refine ⟨fun z => ?_, fun z => by cases z⟩
      rw [z] at c
      cases c
    · have e : leO (some p.1) (reachO ls p.2) = true := by
        cases z : leO (some p.1) (reachO ls p.2) with
        | true => rfl
        | false => exact absurd (fb_head.mpr z) c
      rw [if_neg c, e, Bool.true_and]
      exact ih
theorem fb_some {ls : List (Option Int)} : ∀ (ws : List (Int × Int)) (b : Int), (∀ p ∈ ws, 0 ≤ p.1 ∧ 0 ≤ p.2) → (ws.Pairwise fun p q => p.1 < q.1 ∧ p.2 < q.2) → fbL ls ws = some b →
    0 ≤ b ∧ (∃ q, stepAt ws b = some q ∧ b ≤ q.1 ∧ leO (due 0 ls b) (some q.2) = false) ∧ ∀ a, 0 ≤ a → a < b → ∀ q, stepAt ws a = some q → leO (due 0 ls a) (some q.2) = true
  | [], _, _, _, h => by cases h
  | p :: t, b, h, asc, hb => by
    have hp := h p List.mem_cons_self
    have hb' : (if leO ((reachO ls p.2).map (· + 1)) (some p.1) = true then (reachO ls p.2).map (· + 1) else fbL ls t) = some b := hb
    have low := reach_low (ls := ls) hp.2
    have st : ∀ a, stepAt (p :: t) a = if a ≤ p.1 then some p else stepAt t a := fun a => by
      unfold stepAt
      rw [List.find?_cons]
      by_cases c : a ≤ p.1
      · rw [if_pos c]
        simp [c]
      · rw [if_neg c]
        simp [c]
    by_cases c : leO ((reachO ls p.2).map (· + 1)) (some p.1) = true
    · rw [if_pos c] at hb'
      obtain ⟨r, hr, rfl⟩ : ∃ r, reachO ls p.2 = some r ∧ b = r + 1 := by
        cases z : reachO ls p.2 with
        | none => rw [z] at hb'; cases hb'
        | some r =>
          rw [z] at hb'
          exact ⟨r, rfl, (Option.some.inj hb').symm⟩
      rw [hr] at c low
      have c' : r + 1 ≤ p.1 := of_decide_eq_true c
      have l' : -1 ≤ r := of_decide_eq_true low
      refine ⟨by omega, ⟨p, by rw [st, if_pos c'], c', ?_⟩, fun a a0 a1 q hq => ?_⟩
      · rw [reach_ok hp.2 (by omega), hr]
        exact decide_eq_false (by omega)
      · rw [st, if_pos (by omega)] at hq
        obtain rfl : p = q := Option.some.inj hq
        rw [reach_ok hp.2 a0, hr]
        exact decide_eq_true (by omega)
    · rw [if_neg c] at hb'
      have e : leO (some p.1) (reachO ls p.2) = true := by
        cases z : leO (some p.1) (reachO ls p.2) with
        | true => rfl
        | false => exact absurd (fb_head.mpr z) c
      have asc2 := List.pairwise_cons.mp asc
      obtain ⟨i0, ⟨q, i1, i2, i3⟩, i4⟩ := fb_some t b (fun q hq => h q (List.mem_cons_of_mem _ hq)) asc2.2 hb'
      have qt : q ∈ t := List.mem_of_find?_eq_some i1
      have hq := h q (List.mem_cons_of_mem _ qt)
      have pb : p.1 < b := by
        by_cases z : p.1 < b
        · exact z
        · exfalso
          have k1 : leO (due 0 ls p.1) (some p.2) = true := by rw [reach_ok hp.2 hp.1]; exact e
          have k2 : leO (due 0 ls p.1) (some q.2) = true := leO_trans k1 (show leO (some p.2) (some q.2) = true from decide_eq_true (by have := (asc2.1 q qt).2; omega))
          rw [reach_ok hq.2 hp.1] at k2
          rw [reach_ok hq.2 i0] at i3
          rw [leO_low k2 (by omega)] at i3
          cases i3
      refine ⟨i0, ⟨q, by rw [st, if_neg (by omega)]; exact i1, i2, i3⟩, fun a a0 a1 x hx => ?_⟩
      rw [st] at hx
      by_cases z : a ≤ p.1
      · rw [if_pos z] at hx
        obtain rfl : p = x := Option.some.inj hx
        rw [reach_ok hp.2 a0]
        exact leO_low e z
      · rw [if_neg z] at hx
        exact i4 a a0 a1 x hx
end Rk
namespace Rk
open PySem PySem.Spec PyProof.Rows L2

/-! ### rules by their lives at each rank -/
theorem short_rows_at {ls : List (Option Int)} (h0 : 0 < ls.length) {N : Nat} (h : ls.length ≤ N) : short (rows (lifeAt ls) N) = short ls := by
  rw [short_any (lifeAt ls) h0 (lifeAt_const h0) h, rows_lifeAt]
theorem short_ext {xs ys : List (Option Int)} (h0 : 0 < xs.length) (h1 : 0 < ys.length) (h : ∀ i, lifeAt xs i = lifeAt ys i) : short xs = short ys := by
  rw [← short_rows_at h0 (Nat.le_max_left xs.length ys.length), ← short_rows_at h1 (Nat.le_max_right xs.length ys.length), funext h]
theorem short_inj {xs ys : List (Option Int)} (h0 : 0 < xs.length) (h1 : 0 < ys.length) (h : short xs = short ys) (i : Nat) : lifeAt xs i = lifeAt ys i := by
  rw [← lifeAt_short h0 i, h, lifeAt_short h1 i]
theorem lifeAt_rows {F : Nat → Option Int} {n : Nat} (h0 : 0 < n) (h : ∀ k, n ≤ k → F k = F (n - 1)) (i : Nat) : lifeAt (rows F n) i = F i := by
  by_cases hi : i < n
  · exact lifeAt_lt (rows_get hi)
  · rw [lifeAt_ge (x := F (n - 1)) (by rw [rows_length]; omega) (by rw [List.getLast?_eq_getElem?, rows_length]; exact rows_get (by omega)), h i (by omega)]
theorem lifeAt_map {ls : List (Option Int)} (f : Option Int → Option Int) (h0 : 0 < ls.length) (i : Nat) : lifeAt (ls.map f) i = f (lifeAt ls i) := by
  by_cases hi : i < ls.length
  · have e := List.getElem?_eq_getElem hi
    rw [lifeAt_lt e, lifeAt_lt (x := f ls[i]) (by rw [List.getElem?_map, e]; rfl)]
  · rw [lifeAt_const h0 i (by omega), lifeAt_const (ls := ls.map f) (by rw [List.length_map]; exact h0) i (by rw [List.length_map]; omega), List.length_map]
    have e := List.getElem?_eq_getElem (show ls.length - 1 < ls.length by omega)
    rw [lifeAt_lt e, lifeAt_lt (x := f ls[ls.length - 1]) (by rw [List.getElem?_map, e]; rfl)]
/-- two rules at each rank -/
def twoL (g : Option Int → Option Int → Option Int) (xs ys : List (Option Int)) : List (Option Int) := rows (fun i => g (lifeAt xs i) (lifeAt ys i)) (max xs.length ys.length)
theorem twoL_len (g : Option Int → Option Int → Option Int) (xs ys : List (Option Int)) : (twoL g xs ys).length = max xs.length ys.length := rows_length _ _
theorem lifeAt_two {g : Option Int → Option Int → Option Int} {xs ys : List (Option Int)} (h0 : 0 < xs.length) (h1 : 0 < ys.length) (i : Nat) : lifeAt (twoL g xs ys) i = g (lifeAt xs i) (lifeAt ys i) := by
  unfold twoL
  refine lifeAt_rows (by omega) (fun k hk => ?_) i
  rw [lifeAt_far h0 (Nat.le_max_left xs.length ys.length) hk, lifeAt_far h1 (Nat.le_max_right xs.length ys.length) hk]
/-- the rule so many ticks behind a change -/
def chgL (old new : List (Option Int)) (u : Int) : List (Option Int) := rows (fun i => minO (lifeAt new i) (addO u (lifeAt old i))) (max old.length new.length)
theorem chgL_len (old new : List (Option Int)) (u : Int) : (chgL old new u).length = max old.length new.length := rows_length _ _
theorem lifeAt_chg {old new : List (Option Int)} (h0 : 0 < old.length) (h1 : 0 < new.length) (u : Int) (i : Nat) : lifeAt (chgL old new u) i = minO (lifeAt new i) (addO u (lifeAt old i)) := by
  unfold chgL
  refine lifeAt_rows (by omega) (fun k hk => ?_) i
  rw [lifeAt_far h0 (Nat.le_max_left old.length new.length) hk, lifeAt_far h1 (Nat.le_max_right old.length new.length) hk]
theorem chg_ops {old new : List (Option Int)} (h0 : 0 < old.length) (h1 : 0 < new.length) (u : Int) :
    short (rows (fun i => minO (lifeAt new i) (lifeAt (short (old.map (addO u))) i)) (max new.length (short (old.map (addO u))).length)) = short (chgL old new u) := by
  have p0 : 0 < (old.map (addO u)).length := by rw [List.length_map]; exact h0
  have p1 := short_len_pos p0
  refine short_ext (by rw [rows_length]; omega) (by rw [chgL_len]; omega) (fun i => ?_)
  rw [show rows (fun i => minO (lifeAt new i) (lifeAt (short (old.map (addO u))) i)) (max new.length (short (old.map (addO u))).length) = twoL minO new (short (old.map (addO u))) from rfl, lifeAt_two h1 p1, lifeAt_short p0, lifeAt_map _ h0, lifeAt_chg h0 h1]
theorem chg_short {old new : List (Option Int)} (h0 : 0 < old.length) (h1 : 0 < new.length) (u : Int) : short (chgL (short old) (short new) u) = short (chgL old new u) := by
  have p0 := short_len_pos h0
  have p1 := short_len_pos h1
  refine short_ext (by rw [chgL_len]; omega) (by rw [chgL_len]; omega) (fun i => ?_)
  rw [lifeAt_chg p0 p1, lifeAt_chg h0 h1, lifeAt_short h0, lifeAt_short h1]
theorem minO_le {x y : Option Int} : leO (minO x y) x = true := by
  unfold minO
  by_cases h : leO x y = true
  · rw [if_pos h]; exact leO_refl x
  · rw [if_neg h]; exact leO_not h
theorem minO_le2 {x y : Option Int} : leO (minO x y) y = true := by
  unfold minO
  by_cases h : leO x y = true
  · rw [if_pos h]; exact h
  · rw [if_neg h]; exact leO_refl y
theorem minO_eq {x y : Option Int} (h : leO x y = true) : minO x y = x := by
  unfold minO
  rw [if_pos h]
theorem leO_add {x : Option Int} {u : Int} (h : 0 ≤ u) : leO x (addO u x) = true := by
  cases x with
  | none => rfl
  | some a => exact decide_eq_true (show a ≤ a + u by omega)
theorem addO_0 (x : Option Int) : addO 0 x = x := by
  cases x with
  | none => rfl
  | some a =>
    show some (a + 0) = some a
    rw [Int.add_zero]
theorem chg_le {old new : List (Option Int)} (h0 : 0 < old.length) (h1 : 0 < new.length) (u : Int) (i : Nat) : leO (lifeAt (chgL old new u) i) (lifeAt new i) = true := by
  rw [lifeAt_chg h0 h1]
  exact minO_le
/-- bounds of lives that were reckoned -/
def Bdn (n : Nat) (x : Option Int) : Prop := ∀ i, x = some i → 0 ≤ i ∧ i ≤ ((n : Nat) : Int) * 10 ^ 18
theorem Bdn.mono {n m : Nat} {x : Option Int} (b : Bdn n x) (h : n ≤ m) : Bdn m x := fun i e => by
  have q := b i e
  refine ⟨q.1, Int.le_trans q.2 (Int.mul_le_mul_of_nonneg_right (by omega) (by decide))⟩
theorem Bdn.small {n : Nat} (hn : n ≤ 10 ^ 20) {x : Option Int} (b : Bdn n x) : ∀ i, x = some i → i.natAbs < 2 ^ 600 := fun i e => by
  have q := b i e
  have h : ((n : Nat) : Int) * 10 ^ 18 ≤ (10 ^ 20 : Int) * 10 ^ 18 := Int.mul_le_mul_of_nonneg_right (by omega) (by decide)
  exact Nat.lt_of_le_of_lt (show i.natAbs ≤ 10 ^ 38 by omega) (by decide)
theorem Good.bdn {ls : List (Option Int)} (g : Good ls) (i : Nat) : Bdn 1 (lifeAt ls i) := fun v e => by
  have := g.at i v e
  omega
theorem bdn_min {n : Nat} {x y : Option Int} (a : Bdn n x) (b : Bdn n y) : Bdn n (minO x y) := by
  unfold minO
  by_cases h : leO x y = true
  · rw [if_pos h]; exact a
  · rw [if_neg h]; exact b
theorem bdn_max {n : Nat} {x y : Option Int} (a : Bdn n x) (b : Bdn n y) : Bdn n (maxO x y) := by
  unfold maxO
  by_cases h : leO x y = true
  · rw [if_pos h]; exact b
  · rw [if_neg h]; exact a
theorem bdn_add {n : Nat} {x : Option Int} {u : Int} (b : Bdn n x) (h0 : 0 ≤ u) (h1 : u ≤ 10 ^ 18) : Bdn (n + 1) (addO u x) := fun i e => by
  cases x with
  | none => cases e
  | some v =>
    have q := b v rfl
    have e' : v + u = i := Option.some.inj e
    omega
theorem bdn_chg {n : Nat} {old new : List (Option Int)} (h0 : 0 < old.length) (h1 : 0 < new.length) {u : Int} (u0 : 0 ≤ u) (u1 : u ≤ 10 ^ 18) (a : ∀ i, Bdn n (lifeAt old i)) (b : ∀ i, Bdn (n + 1) (lifeAt new i)) (i : Nat) : Bdn (n + 1) (lifeAt (chgL old new u) i) := by
  rw [lifeAt_chg h0 h1]
  exact bdn_min (b i) (bdn_add (a i) u0 u1)
theorem mem_at {ls : List (Option Int)} {x : Option Int} (h : x ∈ ls) : ∃ i, lifeAt ls i = x := by
  obtain ⟨i, hi⟩ := List.mem_iff_getElem?.mp h
  exact ⟨i, lifeAt_lt hi⟩
theorem small_of {n : Nat} (hn : n ≤ 10 ^ 20) {ls : List (Option Int)} (b : ∀ i, Bdn n (lifeAt ls i)) : ∀ x ∈ ls, ∀ i, x = some i → i.natAbs < 2 ^ 600 := fun x hx => by
  obtain ⟨i, rfl⟩ := mem_at hx
  exact (b i).small hn
theorem bdn_short {n : Nat} {ls : List (Option Int)} (h0 : 0 < ls.length) (b : ∀ i, Bdn n (lifeAt ls i)) (i : Nat) : Bdn n (lifeAt (short ls) i) := by
  rw [lifeAt_short h0]
  exact b i
theorem sh_ttwo {d e : PyData} (x : Sh d 71000 1) (y : Sh e 71000 1) : Sh (.tuple [d, e]) 150000 2 := by
  have z : Sh (.tuple [d, e]) ([d, e].length * 71000 + 2 * [d, e].length + 3) 2 := Sh.tup (k := 1) (n := 71000) fun q hq => by
    rcases List.mem_cons.mp hq with rfl | hq
    · exact x
    · rw [List.mem_singleton.mp hq]
      exact y
  exact z.mono (by show 2 * 71000 + 2 * 2 + 3 ≤ 150000; decide) (Nat.le_refl _)
theorem le_all2 {X Y : List (Option Int)} (h : ∀ i, leO (lifeAt X i) (lifeAt Y i) = true) (n : Nat) : ((List.range n).all fun i => leO (lifeAt X i) (lifeAt Y i)) = true := List.all_eq_true.mpr fun i _ => h i
theorem shown_eq (d : PyData) : (!decide (V.str d.shown = V.str d.shown)) = false := by simp
end Rk
namespace Rk
open PySem PySem.Spec PyProof.Rows L2
open PySem.W (InstAt findIn isFn fnIn)

/-! ### an own class's x[i], x in y -/
section
variable {X : Cx} {k : Nat} {f C : Addr} {sp : Sp} {a b : Expr} {ta tb : TE} {pos : Pos}
def rOwnA (C : Addr) (sp : Sp) : R2 := fun x y H Q => ∃ p dx fs, x = .ref p ∧ H p = some (.ins C dx fs) ∧ sp [.ref p, y] H Q E0
/-- x[i] by the class's own method -/
theorem pe_ixO (m : OwnOp X.K C f "__getitem__") (fi : fnIn X.K f = true) (F : FnR X.prog X.w X.K X.mg X.base CX0 k f sp) (hr : Room (k + 1) X.A) (ha : PE X a ta) (hb : PE X b tb)
    (hs : ∀ o i, subscripted b true o i = runValue (.builtin "lifetime.subscript" ⟨[o, i], []⟩)) : PE X (.Subscript a b pos) (tOp (rOwnA C sp) ta tb) := by
  refine ⟨fun pins s σ H Q I h => ?_⟩
  refine Subscript_ (binT ha hb I h fun v u s2 x y H2 I2 rx ry q => ?_)
  obtain ⟨p, dx, fs, rfl, hp, q⟩ := q
  cases rx
  obtain ⟨oa, da, Ja⟩ := ins_inst I2 hp
  obtain ⟨mm, hF⟩ := I2.fr
  refine PySem.W.sub_K hF I2.ok.mod.kin Ja m.at_ fi m.fn ?_ (hs _ _)
  refine wpAny_call (codeAny_mono (F X.A.in1 X.stack s2 H2 [.ref p, u] [.ref p, y] _ E0 hr.in1 I2.env0.in1 (.cons rfl (.cons ry .nil)) q) ?_)
  intro r s' z
  cases r with
  | error e => exact z.elim
  | ok fl =>
    cases fl with
    | ret u => exact I2.after z
    | _ => exact z.elim
def rOwnIn (C : Addr) (sp : Sp) : R2 := fun x y H Q => ∃ p dx fs, y = .ref p ∧ H p = some (.ins C dx fs) ∧ sp [.ref p, x] H (fun v H' => ∃ r, v = .bl r ∧ Q (.bl r) H') E0
def rOwnNi (C : Addr) (sp : Sp) : R2 := fun x y H Q => ∃ p dx fs, y = .ref p ∧ H p = some (.ins C dx fs) ∧ sp [.ref p, x] H (fun v H' => ∃ r, v = .bl r ∧ Q (.bl (!r)) H') E0
theorem op_inO (m : OwnOp X.K C f "__contains__") (F : FnR X.prog X.w X.K X.mg X.base CX0 k f sp) (hr : Room k X.A) : OpR X (compareOp .In) (rOwnIn C sp) := by
  intro pins s σ H x y v u Q I rx ry h
  obtain ⟨p, dx, fs, rfl, hp, q⟩ := h
  cases ry
  obtain ⟨oa, da, Ja⟩ := ins_inst I hp
  obtain ⟨mm, hF⟩ := I.fr
  refine PySem.W.in_K hF I.ok.mod.kin Ja m.at_ m.fn ?_
  refine wpAny_call (codeAny_mono (run_fnR F hr pass0 I (vs := [.ref p, x]) (.cons rfl (.cons rx .nil)) q) ?_)
  intro r s' z
  cases r with
  | error e => exact z
  | ok fl =>
    cases fl with
    | ret u =>
      obtain ⟨v, H', I', rv, c, rfl, q2⟩ := z
      obtain rfl : u = Value.bool c := rv
      exact wpAny_truthy_bool ⟨.bl c, H', I', rfl, q2⟩
    | _ => exact z.elim
theorem op_notInO (m : OwnOp X.K C f "__contains__") (F : FnR X.prog X.w X.K X.mg X.base CX0 k f sp) (hr : Room k X.A) : OpR X (compareOp .NotIn) (rOwnNi C sp) := by
  intro pins s σ H x y v u Q I rx ry h
  obtain ⟨p, dx, fs, rfl, hp, q⟩ := h
  cases ry
  obtain ⟨oa, da, Ja⟩ := ins_inst I hp
  obtain ⟨mm, hF⟩ := I.fr
  refine PySem.W.notIn_K hF I.ok.mod.kin Ja m.at_ m.fn ?_
  refine wpAny_call (codeAny_mono (run_fnR F hr pass0 I (vs := [.ref p, x]) (.cons rfl (.cons rx .nil)) q) ?_)
  intro r s' z
  cases r with
  | error e => exact z
  | ok fl =>
    cases fl with
    | ret u =>
      obtain ⟨v, H', I', rv, c, rfl, q2⟩ := z
      obtain rfl : u = Value.bool c := rv
      exact wpAny_truthy_bool ⟨.bl (!c), H', I', rfl, q2⟩
    | _ => exact z.elim
end
end Rk
namespace Rk
open PySem PySem.Spec PyProof.Rows L2

/-! ### when a change is over -/
def stepS (t : Int) : Option Int → Option Int → Option Int
  | some _, none => none
  | some a, some b => some (max t (b - a))
  | none, _ => some t
def setS (F G : Nat → Option Int) : Nat → Option Int
  | 0 => some 0
  | n + 1 => match setS F G n with
    | none => none
    | some t => stepS t (F n) (G n)
theorem stepS_ge {t u : Int} {f g : Option Int} (h : stepS t f g = some u) : t ≤ u := by
  cases f with
  | none => cases h; exact Int.le_refl _
  | some a =>
    cases g with
    | none => cases h
    | some b =>
      have : max t (b - a) = u := Option.some.inj h
      omega
theorem setS_nonneg {F G : Nat → Option Int} : ∀ {n : Nat} {u : Int}, setS F G n = some u → 0 ≤ u
  | 0, u, h => by cases h; exact Int.le_refl _
  | n + 1, u, h => by
    unfold setS at h
    cases e : setS F G n with
    | none => rw [e] at h; cases h
    | some t =>
      rw [e] at h
      have := setS_nonneg e
      have := stepS_ge h
      omega
theorem stepS_idem {t u : Int} {f g : Option Int} (h : stepS t f g = some u) : stepS u f g = some u := by
  cases f with
  | none => rfl
  | some a =>
    cases g with
    | none => cases h
    | some b =>
      have e : max t (b - a) = u := Option.some.inj h
      show some (max u (b - a)) = some u
      congr 1
      omega
theorem setS_const {F G : Nat → Option Int} {n : Nat} (h0 : 0 < n) (hF : ∀ k, n ≤ k → F k = F (n - 1)) (hG : ∀ k, n ≤ k → G k = G (n - 1)) : ∀ {m : Nat}, n ≤ m → setS F G m = setS F G n := by
  obtain ⟨j, rfl⟩ : ∃ j, n = j + 1 := ⟨n - 1, by omega⟩
  intro m
  induction m with
  | zero => intro h; omega
  | succ m ih =>
    intro h
    by_cases e : j + 1 = m + 1
    · rw [e]
    · have hm : j + 1 ≤ m := by omega
      have ih' := ih hm
      rw [show setS F G (m + 1) = (match setS F G m with | none => none | some t => stepS t (F m) (G m)) from rfl, ih', hF m hm, hG m hm, show j + 1 - 1 = j by omega]
      cases e1 : setS F G (j + 1) with
      | none => rfl
      | some u =>
        show stepS u (F j) (G j) = some u
        rw [show setS F G (j + 1) = (match setS F G j with | none => none | some t => stepS t (F j) (G j)) from rfl] at e1
        cases e2 : setS F G j with
        | none => rw [e2] at e1; cases e1
        | some t => rw [e2] at e1; exact stepS_idem e1
/-- the same of two rules -/
def setL (ls ms : List (Option Int)) : Option Int := setS (lifeAt ls) (lifeAt ms) (max ls.length ms.length)
theorem setL_far {ls ms : List (Option Int)} (h0 : 0 < ls.length) (h1 : 0 < ms.length) {m : Nat} (h : max ls.length ms.length ≤ m) : setS (lifeAt ls) (lifeAt ms) m = setL ls ms :=
  setS_const (F := lifeAt ls) (G := lifeAt ms) (n := max ls.length ms.length) (by omega) (fun k hk => lifeAt_far h0 (Nat.le_max_left ls.length ms.length) hk) (fun k hk => lifeAt_far h1 (Nat.le_max_right ls.length ms.length) hk) h
theorem setL_ext {ls ms ls' ms' : List (Option Int)} (h0 : 0 < ls.length) (h1 : 0 < ms.length) (h0' : 0 < ls'.length) (h1' : 0 < ms'.length) (e : ∀ i, lifeAt ls i = lifeAt ls' i) (e' : ∀ i, lifeAt ms i = lifeAt ms' i) : setL ls ms = setL ls' ms' := by
  rw [← setL_far h0 h1 (Nat.le_max_left _ (max ls'.length ms'.length)), ← setL_far h0' h1' (Nat.le_max_right (max ls.length ms.length) _), funext e, funext e']
theorem setL_short {ls ms : List (Option Int)} (h0 : 0 < ls.length) (h1 : 0 < ms.length) : setL (short ls) (short ms) = setL ls ms :=
  setL_ext (short_len_pos h0) (short_len_pos h1) h0 h1 (lifeAt_short h0) (lifeAt_short h1)
theorem setS_some {F G : Nat → Option Int} : ∀ {n : Nat} {u : Int}, setS F G n = some u → ∀ i, i < n → ∀ v, u ≤ v → leO (G i) (addO v (F i)) = true
  | 0, u, _, i, hi, _, _ => absurd hi (Nat.not_lt_zero _)
  | n + 1, u, h, i, hi, v, hv => by
    unfold setS at h
    cases e : setS F G n with
    | none => rw [e] at h; cases h
    | some t =>
      rw [e] at h
      have tu := stepS_ge h
      by_cases c : i = n
      · subst c
        cases ef : F i with
        | none => exact by cases G i <;> rfl
        | some a =>
          rw [ef] at h
          cases eg : G i with
          | none => rw [eg] at h; cases h
          | some b =>
            rw [eg] at h
            have : max t (b - a) = u := Option.some.inj h
            exact decide_eq_true (show b ≤ a + v by omega)
      · exact setS_some e i (by omega) v (by omega)
theorem setS_none {F G : Nat → Option Int} : ∀ {n : Nat}, setS F G n = none → ∃ i, i < n ∧ ∃ a, F i = some a ∧ G i = none
  | 0, h => by cases h
  | n + 1, h => by
    unfold setS at h
    cases e : setS F G n with
    | none =>
      obtain ⟨i, hi, q⟩ := setS_none e
      exact ⟨i, by omega, q⟩
    | some t =>
      rw [e] at h
      cases ef : F n with
      | none => rw [ef] at h; cases h
      | some a =>
        rw [ef] at h
        cases eg : G n with
        | none => exact ⟨n, by omega, a, ef, eg⟩
        | some b => rw [eg] at h; cases h
theorem setS_tight {F G : Nat → Option Int} : ∀ {n : Nat} {u : Int}, setS F G n = some u → u ≠ 0 → ∃ i, i < n ∧ ∃ a, F i = some a ∧ G i = some (a + u)
  | 0, u, h, hu => by cases h; exact absurd rfl hu
  | n + 1, u, h, hu => by
    unfold setS at h
    cases e : setS F G n with
    | none => rw [e] at h; cases h
    | some t =>
      rw [e] at h
      by_cases c : t = u
      · obtain ⟨i, hi, q⟩ := setS_tight e (by rw [c]; exact hu)
        rw [c] at q
        exact ⟨i, by omega, q⟩
      · cases ef : F n with
        | none => rw [ef] at h; exact absurd (Option.some.inj h) c
        | some a =>
          rw [ef] at h
          cases eg : G n with
          | none => rw [eg] at h; cases h
          | some b =>
            rw [eg] at h
            have : max t (b - a) = u := Option.some.inj h
            exact ⟨n, by omega, a, ef, by rw [eg]; congr 1; omega⟩
/-- behind the ticks of settled the change is over -/
theorem chg_over {ls ms : List (Option Int)} (h0 : 0 < ls.length) (h1 : 0 < ms.length) {u v : Int} (h : setL ls ms = some u) (hv : u ≤ v) : short (chgL ls ms v) = short ms := by
  refine short_ext (by rw [chgL_len]; omega) h1 (fun i => ?_)
  rw [lifeAt_chg h0 h1, minO_eq]
  have e := setL_far h0 h1 (Nat.le_max_left (max ls.length ms.length) (i + 1))
  rw [h] at e
  exact setS_some e i (by omega) v hv
theorem chg_never {ls ms : List (Option Int)} (h0 : 0 < ls.length) (h1 : 0 < ms.length) {v : Int} (h : setL ls ms = none) : short (chgL ls ms v) ≠ short ms := fun z => by
  obtain ⟨i, hi, a, ef, eg⟩ := setS_none h
  have q := short_inj (by rw [chgL_len]; omega) h1 z i
  rw [lifeAt_chg h0 h1, ef, eg] at q
  cases q
theorem chg_early {ls ms : List (Option Int)} (h0 : 0 < ls.length) (h1 : 0 < ms.length) {u : Int} (h : setL ls ms = some u) (hu : u ≠ 0) : short (chgL ls ms (u - 1)) ≠ short ms := fun z => by
  obtain ⟨i, hi, a, ef, eg⟩ := setS_tight h hu
  have q := short_inj (by rw [chgL_len]; omega) h1 z i
  rw [lifeAt_chg h0 h1, ef, eg] at q
  have e : minO (some (a + u)) (addO (u - 1) (some a)) = some (a + (u - 1)) := by
    show (if leO (some (a + u)) (some (a + (u - 1))) = true then some (a + u) else some (a + (u - 1))) = some (a + (u - 1))
    rw [if_neg (fun w => by have := of_decide_eq_true w; omega)]
  rw [e] at q
  have := Option.some.inj q
  omega
theorem setS_add {F : Nat → Option Int} {u : Int} (hu : 0 ≤ u) : ∀ {n : Nat}, setS F (fun i => addO u (F i)) n = some (if ∃ i, i < n ∧ F i ≠ none then u else 0)
  | 0 => by rw [if_neg (fun ⟨i, h, _⟩ => absurd h (Nat.not_lt_zero _))]; rfl
  | n + 1 => by
    unfold setS
    rw [setS_add hu (n := n)]
    show stepS _ (F n) (addO u (F n)) = _
    cases ef : F n with
    | none =>
      have e : (∃ i, i < n + 1 ∧ F i ≠ none) ↔ (∃ i, i < n ∧ F i ≠ none) := ⟨fun ⟨i, h, q⟩ => ⟨i, by
        rcases Nat.lt_or_ge i n with z | z
        · exact z
        · have : i = n := by omega
          subst this
          exact absurd ef q, q⟩, fun ⟨i, h, q⟩ => ⟨i, by omega, q⟩⟩
      show some _ = some _
      simp only [e]
    | some a =>
      rw [if_pos (⟨n, by omega, by rw [ef]; exact fun z => nomatch z⟩ : ∃ i, i < n + 1 ∧ F i ≠ none)]
      show some (max _ (a + u - a)) = some u
      congr 1
      by_cases c : ∃ i, i < n ∧ F i ≠ none
      · rw [if_pos c]; omega
      · rw [if_neg c]; omega
theorem setS_sub {F : Nat → Option Int} {u : Int} (hu : 0 ≤ u) : ∀ {n : Nat}, setS (fun i => addO u (F i)) F n = some 0
  | 0 => rfl
  | n + 1 => by
    unfold setS
    rw [setS_sub hu (n := n)]
    show stepS 0 (addO u (F n)) (F n) = some 0
    cases F n with
    | none => rfl
    | some a =>
      show some (max 0 (a - (a + u))) = some 0
      congr 1
      omega
theorem setL_add {ls : List (Option Int)} (h0 : 0 < ls.length) (up : ∀ i j, i ≤ j → leO (lifeAt ls i) (lifeAt ls j) = true) {u : Int} (hu : 0 ≤ u) : setL ls (short (ls.map (addO u))) = some (if lifeAt ls 0 = none then 0 else u) := by
  have hm : 0 < (ls.map (addO u)).length := by rw [List.length_map]; exact h0
  have e1 : setL ls (short (ls.map (addO u))) = setL ls (ls.map (addO u)) := setL_ext h0 (short_len_pos hm) h0 hm (fun _ => rfl) (lifeAt_short hm)
  rw [e1]
  unfold setL
  rw [List.length_map, Nat.max_self, funext (fun i => lifeAt_map (addO u) h0 i), setS_add hu]
  congr 1
  by_cases c : lifeAt ls 0 = none
  · rw [if_pos c, if_neg]
    rintro ⟨i, _, q⟩
    have z := up 0 i (Nat.zero_le _)
    rw [c] at z
    cases e : lifeAt ls i with
    | none => exact q e
    | some a => rw [e] at z; cases z
  · rw [if_neg c, if_pos ⟨0, h0, c⟩]
theorem setL_sub {ls : List (Option Int)} (h0 : 0 < ls.length) {u : Int} (hu : 0 ≤ u) : setL (short (ls.map (addO u))) ls = some 0 := by
  have hm : 0 < (ls.map (addO u)).length := by rw [List.length_map]; exact h0
  have e1 : setL (short (ls.map (addO u))) ls = setL (ls.map (addO u)) ls := setL_ext (short_len_pos hm) h0 hm h0 (lifeAt_short hm) (fun _ => rfl)
  rw [e1]
  unfold setL
  rw [List.length_map, Nat.max_self, funext (fun i => lifeAt_map (addO u) h0 i), setS_sub hu]
theorem setS_bd {n : Nat} {F G : Nat → Option Int} (hF : ∀ i v, F i = some v → 0 ≤ v) (hG : ∀ i, Bdn n (G i)) : ∀ {m : Nat}, Bdn n (setS F G m)
  | 0 => fun i e => by
    cases e
    exact ⟨Int.le_refl _, Int.mul_nonneg (by omega) (by decide)⟩
  | m + 1 => fun u e => by
    unfold setS at e
    cases e1 : setS F G m with
    | none => rw [e1] at e; cases e
    | some t =>
      rw [e1] at e
      have b := setS_bd hF hG t e1
      cases ef : F m with
      | none => rw [ef] at e; cases e; exact b
      | some a =>
        rw [ef] at e
        cases eg : G m with
        | none => rw [eg] at e; cases e
        | some g =>
          rw [eg] at e
          have h : max t (g - a) = u := Option.some.inj e
          have := hF m a ef
          have := hG m g eg
          omega
end Rk
namespace Rk
open PySem PySem.Spec PyProof.Rows L2

/-! ### a def with a star parameter, by its name -/
structure DfS (K : PySem.W.Frag) (mg : Str → Option Value) (x : Str) (st : Stmt) : Prop where
  ex : ∃ (f : Addr) (fd : FuncData), Fun K x x st f fd ∧ mg x = some (.ref f)
def HasS (P : Program) (w : World) (K : PySem.W.Frag) (mg : Str → Option Value) (base : Heap) (k : Nat) (x : Str) (sp : Sp) : Prop :=
  ∃ f : Addr, mg x = some (.ref f) ∧ PySem.W.keepIn K (.ref f) = true ∧ FnR P w K mg base CX0 k f sp
section
variable {X : Cx} {k : Nat} {sp : Sp} {x : Str} {p pos : Pos} {e : Expr} {es : List Expr} {t : TA}
theorem pe_hasS (h : HasS X.prog X.w X.K X.mg X.base k x sp) (hr : Room k X.A) (gx : Gl X x) (ha : PA X (e :: es) t) (hdb : (x == ("__debug__" : Str)) = false := by decide)
    (he : starEach (e :: es) X.env = (false, eval e X.env) :: starEach es X.env := by rfl) (hpl : (backTo pos (starEach es X.env)).any (·.1) = false := by rfl) :
    PE X (.Call (.Name x p) (e :: es) [] pos) (tCall sp [] E0 t) := by
  obtain ⟨f, m, kp, F⟩ := h
  constructor
  intro pins s σ H Q I hq
  refine wpAny_Call_Name_kw (ld_glob I gx m ?_ hdb)
  refine PySem.W.callWith_K (h₀ := X.base) I.ok.mod.kin kp (thn (ha.run pos pins s σ H _ I hq) ?_) he hpl
  rintro us s1 ⟨vs, H1, I1, r, q⟩
  refine ⟨I1.kIn, ?_⟩
  have q' : sp vs H1 Q E0 := by
    rw [List.append_nil] at q
    exact q
  exact wpAny_call (run_fnR F hr pass0 I1 r q')
end

/-! ### changes one behind another -/
def afterS (x : List (Option Int)) : List (List (Option Int) × Int) → List (Option Int)
  | [] => x
  | c :: cs => afterS (short (chgL x c.1 c.2)) cs
theorem afterS_snoc {x : List (Option Int)} {cs : List (List (Option Int) × Int)} {c : List (Option Int) × Int} : afterS x (cs ++ [c]) = short (chgL (afterS x cs) c.1 c.2) := by
  induction cs generalizing x with
  | nil => rfl
  | cons d cs ih => exact ih
theorem afterS_app {x : List (Option Int)} {cs ds : List (List (Option Int) × Int)} : afterS x (cs ++ ds) = afterS (afterS x cs) ds := by
  induction cs generalizing x with
  | nil => rfl
  | cons d cs ih => exact ih
theorem chg_pos {x y : List (Option Int)} {u : Int} (h : 0 < x.length) : 0 < (short (chgL x y u)).length := short_len_pos (by rw [chgL_len]; omega)
theorem chg_len {x y : List (Option Int)} {u : Int} {n : Nat} (h : x.length ≤ n) (h' : y.length ≤ n) : (short (chgL x y u)).length ≤ n := Nat.le_trans (short_len_le _) (by rw [chgL_len]; omega)
theorem chg_shortR {x y : List (Option Int)} (h : 0 < x.length) (h' : 0 < y.length) (u : Int) : short (chgL x (short y) u) = short (chgL x y u) := by
  have p1 := short_len_pos h'
  refine short_ext (by rw [chgL_len]; omega) (by rw [chgL_len]; omega) (fun i => ?_)
  rw [lifeAt_chg h p1, lifeAt_chg h h', lifeAt_short h']
theorem chg_shortL {x y : List (Option Int)} (h : 0 < x.length) (h' : 0 < y.length) (u : Int) : short (chgL (short x) y u) = short (chgL x y u) := by
  have p1 := short_len_pos h
  refine short_ext (by rw [chgL_len]; omega) (by rw [chgL_len]; omega) (fun i => ?_)
  rw [lifeAt_chg p1 h', lifeAt_chg h h', lifeAt_short h]
/-- what stands at the changes of a call -/
def ChAt (RA : Hp → Addr → List (Option Int) → Prop) (H : Hp) : List V → List (List (Option Int) × Int) → Prop
  | [], [] => True
  | v :: vs, c :: cs => (∃ t r, v = .ref t ∧ H t = some (.tup [.ref r, .int c.2]) ∧ RA H r c.1 ∧ 0 < c.1.length ∧ c.1.length ≤ 1000) ∧ ChAt RA H vs cs
  | _, _ => False
section
variable {RA : Hp → Addr → List (Option Int) → Prop} {H H' : Hp}
theorem ChAt.length : ∀ {xs : List V} {cs : List (List (Option Int) × Int)}, ChAt RA H xs cs → xs.length = cs.length
  | [], [], _ => rfl
  | _ :: _, _ :: _, h => congrArg (· + 1) (ChAt.length h.2)
  | [], _ :: _, h => h.elim
  | _ :: _, [], h => h.elim
theorem ChAt.keep (k : ∀ t ys, H t = some (.tup ys) → H' t = some (.tup ys)) (l : ∀ r ls, RA H r ls → RA H' r ls) : ∀ {xs : List V} {cs : List (List (Option Int) × Int)}, ChAt RA H xs cs → ChAt RA H' xs cs
  | [], [], _ => trivial
  | _ :: _, _ :: _, ⟨⟨t, r, e, h, q, z⟩, w⟩ => ⟨⟨t, r, e, k _ _ h, l _ _ q, z⟩, ChAt.keep k l w⟩
  | [], _ :: _, h => h.elim
  | _ :: _, [], h => h.elim
theorem ChAt.snoc {xs : List V} {cs : List (List (Option Int) × Int)} {t r : Addr} {c : List (Option Int) × Int} (h : ChAt RA H xs cs) (e : H t = some (.tup [.ref r, .int c.2])) (q : RA H r c.1) (z : 0 < c.1.length) (z' : c.1.length ≤ 1000) : ChAt RA H (xs ++ [.ref t]) (cs ++ [c]) := by
  induction xs generalizing cs with
  | nil =>
    cases cs with
    | nil => exact ⟨⟨t, r, rfl, e, q, z, z'⟩, trivial⟩
    | cons _ _ => exact h.elim
  | cons x xs ih =>
    cases cs with
    | nil => exact h.elim
    | cons d ds => exact ⟨h.1, ih h.2⟩
theorem ChAt.at {xs : List V} {cs : List (List (Option Int) × Int)} (h : ChAt RA H xs cs) {i : Nat} {x : V} (e : xs[i]? = some x) : ∃ t r c, x = .ref t ∧ cs[i]? = some c ∧ H t = some (.tup [.ref r, .int c.2]) ∧ RA H r c.1 ∧ 0 < c.1.length ∧ c.1.length ≤ 1000 := by
  induction xs generalizing cs i with
  | nil => simp at e
  | cons y ys ih =>
    cases cs with
    | nil => exact h.elim
    | cons d ds =>
      cases i with
      | zero =>
        obtain ⟨t, r, e1, h1, q, z⟩ := h.1
        simp at e
        exact ⟨t, r, d, e ▸ e1, rfl, h1, q, z⟩
      | succ i => exact ih h.2 (by simpa using e)
end
theorem drop_cons2 {α : Type} {l : List α} {i : Nat} {c : α} (h : l[i]? = some c) : l.drop i = c :: l.drop (i + 1) := by
  obtain ⟨hi, e⟩ := List.getElem?_eq_some_iff.mp h
  rw [List.drop_eq_getElem_cons hi, e]
theorem after_len {n : Nat} {cs : List (List (Option Int) × Int)} (hc : ∀ c ∈ cs, c.1.length ≤ n) : ∀ {x : List (Option Int)}, x.length ≤ n → (afterS x cs).length ≤ n := by
  induction cs with
  | nil => exact fun h => h
  | cons d ds ih => exact fun h => ih (fun c h' => hc c (List.mem_cons_of_mem _ h')) (chg_len h (hc d (List.mem_cons_self ..)))
theorem after_pos {cs : List (List (Option Int) × Int)} : ∀ {x : List (Option Int)}, 0 < x.length → 0 < (afterS x cs).length := by
  induction cs with
  | nil => exact fun h => h
  | cons d ds ih => exact fun h => ih (chg_pos h)
theorem minO_assoc2 {g x : Option Int} {u v : Int} (h : 0 ≤ v) : minO g (addO v (minO g (addO u x))) = minO g (addO (u + v) x) := by
  cases g with
  | none =>
    cases x with
    | none => rfl
    | some x =>
      show some (x + u + v) = some (x + (u + v))
      rw [Int.add_assoc]
  | some g =>
    cases x with
    | none =>
      show (if leO (some g) (some (g + v)) = true then some g else some (g + v)) = some g
      rw [if_pos (show leO (some g) (some (g + v)) = true from decide_eq_true (by omega : g ≤ g + v))]
    | some x =>
      by_cases c : g ≤ x + u
      · have e1 : minO (some g) (addO u (some x)) = some g := minO_eq (decide_eq_true c)
        rw [e1, minO_eq (show leO (some g) (addO v (some g)) = true from decide_eq_true (by omega : g ≤ g + v)), minO_eq (show leO (some g) (addO (u + v) (some x)) = true from decide_eq_true (by omega : g ≤ x + (u + v)))]
      · have e1 : minO (some g) (addO u (some x)) = some (x + u) := by
          unfold minO
          rw [if_neg (show ¬ leO (some g) (addO u (some x)) = true from fun z => c (of_decide_eq_true z))]
          rfl
        rw [e1]
        show minO (some g) (some (x + u + v)) = minO (some g) (some (x + (u + v)))
        rw [Int.add_assoc]
theorem chg_twice {x g : List (Option Int)} (h : 0 < x.length) (h' : 0 < g.length) {u v : Int} (hv : 0 ≤ v) : short (chgL (short (chgL x g u)) g v) = short (chgL x g (u + v)) := by
  have p : 0 < (chgL x g u).length := by rw [chgL_len]; omega
  refine short_ext (by rw [chgL_len]; omega) (by rw [chgL_len]; omega) (fun i => ?_)
  rw [lifeAt_chg (short_len_pos p) h', lifeAt_short p, lifeAt_chg h h', lifeAt_chg h h', minO_assoc2 hv]
/-- a change for no ticks -/
theorem chg_none {x g : List (Option Int)} (h : 0 < x.length) (h' : 0 < g.length) (u : Int) : short (chgL (short (chgL x g 0)) x u) = short (chgL (short (rows (fun i => minO (lifeAt x i) (lifeAt g i)) (max x.length g.length))) x u) := by
  rw [show short (chgL x g 0) = short (rows (fun i => minO (lifeAt x i) (lifeAt g i)) (max x.length g.length)) from ?_]
  refine short_ext (by rw [chgL_len]; omega) (by rw [rows_length]; omega) (fun i => ?_)
  rw [show rows (fun i => minO (lifeAt x i) (lifeAt g i)) (max x.length g.length) = twoL minO x g from rfl, lifeAt_two h h', lifeAt_chg h h', addO_0, minO_comm]
end Rk
set_option maxHeartbeats 1000000
namespace Rk
open PySem PySem.Spec PyProof.Rows L2 GenW
open Sem (wp)

/-! ### for loops in a generator's body -/
section
variable {M : Model} {A : Around} {R : GenEnd} {Y : Protocol} {n : Nat} {s₀ : Shared} {c : Code} {fs : List Frame} {s : Shared} {env : Env}
  {K : Flow → Sem PySem.Fin} {J : Value → Sem PySem.Fin} {gd : Bool → Bool} {lv : List Value → List Value}
theorem seg_For {target iter : Expr} {body : List Stmt} {pos : Pos} (hs : ∀ x, foldedSetIterable iter env x = pure x)
    (h : wpAny M (A.over c fs) (eval iter env) (fun x s1 => wpAny M (A.over c fs) (pyIter x) (fun it s2 => ∀ p, Seg M A R Y n s₀ (.forLoop target it body [] env) (M.den (.forLoop target it body [] env))
      (.ret (fun r => ((match r with | .ok f => (.pure f : Sem Flow) | .error e => .raise e).onRaise (cameBack env)).wrap K J gd lv) none (gd false) (lv []) c p [] :: fs) s2) (fun x s' => Seg M A R Y n s₀ c (J x) fs s') s1) (fun x s' => Seg M A R Y n s₀ c (J x) fs s') s) :
    Seg M A R Y n s₀ c ((exec (.For target iter body [] pos) env).wrap K J gd lv) fs s := by
  rw [exec_For]
  refine seg_bind_wrap (wpAny_standAt ?_)
  refine seg_bind_wrap (wpAny_mono h (fun x s1 h1 => ?_) fun _ _ z => z)
  refine seg_bind_wrap (wpAny_of_eq (hs x) ?_)
  refine seg_bind_wrap (wpAny_standAt ?_)
  refine seg_bind_wrap (wpAny_holding (wpAny_mono h1 (fun it s2 h2 => ?_) fun _ _ z => z))
  exact seg_call h2
end
section
variable {prog : Program} {w : World} {A : Around} {R : GenEnd} {Y : Protocol} {n : Nat} {s₀ : Shared} {fs : List Frame} {s : Shared} {env : Env}
abbrev excF (env : Env) (x : Value) : Sem PySem.Fin := (do noteFrame x env; theTreesLotGoes x : Sem Unit).wrap (fun _ => .raise x) .raise id id
theorem seg_forLoop {target : Expr} {it : Value} {body : List Stmt}
    (h : wpAny (model prog w) (A.over (.forLoop target it body [] env) fs) (pyNext it) (fun r s1 => match r with
      | none => Seg (model prog w) A R Y n s₀ (.block [] env) (.pure (.done .next)) fs s1
      | some v => wpAny (model prog w) (A.over (.forLoop target it body [] env) fs) (letOwnedTupleGo target it v) (fun _ s2 => wpAny (model prog w) (A.over (.forLoop target it body [] env) fs) (assign target env v) (fun _ s3 =>
          Seg (model prog w) A R Y n s₀ (.forLoop target it body [] env) ((execs body env).wrap (fun f => match f with
            | .next | .cont => .pure (.again (.forLoop target it body [] env))
            | .brk => .pure (.done .next)
            | .ret v => .pure (.done (.ret v))) (excF env) id id) fs s3)
          (fun x s' => Seg (model prog w) A R Y n s₀ (.forLoop target it body [] env) (excF env x) fs s') s2) (fun x s' => Seg (model prog w) A R Y n s₀ (.forLoop target it body [] env) (excF env x) fs s') s1)
      (fun x s' => Seg (model prog w) A R Y n s₀ (.forLoop target it body [] env) (excF env x) fs s') s) :
    Seg (model prog w) A R Y n s₀ (.forLoop target it body [] env) ((model prog w).den (.forLoop target it body [] env)) fs s := by
  show Seg _ A R Y n s₀ _ ((forTurn target it body [] env).onRaise (fun x => do noteFrame x env; theTreesLotGoes x)) fs s
  have ex : ∀ x s', Seg (model prog w) A R Y n s₀ (.forLoop target it body [] env) (excF env x) fs s' → Seg (model prog w) A R Y n s₀ (.forLoop target it body [] env) ((do noteFrame x env; theTreesLotGoes x : Sem Unit).bind fun _ => .raise x) fs s' := fun x s' z => by
    rw [Sem.bind_eq_wrap]
    exact z
  unfold forTurn
  rw [Sem.onRaise_eq_wrap]
  refine seg_bind_wrap (wpAny_standAt ?_)
  refine seg_bind_wrap (wpAny_onRaise (wpAny_mono h (fun r s1 h1 => ?_) fun x s' z => wpAny_standAt (ex x s' z)))
  cases r with
  | none => exact seg_again rfl h1
  | some v =>
    refine seg_bind_wrap (wpAny_mono h1 (fun _ s2 h2 => ?_) fun x s' z => ex x s' z)
    refine seg_bind_wrap (wpAny_mono h2 (fun _ s3 h3 => ?_) fun x s' z => ex x s' z)
    rw [Sem.bind_eq_wrap', Sem.wrap_wrap]
    rw [Sem.wrap_congr (execs body env) _ _ (K' := fun f => match f with
            | .next | .cont => .pure (.again (.forLoop target it body [] env))
            | .brk => .pure (.done .next)
            | .ret v => .pure (.done (.ret v))) (H' := excF env)
        (fun f => by cases f <;> rfl)
        (fun e => by first | exact Sem.bind_eq_wrap _ _ | (show (do noteFrame e env; theTreesLotGoes e : Sem Unit).bind (fun _ => .raise e) = _; rw [Sem.bind_eq_wrap]))]
    exact h3
end
section
variable {X : Cx}
def tGFor (wi : TI) (g : TG) (tb : TGn) : TGn := fun D ys σ H => wi σ H fun J H1 => ∃ W : Nat → Nat → List V → L2.St → Hp → Prop, (∃ m, W 0 m ys σ H1) ∧ ∀ i m ys σ H, W i m ys σ H →
  (J.stop i H ∧ D.nx ys σ H) ∨ (J.go i H ∧ ∃ N : List V → L2.St → Hp → Prop, (∀ ys' σ' H', N ys' σ' H' → ∃ m', m' < m ∧ W (i + 1) m' ys' σ' H') ∧ ∀ x H', J.yld i H x H' → g x σ H' fun σ2 H2 => tb { D with nx := N, ct := N, bk := D.nx } ys σ2 H2)
/-- fewer pins -/
theorem GI.less {S : Addr} {ip pl : List (Addr × Obj)} {ys : List V} {σ : L2.St} {H : Hp} {s : Shared} (h : GI X S (ip ++ pl) ys σ H s) : GI X S ip ys σ H s := by
  obtain ⟨acc, c, r, I⟩ := h
  refine ⟨acc, c, r, ?_⟩
  have I2 : Inv X (((S, lstObj acc c) :: ip) ++ pl) σ H s := I
  exact I2.unpinned
theorem gs_for {tg iter : Expr} {body : List Stmt} {wi : TI} {g : TG} {tb : TGn} {pos : Pos} (hp : PassesOwn (model X.prog X.w) X.A X.env X.xe) (hc : X.calm = true) (hi : PI X tg iter wi) (hg : PG X tg g) (hb : GSs X body tb)
    (hs : ∀ x, foldedSetIterable iter X.env x = pure x := by intro _; rfl) : GS X (.For tg iter body [] pos) (tGFor wi g tb) := by
  refine ⟨fun A S ip R n ys s₀ c fs K Jx gd lv s σ H D gc hn k hI ht => ?_⟩
  obtain ⟨acc0, cc0, r0, I0⟩ := hI
  refine seg_For hs ?_
  rw [gc.over]
  refine wpAny_mono (hi.run _ s σ H _ I0 ht) (fun v s1 h1 => wpAny_mono h1 (fun itv s2 h2 => ?_) fun x s' hx => k.exc n s₀ x s' hx) fun x s' hx => k.exc n s₀ x s' hx
  obtain ⟨it, fp, tn, J, H2, e, I2, T, st2, f2, W, ⟨m0, w0⟩, turn⟩ := h2
  subst e
  intro p
  have gl := fun (kk : Result → Sem PySem.Fin) => gc_loop (k := kk) (c' := .forLoop tg (.ref it) body [] X.env) (l := lv []) (kp := []) (p := p) gc rfl rfl
  have hSfp : ∀ b ∈ fp, S ≠ b := fun b hb => (f2 b hb).2.2.2.2.2 (S, lstObj acc0 cc0) (List.mem_append_right _ List.mem_cons_self)
  have stat : ∀ {H' : Hp} {acc : Array Value} {cc : Nat}, (∀ b ∈ fp, H' b = none) → ∀ b ∈ fp, FpOk X ((S, lstObj acc cc) :: ip) H' b := fun {H' acc cc} hn' b hb => by
    obtain ⟨_, q1, q2, q3, q4, q5⟩ := f2 b hb
    refine ⟨hn' b hb, q1, q2, q3, q4, fun p hp' => ?_⟩
    rcases List.mem_append.mp hp' with z | z
    · exact q5 p (List.mem_append_left _ z)
    · rcases List.mem_cons.mp z with z | z
      · rw [z]; exact hSfp b hb
      · exact q5 p (List.mem_append_right _ (List.mem_cons_of_mem _ z))
  have loop : ∀ (m i n : Nat) (ys : List V) (s₀ s : Shared) (σ : L2.St) (H : Hp), n + ys.length = sizeLine → W i m ys σ H → GI X S ip ys σ H s → tn i s.heap → (∀ b ∈ fp, H b = none) →
      Seg (model X.prog X.w) A R (GY X S) n s₀ (.forLoop tg (.ref it) body [] X.env) ((model X.prog X.w).den (.forLoop tg (.ref it) body [] X.env))
        (.ret (fun r => ((match r with | .ok f => (.pure f : Sem Flow) | .error e => .raise e).onRaise (cameBack X.env)).wrap K Jx gd lv) none (gd false) (lv []) c p [] :: fs) s := by
    intro m
    induction m using Nat.strongRecOn with
    | ind m ih =>
      intro i n ys s₀ s σ H hn w hI st fr
      have ee : ∀ (n : Nat) (s₀ : Shared) (x : Value) (s' : Shared), X.xe x s' → Seg (model X.prog X.w) A R (GY X S) n s₀ (.forLoop tg (.ref it) body [] X.env)
          (excF X.env x) (.ret (fun r => ((match r with | .ok f => (.pure f : Sem Flow) | .error e => .raise e).onRaise (cameBack X.env)).wrap K Jx gd lv) none (gd false) (lv []) c p [] :: fs) s' := fun n s₀ x s' hx => by
        refine seg_wrap ?_
        rw [(gl _).over]
        refine wpAny_bind (wpAny_mono (hp x s' hx) (fun _ s'' hcb => wpAny_theTreesLotGoes ?_) fun y s'' hcb => ?_)
        · exact seg_leaf (.error x) (seg_cameBack gc k hcb)
        · exact seg_leaf (.error y) (seg_cameBack gc k hcb)
      refine seg_forLoop ?_
      rw [(gl _).over]
      obtain ⟨acc, cc, r, I⟩ := hI
      rcases turn i m ys σ H w with ⟨stop, qn⟩ | ⟨go, N, hN, step⟩
      · refine wpAny_mono (T.done X rfl rfl rfl hc i _ s σ H X.xe I (stat fr) st stop) (fun r1 s4 h4 => ?_) fun x s' hx => ee n s₀ x s' hx
        obtain ⟨hr, I4⟩ := h4
        subst hr
        exact seg_leaf (.ok .next) (k.ok n ys s₀ s4 .next hn ⟨σ, H, ⟨acc, cc, r, I4⟩, qn⟩)
      · refine wpAny_mono (T.item X rfl rfl rfl hc i _ s σ H X.xe I (stat fr) st go) (fun r1 s4 h4 => ?_) fun x s' hx => ee n s₀ x s' hx
        obtain ⟨u, hr, h4⟩ := h4
        subst hr
        refine wpAny_mono h4 (fun _ s5 h5 => ?_) fun x s' hx => ee n s₀ x s' hx
        obtain ⟨x, H5, I5, r5, y5, st5, fr5⟩ := h5
        have I5' := I5.pinned (stat fr5) (T.obj _ _ st5)
        refine wpAny_mono (hg.run _ s5 σ H5 x u _ I5' r5 (step x H5 y5)) (fun _ s6 h6 => ?_) fun x s' hx => ee n s₀ x s' hx
        obtain ⟨σ6, H6, I6, q6⟩ := h6
        have gl2 : GC X S (ip ++ pinsAt fp s5.heap) A (.forLoop tg (.ref it) body [] X.env) (.ret (fun r => ((match r with | .ok f => (.pure f : Sem Flow) | .error e => .raise e).onRaise (cameBack X.env)).wrap K Jx gd lv) none (gd false) (lv []) c p [] :: fs) id := by
          have q := gl (fun r => ((match r with | .ok f => (.pure f : Sem Flow) | .error e => .raise e).onRaise (cameBack X.env)).wrap K Jx gd lv)
          refine ⟨q.pn, fun p hp' => ?_, q.apart, q.over, q.split, q.guard, q.gd⟩
          rcases List.mem_append.mp hp' with z | z
          · exact q.ip p z
          · exact (hSfp p.1 (of_pinsAt z).1).symm
        have again : ∀ {n' : Nat} {ys' : List V} {s₀' s3 : Shared}, n' + ys'.length = sizeLine → (∃ σ3 H3, GI X S (ip ++ pinsAt fp s5.heap) ys' σ3 H3 s3 ∧ N ys' σ3 H3) → Seg (model X.prog X.w) A R (GY X S) n' s₀' (.forLoop tg (.ref it) body [] X.env) (.pure (.again (.forLoop tg (.ref it) body [] X.env))) (.ret (fun r => ((match r with | .ok f => (.pure f : Sem Flow) | .error e => .raise e).onRaise (cameBack X.env)).wrap K Jx gd lv) none (gd false) (lv []) c p [] :: fs) s3 := fun {n' ys' s₀' s3} hn' h => by
          obtain ⟨σ3, H3, I3, n3⟩ := h
          obtain ⟨m', hm, w3⟩ := hN ys' σ3 H3 n3
          obtain ⟨acc3, cc3, r3, J3⟩ := id I3
          have pin3 : ∀ b o, (b, o) ∈ pinsAt fp s5.heap → s3.heap.get? b = some o ∧ H3 b = none := fun b o hb => by
            have q := J3.pin (b, o) (List.mem_append_right _ (List.mem_cons_of_mem _ (List.mem_append_right _ hb)))
            exact ⟨q.1, q.2.1⟩
          refine seg_again rfl (ih m' hm (i + 1) n' ys' s₀' s3 σ3 H3 hn' w3 (GI.less I3) (T.keep _ _ _ st5 fun b hb o e => (pin3 b o (mem_pinsAt hb e)).1) fun b hb => ?_)
          obtain ⟨o, e, _⟩ := T.obj _ _ st5 b hb
          exact (pin3 b o (mem_pinsAt hb e)).2
        refine hb.run A S (ip ++ pinsAt fp s5.heap) R n ys s₀ _ _ _ _ id id s6 σ6 H6 { D with nx := N, ct := N, bk := D.nx } gl2 hn ⟨fun n' ys' s₀' s3 f hn' hs => ?_, fun n' s₀' x s3 hx => ee n' s₀' x s3 hx⟩ ⟨acc, cc, r, I6⟩ q6
        cases f with
        | next => exact again hn' hs
        | cont => exact again hn' hs
        | brk =>
          obtain ⟨σ3, H3, I3, q3⟩ := hs
          exact seg_leaf (.ok .next) (k.ok n' ys' s₀' s3 .next hn' ⟨σ3, H3, GI.less I3, q3⟩)
        | ret v =>
          obtain ⟨x3, σ3, H3, I3, r3, q3⟩ := hs
          exact seg_leaf (.ok (.ret v)) (k.ok n' ys' s₀' s3 (.ret v) hn' ⟨x3, σ3, H3, GI.less I3, r3, q3⟩)
  exact loop m0 0 n ys s₀ s2 σ H2 hn w0 ⟨acc0, cc0, r0, I2⟩ st2 (fun b hb => (f2 b hb).1)
end
end Rk
namespace Rk
open PySem PySem.Spec PyProof.Rows L2 GenW

/-! ### range with a great step -/
def RgW (i j c : Int) (n : Nat) : Prop := 0 < c ∧ c.natAbs < 2 ^ 4000 ∧ Builtin.Range.small i j c = true ∧ Builtin.Range.rangeSize i j c = n
def iRng3W (ta : TA) : TI := fun σ H R => ta σ H fun vs H1 => ∃ (i j c : Int) (n : Nat), vs = [.int i, .int j, .int c] ∧ RgW i j c n ∧ R (Itc i c n) H1
section
variable {X : Cx} {tg : Expr}
theorem pi_range3W {a b c : Expr} {ta : TA} {p pos : Pos} (hg : Gl X "range") (hm : X.mg "range" = none) (ha : PA X [a, b, c] ta)
    (hs : starEach [a, b, c] X.env = (false, eval a X.env) :: starEach [b, c] X.env := by rfl) (hpl : (backTo pos (starEach [b, c] X.env)).any (·.1) = false := by rfl) :
    PI X tg (.Call (.Name "range" p) [a, b, c] [] pos) (iRng3W ta) := by
  refine ⟨fun pins s σ H R I h => ?_⟩
  refine Call_ (ld_blt I hg hm boot_range (PyProof.Rows.callWith_type1 (thn (ha.run pos pins s σ H _ I h) fun us s1 ⟨vs, H1, I1, r1, q1⟩ => ?_) hs hpl))
  obtain ⟨i, j, k, n, e, ⟨c0, c1, c2, c3⟩, q⟩ := q1
  subst e
  cases r1 with
  | cons r rr =>
    cases rr with
    | cons r' rr =>
      cases rr with
      | cons r'' rr =>
        cases rr
        obtain ⟨t, rfl⟩ := r
        obtain ⟨t', rfl⟩ := r'
        obtain ⟨t'', rfl⟩ := r''
        refine call_range_3 (by omega) ?_ (.inl (PyProof.noPylong_of_log2 (Nat.lt_of_lt_of_le (PySem.Flt.log2_lt_of (k := 4000) (by decide) c1) (by decide))))
        refine wpAny_pyIter_range (IsRange.new ..) c2 ?_
        have I2 : Inv X pins σ H1 { s1 with heap := s1.heap.push { cls := .type "range", data := .fields #[.int i t, .int j t', .int k t''] } } := I1.kept (t' := s1.toks) fun b o e => Heap.get?_push_of_some _ e
        refine pi_one (tk := s1.toks) I2 _ (turn_rangeC _ i k n) ?_ q
        have e1 : i + ((0 : Nat) : Int) * k = i := by simp
        have e2 : (n : Int) - ((0 : Nat) : Int) = Builtin.Range.rangeSize i j k := by rw [c3]; simp
        show IsRangeIter _ _ (i + ((0 : Nat) : Int) * k) ((n : Int) - ((0 : Nat) : Int)) k
        rw [e1, e2]
        exact Heap.get?_push_size _ rfl
end
/-- how many turns -/
def stepsN (i j c : Int) : Nat := if i < j then ((j - i - 1) / c + 1).toNat else 0
theorem div_le_self {a c : Int} (h : 0 ≤ a) (hc : 0 < c) : 0 ≤ a / c ∧ a / c ≤ a := ⟨Int.ediv_nonneg h (by omega), by
  have := Int.ediv_le_self c h
  exact this⟩
theorem rgW_up {i j c : Int} (hc : 0 < c) (hc' : c ≤ 2 ^ 61) (hi : 0 ≤ i) (hi' : i < 2 ^ 62) (hj : 0 ≤ j) (hj' : j < 2 ^ 62) : RgW i j c (stepsN i j c) := by
  have sz : Builtin.Range.rangeSize i j c = ((stepsN i j c : Nat) : Int) ∧ 0 ≤ Builtin.Range.rangeSize i j c ∧ Builtin.Range.rangeSize i j c ≤ 2 ^ 62 := by
    unfold Builtin.Range.rangeSize stepsN
    rw [if_pos (show c > 0 by omega)]
    by_cases h : i < j
    · rw [if_pos h, if_pos h]
      obtain ⟨q1, q2⟩ := div_le_self (a := j - i - 1) (c := c) (by omega) hc
      refine ⟨by omega, by omega, by omega⟩
    · rw [if_neg h, if_neg h]
      exact ⟨rfl, Int.le_refl _, by decide⟩
  refine ⟨hc, Nat.lt_of_le_of_lt (show c.natAbs ≤ 2 ^ 61 by omega) (Nat.pow_lt_pow_right (by decide) (by decide)), ?_, sz.1⟩
  obtain ⟨s1, s2, s3⟩ := sz
  unfold Builtin.Range.small
  generalize Builtin.Range.rangeSize i j c = z at *
  simp only [Builtin.Range.rangeFitsLong, Bool.and_eq_true, Bool.or_eq_true, decide_eq_true_eq, beq_iff_eq, show c > 0 from hc, if_true]
  omega

/-! ### for loops of a generator, over a list and over a range -/
theorem gfor_list {K : PySem.W.Frag} {a : Addr} {xs : List V} {g : TG} {tb : TGn} {D : GEnds} {ys : List V} {σ : L2.St} {H : Hp} (Pv : Nat → List V → L2.St → Hp → Prop) (h0 : Pv 0 ys σ H) (hl : ∀ i ys σ H, i ≤ xs.length → Pv i ys σ H → SqL K H a xs)
    (hs : ∀ i x ys σ H, xs[i]? = some x → Pv i ys σ H → g x σ H fun σ2 H2 => tb { D with nx := Pv (i + 1), ct := Pv (i + 1), bk := D.nx } ys σ2 H2) (hd : ∀ ys σ H, Pv xs.length ys σ H → D.nx ys σ H) :
    ∃ W : Nat → Nat → List V → L2.St → Hp → Prop, (∃ m, W 0 m ys σ H) ∧ ∀ i m ys σ H, W i m ys σ H →
      ((Itl K a).stop i H ∧ D.nx ys σ H) ∨ ((Itl K a).go i H ∧ ∃ N : List V → L2.St → Hp → Prop, (∀ ys' σ' H', N ys' σ' H' → ∃ m', m' < m ∧ W (i + 1) m' ys' σ' H') ∧ ∀ x H', (Itl K a).yld i H x H' → g x σ H' fun σ2 H2 => tb { D with nx := N, ct := N, bk := D.nx } ys σ2 H2) := by
  refine ⟨fun i m ys σ H => m = xs.length - i ∧ i ≤ xs.length ∧ Pv i ys σ H, ⟨xs.length, by simp, Nat.zero_le _, h0⟩, ?_⟩
  rintro i m ys σ H ⟨rfl, hi, p⟩
  have q := hl i ys σ H hi p
  by_cases hlt : i < xs.length
  · refine .inr ⟨⟨xs, xs[i], q, by simp [hlt]⟩, Pv (i + 1), fun ys' σ' H' p' => ⟨xs.length - (i + 1), by omega, rfl, hlt, p'⟩, fun x H' y => ?_⟩
    obtain ⟨e, y⟩ := y
    subst e
    exact hs i x ys σ _ (y xs q) p
  · have e : i = xs.length := by omega
    subst e
    exact .inl ⟨⟨xs, q, Nat.le_refl _⟩, hd ys σ H p⟩
theorem gfor_rangeC {lo c : Int} {n : Nat} {g : TG} {tb : TGn} {D : GEnds} {ys : List V} {σ : L2.St} {H : Hp} (Pv : Nat → List V → L2.St → Hp → Prop) (h0 : Pv 0 ys σ H)
    (hs : ∀ i ys σ H, i < n → Pv i ys σ H → g (.int (lo + (i : Nat) * c)) σ H fun σ2 H2 => tb { D with nx := Pv (i + 1), ct := Pv (i + 1), bk := D.nx } ys σ2 H2) (hd : ∀ ys σ H, Pv n ys σ H → D.nx ys σ H) :
    ∃ W : Nat → Nat → List V → L2.St → Hp → Prop, (∃ m, W 0 m ys σ H) ∧ ∀ i m ys σ H, W i m ys σ H →
      ((Itc lo c n).stop i H ∧ D.nx ys σ H) ∨ ((Itc lo c n).go i H ∧ ∃ N : List V → L2.St → Hp → Prop, (∀ ys' σ' H', N ys' σ' H' → ∃ m', m' < m ∧ W (i + 1) m' ys' σ' H') ∧ ∀ x H', (Itc lo c n).yld i H x H' → g x σ H' fun σ2 H2 => tb { D with nx := N, ct := N, bk := D.nx } ys σ2 H2) := by
  refine ⟨fun i m ys σ H => m = n - i ∧ i ≤ n ∧ Pv i ys σ H, ⟨n, by simp, Nat.zero_le _, h0⟩, ?_⟩
  rintro i m ys σ H ⟨rfl, hi, p⟩
  by_cases hlt : i < n
  · refine .inr ⟨hlt, Pv (i + 1), fun ys' σ' H' p' => ⟨n - (i + 1), by omega, rfl, hlt, p'⟩, fun x H' y => ?_⟩
    obtain ⟨e, y⟩ := y
    subst e y
    exact hs i ys σ _ hlt p
  · have e : i = n := by omega
    subst e
    exact .inl ⟨Nat.le_refl _, hd ys σ H p⟩
end Rk
namespace Rk
open PySem PySem.Spec PyProof.Rows L2 GenW

/-! ### the points of a band, ascending -/
def lo2 (lo s : Int) : Int := lo + (-lo) % s
def bandPts (b : Int × Int × Int) : List Int := (List.range (stepsN (lo2 b.1 b.2.2) (b.2.1 + 1) b.2.2)).map fun (k : Nat) => lo2 b.1 b.2.2 + (k : Int) * b.2.2
theorem lo2_spec {lo s : Int} (hs : 0 < s) : lo ≤ lo2 lo s ∧ lo2 lo s % s = 0 ∧ lo2 lo s < lo + s := by
  unfold lo2
  have h0 := Int.emod_nonneg (-lo) (show s ≠ 0 by omega)
  have h1 := Int.emod_lt_of_pos (-lo) hs
  refine ⟨by omega, ?_, by omega⟩
  have e : lo + (-lo) % s = -(s * ((-lo) / s)) := by
    have := Int.emod_add_mul_ediv (-lo) s
    omega
  rw [e]
  exact Int.emod_eq_zero_of_dvd ⟨-((-lo) / s), by rw [Int.mul_neg]⟩
theorem stepsN_mem {i j c x : Int} (hc : 0 < c) : (∃ k : Nat, k < stepsN i j c ∧ x = i + (k : Int) * c) ↔ (i ≤ x ∧ x < j ∧ (x - i) % c = 0) := by
  unfold stepsN
  constructor
  · rintro ⟨k, hk, rfl⟩
    by_cases h : i < j
    · rw [if_pos h] at hk
      have q0 : 0 ≤ (j - i - 1) / c := Int.ediv_nonneg (by omega) (by omega)
      have hk2 : (k : Int) ≤ (j - i - 1) / c := by omega
      have m := Int.mul_le_mul_of_nonneg_right hk2 (show 0 ≤ c by omega)
      have d := Int.ediv_mul_le (j - i - 1) (show c ≠ 0 by omega)
      have n0 : 0 ≤ (k : Int) * c := Int.mul_nonneg (by omega) (by omega)
      refine ⟨by omega, by omega, ?_⟩
      rw [show i + (k : Int) * c - i = (k : Int) * c by omega]
      exact Int.mul_emod_left _ _
    · rw [if_neg h] at hk
      omega
  · rintro ⟨h1, h2, h3⟩
    obtain ⟨q, hq⟩ := Int.dvd_of_emod_eq_zero h3
    have hq0 : 0 ≤ q := by
      rcases Int.lt_or_le q 0 with z | z
      · have := Int.mul_neg_of_pos_of_neg hc z
        omega
      · exact z
    refine ⟨q.toNat, ?_, ?_⟩
    · rw [if_pos (by omega)]
      have d : q ≤ (j - i - 1) / c := by
        rw [Int.le_ediv_iff_mul_le hc, Int.mul_comm]
        omega
      omega
    · rw [show ((q.toNat : Nat) : Int) = q by omega, Int.mul_comm]
      omega
theorem bandPts_mem {b : Int × Int × Int} (hs : 0 < b.2.2) {x : Int} : x ∈ bandPts b ↔ b.1 ≤ x ∧ x ≤ b.2.1 ∧ x % b.2.2 = 0 := by
  obtain ⟨h1, h2, h3⟩ := lo2_spec (lo := b.1) hs
  unfold bandPts
  rw [List.mem_map]
  have key := stepsN_mem (i := lo2 b.1 b.2.2) (j := b.2.1 + 1) (x := x) hs
  have dv : (x - lo2 b.1 b.2.2) % b.2.2 = x % b.2.2 := by
    rw [Int.sub_emod, h2, Int.sub_zero, Int.emod_emod]
  constructor
  · rintro ⟨k, hk, e⟩
    obtain ⟨q1, q2, q3⟩ := key.mp ⟨k, List.mem_range.mp hk, e.symm⟩
    rw [dv] at q3
    exact ⟨by omega, by omega, q3⟩
  · rintro ⟨q1, q2, q3⟩
    have q4 : lo2 b.1 b.2.2 ≤ x := by
      rcases Int.lt_or_le x (lo2 b.1 b.2.2) with z | z
      · exfalso
        rw [← dv] at q3
        obtain ⟨q, hq⟩ := Int.dvd_of_emod_eq_zero q3
        have : q < 0 := by
          rcases Int.lt_or_le q 0 with y | y
          · exact y
          · have := Int.mul_nonneg (show 0 ≤ b.2.2 by omega) y
            omega
        have m : b.2.2 * q ≤ b.2.2 * (-1) := Int.mul_le_mul_of_nonneg_left (by omega) (by omega)
        omega
      · exact z
    obtain ⟨k, hk, e⟩ := key.mpr ⟨q4, by omega, by rw [dv]; exact q3⟩
    exact ⟨k, List.mem_range.mpr hk, e.symm⟩
/-- strictly ascending -/
def Up (xs : List Int) : Prop := xs.Pairwise (· < ·)
theorem bandPts_up {b : Int × Int × Int} (hs : 0 < b.2.2) : Up (bandPts b) := by
  unfold Up bandPts
  rw [List.pairwise_map]
  refine List.Pairwise.imp ?_ (List.pairwise_lt_range (n := _))
  intro i j h
  have : (i : Int) * b.2.2 < (j : Int) * b.2.2 := Int.mul_lt_mul_of_pos_right (by omega) hs
  omega
theorem up_ext : ∀ {xs ys : List Int}, Up xs → Up ys → (∀ x, x ∈ xs ↔ x ∈ ys) → xs = ys
  | [], [], _, _, _ => rfl
  | [], y :: ys, _, _, h => absurd ((h y).mpr (List.mem_cons_self ..)) (List.not_mem_nil)
  | x :: xs, [], _, _, h => absurd ((h x).mp (List.mem_cons_self ..)) (List.not_mem_nil)
  | x :: xs, y :: ys, hx, hy, h => by
    have px := List.pairwise_cons.mp hx
    have py := List.pairwise_cons.mp hy
    have e : x = y := by
      have a := (h x).mp (List.mem_cons_self ..)
      have b := (h y).mpr (List.mem_cons_self ..)
      rcases List.mem_cons.mp a with z | z
      · exact z
      · rcases List.mem_cons.mp b with w | w
        · exact w.symm
        · have := py.1 x z
          have := px.1 y w
          omega
    subst e
    congr 1
    refine up_ext px.2 py.2 fun z => ⟨fun hz => ?_, fun hz => ?_⟩
    · rcases List.mem_cons.mp ((h z).mp (List.mem_cons_of_mem _ hz)) with w | w
      · have := px.1 z hz
        omega
      · exact w
    · rcases List.mem_cons.mp ((h z).mpr (List.mem_cons_of_mem _ hz)) with w | w
      · have := py.1 z hz
        omega
      · exact w
def genL (bs : List (Int × Int × Int)) : List Int := bs.reverse.flatMap bandPts
theorem genL_cons (b : Int × Int × Int) (bs : List (Int × Int × Int)) : genL (b :: bs) = genL bs ++ bandPts b := by
  unfold genL
  rw [List.reverse_cons, List.flatMap_append, List.flatMap_cons, List.flatMap_nil, List.append_nil]
theorem genL_mem {t : Int} : ∀ (ls : List (Option Int)) (i : Nat) (hi x : Int), x ∈ genL (bandsOf t i hi ls) ↔ inB t i hi ls x
  | [], _, _, x => by
    unfold genL bandsOf inB
    simp
  | l :: r, i, hi, x => by
    show x ∈ genL ((bandLo t l, hi, 2 ^ i) :: bandsOf t (i + 1) (bandLo t l - 1) r) ↔ (bandLo t l ≤ x ∧ x ≤ hi ∧ x % 2 ^ i = 0) ∨ inB t (i + 1) (bandLo t l - 1) r x
    rw [genL_cons, List.mem_append, genL_mem r (i + 1) (bandLo t l - 1) x, bandPts_mem (b := (bandLo t l, hi, 2 ^ i)) (Int.pow_pos (by decide))]
    exact or_comm
theorem genL_up {t : Int} (ht : 0 ≤ t) : ∀ (ls : List (Option Int)) (i : Nat) (hi : Int), (∀ l, ls.head? = some l → bandLo t l ≤ hi + 1) → (∀ (i : Nat) (x y : Option Int), ls[i]? = some x → ls[i + 1]? = some y → leO x y = true) → Up (genL (bandsOf t i hi ls))
  | [], _, _, _, _ => by unfold genL bandsOf; exact List.Pairwise.nil
  | l :: r, i, hi, h0, ha => by
    show Up (genL ((bandLo t l, hi, 2 ^ i) :: bandsOf t (i + 1) (bandLo t l - 1) r))
    rw [genL_cons]
    have h1 : ∀ m, r.head? = some m → bandLo t m ≤ bandLo t l - 1 + 1 := fun m hm => by
      have q := ha 0 l m rfl (by
        cases r with
        | nil => cases hm
        | cons a r => exact hm)
      have := bandLo_mono ht q
      omega
    have h2 : ∀ (i : Nat) (x y : Option Int), r[i]? = some x → r[i + 1]? = some y → leO x y = true := fun i x y hx hy => ha (i + 1) x y hx hy
    refine List.pairwise_append.mpr ⟨genL_up ht r (i + 1) _ h1 h2, bandPts_up (b := (bandLo t l, hi, 2 ^ i)) (Int.pow_pos (by decide)), fun x hx y hy => ?_⟩
    have q1 := inB_le ht r (i + 1) _ x h1 h2 ((genL_mem r (i + 1) _ x).mp hx)
    have q2 := (bandPts_mem (b := (bandLo t l, hi, 2 ^ i)) (Int.pow_pos (by decide))).mp hy
    have q3 : bandLo t l ≤ y := q2.1
    omega
theorem up_keptL (ls : List (Option Int)) (t : Nat) : Up ((keptL ls t).map fun n => ((n : Nat) : Int)) := by
  unfold Up keptL
  rw [List.pairwise_map]
  refine List.Pairwise.imp ?_ (List.Pairwise.filter _ (List.pairwise_lt_range (n := t + 1)))
  intro a b h
  omega
theorem keptL_mem {ls : List (Option Int)} {t n : Nat} : n ∈ keptL ls t ↔ n ≤ t ∧ keptB ls t ((n : Nat) : Int) = true := by
  unfold keptL
  rw [List.mem_filter, List.mem_range]
  constructor
  · rintro ⟨a, b⟩; exact ⟨by omega, b⟩
  · rintro ⟨a, b⟩; exact ⟨by omega, b⟩
/-- what the walk hands out is what is kept -/
theorem genL_kept {ls : List (Option Int)} (g : Good ls) (t : Nat) : genL (bandsOf (t : Int) 0 (t : Int) ls) = (keptL ls t).map fun n => ((n : Nat) : Int) := by
  have ht : (0 : Int) ≤ (t : Int) := Int.natCast_nonneg t
  have h0 : ∀ l, ls.head? = some l → bandLo (t : Int) l ≤ (t : Int) + 1 := fun l hl => (bandLo_le ht (fun v e => (g.bd l (List.mem_of_mem_head? hl) v e).1)).2
  refine up_ext (genL_up ht ls 0 _ h0 g.asc) (up_keptL ls t) fun x => ?_
  rw [genL_mem, List.mem_map]
  constructor
  · intro h
    have h1 := inB_le ht ls 0 _ x h0 g.asc h
    have h2 := inB_nonneg ht ls 0 _ x (fun l hl v e => (g.bd l hl v e).1) h
    obtain ⟨n, rfl⟩ := Int.eq_ofNat_of_zero_le h2
    exact ⟨n, keptL_mem.mpr ⟨by omega, (keptB_iff h2).mpr ((inB_iff g ht h2 h1).mp h)⟩, rfl⟩
  · rintro ⟨n, hn, rfl⟩
    obtain ⟨q1, q2⟩ := keptL_mem.mp hn
    exact (inB_iff g ht (Int.natCast_nonneg n) (by omega)).mpr ((keptB_iff (Int.natCast_nonneg n)).mp q2)
theorem keptL_len (ls : List (Option Int)) (t : Nat) : (keptL ls t).length ≤ t + 1 := by
  unfold keptL
  refine Nat.le_trans (List.length_filter_le _ _) ?_
  rw [List.length_range]
  exact Nat.le_refl _
theorem keptB_short {ls : List (Option Int)} (h0 : 0 < ls.length) (t n : Int) : keptB (short ls) t n = keptB ls t n := by
  unfold keptB
  rw [lifeAt_short h0]
theorem keptL_short {ls : List (Option Int)} (h0 : 0 < ls.length) (t : Nat) : keptL (short ls) t = keptL ls t := by
  unfold keptL
  congr 1
  funext n
  exact keptB_short h0 _ _
theorem keptL_ext {ls ms : List (Option Int)} (h : ∀ i, lifeAt ls i = lifeAt ms i) (t : Nat) : keptL ls t = keptL ms t := by
  unfold keptL keptB
  congr 1
  funext n
  rw [h]

/-! ### reckoned lives are lives again, where they are small enough -/
theorem good_reckoned {ls : List (Option Int)} (h0 : 0 < ls.length) (h1 : ls.length ≤ 61) (up : ∀ i j, i ≤ j → leO (lifeAt ls i) (lifeAt ls j) = true) (bd : ∀ i v, lifeAt ls i = some v → 0 ≤ v ∧ v ≤ 10 ^ 18) : Good (short ls) := by
  have s0 := short_len_pos h0
  have s1 := short_len_le ls
  have idem : short (short ls) = short ls := short_ext s0 h0 (fun i => lifeAt_short h0 i)
  have at_ : ∀ i x, (short ls)[i]? = some x → lifeAt ls i = x := fun i x e => by rw [← lifeAt_short h0 i, lifeAt_lt e]
  generalize hm : short ls = ms at *
  have none_last : ∀ i, i + 1 < ms.length → ms[i]? ≠ some none := fun i hi e => by
    obtain ⟨j, hj⟩ : ∃ j, ms.length = j + 2 := ⟨ms.length - 2, by omega⟩
    have z : ∀ k, i ≤ k → lifeAt ls k = none := fun k hk => by
      have q := up i k hk
      rw [at_ i none e] at q
      cases r : lifeAt ls k with
      | none => rfl
      | some v => rw [r] at q; cases q
    have e1 : ms[j + 1]? = some none := by
      have q := List.getElem?_eq_getElem (show j + 1 < ms.length by omega)
      rw [q, ← z (j + 1) (by omega), at_ (j + 1) _ q]
    have e0 : ms[j]? = some none := by
      have q := List.getElem?_eq_getElem (show j < ms.length by omega)
      rw [q, ← z j (by omega), at_ j _ q]
    have c : cutN ms ms.length = ms.length := by
      have q : (short ms).length = ms.length := by rw [idem]
      unfold short at q
      rw [List.length_take] at q
      have := cutN_le ms ms.length
      omega
    rw [hj, cutN_eq (by rw [e1, e0])] at c
    have := cutN_le ms (j + 1)
    omega
  obtain ⟨ini, l, rfl⟩ : ∃ ini l, ms = ini ++ [l] := ⟨ms.dropLast, ms.getLast (by intro z; rw [z] at s0; simp at s0), (List.dropLast_concat_getLast _).symm⟩
  have some_ini : ∀ x ∈ ini, ∃ v, x = some v := fun x hx => by
    obtain ⟨i, hi⟩ := List.mem_iff_getElem?.mp hx
    have hil := (List.getElem?_eq_some_iff.mp hi).1
    cases x with
    | some v => exact ⟨v, rfl⟩
    | none => exact absurd (by rw [List.getElem?_append_left hil, hi]) (none_last i (by rw [List.length_append]; show i + 1 < ini.length + 1; omega))
  obtain ⟨is, rfl⟩ : ∃ is : List Int, ini = is.map some := by
    refine ⟨ini.map fun x => x.getD 0, ?_⟩
    rw [List.map_map]
    have : ini.map _root_.id = ini := List.map_id ini
    conv => lhs; rw [← this]
    refine List.map_congr_left fun x hx => ?_
    obtain ⟨v, rfl⟩ := some_ini x hx
    rfl
  refine ⟨s0, Nat.le_trans s1 h1, ⟨is, l, rfl, fun v hv => ?_, fun v hv => ?_⟩, fun i x y hx hy => ?_⟩
  · obtain ⟨i, hi⟩ := List.mem_iff_getElem?.mp hv
    have hil := (List.getElem?_eq_some_iff.mp hi).1
    exact bd i v (at_ i (some v) (by rw [List.getElem?_append_left (by rw [List.length_map]; exact hil), List.getElem?_map, hi]; rfl))
  · exact bd is.length v (at_ is.length (some v) (by rw [List.getElem?_append_right (by rw [List.length_map]; exact Nat.le_refl _), List.length_map, Nat.sub_self, hv]; rfl))
  · rw [← at_ i x hx, ← at_ (i + 1) y hy]
    exact up i (i + 1) (by omega)
end Rk
namespace Rk
open PySem PySem.Spec PyProof.Rows L2 GenW
theorem TAt.rev {H : Hp} : ∀ {xs : List V} {ps : List (List V)}, TAt H xs ps → TAt H xs.reverse ps.reverse
  | [], [], _ => trivial
  | x :: xs, p :: ps, ⟨⟨t, e, h⟩, r⟩ => by
    rw [List.reverse_cons, List.reverse_cons, e]
    exact TAt.snoc h (TAt.rev r)
  | [], _ :: _, h => h.elim
  | _ :: _, [], h => h.elim
/-- what is out amid a band -/
def outL (bs : List (Int × Int × Int)) (i : Nat) : List Int := (bs.reverse.take i).flatMap bandPts
theorem outL_succ {bs : List (Int × Int × Int)} {i : Nat} {b : Int × Int × Int} (h : bs.reverse[i]? = some b) : outL bs (i + 1) = outL bs i ++ bandPts b := by
  unfold outL
  rw [List.take_add_one, h, List.flatMap_append]
  show _ ++ List.flatMap bandPts [b] = _
  rw [List.flatMap_cons, List.flatMap_nil, List.append_nil]
theorem outL_all (bs : List (Int × Int × Int)) : outL bs bs.length = genL bs := by
  unfold outL genL
  rw [← List.length_reverse, List.take_length]
theorem outL_mono (bs : List (Int × Int × Int)) {i j : Nat} (h : i ≤ j) : (outL bs i).length ≤ (outL bs j).length := by
  unfold outL
  have e : bs.reverse.take i = (bs.reverse.take j).take i := by rw [List.take_take, show min i j = i by omega]
  rw [e]
  conv => rhs; rw [← List.take_append_drop i (bs.reverse.take j)]
  rw [List.flatMap_append, List.length_append]
  omega
theorem out_len {bs : List (Int × Int × Int)} {i k : Nat} {b : Int × Int × Int} (h : bs.reverse[i]? = some b) (hk : k < (bandPts b).length) : (outL bs i ++ (bandPts b).take k).length < (genL bs).length := by
  have h1 := outL_mono bs (show i + 1 ≤ bs.length by
    have := (List.getElem?_eq_some_iff.mp h).1
    rw [List.length_reverse] at this
    omega)
  rw [outL_all, outL_succ h, List.length_append] at h1
  rw [List.length_append, List.length_take]
  omega
theorem bandPts_len (b : Int × Int × Int) : (bandPts b).length = stepsN (lo2 b.1 b.2.2) (b.2.1 + 1) b.2.2 := by
  unfold bandPts
  rw [List.length_map, List.length_range]
theorem bandPts_take (b : Int × Int × Int) {k : Nat} (hk : k < stepsN (lo2 b.1 b.2.2) (b.2.1 + 1) b.2.2) : (bandPts b).take (k + 1) = (bandPts b).take k ++ [lo2 b.1 b.2.2 + (k : Int) * b.2.2] := by
  rw [List.take_add_one]
  congr 1
  unfold bandPts
  rw [List.getElem?_map, List.getElem?_range hk]
  rfl
end Rk
namespace Rk
open PySem PySem.Spec PyProof.Rows L2 GenW

/-! ### reckoned rules and their points -/
structure RL (B : Int) (ls : List (Option Int)) : Prop where
  pos : 0 < ls.length
  most : ls.length ≤ 61
  up : ∀ i j, i ≤ j → leO (lifeAt ls i) (lifeAt ls j) = true
  bd : ∀ i v, lifeAt ls i = some v → 0 ≤ v ∧ v ≤ B
theorem Good.rl {ls : List (Option Int)} (g : Good ls) {B : Int} (h : ∀ x ∈ ls, ∀ v, x = some v → v ≤ B) : RL B ls :=
  ⟨g.pos, g.most, fun i j h => lifeAt_le g h, fun i v e => ⟨(g.at i v e).1, h _ (lifeAt_mem g.pos i) v e⟩⟩
theorem RL.mono {B B' : Int} {ls : List (Option Int)} (r : RL B ls) (h : B ≤ B') : RL B' ls := ⟨r.pos, r.most, r.up, fun i v e => ⟨(r.bd i v e).1, Int.le_trans (r.bd i v e).2 h⟩⟩
theorem RL.short {B : Int} {ls : List (Option Int)} (r : RL B ls) : RL B (short ls) := by
  refine ⟨short_len_pos r.pos, Nat.le_trans (short_len_le ls) r.most, fun i j h => ?_, fun i v e => ?_⟩
  · rw [lifeAt_short r.pos, lifeAt_short r.pos]
    exact r.up i j h
  · rw [lifeAt_short r.pos] at e
    exact r.bd i v e
theorem RL.good {B : Int} {ls : List (Option Int)} (r : RL B ls) (h : B ≤ 10 ^ 18) : Good (Rk.short ls) := good_reckoned r.pos r.most r.up fun i v e => ⟨(r.bd i v e).1, Int.le_trans (r.bd i v e).2 h⟩
theorem leO_minO (x g h : Option Int) : leO x (minO g h) = (leO x g && leO x h) := by
  unfold minO
  by_cases c : leO g h = true
  · rw [if_pos c]
    cases e : leO x g with
    | false => rfl
    | true => rw [leO_trans e c]; rfl
  · rw [if_neg c]
    have c2 := leO_not c
    cases e : leO x h with
    | false => rw [Bool.and_false]
    | true => rw [leO_trans e c2]; rfl
theorem leO_minO2 {g h g' h' : Option Int} (a : leO g g' = true) (b : leO h h' = true) : leO (minO g h) (minO g' h') = true := by
  rw [leO_minO, leO_trans minO_le a, leO_trans minO_le2 b]
  rfl
theorem leO_addO {u : Int} {x y : Option Int} (h : leO x y = true) : leO (addO u x) (addO u y) = true := by
  cases x with
  | none =>
    cases y with
    | none => rfl
    | some b => cases h
  | some a =>
    cases y with
    | none => rfl
    | some b =>
      have := of_decide_eq_true h
      exact decide_eq_true (by omega : a + u ≤ b + u)
theorem minO_some {g h : Option Int} {v : Int} (e : minO g h = some v) : g = some v ∨ h = some v := by
  unfold minO at e
  by_cases c : leO g h = true
  · rw [if_pos c] at e; exact .inl e
  · rw [if_neg c] at e; exact .inr e
theorem RL.chg {B : Int} {ls ms : List (Option Int)} (a : RL B ls) (b : RL B ms) {u : Int} (hu : 0 ≤ u) : RL (B + u) (chgL ls ms u) := by
  refine ⟨by rw [chgL_len]; have := a.pos; omega, by rw [chgL_len]; have := a.most; have := b.most; omega, fun i j h => ?_, fun i v e => ?_⟩
  · rw [lifeAt_chg a.pos b.pos, lifeAt_chg a.pos b.pos]
    exact leO_minO2 (b.up i j h) (leO_addO (a.up i j h))
  · rw [lifeAt_chg a.pos b.pos] at e
    rcases minO_some e with z | z
    · have := b.bd i v z
      omega
    · cases f : lifeAt ls i with
      | none => rw [f] at z; cases z
      | some w =>
        rw [f] at z
        have e2 : w + u = v := Option.some.inj z
        have := a.bd i w f
        omega
theorem keptB_chg0 {ls ms : List (Option Int)} (h0 : 0 < ls.length) (h1 : 0 < ms.length) (t n : Int) : keptB (chgL ls ms 0) t n = (keptB ms t n && keptB ls t n) := by
  unfold keptB
  rw [lifeAt_chg h0 h1, addO_0, leO_minO]
  cases decide (n ≤ t) <;> cases leO (some (t - n + 1)) (lifeAt ms (rkI n)) <;> rfl
theorem leO_shift {a u : Int} {x : Option Int} : leO (some a) (addO (u + 1) x) = leO (some (a - 1)) (addO u x) := by
  cases x with
  | none => rfl
  | some b =>
    show decide (a ≤ b + (u + 1)) = decide (a - 1 ≤ b + u)
    by_cases h : a ≤ b + (u + 1)
    · rw [decide_eq_true h, decide_eq_true (by omega)]
    · rw [decide_eq_false h, decide_eq_false (by omega)]
theorem keptB_step {ls ms : List (Option Int)} (h0 : 0 < ls.length) (h1 : 0 < ms.length) {t n u : Int} (hn : n ≤ t) : keptB (chgL ls ms (u + 1)) (t + 1) n = (keptB ms (t + 1) n && keptB (chgL ls ms u) t n) := by
  unfold keptB
  rw [lifeAt_chg h0 h1, lifeAt_chg h0 h1, leO_minO, leO_minO, leO_shift, decide_eq_true (show n ≤ t + 1 by omega), decide_eq_true hn, Bool.true_and, Bool.true_and, Bool.true_and]
  rw [show t + 1 - n + 1 - 1 = t - n + 1 by omega]
  cases e : leO (some (t + 1 - n + 1)) (lifeAt ms (rkI n)) with
  | false => rfl
  | true =>
    have q : leO (some (t - n + 1)) (lifeAt ms (rkI n)) = true := leO_low e (by omega)
    rw [q]
    rfl
theorem keptB_new {ls ms : List (Option Int)} (h0 : 0 < ls.length) (h1 : 0 < ms.length) (hb : ∀ i v, lifeAt ls i = some v → 0 ≤ v) {t u : Int} (hu : 0 ≤ u) : keptB (chgL ls ms (u + 1)) t t = keptB ms t t := by
  unfold keptB
  rw [lifeAt_chg h0 h1, leO_minO, decide_eq_true (Int.le_refl t), Bool.true_and, Bool.true_and]
  have q : leO (some (t - t + 1)) (addO (u + 1) (lifeAt ls (rkI t))) = true := by
    cases e : lifeAt ls (rkI t) with
    | none => rfl
    | some v =>
      have := hb _ v e
      exact decide_eq_true (by omega : t - t + 1 ≤ v + (u + 1))
  rw [q, Bool.and_true]
def kB (ms : List (Option Int)) (t : Nat) : Nat → Bool := fun n => keptB ms ((t : Nat) : Int) ((n : Nat) : Int)
theorem keptL_chg0 {ls ms : List (Option Int)} (h0 : 0 < ls.length) (h1 : 0 < ms.length) (t : Nat) : keptL (chgL ls ms 0) t = (keptL ls t).filter (kB ms t) := by
  unfold keptL kB
  rw [List.filter_filter]
  refine List.filter_congr fun n _ => ?_
  rw [keptB_chg0 h0 h1]
theorem keptL_step {ls ms : List (Option Int)} (h0 : 0 < ls.length) (h1 : 0 < ms.length) (hb : ∀ i v, lifeAt ls i = some v → 0 ≤ v) (t u : Nat) : keptL (chgL ls ms ((u : Nat) + 1 : Int)) (t + 1) = (keptL (chgL ls ms (u : Nat)) t ++ [t + 1]).filter (kB ms (t + 1)) := by
  unfold keptL
  rw [List.range_succ, List.filter_append, List.filter_append, List.filter_filter]
  congr 1
  · refine List.filter_congr fun n hn => ?_
    have hn' := List.mem_range.mp hn
    have q := keptB_step h0 h1 (t := (t : Int)) (n := ((n : Nat) : Int)) (u := (u : Int)) (by omega)
    unfold kB
    rw [show (((t + 1 : Nat)) : Int) = (t : Int) + 1 by omega]
    exact q
  · refine List.filter_congr fun n hn => ?_
    rw [List.mem_singleton.mp hn]
    exact keptB_new h0 h1 hb (by omega)
theorem dpN {K : PySem.W.Frag} {H : Hp} {a : Addr} {ns : List Nat} (h : SqL K H a (ns.map fun n => V.int ((n : Nat) : Int))) : Dp K H (.ref a) (.list ((ns.map fun n => ((n : Nat) : Int)).map PyData.int)) := by
  refine .lst (xs := ns.map fun n => V.int ((n : Nat) : Int)) h ?_
  have := dpAll_ints (K := K) (H := H) (ns.map fun n => ((n : Nat) : Int))
  rw [List.map_map] at this
  exact this
end Rk
namespace Rk
open PySem PySem.Spec PyProof.Rows L2 GenW

/-! ### how many points are kept, and how many of them in a range -/
theorem steps_mulN {lo hi s : Int} (hs : 0 < s) : ((stepsN (lo2 lo s) (hi + 1) s : Nat) : Int) = mulN lo hi s := by
  obtain ⟨w1, w2, w3⟩ := lo2_spec (lo := lo) hs
  generalize lo2 lo s = z at *
  have e : s * (z / s) = z := by have := Int.mul_ediv_add_emod z s; omega
  generalize z / s = k at *
  have e1 : (lo - 1) / s = k - 1 := by
    have e2 : lo - 1 = (lo - 1 - s * (k - 1)) + s * (k - 1) := by omega
    have e3 : s * (k - 1) = z - s := by rw [Int.mul_sub, e, Int.mul_one]
    rw [e2, Int.add_mul_ediv_left _ _ (by omega), Int.ediv_eq_zero_of_lt (by omega) (by omega), Int.zero_add]
  have e4 : hi / s = (hi - z) / s + k := by
    have e2 : hi = (hi - z) + s * k := by omega
    conv => lhs; rw [e2]
    rw [Int.add_mul_ediv_left _ _ (by omega)]
  unfold stepsN mulN
  rw [e1, e4]
  by_cases h : z < hi + 1
  · have h2 : ¬ lo > hi := by omega
    rw [if_pos h, if_neg h2, show hi + 1 - z - 1 = hi - z by omega]
    have := Int.ediv_nonneg (show 0 ≤ hi - z by omega) (show 0 ≤ s by omega)
    omega
  · rw [if_neg h]
    by_cases h2 : lo > hi
    · rw [if_pos h2]; rfl
    · rw [if_neg h2]
      have e5 : (hi - z) / s = -1 := by
        have e2 : hi - z = (hi - z + s) + s * (-1) := by omega
        rw [e2, Int.add_mul_ediv_left _ _ (by omega), Int.ediv_eq_zero_of_lt (by omega) (by omega), Int.zero_add]
      rw [e5]
      omega
def inR (low high : Int) : Int → Bool := fun x => decide (low ≤ x) && decide (x ≤ high)
theorem inR_iff {low high x : Int} : inR low high x = true ↔ low ≤ x ∧ x ≤ high := by
  unfold inR
  rw [Bool.and_eq_true, decide_eq_true_eq, decide_eq_true_eq]
theorem band_filter {b : Int × Int × Int} (hs : 0 < b.2.2) (low high : Int) : (bandPts b).filter (inR low high) = bandPts (max low b.1, min high b.2.1, b.2.2) := by
  refine up_ext (List.Pairwise.filter _ (bandPts_up hs)) (bandPts_up hs) fun x => ?_
  rw [List.mem_filter, bandPts_mem hs, bandPts_mem (b := (max low b.1, min high b.2.1, b.2.2)) hs, inR_iff]
  show _ ↔ max low b.1 ≤ x ∧ x ≤ min high b.2.1 ∧ x % b.2.2 = 0
  omega
theorem cntB_filter (low high t : Int) : ∀ (ls : List (Option Int)) (i : Nat) (hi : Int), ((((genL (bandsOf t i hi ls)).filter (inR low high)).length : Nat) : Int) = cntB low high t i hi ls
  | [], _, _ => rfl
  | l :: r, i, hi => by
    have p : (0 : Int) < 2 ^ i := Int.pow_pos (by decide)
    show ((((genL ((bandLo t l, hi, 2 ^ i) :: bandsOf t (i + 1) (bandLo t l - 1) r)).filter (inR low high)).length : Nat) : Int) = mulN (max low (bandLo t l)) (min high hi) (2 ^ i) + cntB low high t (i + 1) (bandLo t l - 1) r
    rw [genL_cons, List.filter_append, List.length_append, band_filter (b := (bandLo t l, hi, 2 ^ i)) p, bandPts_len, ← cntB_filter low high t r (i + 1) (bandLo t l - 1), ← steps_mulN p]
    show (((_ + stepsN (lo2 (max low (bandLo t l)) (2 ^ i)) (min high hi + 1) (2 ^ i) : Nat)) : Int) = _
    omega
theorem cnt_kept {ls : List (Option Int)} (g : Good ls) (t : Nat) (low high : Int) : cntB low high (t : Int) 0 (t : Int) ls = ((((keptL ls t).filter fun n => inR low high ((n : Nat) : Int)).length : Nat) : Int) := by
  rw [← cntB_filter, genL_kept g, List.filter_map, List.length_map]
  rfl
theorem cnt_all {ls : List (Option Int)} (g : Good ls) (t : Nat) : cntB 0 (t : Int) (t : Int) 0 (t : Int) ls = (((keptL ls t).length : Nat) : Int) := by
  rw [cnt_kept g, List.filter_eq_self.mpr]
  intro n hn
  have := (keptL_mem.mp hn).1
  exact inR_iff.mpr ⟨by omega, by omega⟩
end Rk
namespace Rk
open PySem PySem.Spec PyProof.Rows L2 GenW

/-! ### comprehensions whose items leave all as it was: [e(x) for x in .. if p(x)] -/
/-- one turn -/
def CoTurn (σ : L2.St) (vs : List Nat) (g : TG) (tt : TT) (te : TE) (H1 H' : Hp) (v : V) (b : Bool) (y : V) : Prop :=
  ∀ (N : V → Hp → Prop) (S : Hp → Prop), (b = true → ∀ H4, Same H' H4 → N y H4) → (b = false → ∀ H3, Same H' H3 → S H3) →
    g v (wipe σ vs) H' fun σ2 H2 => wipe σ2 vs = wipe σ vs ∧ tt σ2 H2 fun c H3 => if c = true then te σ2 H3 N else S H3
section
variable {α : Type} {f : α → V} {p : α → Bool} {e : α → V} {ks : List α} {g : TG} {tt : TT} {te : TE} {vs : List Nat} {σ : L2.St} {H1 : Hp} {D : Addr} {Qd : Hp → Prop}
def CoP (ks : List α) (p : α → Bool) (e : α → V) (H1 : Hp) (D : Addr) : Nat → Hp → Prop := fun j H' => Same H1 H' ∧ H' D = some (.lst (((ks.take j).filter p).map e))
theorem CoP.start (hD : H1 D = none) : CoP ks p e H1 D 0 (upd H1 D (.lst [])) := ⟨same_upd hD, upd_same⟩
theorem CoP.turn (hD : H1 D = none) (hl : ks.length < sizeLine) {j : Nat} {x : α} {H' : Hp} (hj : ks[j]? = some x) (hP : CoP ks p e H1 D j H') (ht : Same H1 H' → CoTurn σ vs g tt te H1 H' (f x) (p x) (e x)) :
    g (f x) (wipe σ vs) H' fun σ2 H2 => wipe σ2 vs = wipe σ vs ∧ tt σ2 H2 fun b H3 => if b = true then te σ2 H3 fun y H4 => ∃ acc, H4 D = some (.lst acc) ∧ acc.length < sizeLine ∧ CoP ks p e H1 D (j + 1) (upd H4 D (.lst (acc ++ [y]))) else CoP ks p e H1 D (j + 1) H3 := by
  obtain ⟨sm, eD⟩ := hP
  have et : ks.take (j + 1) = ks.take j ++ [x] := by rw [List.take_add_one, hj]; rfl
  have hlt : j < ks.length := by
    by_cases z : j < ks.length
    · exact z
    · rw [List.getElem?_eq_none (by omega)] at hj; cases hj
  refine ht sm _ _ (fun hb H4 s4 => ⟨_, s4 _ _ eD, ?_, fun b o z => ?_, ?_⟩) (fun hb H3 s3 => ⟨sm.trans s3, ?_⟩)
  · refine Nat.lt_of_le_of_lt ?_ hl
    rw [List.length_map]
    exact Nat.le_trans (List.length_filter_le _ _) (by rw [List.length_take]; omega)
  · rw [upd_ne (ne_of_none z hD)]
    exact s4 b o (sm b o z)
  · rw [upd_same, et, List.filter_append, filter_yes p hb, List.map_append]
    rfl
  · rw [s3 _ _ eD, et, List.filter_append, filter_no p hb, List.append_nil]
theorem lc_genL {K : PySem.W.Frag} {a : Addr} (hD : H1 D = none) (hx : SqL K H1 a (ks.map f)) (hl : ks.length < sizeLine) (hs : ∀ x H', x ∈ ks → Same H1 H' → CoTurn σ vs g tt te H1 H' (f x) (p x) (e x)) (hd : ∀ H', Same H1 H' → H' D = some (.lst ((ks.filter p).map e)) → Qd H') :
    ∃ W : Nat → Nat → Hp → Prop, (∃ m, W 0 m (upd H1 D (.lst []))) ∧ ∀ i m H, W i m H → ((Itl K a).stop i H ∧ Qd H) ∨ ((Itl K a).go i H ∧ ∃ Nx : Hp → Prop, (∀ H', Nx H' → ∃ m', m' < m ∧ W (i + 1) m' H') ∧ ∀ x H', (Itl K a).yld i H x H' → g x (wipe σ vs) H' fun σ2 H2 => wipe σ2 vs = wipe σ vs ∧ tt σ2 H2 fun b H3 => if b = true then te σ2 H3 fun y H4 => ∃ acc, H4 D = some (.lst acc) ∧ acc.length < sizeLine ∧ Nx (upd H4 D (.lst (acc ++ [y]))) else Nx H3) := by
  refine lc_list (xs := ks.map f) (CoP ks p e H1 D) (CoP.start hD) (fun i H' _ z => z.1.seq hx) (fun i x H' hi hP => ?_) (fun H' hP => ?_)
  · obtain ⟨n, hn, rfl⟩ := map_at hi
    exact CoP.turn hD hl hn hP fun s => hs n H' (List.mem_of_getElem? hn) s
  · obtain ⟨s, z⟩ := hP
    rw [List.length_map, List.take_length] at z
    exact hd H' s z
theorem lc_genT {K : PySem.W.Frag} {a : Addr} (hD : H1 D = none) (hx : SqT K H1 a (ks.map f)) (hl : ks.length < sizeLine) (hs : ∀ x H', x ∈ ks → Same H1 H' → CoTurn σ vs g tt te H1 H' (f x) (p x) (e x)) (hd : ∀ H', Same H1 H' → H' D = some (.lst ((ks.filter p).map e)) → Qd H') :
    ∃ W : Nat → Nat → Hp → Prop, (∃ m, W 0 m (upd H1 D (.lst []))) ∧ ∀ i m H, W i m H → ((Itt K a).stop i H ∧ Qd H) ∨ ((Itt K a).go i H ∧ ∃ Nx : Hp → Prop, (∀ H', Nx H' → ∃ m', m' < m ∧ W (i + 1) m' H') ∧ ∀ x H', (Itt K a).yld i H x H' → g x (wipe σ vs) H' fun σ2 H2 => wipe σ2 vs = wipe σ vs ∧ tt σ2 H2 fun b H3 => if b = true then te σ2 H3 fun y H4 => ∃ acc, H4 D = some (.lst acc) ∧ acc.length < sizeLine ∧ Nx (upd H4 D (.lst (acc ++ [y]))) else Nx H3) := by
  refine lc_tup (xs := ks.map f) (CoP ks p e H1 D) (CoP.start hD) (fun i H' _ z => SqT.same z.1 hx) (fun i x H' hi hP => ?_) (fun H' hP => ?_)
  · obtain ⟨n, hn, rfl⟩ := map_at hi
    exact CoP.turn hD hl hn hP fun s => hs n H' (List.mem_of_getElem? hn) s
  · obtain ⟨s, z⟩ := hP
    rw [List.length_map, List.take_length] at z
    exact hd H' s z
end
/-- over a range: the items lo, lo + 1, .. -/
theorem lc_genR {lo : Int} {n : Nat} {p : Nat → Bool} {e : Nat → V} {g : TG} {tt : TT} {te : TE} {vs : List Nat} {σ : L2.St} {H1 : Hp} {D : Addr} {Qd : Hp → Prop} (hD : H1 D = none) (hl : n < sizeLine) (hs : ∀ x H', x < n → Same H1 H' → CoTurn σ vs g tt te H1 H' (.int (lo + (x : Int))) (p x) (e x))
    (hd : ∀ H', Same H1 H' → H' D = some (.lst (((List.range n).filter p).map e)) → Qd H') :
    ∃ W : Nat → Nat → Hp → Prop, (∃ m, W 0 m (upd H1 D (.lst []))) ∧ ∀ i m H, W i m H → ((Itr lo n).stop i H ∧ Qd H) ∨ ((Itr lo n).go i H ∧ ∃ Nx : Hp → Prop, (∀ H', Nx H' → ∃ m', m' < m ∧ W (i + 1) m' H') ∧ ∀ x H', (Itr lo n).yld i H x H' → g x (wipe σ vs) H' fun σ2 H2 => wipe σ2 vs = wipe σ vs ∧ tt σ2 H2 fun b H3 => if b = true then te σ2 H3 fun y H4 => ∃ acc, H4 D = some (.lst acc) ∧ acc.length < sizeLine ∧ Nx (upd H4 D (.lst (acc ++ [y]))) else Nx H3) := by
  refine lc_range (CoP (List.range n) p e H1 D) (CoP.start hD) (fun i H' hi hP => ?_) (fun H' hP => ?_)
  · exact CoP.turn (f := fun x => .int (lo + (x : Nat))) hD (by rw [List.length_range]; exact hl) (List.getElem?_range hi) hP fun s => hs i H' hi s
  · obtain ⟨s, z⟩ := hP
    rw [List.take_of_length_le (by rw [List.length_range]; exact Nat.le_refl _)] at z
    exact hd H' s z
theorem filter_true {α : Type} (xs : List α) : xs.filter (fun _ => true) = xs := List.filter_eq_self.mpr fun _ _ => rfl
theorem all_rep {n : Nat} : ((List.range n).map fun _ => V.bl true) = (List.replicate n true).map V.bl := by
  rw [List.map_replicate]
  refine List.ext_getElem (by simp) fun i h1 h2 => ?_
  simp
theorem rep_all (n : Nat) : (List.replicate n true).all _root_.id = true := by simp
end Rk
namespace Rk
open PySem PySem.Spec PyProof.Rows L2 GenW

/-! ### the points whose life ends at a tick -/
theorem lifeAt_least {ls : List (Option Int)} (h0 : 0 < ls.length) (z : Nat) : lifeAt ls (min z (ls.length - 1)) = lifeAt ls z := by
  by_cases c : z < ls.length
  · rw [show min z (ls.length - 1) = z by omega]
  · rw [show min z (ls.length - 1) = ls.length - 1 by omega, lifeAt_const h0 z (by omega)]
def goneAt (ls : List (Option Int)) (T : Int) (z : Nat) : Option Int := match lifeAt ls z with
  | none => none
  | some v => if v = 0 then none else if 0 ≤ T - v ∧ min (rkI (T - v)) (ls.length - 1) = z then some (T - v) else none
def goneL (ls : List (Option Int)) (T : Int) (n : Nat) : List Int := (List.range n).filterMap (goneAt ls T)
theorem goneAt_some {ls : List (Option Int)} {T p : Int} {z : Nat} (h : goneAt ls T z = some p) : ∃ v, lifeAt ls z = some v ∧ v ≠ 0 ∧ p = T - v ∧ 0 ≤ p ∧ min (rkI p) (ls.length - 1) = z := by
  unfold goneAt at h
  cases e : lifeAt ls z with
  | none => rw [e] at h; cases h
  | some v =>
    rw [e] at h
    replace h : (if v = 0 then none else if 0 ≤ T - v ∧ min (rkI (T - v)) (ls.length - 1) = z then some (T - v) else none) = some p := h
    by_cases c : v = 0
    · rw [if_pos c] at h; cases h
    · rw [if_neg c] at h
      by_cases d : 0 ≤ T - v ∧ min (rkI (T - v)) (ls.length - 1) = z
      · rw [if_pos d] at h
        have := Option.some.inj h
        subst this
        exact ⟨v, rfl, c, rfl, d.1, d.2⟩
      · rw [if_neg d] at h; cases h
theorem goneL_mem {ls : List (Option Int)} (h0 : 0 < ls.length) {T p : Int} : p ∈ goneL ls T ls.length ↔ 0 ≤ p ∧ ∃ v, lifeAt ls (rkI p) = some v ∧ v ≠ 0 ∧ p = T - v := by
  unfold goneL
  rw [List.mem_filterMap]
  constructor
  · rintro ⟨z, hz, e⟩
    obtain ⟨v, h1, h2, h3, h4, h5⟩ := goneAt_some e
    refine ⟨h4, v, ?_, h2, h3⟩
    rw [← h1, ← h5, lifeAt_least h0]
  · rintro ⟨h4, v, h1, h2, h3⟩
    refine ⟨min (rkI p) (ls.length - 1), List.mem_range.mpr (by omega), ?_⟩
    unfold goneAt
    rw [lifeAt_least h0, h1]
    show (if v = 0 then none else if 0 ≤ T - v ∧ min (rkI (T - v)) (ls.length - 1) = min (rkI p) (ls.length - 1) then some (T - v) else none) = some p
    rw [if_neg h2, if_pos ⟨by omega, by rw [← h3]⟩, h3]
theorem goneL_up {ls : List (Option Int)} (g : Good ls) {T : Int} : Up (goneL ls T ls.length).reverse := by
  unfold Up
  rw [List.pairwise_reverse]
  unfold goneL
  rw [List.pairwise_filterMap]
  refine List.Pairwise.imp_of_mem ?_ List.pairwise_lt_range
  intro z1 z2 hz1 hz2 hlt p1 e1 p2 e2
  obtain ⟨v1, a1, a2, a3, a4, a5⟩ := goneAt_some e1
  obtain ⟨v2, b1, b2, b3, b4, b5⟩ := goneAt_some e2
  have le := lifeAt_le g (Nat.le_of_lt hlt)
  rw [a1, b1] at le
  have := of_decide_eq_true le
  by_cases c : p1 = p2
  · subst c
    omega
  · omega
theorem filter_split {α : Type} (a b c : α → Bool) : ∀ L : List α, (∀ x ∈ L, a x = (b x || c x) ∧ (b x && c x) = false) → (L.filter a).length = (L.filter b).length + (L.filter c).length
  | [], _ => rfl
  | x :: r, h => by
    have ih := filter_split a b c r fun y hy => h y (List.mem_cons_of_mem _ hy)
    obtain ⟨h1, h2⟩ := h x (List.mem_cons_self ..)
    rw [List.filter_cons, List.filter_cons, List.filter_cons, h1]
    cases eb : b x <;> cases ec : c x <;> simp_all <;> omega
/-- a point is young enough for one tick more unless it is gone then -/
theorem kept_next {ls : List (Option Int)} (h0 : 0 < ls.length) (t n : Nat) (hn : n ≤ t) : keptB ls (t : Int) (n : Int) = (keptB ls ((t : Int) + 1) (n : Int) || decide (lifeAt ls (rkI (n : Int)) = some ((t : Int) + 1 - n))) ∧ (keptB ls ((t : Int) + 1) (n : Int) && decide (lifeAt ls (rkI (n : Int)) = some ((t : Int) + 1 - n))) = false := by
  unfold keptB
  rw [decide_eq_true (show (n : Int) ≤ t by omega), decide_eq_true (show (n : Int) ≤ (t : Int) + 1 by omega), Bool.true_and, Bool.true_and]
  cases lifeAt ls (rkI (n : Int)) with
  | none => exact ⟨rfl, rfl⟩
  | some v =>
    have e : decide (some v = some ((t : Int) + 1 - n)) = decide (v = (t : Int) + 1 - n) := by
      by_cases c : v = (t : Int) + 1 - n
      · rw [c]; simp
      · rw [decide_eq_false c, decide_eq_false (fun z => c (Option.some.inj z))]
    rw [e]
    show decide ((t : Int) - n + 1 ≤ v) = (decide ((t : Int) + 1 - n + 1 ≤ v) || decide (v = (t : Int) + 1 - n)) ∧ (decide ((t : Int) + 1 - n + 1 ≤ v) && decide (v = (t : Int) + 1 - n)) = false
    by_cases c : v = (t : Int) + 1 - n
    · rw [decide_eq_true c, decide_eq_false (show ¬ (t : Int) + 1 - n + 1 ≤ v by omega), decide_eq_true (show (t : Int) - n + 1 ≤ v by omega)]
      exact ⟨rfl, rfl⟩
    · rw [decide_eq_false c, Bool.or_false, Bool.and_false]
      refine ⟨?_, rfl⟩
      by_cases d : (t : Int) - n + 1 ≤ v
      · rw [decide_eq_true d, decide_eq_true (by omega)]
      · rw [decide_eq_false d, decide_eq_false (by omega)]
theorem gone_filter {ls : List (Option Int)} (g : Good ls) (t : Nat) : (((List.range (t + 1)).filter fun n => decide (lifeAt ls (rkI ((n : Nat) : Int)) = some ((t : Int) + 1 - n))).map fun n => ((n : Nat) : Int)) = (goneL ls ((t : Int) + 1) ls.length).reverse := by
  refine up_ext ?_ (goneL_up g) fun x => ?_
  · unfold Up
    rw [List.pairwise_map]
    exact List.Pairwise.imp (fun h => by omega) (List.Pairwise.filter _ List.pairwise_lt_range)
  · rw [List.mem_reverse, goneL_mem g.pos, List.mem_map]
    constructor
    · rintro ⟨n, hn, rfl⟩
      obtain ⟨h1, h2⟩ := List.mem_filter.mp hn
      have h3 := List.mem_range.mp h1
      have h4 := of_decide_eq_true h2
      exact ⟨by omega, _, h4, by omega, by omega⟩
    · rintro ⟨h0, v, h1, h2, h3⟩
      have hv := g.at _ _ h1
      refine ⟨x.toNat, List.mem_filter.mpr ⟨List.mem_range.mpr (by omega), decide_eq_true ?_⟩, by omega⟩
      rw [show ((x.toNat : Nat) : Int) = x by omega, h1]
      congr 1
      omega
theorem count_next {ls : List (Option Int)} (g : Good ls) (t : Nat) : ((keptL ls (t + 1)).length : Int) = (keptL ls t).length + (if keptB ls ((t : Int) + 1) ((t : Int) + 1) = true then 1 else 0) - (goneL ls ((t : Int) + 1) ls.length).length := by
  have h1 := filter_split (fun n => keptB ls (t : Int) ((n : Nat) : Int)) (fun n => keptB ls ((t : Int) + 1) ((n : Nat) : Int)) (fun n => decide (lifeAt ls (rkI ((n : Nat) : Int)) = some ((t : Int) + 1 - n))) (List.range (t + 1)) (fun n hn => kept_next g.pos t n (by have := List.mem_range.mp hn; omega))
  have h2 := congrArg List.length (gone_filter g t)
  rw [List.length_map, List.length_reverse] at h2
  rw [h2] at h1
  have h3 : keptL ls (t + 1) = ((List.range (t + 1)).filter fun n => keptB ls ((t : Int) + 1) ((n : Nat) : Int)) ++ ([t + 1].filter fun n => keptB ls ((t : Int) + 1) ((n : Nat) : Int)) := by
    unfold keptL
    rw [List.range_succ, List.filter_append]
    rfl
  have h4 : (([t + 1].filter fun n => keptB ls ((t : Int) + 1) ((n : Nat) : Int)).length : Int) = if keptB ls ((t : Int) + 1) ((t : Int) + 1) = true then 1 else 0 := by
    rw [show ((t : Int) + 1) = (((t + 1 : Nat)) : Int) by omega]
    cases e : keptB ls (((t + 1 : Nat)) : Int) (((t + 1 : Nat)) : Int) with
    | true => rw [filter_yes (fun n : Nat => keptB ls (((t + 1 : Nat)) : Int) ((n : Nat) : Int)) e]; rfl
    | false => rw [filter_no (fun n : Nat => keptB ls (((t + 1 : Nat)) : Int) ((n : Nat) : Int)) e]; rfl
  rw [h3, List.length_append]
  unfold keptL
  omega
theorem Kept_next {ls : List (Option Int)} (g : Good ls) {t : Nat} {p : Int} (hp : p ≤ t) : Kept ls ((t : Int) + 1) p ↔ Kept ls (t : Int) p ∧ p ∉ goneL ls ((t : Int) + 1) ls.length := by
  by_cases h0 : 0 ≤ p
  · obtain ⟨n, rfl⟩ := Int.eq_ofNat_of_zero_le h0
    obtain ⟨k1, k2⟩ := kept_next g.pos t n (by omega)
    rw [← keptB_iff h0, ← keptB_iff h0, goneL_mem g.pos, k1]
    constructor
    · intro h
      rw [h, Bool.true_or]
      refine ⟨rfl, ?_⟩
      rintro ⟨_, v, h1, h2, h3⟩
      rw [h, Bool.true_and, h1] at k2
      exact absurd (of_decide_eq_false k2) (fun z => z (by congr 1; omega))
    · rintro ⟨h, h2⟩
      cases e : keptB ls ((t : Int) + 1) (n : Int) with
      | true => rfl
      | false =>
        rw [e, Bool.false_or] at h
        have h3 := of_decide_eq_true h
        exact absurd ⟨h0, _, h3, by omega, by omega⟩ h2
  · exact ⟨fun h => absurd h.1 h0, fun h => absurd h.1.1 h0⟩
/-- what the search down the points leaves -/
theorem rpO_next {ls : List (Option Int)} (g : Good ls) {t : Nat} {e e' : Int} (he : e ≤ t) (he' : e' ≤ e) (hg : ∀ p, Kept ls (t : Int) p → p ≤ e → e' < p → p ∈ goneL ls ((t : Int) + 1) ls.length)
    (hx : ∀ p, rpO ls (t : Int) e' = some p → p ∉ goneL ls ((t : Int) + 1) ls.length) : rpO ls ((t : Int) + 1) e = rpO ls (t : Int) e' := by
  obtain ⟨s1, s2⟩ := rpO_spec g (t := (t : Int)) (by omega) e'
  cases er : rpO ls (t : Int) e' with
  | none =>
    refine rpO_none g (by omega) fun n hn hne => ?_
    have k := (Kept_next g (by omega)).mp hn
    by_cases c : e' < n
    · exact k.2 (hg n k.1 hne c)
    · exact s2 er n k.1 (by omega)
  | some p =>
    obtain ⟨a1, a2, a3⟩ := s1 p er
    refine rpO_some g (by omega) ((Kept_next g (by omega)).mpr ⟨a1, hx p er⟩) (by omega) fun n hn hne => ?_
    have k := (Kept_next g (by omega)).mp hn
    by_cases c : e' < n
    · exact absurd (hg n k.1 hne c) k.2
    · exact a3 n k.1 (by omega)
theorem gone_kept {ls : List (Option Int)} (g : Good ls) {t : Nat} {p : Int} (h : p ∈ goneL ls ((t : Int) + 1) ls.length) : 0 ≤ p ∧ p ≤ t ∧ keptB ls (t : Int) p = true ∧ keptB ls ((t : Int) + 1) p = false := by
  obtain ⟨h0, v, h1, h2, h3⟩ := (goneL_mem g.pos).mp h
  have hv := g.at _ _ h1
  have hp : p ≤ t := by omega
  refine ⟨h0, hp, ?_, ?_⟩
  · unfold keptB
    rw [decide_eq_true hp, h1]
    exact decide_eq_true (by omega : (t : Int) - p + 1 ≤ v)
  · unfold keptB
    rw [decide_eq_true (show p ≤ (t : Int) + 1 by omega), h1]
    exact decide_eq_false (by omega : ¬ (t : Int) + 1 - p + 1 ≤ v)
theorem any_none {α : Type} (xs : List α) : (xs.map fun _ => false).any _root_.id = false := by
  induction xs with
  | nil => rfl
  | cons x r ih => rw [List.map_cons, List.any_cons, ih]; rfl
theorem goneL_len (ls : List (Option Int)) (T : Int) (n : Nat) : (goneL ls T n).length ≤ n := by
  have := List.length_filterMap_le (goneAt ls T) (List.range n)
  rw [List.length_range] at this
  exact this
end Rk
namespace Rk
open PySem PySem.Spec PyProof.Rows L2 GenW

/-! ### the greatest count: what depends on the end of a late tick -/
/-- 1 if there is one point more between two lives -/
def gn (g : Nat → Int) (j : Nat) (x : Int) : Int := if (x - g (j - 1)) % 2 ^ j < (g j - g (j - 1)) % 2 ^ j then 1 else 0
theorem carry {A B s : Int} (hs : 0 < s) : (if (A + B) % s < B % s then (1 : Int) else 0) = (A + B) / s - A / s - B / s := by
  have ea := Int.emod_add_mul_ediv A s
  have eb := Int.emod_add_mul_ediv B s
  have ec := Int.emod_add_mul_ediv (A + B) s
  have a0 := Int.emod_nonneg A (show s ≠ 0 by omega)
  have a1 := Int.emod_lt_of_pos A hs
  have b0 := Int.emod_nonneg B (show s ≠ 0 by omega)
  have b1 := Int.emod_lt_of_pos B hs
  have c0 := Int.emod_nonneg (A + B) (show s ≠ 0 by omega)
  have c1 := Int.emod_lt_of_pos (A + B) hs
  generalize A % s = ra at *
  generalize B % s = rb at *
  generalize (A + B) % s = rc at *
  generalize A / s = qa at *
  generalize B / s = qb at *
  generalize (A + B) / s = qc at *
  have e : s * (qc - qa - qb) = ra + rb - rc := by
    rw [Int.mul_sub, Int.mul_sub]
    omega
  generalize hd : qc - qa - qb = d at *
  have d0 : 0 ≤ d := by
    rcases Int.lt_or_le d 0 with z | z
    · have := Int.mul_le_mul_of_nonneg_left (show d ≤ -1 by omega) (show 0 ≤ s by omega)
      omega
    · exact z
  have d1 : d ≤ 1 := by
    rcases Int.lt_or_le 1 d with z | z
    · have := Int.mul_le_mul_of_nonneg_left (show 2 ≤ d by omega) (show 0 ≤ s by omega)
      omega
    · exact z
  have h : d = 0 ∨ d = 1 := by omega
  rcases h with rfl | rfl
  · rw [Int.mul_zero] at e
    rw [if_neg (by omega)]
  · rw [Int.mul_one] at e
    rw [if_pos (by omega)]
theorem gn_floor (g : Nat → Int) (j : Nat) (x : Int) : gn g j x = (x - g (j - 1)) / 2 ^ j - (x - g j) / 2 ^ j - (g j - g (j - 1)) / 2 ^ j := by
  have h := carry (A := x - g j) (B := g j - g (j - 1)) (pow2_pos j)
  rw [show x - g j + (g j - g (j - 1)) = x - g (j - 1) by omega] at h
  exact h
theorem pow_split {j k : Nat} (h : j ≤ k) : (2 : Int) ^ k = 2 ^ j * 2 ^ (k - j) := by rw [← Int.pow_add, show j + (k - j) = k by omega]
theorem emod_far {j k : Nat} (h : j ≤ k) (x a m : Int) : (x + m * 2 ^ k - a) % 2 ^ j = (x - a) % 2 ^ j := by
  rw [pow_split h, show x + m * (2 ^ j * 2 ^ (k - j)) - a = x - a + 2 ^ j * (m * 2 ^ (k - j)) by rw [Int.mul_left_comm]; omega]
  exact Int.add_mul_emod_self_left _ _ _
theorem gn_far {g : Nat → Int} {j k : Nat} (h : j ≤ k) (x m : Int) : gn g j (x + m * 2 ^ k) = gn g j x := by
  unfold gn
  rw [emod_far h]
def GG (g : Nat → Int) : Nat → Int → Int
  | 0, _ => 0
  | j + 1, x => GG g j x + gn g (j + 1) x
theorem GG_far {g : Nat → Int} {k : Nat} (x m : Int) : ∀ j, j ≤ k → GG g j (x + m * 2 ^ k) = GG g j x
  | 0, _ => rfl
  | j + 1, h => by
    show GG g j _ + gn g (j + 1) _ = GG g j x + gn g (j + 1) x
    rw [GG_far x m j (by omega), gn_far h]
theorem GG_mod {g : Nat → Int} {k : Nat} (x : Int) : GG g k (x % 2 ^ k) = GG g k x := by
  have e := Int.emod_add_mul_ediv x (2 ^ k)
  have h := GG_far (g := g) (k := k) (x % 2 ^ k) (x / 2 ^ k) k (Nat.le_refl _)
  rw [Int.mul_comm, e] at h
  exact h.symm
theorem gn_01 (g : Nat → Int) (j : Nat) (x : Int) : 0 ≤ gn g j x ∧ gn g j x ≤ 1 := by
  unfold gn
  split <;> decide
theorem GG_bd (g : Nat → Int) (x : Int) : ∀ j, 0 ≤ GG g j x ∧ GG g j x ≤ (j : Int)
  | 0 => ⟨Int.le_refl _, Int.le_refl _⟩
  | j + 1 => by
    have ih := GG_bd g x j
    have h := gn_01 g (j + 1) x
    show 0 ≤ GG g j x + gn g (j + 1) x ∧ GG g j x + gn g (j + 1) x ≤ ((j + 1 : Nat) : Int)
    omega

/-! #### where an end stands -/
theorem small_div {a s : Int} (hs : 0 < s) (h0 : -s ≤ a) (h1 : a < s) : a / s = if 0 ≤ a then 0 else -1 := by
  by_cases h : 0 ≤ a
  · rw [if_pos h]
    exact Int.ediv_eq_zero_of_lt h h1
  · rw [if_neg h]
    have e := Int.emod_add_mul_ediv a s
    have a0 := Int.emod_nonneg a (show s ≠ 0 by omega)
    have a1 := Int.emod_lt_of_pos a hs
    generalize a / s = q at *
    have q0 : q ≤ -1 := by
      rcases Int.lt_or_le q 0 with z | z
      · omega
      · have := Int.mul_nonneg (show 0 ≤ s by omega) z
        omega
    have q1 : -1 ≤ q := by
      rcases Int.lt_or_le q (-1) with z | z
      · have := Int.mul_le_mul_of_nonneg_left (show q ≤ -2 by omega) (show 0 ≤ s by omega)
        omega
      · exact z
    omega
theorem div_at {e L s b : Int} (hs : 0 < s) (h0 : 0 ≤ e) (h1 : e < s) : (e + b * s - L) / s = (if L % s ≤ e then 0 else -1) + (b - L / s) := by
  have eL := Int.emod_add_mul_ediv L s
  have l0 := Int.emod_nonneg L (show s ≠ 0 by omega)
  have l1 := Int.emod_lt_of_pos L hs
  have e1 : e + b * s - L = (e - L % s) + s * (b - L / s) := by
    rw [Int.mul_sub, Int.mul_comm b]
    omega
  rw [e1, Int.add_mul_ediv_left _ _ (show s ≠ 0 by omega), small_div hs (by omega) (by omega)]
  congr 1
  by_cases h : L % s ≤ e
  · rw [if_pos h, if_pos (by omega)]
  · rw [if_neg h, if_neg (by omega)]
theorem same_div {m j : Nat} (h : m ≤ j) {e1 e2 L b : Int} (a0 : 0 ≤ e1) (a1 : e1 < 2 ^ m) (b0 : 0 ≤ e2) (b1 : e2 < 2 ^ m) (hL : L % 2 ^ m ≤ e1 ↔ L % 2 ^ m ≤ e2) : (e1 + b * 2 ^ m - L) / 2 ^ j = (e2 + b * 2 ^ m - L) / 2 ^ j := by
  have p := pow2_pos m
  rw [pow_split h, ← Int.ediv_ediv_of_nonneg (Int.le_of_lt p), ← Int.ediv_ediv_of_nonneg (Int.le_of_lt p), div_at p a0 a1, div_at p b0 b1]
  congr 2
  by_cases c : L % 2 ^ m ≤ e1
  · rw [if_pos c, if_pos (hL.mp c)]
  · rw [if_neg c, if_neg (fun z => c (hL.mpr z))]
def pl (is : List Int) (m : Nat) (x : Int) : Nat := ((is.drop m).filter fun L => decide (L % 2 ^ m ≤ x)).length
theorem filter_same {α : Type} (p q : α → Bool) : ∀ l : List α, (∀ x ∈ l, p x = true → q x = true) → (l.filter p).length = (l.filter q).length → ∀ x ∈ l, p x = q x
  | [], _, _ => fun x hx => nomatch hx
  | a :: r, h, e => by
    have hr : ∀ x ∈ r, p x = true → q x = true := fun x hx => h x (List.mem_cons_of_mem _ hx)
    have le : (r.filter p).length ≤ (r.filter q).length := by
      clear e h
      induction r with
      | nil => exact Nat.le_refl _
      | cons b t ih =>
        have ih := ih fun x hx => hr x (List.mem_cons_of_mem _ hx)
        rw [List.filter_cons, List.filter_cons]
        by_cases c : p b = true
        · rw [if_pos c, if_pos (hr b List.mem_cons_self c), List.length_cons, List.length_cons]
          omega
        · rw [if_neg c]
          by_cases d : q b = true
          · rw [if_pos d, List.length_cons]
            omega
          · rw [if_neg d]
            exact ih
    rw [List.filter_cons, List.filter_cons] at e
    by_cases c : p a = true
    · have d := h a List.mem_cons_self c
      rw [if_pos c, if_pos d, List.length_cons, List.length_cons] at e
      have ih := filter_same p q r hr (by omega)
      intro x hx
      rcases List.mem_cons.mp hx with rfl | hx
      · rw [c, d]
      · exact ih x hx
    · rw [if_neg c] at e
      by_cases d : q a = true
      · rw [if_pos d, List.length_cons] at e
        omega
      · rw [if_neg d] at e
        have ih := filter_same p q r hr e
        intro x hx
        rcases List.mem_cons.mp hx with rfl | hx
        · cases h1 : p x <;> cases h2 : q x <;> first | rfl | exact absurd h1 c | exact absurd h2 d
        · exact ih x hx
theorem pl_same {is : List Int} {m : Nat} {e1 e2 : Int} (h : pl is m e1 = pl is m e2) : ∀ L ∈ is.drop m, (L % 2 ^ m ≤ e1 ↔ L % 2 ^ m ≤ e2) := by
  intro L hL
  rcases Int.le_total e1 e2 with c | c
  · have q := filter_same (fun L => decide (L % 2 ^ m ≤ e1)) (fun L => decide (L % 2 ^ m ≤ e2)) (is.drop m) (fun x _ z => decide_eq_true (Int.le_trans (of_decide_eq_true z) c)) h L hL
    exact decide_eq_decide.mp q
  · have q := filter_same (fun L => decide (L % 2 ^ m ≤ e2)) (fun L => decide (L % 2 ^ m ≤ e1)) (is.drop m) (fun x _ z => decide_eq_true (Int.le_trans (of_decide_eq_true z) c)) h.symm L hL
    exact (decide_eq_decide.mp q).symm
theorem drop_mem {is : List Int} {m i : Nat} (h : m ≤ i) (hi : i < is.length) : getI is i ∈ is.drop m := by
  have e := List.getElem?_eq_getElem hi
  rw [getI_at e]
  refine List.mem_of_getElem? (i := i - m) ?_
  rw [List.getElem?_drop, show m + (i - m) = i by omega, e]
theorem drop_sub {is : List Int} {m : Nat} {L : Int} (h : L ∈ is.drop (m + 1)) : L ∈ is.drop m := by
  rw [← List.drop_drop] at h
  exact List.mem_of_mem_drop h
/-- ends in the same place have the same gains, and stand in the same place, from then on -/
theorem same_next {is : List Int} {m : Nat} (hm : m + 1 < is.length) {e1 e2 b : Int} (a0 : 0 ≤ e1) (a1 : e1 < 2 ^ m) (b0 : 0 ≤ e2) (b1 : e2 < 2 ^ m) (hb : b = 0 ∨ b = 1) (h : pl is m e1 = pl is m e2) :
    gn (getI is) (m + 1) (e1 + b * 2 ^ m) = gn (getI is) (m + 1) (e2 + b * 2 ^ m) ∧ pl is (m + 1) (e1 + b * 2 ^ m) = pl is (m + 1) (e2 + b * 2 ^ m) := by
  have q := pl_same h
  have p := pow2_pos m
  have e2m : (2 : Int) ^ (m + 1) = 2 * 2 ^ m := by rw [Int.pow_succ, Int.mul_comm]
  have dv : ∀ L ∈ is.drop m, (e1 + b * 2 ^ m - L) / 2 ^ (m + 1) = (e2 + b * 2 ^ m - L) / 2 ^ (m + 1) := fun L hL => same_div (Nat.le_succ m) a0 a1 b0 b1 (q L hL)
  constructor
  · rw [gn_floor, gn_floor, dv _ (drop_mem (Nat.le_succ m) hm), show m + 1 - 1 = m from rfl, dv _ (drop_mem (Nat.le_refl m) (by omega))]
  · unfold pl
    congr 1
    refine List.filter_congr fun L hL => ?_
    have d := dv L (drop_sub hL)
    have r1 : 0 ≤ e1 + b * 2 ^ m ∧ e1 + b * 2 ^ m < 2 ^ (m + 1) := by rw [e2m]; rcases hb with rfl | rfl <;> omega
    have r2 : 0 ≤ e2 + b * 2 ^ m ∧ e2 + b * 2 ^ m < 2 ^ (m + 1) := by rw [e2m]; rcases hb with rfl | rfl <;> omega
    have d1 := div_at (L := L) (b := 0) (pow2_pos (m + 1)) r1.1 r1.2
    have d2 := div_at (L := L) (b := 0) (pow2_pos (m + 1)) r2.1 r2.2
    rw [Int.zero_mul, Int.add_zero] at d1 d2
    rw [d, d2] at d1
    refine decide_eq_decide.mpr ?_
    by_cases c1 : L % 2 ^ (m + 1) ≤ e1 + b * 2 ^ m
    · by_cases c2 : L % 2 ^ (m + 1) ≤ e2 + b * 2 ^ m
      · exact ⟨fun _ => c2, fun _ => c1⟩
      · rw [if_pos c1, if_neg c2] at d1
        omega
    · by_cases c2 : L % 2 ^ (m + 1) ≤ e2 + b * 2 ^ m
      · rw [if_neg c1, if_pos c2] at d1
        omega
      · exact ⟨fun z => absurd z c1, fun z => absurd z c2⟩

/-! #### the search -/
structure Snd (is : List Int) (m : Nat) (e : Int × Int) : Prop where
  lo : 0 ≤ e.2
  hi : e.2 < 2 ^ m
  tot : e.1 = GG (getI is) m e.2
def Cmp (is : List Int) (m : Nat) (es : List (Int × Int)) : Prop := ∀ x, 0 ≤ x → x < 2 ^ m → ∃ e ∈ es, pl is m e.2 = pl is m x ∧ GG (getI is) m x ≤ e.1
theorem Snd.next {is : List Int} {m : Nat} {e : Int × Int} (s : Snd is m e) {b : Int} (hb : b = 0 ∨ b = 1) : Snd is (m + 1) (e.1 + gn (getI is) (m + 1) (e.2 + b * 2 ^ m), e.2 + b * 2 ^ m) := by
  have p := pow2_pos m
  have e2m : (2 : Int) ^ (m + 1) = 2 * 2 ^ m := by rw [Int.pow_succ, Int.mul_comm]
  have lo := s.lo
  have hi := s.hi
  refine ⟨?_, ?_, ?_⟩
  · show 0 ≤ e.2 + b * 2 ^ m
    rcases hb with rfl | rfl <;> omega
  · show e.2 + b * 2 ^ m < 2 ^ (m + 1)
    rw [e2m]
    rcases hb with rfl | rfl <;> omega
  · show e.1 + gn (getI is) (m + 1) (e.2 + b * 2 ^ m) = GG (getI is) m (e.2 + b * 2 ^ m) + gn (getI is) (m + 1) (e.2 + b * 2 ^ m)
    rw [GG_far e.2 b m (Nat.le_refl _), s.tot]
theorem cmp_zero (is : List Int) : Cmp is 0 [(0, 0)] := fun x h0 h1 => by
  have e : x = 0 := by
    have : (2 : Int) ^ 0 = 1 := rfl
    omega
  subst e
  exact ⟨_, List.mem_singleton.mpr rfl, rfl, Int.le_refl _⟩
theorem snd_zero (is : List Int) : Snd is 0 (0, 0) := ⟨Int.le_refl _, by decide, rfl⟩
theorem cmp_step {is : List Int} {m : Nat} {es fs : List (Int × Int)} (hm : m + 1 < is.length) (snd : ∀ e ∈ es, Snd is m e) (cmp : Cmp is m es)
    (cov : ∀ e ∈ es, ∀ b, b = 0 ∨ b = 1 → ∃ f ∈ fs, pl is (m + 1) f.2 = pl is (m + 1) (e.2 + b * 2 ^ m) ∧ e.1 + gn (getI is) (m + 1) (e.2 + b * 2 ^ m) ≤ f.1) : Cmp is (m + 1) fs := by
  intro x h0 h1
  have p := pow2_pos m
  have e2m : (2 : Int) ^ (m + 1) = 2 * 2 ^ m := by rw [Int.pow_succ, Int.mul_comm]
  rw [e2m] at h1
  have ex := Int.emod_add_mul_ediv x (2 ^ m)
  have y0 := Int.emod_nonneg x (show (2 : Int) ^ m ≠ 0 by omega)
  have y1 := Int.emod_lt_of_pos x p
  have hb : x / 2 ^ m = 0 ∨ x / 2 ^ m = 1 := by
    generalize x / 2 ^ m = q at *
    have q0 : 0 ≤ q := by
      rcases Int.lt_or_le q 0 with z | z
      · have := Int.mul_le_mul_of_nonneg_left (show q ≤ -1 by omega) (show 0 ≤ (2 : Int) ^ m by omega)
        omega
      · exact z
    have q1 : q ≤ 1 := by
      rcases Int.lt_or_le 1 q with z | z
      · have := Int.mul_le_mul_of_nonneg_left (show 2 ≤ q by omega) (show 0 ≤ (2 : Int) ^ m by omega)
        omega
      · exact z
    omega
  obtain ⟨e, he, hp, hg⟩ := cmp (x % 2 ^ m) y0 y1
  obtain ⟨f, hf, fp, fg⟩ := cov e he (x / 2 ^ m) hb
  have s := snd e he
  obtain ⟨n1, n2⟩ := same_next hm s.lo s.hi y0 y1 hb hp
  have exx : x % 2 ^ m + x / 2 ^ m * 2 ^ m = x := by rw [Int.mul_comm]; exact ex
  rw [exx] at n1 n2
  refine ⟨f, hf, fp.trans n2, ?_⟩
  show GG (getI is) m x + gn (getI is) (m + 1) x ≤ f.1
  rw [GG_mod] at hg
  omega

/-! #### the count at late ticks -/
def lateSum : Nat → Int → List Int → Int → Int
  | _, _, [], _ => 0
  | i, P, l :: r, T => ((T - P) / 2 ^ i - (T - l) / 2 ^ i) + lateSum (i + 1) l r T
def baseSum : Nat → Int → List Int → Int
  | _, _, [] => 0
  | i, P, l :: r => (l - P) / 2 ^ i + baseSum (i + 1) l r
def gnSum : Nat → Int → List Int → Int → Int
  | _, _, [], _ => 0
  | i, P, l :: r, T => (if (T - P) % 2 ^ i < (l - P) % 2 ^ i then 1 else 0) + gnSum (i + 1) l r T
theorem late_split : ∀ (r : List Int) (i : Nat) (P T : Int), lateSum i P r T = baseSum i P r + gnSum i P r T
  | [], _, _, _ => rfl
  | l :: r, i, P, T => by
    have h := carry (A := T - l) (B := l - P) (pow2_pos i)
    rw [show T - l + (l - P) = T - P by omega] at h
    show ((T - P) / 2 ^ i - (T - l) / 2 ^ i) + lateSum (i + 1) l r T = ((l - P) / 2 ^ i + baseSum (i + 1) l r) + ((if (T - P) % 2 ^ i < (l - P) % 2 ^ i then 1 else 0) + gnSum (i + 1) l r T)
    rw [late_split r (i + 1) l T, h]
    omega
theorem cnt_late : ∀ (r : List Int) (i : Nat) (P T : Int), 0 ≤ P → (∀ l ∈ r, P ≤ l ∧ l ≤ T) → r.Pairwise (· ≤ ·) → cntB 0 T T i (T - P) (r.map some) = lateSum i P r T
  | [], _, _, _, _, _, _ => rfl
  | l :: r, i, P, T, h0, hb, ha => by
    have hl := hb l List.mem_cons_self
    have pa := List.pairwise_cons.mp ha
    have e1 : bandLo T (some l) = T + 1 - l := if_neg (by omega)
    show mulN (max 0 (bandLo T (some l))) (min T (T - P)) (2 ^ i) + cntB 0 T T (i + 1) (bandLo T (some l) - 1) (r.map some) = ((T - P) / 2 ^ i - (T - l) / 2 ^ i) + lateSum (i + 1) l r T
    rw [e1, show T + 1 - l - 1 = T - l by omega, cnt_late r (i + 1) l T (by omega) (fun x hx => ⟨pa.1 x hx, (hb x (List.mem_cons_of_mem _ hx)).2⟩) pa.2]
    congr 1
    rw [show max 0 (T + 1 - l) = T + 1 - l by omega, show min T (T - P) = T - P by omega]
    unfold mulN
    by_cases c : T + 1 - l > T - P
    · rw [if_pos c, show l = P by omega]
      omega
    · rw [if_neg c, show T + 1 - l - 1 = T - l by omega]
theorem gg_sum (is : List Int) {k : Nat} (hk : is.length = k + 1) (T : Int) : ∀ d i, i + d = k → GG (getI is) k T = GG (getI is) i T + gnSum (i + 1) (getI is i) (is.drop (i + 1)) T
  | 0, i, h => by
    obtain rfl : i = k := by omega
    rw [List.drop_of_length_le (by omega)]
    show _ = _ + 0
    omega
  | d + 1, i, h => by
    have lt : i + 1 < is.length := by omega
    rw [gg_sum is hk T d (i + 1) (by omega), List.drop_eq_getElem_cons lt]
    have e := getI_at (List.getElem?_eq_getElem lt)
    show GG (getI is) i T + gn (getI is) (i + 1) T + gnSum (i + 1 + 1) (getI is (i + 1)) (is.drop (i + 1 + 1)) T = GG (getI is) i T + ((if (T - getI is i) % 2 ^ (i + 1) < (is[i + 1] - getI is i) % 2 ^ (i + 1) then 1 else 0) + gnSum (i + 1 + 1) is[i + 1] (is.drop (i + 1 + 1)) T)
    rw [e]
    unfold gn
    rw [show i + 1 - 1 = i from rfl, e]
    omega
theorem gnSum_all {is : List Int} {k : Nat} (hk : is.length = k + 1) (T : Int) : gnSum 0 0 is T = GG (getI is) k T := by
  obtain ⟨l, r, rfl⟩ : ∃ l r, is = l :: r := by
    cases is with
    | nil => cases hk
    | cons l r => exact ⟨l, r, rfl⟩
  have h := gg_sum (l :: r) hk T k 0 (by omega)
  rw [h]
  show (if (T - 0) % 2 ^ 0 < (l - 0) % 2 ^ 0 then 1 else 0) + gnSum 1 l r T = 0 + gnSum 1 l r T
  have e : ∀ x : Int, x % 2 ^ 0 = 0 := fun x => Int.emod_one x
  rw [e, e, if_neg (by omega)]
theorem good_asc {is : List Int} (g : Good (is.map some)) : is.Pairwise (· ≤ ·) := by
  rw [List.pairwise_iff_getElem]
  have step : ∀ d i (h : i + d < is.length), is[i]'(by omega) ≤ is[i + d]'h := by
    intro d
    induction d with
    | zero => intro i h; exact Int.le_refl _
    | succ d ih =>
      intro i h
      have h1 := ih i (by omega)
      have h2 := g.asc (i + d) (some is[i + d]) (some (is[i + d + 1]'h)) (by rw [List.getElem?_map, List.getElem?_eq_getElem (by omega)]; rfl) (by rw [List.getElem?_map, List.getElem?_eq_getElem (show i + d + 1 < is.length from h)]; rfl)
      have h3 : is[i + d] ≤ is[i + d + 1]'h := of_decide_eq_true h2
      exact Int.le_trans h1 h3
  intro i j hi hj hij
  have h := step (j - i) i (by omega)
  have e : i + (j - i) = j := by omega
  simp only [e] at h
  exact h
/-- how many points at a late tick -/
theorem count_late {is : List Int} {k : Nat} (g : Good (is.map some)) (hk : is.length = k + 1) {T : Int} (hT : getI is k ≤ T) : cntB 0 T T 0 T (is.map some) = baseSum 0 0 is + GG (getI is) k T := by
  have pa := good_asc g
  have bd : ∀ l ∈ is, 0 ≤ l ∧ l ≤ T := fun l hl => by
    obtain ⟨i, hi, e⟩ := List.mem_iff_getElem.mp hl
    have b := (g.bd (some l) (List.mem_map_of_mem hl) l rfl).1
    have lk : k < is.length := by omega
    have ek := getI_at (List.getElem?_eq_getElem lk)
    have le : is[i] ≤ is[k] := by
      by_cases c : i = k
      · subst c; exact Int.le_refl _
      · exact (List.pairwise_iff_getElem.mp pa) i k hi lk (by omega)
    omega
  have h := cnt_late is 0 0 T (Int.le_refl _) bd pa
  rw [Int.sub_zero] at h
  rw [h, late_split, gnSum_all hk]

/-! #### early ticks have no more points than the late ones with the same end -/
theorem rk_far {n m k : Nat} (hk : k ≤ 100) : min (rkI ((n + m * 2 ^ k : Nat) : Int)) k = min (rkI ((n : Nat) : Int)) k := by
  have key : ∀ i, i ≤ k → (i ≤ rkI ((n + m * 2 ^ k : Nat) : Int) ↔ i ≤ rkI ((n : Nat) : Int)) := fun i hi => by
    rw [← rk_dvd (Int.natCast_nonneg _) (show i ≤ 1000 by omega), ← rk_dvd (Int.natCast_nonneg _) (show i ≤ 1000 by omega), emod_pow_cast, emod_pow_cast]
    have e : m * 2 ^ k = 2 ^ i * (m * 2 ^ (k - i)) := by
      have : (2 : Nat) ^ k = 2 ^ i * 2 ^ (k - i) := by rw [← Nat.pow_add, show i + (k - i) = k by omega]
      rw [this, Nat.mul_left_comm]
    rw [e, Nat.add_mul_mod_self_left]
  have h1 := key (min (rkI ((n : Nat) : Int)) k) (Nat.min_le_right _ _)
  have h2 := key (min (rkI ((n + m * 2 ^ k : Nat) : Int)) k) (Nat.min_le_right _ _)
  have a := h1.mpr (Nat.min_le_left _ _)
  have b := h2.mp (Nat.min_le_left _ _)
  omega
theorem life_far {ls : List (Option Int)} {k : Nat} (hk : ls.length = k + 1) (h6 : k ≤ 100) (n m : Nat) : lifeAt ls (rkI ((n + m * 2 ^ k : Nat) : Int)) = lifeAt ls (rkI ((n : Nat) : Int)) := by
  have p : 0 < ls.length := by omega
  rw [← lifeAt_least p (rkI ((n + m * 2 ^ k : Nat) : Int)), ← lifeAt_least p (rkI ((n : Nat) : Int))]
  rw [show ls.length - 1 = k by omega, rk_far h6]
theorem kept_far {ls : List (Option Int)} {k : Nat} (hk : ls.length = k + 1) (h6 : k ≤ 100) (t n m : Nat) : keptB ls ((t + m * 2 ^ k : Nat) : Int) ((n + m * 2 ^ k : Nat) : Int) = keptB ls ((t : Nat) : Int) ((n : Nat) : Int) := by
  unfold keptB
  rw [life_far hk h6]
  congr 1
  · exact decide_eq_decide.mpr (by omega)
  · congr 2
    omega
theorem keptL_far {ls : List (Option Int)} {k : Nat} (hk : ls.length = k + 1) (h6 : k ≤ 100) (t m : Nat) : (keptL ls t).length ≤ (keptL ls (t + m * 2 ^ k)).length := by
  unfold keptL
  have e : List.range (t + m * 2 ^ k + 1) = List.range (m * 2 ^ k) ++ (List.range (t + 1)).map (m * 2 ^ k + ·) := by
    rw [show t + m * 2 ^ k + 1 = m * 2 ^ k + (t + 1) by omega]
    exact List.range_add
  rw [e, List.filter_append, List.length_append, List.filter_map, List.length_map]
  have e2 : ((List.range (t + 1)).filter ((fun n => keptB ls ((t + m * 2 ^ k : Nat) : Int) ((n : Nat) : Int)) ∘ (m * 2 ^ k + ·))) = (List.range (t + 1)).filter fun n => keptB ls ((t : Nat) : Int) ((n : Nat) : Int) := by
    refine List.filter_congr fun n _ => ?_
    show keptB ls ((t + m * 2 ^ k : Nat) : Int) ((m * 2 ^ k + n : Nat) : Int) = _
    rw [Nat.add_comm (m * 2 ^ k) n]
    exact kept_far hk h6 t n m
  rw [e2]
  omega
/-- how many points at a tick -/
def cntT (ls : List (Option Int)) (t : Int) : Int := cntB 0 t t 0 t ls
/-- the late tick with the best end has the most points -/
theorem most_best {is : List Int} {k : Nat} (g : Good (is.map some)) (hk : is.length = k + 1) {T : Int} (hT : getI is k ≤ T) (h0 : ∀ x, 0 ≤ x → x < 2 ^ k → GG (getI is) k x ≤ GG (getI is) k T) (t : Int) (ht : 0 ≤ t) :
    cntT (is.map some) t ≤ cntT (is.map some) T := by
  obtain ⟨tn, rfl⟩ := Int.eq_ofNat_of_zero_le ht
  have hm := g.most
  rw [List.length_map, hk] at hm
  have lk : k < is.length := by omega
  have gk : 0 ≤ getI is k := by
    rw [getI_at (List.getElem?_eq_getElem lk)]
    exact (g.bd (some is[k]) (List.mem_map_of_mem (List.getElem_mem lk)) is[k] rfl).1
  have p := pow2_pos k
  have hl : (is.map some).length = k + 1 := by rw [List.length_map, hk]
  have h1 : cntT (is.map some) (tn : Int) ≤ cntT (is.map some) ((tn + (getI is k).toNat * 2 ^ k : Nat) : Int) := by
    unfold cntT
    rw [cnt_all g, cnt_all g]
    have := keptL_far hl (by omega) tn (getI is k).toNat
    omega
  have cast : ((tn + (getI is k).toNat * 2 ^ k : Nat) : Int) = (tn : Int) + getI is k * 2 ^ k := by
    rw [Int.natCast_add, Int.natCast_mul, Int.natCast_pow]
    have : (((getI is k).toNat : Nat) : Int) = getI is k := by omega
    rw [this]
    rfl
  rw [cast] at h1
  refine Int.le_trans h1 ?_
  have q : getI is k ≤ getI is k * 2 ^ k := by
    have := Int.mul_le_mul_of_nonneg_left (show (1 : Int) ≤ 2 ^ k by omega) gk
    omega
  unfold cntT
  rw [count_late g hk (show getI is k ≤ (tn : Int) + getI is k * 2 ^ k by omega), count_late g hk hT]
  have h2 := h0 (((tn : Int) + getI is k * 2 ^ k) % 2 ^ k) (Int.emod_nonneg _ (by omega)) (Int.emod_lt_of_pos _ p)
  rw [GG_mod] at h2
  omega
end Rk
namespace Rk
open PySem PySem.Spec PyProof.Rows L2
theorem tuple_mul1 (l : Addr) (items : Array Value) (n : Nat) (dd : Option Addr) (sl : Array (Option Value)) (u : Tok) :
    Meets (Builtin.«tuple.__mul__» ⟨[.ref l, .int 1 u], []⟩) (fun _ R s => s.heap.get? l = some { cls := .type "tuple", dict := dd, data := .seq items n, slots := sl } ∧ R (.ok (.ret (.ref l))) s) :=
  .of_wp fun prog w A R s h => by
    obtain ⟨hp, g, d, tk, os⟩ := s
    obtain ⟨hl, h⟩ := h
    have f1 := AutoSeq1.idx_int
    wp_walk using wpAny_loadPart' hl
    exact ⟨_, rfl, h⟩
theorem tuple_mul0 (l : Addr) (items : Array Value) (n : Nat) (dd : Option Addr) (sl : Array (Option Value)) (x : Int) (u : Tok) (c0 : (decide (x < -(2 ^ 63)) || decide (x ≥ 2 ^ 63)) = false) (c1 : (items.isEmpty || x == 1) = false) (c2 : (decide (x ≤ 0) || items.isEmpty) = true) :
    Meets (Builtin.«tuple.__mul__» ⟨[.ref l, .int x u], []⟩) (fun _ R s => s.heap.get? l = some { cls := .type "tuple", dict := dd, data := .seq items n, slots := sl } ∧
      R (.ok (.ret (Value.ref s.heap.objs.size))) { s with heap := s.heap.push { cls := Value.type "tuple", data := Data.seq #[] }, toks := s.toks }) :=
  .of_wp fun prog w A R s h => by
    obtain ⟨hp, g, d, tk, os⟩ := s
    obtain ⟨hl, h⟩ := h
    have f1 := AutoSeq1.idx_int
    wp_walk using wpAny_loadPart' hl
    repeat (first
      | (refine wpAny_ite_false (decide_eq_false (by rw [c0]; exact Bool.false_ne_true)) ?_; wp_walk using wpAny_loadPart' hl)
      | (refine wpAny_ite_false (decide_eq_false (by rw [c1]; exact Bool.false_ne_true)) ?_; wp_walk using wpAny_loadPart' hl)
      | (refine wpAny_ite_true (decide_eq_true c2) ?_; wp_walk using wpAny_loadPart' hl))
    exact ⟨_, rfl, h⟩
section
variable {X : Cx}
/-- a tuple that is not empty, so many times -/
def rRepA : R2 := fun x y H Q => ∃ (l : Addr) (k : Int) (xs : List V), x = .ref l ∧ y = .int k ∧ H l = some (.tup xs) ∧ xs ≠ [] ∧ -1000 ≤ k ∧ k ≤ 1000 ∧ xs.length ≤ 1000 ∧ ∀ r H', Same H H' → H' r = some (.tup (List.replicate k.toNat xs).flatten) → Q (.ref r) H'
theorem op_repA : OpR X (binaryOp .Mult) rRepA := by
  intro pins s σ H x y v u Q I rx ry h
  obtain ⟨l, k, xs, ex, ey, hH, hne, h0, h2, hz, q⟩ := h
  by_cases c : 2 ≤ k
  · exact op_repT pins s σ H x y v u Q I rx ry ⟨l, k, xs, ex, ey, SqT.of hH, hne, c, h2, hz, fun p hp => q p _ (same_upd hp) upd_same⟩
  · subst ex ey
    cases rx
    obtain ⟨t, rfl⟩ := ry
    obtain ⟨its, r, ⟨⟨cls, dd, data, sl⟩, ho, hc, n, hd⟩, hs⟩ := I.tuple (SqT.of (K := X.K) hH)
    simp only at hc hd
    subst hc hd
    have hle : its.length = xs.length := r.length.symm
    have hn : its ≠ [] := fun e => hne (by
      rw [e] at hle
      exact List.eq_nil_of_length_eq_zero hle.symm)
    have hi : its.toArray.isEmpty = false := by
      cases its with
      | nil => exact absurd rfl hn
      | cons a b => rfl
    by_cases c1 : k = 1
    · subst c1
      refine wpAny_binaryOp_repeat_ref (T := "tuple") (U := "int") (by decide) ⟨_, ho, rfl⟩ (fun s' => typeIs_int s' 1 t) noFill_tuple_mul F.fills_int_mul F.slot_int_rmul repeat_tuple F.slot_int_index.lookup
        (call_meets F.slot_int_rmul (typeIs_int s 1 t) F.entry_int_rmul (F.args_int_rmul_2 _ _) (int_rmul_tuple 1 t l its.toArray n dd sl)
          ⟨ho, rfl, ⟨_, ho, rfl⟩, call_meets F.slot_tuple_mul ⟨_, ho, rfl⟩ F.entry_tuple_mul (F.args_tuple_mul_2 _ _) (tuple_mul1 l its.toArray n dd sl t) ⟨ho, ?_⟩⟩)
      refine ⟨.ref l, H, I, rfl, q l H (Same.refl _) ?_⟩
      rw [hH]
      simp
    · refine wpAny_binaryOp_repeat_ref (T := "tuple") (U := "int") (by decide) ⟨_, ho, rfl⟩ (fun s' => typeIs_int s' k t) noFill_tuple_mul F.fills_int_mul F.slot_int_rmul repeat_tuple F.slot_int_index.lookup
        (call_meets F.slot_int_rmul (typeIs_int s k t) F.entry_int_rmul (F.args_int_rmul_2 _ _) (int_rmul_tuple k t l its.toArray n dd sl)
          ⟨ho, rfl, ⟨_, ho, rfl⟩, call_meets F.slot_tuple_mul ⟨_, ho, rfl⟩ F.entry_tuple_mul (F.args_tuple_mul_2 _ _) (tuple_mul0 l its.toArray n dd sl k t (by rw [decide_eq_false (by omega), decide_eq_false (by omega)] <;> rfl) (by rw [hi, Bool.false_or]; exact beq_eq_false_iff_ne.mpr c1) (by rw [decide_eq_true (by omega), Bool.true_or])) ⟨ho, ?_⟩⟩)
      have e0 : (List.replicate k.toNat xs).flatten = [] := by
        rw [show k.toNat = 0 by omega]
        rfl
      refine ⟨.ref s.heap.objs.size, _, I.laid (t' := s.toks) (o := .tup []) (fun b ob q => Heap.get?_push_of_some _ q) (Nat.le_refl _) ?_, rfl, q _ _ (same_upd (I.hok.fresh (Nat.le_refl _))) (by rw [upd_same, e0])⟩
      exact ⟨by decide, _, .nil, IsTup.new _ _⟩
end
end Rk
namespace Rk
open PySem PySem.Spec PyProof.Rows L2

/-! ### list(d.values()) -/
theorem kv_at : ∀ {kvs : List (Key × V)} {vs : List (Key × Value)} {j : Nat} {p : Key × V} {q : Key × Value}, KV kvs vs → kvs[j]? = some p → vs[j]? = some q → RelV p.2 q.2
  | _, _, j, _, _, .nil, h, _ => by simp at h
  | _, _, 0, _, _, .cons r _, h1, h2 => by
    cases h1
    cases h2
    exact r.2
  | _, _, j + 1, _, _, .cons _ rr, h1, h2 => kv_at (j := j) rr (by simpa using h1) (by simpa using h2)
def tListVals (td : TE) : TE := fun σ H Q => td σ H fun x H1 => ∃ d kvs, x = .ref d ∧ H1 d = some (.dK kvs) ∧ ∀ q, H1 q = none → Q (.ref q) (upd H1 q (.lst (kvs.map (·.2))))
section
variable {X : Cx}
theorem pe_listVals {e : Expr} {td : TE} {apos cpos p pos : Pos} (hc : X.calm = true) (hg : Gl X "list") (hm : X.mg "list" = none) (he : PE X e td) (hbase : attributeBase e "values" X.env (eval e X.env) = eval e X.env := by rfl) (hline : (apos.endLine == cpos.line) = true := by rfl)
    (na : starEach [.Call (.Attribute e "values" apos) [] [] cpos] X.env = (false, eval (.Call (.Attribute e "values" apos) [] [] cpos) X.env) :: starEach [] X.env := by rfl) : PE X (.Call (.Name "list" p) [.Call (.Attribute e "values" apos) [] [] cpos] [] pos) (tListVals td) := by
  refine ⟨fun pins s σ H Q I h => ?_⟩
  refine Call_ (ld_blt I hg hm boot_list (PyProof.Rows.callWith_type1 (args_cons ?_ na) na))
  refine wpAny_Call_method (T := "dict") (id := "dict.values") hbase rfl hline F.plainAttrs_dict F.slot_dict_values F.type_dict_values (thn (he.run pins _ σ H _ (I.tok _) h) fun u s1 ⟨x, H1, I1, rx, d, kvs, ex, hk, q⟩ => ?_)
  subst ex
  obtain rfl : u = Value.ref d := rx
  obtain ⟨z, lo, vs, rk, hd⟩ := (show ObjOk X.prog X.w H1 s1.heap d (.dK kvs) from I1.hok d _ hk)
  obtain ⟨ep, hat⟩ := hd.dictAt
  have hl : kvs.length = vs.length := Paired.length rk
  refine ⟨hat.dictOf.typeIs, hat.dictOf.mapOf.noDict, ?_⟩
  have I2 : Inv X pins σ H1 { s1 with heap := s1.heap.push { cls := .type "dict_values", data := .fields #[.ref d] } } := I1.kept (t' := s1.toks) fun b ob q => Heap.get?_push_of_some _ q
  refine method_meetsIn F.slot_dict_values F.entry_dict_values rfl (PySem.evalArgs_none ⟨rfl, hat.dictOf.typeIs, F.args_dict_values_1 _, _, meets_dict_values (mixKind X.prog X.w) d lo, ⟨vs, hat.dictOf⟩, ?_⟩)
  refine args_nil ?_
  refine PySem.W.kdl_call (PySem.W.kdl_values (knd := mixKind X.prog X.w) (r := s1.heap.objs.size) (d := d) (kvs := vs) (ep := ep)) (I1.ok.hd hc) ⟨⟨_, Heap.get?_push_size _ rfl, rfl, rfl⟩, hat.push _⟩ (by rw [← hl]; exact z) fun h' tk acc' c' hkeep hS hacc => ?_
  refine ⟨.ref (s1.heap.push { cls := .type "dict_values", data := .fields #[.ref d] }).objs.size, upd H1 (s1.heap.push { cls := .type "dict_values", data := .fields #[.ref d] }).objs.size (.lst (kvs.map (·.2))), I2.laid hkeep (Nat.le_refl _) (show ObjOk X.prog X.w _ _ _ (.lst (kvs.map (·.2))) from ⟨?_, acc'.toList, c', ?_, ?_⟩), rfl, q _ (I2.hok.fresh (Nat.le_refl _))⟩
  · rw [List.length_map]; exact z
  · have el : acc'.toList.length = acc'.size := by simp
    refine vals_of_at (by rw [List.length_map, el, hacc.1, hl]) fun j x w h1 h2 => ?_
    obtain ⟨k, hky⟩ := hacc.2 j w (by rw [← Array.getElem?_toList]; exact h2)
    rw [List.getElem?_map] at h1
    cases e1 : kvs[j]? with
    | none => rw [e1] at h1; cases h1
    | some kv =>
      rw [e1] at h1
      cases h1
      exact kv_at rk e1 hky
  · rw [Array.toArray_toList]; exact hS
end

/-! ### the search's dict: places, and the best that stands there -/
def KAt (H : Hp) (is : List Int) (m : Nat) : List (Key × V) → List (Int × Int) → Prop
  | [], [] => True
  | (k, v) :: r, e :: es => k = .inl ((pl is m e.2 : Nat) : Int) ∧ (∃ t, v = .ref t ∧ H t = some (.tup [.int e.1, .int e.2])) ∧ KAt H is m r es
  | _, _ => False
section
variable {H H' : Hp} {is : List Int} {m : Nat}
theorem KAt.length : ∀ {kvs : List (Key × V)} {es : List (Int × Int)}, KAt H is m kvs es → kvs.length = es.length
  | [], [], _ => rfl
  | (_, _) :: _, _ :: _, ⟨_, _, r⟩ => congrArg (· + 1) (KAt.length r)
  | [], _ :: _, h => h.elim
  | (_, _) :: _, [], h => h.elim
theorem KAt.keep (k : ∀ t ys, H t = some (.tup ys) → H' t = some (.tup ys)) : ∀ {kvs : List (Key × V)} {es : List (Int × Int)}, KAt H is m kvs es → KAt H' is m kvs es
  | [], [], _ => trivial
  | (_, _) :: _, _ :: _, ⟨a, ⟨t, b, c⟩, r⟩ => ⟨a, ⟨t, b, k _ _ c⟩, KAt.keep k r⟩
  | [], _ :: _, h => h.elim
  | (_, _) :: _, [], h => h.elim
theorem KAt.same (s : Same H H') {kvs : List (Key × V)} {es : List (Int × Int)} (h : KAt H is m kvs es) : KAt H' is m kvs es := h.keep fun t ys e => s _ _ e
theorem KAt.vals : ∀ {kvs : List (Key × V)} {es : List (Int × Int)}, KAt H is m kvs es → TAt H (kvs.map (·.2)) (es.map wV)
  | [], [], _ => trivial
  | (_, _) :: _, _ :: _, ⟨_, ⟨t, b, c⟩, r⟩ => ⟨⟨t, b, c⟩, KAt.vals r⟩
  | [], _ :: _, h => h.elim
  | (_, _) :: _, [], h => h.elim
theorem KAt.at : ∀ {kvs : List (Key × V)} {es : List (Int × Int)} (p : Nat), KAt H is m kvs es →
    (valV kvs (.inl ((p : Nat) : Int)) = none ∧ ∀ e ∈ es, pl is m e.2 ≠ p) ∨ ∃ t e, valV kvs (.inl ((p : Nat) : Int)) = some (.ref t) ∧ e ∈ es ∧ pl is m e.2 = p ∧ H t = some (.tup [.int e.1, .int e.2])
  | [], [], _, _ => .inl ⟨rfl, fun _ h => nomatch h⟩
  | (k, v) :: r, e :: es, p, ⟨a, ⟨t, b, c⟩, rr⟩ => by
    subst a b
    by_cases z : pl is m e.2 = p
    · refine .inr ⟨t, e, ?_, List.mem_cons_self, z, c⟩
      rw [valV_pos (by rw [z])]
    · have zk : ¬ (Sum.inl ((pl is m e.2 : Nat) : Int) : Key) = Sum.inl ((p : Nat) : Int) := fun w => z (by injection w with w; omega)
      rw [valV_neg zk]
      rcases KAt.at p rr with ⟨h1, h2⟩ | ⟨t', e', h1, h2, h3, h4⟩
      · refine .inl ⟨h1, fun x hx => ?_⟩
        rcases List.mem_cons.mp hx with rfl | hx
        · exact z
        · exact h2 x hx
      · exact .inr ⟨t', e', h1, List.mem_cons_of_mem _ h2, h3, h4⟩
  | [], _ :: _, _, h => h.elim
  | (_, _) :: _, [], _, h => h.elim
def putE (is : List Int) (m : Nat) (es : List (Int × Int)) (c : Int × Int) : List (Int × Int) := if (es.any fun e => decide (pl is m e.2 = pl is m c.2)) = true then es.map (fun e => if pl is m e.2 = pl is m c.2 then c else e) else es ++ [c]
theorem key_eq {a b : Nat} : ((Sum.inl ((a : Nat) : Int) : Key) = Sum.inl ((b : Nat) : Int)) ↔ a = b := ⟨fun w => by injection w with w; omega, fun w => by rw [w]⟩
theorem KAt.any : ∀ {kvs : List (Key × V)} {es : List (Int × Int)} (p : Nat), KAt H is m kvs es → (kvs.any fun kv => decide (kv.1 = .inl ((p : Nat) : Int))) = es.any fun e => decide (pl is m e.2 = p)
  | [], [], _, _ => rfl
  | (k, v) :: r, e :: es, p, ⟨a, _, rr⟩ => by
    subst a
    rw [List.any_cons, List.any_cons, KAt.any p rr]
    congr 1
    exact decide_eq_decide.mpr key_eq
  | [], _ :: _, _, h => h.elim
  | (_, _) :: _, [], _, h => h.elim
theorem KAt.put {kvs : List (Key × V)} {es : List (Int × Int)} {c : Int × Int} {t : Addr} (h : KAt H is m kvs es) (ht : H t = some (.tup [.int c.1, .int c.2])) : KAt H is m (putK kvs (.inl ((pl is m c.2 : Nat) : Int)) (.ref t)) (putE is m es c) := by
  unfold putK putE
  rw [h.any]
  by_cases z : (es.any fun e => decide (pl is m e.2 = pl is m c.2)) = true
  · rw [if_pos z, if_pos z]
    clear z
    revert h
    induction kvs generalizing es with
    | nil =>
      intro h
      cases es with
      | nil => trivial
      | cons _ _ => exact h.elim
    | cons kv r ih =>
      intro h
      cases es with
      | nil => exact h.elim
      | cons e es =>
        obtain ⟨a, b, rr⟩ := h
        rw [List.map_cons, List.map_cons]
        by_cases w : pl is m e.2 = pl is m c.2
        · rw [if_pos w, if_pos (by rw [a]; exact key_eq.mpr w)]
          exact ⟨by rw [a, w], ⟨t, rfl, ht⟩, ih rr⟩
        · rw [if_neg w, if_neg (by rw [a]; exact fun y => w (key_eq.mp y))]
          exact ⟨a, b, ih rr⟩
  · rw [if_neg z, if_neg z]
    clear z
    revert h
    induction kvs generalizing es with
    | nil =>
      intro h
      cases es with
      | nil => exact ⟨rfl, ⟨t, rfl, ht⟩, trivial⟩
      | cons _ _ => exact h.elim
    | cons kv r ih =>
      intro h
      cases es with
      | nil => exact h.elim
      | cons e es =>
        obtain ⟨a, b, rr⟩ := h
        exact ⟨a, b, ih rr⟩
end
/-- what the dict holds behind some candidates -/
structure BInv (is : List Int) (m : Nat) (es ps : List (Int × Int)) : Prop where
  nd : (es.map fun e => pl is m e.2).Nodup
  snd : ∀ e ∈ es, Snd is m e
  cov : ∀ c ∈ ps, ∃ f ∈ es, pl is m f.2 = pl is m c.2 ∧ c.1 ≤ f.1
theorem BInv.zero (is : List Int) (m : Nat) : BInv is m [] [] := ⟨List.nodup_nil, fun _ h => (nomatch h), fun _ h => (nomatch h)⟩
theorem BInv.skip {is : List Int} {m : Nat} {es ps : List (Int × Int)} {c e : Int × Int} (b : BInv is m es ps) (he : e ∈ es) (hp : pl is m e.2 = pl is m c.2) (hc : c.1 ≤ e.1) : BInv is m es (ps ++ [c]) :=
  ⟨b.nd, b.snd, fun x hx => (List.mem_append.mp hx).elim (b.cov x) fun hx => by rw [List.mem_singleton.mp hx]; exact ⟨e, he, hp, hc⟩⟩
theorem BInv.add {is : List Int} {m : Nat} {es ps : List (Int × Int)} {c : Int × Int} (b : BInv is m es ps) (sc : Snd is m c) (hn : ∀ e ∈ es, pl is m e.2 = pl is m c.2 → e.1 ≤ c.1) : BInv is m (putE is m es c) (ps ++ [c]) := by
  unfold putE
  by_cases z : (es.any fun e => decide (pl is m e.2 = pl is m c.2)) = true
  · rw [if_pos z]
    obtain ⟨e0, he0, hp0⟩ := List.any_eq_true.mp z
    have hp0 := of_decide_eq_true hp0
    have em : (es.map (fun e => if pl is m e.2 = pl is m c.2 then c else e)).map (fun e => pl is m e.2) = es.map fun e => pl is m e.2 := by
      rw [List.map_map]
      refine List.map_congr_left fun e _ => ?_
      show pl is m (if pl is m e.2 = pl is m c.2 then c else e).2 = pl is m e.2
      by_cases w : pl is m e.2 = pl is m c.2
      · rw [if_pos w, w]
      · rw [if_neg w]
    have mc : c ∈ es.map (fun e => if pl is m e.2 = pl is m c.2 then c else e) := List.mem_map.mpr ⟨e0, he0, if_pos hp0⟩
    refine ⟨by rw [em]; exact b.nd, fun e he => ?_, fun x hx => ?_⟩
    · obtain ⟨e', he', rfl⟩ := List.mem_map.mp he
      by_cases w : pl is m e'.2 = pl is m c.2
      · rw [if_pos w]; exact sc
      · rw [if_neg w]; exact b.snd e' he'
    · rcases List.mem_append.mp hx with hx | hx
      · obtain ⟨f, hf, f1, f2⟩ := b.cov x hx
        by_cases w : pl is m f.2 = pl is m c.2
        · exact ⟨c, mc, by rw [← w, f1], by have := hn f hf w; omega⟩
        · exact ⟨f, List.mem_map.mpr ⟨f, hf, if_neg w⟩, f1, f2⟩
      · rw [List.mem_singleton.mp hx]
        exact ⟨c, mc, rfl, Int.le_refl _⟩
  · rw [if_neg z]
    refine ⟨?_, fun e he => ?_, fun x hx => ?_⟩
    · rw [List.map_append, List.nodup_append]
      refine ⟨b.nd, by simp, fun x hx y hy w => ?_⟩
      obtain ⟨e, he, rfl⟩ := List.mem_map.mp hx
      have hy : y = pl is m c.2 := by simpa using hy
      exact z (List.any_eq_true.mpr ⟨e, he, decide_eq_true (by rw [w, hy])⟩)
    · rcases List.mem_append.mp he with he | he
      · exact b.snd e he
      · rw [List.mem_singleton.mp he]; exact sc
    · rcases List.mem_append.mp hx with hx | hx
      · obtain ⟨f, hf, f1, f2⟩ := b.cov x hx
        exact ⟨f, List.mem_append_left _ hf, f1, f2⟩
      · rw [List.mem_singleton.mp hx]
        exact ⟨c, List.mem_append_right _ (List.mem_singleton.mpr rfl), rfl, Int.le_refl _⟩
theorem nodup_lt : ∀ (N : Nat) (l : List Nat), l.Nodup → (∀ x ∈ l, x < N) → l.length ≤ N
  | 0, l, _, h => by
    cases l with
    | nil => exact Nat.le_refl _
    | cons a r => exact absurd (h a List.mem_cons_self) (by omega)
  | N + 1, l, nd, h => by
    have ih := nodup_lt N (l.filter fun x => !decide (x = N)) (nd.filter _) fun x hx => by
      obtain ⟨h1, h2⟩ := List.mem_filter.mp hx
      have := h x h1
      have : x ≠ N := fun z => by rw [decide_eq_true z] at h2; cases h2
      omega
    have cnt : l.length ≤ (l.filter fun x => !decide (x = N)).length + 1 := by
      clear ih h
      induction l with
      | nil => exact Nat.zero_le _
      | cons a r ihr =>
        obtain ⟨ha, nr⟩ := List.nodup_cons.mp nd
        rw [List.filter_cons]
        by_cases c : a = N
        · subst c
          rw [if_neg (by simp)]
          have : (r.filter fun x => !decide (x = a)) = r := List.filter_eq_self.mpr fun x hx => by
            rw [decide_eq_false (fun (z : x = a) => ha (z ▸ hx))]; rfl
          rw [this]
          exact Nat.le_refl _
        · rw [if_pos (by rw [decide_eq_false c]; rfl), List.length_cons, List.length_cons]
          have := ihr nr
          omega
    omega
theorem BInv.len {is : List Int} {m : Nat} {es ps : List (Int × Int)} (b : BInv is m es ps) : es.length ≤ is.length + 1 := by
  have h := nodup_lt (is.length + 1) (es.map fun e => pl is m e.2) b.nd fun x hx => by
    obtain ⟨e, _, rfl⟩ := List.mem_map.mp hx
    have h1 := List.length_filter_le (fun L : Int => decide (L % 2 ^ m ≤ e.2)) (is.drop m)
    rw [List.length_drop] at h1
    show ((is.drop m).filter fun L => decide (L % 2 ^ m ≤ e.2)).length < is.length + 1
    omega
  rw [List.length_map] at h
  exact h
/-- the candidates of one end -/
def candE (is : List Int) (m : Nat) (e : Int × Int) (b : Int) : Int × Int := (e.1 + gn (getI is) (m + 1) (e.2 + b * 2 ^ m), e.2 + b * 2 ^ m)
end Rk
namespace Rk
open PySem PySem.Spec PyProof.Rows L2

/-! ### values of any kind: what they are as data; the lists and dicts in them stand apart from some addresses -/
def keyD : Key → PyData
  | .inl i => .int i
  | .inr x => .str x
mutual
inductive Dq (K : PySem.W.Frag) (bad : List Addr) (H : Hp) : V → PyData → Prop
  | non : Dq K bad H .non .none
  | bl (b : Bool) : Dq K bad H (.bl b) (.bool b)
  | int (i : Int) : Dq K bad H (.int i) (.int i)
  | str (x : Str) : Dq K bad H (.str x) (.str x)
  | lst {a : Addr} {xs : List V} {ds : List PyData} : H a = some (.lst xs) → a ∉ bad → DqAll K bad H xs ds → Dq K bad H (.ref a) (.list ds)
  | tup {a : Addr} {xs : List V} {ds : List PyData} : SqT K H a xs → DqAll K bad H xs ds → Dq K bad H (.ref a) (.tuple ds)
  | dct {a : Addr} {kvs : List (Key × V)} {ds : List (PyData × PyData)} : H a = some (.dK kvs) → a ∉ bad → DqKv K bad H kvs ds → Dq K bad H (.ref a) (.dict ds)
inductive DqAll (K : PySem.W.Frag) (bad : List Addr) (H : Hp) : List V → List PyData → Prop
  | nil : DqAll K bad H [] []
  | cons {v : V} {vs : List V} {d : PyData} {ds : List PyData} : Dq K bad H v d → DqAll K bad H vs ds → DqAll K bad H (v :: vs) (d :: ds)
inductive DqKv (K : PySem.W.Frag) (bad : List Addr) (H : Hp) : List (Key × V) → List (PyData × PyData) → Prop
  | nil : DqKv K bad H [] []
  | cons {k : Key} {v : V} {r : List (Key × V)} {d : PyData} {ds : List (PyData × PyData)} : Dq K bad H v d → DqKv K bad H r ds → DqKv K bad H ((k, v) :: r) ((keyD k, d) :: ds)
end

/-! #### they stand while all but some addresses stand -/
/-- all but what stands at ex is as it was -/
def Buts (ex : List Addr) (H H' : Hp) : Prop := ∀ b o, H b = some o → b ∉ ex → H' b = some o
theorem Buts.of {ex : List Addr} {H H' : Hp} (s : Same H H') : Buts ex H H' := fun b o e _ => s b o e
theorem Buts.refl {ex : List Addr} {H : Hp} : Buts ex H H := fun _ _ e _ => e
theorem Buts.trans {ex : List Addr} {H H1 H2 : Hp} (a : Buts ex H H1) (b : Buts ex H1 H2) : Buts ex H H2 := fun c o e n => b c o (a c o e n) n
theorem Buts.mono {ex ex' : List Addr} {H H' : Hp} (a : Buts ex H H') (h : ∀ x ∈ ex, x ∈ ex') : Buts ex' H H' := fun b o e n => a b o e fun z => n (h b z)
/-- none of these is a tuple -/
def NoTup (ex : List Addr) (H : Hp) : Prop := ∀ e ∈ ex, ∀ o, H e = some o → (∀ xs, o ≠ .tup xs) ∧ ∀ ob u, o ≠ .frz ob u
theorem Buts.sqt {K : PySem.W.Frag} {ex : List Addr} {H H' : Hp} {a : Addr} {xs : List V} (b : Buts ex H H') (n : NoTup ex H) (h : SqT K H a xs) : SqT K H' a xs := by
  rcases h with (h | ⟨o, h⟩) | h
  · exact .inl (.inl (b _ _ h fun z => (n a z _ h).1 _ rfl))
  · exact .inl (.inr ⟨o, b _ _ h fun z => (n a z _ h).2 _ _ rfl⟩)
  · exact .inr h
section
variable {K : PySem.W.Frag} {bad ex : List Addr} {H H' : Hp}
mutual
theorem Dq.buts (b : Buts ex H H') (n : NoTup ex H) (sub : ∀ e ∈ ex, e ∈ bad) : ∀ (d : PyData) (v : V), Dq K bad H v d → Dq K bad H' v d
  | .none, _, h => by cases h; exact .non
  | .bool x, _, h => by cases h; exact .bl x
  | .int i, _, h => by cases h; exact .int i
  | .str x, _, h => by cases h; exact .str x
  | .list ds, _, h => by
    cases h with
    | lst e hb ha => exact .lst (b _ _ e fun z => hb (sub _ z)) hb (Dq.butsAll b n sub ds _ ha)
  | .tuple ds, _, h => by
    cases h with
    | tup e ha => exact .tup (b.sqt n e) (Dq.butsAll b n sub ds _ ha)
  | .dict ds, _, h => by
    cases h with
    | dct e hb ha => exact .dct (b _ _ e fun z => hb (sub _ z)) hb (Dq.butsKv b n sub ds _ ha)
theorem Dq.butsAll (b : Buts ex H H') (n : NoTup ex H) (sub : ∀ e ∈ ex, e ∈ bad) : ∀ (ds : List PyData) (vs : List V), DqAll K bad H vs ds → DqAll K bad H' vs ds
  | [], _, h => by cases h; exact .nil
  | d :: ds, _, h => by
    cases h with
    | cons h1 h2 => exact .cons (Dq.buts b n sub d _ h1) (Dq.butsAll b n sub ds _ h2)
theorem Dq.butsKv (b : Buts ex H H') (n : NoTup ex H) (sub : ∀ e ∈ ex, e ∈ bad) : ∀ (ds : List (PyData × PyData)) (vs : List (Key × V)), DqKv K bad H vs ds → DqKv K bad H' vs ds
  | [], _, h => by cases h; exact .nil
  | d :: ds, _, h => by
    cases h with
    | cons h1 h2 => exact .cons (Dq.buts b n sub _ _ h1) (Dq.butsKv b n sub ds _ h2)
end
theorem Dq.same {d : PyData} {v : V} (h : Dq K bad H v d) (s : Same H H') : Dq K bad H' v d := Dq.buts (ex := []) (Buts.of s) (fun _ z => nomatch z) (fun _ z => nomatch z) d v h
theorem DqAll.same {ds : List PyData} {vs : List V} (h : DqAll K bad H vs ds) (s : Same H H') : DqAll K bad H' vs ds := Dq.butsAll (ex := []) (Buts.of s) (fun _ z => nomatch z) (fun _ z => nomatch z) ds vs h
theorem DqAll.length : ∀ {vs : List V} {ds : List PyData}, DqAll K bad H vs ds → vs.length = ds.length
  | _, _, .nil => rfl
  | _, _, .cons _ r => congrArg (· + 1) (DqAll.length r)
theorem DqAll.at : ∀ {vs : List V} {ds : List PyData} {i : Nat} {v : V}, DqAll K bad H vs ds → vs[i]? = some v → ∃ d, ds[i]? = some d ∧ Dq K bad H v d
  | _, _, i, v, .nil, e => by simp at e
  | _, _, 0, v, .cons (d := d) h _, e => by
    obtain rfl := Option.some.inj e
    exact ⟨d, rfl, h⟩
  | _, _, i + 1, v, .cons _ r, e => DqAll.at (i := i) r e
theorem DqAll.app : ∀ {vs ws : List V} {ds es : List PyData}, DqAll K bad H vs ds → DqAll K bad H ws es → DqAll K bad H (vs ++ ws) (ds ++ es)
  | _, _, _, _, .nil, h => h
  | _, _, _, _, .cons a r, h => .cons a (DqAll.app r h)
theorem DqAll.take : ∀ {vs : List V} {ds : List PyData} (n : Nat), DqAll K bad H vs ds → DqAll K bad H (vs.take n) (ds.take n)
  | _, _, 0, _ => .nil
  | _, _, n + 1, .nil => .nil
  | _, _, n + 1, .cons a r => .cons a (DqAll.take n r)
theorem DqAll.drop : ∀ {vs : List V} {ds : List PyData} (n : Nat), DqAll K bad H vs ds → DqAll K bad H (vs.drop n) (ds.drop n)
  | _, _, 0, h => h
  | _, _, n + 1, .nil => .nil
  | _, _, n + 1, .cons _ r => DqAll.drop n r
theorem DqAll.rev : ∀ {vs : List V} {ds : List PyData}, DqAll K bad H vs ds → DqAll K bad H vs.reverse ds.reverse
  | _, _, .nil => .nil
  | _, _, .cons (v := v) (vs := vs) (d := d) (ds := ds) a r => by
    rw [List.reverse_cons, List.reverse_cons]
    exact DqAll.app (DqAll.rev r) (.cons a .nil)
theorem DqAll.intro {f : α → V} {g : α → PyData} : ∀ (xs : List α), (∀ x ∈ xs, Dq K bad H (f x) (g x)) → DqAll K bad H (xs.map f) (xs.map g)
  | [], _ => .nil
  | x :: r, h => .cons (h x (List.mem_cons_self ..)) (DqAll.intro r fun y hy => h y (List.mem_cons_of_mem _ hy))
theorem tyx_seqt {a : Addr} {xs : List V} (h : SqT K H a xs) : TyX K H (.ref a) (.type "tuple") := by
  rcases h with (h | ⟨o, h⟩) | ⟨o, its, n, h, hc, _⟩
  · exact .base (.tup h)
  · exact .fTuple h
  · exact .kTuple h hc
/-- the type of such a value -/
def tyD : PyData → Value
  | .none => .type "NoneType"
  | .bool _ => .type "bool"
  | .int _ => .type "int"
  | .str _ => .type "str"
  | .list _ => .type "list"
  | .tuple _ => .type "tuple"
  | .dict _ => .type "dict"
theorem Dq.ty {d : PyData} {v : V} (h : Dq K bad H v d) : TyX K H v (tyD d) := by
  cases h with
  | non => exact .base .non
  | bl b => exact .base (.bl b)
  | int i => exact .base (.int i)
  | str x => exact .base (.str x)
  | lst e _ _ => exact .base (.lst e)
  | tup e _ => exact tyx_seqt e
  | dct e _ _ => exact .base (.dK e)
end

/-! #### their repr -/
theorem paired_keys {P : Program} {w : World} : ∀ {es : List DictEntry} {kvs : List (Key × V)} {vs : List (Key × Value)}, KV kvs vs → Pairs (mixKind P w) es vs → ∀ h : Heap, ∃ bs, ReadsAll h (es.map (·.key)) (kvs.map fun p => keyD p.1) bs ∧ bs = []
  | _, _, _, .nil, .nil, h => ⟨[], .nil, rfl⟩
  | _, _, _, .cons (a := p) (b := q) r rr, .cons (e := e) ke ve pr, h => by
    obtain ⟨bs, h1, rfl⟩ := paired_keys rr pr h
    have k1 : keyIs q.1 e.key = true := ke
    rw [← r.1] at k1
    rcases keyIs_shape k1 with ⟨i, t, e1, e2⟩ | ⟨x, t, e1, e2⟩
    · have r1 : Reads h e.key (keyD p.1) [] := by rw [e2, e1]; exact Reads.int i t
      exact ⟨[] ++ [], ReadsAll.cons r1 h1, rfl⟩
    · have r1 : Reads h e.key (keyD p.1) [] := by rw [e2, e1]; exact Reads.str x t
      exact ⟨[] ++ [], ReadsAll.cons r1 h1, rfl⟩
section
variable {X : Cx} {pins : List (Addr × Obj)} {σ : L2.St} {H : Hp} {s : Shared} {bad : List Addr}
mutual
theorem Dq.reads (I : Inv X pins σ H s) (hb : sysModules ∈ bad) : ∀ (d : PyData) (v : V) (u : Value), Dq X.K bad H v d → RelV v u → ∃ as, Reads s.heap u d as ∧ sysModules ∉ as
  | .none, _, _, h, r => by cases h; cases r; exact ⟨_, Reads.none, fun z => nomatch z⟩
  | .bool b, _, _, h, r => by cases h; cases r; exact ⟨_, Reads.bool b, fun z => nomatch z⟩
  | .int i, _, _, h, r => by cases h; obtain ⟨t, rfl⟩ := r; exact ⟨_, Reads.int i t, fun z => nomatch z⟩
  | .str x, _, _, h, r => by cases h; obtain ⟨t, rfl⟩ := r; exact ⟨_, Reads.str x t, fun z => nomatch z⟩
  | .list ds, _, _, h, r => by
    cases h with
    | lst e nb ha =>
      cases r
      obtain ⟨hz, its, n, rv, hg⟩ := (show ObjOk X.prog X.w H s.heap _ (.lst _) from I.hok _ _ e)
      obtain ⟨as, hr, ns⟩ := Dq.readsAll I hb ds _ its ha rv
      refine ⟨_, Reads.list hg rfl rfl hr, fun z => ?_⟩
      rcases List.mem_cons.mp z with z | z
      · exact nb (z ▸ hb)
      · exact ns z
  | .tuple ds, _, _, h, r => by
    cases h with
    | tup e ha =>
      cases r
      obtain ⟨its, rv, ⟨o, ho, hc, n, hd⟩, _⟩ := I.tuple e
      obtain ⟨as, hr, ns⟩ := Dq.readsAll I hb ds _ its ha rv
      exact ⟨_, Reads.tuple ho hc hd hr, ns⟩
  | .dict ds, _, _, h, r => by
    cases h with
    | dct e nb ha =>
      cases r
      obtain ⟨hz, hm, vs, rel, o, es, ep, ho, hx, hd, _, pr, _⟩ := dk_of I.hok e
      obtain ⟨bs, h1, hbs⟩ := paired_keys rel pr s.heap
      have hk := Dq.kvKeys ds _ ha
      obtain ⟨cs, h2, ns⟩ := Dq.readsKv I hb ds _ vs es.toList ha rel pr
      rw [hk] at h1
      refine ⟨_, Reads.dict ho hx.1 hd h1 h2, fun z => ?_⟩
      subst hbs
      rcases List.mem_cons.mp z with z | z
      · exact nb (z ▸ hb)
      · exact ns z
theorem Dq.kvKeys : ∀ (ds : List (PyData × PyData)) (kvs : List (Key × V)), DqKv X.K bad H kvs ds → (kvs.map fun p => keyD p.1) = ds.map (·.1)
  | [], _, h => by cases h; rfl
  | d :: ds, _, h => by
    cases h with
    | cons h1 h2 => exact congrArg _ (Dq.kvKeys ds _ h2)
theorem Dq.readsKv (I : Inv X pins σ H s) (hb : sysModules ∈ bad) : ∀ (ds : List (PyData × PyData)) (kvs : List (Key × V)) (vs : List (Key × Value)) (es : List DictEntry), DqKv X.K bad H kvs ds → KV kvs vs → Pairs (mixKind X.prog X.w) es vs → ∃ as, ReadsAll s.heap (es.map (·.val)) (ds.map (·.2)) as ∧ sysModules ∉ as
  | [], _, _, _, h, r, p => by
    cases h
    cases r
    cases p
    exact ⟨_, ReadsAll.nil, fun z => nomatch z⟩
  | d :: ds, _, _, _, h, r, p => by
    cases h with
    | cons h1 h2 =>
      cases r with
      | cons r1 r2 =>
        cases p with
        | cons k1 v1 p2 =>
          obtain ⟨as, ha, na⟩ := Dq.reads I hb _ _ _ h1 r1.2
          obtain ⟨bs, hbs, nb⟩ := Dq.readsKv I hb ds _ _ _ h2 r2 p2
          rw [← v1] at ha
          refine ⟨_, ReadsAll.cons ha hbs, fun z => ?_⟩
          rcases List.mem_append.mp z with z | z
          · exact na z
          · exact nb z
theorem Dq.readsAll (I : Inv X pins σ H s) (hb : sysModules ∈ bad) : ∀ (ds : List PyData) (vs : List V) (us : List Value), DqAll X.K bad H vs ds → Vals vs us → ∃ as, ReadsAll s.heap us ds as ∧ sysModules ∉ as
  | [], _, _, h, r => by cases h; cases r; exact ⟨_, ReadsAll.nil, fun z => nomatch z⟩
  | d :: ds, _, _, h, r => by
    cases h with
    | cons h1 h2 =>
      cases r with
      | cons r1 r2 =>
        obtain ⟨as, ha, na⟩ := Dq.reads I hb d _ _ h1 r1
        obtain ⟨bs, hbs, nb⟩ := Dq.readsAll I hb ds _ _ h2 r2
        refine ⟨_, ReadsAll.cons ha hbs, fun z => ?_⟩
        rcases List.mem_append.mp z with z | z
        · exact na z
        · exact nb z
end
end
section
variable {X : Cx}
def rReprQ (K : PySem.W.Frag) : List V → Hp → VK → Prop := fun xs H Q => ∃ x d bad, xs = [x] ∧ Dq K bad H x d ∧ sysModules ∈ bad ∧ d.showable = true ∧ d.depth ≤ 60 ∧ d.shown.length ≤ sizeLine ∧ Q (.str d.shown) H
theorem call_reprQ (hg : X.A.guards = some []) (hu : X.A.units + 64 < cLine) : CallR X (.builtin "repr") (rReprQ X.K) := by
  intro pins s σ H xs us Q I r h
  obtain ⟨x, d, bad, rfl, hd, hb, hs, hdp, hl, q⟩ := h
  obtain ⟨u, rfl, rx⟩ := vals1 r
  obtain ⟨as, rd, ns⟩ := Dq.reads I hb d x u hd rx
  cases hd with
  | non => cases rx; exact PySem.P.repr_of_none ⟨.str _, H, I.tok _, ⟨_, rfl⟩, q⟩
  | bl b => cases rx; exact PySem.P.repr_of_bool ⟨.str _, H, I.tok _, ⟨_, rfl⟩, q⟩
  | int i => obtain ⟨t, rfl⟩ := rx; exact PySem.P.repr_of_int (by simpa [PyData.showable] using hs) ⟨.str _, H, I.tok _, ⟨_, rfl⟩, q⟩
  | str z => obtain ⟨t, rfl⟩ := rx; exact PySem.P.repr_of_str (hsz := hl) ⟨.str _, H, I.tok _, ⟨_, rfl⟩, q⟩
  | lst h1 h2 h3 =>
    cases rx
    exact repr_of_reads' rd hs (fun _ => ns) hg (by omega) (fun _ _ e => e) (fun h' u tk hk => ⟨.str _, H, I.kept (t' := tk) hk, ⟨_, rfl⟩, q⟩) hl
  | tup h1 h2 =>
    cases rx
    exact repr_of_reads' rd hs (fun _ => ns) hg (by omega) (fun _ _ e => e) (fun h' u tk hk => ⟨.str _, H, I.kept (t' := tk) hk, ⟨_, rfl⟩, q⟩) hl
  | dct h1 h2 h3 =>
    cases rx
    exact repr_of_reads' rd hs (fun _ => ns) hg (by omega) (fun _ _ e => e) (fun h' u tk hk => ⟨.str _, H, I.kept (t' := tk) hk, ⟨_, rfl⟩, q⟩) hl
end
/-! #### new lists and dicts stand apart from the module table -/
def tLstX (t : TA) : TE := fun σ H Q => t σ H fun xs H1 => xs.length ≤ sizeLine ∧ ∀ p, H1 p = none → p ≠ sysModules → Q (.ref p) (upd H1 p (.lst xs))
theorem pe_lstX {X : Cx} {es : List Expr} {t : TA} {pos : Pos} (h : PA X es t) : PE X (.List es pos) (tLstX t) := by
  constructor
  intro pins s σ H Q I hq
  refine wpAny_List_spliced (thn (h.run pos pins s σ H _ I hq) fun us s1 y => ?_)
  obtain ⟨xs, H1, I1, r, z, q⟩ := y
  refine ⟨by rw [← r.length]; exact z, .ref s1.heap.objs.size, upd H1 s1.heap.objs.size (.lst xs), ?_, rfl, q _ (I1.hok.fresh (Nat.le_refl _)) (Nat.ne_of_gt I1.big)⟩
  exact I1.laid (t' := s1.toks) (fun b u e => Heap.get?_push_of_some _ e) (Nat.le_refl _) ⟨z, us, 0, r, Heap.get?_push_size _ rfl⟩
/-! #### items of lists and tuples, said of one written part -/
theorem ix_listK {X : Cx} {K : PySem.W.Frag} (hK : X.K = K) : IxR X (rIxL K) := by
  subst hK
  exact ix_list
end Rk
namespace Rk
open PySem PySem.Spec PyProof.Rows L2 GenW

/-! ### stores: the lost points, as a dict -/
def dL (ps : List Nat) : List (Key × V) := ps.map fun n => (Sum.inl ((n : Nat) : Int), V.bl true)
theorem dL_len (ps : List Nat) : (dL ps).length = ps.length := List.length_map ..
theorem dL_val (n : Nat) : ∀ ps : List Nat, valV (dL ps) (.inl ((n : Nat) : Int)) = if n ∈ ps then some (.bl true) else none
  | [] => by simp [dL, valV]
  | p :: r => by
    have ih := dL_val n r
    show valV ((Sum.inl ((p : Nat) : Int), V.bl true) :: dL r) _ = _
    by_cases e : p = n
    · rw [valV_pos (by rw [e]), if_pos (by rw [e]; exact List.mem_cons_self ..)]
    · rw [valV_neg (fun z => e (by injection z with z; omega)), ih]
      by_cases m : n ∈ r
      · rw [if_pos m, if_pos (List.mem_cons_of_mem _ m)]
      · rw [if_neg m, if_neg (fun z => by rcases List.mem_cons.mp z with z | z; exact e z.symm; exact m z)]
theorem dL_some (ps : List Nat) (n : Nat) : (valV (dL ps) (.inl ((n : Nat) : Int))).isSome = decide (n ∈ ps) := by
  rw [dL_val]
  by_cases m : n ∈ ps
  · rw [if_pos m, decide_eq_true m]; rfl
  · rw [if_neg m, decide_eq_false m]; rfl
theorem dL_put {ps : List Nat} {n : Nat} (h : n ∉ ps) : putK (dL ps) (.inl ((n : Nat) : Int)) (.bl true) = dL (ps ++ [n]) := by
  unfold putK
  rw [valV_any, dL_some, decide_eq_false h, if_neg (by decide)]
  unfold dL
  rw [List.map_append]
  rfl
/-! ### {n: True for n in d if p(n)} -/
section
variable {d D : Addr} {o : Obj} {ps : List Nat} {p : Nat → Bool} {g : TG} {tt : TT} {tk tv : TE} {vs : List Nat} {σ : L2.St} {H1 : Hp} {Qd : Hp → Prop}
theorem take_notin {ps : List Nat} (nd : ps.Nodup) {i n : Nat} (h : ps[i]? = some n) : n ∉ ps.take i := by
  intro hm
  obtain ⟨j, hj⟩ := List.mem_iff_getElem?.mp hm
  rw [List.getElem?_take] at hj
  by_cases c : j < i
  · rw [if_pos c] at hj
    obtain ⟨a1, a2⟩ := List.getElem?_eq_some_iff.mp hj
    obtain ⟨b1, b2⟩ := List.getElem?_eq_some_iff.mp h
    have := (List.nodup_iff_pairwise_ne.mp nd)
    have q := List.pairwise_iff_getElem.mp this j i a1 b1 c
    exact q (a2.trans b2.symm)
  · rw [if_neg c] at hj
    cases hj
theorem dc_keysN (hD : H1 D = none) (hd : H1 d = some (.frz o (.dK (dL ps)))) (hl : ps.length < sizeLine) (nd : ps.Nodup)
    (hs : ∀ n H', n ∈ ps → Same H1 H' → ∀ (N : V → V → Hp → Prop) (S : Hp → Prop), (p n = true → ∀ H5, Same H' H5 → N (.int ((n : Nat) : Int)) (.bl true) H5) → (p n = false → ∀ H3, Same H' H3 → S H3) →
      g (.int ((n : Nat) : Int)) (wipe σ vs) H' fun σ2 H2 => wipe σ2 vs = wipe σ vs ∧ tt σ2 H2 fun c H3 => if c = true then tk σ2 H3 fun y H4 => tv σ2 H4 fun z H5 => N y z H5 else S H3)
    (he : ∀ H', Same H1 H' → H' D = some (.dK (dL (ps.filter p))) → Qd H') :
    ∃ W : Nat → Nat → Hp → Prop, (∃ m, W 0 m (upd H1 D (.dK []))) ∧ ∀ i m H, W i m H →
      ((Itk d o (dL ps)).stop i H ∧ Qd H) ∨ ((Itk d o (dL ps)).go i H ∧ ∃ Nx : Hp → Prop, (∀ H', Nx H' → ∃ m', m' < m ∧ W (i + 1) m' H') ∧ ∀ x H', (Itk d o (dL ps)).yld i H x H' → g x (wipe σ vs) H' fun σ2 H2 => wipe σ2 vs = wipe σ vs ∧ tt σ2 H2 fun b H3 =>
        if b = true then tk σ2 H3 fun y H4 => tv σ2 H4 fun z H5 => ∃ kvs k, y = kV k ∧ H5 D = some (.dK kvs) ∧ kvs.length < sizeLine ∧ Nx (upd H5 D (.dK (putK kvs k z))) else Nx H3) := by
  refine ⟨fun i m H => m = ps.length - i ∧ i ≤ ps.length ∧ Same H1 H ∧ H D = some (.dK (dL ((ps.take i).filter p))), ⟨ps.length, by simp, Nat.zero_le _, same_upd hD, upd_same⟩, ?_⟩
  rintro i m H ⟨rfl, hi, sm, eD⟩
  by_cases hlt : i < ps.length
  · refine .inr ⟨⟨sm _ _ hd, by rw [dL_len]; exact hlt⟩, fun H' => Same H1 H' ∧ H' D = some (.dK (dL ((ps.take (i + 1)).filter p))), fun H' z => ⟨ps.length - (i + 1), by omega, rfl, hlt, z⟩, fun x H' y => ?_⟩
    obtain ⟨rfl, k, v, hk, rfl⟩ := y
    have hn : ps[i]? = some ps[i] := List.getElem?_eq_getElem hlt
    have hk2 : (dL ps)[i]? = some (Sum.inl ((ps[i] : Nat) : Int), V.bl true) := by
      unfold dL
      rw [List.getElem?_map, hn]
      rfl
    rw [hk2] at hk
    obtain ⟨rfl, rfl⟩ := Prod.mk.inj (Option.some.inj hk)
    have et : ps.take (i + 1) = ps.take i ++ [ps[i]] := by rw [List.take_add_one, hn]; rfl
    have hm : ps[i] ∈ ps := List.getElem_mem hlt
    have nin := take_notin nd hn
    generalize ps[i] = n at *
    refine hs n H' hm sm (fun y z H5 => ∃ kvs k, y = kV k ∧ H5 D = some (.dK kvs) ∧ kvs.length < sizeLine ∧ (Same H1 (upd H5 D (.dK (putK kvs k z))) ∧ upd H5 D (.dK (putK kvs k z)) D = some (.dK (dL ((ps.take (i + 1)).filter p))))) (fun H3 => Same H1 H3 ∧ H3 D = some (.dK (dL ((ps.take (i + 1)).filter p)))) (fun hp H5 s5 => ?_) (fun hp H3 s3 => ?_)
    · refine ⟨dL ((ps.take i).filter p), .inl ((n : Nat) : Int), rfl, s5 _ _ eD, ?_, fun b u z => ?_, ?_⟩
      · refine Nat.lt_of_le_of_lt ?_ hl
        rw [dL_len]
        exact Nat.le_trans (List.length_filter_le _ _) (by rw [List.length_take]; omega)
      · rw [upd_ne (ne_of_none z hD)]
        exact s5 b u (sm b u z)
      · rw [upd_same, dL_put (fun z => nin (List.mem_filter.mp z).1), et, List.filter_append, filter_yes p hp]
    · refine ⟨sm.trans s3, ?_⟩
      rw [s3 _ _ eD, et, List.filter_append, filter_no p hp, List.append_nil]
  · have e : i = ps.length := by omega
    subst e
    rw [List.take_length] at eD
    exact .inl ⟨⟨sm _ _ hd, by rw [dL_len]; exact Nat.le_refl _⟩, he H sm eD⟩
end

/-! ### methods and properties of own classes, called from anywhere -/
structure MethO (P : Program) (w : World) (K : PySem.W.Frag) (mg : Str → Option Value) (base : Heap) (k : Nat) (C : Addr) (m : Str) (sp : Sp) : Prop where
  ex : ∃ (f : Addr) (fd : FuncData) (ps : List Str), Meth K C m f ∧ Binds K fd ps [] ∧ FnOk P w K mg base CX0 k f fd ps sp
structure PropO (P : Program) (w : World) (K : PySem.W.Frag) (mg : Str → Option Value) (base : Heap) (k : Nat) (C : Addr) (m : Str) (sp : Sp) : Prop where
  ex : ∃ (p f : Addr) (fd : FuncData) (ps : List Str), PropOf K C m p f ∧ Binds K fd ps [] ∧ FnOk P w K mg base CX0 k f fd ps sp
section
variable {X : Cx} {k : Nat} {C : Addr} {m : Str} {sp : Sp} {o e : Expr} {es : List Expr} {pos apos : Pos} {ta : TE} {t : TA} {pl : Sem Bool}
theorem pe_methO (h : MethO X.prog X.w X.K X.mg X.base k C m sp) (hr : Room k X.A) (c : Cls X.K C) (he : PE X o ta) (ha : PA X (e :: es) t)
    (hst : starEach (e :: es) X.env = (false, eval e X.env) :: starEach es X.env := by rfl) (hpl : (backTo pos (starEach es X.env)).any (·.1) = false := by rfl)
    (ht : eval (.Call (.Attribute o m apos) (e :: es) [] pos) X.env = (do
      let ov ← eval o X.env
      standAt apos.atName
      let (f, first) ← holding [ov] (getMethod ov m pl)
      callWith pos f first (backTo pos (starEach (e :: es) X.env)) (backToKw pos (keywordEach [] X.env))) := by rfl) :
    PE X (.Call (.Attribute o m apos) (e :: es) [] pos) (tMeth C m sp [] E0 ta t) := by
  obtain ⟨f, fd, ps, hm, hb, F⟩ := h.ex
  exact pe_meth (pl := pl) he c hm F hr hb .nil pass0 ha hst hpl ht
theorem pe_methO0 (h : MethO X.prog X.w X.K X.mg X.base k C m sp) (hr : Room k X.A) (c : Cls X.K C) (he : PE X o ta)
    (ht : eval (.Call (.Attribute o m apos) [] [] pos) X.env = (do
      let ov ← eval o X.env
      standAt apos.atName
      let (f, first) ← holding [ov] (getMethod ov m pl)
      callWith pos f first (backTo pos (starEach [] X.env)) (backToKw pos (keywordEach [] X.env))) := by rfl) :
    PE X (.Call (.Attribute o m apos) [] [] pos) (tMeth C m sp [] E0 ta tNil) := by
  obtain ⟨f, fd, ps, hm, hb, F⟩ := h.ex
  exact pe_meth0 (pl := pl) he c hm F hr hb .nil pass0 ht
theorem pe_propO {f : Str} (h : PropO X.prog X.w X.K X.mg X.base k C f sp) (hr : Room (k + 1) X.A) (c : Cls X.K C) (he : PE X e ta) (hab : attributeBase e f X.env (eval e X.env) = eval e X.env) : PE X (.Attribute e f pos) (tProp C sp [] E0 ta) := by
  obtain ⟨p, g, fd, ps, hp, hb, F⟩ := h.ex
  exact pe_prop he c hp F hr hb .nil pass0 hab
end
/-- o.f, said with K itself (inside comprehensions) -/
theorem pe_fldK {X : Cx} {K : PySem.W.Frag} {e : Expr} {f : Str} {pos : Pos} {ta : TE} (hK : X.K = K) (he : PE X e ta) (hb : attributeBase e f X.env (eval e X.env) = eval e X.env) : PE X (.Attribute e f pos) (tFld K ta f) := by
  subst hK
  exact pe_fld he hb
theorem call_lenD {X : Cx} : CallR X (.builtin "len") (fun xs H Q => ∃ (a : Addr) (kvs : List (Key × V)), xs = [.ref a] ∧ Rd H a (.dK kvs) ∧ Q (.int kvs.length) H) := by
  intro pins s σ H xs us Q I r h
  obtain ⟨a, kvs, rfl, e, q⟩ := h
  obtain rfl := Vals.ref1 r
  exact d_len I e fun t s' I' => ⟨.int _, H, I', ⟨_, rfl⟩, q⟩
/-! ### what a store holds -/
def stF (t : Nat) (r k d : Addr) : List (Str × V) := [("_tick", .int ((t : Nat) : Int)), ("_rule", .ref r), ("_kept", .ref k), ("_lost", .ref d)]
theorem stF_tick {t : Nat} {r k d : Addr} : (stF t r k d).lookup ("_tick" : Str) = some (V.int ((t : Nat) : Int)) := rfl
theorem stF_rule {t : Nat} {r k d : Addr} : (stF t r k d).lookup ("_rule" : Str) = some (V.ref r) := rfl
theorem stF_kept {t : Nat} {r k d : Addr} : (stF t r k d).lookup ("_kept" : Str) = some (V.ref k) := rfl
theorem stF_lost {t : Nat} {r k d : Addr} : (stF t r k d).lookup ("_lost" : Str) = some (V.ref d) := rfl
theorem putF_tick {t u : Nat} {r k d : Addr} : putF "_tick" (.int ((u : Nat) : Int)) (stF t r k d) = stF u r k d := rfl
theorem putF_rule {t : Nat} {r k d q : Addr} : putF "_rule" (.ref q) (stF t r k d) = stF t q k d := rfl
theorem putF_kept {t : Nat} {r k d q : Addr} : putF "_kept" (.ref q) (stF t r k d) = stF t r q d := rfl
theorem putF_lost {t : Nat} {r k d q : Addr} : putF "_lost" (.ref q) (stF t r k d) = stF t r k q := rfl
theorem putF_new {t : Nat} {r k d : Addr} : putF "_lost" (.ref d) (putF "_kept" (.ref k) (putF "_rule" (.ref r) (putF "_tick" (.int ((t : Nat) : Int)) []))) = stF t r k d := rfl

/-! ### the points of a store -/
def notIn (lost : List Nat) : Nat → Bool := fun n => !decide (n ∈ lost)
def ptsL (ks : List (Option Int)) (t : Nat) (lost : List Nat) : List Nat := (keptL ks t).filter (notIn lost)
def passN (ls : List (Option Int)) (t : Nat) (pts : List Nat) : Nat → List Nat
  | 0 => pts
  | n + 1 => (passN ls t pts n ++ [t + (n + 1)]).filter (kB ls (t + (n + 1)))
theorem passN_len (ls : List (Option Int)) (t : Nat) (pts : List Nat) : ∀ n, (passN ls t pts n).length ≤ pts.length + n
  | 0 => Nat.le_refl _
  | n + 1 => by
    have h := passN_len ls t pts n
    refine Nat.le_trans (List.length_filter_le _ _) ?_
    rw [List.length_append]
    show (passN ls t pts n).length + 1 ≤ _
    omega
theorem kB_short {ls : List (Option Int)} (h0 : 0 < ls.length) (t : Nat) : kB (short ls) t = kB ls t := funext fun n => keptB_short h0 _ _
theorem passN_short {ls : List (Option Int)} (h0 : 0 < ls.length) (t : Nat) (pts : List Nat) : ∀ n, passN (short ls) t pts n = passN ls t pts n
  | 0 => rfl
  | n + 1 => by
    show (passN (short ls) t pts n ++ [t + (n + 1)]).filter (kB (short ls) (t + (n + 1))) = _
    rw [passN_short h0 t pts n, kB_short h0]
    rfl
theorem nodupF {p : Nat → Bool} {ys : List Nat} (h : ys.Nodup) : (ys.filter p).Nodup := List.Pairwise.filter _ h
theorem ne_len {a : Nat} : ∀ {ys : List Nat}, ys.Nodup → a ∈ ys → (ys.filter fun n => !decide (n = a)).length + 1 = ys.length
  | [], _, h => nomatch h
  | y :: r, nd, h => by
    obtain ⟨n1, n2⟩ := List.nodup_cons.mp nd
    by_cases e : y = a
    · subst e
      rw [List.filter_cons_of_neg (by simp), List.filter_eq_self.mpr]
      · rfl
      · intro b hb
        have : b ≠ y := fun z => n1 (z ▸ hb)
        simp [this]
    · have h2 : a ∈ r := by
        rcases List.mem_cons.mp h with z | z
        · exact absurd z.symm e
        · exact z
      rw [List.filter_cons_of_pos (by simp [e]), List.length_cons, ne_len n2 h2, List.length_cons]
theorem notIn_cons (a : Nat) (r : List Nat) (ys : List Nat) : ys.filter (notIn (a :: r)) = (ys.filter (notIn r)).filter fun n => !decide (n = a) := by
  rw [List.filter_filter]
  refine List.filter_congr fun n _ => ?_
  unfold notIn
  by_cases h1 : n = a
  · subst h1; simp
  · simp [h1]
theorem notIn_snoc (a : Nat) (r : List Nat) (ys : List Nat) : ys.filter (notIn (r ++ [a])) = (ys.filter (notIn r)).filter fun n => !decide (n = a) := by
  rw [List.filter_filter]
  refine List.filter_congr fun n _ => ?_
  unfold notIn
  by_cases h1 : n = a
  · subst h1; simp
  · simp [h1]
theorem minus_len : ∀ {lost ys : List Nat}, lost.Nodup → ys.Nodup → (∀ p ∈ lost, p ∈ ys) → (ys.filter (notIn lost)).length + lost.length = ys.length
  | [], ys, _, _, _ => by
    rw [List.filter_eq_self.mpr (fun n _ => by unfold notIn; simp)]
    rfl
  | a :: r, ys, nd, ny, hs => by
    obtain ⟨n1, n2⟩ := List.nodup_cons.mp nd
    have ih := minus_len n2 ny fun p hp => hs p (List.mem_cons_of_mem _ hp)
    have hm : a ∈ ys.filter (notIn r) := List.mem_filter.mpr ⟨hs a (List.mem_cons_self ..), by unfold notIn; simp [n1]⟩
    have q := ne_len (nodupF ny) hm
    rw [notIn_cons, List.length_cons]
    omega
theorem keptL_nodup (ls : List (Option Int)) (t : Nat) : (keptL ls t).Nodup := nodupF List.nodup_range
structure StM (B : Int) (t : Nat) (rs ks : List (Option Int)) (lost : List Nat) : Prop where
  rr : RL B rs
  rk : RL B ks
  le : ∀ i, leO (lifeAt ks i) (lifeAt rs i) = true
  nd : lost.Nodup
  sub : ∀ p ∈ lost, p ∈ keptL ks t
theorem StM.size {B : Int} {t : Nat} {rs ks : List (Option Int)} {lost : List Nat} (h : StM B t rs ks lost) : (ptsL ks t lost).length + lost.length = (keptL ks t).length := minus_len h.nd (keptL_nodup _ _) h.sub
theorem StM.mono {B B' : Int} {t : Nat} {rs ks : List (Option Int)} {lost : List Nat} (h : StM B t rs ks lost) (b : B ≤ B') : StM B' t rs ks lost := ⟨h.rr.mono b, h.rk.mono b, h.le, h.nd, h.sub⟩
theorem StM.new {B : Int} {ls : List (Option Int)} (r : RL B ls) (t : Nat) : StM B t ls ls [] := ⟨r, r, fun _ => leO_refl _, List.nodup_nil, fun _ z => nomatch z⟩
theorem ptsL_nil (ks : List (Option Int)) (t : Nat) : ptsL ks t [] = keptL ks t := List.filter_eq_self.mpr fun n _ => by unfold notIn; simp
theorem kB_le {ks rs : List (Option Int)} (le : ∀ i, leO (lifeAt ks i) (lifeAt rs i) = true) {t n : Nat} (h : kB ks t n = true) : kB rs t n = true := by
  unfold kB keptB at h ⊢
  obtain ⟨h1, h2⟩ := Bool.and_eq_true_iff.mp h
  exact Bool.and_eq_true_iff.mpr ⟨h1, leO_trans h2 (le _)⟩
theorem pts_lost {ks : List (Option Int)} {t : Nat} {lost : List Nat} : (keptL ks t).filter (notIn (lost.filter (kB ks t))) = (keptL ks t).filter (notIn lost) := by
  refine List.filter_congr fun n hn => ?_
  have hk : kB ks t n = true := (List.mem_filter.mp hn).2
  unfold notIn
  congr 1
  refine decide_eq_decide.mpr ?_
  rw [List.mem_filter]
  exact ⟨fun z => z.1, fun z => ⟨z, hk⟩⟩
theorem mem_keptL {ks : List (Option Int)} {t n : Nat} : n ∈ keptL ks t ↔ n ≤ t ∧ kB ks t n = true := by
  unfold keptL
  rw [List.mem_filter, List.mem_range]
  constructor
  · rintro ⟨a, b⟩
    exact ⟨by omega, b⟩
  · rintro ⟨a, b⟩
    exact ⟨by omega, b⟩
theorem RL.chgS {B : Int} {ls ms : List (Option Int)} (a : RL B ls) (b : RL B ms) (u : Nat) : RL (B + u) (Rk.short (chgL ls ms u)) := (a.chg b (by omega)).short
theorem lifeAt_chgS {ks rs : List (Option Int)} (h0 : 0 < ks.length) (h1 : 0 < rs.length) (u : Int) (i : Nat) : lifeAt (short (chgL ks rs u)) i = minO (lifeAt rs i) (addO u (lifeAt ks i)) := by
  rw [lifeAt_short (by rw [chgL_len]; omega), lifeAt_chg h0 h1]
theorem adv_pts {B : Int} {t : Nat} {rs ks : List (Option Int)} {lost : List Nat} (h : StM B t rs ks lost) : ∀ n : Nat, (keptL (chgL ks rs ((n : Nat) : Int)) (t + n)).filter (notIn lost) = passN rs t (ptsL ks t lost) n
  | 0 => by
    show (keptL (chgL ks rs 0) t).filter (notIn lost) = (keptL ks t).filter (notIn lost)
    have e : (keptL ks t).filter (kB rs t) = keptL ks t := List.filter_eq_self.mpr fun n hn => kB_le h.le (mem_keptL.mp hn).2
    rw [keptL_chg0 h.rk.pos h.rr.pos, e]
  | n + 1 => by
    have ih := adv_pts h n
    show _ = (passN rs t (ptsL ks t lost) n ++ [t + (n + 1)]).filter (kB rs (t + (n + 1)))
    have e1 : (((n + 1 : Nat)) : Int) = ((n : Nat) : Int) + 1 := by omega
    rw [e1, show t + (n + 1) = (t + n) + 1 by omega, keptL_step h.rk.pos h.rr.pos (fun i v e => (h.rk.bd i v e).1), ← ih]
    have hx : notIn lost ((t + n) + 1) = true := by
      unfold notIn
      rw [decide_eq_false]
      · rfl
      · intro z
        have := (mem_keptL.mp (h.sub _ z)).1
        omega
    generalize keptL (chgL ks rs ((n : Nat) : Int)) (t + n) = A
    have e2 : A.filter (notIn lost) ++ [(t + n) + 1] = (A ++ [(t + n) + 1]).filter (notIn lost) := by rw [List.filter_append, filter_yes _ hx]
    rw [e2, List.filter_filter, List.filter_filter]
    exact List.filter_congr fun m _ => Bool.and_comm _ _
theorem StM.adv {B : Int} {t : Nat} {rs ks : List (Option Int)} {lost : List Nat} (h : StM B t rs ks lost) (n : Nat) :
    StM (B + n) (t + n) rs (short (chgL ks rs ((n : Nat) : Int))) (lost.filter (kB (short (chgL ks rs ((n : Nat) : Int))) (t + n))) ∧ ptsL (short (chgL ks rs ((n : Nat) : Int))) (t + n) (lost.filter (kB (short (chgL ks rs ((n : Nat) : Int))) (t + n))) = passN rs t (ptsL ks t lost) n := by
  refine ⟨⟨h.rr.mono (by omega), h.rk.chgS h.rr n, fun i => ?_, nodupF h.nd, fun p hp => ?_⟩, ?_⟩
  · rw [lifeAt_chgS h.rk.pos h.rr.pos]
    exact minO_le
  · obtain ⟨h1, h2⟩ := List.mem_filter.mp hp
    exact mem_keptL.mpr ⟨by have := (mem_keptL.mp (h.sub _ h1)).1; omega, h2⟩
  · unfold ptsL
    rw [pts_lost, keptL_short (by rw [chgL_len]; have := h.rk.pos; omega)]
    exact adv_pts h n
theorem StM.chg {B : Int} {t : Nat} {rs ks ms : List (Option Int)} {lost : List Nat} (h : StM B t rs ks lost) (r : RL B ms) :
    StM B t ms (short (chgL ks ms 0)) (lost.filter (kB (short (chgL ks ms 0)) t)) ∧ ptsL (short (chgL ks ms 0)) t (lost.filter (kB (short (chgL ks ms 0)) t)) = (ptsL ks t lost).filter (kB ms t) := by
  refine ⟨⟨r, (h.rk.chgS r 0).mono (by omega), fun i => ?_, nodupF h.nd, fun p hp => ?_⟩, ?_⟩
  · rw [lifeAt_chgS h.rk.pos r.pos]
    exact minO_le
  · obtain ⟨h1, h2⟩ := List.mem_filter.mp hp
    exact mem_keptL.mpr ⟨(mem_keptL.mp (h.sub _ h1)).1, h2⟩
  · unfold ptsL
    rw [pts_lost, keptL_short (by rw [chgL_len]; have := h.rk.pos; omega), keptL_chg0 h.rk.pos r.pos, List.filter_filter, List.filter_filter]
    exact List.filter_congr fun m _ => Bool.and_comm _ _
theorem StM.lose {B : Int} {t : Nat} {rs ks : List (Option Int)} {lost : List Nat} (h : StM B t rs ks lost) {p : Nat} (hp : p ∈ ptsL ks t lost) :
    StM B t rs ks (lost ++ [p]) ∧ ptsL ks t (lost ++ [p]) = (ptsL ks t lost).filter fun n => !decide (n = p) := by
  obtain ⟨h1, h2⟩ := List.mem_filter.mp hp
  have h3 : p ∉ lost := by
    unfold notIn at h2
    intro z
    rw [decide_eq_true z] at h2
    cases h2
  refine ⟨⟨h.rr, h.rk, h.le, ?_, fun q hq => ?_⟩, notIn_snoc _ _ _⟩
  · refine List.nodup_append.mpr ⟨h.nd, by simp, fun a ha b hb => ?_⟩
    rw [List.mem_singleton.mp hb]
    exact fun z => h3 (z ▸ ha)
  · rcases List.mem_append.mp hq with z | z
    · exact h.sub q z
    · rw [List.mem_singleton.mp z]
      exact h1
end Rk
namespace Rk
open PySem PySem.Spec PyProof.Rows L2 GenW

/-! ### the greater and the lesser one, None being the greatest -/
theorem maxO_l (y : Option Int) : maxO none y = none := by cases y <;> rfl
theorem maxO_r (x : Option Int) : maxO x none = none := by cases x <;> rfl
theorem minO_l (y : Option Int) : minO none y = y := by cases y <;> rfl
theorem minO_r (x : Option Int) : minO x none = x := by cases x <;> rfl
theorem maxO_ss (a b : Int) : maxO (some a) (some b) = some (max a b) := by
  show (if decide (a ≤ b) = true then some b else some a) = _
  by_cases h : a ≤ b
  · rw [if_pos (decide_eq_true h)]; congr 1; omega
  · rw [if_neg (fun z => h (of_decide_eq_true z))]; congr 1; omega
theorem minO_ss (a b : Int) : minO (some a) (some b) = some (min a b) := by
  show (if decide (a ≤ b) = true then some a else some b) = _
  by_cases h : a ≤ b
  · rw [if_pos (decide_eq_true h)]; congr 1; omega
  · rw [if_neg (fun z => h (of_decide_eq_true z))]; congr 1; omega
theorem leO_ss (a b : Int) : leO (some a) (some b) = decide (a ≤ b) := rfl
theorem leO_n (a : Int) : leO none (some a) = false := rfl
theorem leO_t (x : Option Int) : leO x none = true := by cases x <;> rfl
theorem maxO_assoc (x y z : Option Int) : maxO (maxO x y) z = maxO x (maxO y z) := by cases x <;> cases y <;> cases z <;> (simp only [maxO_l, maxO_r, minO_l, minO_r, maxO_ss, minO_ss]; try (first | rfl | (congr 1; omega)))
theorem minO_assoc (x y z : Option Int) : minO (minO x y) z = minO x (minO y z) := by cases x <;> cases y <;> cases z <;> (simp only [maxO_l, maxO_r, minO_l, minO_r, maxO_ss, minO_ss]; try (first | rfl | (congr 1; omega)))
theorem minO_maxO (x y z : Option Int) : minO x (maxO y z) = maxO (minO x y) (minO x z) := by cases x <;> cases y <;> cases z <;> (simp only [maxO_l, maxO_r, minO_l, minO_r, maxO_ss, minO_ss]; try (first | rfl | (congr 1; omega)))
theorem maxO_minO (x y z : Option Int) : maxO x (minO y z) = minO (maxO x y) (maxO x z) := by cases x <;> cases y <;> cases z <;> (simp only [maxO_l, maxO_r, minO_l, minO_r, maxO_ss, minO_ss]; try (first | rfl | (congr 1; omega)))
theorem addO_maxO (u : Int) (x y : Option Int) : addO u (maxO x y) = maxO (addO u x) (addO u y) := by
  cases x with
  | none => rw [maxO_l]; show none = maxO none _; rw [maxO_l]
  | some a =>
    cases y with
    | none => rw [maxO_r]; show none = maxO _ none; rw [maxO_r]
    | some b =>
      rw [maxO_ss]
      show some (max a b + u) = maxO (some (a + u)) (some (b + u))
      rw [maxO_ss]
      congr 1
      omega
theorem le_max (x y : Option Int) : leO x y = true ↔ maxO x y = y := by
  cases x with
  | none =>
    rw [maxO_l]
    cases y with
    | none => exact ⟨fun _ => rfl, fun _ => rfl⟩
    | some b => exact ⟨fun z => (by cases z), fun z => (by cases z)⟩
  | some a =>
    cases y with
    | none => rw [maxO_r]; exact ⟨fun _ => rfl, fun _ => rfl⟩
    | some b =>
      rw [maxO_ss, leO_ss, decide_eq_true_iff, Option.some.injEq]
      omega
theorem le_min (x y : Option Int) : leO x y = true ↔ minO x y = x := by
  cases x with
  | none =>
    rw [minO_l]
    cases y with
    | none => exact ⟨fun _ => rfl, fun _ => rfl⟩
    | some b => exact ⟨fun z => (by cases z), fun z => (by cases z)⟩
  | some a =>
    cases y with
    | none => rw [minO_r]; exact ⟨fun _ => rfl, fun _ => rfl⟩
    | some b =>
      rw [minO_ss, leO_ss, decide_eq_true_iff, Option.some.injEq]
      omega
theorem le_maxL (x y : Option Int) : leO x (maxO x y) = true := by
  cases x with
  | none => rw [maxO_l]; rfl
  | some a =>
    cases y with
    | none => rw [maxO_r]; rfl
    | some b => rw [maxO_ss, leO_ss, decide_eq_true_iff]; omega
theorem le_maxR (x y : Option Int) : leO y (maxO x y) = true := by
  cases x with
  | none => rw [maxO_l]; exact leO_t _
  | some a =>
    cases y with
    | none => rw [maxO_r]; rfl
    | some b => rw [maxO_ss, leO_ss, decide_eq_true_iff]; omega
theorem leO_maxR (x g h : Option Int) : leO x (maxO g h) = (leO x g || leO x h) := by
  unfold maxO
  by_cases c : leO g h = true
  · rw [if_pos c]
    cases e : leO x h with
    | true => rw [Bool.or_true]
    | false =>
      cases d : leO x g with
      | false => rfl
      | true => rw [leO_trans d c] at e; cases e
  · rw [if_neg c]
    have c2 := leO_not c
    cases e : leO x g with
    | true => rfl
    | false =>
      cases d : leO x h with
      | false => rfl
      | true => rw [leO_trans d c2] at e; cases e
theorem leO_max2 {g h g' h' : Option Int} (a : leO g g' = true) (b : leO h h' = true) : leO (maxO g h) (maxO g' h') = true := by
  have z : maxO g h = g ∨ maxO g h = h := by
    unfold maxO
    by_cases c : leO g h = true
    · rw [if_pos c]; exact .inr rfl
    · rw [if_neg c]; exact .inl rfl
  rcases z with z | z
  · rw [z]; exact leO_trans a (le_maxL _ _)
  · rw [z]; exact leO_trans b (le_maxR _ _)
theorem maxO_some {g h : Option Int} {v : Int} (e : maxO g h = some v) : g = some v ∨ h = some v := by
  unfold maxO at e
  by_cases c : leO g h = true
  · rw [if_pos c] at e; exact .inr e
  · rw [if_neg c] at e; exact .inl e
theorem RL.max {B : Int} {ls ms : List (Option Int)} (a : RL B ls) (b : RL B ms) : RL B (twoL maxO ls ms) := by
  refine ⟨by rw [twoL_len]; have := a.pos; omega, by rw [twoL_len]; have := a.most; have := b.most; omega, fun i j h => ?_, fun i v e => ?_⟩
  · rw [lifeAt_two a.pos b.pos, lifeAt_two a.pos b.pos]
    exact leO_max2 (a.up i j h) (b.up i j h)
  · rw [lifeAt_two a.pos b.pos] at e
    rcases maxO_some e with z | z
    · exact a.bd i v z
    · exact b.bd i v z
theorem RL.min {B : Int} {ls ms : List (Option Int)} (a : RL B ls) (b : RL B ms) : RL B (twoL minO ls ms) := by
  refine ⟨by rw [twoL_len]; have := a.pos; omega, by rw [twoL_len]; have := a.most; have := b.most; omega, fun i j h => ?_, fun i v e => ?_⟩
  · rw [lifeAt_two a.pos b.pos, lifeAt_two a.pos b.pos]
    exact leO_minO2 (a.up i j h) (b.up i j h)
  · rw [lifeAt_two a.pos b.pos] at e
    rcases minO_some e with z | z
    · exact a.bd i v z
    · exact b.bd i v z
theorem RL.add {B : Int} {ls : List (Option Int)} (a : RL B ls) {u : Int} (hu : 0 ≤ u) : RL (B + u) (ls.map (addO u)) := by
  refine ⟨by rw [List.length_map]; exact a.pos, by rw [List.length_map]; exact a.most, fun i j h => ?_, fun i v e => ?_⟩
  · rw [lifeAt_map _ a.pos, lifeAt_map _ a.pos]
    exact leO_addO (a.up i j h)
  · rw [lifeAt_map _ a.pos] at e
    cases f : lifeAt ls i with
    | none => rw [f] at e; cases e
    | some w =>
      rw [f] at e
      have e2 : w + u = v := Option.some.inj e
      have := a.bd i w f
      omega
theorem short_eq {xs ys : List (Option Int)} (h0 : 0 < xs.length) (h1 : 0 < ys.length) (sx : short xs = xs) (sy : short ys = ys) : xs = ys ↔ ∀ i, lifeAt xs i = lifeAt ys i :=
  ⟨fun e _ => by rw [e], fun h => by rw [← sx, ← sy]; exact short_ext h0 h1 h⟩
theorem all_le {xs ys : List (Option Int)} (h0 : 0 < xs.length) (h1 : 0 < ys.length) : ((List.range (max xs.length ys.length)).all fun i => leO (lifeAt xs i) (lifeAt ys i)) = true ↔ ∀ i, leO (lifeAt xs i) (lifeAt ys i) = true := by
  rw [List.all_eq_true]
  constructor
  · intro h i
    by_cases d : i < max xs.length ys.length
    · exact h i (List.mem_range.mpr d)
    · rw [lifeAt_far h0 (Nat.le_max_left xs.length ys.length) (by omega : max xs.length ys.length ≤ i), lifeAt_far h1 (Nat.le_max_right xs.length ys.length) (by omega : max xs.length ys.length ≤ i)]
      exact h _ (List.mem_range.mpr (by omega))
  · intro h i _
    exact h i
theorem cnt_or_and (p q : Nat → Bool) : ∀ xs : List Nat, (xs.filter fun n => p n || q n).length + (xs.filter fun n => p n && q n).length = (xs.filter p).length + (xs.filter q).length
  | [] => rfl
  | x :: r => by
    have ih := cnt_or_and p q r
    simp only [List.filter_cons]
    cases p x <;> cases q x <;> simp <;> omega
/-- over a range with steps: the items lo, lo + c, .. -/
theorem lc_genC {lo c : Int} {n : Nat} {p : Nat → Bool} {e : Nat → V} {g : TG} {tt : TT} {te : TE} {vs : List Nat} {σ : L2.St} {H1 : Hp} {D : Addr} {Qd : Hp → Prop} (hD : H1 D = none) (hl : n < sizeLine) (hs : ∀ x H', x < n → Same H1 H' → CoTurn σ vs g tt te H1 H' (.int (lo + (x : Nat) * c)) (p x) (e x))
    (hd : ∀ H', Same H1 H' → H' D = some (.lst (((List.range n).filter p).map e)) → Qd H') :
    ∃ W : Nat → Nat → Hp → Prop, (∃ m, W 0 m (upd H1 D (.lst []))) ∧ ∀ i m H, W i m H → ((Itc lo c n).stop i H ∧ Qd H) ∨ ((Itc lo c n).go i H ∧ ∃ Nx : Hp → Prop, (∀ H', Nx H' → ∃ m', m' < m ∧ W (i + 1) m' H') ∧ ∀ x H', (Itc lo c n).yld i H x H' → g x (wipe σ vs) H' fun σ2 H2 => wipe σ2 vs = wipe σ vs ∧ tt σ2 H2 fun b H3 => if b = true then te σ2 H3 fun y H4 => ∃ acc, H4 D = some (.lst acc) ∧ acc.length < sizeLine ∧ Nx (upd H4 D (.lst (acc ++ [y]))) else Nx H3) := by
  refine ⟨fun i m H => m = n - i ∧ i ≤ n ∧ CoP (List.range n) p e H1 D i H, ⟨n, by simp, Nat.zero_le _, CoP.start hD⟩, ?_⟩
  rintro i m H ⟨rfl, hi, hP⟩
  by_cases hlt : i < n
  · refine .inr ⟨hlt, CoP (List.range n) p e H1 D (i + 1), fun H' p' => ⟨n - (i + 1), by omega, rfl, hlt, p'⟩, fun x H' y => ?_⟩
    obtain ⟨rfl, rfl⟩ := y
    exact CoP.turn (f := fun x => .int (lo + (x : Nat) * c)) hD (by rw [List.length_range]; exact hl) (List.getElem?_range hlt) hP fun s => hs i _ hlt s
  · have e1 : i = n := by omega
    subst e1
    obtain ⟨s, z⟩ := hP
    rw [List.take_of_length_le (by rw [List.length_range]; exact Nat.le_refl _)] at z
    exact .inl ⟨Nat.le_refl _, hd H s z⟩
end Rk
namespace Rk
open PySem PySem.Spec PyProof.Rows L2

/-! ### what repr shows of small values of any kind -/
structure ShQ (d : PyData) (n k : Nat) : Prop where
  s : d.showable = true
  p : d.depth ≤ k
  l : d.shown.length ≤ n
theorem Sh.q {d : PyData} {n k : Nat} (x : Sh d n k) : ShQ d n k := ⟨x.s, x.p, x.l⟩
theorem ShQ.mono {d : PyData} {n k n' k' : Nat} (x : ShQ d n k) (h : n ≤ n') (h' : k ≤ k') : ShQ d n' k' := ⟨x.s, Nat.le_trans x.p h', Nat.le_trans x.l h⟩
theorem shq_all {n k : Nat} : ∀ ds : List PyData, (∀ d ∈ ds, ShQ d n k) → PyData.showableAll ds = true ∧ PyData.depthAll ds ≤ k ∧ ((PyData.shownAll ds).map (·.length)).sum ≤ ds.length * n ∧ (PyData.shownAll ds).length = ds.length
  | [], _ => ⟨rfl, by simp [PyData.depthAll], by simp [PyData.shownAll], rfl⟩
  | d :: r, h => by
    obtain ⟨a1, a3, a4, a5⟩ := shq_all r fun x hx => h x (List.mem_cons_of_mem _ hx)
    have x := h d List.mem_cons_self
    have x3 := x.p
    have x4 := x.l
    refine ⟨?_, ?_, ?_, ?_⟩
    · show (PyData.showable d && PyData.showableAll r) = true
      rw [x.s, a1]
      rfl
    · show max (PyData.depth d) (PyData.depthAll r) ≤ k
      omega
    · show (PyData.shown d).length + ((PyData.shownAll r).map (·.length)).sum ≤ (r.length + 1) * n
      rw [Nat.succ_mul]
      omega
    · show (PyData.shownAll r).length + 1 = r.length + 1
      omega
theorem ShQ.list {n k : Nat} {ds : List PyData} (h : ∀ d ∈ ds, ShQ d n k) : ShQ (.list ds) (ds.length * n + 2 * ds.length + 3) (k + 1) := by
  obtain ⟨a1, a3, a4, a5⟩ := shq_all ds h
  refine ⟨a1, ?_, ?_⟩
  · show PyData.depthAll ds + 1 ≤ k + 1
    omega
  · have e := listText_len_le (PyData.shownAll ds)
    show (listText (PyData.shownAll ds)).length ≤ _
    omega
theorem ShQ.tup {n k : Nat} {ds : List PyData} (h : ∀ d ∈ ds, ShQ d n k) : ShQ (.tuple ds) (ds.length * n + 2 * ds.length + 3) (k + 1) := by
  obtain ⟨a1, a3, a4, a5⟩ := shq_all ds h
  refine ⟨a1, ?_, ?_⟩
  · show PyData.depthAll ds + 1 ≤ k + 1
    omega
  · have e := tupleText_len_le (PyData.shownAll ds)
    show (tupleText (PyData.shownAll ds)).length ≤ _
    omega
theorem ShQ.dict0 : ShQ (.dict []) 2 1 := ⟨rfl, by simp [PyData.depth, PyData.depthKv], by decide +kernel⟩
theorem ShQ.dictA {d : PyData} {n k : Nat} (x : ShQ d n k) : ShQ (.dict [(.str "a", d)]) (n + 10) (k + 1) := by
  have x3 := x.p
  have x4 := x.l
  refine ⟨?_, ?_, ?_⟩
  · show (true && PyData.showable d && true) = true
    rw [x.s]
    rfl
  · show max (max 0 (PyData.depth d)) 0 + 1 ≤ k + 1
    omega
  · show (dictText [(reprText "a" ++ ": " ++ PyData.shown d)]).length ≤ n + 10
    have e : dictText [(reprText "a" ++ ": " ++ PyData.shown d)] = ("{" : Str) ++ (reprText "a" ++ ": " ++ PyData.shown d) ++ "}" := rfl
    rw [e, Str.length_append, Str.length_append, Str.length_append, Str.length_append]
    have e1 : ("{" : Str).length = 1 := by decide +kernel
    have e2 : ("}" : Str).length = 1 := by decide +kernel
    have e3 : (reprText "a").length = 3 := by decide +kernel
    have e4 : (": " : Str).length = 2 := by decide +kernel
    rw [e1, e2, e3, e4]
    omega
theorem ShQ.ok {d : PyData} {n k : Nat} (x : ShQ d n k) (h : n ≤ 1000000) (h' : k ≤ 60) : d.showable = true ∧ d.depth ≤ 60 ∧ d.shown.length ≤ sizeLine := by
  have l := x.l
  refine ⟨x.s, Nat.le_trans x.p h', ?_⟩
  rw [sizeLine_eq]
  omega
/-! ### new dicts stand apart from the module table -/
def tDNewX : TE := fun _ H Q => ∀ p, H p = none → p ≠ sysModules → Q (.ref p) (upd H p (.dK []))
theorem pe_dnewX {X : Cx} {pos : Pos} : PE X (.Dict [] [] pos) tDNewX := ⟨fun pins s σ H Q I h =>
  wpAny_Dict_empty ⟨.ref s.heap.objs.size, _, I.laid (a := s.heap.objs.size) (o := .dK []) (t' := s.toks) (fun _ _ q => Heap.get?_push_of_some _ q) (Nat.le_refl _) (dk_empty s.heap I.big), rfl, h _ (I.hok.fresh (Nat.le_refl _)) (Nat.ne_of_gt I.big)⟩⟩
def tDispX (trs : List (TE × TE)) : TE := fun σ H Q => ∀ p, H p = none → p ≠ sysModules → tPairs trs σ (upd H p (.dK [])) fun ps H2 => H2 p = some (.dK []) ∧ ∃ kvs : List (Key × V), ps = kvs.map (fun kv => (kV kv.1, kv.2)) ∧ kvs.length ≤ 15 ∧ Q (.ref p) (upd H2 p (.dK (mergeK [] kvs)))
theorem pe_dispX {X : Cx} {pos : Pos} {keys : List (Option Expr)} {values : List Expr} {trs : List (TE × TE)} (h : PPs X pos keys values trs) (hall : keys.all (·.isSome) = true) (hl : keys.length = values.length) (h0 : keys ≠ [])
    (h15 : keys.length ≤ 15) : PE X (.Dict keys values pos) (tDispX trs) := by
  refine ⟨fun pins s σ H Q I q => ?_⟩
  have hn := I.hok.fresh (Nat.le_refl s.heap.objs.size)
  have hb := Nat.ne_of_gt I.big
  have I1 := I.laid (a := s.heap.objs.size) (o := .dK []) (h' := s.heap.push { cls := .type "dict", data := .dict #[] }) (t' := s.toks) (fun _ _ q => Heap.get?_push_of_some _ q) (Nat.le_refl _) (dk_empty s.heap I.big)
  refine wpAny_Dict_walk (knd := mixKind X.prog X.w) hall hl h0 h15 (thn (h.run pins _ σ _ _ I1 (q _ hn hb)) fun ws s2 ⟨ps, H2, I2, rel, e, kvs, ep, lk, q2⟩ => ?_)
  subst ep
  obtain ⟨rs, c, rk⟩ := carries_of (P := X.prog) (w := X.w) rel
  obtain ⟨z, hd, vs0, r0, dd⟩ := dk_of I2.hok e
  cases r0
  refine ⟨rs, c, dd, fun h' dd' hs => ⟨.ref s.heap.objs.size, _, ?_, rfl, q2⟩⟩
  have hz : (mergeK [] kvs).length ≤ sizeLine := by
    have h1 := length_mergeK kvs []
    rw [List.length_nil] at h1
    rw [sizeLine_eq]; omega
  have he : ∃ q, h'.get? s.heap.objs.size = some q := let ⟨q, _, _, hq, _⟩ := dd'; ⟨q, hq⟩
  exact d_write I2 (by rw [e]; exact True.intro) hs he (dk_new hz hd (rk.merge .nil) dd')
/-! ### numbers among the values -/
/-- an integer from 0 that is no bool -/
def natD : PyData → Bool
  | .int i => decide (0 ≤ i)
  | _ => false
/-- the values that are ints, and no bools -/
def intD : PyData → Option Int
  | .int i => some i
  | _ => none
/-- such a value, small, and apart from the module table and the addresses at ex -/
def AnyV (K : PySem.W.Frag) (ex : List Addr) (H : Hp) (v : V) (d : PyData) : Prop := Dq K (sysModules :: ex) H v d ∧ ShQ d 200000 20
theorem AnyV.buts {K : PySem.W.Frag} {ex : List Addr} {H H' : Hp} {v : V} {d : PyData} (h : AnyV K ex H v d) (b : Buts ex H H') (n : NoTup ex H) : AnyV K ex H' v d :=
  ⟨Dq.buts b n (fun e he => List.mem_cons_of_mem _ he) d v h.1, h.2⟩
theorem AnyV.same {K : PySem.W.Frag} {ex : List Addr} {H H' : Hp} {v : V} {d : PyData} (h : AnyV K ex H v d) (s : Same H H') : AnyV K ex H' v d := ⟨h.1.same s, h.2⟩
theorem signs_small (s : String) : ∀ c ∈ (Str.ofString s).cps.toList, c < 16 ^ 8 := by
  intro c hc
  rw [signs_ofString] at hc
  obtain ⟨ch, _, rfl⟩ := List.mem_map.mp hc
  have h : ch.val.toNat < 2 ^ 32 := ch.val.toNat_lt
  exact h
/-- a number as text -/
theorem ShQ.num {i : Int} (h : i.natAbs < 2 ^ 600) : ShQ (.str (Str.ofString (toString i))) 8000 0 := by
  have q := PySem.Flt.log2_lt_of (by decide : 0 < 600) h
  refine ⟨rfl, by simp [PyData.depth], ?_⟩
  have e := int_text_length_le (k := 600) (by decide) q
  have e2 := StrLaws.reprText_len (Str.ofString (toString i)) (signs_small _)
  show (reprText (Str.ofString (toString i))).length ≤ 8000
  have e3 : (Str.ofString (toString i)).length = (toString i).length := PySem.ofString_length _
  omega
end Rk
namespace Rk
open PySem PySem.Spec PyProof.Rows L2

/-! ### ints and bools as numbers -/
def zI : V → Option Int
  | .int i => some i
  | .bl b => some (if b = true then 1 else 0)
  | _ => none
section
variable {X : Cx}
def rAddZ : R2 := fun x y H Q => ∃ i j : Int, zI x = some i ∧ y = .int j ∧ Q (.int (i + j)) H
theorem op_addZ : OpR X (binaryOp .Add) rAddZ := by
  intro pins s σ H x y v u Q I rx ry h
  obtain ⟨i, j, hx, hy, q⟩ := h
  subst hy
  obtain ⟨t, rfl⟩ := ry
  cases x with
  | int a =>
    cases hx
    obtain ⟨t2, rfl⟩ := rx
    exact add_int ⟨.int _, H, I.tok _, ⟨_, rfl⟩, q⟩
  | bl b =>
    cases hx
    cases rx
    exact PySem.IntBool.add_bool_int ⟨.int _, H, I.tok _, ⟨_, rfl⟩, q⟩
  | _ => cases hx
def rSubZ : R2 := fun x y H Q => ∃ i j : Int, zI x = some i ∧ y = .int j ∧ Q (.int (i - j)) H
theorem op_subZ : OpR X (binaryOp .Sub) rSubZ := by
  intro pins s σ H x y v u Q I rx ry h
  obtain ⟨i, j, hx, hy, q⟩ := h
  subst hy
  obtain ⟨t, rfl⟩ := ry
  cases x with
  | int a =>
    cases hx
    obtain ⟨t2, rfl⟩ := rx
    exact sub_int ⟨.int _, H, I.tok _, ⟨_, rfl⟩, q⟩
  | bl b =>
    cases hx
    cases rx
    exact PySem.IntBool.sub_bool_int ⟨.int _, H, I.tok _, ⟨_, rfl⟩, q⟩
  | _ => cases hx
/-- == and != of values of any kind but dicts -/
def rEqQ (K : PySem.W.Frag) : R2 := fun x y H Q => ∃ bad d e, sysModules ∈ bad ∧ Dq K bad H x d ∧ Dq K bad H y e ∧ SeqAt.shaped d = true ∧ SeqAt.shaped e = true ∧ Q (.bl (PyData.eqv d e)) H
def rNeQ (K : PySem.W.Frag) : R2 := fun x y H Q => ∃ bad d e, sysModules ∈ bad ∧ Dq K bad H x d ∧ Dq K bad H y e ∧ SeqAt.shaped d = true ∧ SeqAt.shaped e = true ∧ Q (.bl (!PyData.eqv d e)) H
theorem op_eqQ (hu : X.A.units + 64 < cLine) : OpR X (compareOp .Eq) (rEqQ X.K) := by
  intro pins s σ H x y v u Q I rx ry h
  obtain ⟨bad, d, e, hb, hd, he, sd, se, q⟩ := h
  obtain ⟨as, r1, _⟩ := Dq.reads I hb d x v hd rx
  obtain ⟨bs, r2, _⟩ := Dq.reads I hb e y u he ry
  exact SeqAt.compareEq_shaped r1 r2 sd se hu ⟨.bl _, H, I, rfl, q⟩
theorem op_neQ (hu : X.A.units + 64 < cLine) : OpR X (compareOp .NotEq) (rNeQ X.K) := by
  intro pins s σ H x y v u Q I rx ry h
  obtain ⟨bad, d, e, hb, hd, he, sd, se, q⟩ := h
  obtain ⟨as, r1, _⟩ := Dq.reads I hb d x v hd rx
  obtain ⟨bs, r2, _⟩ := Dq.reads I hb e y u he ry
  exact SeqAt.compareNe_shaped r1 r2 sd se hu ⟨.bl _, H, I, rfl, q⟩
theorem op_eqQK {K : PySem.W.Frag} (hK : X.K = K) (hu : X.A.units + 64 < cLine) : OpR X (compareOp .Eq) (rEqQ K) := by
  subst hK
  exact op_eqQ hu
theorem op_neQK {K : PySem.W.Frag} (hK : X.K = K) (hu : X.A.units + 64 < cLine) : OpR X (compareOp .NotEq) (rNeQ K) := by
  subst hK
  exact op_neQ hu
def boolT (b : Bool) : Str := if b then "True" else "False"
theorem call_strZ : CallR X (.type "str") (fun xs H Q => (∃ i, xs = [.int i] ∧ i.natAbs.log2 < 1920 ∧ Q (.str (toString i)) H) ∨ ∃ b, xs = [.bl b] ∧ Q (.str (boolT b)) H) := by
  intro pins s σ H xs us Q I r h
  rcases h with ⟨i, rfl, hz, q⟩ | ⟨b, rfl, q⟩
  · obtain ⟨u, rfl, t, rfl⟩ := vals1 r
    exact PySem.P.str_of_int hz ⟨.str _, H, I.tok _, ⟨_, rfl⟩, q⟩
  · obtain ⟨u, rfl, rx⟩ := vals1 r
    cases rx
    exact PySem.P.str_of_bool ⟨.str (boolT b), H, I.tok _, ⟨_, rfl⟩, q⟩
/-- list(t): a list of its own, apart from the module table -/
def rListX (K : PySem.W.Frag) : List V → Hp → VK → Prop := fun xs H Q => ∃ p ys, xs = [.ref p] ∧ SqT K H p ys ∧ ∀ l, H l = none → l ≠ sysModules → Q (.ref l) (upd H l (.lst ys))
theorem call_listX : CallR X (.type "list") (rListX X.K) := by
  intro pins s σ H xs us Q I r h
  obtain ⟨p, ys, rfl, hq, q⟩ := h
  obtain ⟨u, rfl, rx⟩ := vals1 r
  cases rx
  obtain ⟨its, r', pl, hz⟩ := I.tuple hq
  have hlen := r'.length
  obtain ⟨o, ho, hc, n, hd⟩ := pl
  refine call_list_seq p (.inr rfl) ho hc hd (fun h' c' kp e => ?_) (by simp only [List.size_toArray] <;> omega)
  exact ⟨.ref s.heap.objs.size, _, I.laid (t' := s.toks) kp (Nat.le_refl _) (show ObjOk X.prog X.w _ h' _ (.lst ys) from ⟨hz, its, c', r', e⟩), rfl, q _ (I.hok.fresh (Nat.le_refl _)) (Nat.ne_of_gt I.big)⟩
theorem call_listXK {K : PySem.W.Frag} (hK : X.K = K) : CallR X (.type "list") (rListX K) := by
  subst hK
  exact call_listX
/-! ### sums and slices of tuples, whatever their form -/
def rCatQ (K : PySem.W.Frag) : R2 := fun x y H Q => ∃ (a b : Addr) (xs ys : List V), x = .ref a ∧ y = .ref b ∧ SqT K H a xs ∧ SqT K H b ys ∧ xs.length + ys.length ≤ sizeLine ∧
  ∀ r H', Same H H' → SqT K H' r (xs ++ ys) → Q (.ref r) H'
theorem op_catQ : OpR X (binaryOp .Add) (rCatQ X.K) := by
  intro pins s σ H x y v u Q I rx ry h
  obtain ⟨a, b, xs, ys, ex, ey, ha, hb, hz, q⟩ := h
  refine op_catA pins s σ H x y v u Q I rx ry ⟨a, b, xs, ys, ex, ey, ha, hb, hz, fun z => ?_, fun _ z => ?_, fun _ _ p hp => ?_⟩
  · refine q b H (Same.refl _) ?_
    rw [z, List.nil_append]
    exact hb
  · refine q a H (Same.refl _) ?_
    rw [z, List.append_nil]
    exact ha
  · exact q p _ (same_upd hp) (SqT.of upd_same)
theorem op_catQK {K : PySem.W.Frag} (hK : X.K = K) : OpR X (binaryOp .Add) (rCatQ K) := by
  subst hK
  exact op_catQ
def rSlQ (K : PySem.W.Frag) : V → Option Int → Option Int → Hp → VK → Prop := fun x lo hi H Q => ∃ (a : Addr) (xs : List V), x = .ref a ∧ SqT K H a xs ∧
  ∀ r H', Same H H' → SqT K H' r (cutV xs lo hi) → Q (.ref r) H'
theorem sl_tupQ : SlR X (rSlQ X.K) := by
  intro pins s σ H x v vl vu lo hi sl Q I rx hs pl pu h
  obtain ⟨a, xs, e, hx, q⟩ := h
  exact sl_tupB pins s σ H x v vl vu lo hi sl Q I rx hs pl pu ⟨a, xs, e, hx, fun r H' z => q r H' (rSlB_same z) (rSlB_at hx z)⟩
theorem sl_tupQK {K : PySem.W.Frag} (hK : X.K = K) : SlR X (rSlQ K) := by
  subst hK
  exact sl_tupQ
end
theorem cut_to (xs : List V) (n : Nat) : cutV xs none (some (n : Int)) = xs.take n := by
  have h0 : HT.sIx xs.length 0 none = 0 := by
    unfold HT.sIx
    simp
  have h : HT.sIx xs.length xs.length (some (n : Int)) = min n xs.length := by
    unfold HT.sIx
    simp
    omega
  unfold cutV
  rw [h0, h, List.drop_zero, Nat.sub_zero]
  rcases Nat.le_total n xs.length with c | c
  · rw [Nat.min_eq_left c]
  · rw [Nat.min_eq_right c, List.take_of_length_le c, List.take_of_length_le (Nat.le_refl _)]
theorem cut_from (xs : List V) (n : Nat) : cutV xs (some (n : Int)) none = xs.drop n := by
  have h0 : HT.sIx xs.length xs.length none = xs.length := by
    unfold HT.sIx
    simp
  have h : HT.sIx xs.length 0 (some (n : Int)) = min n xs.length := by
    unfold HT.sIx
    simp
    omega
  unfold cutV
  rw [h0, h]
  rcases Nat.le_total n xs.length with c | c
  · rw [Nat.min_eq_left c, List.take_of_length_le (by rw [List.length_drop]; exact Nat.le_refl _)]
  · rw [Nat.min_eq_right c, List.drop_eq_nil_of_le c, List.drop_eq_nil_of_le (Nat.le_refl _), List.take_nil]
theorem cut_last (xs : List V) (h : xs ≠ []) : ∃ v, cutV xs (some (-1)) none = [v] ∧ xs.getLast? = some v := by
  have hl : 0 < xs.length := List.length_pos_iff.mpr h
  have h0 : HT.sIx xs.length xs.length none = xs.length := by
    unfold HT.sIx
    simp
  have h1 : HT.sIx xs.length 0 (some (-1)) = xs.length - 1 := by
    unfold HT.sIx
    simp
    omega
  refine ⟨xs.getLast h, ?_, List.getLast?_eq_some_getLast h⟩
  unfold cutV
  rw [h0, h1, show xs.length - (xs.length - 1) = 1 by omega, List.drop_eq_getElem_cons (show xs.length - 1 < xs.length by omega), List.getLast_eq_getElem h]
  rfl
/-! ### t[::-1] -/
section
variable {prog : Program} {w : World} {A : Around} {E : Value → Shared → Prop} {s : Shared}
theorem sliceApplied_rev {sl : Addr} {vs : Value} {n : Nat} {Q : Int × Int × Nat → Shared → Prop} (hs : s.heap.IsSliceOf sl .none .none vs) (ps : IsPart vs (some (-1)))
    (h : Q ((n : Int) - 1, -1, n) s) : wpAny (model prog w) A (Builtin.Slice.sliceApplied (.ref sl) (pure (n : Int))) Q E s := by
  obtain ⟨os, hos, hcs, hds⟩ := id hs
  unfold Builtin.Slice.sliceApplied Builtin.Slice.sliceFields
  refine wpAny_bind (wpAny_bind (wpAny_field hos hds (x := .none) rfl (wpAny_bind (wpAny_field hos hds (x := .none) rfl (wpAny_bind (wpAny_field hos hds (x := vs) rfl (wpAny_pure ?_)))))))
  refine wpAny_bind (HT.slicePart_ ps ?_)
  show wpAny _ _ (if ((-1 : Int) == 0) = true then _ else _) _ _ s
  rw [if_neg (by decide)]
  refine wpAny_bind (HT.slicePart_ .none (wpAny_bind (HT.slicePart_ .none (wpAny_bind (wpAny_pure ?_)))))
  show wpAny _ _ (pure ((n : Int) - 1, (-1 : Int), Builtin.Slice.slicePlaces ((n : Int) - 1) (-1) (-1))) _ _ s
  have e : Builtin.Slice.slicePlaces ((n : Int) - 1) (-1) (-1) = n := by
    unfold Builtin.Slice.slicePlaces
    rw [if_neg (by decide)]
    by_cases c : n = 0
    · subst c
      decide
    · rw [if_pos (by omega), show (-(-1) : Int) = 1 by decide, Int.ediv_one]
      omega
  rw [e]
  exact wpAny_pure h
theorem filterMap_same {α β : Type} {f g : α → Option β} : ∀ l : List α, (∀ x ∈ l, f x = g x) → l.filterMap f = l.filterMap g
  | [], _ => rfl
  | x :: r, h => by
    rw [List.filterMap_cons, List.filterMap_cons, h x List.mem_cons_self, filterMap_same r fun y hy => h y (List.mem_cons_of_mem _ hy)]
theorem pick_rev (xs : Array Value) : ((List.range xs.size).filterMap fun (m : Nat) => xs[(((xs.size : Int) - 1) + (m : Int) * (-1)).toNat]?).toArray = xs.toList.reverse.toArray := by
  have e : ((List.range xs.size).filterMap fun (m : Nat) => xs[(((xs.size : Int) - 1) + (m : Int) * (-1)).toNat]?) = ((List.range xs.size).map fun k => xs.size - 1 - k).filterMap (xs[·]?) := by
    rw [List.filterMap_map]
    apply filterMap_same
    intro m hm
    have := List.mem_range.mp hm
    have e2 : (((xs.size : Int) - 1) + (m : Int) * (-1)).toNat = xs.size - 1 - m := by omega
    rw [e2]
    rfl
  rw [e, PySem.W.krv_range, List.filterMap_reverse, PySem.W.krv_all]
theorem getItem_tuple_rev {t sl : Addr} {items : Array Value} {vs : Value} {Q : Value → Shared → Prop} (ht : IsTup s.heap t items) (hs : s.heap.IsSliceOf sl .none .none vs) (ps : IsPart vs (some (-1)))
    (h : Q (.ref s.heap.objs.size) { s with heap := s.heap.push { cls := .type "tuple", data := .seq items.toList.reverse.toArray } })
    (hsz : items.size ≤ sizeLine) : wpAny (model prog w) A (getItem (.ref t) (.ref sl)) Q E s := by
  have htake : sizeOk (.seq items.toList.reverse.toArray) := by
    show items.toList.reverse.toArray.size ≤ sizeLine
    rw [List.size_toArray, List.length_reverse, Array.length_toList]
    exact hsz
  obtain ⟨os, hos, hcs, hds⟩ := id hs
  have hTs : s.TypeIs (.ref sl) "slice" := ⟨os, hos, hcs⟩
  unfold getItem
  try with_reducible refine wpAny_holding ?_
  first | refine wpAny_bind (wpAny_pure ?_) | skip
  refine wpAny_bind (wpAny_sequenceKey ht.typeIs (by decide) ?_)
  refine wpAny_bind (wpAny_callSpecial?_slot (name := Str.ofString "__getitem__") ht.typeIs PyProof.Rows.slot_tuple_getitem
    (wpAny_call_entry PyProof.Rows.slot_tuple_getitem ht.typeIs PyProof.Rows.entry_tuple_getitem ?_ (PyProof.Rows.args_tuple_getitem _ _)))
  show wpAny _ _ (Builtin.Tuple.tupleItemsOf (.ref t) >>= _) _ _ s
  refine wpAny_bind (tupleItemsOf_ ht ?_)
  refine wpAny_bind (wpAny_typeOf hTs ?_)
  rw [if_pos (by decide)]
  refine wpAny_bind (sliceApplied_rev hs ps ?_)
  have hno : ¬ ((((items.size : Int) - 1) == 0 && (-1 : Int) == 1 && items.size == items.size) = true) := by
    rw [show ((-1 : Int) == 1) = false by decide, Bool.and_false, Bool.false_and]
    exact Bool.false_ne_true
  show wpAny _ _ (if (((items.size : Int) - 1) == 0 && (-1 : Int) == 1 && items.size == items.size) = true then _ else _) _ _ s
  rw [if_neg hno, pick_rev]
  first
    | exact wpAny_bind (m := Builtin.Tuple.tupleExact _) (wpAny_newObj_type (wpAny_pure ⟨_, rfl, wpAny_pure h⟩) htake)
    | exact wpAny_bind (m := Builtin.Tuple.tupleExact _) (wpAny_newObj_type (wpAny_bind (wpAny_pure (wpAny_pure ⟨_, rfl, wpAny_pure h⟩))) htake)
    | exact wpAny_bind (wpAny_bind (m := Builtin.Tuple.tupleExact _) (wpAny_newObj_type (wpAny_pure (wpAny_pure ⟨_, rfl, wpAny_pure h⟩)) htake))
    | exact wpAny_bind (wpAny_bind (m := Builtin.Tuple.tupleExact _) (wpAny_newObj_type (wpAny_pure ⟨_, rfl, wpAny_pure h⟩) htake))
end
section
variable {X : Cx}
def tRevT (K : PySem.W.Frag) (te : TE) : TE := fun σ H Q => te σ H fun x H1 => ∃ a xs, x = .ref a ∧ SqT K H1 a xs ∧ ∀ p, H1 p = none → Q (.ref p) (upd H1 p (.tup xs.reverse))
theorem pe_revT {K : PySem.W.Frag} (hK : X.K = K) {e : Expr} {te : TE} {k : Nat} {p1 p2 p3 pos : Pos} (he : PE X e te) : PE X (.Subscript e (.Slice none none (some (.UnaryOp .USub (.Constant (.int 1) k p1) p2)) p3) pos) (tRevT K te) := by
  subst hK
  refine ⟨fun pins s σ H Q I h => ?_⟩
  refine Subscript_ (thn (he.run pins s σ H _ I h) fun v s1 ⟨x, H1, I1, r1, q1⟩ => ?_)
  obtain ⟨a, xs, ex, hx, q⟩ := q1
  subst ex
  cases r1
  have hst : PO X (some (.UnaryOp .USub (.Constant (.int 1) k p1) p2)) (tPart (tUn (rU fun i => .int (-i)) (tC (.int 1)))) := po_some (pe_un un_neg pe_int)
  refine wpAny_Slice ?_
  rw [evalPart_none]
  refine wpAny_pure ?_
  refine wpAny_pure ?_
  refine thn (hst.run pins s1 σ H1 (fun o H4 => o = some (-1) ∧ H4 = H1) I1 ⟨1, rfl, -1, rfl, rfl, rfl⟩) fun vs s4 ⟨o, H4, I4, ps, eo, e4⟩ => ?_
  subst eo e4
  have I5 : Inv X pins σ H4 { s4 with heap := s4.heap.push { cls := .type "slice", data := .fields #[.none, .none, vs] } } := I4.kept (t' := s4.toks) fun b ob q => Heap.get?_push_of_some _ q
  obtain ⟨its, r, ht, hz⟩ := I5.tuple hx
  have hlen := r.length
  show wpAny (model X.prog X.w) X.A (subscriptTail e (.Slice none none (some (.UnaryOp .USub (.Constant (.int 1) k p1) p2)) p3) (.ref a) (.ref s4.heap.objs.size)) (EP X pins σ Q) X.xe { s4 with heap := s4.heap.push { cls := .type "slice", data := .fields #[.none, .none, vs] } }
  refine tail_any (ops := [.ref a, .ref s4.heap.objs.size]) ht.typeIs PyProof.Rows.slot_tuple_getitem.lookup ?_ (by with_unfolding_all rfl)
  refine getItem_tuple_rev ht (Heap.IsSliceOf.new _ .none .none vs) ps ?_ (by rw [List.size_toArray]; omega)
  refine ⟨.ref _, _, I5.laid (t' := s4.toks) (o := .tup xs.reverse) (fun b ob q => Heap.get?_push_of_some _ q) (Nat.le_refl _) ?_, rfl, q _ (I5.hok.fresh (Nat.le_refl _))⟩
  exact ⟨by rw [List.length_reverse]; exact hz, _, r.reverse, IsTup.new _ _⟩
end
end Rk
namespace Rk
open PySem PySem.Spec PyProof.Rows L2

/-! ### data: what repr shows of tuples, part by part -/
def pw (ds : List PyData) : Nat := (ds.map fun d => d.shown.length + 2).sum
theorem pw_nil : pw [] = 0 := rfl
theorem pw_cons (d : PyData) (ds : List PyData) : pw (d :: ds) = d.shown.length + 2 + pw ds := by simp [pw]
theorem pw_append (xs ys : List PyData) : pw (xs ++ ys) = pw xs + pw ys := by simp [pw]
theorem pw_reverse (xs : List PyData) : pw xs.reverse = pw xs := by
  induction xs with
  | nil => rfl
  | cons x r ih => rw [List.reverse_cons, pw_append, ih, pw_cons, pw_cons, pw_nil]; omega
theorem pw_take_drop (ds : List PyData) (i : Nat) : pw (ds.take i) + pw (ds.drop i) = pw ds := by rw [← pw_append, List.take_append_drop]
theorem pw_len (ds : List PyData) : 2 * ds.length ≤ pw ds := by
  induction ds with
  | nil => exact Nat.le_refl _
  | cons d r ih => rw [pw_cons, List.length_cons]; omega
theorem pw_split {ds : List PyData} {i : Nat} {d : PyData} (h : ds[i]? = some d) : pw ds = pw (ds.take i) + (d.shown.length + 2) + pw (ds.drop (i + 1)) := by
  obtain ⟨hi, e⟩ := List.getElem?_eq_some_iff.mp h
  rw [← pw_take_drop ds i, List.drop_eq_getElem_cons hi, e, pw_cons]
  omega
theorem shownAll_piled : ∀ ds : List PyData, piled (PyData.shownAll ds) = pw ds
  | [] => by simp [PyData.shownAll, pw, piled]
  | d :: r => by
    have ih := shownAll_piled r
    show piled (PyData.shown d :: PyData.shownAll r) = _
    rw [piled_cons, ih, pw_cons]
theorem piled_sum : ∀ ts : List Str, piled ts = (ts.map (·.length)).sum + 2 * ts.length
  | [] => rfl
  | t :: r => by
    rw [piled_cons, piled_sum r, List.map_cons, List.sum_cons, List.length_cons]
    omega
theorem pw_le_tup (ds : List PyData) : pw ds ≤ (PyData.shown (.tuple ds)).length := by
  have h := piled_le_tupleText (PyData.shownAll ds)
  rw [shownAll_piled] at h
  exact h
theorem tup_le_pw (ds : List PyData) : (PyData.shown (.tuple ds)).length ≤ pw ds + 3 := by
  have h := tupleText_len_le (PyData.shownAll ds)
  have e := piled_sum (PyData.shownAll ds)
  rw [shownAll_piled] at e
  show (tupleText (PyData.shownAll ds)).length ≤ _
  omega
theorem list_le_pw (ds : List PyData) : (PyData.shown (.list ds)).length ≤ pw ds + 3 := by
  have h := listText_len_le (PyData.shownAll ds)
  have e := piled_sum (PyData.shownAll ds)
  rw [shownAll_piled] at e
  show (listText (PyData.shownAll ds)).length ≤ _
  omega
theorem showAll_iff : ∀ ds : List PyData, PyData.showableAll ds = true ↔ ∀ d ∈ ds, d.showable = true
  | [] => ⟨(fun _ _ h => nomatch h), fun _ => rfl⟩
  | d :: r => by
    show (PyData.showable d && PyData.showableAll r) = true ↔ _
    rw [Bool.and_eq_true, showAll_iff r]
    exact ⟨fun h x hx => (List.mem_cons.mp hx).elim (fun e => e ▸ h.1) (fun hx => h.2 x hx), fun h => ⟨h d List.mem_cons_self, fun x hx => h x (List.mem_cons_of_mem _ hx)⟩⟩
theorem depthAll_iff (k : Nat) : ∀ ds : List PyData, PyData.depthAll ds ≤ k ↔ ∀ d ∈ ds, d.depth ≤ k
  | [] => ⟨(fun _ _ h => nomatch h), fun _ => Nat.zero_le _⟩
  | d :: r => by
    show max (PyData.depth d) (PyData.depthAll r) ≤ k ↔ _
    rw [Nat.max_le, depthAll_iff k r]
    exact ⟨fun h x hx => (List.mem_cons.mp hx).elim (fun e => e ▸ h.1) (fun hx => h.2 x hx), fun h => ⟨h d List.mem_cons_self, fun x hx => h x (List.mem_cons_of_mem _ hx)⟩⟩
theorem layAll_iff : ∀ ds : List PyData, PyData.canLayAll0 ds = true ↔ ∀ d ∈ ds, d.canLay0 = true
  | [] => ⟨(fun _ _ h => nomatch h), fun _ => rfl⟩
  | d :: r => by
    show (PyData.canLay0 d && PyData.canLayAll0 r) = true ↔ _
    rw [Bool.and_eq_true, layAll_iff r]
    exact ⟨fun h x hx => (List.mem_cons.mp hx).elim (fun e => e ▸ h.1) (fun hx => h.2 x hx), fun h => ⟨h d List.mem_cons_self, fun x hx => h x (List.mem_cons_of_mem _ hx)⟩⟩
theorem lay_tup (ds : List PyData) : (PyData.tuple ds).canLay0 = true ↔ ∀ d ∈ ds, d.canLay0 = true := layAll_iff ds
theorem lay_list (ds : List PyData) : (PyData.list ds).canLay0 = true ↔ ∀ d ∈ ds, d.canLay0 = true := layAll_iff ds
/-- a part of a tuple that is shown -/
theorem ShQ.parts {ds : List PyData} {n k : Nat} (x : ShQ (.tuple ds) n k) : pw ds ≤ n ∧ ∀ d ∈ ds, d.showable = true ∧ d.depth + 1 ≤ k := by
  obtain ⟨s, p, l⟩ := x
  have s' : PyData.showableAll ds = true := s
  have p' : PyData.depthAll ds + 1 ≤ k := p
  refine ⟨Nat.le_trans (pw_le_tup ds) l, fun d hd => ⟨(showAll_iff ds).mp s' d hd, ?_⟩⟩
  have := (depthAll_iff (k - 1) ds).mp (by omega) d hd
  omega
theorem ShQ.tup_of {ds : List PyData} {n k : Nat} (h : ∀ d ∈ ds, d.showable = true ∧ d.depth + 1 ≤ k) (hk : 1 ≤ k) (hn : pw ds + 3 ≤ n) : ShQ (.tuple ds) n k := by
  refine ⟨(showAll_iff ds).mpr fun d hd => (h d hd).1, ?_, Nat.le_trans (tup_le_pw ds) hn⟩
  show PyData.depthAll ds + 1 ≤ k
  have := (depthAll_iff (k - 1) ds).mpr fun d hd => by have := (h d hd).2; omega
  omega
theorem ShQ.list_of {ds : List PyData} {n k : Nat} (h : ∀ d ∈ ds, d.showable = true ∧ d.depth + 1 ≤ k) (hk : 1 ≤ k) (hn : pw ds + 3 ≤ n) : ShQ (.list ds) n k := by
  refine ⟨(showAll_iff ds).mpr fun d hd => (h d hd).1, ?_, Nat.le_trans (list_le_pw ds) hn⟩
  show PyData.depthAll ds + 1 ≤ k
  have := (depthAll_iff (k - 1) ds).mpr fun d hd => by have := (h d hd).2; omega
  omega
theorem strOk_of (s : String) : PyData.strOk (Str.ofString s) = true := by
  show (Str.ofString s).cps.all (fun c => decide (c < 0x110000)) = true
  rw [← Array.all_toList, signs_ofString, List.all_map, List.all_eq_true]
  intro c hc
  have h := c.valid
  show decide (c.toNat < 0x110000) = true
  refine decide_eq_true ?_
  have h2 : c.val.toNat < 0xd800 ∨ 0xdfff < c.val.toNat ∧ c.val.toNat < 0x110000 := h
  show c.val.toNat < 0x110000
  omega
/-! ### data of a few depths: tuples, whole numbers and others -/
/-- tuples nest at most so deep, and their numbers are small -/
def Td (b : Int) : Nat → PyData → Prop
  | 0, _ => False
  | n + 1, .tuple ds => ∀ d ∈ ds, Td b n d
  | _ + 1, .int i => -b ≤ i ∧ i ≤ b
  | _ + 1, _ => True
/-- tuples and whole numbers, nothing else -/
def Ti : Nat → PyData → Prop
  | 0, _ => False
  | n + 1, .tuple ds => ∀ d ∈ ds, Ti n d
  | _ + 1, .int _ => True
  | _ + 1, _ => False
theorem Td.mono {b c : Int} (h : b ≤ c) : ∀ {n m : Nat} {d : PyData}, n ≤ m → Td b n d → Td c m d
  | 0, _, _, _, z => z.elim
  | n + 1, 0, _, hm, _ => absurd hm (by omega)
  | n + 1, m + 1, d, hm, z => by
    cases d with
    | tuple ds => exact fun x hx => Td.mono h (by omega) (z x hx)
    | int i => exact ⟨by have := z.1; omega, Int.le_trans z.2 h⟩
    | none => trivial
    | bool _ => trivial
    | str _ => trivial
    | list _ => trivial
    | dict _ => trivial
section
variable {K : PySem.W.Frag} {bad bad' : List Addr} {H : Hp}
mutual
theorem Dq.wider (b : ∀ x, x ∈ bad' → x ∈ bad ∨ H x = none) : ∀ (d : PyData) (v : V), Dq K bad H v d → Dq K bad' H v d
  | .none, _, h => by cases h; exact .non
  | .bool x, _, h => by cases h; exact .bl x
  | .int i, _, h => by cases h; exact .int i
  | .str x, _, h => by cases h; exact .str x
  | .list ds, _, h => by
    cases h with
    | lst e hb ha => exact .lst e (fun z => by rcases b _ z with z | z; exact hb z; rw [e] at z; cases z) (Dq.widerAll b ds _ ha)
  | .tuple ds, _, h => by
    cases h with
    | tup e ha => exact .tup e (Dq.widerAll b ds _ ha)
  | .dict ds, _, h => by
    cases h with
    | dct e hb ha => exact .dct e (fun z => by rcases b _ z with z | z; exact hb z; rw [e] at z; cases z) (Dq.widerKv b ds _ ha)
theorem Dq.widerAll (b : ∀ x, x ∈ bad' → x ∈ bad ∨ H x = none) : ∀ (ds : List PyData) (vs : List V), DqAll K bad H vs ds → DqAll K bad' H vs ds
  | [], _, h => by cases h; exact .nil
  | d :: ds, _, h => by
    cases h with
    | cons h1 h2 => exact .cons (Dq.wider b d _ h1) (Dq.widerAll b ds _ h2)
theorem Dq.widerKv (b : ∀ x, x ∈ bad' → x ∈ bad ∨ H x = none) : ∀ (ds : List (PyData × PyData)) (vs : List (Key × V)), DqKv K bad H vs ds → DqKv K bad' H vs ds
  | [], _, h => by cases h; exact .nil
  | d :: ds, _, h => by
    cases h with
    | cons h1 h2 => exact .cons (Dq.wider b _ _ h1) (Dq.widerKv b ds _ h2)
end
end
theorem Dq.lay_dict {ds : List (PyData × PyData)} : (PyData.dict ds).canLay0 = false := rfl
end Rk
namespace Rk
open PySem PySem.Spec PyProof.Rows L2

/-! ### two rules, the one nowhere shorter -/
def LeL (ls ms : List (Option Int)) : Prop := ∀ i, leO (lifeAt ls i) (lifeAt ms i) = true
theorem LeL.kept {ls ms : List (Option Int)} (h : LeL ls ms) {t n : Int} (k : keptB ls t n = true) : keptB ms t n = true := by
  unfold keptB at k ⊢
  rw [Bool.and_eq_true] at k ⊢
  exact ⟨k.1, leO_trans k.2 (h _)⟩
theorem LeL.Kept {ls ms : List (Option Int)} (h : LeL ls ms) {t n : Int} (k : Kept ls t n) : Kept ms t n := ⟨k.1, k.2.1, leO_trans k.2.2 (h _)⟩
theorem LeL.short {ls ms : List (Option Int)} (h : LeL ls ms) (l0 : 0 < ls.length) (m0 : 0 < ms.length) : LeL (short ls) (short ms) := fun i => by
  rw [lifeAt_short l0, lifeAt_short m0]
  exact h i
theorem filter_le {α : Type} (p q : α → Bool) : ∀ l : List α, (∀ x ∈ l, p x = true → q x = true) → (l.filter p).length ≤ (l.filter q).length
  | [], _ => Nat.le_refl _
  | a :: r, h => by
    have ih := filter_le p q r fun x hx => h x (List.mem_cons_of_mem _ hx)
    rw [List.filter_cons, List.filter_cons]
    by_cases c : p a = true
    · rw [if_pos c, if_pos (h a List.mem_cons_self c), List.length_cons, List.length_cons]
      omega
    · rw [if_neg c]
      by_cases d : q a = true
      · rw [if_pos d, List.length_cons]
        omega
      · rw [if_neg d]
        exact ih
theorem LeL.count {ls ms : List (Option Int)} (h : LeL ls ms) (gl : Good ls) (gm : Good ms) {t : Int} (ht : 0 ≤ t) : cntB 0 t t 0 t ls ≤ cntB 0 t t 0 t ms := by
  obtain ⟨n, rfl⟩ := Int.eq_ofNat_of_zero_le ht
  rw [cnt_all gl, cnt_all gm]
  have := filter_le (fun m : Nat => keptB ls ((n : Nat) : Int) ((m : Nat) : Int)) (fun m : Nat => keptB ms ((n : Nat) : Int) ((m : Nat) : Int)) (List.range (n + 1)) fun x _ k => h.kept k
  unfold keptL
  omega
/-- a distance that is no worse: nothing at all is the worst -/
theorem LeL.dist {ls ms : List (Option Int)} (h : LeL ls ms) (gl : Good ls) (gm : Good ms) {t : Int} (ht : 0 ≤ t) (a : Int) : leO (distO ms t a) (distO ls t a) = true := by
  obtain ⟨a1, b1⟩ := rpO_spec gl ht (t - a)
  obtain ⟨a2, b2⟩ := rpO_spec gm ht (t - a)
  unfold distO
  cases e1 : rpO ls t (t - a) with
  | none => exact leO_t _
  | some p =>
    obtain ⟨k1, k2, k3⟩ := a1 p e1
    cases e2 : rpO ms t (t - a) with
    | none => exact absurd k2 (b2 e2 p (h.Kept k1))
    | some q =>
      obtain ⟨q1, q2, q3⟩ := a2 q e2
      have := q3 p (h.Kept k1) k2
      show decide (t - a - q ≤ t - a - p) = true
      exact decide_eq_true (by omega)
theorem due_le_list (a : Int) : ∀ (ls ms : List (Option Int)) (j : Nat), ls.length = ms.length → (∀ (i : Nat) (x y : Option Int), ls[i]? = some x → ms[i]? = some y → leO x y = true) → leO (due j ms a) (due j ls a) = true
  | [], [], _, _, _ => rfl
  | x :: r, y :: t, j, hl, h => by
    show leO (if leO (some (a + 2 ^ j)) y = true then some (2 ^ j - 1) else due (j + 1) t a) (if leO (some (a + 2 ^ j)) x = true then some (2 ^ j - 1) else due (j + 1) r a) = true
    have hxy := h 0 x y rfl rfl
    have ih := due_le_list a r t (j + 1) (by simpa using hl) fun i u v hu hv => h (i + 1) u v (by simpa using hu) (by simpa using hv)
    have ge : ∀ (l : List (Option Int)) (k : Nat), leO (some (2 ^ k - 1)) (due k l a) = true := by
      intro l
      induction l with
      | nil => intro k; rfl
      | cons z l ih =>
        intro k
        show leO (some (2 ^ k - 1)) (if leO (some (a + 2 ^ k)) z = true then some (2 ^ k - 1) else due (k + 1) l a) = true
        by_cases c : leO (some (a + 2 ^ k)) z = true
        · rw [if_pos c]
          exact leO_refl _
        · rw [if_neg c]
          refine leO_trans ?_ (ih (k + 1))
          have := pow2_le (show k ≤ k + 1 by omega)
          exact decide_eq_true (by omega)
    by_cases c : leO (some (a + 2 ^ j)) x = true
    · rw [if_pos c, if_pos (leO_trans c hxy)]
      exact leO_refl _
    · rw [if_neg c]
      by_cases d : leO (some (a + 2 ^ j)) y = true
      · rw [if_pos d]
        refine leO_trans ?_ (ge r (j + 1))
        have := pow2_le (show j ≤ j + 1 by omega)
        exact decide_eq_true (by omega)
      · rw [if_neg d]
        exact ih
  | [], _ :: _, _, hl, _ => by simp at hl
  | _ :: _, [], _, hl, _ => by simp at hl

/-! #### averages -/
theorem psum_mono {g h : Nat → Int} (z : Nat) : ∀ i, (∀ j, j < i → g j ≤ h j) → psum g z i ≤ psum h z i
  | 0, _ => Int.le_refl _
  | i + 1, e => by
    have ih := psum_mono z i fun j hj => e j (by omega)
    have b := Int.mul_le_mul_of_nonneg_right (e i (by omega)) (Int.le_of_lt (pow2_pos (z - 1 - i)))
    show psum g z i + g i * 2 ^ (z - 1 - i) ≤ psum h z i + h i * 2 ^ (z - 1 - i)
    omega
theorem pall_mono {g h : Nat → Int} {z k : Nat} (e : ∀ j, j ≤ k → g j ≤ h j) : pall g z k ≤ pall h z k := by
  have a := psum_mono z k fun j hj => e j (by omega)
  have b := Int.mul_le_mul_of_nonneg_right (e k (Nat.le_refl _)) (Int.le_of_lt (pow2_pos (z - k)))
  unfold pall
  omega
/-- the ints of a rule that ends nowhere open, made as short as it goes -/
theorem short_ints (is : List Int) : short (is.map some) = (is.take (cutN (is.map some) is.length)).map some := by
  unfold short
  rw [List.length_map, List.map_take]
theorem pall_short {is : List Int} (h0 : 0 < is.length) : ∃ c, 0 < c ∧ c ≤ is.length ∧ short (is.map some) = (is.take c).map some ∧ pall (getI is) (is.length - 1) (is.length - 1) = pall (getI (is.take c)) (c - 1) (c - 1) * 2 ^ (is.length - c) := by
  refine ⟨cutN (is.map some) is.length, cutN_pos _ _ h0, cutN_le _ _, short_ints is, ?_⟩
  have hc := cutN_pos (is.map some) _ h0
  rw [pall_cut is is.length h0 (Nat.le_refl _)]
  congr 1
  exact (pall_congr fun j hj => getI_take (by omega)).symm
theorem avg_mono {is js : List Int} (h0 : 0 < is.length) (hl : is.length = js.length) (e : ∀ j, j < is.length → getI is j ≤ getI js j) {c d : Nat} (c0 : 0 < c) (c1 : c ≤ is.length) (d0 : 0 < d) (d1 : d ≤ js.length) {A B : Int}
    (ha : pall (getI is) (is.length - 1) (is.length - 1) = A * 2 ^ (is.length - c)) (hb : pall (getI js) (js.length - 1) (js.length - 1) = B * 2 ^ (js.length - d)) : A * 2 ^ (d - 1) ≤ B * 2 ^ (c - 1) := by
  have m := pall_mono (g := getI is) (h := getI js) (z := is.length - 1) (k := is.length - 1) fun j hj => e j (by omega)
  rw [ha] at m
  rw [hl] at m
  rw [hb] at m
  rw [hl] at c1
  generalize js.length = n at *
  have p := pow2_pos (n - c)
  have q := pow2_pos (n - d)
  have r := pow2_pos (n - 1)
  have x1 : (2 : Int) ^ (n - 1) = 2 ^ (n - c) * 2 ^ (c - 1) := by rw [← Int.pow_add, show n - c + (c - 1) = n - 1 by omega]
  have x2 : (2 : Int) ^ (n - 1) = 2 ^ (n - d) * 2 ^ (d - 1) := by rw [← Int.pow_add, show n - d + (d - 1) = n - 1 by omega]
  have m2 := Int.mul_le_mul_of_nonneg_right m (Int.le_of_lt r)
  have l1 : A * 2 ^ (n - c) * 2 ^ (n - 1) = A * 2 ^ (d - 1) * (2 ^ (n - c) * 2 ^ (n - d)) := by
    rw [x2, Int.mul_assoc, Int.mul_assoc, Int.mul_left_comm (2 ^ (n - c)), Int.mul_comm (2 ^ (n - c)) (2 ^ (d - 1)), Int.mul_left_comm (2 ^ (n - d)), Int.mul_comm (2 ^ (n - d))]
  have l2 : B * 2 ^ (n - d) * 2 ^ (n - 1) = B * 2 ^ (c - 1) * (2 ^ (n - c) * 2 ^ (n - d)) := by
    rw [x1, Int.mul_assoc, Int.mul_assoc, Int.mul_left_comm (2 ^ (n - d)), Int.mul_comm (2 ^ (n - d)) (2 ^ (c - 1)), Int.mul_left_comm (2 ^ (n - c))]
  rw [l1, l2] at m2
  exact Int.le_of_mul_le_mul_right m2 (Int.mul_pos p q)
theorem cross_red {A N B M G F : Int} (g0 : 0 < G) (f0 : 0 < F) (h1 : G ∣ A) (h2 : G ∣ N) (h3 : F ∣ B) (h4 : F ∣ M) (h : A * M ≤ B * N) : A / G * (M / F) ≤ B / F * (N / G) := by
  obtain ⟨a, rfl⟩ := h1
  obtain ⟨n, rfl⟩ := h2
  obtain ⟨b, rfl⟩ := h3
  obtain ⟨m, rfl⟩ := h4
  rw [Int.mul_ediv_cancel_left _ (by omega), Int.mul_ediv_cancel_left _ (by omega), Int.mul_ediv_cancel_left _ (by omega), Int.mul_ediv_cancel_left _ (by omega)]
  have e1 : G * a * (F * m) = a * m * (G * F) := by
    rw [Int.mul_assoc, Int.mul_left_comm a, ← Int.mul_assoc G F, Int.mul_comm (G * F)]
  have e2 : F * b * (G * n) = b * n * (G * F) := by
    rw [Int.mul_assoc, Int.mul_left_comm b, ← Int.mul_assoc F G, Int.mul_comm (F * G), Int.mul_comm F G]
  rw [e1, e2] at h
  exact Int.le_of_mul_le_mul_right h (Int.mul_pos g0 f0)
/-- the greatest counts -/
theorem most_mono {is js : List Int} {k l : Nat} (gi : Good (is.map some)) (gj : Good (js.map some)) (h : LeL (is.map some) (js.map some)) (hk : js.length = l + 1) {T U : Int} (hT : 0 ≤ T) (hU : getI js l ≤ U) (hm : ∀ x, 0 ≤ x → x < 2 ^ l → GG (getI js) l x ≤ GG (getI js) l U) :
    cntT (is.map some) T ≤ cntT (js.map some) U := Int.le_trans (h.count gi gj hT) (most_best gj hk hU hm T hT)

/-! #### sorted lists with the same members -/
theorem asc_unique : ∀ {xs ys : List Nat}, xs.Pairwise (· < ·) → ys.Pairwise (· < ·) → (∀ n, n ∈ xs ↔ n ∈ ys) → xs = ys
  | [], [], _, _, _ => rfl
  | [], y :: _, _, _, h => absurd ((h y).mpr List.mem_cons_self) (by simp)
  | x :: _, [], _, _, h => absurd ((h x).mp List.mem_cons_self) (by simp)
  | x :: xs, y :: ys, hx, hy, h => by
    obtain ⟨x1, x2⟩ := List.pairwise_cons.mp hx
    obtain ⟨y1, y2⟩ := List.pairwise_cons.mp hy
    have e : x = y := by
      have a : y ≤ x := by
        rcases List.mem_cons.mp ((h x).mp List.mem_cons_self) with rfl | z
        · exact Nat.le_refl _
        · exact Nat.le_of_lt (y1 x z)
      have b : x ≤ y := by
        rcases List.mem_cons.mp ((h y).mpr List.mem_cons_self) with rfl | z
        · exact Nat.le_refl _
        · exact Nat.le_of_lt (x1 y z)
      omega
    subst e
    congr 1
    refine asc_unique x2 y2 fun n => ⟨fun z => ?_, fun z => ?_⟩
    · rcases List.mem_cons.mp ((h n).mp (List.mem_cons_of_mem _ z)) with rfl | w
      · exact absurd (x1 n z) (Nat.lt_irrefl _)
      · exact w
    · rcases List.mem_cons.mp ((h n).mpr (List.mem_cons_of_mem _ z)) with rfl | w
      · exact absurd (y1 n z) (Nat.lt_irrefl _)
      · exact w
theorem all_some : ∀ l : List (Option Int), (∀ x ∈ l, x ≠ none) → (l.filterMap _root_.id).map some = l
  | [], _ => rfl
  | none :: _, h => absurd rfl (h none List.mem_cons_self)
  | some a :: r, h => by
    have ih := all_some r fun x hx => h x (List.mem_cons_of_mem _ hx)
    show some a :: ((r.filterMap _root_.id).map some) = some a :: r
    rw [ih]
theorem good_of {ls : List (Option Int)} (h0 : 0 < ls.length) (h1 : ls.length ≤ 61) (asc : ∀ (i : Nat) (x y : Option Int), ls[i]? = some x → ls[i + 1]? = some y → leO x y = true) (nl : ∀ j : Nat, ls[j]? = some none → j + 1 = ls.length) (bd : ∀ (j : Nat) (v : Int), ls[j]? = some (some v) → 0 ≤ v ∧ v ≤ 10 ^ 18) : Good ls := by
  obtain ⟨ini, x, rfl⟩ : ∃ ini x, ls = ini ++ [x] := ⟨ls.dropLast, ls.getLast (by intro z; rw [z] at h0; cases h0), (List.dropLast_concat_getLast _).symm⟩
  have mem : ∀ y ∈ ini ++ [x], ∃ j, (ini ++ [x])[j]? = some y := fun y hy => by
    obtain ⟨j, hj, e⟩ := List.mem_iff_getElem.mp hy
    exact ⟨j, by rw [List.getElem?_eq_getElem hj, e]⟩
  have as : (ini.filterMap _root_.id).map some = ini := all_some ini fun y hy z => by
    subst z
    obtain ⟨j, hj, e⟩ := List.mem_iff_getElem.mp hy
    have hj2 : (ini ++ [x])[j]? = some none := by rw [List.getElem?_append_left hj, List.getElem?_eq_getElem hj, e]
    have := nl j hj2
    rw [List.length_append] at this
    simp at this
    omega
  refine ⟨h0, h1, ⟨ini.filterMap _root_.id, x, by rw [as], fun v hv => ?_, fun v hv => ?_⟩, asc⟩
  · obtain ⟨y, hy, e⟩ := List.mem_filterMap.mp hv
    have e : y = some v := e
    subst e
    obtain ⟨j, hj⟩ := mem _ (List.mem_append_left _ hy)
    exact bd j v hj
  · subst hv
    obtain ⟨j, hj⟩ := mem (some v) (List.mem_append_right _ (List.mem_singleton.mpr rfl))
    exact bd j v hj
/-- the second nowhere shorter, open where the first is -/
structure LeX (ls ms : List (Option Int)) : Prop where
  len : ms.length = ls.length
  at_ : ∀ (j : Nat) (x y : Option Int), ls[j]? = some x → ms[j]? = some y → leO x y = true ∧ (x = none ↔ y = none)
theorem LeX.life {ls ms : List (Option Int)} (h : LeX ls ms) (h0 : 0 < ls.length) (i : Nat) : leO (lifeAt ls i) (lifeAt ms i) = true ∧ (lifeAt ls i = none ↔ lifeAt ms i = none) := by
  have key : ∀ j, j < ls.length → leO (lifeAt ls j) (lifeAt ms j) = true ∧ (lifeAt ls j = none ↔ lifeAt ms j = none) := fun j hj => by
    have e1 := List.getElem?_eq_getElem hj
    have e2 := List.getElem?_eq_getElem (l := ms) (i := j) (by rw [h.len]; exact hj)
    rw [lifeAt_lt e1, lifeAt_lt e2]
    exact h.at_ j _ _ e1 e2
  by_cases c : i < ls.length
  · exact key i c
  · rw [lifeAt_last h0 (show ls.length - 1 ≤ i by omega), lifeAt_last (ls := ms) (by rw [h.len]; exact h0) (show ms.length - 1 ≤ i by rw [h.len]; omega), h.len]
    exact key _ (by omega)
theorem LeX.le {ls ms : List (Option Int)} (h : LeX ls ms) (h0 : 0 < ls.length) : LeL ls ms := fun i => (h.life h0 i).1
def upO (u : Int) (x : Option Int) : Option Int := x.map fun v => if u > v then u else v
/-- from the i-th on at least u -/
def LongP (ls ms : List (Option Int)) (i e : Nat) (u : Int) : Prop := ms.length = ls.length ∧ ∀ j, ms[j]? = if i ≤ j ∧ j < e then (ls[j]?).map (upO u) else ls[j]?
theorem upO_le (u : Int) (x : Option Int) : leO x (upO u x) = true ∧ (x = none ↔ upO u x = none) := by
  cases x with
  | none => exact ⟨rfl, Iff.rfl⟩
  | some v =>
    refine ⟨?_, ⟨fun z => (by cases z), fun z => (by cases z)⟩⟩
    show decide (v ≤ if u > v then u else v) = true
    refine decide_eq_true ?_
    split <;> omega
theorem upO_mono {u : Int} {x y : Option Int} (h : leO x y = true) : leO (upO u x) (upO u y) = true := by
  cases y with
  | none => exact leO_t _
  | some b =>
    cases x with
    | none => cases h
    | some a =>
      have h : a ≤ b := of_decide_eq_true h
      show decide ((if u > a then u else a) ≤ if u > b then u else b) = true
      refine decide_eq_true ?_
      split <;> split <;> omega
theorem LongP.lex {ls ms : List (Option Int)} {i : Nat} {u : Int} (h : LongP ls ms i ls.length u) : LeX ls ms := by
  refine ⟨h.1, fun j x y hx hy => ?_⟩
  rw [h.2 j, hx] at hy
  have hj := (List.getElem?_eq_some_iff.mp hx).1
  by_cases c : i ≤ j
  · rw [if_pos ⟨c, hj⟩] at hy
    cases hy
    exact upO_le u x
  · rw [if_neg (fun z => c z.1)] at hy
    cases hy
    exact ⟨leO_refl _, Iff.rfl⟩
theorem LongP.good {ls ms : List (Option Int)} {i : Nat} {u : Int} (h : LongP ls ms i ls.length u) (g : Good ls) (u0 : 0 ≤ u) (u1 : u ≤ 10 ^ 18) : Good ms := by
  have val : ∀ (j : Nat) (y : Option Int), ms[j]? = some y → ∃ x, ls[j]? = some x ∧ ((i ≤ j ∧ y = upO u x) ∨ (j < i ∧ y = x)) := fun j y hy => by
    have hj := (List.getElem?_eq_some_iff.mp hy).1
    rw [h.1] at hj
    have e := List.getElem?_eq_getElem hj
    rw [h.2 j, e] at hy
    by_cases c : i ≤ j
    · rw [if_pos ⟨c, hj⟩] at hy
      exact ⟨_, e, .inl ⟨c, (Option.some.inj hy).symm⟩⟩
    · rw [if_neg (fun z => c z.1)] at hy
      exact ⟨_, e, .inr ⟨by omega, (Option.some.inj hy).symm⟩⟩
  refine good_of (by rw [h.1]; exact g.pos) (by rw [h.1]; exact g.most) (fun j x y hx hy => ?_) (fun j hj => ?_) (fun j v hv => ?_)
  · obtain ⟨a, ha, ca⟩ := val j x hx
    obtain ⟨b, hb, cb⟩ := val (j + 1) y hy
    have ab := g.asc j a b ha hb
    rcases ca with ⟨_, rfl⟩ | ⟨_, rfl⟩
    · rcases cb with ⟨_, rfl⟩ | ⟨_, rfl⟩
      · exact upO_mono ab
      · omega
    · rcases cb with ⟨_, rfl⟩ | ⟨_, rfl⟩
      · exact leO_trans ab (upO_le u b).1
      · exact ab
  · obtain ⟨a, ha, ca⟩ := val j none hj
    rw [h.1]
    rcases ca with ⟨_, e⟩ | ⟨_, rfl⟩
    · rw [(upO_le u a).2.mpr e.symm] at ha
      exact good_none_last g ha
    · exact good_none_last g ha
  · obtain ⟨a, ha, ca⟩ := val j (some v) hv
    rcases ca with ⟨_, e⟩ | ⟨_, rfl⟩
    · cases a with
      | none => cases e
      | some w =>
        have b := g.bd (some w) (List.mem_of_getElem? ha) w rfl
        have e : v = if u > w then u else w := Option.some.inj e
        rw [e]
        split <;> omega
    · exact g.bd (some v) (List.mem_of_getElem? ha) v rfl
theorem LongP.start (ls : List (Option Int)) (i : Nat) (u : Int) : LongP ls ls i i u := ⟨rfl, fun j => by rw [if_neg (by omega)]⟩
theorem LongP.skip {ls ms : List (Option Int)} {i e : Nat} {u : Int} (h : LongP ls ms i e u) (hn : ls[e]? = some none) : LongP ls ms i (e + 1) u := ⟨h.1, fun j => by
  rw [h.2 j]
  by_cases c : j = e
  · subst c
    rw [if_neg (by omega), hn]
    split <;> rfl
  · by_cases d : i ≤ j ∧ j < e
    · rw [if_pos d, if_pos ⟨d.1, by omega⟩]
    · rw [if_neg d, if_neg (by omega)]⟩
theorem LongP.set {ls ms : List (Option Int)} {i e : Nat} {u : Int} (h : LongP ls ms i e u) (hi : i ≤ e) (he : e < ls.length) : LongP ls (ms.set e (upO u ls[e])) i (e + 1) u := ⟨by rw [List.length_set]; exact h.1, fun j => by
  rw [List.getElem?_set]
  by_cases c : e = j
  · subst c
    rw [if_pos rfl, if_pos (by rw [h.1]; exact he), if_pos ⟨hi, by omega⟩, List.getElem?_eq_getElem he]
    rfl
  · rw [if_neg c, h.2 j]
    by_cases d : i ≤ j ∧ j < e
    · rw [if_pos d, if_pos ⟨d.1, by omega⟩]
    · rw [if_neg d, if_neg (by omega)]⟩
end Rk
namespace Rk
open PySem PySem.Spec PyProof.Rows L2

/-! ### lives cut off behind a tick: the same points, the same counts -/
def clipO (t : Int) : Option Int → Option Int
  | none => none
  | some b => some (min b (t + 1))
theorem bandLo_clip (t : Int) (l : Option Int) : bandLo t (clipO t l) = bandLo t l := by
  cases l with
  | none => rfl
  | some b =>
    show (if t + 1 ≤ min b (t + 1) then 0 else t + 1 - min b (t + 1)) = if t + 1 ≤ b then 0 else t + 1 - b
    by_cases h : t + 1 ≤ b
    · rw [if_pos h, if_pos (by omega)]
    · rw [if_neg h, if_neg (by omega)]
      omega
theorem bands_clip (t : Int) : ∀ (ls : List (Option Int)) (i : Nat) (hi : Int), bandsOf t i hi (ls.map (clipO t)) = bandsOf t i hi ls
  | [], _, _ => rfl
  | l :: r, i, hi => by
    show (bandLo t (clipO t l), hi, 2 ^ i) :: bandsOf t (i + 1) (bandLo t (clipO t l) - 1) (r.map (clipO t)) = (bandLo t l, hi, 2 ^ i) :: bandsOf t (i + 1) (bandLo t l - 1) r
    rw [bandLo_clip, bands_clip t r]
theorem cntB_clip (low high t : Int) : ∀ (ls : List (Option Int)) (i : Nat) (hi : Int), cntB low high t i hi (ls.map (clipO t)) = cntB low high t i hi ls
  | [], _, _ => rfl
  | l :: r, i, hi => by
    show mulN (max low (bandLo t (clipO t l))) (min high hi) (2 ^ i) + cntB low high t (i + 1) (bandLo t (clipO t l) - 1) (r.map (clipO t)) = mulN (max low (bandLo t l)) (min high hi) (2 ^ i) + cntB low high t (i + 1) (bandLo t l - 1) r
    rw [bandLo_clip, cntB_clip low high t r]
theorem rpO_clip (ls : List (Option Int)) (t e : Int) : rpO (ls.map (clipO t)) t e = rpO ls t e := by
  unfold rpO
  rw [bands_clip]
theorem leO_clip {t n : Int} (hn : 0 ≤ n) (l : Option Int) : leO (some (t - n + 1)) (clipO t l) = leO (some (t - n + 1)) l := by
  cases l with
  | none => rfl
  | some b =>
    show decide (t - n + 1 ≤ min b (t + 1)) = decide (t - n + 1 ≤ b)
    exact decide_eq_decide.mpr (by omega)
theorem kept_clip {ls : List (Option Int)} (h0 : 0 < ls.length) {t n : Int} : Kept (ls.map (clipO t)) t n ↔ Kept ls t n := by
  unfold Kept
  rw [lifeAt_map _ h0]
  exact ⟨fun ⟨a, b, c⟩ => ⟨a, b, by rw [← leO_clip a]; exact c⟩, fun ⟨a, b, c⟩ => ⟨a, b, by rw [leO_clip a]; exact c⟩⟩
theorem good_clip {ls : List (Option Int)} (g : Good ls) {u t : Int} (hu : 0 ≤ u) (ht : 0 ≤ t) (h18 : t < 10 ^ 18) : Good ((ls.map (addO u)).map (clipO t)) := by
  have hat : ∀ (j : Nat) (o : Option Int), ((ls.map (addO u)).map (clipO t))[j]? = some o → ∃ l, ls[j]? = some l ∧ o = clipO t (addO u l) := fun j o h => by
    rw [List.getElem?_map, List.getElem?_map] at h
    cases e : ls[j]? with
    | none => rw [e] at h; cases h
    | some l => rw [e] at h; exact ⟨l, rfl, (Option.some.inj h).symm⟩
  refine good_of (by rw [List.length_map, List.length_map]; exact g.pos) (by rw [List.length_map, List.length_map]; exact g.most) (fun i x y hx hy => ?_) (fun j hj => ?_) (fun j v hj => ?_)
  · obtain ⟨a, ha, rfl⟩ := hat i x hx
    obtain ⟨b, hb, rfl⟩ := hat (i + 1) y hy
    have ab := g.asc i a b ha hb
    cases b with
    | none => cases a <;> rfl
    | some b =>
      cases a with
      | none => cases ab
      | some a =>
        have ab' : a ≤ b := of_decide_eq_true ab
        exact decide_eq_true (show min (a + u) (t + 1) ≤ min (b + u) (t + 1) by omega)
  · obtain ⟨l, hl, e⟩ := hat j none hj
    cases l with
    | none => rw [List.length_map, List.length_map]; exact good_none_last g hl
    | some b => cases e
  · obtain ⟨l, hl, e⟩ := hat j (some v) hj
    cases l with
    | none => cases e
    | some b =>
      have hb := g.bd (some b) (List.mem_of_getElem? hl) b rfl
      have e2 : v = min (b + u) (t + 1) := Option.some.inj e
      omega
/-- a rule made longer, cut off behind a tick -/
theorem good_more {ls : List (Option Int)} (g : Good ls) {u t : Int} (hu : 0 ≤ u) (ht : 0 ≤ t) (h18 : t < 10 ^ 18) : Good ((short (ls.map (addO u))).map (clipO t)) := by
  have p : 0 < (ls.map (addO u)).length := by rw [List.length_map]; exact g.pos
  unfold short
  rw [List.map_take]
  exact good_take (good_clip g hu ht h18) (cutN_pos _ _ p) (by simp only [List.length_map]; exact cutN_le _ _)
theorem kept_more {ls : List (Option Int)} (h0 : 0 < ls.length) {u t n : Int} (hu : 0 ≤ u) (h : Kept ls t n) : Kept (short (ls.map (addO u))) t n := by
  obtain ⟨a, b, c⟩ := h
  refine ⟨a, b, ?_⟩
  rw [lifeAt_short (by rw [List.length_map]; exact h0), lifeAt_map _ h0]
  cases e : lifeAt ls (rkI n) with
  | none => rfl
  | some v =>
    rw [e] at c
    have c' : t - n + 1 ≤ v := of_decide_eq_true c
    exact decide_eq_true (show t - n + 1 ≤ v + u by omega)
theorem rp_more {ls : List (Option Int)} (g : Good ls) {u t p : Int} (hu : 0 ≤ u) (ht : 0 ≤ t) (h18 : t < 10 ^ 18) (h : Kept ls t p) : rpO (short (ls.map (addO u))) t p = some p := by
  have p0 : 0 < (short (ls.map (addO u))).length := short_len_pos (by rw [List.length_map]; exact g.pos)
  rw [← rpO_clip]
  exact rpO_some (good_more g hu ht h18) ht ((kept_clip p0).mpr (kept_more g.pos hu h)) (Int.le_refl _) fun n _ hn => hn

/-! ### the kept points from the youngest one on -/
def ptsR (ls : List (Option Int)) (t : Nat) : List Nat := (keptL ls t).reverse
theorem keptL_up (ls : List (Option Int)) (t : Nat) : (keptL ls t).Pairwise (· < ·) := List.Pairwise.filter _ List.pairwise_lt_range
theorem ptsR_down (ls : List (Option Int)) (t : Nat) : (ptsR ls t).Pairwise (fun a b => b < a) := List.pairwise_reverse.mpr (keptL_up ls t)
theorem ptsR_mem {ls : List (Option Int)} {t n : Nat} : n ∈ ptsR ls t ↔ n ≤ t ∧ keptB ls t ((n : Nat) : Int) = true := by
  unfold ptsR
  rw [List.mem_reverse]
  exact keptL_mem
theorem ptsR_len (ls : List (Option Int)) (t : Nat) : (ptsR ls t).length = (keptL ls t).length := List.length_reverse
theorem filter_drop {α : Type} {p : α → Bool} (R : List α) (i : Nat) (h1 : ∀ x ∈ R.take i, p x = false) (h2 : ∀ x ∈ R.drop i, p x = true) : R.filter p = R.drop i := by
  conv => lhs; rw [← List.take_append_drop i R]
  rw [List.filter_append, List.filter_eq_self.mpr h2, List.filter_eq_nil_iff.mpr fun x hx => by rw [h1 x hx]; decide]
  rfl
theorem filter_take {α : Type} {p : α → Bool} (R : List α) (i : Nat) (h1 : ∀ x ∈ R.take i, p x = true) (h2 : ∀ x ∈ R.drop i, p x = false) : R.filter p = R.take i := by
  conv => lhs; rw [← List.take_append_drop i R]
  rw [List.filter_append, List.filter_eq_self.mpr h1, List.filter_eq_nil_iff.mpr fun x hx => by rw [h2 x hx]; decide]
  exact List.append_nil _
theorem down_take {R : List Nat} (d : R.Pairwise fun a b => b < a) {i x : Nat} (h : R[i]? = some x) : ∀ y ∈ R.take (i + 1), x ≤ y := fun y hy => by
  obtain ⟨j, hj, e⟩ := List.mem_iff_getElem.mp hy
  rw [List.getElem_take] at e
  obtain ⟨hi, e2⟩ := List.getElem?_eq_some_iff.mp h
  rw [List.length_take] at hj
  subst e
  subst e2
  by_cases c : j = i
  · subst c; exact Nat.le_refl _
  · exact Nat.le_of_lt ((List.pairwise_iff_getElem.mp d) j i _ _ (by omega))
theorem down_drop {R : List Nat} (d : R.Pairwise fun a b => b < a) {i x : Nat} (h : R[i]? = some x) : ∀ y ∈ R.drop (i + 1), y < x := fun y hy => by
  obtain ⟨j, hj, e⟩ := List.mem_iff_getElem.mp hy
  rw [List.getElem_drop] at e
  obtain ⟨hi, e2⟩ := List.getElem?_eq_some_iff.mp h
  subst e
  subst e2
  exact (List.pairwise_iff_getElem.mp d) i (i + 1 + j) _ _ (by omega)
/-- the restore point between two neighbours -/
theorem rp_at {ls : List (Option Int)} (g : Good ls) {t e i : Nat} (he : e ≤ t) (h1 : ∀ x ∈ (ptsR ls t).take i, e < x) (h2 : ∀ x ∈ (ptsR ls t).drop i, x ≤ e) : rpO ls t e = ((ptsR ls t)[i]?).map fun n => ((n : Nat) : Int) := by
  rw [old_last g t e (by omega)]
  congr 1
  have k := filter_drop (p := fun n : Nat => decide (((n : Nat) : Int) ≤ (e : Int))) (ptsR ls t) i (fun x hx => decide_eq_false (by have := h1 x hx; omega)) (fun x hx => decide_eq_true (by have := h2 x hx; omega))
  have k2 : ((keptL ls t).filter fun n : Nat => decide (((n : Nat) : Int) ≤ (e : Int))).reverse = (ptsR ls t).drop i := by
    rw [← k]
    unfold ptsR
    rw [List.filter_reverse]
  rw [← List.head?_reverse, k2, List.head?_drop]
theorem down_drop_le {R : List Nat} (d : R.Pairwise fun a b => b < a) {i x : Nat} (h : R[i]? = some x) : ∀ y ∈ R.drop i, y ≤ x := fun y hy => by
  obtain ⟨hi, e2⟩ := List.getElem?_eq_some_iff.mp h
  rw [List.drop_eq_getElem_cons hi, e2] at hy
  rcases List.mem_cons.mp hy with rfl | hy
  · exact Nat.le_refl _
  · exact Nat.le_of_lt (down_drop d h y hy)
/-- no point between two neighbours -/
theorem no_between {ls : List (Option Int)} (g : Good ls) {t i : Nat} {x y : Nat} (hx : (ptsR ls t)[i]? = some x) (hy : (ptsR ls t)[i + 1]? = some y) : cntB ((y : Int) + 1) ((x : Int) - 1) (t : Int) 0 (t : Int) ls = 0 := by
  have d := ptsR_down ls t
  rw [cnt_kept g, List.filter_eq_nil_iff.mpr fun n hn => ?_]
  · rfl
  · intro z
    have zz := inR_iff.mp z
    have hn2 : n ∈ ptsR ls t := List.mem_reverse.mpr hn
    rw [← List.take_append_drop (i + 1) (ptsR ls t)] at hn2
    rcases List.mem_append.mp hn2 with h | h
    · have := down_take d hx n h
      omega
    · have := down_drop_le d hy n h
      omega
/-- the youngest ones, counted from the last of them on -/
theorem take_count {ls : List (Option Int)} (g : Good ls) {t i : Nat} {x : Nat} (hx : (ptsR ls t)[i]? = some x) : cntB (x : Int) (t : Int) (t : Int) 0 (t : Int) ls = ((i + 1 : Nat) : Int) := by
  have d := ptsR_down ls t
  have hl := (List.getElem?_eq_some_iff.mp hx).1
  rw [cnt_kept g]
  have e : ((keptL ls t).filter fun n : Nat => inR (x : Int) (t : Int) ((n : Nat) : Int)).length = ((ptsR ls t).filter fun n : Nat => inR (x : Int) (t : Int) ((n : Nat) : Int)).length := by
    unfold ptsR
    rw [List.filter_reverse, List.length_reverse]
  rw [e, filter_take (ptsR ls t) (i + 1) (fun y hy => inR_iff.mpr ⟨by have := down_take d hx y hy; omega, by have := (ptsR_mem.mp (List.mem_of_mem_take hy)).1; omega⟩) (fun y hy => Bool.eq_false_iff.mpr fun z => by have := inR_iff.mp z; have := down_drop d hx y hy; omega), List.length_take]
  congr 1
  omega
end Rk
namespace Rk
open PySem PySem.Spec PyProof.Rows L2 GenW

/-! ### averages told in lowest terms -/
theorem sum_bound {is : List Int} {n : Nat} (h6 : n ≤ 60) (hb : ∀ y ∈ is, 0 ≤ y ∧ y ≤ (10 : Int) ^ 18) : 0 ≤ pall (getI is) n n ∧ pall (getI is) n n ≤ 10 ^ 40 := by
  have g0 : ∀ i, 0 ≤ getI is i ∧ getI is i ≤ (10 : Int) ^ 18 := fun i => by
    unfold getI
    cases e : is[i]? with
    | none => exact ⟨Int.le_refl _, by decide⟩
    | some y => exact hb y (List.mem_of_getElem? e)
  refine ⟨pall_nonneg (fun i => (g0 i).1) n n, ?_⟩
  have h1 := pall_le (B := 10 ^ 18) (by decide) (fun i => (g0 i).2) n n
  have h2 : (10 : Int) ^ 18 * 2 ^ n ≤ 10 ^ 18 * 2 ^ 60 := Int.mul_le_mul_of_nonneg_left (pow2_le h6) (by decide)
  have h3 : ((n : Int) + 1) * (10 ^ 18 * 2 ^ n) ≤ 61 * (10 ^ 18 * 2 ^ 60) := Int.mul_le_mul (by omega) h2 (Int.mul_nonneg (by decide) (Int.le_of_lt (pow2_pos n))) (by decide)
  exact Int.le_trans h1 (Int.le_trans h3 (by decide))
/-- the value told, and its parts -/
theorem told_right {is : List Int} {n : Nat} (h6 : n ≤ 60) (hl : is.length = n + 1) (hb : ∀ y ∈ is, 0 ≤ y ∧ y ≤ (10 : Int) ^ 18) {c : Nat} (hc : c = cutN (is.map some) (n + 1)) :
    ∃ (j : Nat) (x : Int), j ≤ c - 1 ∧ 0 ≤ x ∧ pall (getI (is.take c)) (c - 1) (c - 1) / ((Nat.gcd (pall (getI (is.take c)) (c - 1) (c - 1)).natAbs ((2 : Int) ^ (c - 1)).natAbs : Nat) : Int) = x ∧
      (2 : Int) ^ (c - 1) / ((Nat.gcd (pall (getI (is.take c)) (c - 1) (c - 1)).natAbs ((2 : Int) ^ (c - 1)).natAbs : Nat) : Int) = 2 ^ j ∧ x * 2 ^ n = pall (getI is) n n * 2 ^ j ∧ (j = 0 ∨ x % 2 = 1) ∧ x ≤ 10 ^ 60 := by
  have c0 : 0 < c := by rw [hc]; exact cutN_pos _ _ (by omega)
  have c1 : c ≤ n + 1 := by rw [hc]; exact cutN_le _ _
  have e1 : pall (getI (is.take c)) (c - 1) (c - 1) = pall (getI is) (c - 1) (c - 1) := pall_congr fun j hj => getI_take (by omega)
  have e2 := pall_cut is (n + 1) (by omega) (by omega)
  rw [← hc] at e2
  rw [e1]
  have g0 : ∀ i, 0 ≤ getI is i ∧ getI is i ≤ (10 : Int) ^ 18 := fun i => by
    unfold getI
    cases e : is[i]? with
    | none => exact ⟨Int.le_refl _, by decide⟩
    | some y => exact hb y (List.mem_of_getElem? e)
  have nn := pall_nonneg (fun i => (g0 i).1) (c - 1) (c - 1)
  obtain ⟨A, hA⟩ := Int.eq_ofNat_of_zero_le nn
  have sb := sum_bound (n := n) h6 hb
  rw [hA] at e2 ⊢
  have e3 : n + 1 - 1 = n := by omega
  rw [e3] at e2
  obtain ⟨j, x, hj, d1, d2, d3, d4⟩ := lowest A (c - 1)
  have p2 : ((2 : Int) ^ (c - 1)).natAbs = 2 ^ (c - 1) := pow2_natAbs _
  have cast : ∀ k : Nat, ((2 ^ k : Nat) : Int) = (2 : Int) ^ k := fun k => by rw [Int.natCast_pow]; rfl
  rw [p2, Int.natAbs_natCast]
  have main : (x : Int) * 2 ^ n = pall (getI is) n n * 2 ^ j := by
    rw [e2]
    have e4 : n = (n + 1 - c) + (c - 1) := by omega
    have e5 : (2 : Int) ^ n = 2 ^ (n + 1 - c) * 2 ^ (c - 1) := by
      conv => lhs; rw [e4]
      exact Int.pow_add _ _ _
    have e6 : (x : Int) * 2 ^ (c - 1) = (A : Int) * 2 ^ j := by
      rw [← cast, ← cast, ← Int.natCast_mul, ← Int.natCast_mul, d3]
    rw [e5, Int.mul_comm (2 ^ (n + 1 - c)), ← Int.mul_assoc, e6, Int.mul_assoc, Int.mul_assoc, Int.mul_comm (2 ^ j)]
  refine ⟨j, x, hj, Int.natCast_nonneg _, ?_, ?_, main, ?_, ?_⟩
  · rw [← d2]
    exact (Int.natCast_ediv _ _).symm
  · rw [← cast (c - 1), ← cast j, ← d1]
    exact (Int.natCast_ediv _ _).symm
  · rcases d4 with d4 | d4
    · exact .inl d4
    · exact .inr (by omega)
  · have h1 : (x : Int) * 2 ^ n ≤ pall (getI is) n n * 2 ^ n := by
      rw [main]
      exact Int.mul_le_mul_of_nonneg_left (pow2_le (by omega)) sb.1
    have h2 := Int.le_of_mul_le_mul_right h1 (pow2_pos n)
    have h3 : (10 : Int) ^ 40 ≤ 10 ^ 60 := by decide
    omega

/-! ### one life one tick shorter -/
def cutL (ls : List (Option Int)) (i : Nat) (v : Int) : List (Option Int) := ls.set i (some (v - 1))
structure Cut (ls : List (Option Int)) (i : Nat) (v : Int) : Prop where
  g : Good ls
  hi : ls[i]? = some (some v)
  v1 : 1 ≤ v
  pr : ∀ x, 0 < i → ls[i - 1]? = some (some x) → x < v
section
variable {ls : List (Option Int)} {i : Nat} {v : Int}
theorem Cut.lt (c : Cut ls i v) : i < ls.length := (List.getElem?_eq_some_iff.mp c.hi).1
theorem Cut.v18 (c : Cut ls i v) : v ≤ 10 ^ 18 := (c.g.bd _ (List.mem_of_getElem? c.hi) v rfl).2
theorem cutL_len : (cutL ls i v).length = ls.length := List.length_set ..
theorem cutL_at (c : Cut ls i v) (j : Nat) : (cutL ls i v)[j]? = if j = i then some (some (v - 1)) else ls[j]? := by
  unfold cutL
  rw [List.getElem?_set]
  by_cases h : i = j
  · subst h
    rw [if_pos rfl, if_pos c.lt, if_pos rfl]
  · rw [if_neg h, if_neg (fun z => h z.symm)]
theorem Cut.good (c : Cut ls i v) : Good (cutL ls i v) := by
  obtain ⟨is, l, e, h1, h2⟩ := c.g.init
  have bd := c.g.bd
  have lt := c.lt
  have hv := c.hi
  have l18 := c.v18
  have v1 := c.v1
  refine ⟨by rw [cutL_len]; exact c.g.pos, by rw [cutL_len]; exact c.g.most, ?_, fun j x y hx hy => ?_⟩
  · by_cases h : i < is.length
    · refine ⟨is.set i (v - 1), l, ?_, fun z hz => ?_, h2⟩
      · unfold cutL
        rw [e, List.set_append_left _ _ (by rw [List.length_map]; exact h), List.map_set]
      · rcases List.mem_or_eq_of_mem_set hz with q | q
        · exact h1 z q
        · rw [q]; omega
    · have hl : i = is.length := by
        have := congrArg List.length e
        rw [List.length_append, List.length_map] at this
        have z : [l].length = 1 := rfl
        omega
      refine ⟨is, some (v - 1), ?_, h1, fun z hz => by cases hz; omega⟩
      unfold cutL
      rw [e, List.set_append_right _ _ (by rw [List.length_map]; omega), List.length_map, hl, Nat.sub_self]
      rfl
  · rw [cutL_at c] at hx hy
    by_cases a : j = i
    · rw [if_pos a] at hx
      cases hx
      rw [if_neg (by omega)] at hy
      have q := c.g.asc i (some v) y hv (by rw [← a]; exact hy)
      cases y with
      | none => rfl
      | some b =>
        have := of_decide_eq_true q
        exact decide_eq_true (by omega)
    · rw [if_neg a] at hx
      by_cases b : j + 1 = i
      · rw [if_pos b] at hy
        cases hy
        cases x with
        | none =>
          have q := c.g.asc j none (some v) hx (by rw [b]; exact hv)
          cases q
        | some z =>
          have q := c.pr z (by omega) (by rw [show i - 1 = j by omega]; exact hx)
          exact decide_eq_true (by omega)
      · rw [if_neg b] at hy
        exact c.g.asc j x y hx hy
theorem cut_life (c : Cut ls i v) (j : Nat) : lifeAt (cutL ls i v) j = if min j (ls.length - 1) = i then some (v - 1) else lifeAt ls j := by
  have p := c.g.pos
  rw [← lifeAt_least (by rw [cutL_len]; exact p) j, cutL_len]
  have hm : min j (ls.length - 1) < ls.length := by omega
  by_cases h : min j (ls.length - 1) = i
  · rw [if_pos h]
    exact lifeAt_lt (by rw [cutL_at c, if_pos h])
  · rw [if_neg h, ← lifeAt_least p j]
    have e := List.getElem?_eq_getElem hm
    rw [lifeAt_lt e]
    exact lifeAt_lt (by rw [cutL_at c, if_neg h, e])
theorem cut_life0 (c : Cut ls i v) {j : Nat} (h : min j (ls.length - 1) = i) : lifeAt ls j = some v := by
  rw [← lifeAt_least c.g.pos j]
  exact lifeAt_lt (by rw [h]; exact c.hi)
/-- whether the point is the one whose age is the new life -/
def goneP (ls : List (Option Int)) (i : Nat) (v t n : Int) : Bool := decide (n = t - v + 1) && decide (min (rkI n) (ls.length - 1) = i)
theorem cut_kept (c : Cut ls i v) (t n : Int) : keptB (cutL ls i v) t n = (keptB ls t n && !goneP ls i v t n) := by
  unfold keptB goneP
  rw [cut_life c]
  by_cases h : min (rkI n) (ls.length - 1) = i
  · rw [if_pos h, cut_life0 c h, decide_eq_true h, Bool.and_true]
    show (decide (n ≤ t) && decide (t - n + 1 ≤ v - 1)) = (decide (n ≤ t) && decide (t - n + 1 ≤ v) && !decide (n = t - v + 1))
    by_cases a : n ≤ t
    · rw [decide_eq_true a, Bool.true_and, Bool.true_and]
      by_cases b : t - n + 1 ≤ v - 1
      · rw [decide_eq_true b, decide_eq_true (by omega), decide_eq_false (by omega)]; rfl
      · rw [decide_eq_false b]
        by_cases d : n = t - v + 1
        · rw [decide_eq_true d, decide_eq_true (by omega)]; rfl
        · rw [decide_eq_false d, decide_eq_false (by omega)]; rfl
    · rw [decide_eq_false a]; rfl
  · rw [if_neg h, decide_eq_false h, Bool.and_false, Bool.not_false, Bool.and_true]
theorem gone_kept1 (c : Cut ls i v) {t n : Int} (h : goneP ls i v t n = true) : keptB ls t n = true := by
  obtain ⟨h1, h2⟩ := Bool.and_eq_true_iff.mp h
  have e := of_decide_eq_true h1
  have v1 := c.v1
  unfold keptB
  rw [cut_life0 c (of_decide_eq_true h2)]
  exact Bool.and_eq_true_iff.mpr ⟨decide_eq_true (by omega), decide_eq_true (by omega)⟩
/-- how many points fewer -/
theorem cut_count (c : Cut ls i v) (t : Nat) : (((keptL (cutL ls i v) t).length : Nat) : Int) = (((keptL ls t).length : Nat) : Int) - (if 0 ≤ (t : Int) - v + 1 ∧ min (rkI ((t : Int) - v + 1)) (ls.length - 1) = i then 1 else 0) := by
  have e0 : keptL (cutL ls i v) t = (keptL ls t).filter fun n => !goneP ls i v (t : Int) ((n : Nat) : Int) := by
    unfold keptL
    rw [List.filter_filter]
    refine List.filter_congr fun n _ => ?_
    rw [cut_kept c, Bool.and_comm]
  by_cases h : 0 ≤ (t : Int) - v + 1 ∧ min (rkI ((t : Int) - v + 1)) (ls.length - 1) = i
  · rw [if_pos h]
    obtain ⟨m, hm⟩ := Int.eq_ofNat_of_zero_le h.1
    have v1 := c.v1
    have e1 : keptL (cutL ls i v) t = (keptL ls t).filter fun n => !decide (n = m) := by
      rw [e0]
      refine List.filter_congr fun n _ => ?_
      congr 1
      unfold goneP
      by_cases d : n = m
      · subst d
        rw [← hm, decide_eq_true rfl, decide_eq_true h.2, decide_eq_true rfl]; rfl
      · rw [decide_eq_false (show ¬ ((n : Nat) : Int) = (t : Int) - v + 1 by omega), decide_eq_false d]; rfl
    have g : goneP ls i v (t : Int) ((m : Nat) : Int) = true := Bool.and_eq_true_iff.mpr ⟨decide_eq_true hm.symm, decide_eq_true (by rw [← hm]; exact h.2)⟩
    have q := ne_len (keptL_nodup ls t) (a := m) (mem_keptL.mpr ⟨by omega, gone_kept1 c g⟩)
    rw [← e1] at q
    omega
  · rw [if_neg h, e0, List.filter_eq_self.mpr]
    · omega
    · intro n _
      unfold goneP
      by_cases d : ((n : Nat) : Int) = (t : Int) - v + 1
      · rw [decide_eq_true d, decide_eq_false (fun z => h ⟨by omega, by rw [← d]; exact z⟩)]; rfl
      · rw [decide_eq_false d]; rfl
end
/-! #### worst distances -/
theorem due_cut {v a : Int} : ∀ (xs : List (Option Int)) (j k : Nat), xs[k]? = some (some v) → a + 2 ^ (j + k) ≠ v → due j (xs.set k (some (v - 1))) a = due j xs a
  | [], _, _, h, _ => by simp at h
  | x :: r, j, 0, h, hn => by
    obtain rfl : x = some v := by simpa using h
    show (if leO (some (a + 2 ^ j)) (some (v - 1)) = true then some (2 ^ j - 1) else due (j + 1) r a) = (if leO (some (a + 2 ^ j)) (some v) = true then some (2 ^ j - 1) else due (j + 1) r a)
    have hn' : a + 2 ^ j ≠ v := hn
    have e : leO (some (a + 2 ^ j)) (some (v - 1)) = leO (some (a + 2 ^ j)) (some v) := by
      show decide (a + 2 ^ j ≤ v - 1) = decide (a + 2 ^ j ≤ v)
      generalize (2 : Int) ^ j = p at *
      by_cases d : a + p ≤ v
      · rw [decide_eq_true d, decide_eq_true (by omega)]
      · rw [decide_eq_false d, decide_eq_false (by omega)]
    rw [e]
  | x :: r, j, k + 1, h, hn => by
    show (if leO (some (a + 2 ^ j)) x = true then some (2 ^ j - 1) else due (j + 1) (r.set k (some (v - 1))) a) = (if leO (some (a + 2 ^ j)) x = true then some (2 ^ j - 1) else due (j + 1) r a)
    rw [due_cut r (j + 1) k (by simpa using h) (by rw [show j + 1 + k = j + (k + 1) by omega]; exact hn)]
/-- the worst distance by all lives but one -/
def dueX (w : Nat) : Nat → List (Option Int) → Int → Option Int
  | _, [], _ => none
  | j, l :: r, a => if (!decide (j = w) && leO (some (a + 2 ^ j)) l) = true then some (2 ^ j - 1) else dueX w (j + 1) r a
theorem dueX_far {w : Nat} {a : Int} : ∀ (xs : List (Option Int)) (j : Nat), w < j → dueX w j xs a = due j xs a
  | [], _, _ => rfl
  | x :: r, j, h => by
    show (if (!decide (j = w) && leO (some (a + 2 ^ j)) x) = true then some (2 ^ j - 1) else dueX w (j + 1) r a) = (if leO (some (a + 2 ^ j)) x = true then some (2 ^ j - 1) else due (j + 1) r a)
    rw [decide_eq_false (show ¬ j = w by omega), dueX_far r (j + 1) (by omega)]
    rfl
theorem due_edge {v a : Int} : ∀ (xs : List (Option Int)) (j k : Nat), xs[k]? = some (some v) → a + 2 ^ (j + k) = v → due j (xs.set k (some (v - 1))) a = dueX (j + k) j xs a
  | [], _, _, h, _ => by simp at h
  | x :: r, j, 0, h, hn => by
    show (if leO (some (a + 2 ^ j)) (some (v - 1)) = true then some (2 ^ j - 1) else due (j + 1) r a) = (if (!decide (j = j + 0) && leO (some (a + 2 ^ j)) x) = true then some (2 ^ j - 1) else dueX (j + 0) (j + 1) r a)
    have hn' : a + 2 ^ j = v := hn
    rw [if_neg, decide_eq_true (show j = j + 0 by omega), if_neg (by simp), dueX_far r (j + 1) (by omega)]
    intro z
    have := of_decide_eq_true (show decide (a + 2 ^ j ≤ v - 1) = true from z)
    omega
  | x :: r, j, k + 1, h, hn => by
    show (if leO (some (a + 2 ^ j)) x = true then some (2 ^ j - 1) else due (j + 1) (r.set k (some (v - 1))) a) = (if (!decide (j = j + (k + 1)) && leO (some (a + 2 ^ j)) x) = true then some (2 ^ j - 1) else dueX (j + (k + 1)) (j + 1) r a)
    rw [due_edge r (j + 1) k (by simpa using h) (by rw [show j + 1 + k = j + (k + 1) by omega]; exact hn), show j + 1 + k = j + (k + 1) by omega, decide_eq_false (show ¬ j = j + (k + 1) by omega)]
    rfl
/-! #### averages -/
theorem psum_set {is : List Int} {i : Nat} {u : Int} (hi : i < is.length) (z : Nat) : ∀ m, psum (getI (is.set i u)) z m = psum (getI is) z m + (if i < m then (u - getI is i) * 2 ^ (z - 1 - i) else 0)
  | 0 => by rw [if_neg (by omega)]; rfl
  | m + 1 => by
    show psum (getI (is.set i u)) z m + getI (is.set i u) m * 2 ^ (z - 1 - m) = psum (getI is) z m + getI is m * 2 ^ (z - 1 - m) + _
    rw [psum_set hi z m]
    have eg : getI (is.set i u) m = if i = m then u else getI is m := by
      unfold getI
      rw [List.getElem?_set]
      by_cases h : i = m
      · subst h; rw [if_pos rfl, if_pos hi, if_pos rfl]; rfl
      · rw [if_neg h, if_neg h]
    rw [eg]
    by_cases h : i = m
    · subst h
      rw [if_pos rfl, if_neg (by omega), if_pos (by omega), Int.sub_mul]
      omega
    · rw [if_neg h]
      by_cases d : i < m
      · rw [if_pos d, if_pos (by omega)]; omega
      · rw [if_neg d, if_neg (by omega)]; omega
theorem pall_set {is : List Int} {i n : Nat} {v : Int} (hl : is.length = n + 1) (hi : is[i]? = some v) : pall (getI (is.set i (v - 1))) n n = pall (getI is) n n - (if i = n then 1 else 2 ^ (n - 1 - i)) := by
  have lt := (List.getElem?_eq_some_iff.mp hi).1
  unfold pall
  rw [psum_set lt, Nat.sub_self]
  have eg : getI (is.set i (v - 1)) n = if i = n then v - 1 else getI is n := by
    unfold getI
    rw [List.getElem?_set]
    by_cases h : i = n
    · subst h; rw [if_pos rfl, if_pos lt, if_pos rfl]; rfl
    · rw [if_neg h, if_neg h]
  have ev : getI is i = v := getI_at hi
  rw [eg, ev]
  by_cases h : i = n
  · subst h
    rw [if_pos rfl, if_neg (by omega), if_pos rfl, ev]
    omega
  · rw [if_neg h, if_pos (by omega), if_neg h, show v - 1 - v = -1 by omega]
    omega
theorem avg_cut {is : List Int} {i n : Nat} {v x y : Int} {a b : Nat} (hl : is.length = n + 1) (hi : is[i]? = some v) (h1 : x * 2 ^ n = pall (getI is) n n * 2 ^ a) (h2 : y * 2 ^ n = pall (getI (is.set i (v - 1))) n n * 2 ^ b) :
    y * 2 ^ a * 2 ^ (i + if i < n then 1 else 0) = (x * 2 ^ (i + if i < n then 1 else 0) - 2 ^ a) * 2 ^ b := by
  have lt := (List.getElem?_eq_some_iff.mp hi).1
  rw [pall_set hl hi] at h2
  generalize pall (getI is) n n = A at *
  have hd : (if i = n then (1 : Int) else 2 ^ (n - 1 - i)) * 2 ^ (i + if i < n then 1 else 0) = 2 ^ n := by
    by_cases h : i = n
    · subst h; rw [if_pos rfl, if_neg (by omega), Int.one_mul, Nat.add_zero]
    · rw [if_neg h, if_pos (by omega), ← Int.pow_add]
      congr 1
      omega
  generalize (if i = n then (1 : Int) else 2 ^ (n - 1 - i)) = c at *
  generalize (2 : Int) ^ (i + if i < n then 1 else 0) = p at *
  have hN : (2 : Int) ^ n ≠ 0 := Int.ne_of_gt (pow2_pos n)
  generalize (2 : Int) ^ n = N at *
  generalize (2 : Int) ^ a = s at *
  generalize (2 : Int) ^ b = t at *
  refine Int.eq_of_mul_eq_mul_right hN ?_
  have e1 : y * s * p * N = (y * N) * s * p := by
    rw [Int.mul_assoc y s p, Int.mul_right_comm y (s * p) N, Int.mul_assoc (y * N) s p]
  have e2 : (x * p - s) * t * N = ((x * N) * p - s * N) * t := by
    rw [Int.mul_right_comm, Int.sub_mul, Int.mul_right_comm x p N]
  rw [e1, e2, h1, h2, ← hd]
  -- (A - c) * t * s * p = (A * s * p - s * (c * p)) * t
  rw [Int.sub_mul, Int.sub_mul, Int.sub_mul, Int.sub_mul]
  congr 1
  · rw [Int.mul_assoc A t s, Int.mul_comm t s, ← Int.mul_assoc A s t, Int.mul_right_comm (A * s) t p]
  · rw [Int.mul_assoc c t s, Int.mul_comm t s, ← Int.mul_assoc c s t, Int.mul_right_comm (c * s) t p, Int.mul_comm c s, Int.mul_assoc s c p]

theorem avg_told {ms : List (Option Int)} {js : List Int} {n : Nat} (g : Good ms) (e : ms = js.map some) (hn : js.length = n + 1) :
    ∃ (ks : List Int) (kk j : Nat) (x : Int), short ms = ks.map some ∧ ks.length = kk + 1 ∧ kk ≤ 1000 ∧ (∀ y ∈ ks, 0 ≤ y ∧ y ≤ 10 ^ 20) ∧
      pall (getI ks) kk kk / ((Nat.gcd (pall (getI ks) kk kk).natAbs ((2 : Int) ^ kk).natAbs : Nat) : Int) = x ∧ (2 : Int) ^ kk / ((Nat.gcd (pall (getI ks) kk kk).natAbs ((2 : Int) ^ kk).natAbs : Nat) : Int) = 2 ^ j ∧
      x * 2 ^ n = pall (getI js) n n * 2 ^ j ∧ 0 ≤ x ∧ x ≤ 10 ^ 60 ∧ j ≤ 60 := by
  have hm := g.most
  have hlen : ms.length = n + 1 := by rw [e, List.length_map, hn]
  have hb : ∀ y ∈ js, 0 ≤ y ∧ y ≤ (10 : Int) ^ 18 := fun y hy => g.bd (some y) (by rw [e]; exact List.mem_map_of_mem hy) y rfl
  obtain ⟨c, hc⟩ : ∃ c, c = cutN (js.map some) (n + 1) := ⟨_, rfl⟩
  have c0 : 0 < c := by rw [hc]; exact cutN_pos _ _ (by omega)
  have c1 : c ≤ n + 1 := by rw [hc]; exact cutN_le _ _
  have esh : short ms = (js.take c).map some := by
    unfold short
    rw [hlen, e, ← hc, List.map_take]
  obtain ⟨j, x, hj, x0, t1, t2, t3, t4, t5⟩ := told_right (by omega) hn hb hc
  exact ⟨js.take c, c - 1, j, x, esh, by rw [List.length_take]; omega, by omega, fun y hy => by have := hb y (List.mem_of_mem_take hy); omega, t1, t2, t3, x0, t5, by omega⟩
theorem Good.ints {ls : List (Option Int)} (g : Good ls) {m : Int} (h : ls.getLast? = some (some m)) : ∃ (is : List Int) (n : Nat), ls = is.map some ∧ is.length = n + 1 := by
  obtain ⟨js, l, e, _, _⟩ := g.init
  have : l = some m := by
    rw [e] at h
    simpa using h
  exact ⟨js ++ [m], js.length, by rw [e, this, List.map_append]; rfl, by simp⟩
end Rk
namespace Rk
open PySem PySem.Spec PyProof.Rows L2

/-! ### m, 2 m, 4 m, … -/
def dbF (m : Int) : Nat → Nat → List Int
  | _, 0 => []
  | j, n + 1 => m * 2 ^ j :: dbF m (j + 1) n
def wishF (m : Int) : Nat → Nat → List (Int × Int)
  | _, 0 => []
  | j, n + 1 => ((m - 1) * 2 ^ j, 2 ^ j - 1) :: wishF m (j + 1) n
def dbl (m : Int) (k : Nat) : List Int := (List.range (k + 1)).map fun i => m * 2 ^ i
def wsh (m : Int) (k : Nat) : List (Int × Int) := (List.range (k + 1)).map fun i => ((m - 1) * 2 ^ i, 2 ^ i - 1)
theorem dbF_range (m : Int) : ∀ n j, dbF m j n = (List.range n).map fun i => m * 2 ^ (j + i)
  | 0, _ => rfl
  | n + 1, j => by
    rw [List.range_succ_eq_map, List.map_cons, List.map_map]
    show m * 2 ^ j :: dbF m (j + 1) n = _
    rw [dbF_range m n (j + 1)]
    congr 1
    refine List.map_congr_left fun i _ => ?_
    show m * 2 ^ (j + 1 + i) = m * 2 ^ (j + (i + 1))
    rw [show j + 1 + i = j + (i + 1) by omega]
theorem wishF_range (m : Int) : ∀ n j, wishF m j n = (List.range n).map fun i => ((m - 1) * 2 ^ (j + i), 2 ^ (j + i) - 1)
  | 0, _ => rfl
  | n + 1, j => by
    rw [List.range_succ_eq_map, List.map_cons, List.map_map]
    show ((m - 1) * 2 ^ j, 2 ^ j - 1) :: wishF m (j + 1) n = _
    rw [wishF_range m n (j + 1)]
    congr 1
    refine List.map_congr_left fun i _ => ?_
    show ((m - 1) * 2 ^ (j + 1 + i), 2 ^ (j + 1 + i) - 1) = ((m - 1) * 2 ^ (j + (i + 1)), 2 ^ (j + (i + 1)) - 1)
    rw [show j + 1 + i = j + (i + 1) by omega]
theorem dbl_F (m : Int) (k : Nat) : dbl m k = dbF m 0 (k + 1) := by
  rw [dbF_range]
  unfold dbl
  refine List.map_congr_left fun i _ => ?_
  rw [Nat.zero_add]
theorem wsh_F (m : Int) (k : Nat) : wsh m k = wishF m 0 (k + 1) := by
  rw [wishF_range]
  unfold wsh
  refine List.map_congr_left fun i _ => ?_
  rw [Nat.zero_add]
theorem dbl_len (m : Int) (k : Nat) : (dbl m k).length = k + 1 := by simp [dbl]
theorem dbl_at {m : Int} {k i : Nat} (h : i ≤ k) : (dbl m k)[i]? = some (m * 2 ^ i) := by
  unfold dbl
  rw [List.getElem?_map, List.getElem?_range (by omega)]
  rfl
theorem dbl_get {m : Int} {k i : Nat} (h : i ≤ k) : getI (dbl m k) i = m * 2 ^ i := getI_at (dbl_at h)
theorem dbl_mem {m : Int} {k : Nat} {x : Int} (h : x ∈ dbl m k) : ∃ i, i ≤ k ∧ x = m * 2 ^ i := by
  obtain ⟨i, hi, rfl⟩ := List.mem_map.mp h
  exact ⟨i, by have := List.mem_range.mp hi; omega, rfl⟩
theorem dbl_bd {m : Int} {k i : Nat} (h : i ≤ k) (h1 : 1 ≤ m) (h2 : m * 2 ^ k ≤ 10 ^ 18) : 0 < m * 2 ^ i ∧ m * 2 ^ i ≤ 10 ^ 18 := by
  have p := pow2_pos i
  have l := Int.mul_le_mul_of_nonneg_left (pow2_le h) (show 0 ≤ m by omega)
  have := Int.mul_pos (show 0 < m by omega) p
  omega
theorem dbl_succ (m : Int) (i : Nat) : m * 2 ^ (i + 1) = 2 * (m * 2 ^ i) := by rw [Int.pow_succ, ← Int.mul_assoc, Int.mul_comm (m * 2 ^ i) 2]
theorem dbl_good {m : Int} {k : Nat} (hk : k ≤ 60) (h1 : 1 ≤ m) (h2 : m * 2 ^ k ≤ 10 ^ 18) : Good ((dbl m k).map some) := by
  have e : dbl m k = (List.range k).map (fun i => m * 2 ^ i) ++ [m * 2 ^ k] := by
    unfold dbl
    rw [List.range_succ, List.map_append]
    rfl
  have asc : Asc (dbl m k) := fun i x y hx hy => by
    have hi := (List.getElem?_eq_some_iff.mp hy).1
    rw [dbl_len] at hi
    rw [dbl_at (by omega)] at hx hy
    cases hx
    cases hy
    have := (dbl_bd (k := k) (i := i) (by omega) h1 h2).1
    rw [dbl_succ]
    omega
  have bd : ∀ x ∈ dbl m k, 0 ≤ x ∧ x ≤ 10 ^ 18 := fun x hx => by
    obtain ⟨i, hi, rfl⟩ := dbl_mem hx
    have := dbl_bd hi h1 h2
    omega
  rw [e] at asc bd ⊢
  rw [List.map_append]
  exact good_ints (by simp; exact hk) bd asc
theorem dbl_short {m : Int} {k : Nat} (h1 : 1 ≤ m) : short ((dbl m k).map some) = (dbl m k).map some := by
  unfold short
  rw [List.length_map, dbl_len]
  cases k with
  | zero => rfl
  | succ k =>
    rw [cutN_ne]
    · exact List.take_of_length_le (by rw [List.length_map, dbl_len]; omega)
    · rw [List.getElem?_map, List.getElem?_map, dbl_at (Nat.le_refl _), dbl_at (by omega)]
      intro z
      have z : m * 2 ^ (k + 1) = m * 2 ^ k := by injection z with z; injection z with z
      rw [dbl_succ] at z
      have := Int.mul_pos (show 0 < m by omega) (pow2_pos k)
      omega

/-! #### what they promise -/
def fstW (W : List (Int × Int)) (a : Int) : Option Int := ((W.filter fun p => decide (a ≤ p.1)).head?).map (·.2)
theorem due_F {m : Int} (a : Int) : ∀ n j, due j ((dbF m j n).map some) a = fstW (wishF m j n) a
  | 0, _ => rfl
  | n + 1, j => by
    show (if decide (a + 2 ^ j ≤ m * 2 ^ j) = true then some (2 ^ j - 1) else due (j + 1) ((dbF m (j + 1) n).map some) a) = fstW (((m - 1) * 2 ^ j, 2 ^ j - 1) :: wishF m (j + 1) n) a
    have e : (m - 1) * 2 ^ j = m * 2 ^ j - 2 ^ j := by rw [Int.sub_mul, Int.one_mul]
    unfold fstW
    rw [List.filter_cons]
    by_cases c : a + 2 ^ j ≤ m * 2 ^ j
    · rw [if_pos (decide_eq_true c), if_pos (decide_eq_true (by show a ≤ (m - 1) * 2 ^ j; omega))]
      rfl
    · rw [if_neg (fun z => c (of_decide_eq_true z)), if_neg (fun z => by have z : a ≤ (m - 1) * 2 ^ j := of_decide_eq_true z; omega)]
      exact due_F a n (j + 1)
theorem due_dbl (m : Int) (k : Nat) (a : Int) : due 0 ((dbl m k).map some) a = fstW (wsh m k) a := by
  rw [dbl_F, wsh_F]
  exact due_F a _ _
theorem prom_F {m : Int} (hm : 2 ≤ m) : ∀ n j r, r < (m - 1) * 2 ^ j → prom j (some r) ((dbF m j n).map some) = (wishF m j n).map fun p => (some p.1, p.2)
  | 0, _, _, _ => rfl
  | n + 1, j, r, h => by
    have e : m * 2 ^ j - 2 ^ j = (m - 1) * 2 ^ j := by rw [Int.sub_mul, Int.one_mul]
    show (if decide (m * 2 ^ j - 2 ^ j ≤ r) = true then prom (j + 1) (some r) ((dbF m (j + 1) n).map some) else (some (m * 2 ^ j - 2 ^ j), 2 ^ j - 1) :: prom (j + 1) (some (m * 2 ^ j - 2 ^ j)) ((dbF m (j + 1) n).map some)) = (some ((m - 1) * 2 ^ j), 2 ^ j - 1) :: (wishF m (j + 1) n).map fun p => (some p.1, p.2)
    rw [e, if_neg (fun z => by have z : (m - 1) * 2 ^ j ≤ r := of_decide_eq_true z; omega), prom_F hm n (j + 1)]
    rw [dbl_succ]
    have := Int.mul_pos (show 0 < m - 1 by omega) (pow2_pos j)
    omega
theorem prom_one : ∀ n j, prom j (some 0) ((dbF 1 j n).map some) = []
  | 0, _ => rfl
  | n + 1, j => by
    show (if decide (1 * 2 ^ j - 2 ^ j ≤ 0) = true then prom (j + 1) (some 0) ((dbF 1 (j + 1) n).map some) else _) = []
    rw [if_pos (decide_eq_true (by rw [Int.one_mul]; omega)), prom_one n (j + 1)]
/-- the promises -/
def wsG (m : Int) (k : Nat) : List (Int × Int) := if 1 < m then wsh m k else (wsh m k).take 1
theorem prom_dbl {m : Int} {k : Nat} (h1 : 1 ≤ m) : prom 0 (some (-1)) ((dbl m k).map some) = (wsG m k).map fun p => (some p.1, p.2) := by
  unfold wsG
  by_cases c : 1 < m
  · rw [if_pos c, dbl_F, wsh_F]
    exact prom_F c _ _ _ (by have := Int.mul_pos (show 0 < m - 1 by omega) (pow2_pos 0); omega)
  · obtain rfl : m = 1 := by omega
    rw [if_neg c, dbl_F, wsh_F]
    show (some ((1 : Int) * 2 ^ 0 - 2 ^ 0), (2 : Int) ^ 0 - 1) :: prom 1 (some 0) ((dbF 1 1 k).map some) = _
    rw [prom_one]
    rfl
theorem wsh_ge {m : Int} (h : 2 ≤ m) : ∀ n j, ∀ p ∈ wishF m j n, (m - 1) * 2 ^ j ≤ p.1
  | 0, _, _, hp => nomatch hp
  | n + 1, j, p, hp => by
    rcases List.mem_cons.mp hp with rfl | hp
    · exact Int.le_refl _
    · have := wsh_ge h n (j + 1) p hp
      rw [dbl_succ] at this
      have := Int.mul_pos (show 0 < m - 1 by omega) (pow2_pos j)
      omega
theorem wsh_asc {m : Int} (h : 2 ≤ m) : ∀ n j, (wishF m j n).Pairwise fun p q => p.1 < q.1
  | 0, _ => List.Pairwise.nil
  | n + 1, j => List.pairwise_cons.mpr ⟨fun q hq => by
      have := wsh_ge h n (j + 1) q hq
      rw [dbl_succ] at this
      have := Int.mul_pos (show 0 < m - 1 by omega) (pow2_pos j)
      show (m - 1) * 2 ^ j < q.1
      omega, wsh_asc h n (j + 1)⟩
theorem fstW_one (k : Nat) (a : Int) : ∀ n j, 0 < a → fstW (wishF 1 j n) a = none
  | 0, _, _ => rfl
  | n + 1, j, h => by
    have ih := fstW_one k a n (j + 1) h
    unfold fstW at ih ⊢
    show Option.map _ (List.head? (List.filter _ ((((1 : Int) - 1) * 2 ^ j, (2 : Int) ^ j - 1) :: wishF 1 (j + 1) n))) = none
    rw [List.filter_cons, if_neg (fun z => by have z : a ≤ (1 - 1) * 2 ^ j := of_decide_eq_true z; rw [show (1 : Int) - 1 = 0 from rfl, Int.zero_mul] at z; omega)]
    exact ih
/-- worst, by the promises -/
theorem due_G {m : Int} {k : Nat} (h1 : 1 ≤ m) (a : Int) : due 0 ((dbl m k).map some) a = fstW (wsG m k) a := by
  rw [due_dbl]
  unfold wsG
  by_cases c : 1 < m
  · rw [if_pos c]
  · obtain rfl : m = 1 := by omega
    rw [if_neg c, wsh_F]
    show fstW (((1 - 1 : Int) * 2 ^ 0, 2 ^ 0 - 1) :: wishF 1 1 k) a = fstW [((1 - 1 : Int) * 2 ^ 0, 2 ^ 0 - 1)] a
    by_cases z : 0 < a
    · have := fstW_one k a (k + 1) 0 z
      rw [show wishF 1 0 (k + 1) = ((1 - 1 : Int) * 2 ^ 0, 2 ^ 0 - 1) :: wishF 1 1 k from rfl] at this
      rw [this]
      unfold fstW
      rw [List.filter_cons, if_neg (fun y => by have y : a ≤ (1 - 1) * 2 ^ 0 := of_decide_eq_true y; rw [show (1 : Int) - 1 = 0 from rfl, Int.zero_mul] at y; omega)]
      rfl
    · unfold fstW
      rw [List.filter_cons, List.filter_cons, if_pos (decide_eq_true (by show a ≤ (1 - 1) * 2 ^ 0; rw [show (1 : Int) - 1 = 0 from rfl, Int.zero_mul]; omega)), if_pos (decide_eq_true (by show a ≤ (1 - 1) * 2 ^ 0; rw [show (1 : Int) - 1 = 0 from rfl, Int.zero_mul]; omega))]
      rfl
theorem wsG_asc {m : Int} {k : Nat} (h1 : 1 ≤ m) : (wsG m k).Pairwise fun p q => p.1 < q.1 := by
  unfold wsG
  by_cases c : 1 < m
  · rw [if_pos c, wsh_F]
    exact wsh_asc c _ _
  · rw [if_neg c, wsh_F]
    exact List.pairwise_cons.mpr ⟨fun _ h => (nomatch h), List.Pairwise.nil⟩
theorem fstW_at : ∀ {W : List (Int × Int)}, W.Pairwise (fun p q => p.1 < q.1) → ∀ p ∈ W, fstW W p.1 = some p.2
  | [], _, p, hp => nomatch hp
  | q :: W, h, p, hp => by
    obtain ⟨h1, h2⟩ := List.pairwise_cons.mp h
    unfold fstW
    rw [List.filter_cons]
    rcases List.mem_cons.mp hp with rfl | hp
    · rw [if_pos (decide_eq_true (Int.le_refl _))]
      rfl
    · have := h1 p hp
      rw [if_neg (fun z => by have := of_decide_eq_true z; omega)]
      exact fstW_at h2 p hp
theorem fstW_past {W : List (Int × Int)} {a : Int} (h : ∀ p ∈ W, p.1 < a) : fstW W a = none := by
  unfold fstW
  rw [List.filter_eq_nil_iff.mpr fun p hp z => by have := h p hp; have := of_decide_eq_true z; omega]
  rfl
theorem wsG_len (m : Int) (k : Nat) : 0 < (wsG m k).length ∧ (wsG m k).length ≤ k + 1 := by
  unfold wsG wsh
  by_cases c : 1 < m
  · rw [if_pos c, List.length_map, List.length_range]; omega
  · rw [if_neg c, List.length_take, List.length_map, List.length_range]; omega

/-! #### how many points -/
def odd (m : Int) : Int := m % 2
theorem gn_dbl {m : Int} {k j : Nat} (h : j + 1 ≤ k) (x : Int) : gn (getI (dbl m k)) (j + 1) x = if (x - m * 2 ^ j) % 2 ^ (j + 1) < (m % 2) * 2 ^ j then 1 else 0 := by
  unfold gn
  rw [dbl_get h, show j + 1 - 1 = j from rfl, dbl_get (show j ≤ k by omega), dbl_succ]
  have e : (2 * (m * 2 ^ j) - m * 2 ^ j) % 2 ^ (j + 1) = (m % 2) * 2 ^ j := by
    rw [show 2 * (m * 2 ^ j) - m * 2 ^ j = m * 2 ^ j by omega, Int.pow_succ, Int.mul_comm m, Int.mul_emod_mul_of_pos _ _ (pow2_pos j), Int.mul_comm]
  rw [e]
theorem GG_even {m : Int} {k : Nat} (h : m % 2 = 0) (x : Int) : ∀ j, j ≤ k → GG (getI (dbl m k)) j x = 0
  | 0, _ => rfl
  | j + 1, hj => by
    show GG (getI (dbl m k)) j x + gn (getI (dbl m k)) (j + 1) x = 0
    rw [GG_even h x j (by omega), gn_dbl hj, h, Int.zero_mul, if_neg (by have := Int.emod_nonneg (x - m * 2 ^ j) (show (2 : Int) ^ (j + 1) ≠ 0 by have := pow2_pos (j + 1); omega); omega)]
    rfl
theorem GG_odd {m : Int} {k : Nat} (h : m % 2 = 1) : ∀ j, j ≤ k → GG (getI (dbl m k)) j (2 ^ k - 1) = j
  | 0, _ => rfl
  | j + 1, hj => by
    show GG (getI (dbl m k)) j (2 ^ k - 1) + gn (getI (dbl m k)) (j + 1) (2 ^ k - 1) = ((j + 1 : Nat) : Int)
    have p := pow2_pos j
    have e : (2 ^ k - 1 - m * 2 ^ j) % 2 ^ (j + 1) = 2 ^ j - 1 := by
      obtain ⟨q, hq⟩ : ∃ q, m = 2 * q + 1 := ⟨m / 2, by omega⟩
      have e1 : (2 : Int) ^ k - 1 - m * 2 ^ j = (2 ^ j - 1) + 2 ^ (j + 1) * (2 ^ (k - (j + 1)) - (q + 1)) := by
        rw [pow_split hj, hq, Int.mul_sub, Int.add_mul, Int.mul_add]
        have : (2 : Int) ^ (j + 1) = 2 * 2 ^ j := by rw [Int.pow_succ, Int.mul_comm]
        rw [this, Int.one_mul, Int.mul_one, Int.mul_assoc 2 q, Int.mul_assoc 2 (2 ^ j) q, Int.mul_comm q]
        omega
      rw [e1, Int.add_mul_emod_self_left]
      exact Int.emod_eq_of_lt (by omega) (by rw [Int.pow_succ]; omega)
    rw [GG_odd h j (by omega), gn_dbl hj, h, e, if_pos (by omega)]
    omega
theorem base_dbl {m : Int} : ∀ n j, baseSum (j + 1) (m * 2 ^ j) (dbF m (j + 1) n) = n * (m / 2)
  | 0, _ => by rw [Int.natCast_zero, Int.zero_mul]; rfl
  | n + 1, j => by
    show (m * 2 ^ (j + 1) - m * 2 ^ j) / 2 ^ (j + 1) + baseSum (j + 1 + 1) (m * 2 ^ (j + 1)) (dbF m (j + 1 + 1) n) = ((n + 1 : Nat) : Int) * (m / 2)
    rw [base_dbl n (j + 1), dbl_succ, show 2 * (m * 2 ^ j) - m * 2 ^ j = m * 2 ^ j by omega]
    have e : m * 2 ^ j / 2 ^ (j + 1) = m / 2 := by
      rw [Int.pow_succ, Int.mul_comm m]
      exact Int.mul_ediv_mul_of_pos _ _ (pow2_pos j)
    rw [e, Int.natCast_succ, Int.add_mul, Int.one_mul, Int.add_comm]
theorem base_all {m : Int} (k : Nat) : baseSum 0 0 (dbl m k) = m + k * (m / 2) := by
  rw [dbl_F]
  show (m * 2 ^ 0 - 0) / 2 ^ 0 + baseSum 1 (m * 2 ^ 0) (dbF m 1 k) = _
  rw [base_dbl k 0]
  congr 1
  rw [show (2 : Int) ^ 0 = 1 from rfl, Int.ediv_one]
  omega
/-- how far from the average: G gains of k -/
theorem cnt_dbl {m : Int} {k : Nat} (hk : k ≤ 60) (h1 : 1 ≤ m) (h2 : m * 2 ^ k ≤ 10 ^ 18) {T : Int} (hT : m * 2 ^ k ≤ T) : ∃ G, cntT ((dbl m k).map some) T = m + k * (m / 2) + G ∧ G = GG (getI (dbl m k)) k T ∧ 0 ≤ G ∧ G ≤ k ∧ (m % 2 = 0 → G = 0) := by
  refine ⟨_, ?_, rfl, (GG_bd _ _ _).1, (GG_bd _ _ _).2, fun z => GG_even z T k (Nat.le_refl _)⟩
  unfold cntT
  rw [count_late (dbl_good hk h1 h2) (dbl_len m k) (by rw [dbl_get (Nat.le_refl _)]; exact hT), base_all]
theorem most_dbl {m : Int} {k : Nat} {T : Int} (h : ∀ x, 0 ≤ x → x < 2 ^ k → GG (getI (dbl m k)) k x ≤ GG (getI (dbl m k)) k T) (h1 : m % 2 = 1) : GG (getI (dbl m k)) k T = k := by
  have a := h (2 ^ k - 1) (by have := pow2_pos k; omega) (by omega)
  rw [GG_odd h1 k (Nat.le_refl _)] at a
  have := (GG_bd (getI (dbl m k)) T k).2
  omega
theorem psum_dbl {m : Int} {k : Nat} : ∀ i, i ≤ k → psum (getI (dbl m k)) k i * 2 = i * (m * 2 ^ k)
  | 0, _ => by rw [Int.natCast_zero, Int.zero_mul]; rfl
  | i + 1, hi => by
    show (psum (getI (dbl m k)) k i + getI (dbl m k) i * 2 ^ (k - 1 - i)) * 2 = ((i + 1 : Nat) : Int) * (m * 2 ^ k)
    rw [Int.add_mul, psum_dbl i (by omega), dbl_get (by omega), Int.natCast_succ, Int.add_mul, Int.one_mul]
    congr 1
    rw [Int.mul_assoc, Int.mul_assoc, ← Int.pow_succ, ← Int.pow_add, show i + (k - 1 - i + 1) = k by omega]
theorem pall_dbl (m : Int) (k : Nat) : 2 * pall (getI (dbl m k)) k k = m * (k + 2) * 2 ^ k := by
  unfold pall
  have h := psum_dbl (m := m) (k := k) k (Nat.le_refl _)
  rw [dbl_get (Nat.le_refl _), Nat.sub_self, show (2 : Int) ^ 0 = 1 from rfl, Int.mul_one, Int.mul_add, Int.mul_comm 2 (psum _ _ _), h, Int.mul_add, Int.add_mul, Int.mul_right_comm m 2, Int.mul_right_comm m k, Int.mul_comm (m * 2 ^ k) k, Int.mul_comm (m * 2 ^ k) 2]
  omega
theorem avg_dbl {m : Int} {k : Nat} : 2 * (pall (getI (dbl m k)) k k / ((Nat.gcd (pall (getI (dbl m k)) k k).natAbs ((2 : Int) ^ k).natAbs : Nat) : Int)) = m * (k + 2) * (2 ^ k / ((Nat.gcd (pall (getI (dbl m k)) k k).natAbs ((2 : Int) ^ k).natAbs : Nat) : Int)) := by
  have h := pall_dbl m k
  have g1 : ((Nat.gcd (pall (getI (dbl m k)) k k).natAbs ((2 : Int) ^ k).natAbs : Nat) : Int) ∣ pall (getI (dbl m k)) k k := Int.ofNat_dvd_left.mpr (Nat.gcd_dvd_left _ _)
  have g2 : ((Nat.gcd (pall (getI (dbl m k)) k k).natAbs ((2 : Int) ^ k).natAbs : Nat) : Int) ∣ (2 : Int) ^ k := Int.ofNat_dvd_left.mpr (Nat.gcd_dvd_right _ _)
  have g0 : (0 : Int) < ((Nat.gcd (pall (getI (dbl m k)) k k).natAbs ((2 : Int) ^ k).natAbs : Nat) : Int) := by
    have p := pow2_pos k
    exact Int.natCast_pos.mpr (Nat.gcd_pos_of_pos_right _ (by omega))
  generalize ((Nat.gcd (pall (getI (dbl m k)) k k).natAbs ((2 : Int) ^ k).natAbs : Nat) : Int) = G at *
  generalize pall (getI (dbl m k)) k k = A at *
  obtain ⟨x, rfl⟩ := g1
  obtain ⟨y, hy⟩ := g2
  rw [hy] at h ⊢
  rw [Int.mul_ediv_cancel_left _ (by omega), Int.mul_ediv_cancel_left _ (by omega)]
  refine Int.eq_of_mul_eq_mul_left (show G ≠ 0 by omega) ?_
  rw [Int.mul_left_comm, h, Int.mul_left_comm]
theorem half_mul {m k : Int} : 2 * (m + k * (m / 2)) = m * (k + 2) - k * (m % 2) := by
  have e := Int.emod_add_mul_ediv m 2
  generalize m / 2 = h at *
  generalize m % 2 = o at *
  subst e
  have e1 : 2 * h * k = 2 * (k * h) := by rw [Int.mul_assoc, Int.mul_comm h]
  rw [Int.mul_add 2, Int.mul_add 2, Int.add_mul, Int.mul_add o, Int.mul_add (2 * h), e1, Int.mul_comm o k]
  omega
theorem most_val {m : Int} {k : Nat} (hk : k ≤ 60) (h1 : 1 ≤ m) (h2 : m * 2 ^ k ≤ 10 ^ 18) {T : Int} (hT : m * 2 ^ k ≤ T) (h : ∀ x, 0 ≤ x → x < 2 ^ k → GG (getI (dbl m k)) k x ≤ GG (getI (dbl m k)) k T) : 2 * cntT ((dbl m k).map some) T = m * (k + 2) + k * (m % 2) := by
  obtain ⟨G, e, eG, g0, g1, gz⟩ := cnt_dbl hk h1 h2 hT
  have hm := half_mul (m := m) (k := (k : Int))
  rw [e]
  have o : m % 2 = 0 ∨ m % 2 = 1 := by omega
  rcases o with o | o
  · rw [o, Int.mul_zero] at hm ⊢
    have := gz o
    omega
  · rw [most_dbl h o] at eG
    rw [o, Int.mul_one] at hm ⊢
    omega
theorem cnt_val {m : Int} {k : Nat} (hk : k ≤ 60) (h1 : 1 ≤ m) (h2 : m * 2 ^ k ≤ 10 ^ 18) {T : Int} (hT : m * 2 ^ k ≤ T) : -(k * (m % 2)) ≤ 2 * cntT ((dbl m k).map some) T - m * (k + 2) ∧ 2 * cntT ((dbl m k).map some) T - m * (k + 2) ≤ k * (m % 2) := by
  obtain ⟨G, e, eG, g0, g1, gz⟩ := cnt_dbl hk h1 h2 hT
  have hm := half_mul (m := m) (k := (k : Int))
  rw [e]
  have o : m % 2 = 0 ∨ m % 2 = 1 := by omega
  rcases o with o | o
  · rw [o, Int.mul_zero] at hm ⊢
    have := gz o
    omega
  · rw [o, Int.mul_one] at hm ⊢
    omega
theorem twice_bd {m : Int} {k : Nat} (h1 : 1 ≤ m) (h2 : m * 2 ^ k ≤ 10 ^ 18) : 0 ≤ m * (k + 2) ∧ m * (k + 2) ≤ 2 * 10 ^ 18 ∧ m ≤ 10 ^ 18 := by
  have a : (k : Int) + 1 ≤ 2 ^ k := by
    have z : k < 2 ^ k := Nat.lt_two_pow_self
    have : ((2 ^ k : Nat) : Int) = (2 : Int) ^ k := by rw [Int.natCast_pow]; rfl
    omega
  have p := pow2_pos k
  have b := Int.mul_le_mul_of_nonneg_left (show (k : Int) + 2 ≤ 2 * 2 ^ k by omega) (show 0 ≤ m by omega)
  rw [Int.mul_left_comm] at b
  have c := Int.mul_nonneg (show 0 ≤ m by omega) (show 0 ≤ (k : Int) + 2 by omega)
  have d := Int.mul_le_mul_of_nonneg_left (show (1 : Int) ≤ 2 ^ k by omega) (show 0 ≤ m by omega)
  omega
end Rk
namespace Rk
open PySem PySem.Spec PyProof.Rows L2
/-- a rule that ends nowhere open -/
structure Fin (ls : List (Option Int)) (is : List Int) (c : Nat) : Prop where
  c0 : 0 < c
  c1 : c ≤ is.length
  len : is.length = ls.length
  at_ : ∀ (j : Nat) (v : Int), ls[j]? = some (some v) → getI is j = v
  all : ∀ j, j < ls.length → ∃ v, ls[j]? = some (some v)
  sh : short ls = (is.take c).map some
  pa : pall (getI is) (is.length - 1) (is.length - 1) = pall (getI (is.take c)) (c - 1) (c - 1) * 2 ^ (is.length - c)
theorem fin_of {ls : List (Option Int)} (g : Good ls) {v : Int} (hl : ls.getLast? = some (some v)) : ∃ is c, Fin ls is c := by
  have l0 := g.pos
  have nn : ∀ x ∈ ls, x ≠ none := fun x hx z => by
    subst z
    obtain ⟨j, hj, e⟩ := List.mem_iff_getElem.mp hx
    have e2 : ls[j]? = some none := by rw [List.getElem?_eq_getElem hj, e]
    have h := good_none_last g e2
    rw [List.getLast?_eq_getElem?, ← h, Nat.add_sub_cancel, e2] at hl
    cases hl
  have e := all_some ls nn
  have hlen : (ls.filterMap _root_.id).length = ls.length := by
    have := congrArg List.length e
    rw [List.length_map] at this
    exact this
  obtain ⟨c, c0, c1, hc, pa⟩ := pall_short (is := ls.filterMap _root_.id) (by omega)
  rw [e] at hc
  refine ⟨_, c, c0, c1, hlen, fun j w hw => ?_, fun j hj => ?_, hc, pa⟩
  · refine getI_at ?_
    rw [← e, List.getElem?_map] at hw
    cases z : (ls.filterMap _root_.id)[j]? with
    | none => rw [z] at hw; cases hw
    | some u => rw [z] at hw; cases hw; rfl
  · have hx := List.getElem?_eq_getElem hj
    cases z : ls[j] with
    | none => exact absurd z (nn _ (List.getElem_mem hj))
    | some w => exact ⟨w, by rw [hx, z]⟩
theorem Fin.tl {ls : List (Option Int)} {is : List Int} {c : Nat} (f : Fin ls is c) : (is.take c).length = c - 1 + 1 := by
  have := f.c0
  have := f.c1
  rw [List.length_take]
  omega
theorem Fin.bd {ls : List (Option Int)} {is : List Int} {c : Nat} (f : Fin ls is c) (g : Good ls) : ∀ y ∈ is.take c, 0 ≤ y ∧ y ≤ 10 ^ 20 := fun y hy => by
  have := (good_short g).bd (some y) (by rw [f.sh]; exact List.mem_map_of_mem hy) y rfl
  omega
theorem Fin.getle {ls ms : List (Option Int)} {is js : List Int} {c d : Nat} (f : Fin ls is c) (e : Fin ms js d) (lx : LeX ls ms) : ∀ j, j < is.length → getI is j ≤ getI js j := fun j hj => by
  obtain ⟨v, hv⟩ := f.all j (by rw [← f.len]; exact hj)
  obtain ⟨w, hw⟩ := e.all j (by rw [lx.len, ← f.len]; exact hj)
  rw [f.at_ j v hv, e.at_ j w hw]
  exact of_decide_eq_true (lx.at_ j _ _ hv hw).1
theorem Fin.avg {ls ms : List (Option Int)} {is js : List Int} {c d : Nat} (f : Fin ls is c) (e : Fin ms js d) (lx : LeX ls ms) {G F : Int} (g0 : 0 < G) (f0 : 0 < F) (h1 : G ∣ pall (getI (is.take c)) (c - 1) (c - 1)) (h2 : G ∣ (2 : Int) ^ (c - 1)) (h3 : F ∣ pall (getI (js.take d)) (d - 1) (d - 1)) (h4 : F ∣ (2 : Int) ^ (d - 1)) :
    pall (getI (is.take c)) (c - 1) (c - 1) / G * (2 ^ (d - 1) / F) ≤ pall (getI (js.take d)) (d - 1) (d - 1) / F * (2 ^ (c - 1) / G) := by
  refine cross_red g0 f0 h1 h2 h3 h4 ?_
  have c0 := f.c0
  have c1 := f.c1
  exact avg_mono (is := is) (js := js) (by omega) (by rw [f.len, e.len, lx.len]) (f.getle e lx) c0 c1 e.c0 e.c1 f.pa e.pa
theorem Fin.most {ls ms : List (Option Int)} {is js : List Int} {c d : Nat} (f : Fin ls is c) (e : Fin ms js d) (gl : Good ls) (gm : Good ms) (h : LeL (short ls) (short ms)) {T U : Int} (hT : getI (is.take c) (c - 1) ≤ T) (hU : getI (js.take d) (d - 1) ≤ U) (hm : ∀ x, 0 ≤ x → x < 2 ^ (d - 1) → GG (getI (js.take d)) (d - 1) x ≤ GG (getI (js.take d)) (d - 1) U) : cntT (short ls) T ≤ cntT (short ms) U := by
  have g1 := good_short gl
  have g2 := good_short gm
  have t0 : 0 ≤ getI (is.take c) (c - 1) := by
    have hx := List.getElem?_eq_getElem (l := is.take c) (i := c - 1) (by rw [f.tl]; omega)
    rw [getI_at hx]
    exact (f.bd gl _ (List.mem_of_getElem? hx)).1
  rw [f.sh] at g1 h ⊢
  rw [e.sh] at g2 h ⊢
  exact most_mono (k := 0) g1 g2 h e.tl (by omega) hU hm
theorem gcd_facts (A : Int) (k : Nat) : (0 : Int) < ((Nat.gcd A.natAbs ((2 : Int) ^ k).natAbs : Nat) : Int) ∧ ((Nat.gcd A.natAbs ((2 : Int) ^ k).natAbs : Nat) : Int) ∣ A ∧ ((Nat.gcd A.natAbs ((2 : Int) ^ k).natAbs : Nat) : Int) ∣ (2 : Int) ^ k := by
  have p := pow2_pos k
  exact ⟨Int.natCast_pos.mpr (Nat.gcd_pos_of_pos_right _ (by omega)), Int.ofNat_dvd_left.mpr (Nat.gcd_dvd_left _ _), Int.ofNat_dvd_left.mpr (Nat.gcd_dvd_right _ _)⟩
theorem red_bd {G : Int} {k : Nat} (hk : k ≤ 60) (g0 : 0 < G) : -(2 ^ 64) < (2 : Int) ^ k / G ∧ (2 : Int) ^ k / G < 2 ^ 64 := by
  have p := pow2_pos k
  have a := Int.ediv_nonneg (Int.le_of_lt p) (Int.le_of_lt g0)
  have b := Int.ediv_le_self G (Int.le_of_lt p)
  have c := pow2_le hk
  have : (2 : Int) ^ 60 < 2 ^ 64 := by decide
  omega
end Rk
namespace Rk
open PySem PySem.Spec PyProof.Rows L2

/-! ### two rules joined -/
def jOr (xs ys : List (Option Int)) : List (Option Int) := short (twoL maxO xs ys)
def jAnd (xs ys : List (Option Int)) : List (Option Int) := short (twoL minO xs ys)
section
variable {xs ys : List (Option Int)}
theorem Good.rl18 (g : Good xs) : RL (10 ^ 18) xs := g.rl fun x hx v e => (g.bd x hx v e).2
theorem twoL_pos {f : Option Int → Option Int → Option Int} (gx : Good xs) (gy : Good ys) : 0 < (twoL f xs ys).length := by
  rw [twoL_len]
  have := gx.pos
  omega
theorem jOr_good (gx : Good xs) (gy : Good ys) : Good (jOr xs ys) := (gx.rl18.max gy.rl18).good (Int.le_refl _)
theorem jAnd_good (gx : Good xs) (gy : Good ys) : Good (jAnd xs ys) := (gx.rl18.min gy.rl18).good (Int.le_refl _)
theorem jOr_life (gx : Good xs) (gy : Good ys) (i : Nat) : lifeAt (jOr xs ys) i = maxO (lifeAt xs i) (lifeAt ys i) := by
  unfold jOr
  rw [lifeAt_short (twoL_pos gx gy), lifeAt_two gx.pos gy.pos]
theorem jAnd_life (gx : Good xs) (gy : Good ys) (i : Nat) : lifeAt (jAnd xs ys) i = minO (lifeAt xs i) (lifeAt ys i) := by
  unfold jAnd
  rw [lifeAt_short (twoL_pos gx gy), lifeAt_two gx.pos gy.pos]
theorem jOr_kept (gx : Good xs) (gy : Good ys) (t n : Int) : keptB (jOr xs ys) t n = (keptB xs t n || keptB ys t n) := by
  unfold keptB
  rw [jOr_life gx gy, leO_maxR]
  cases decide (n ≤ t) <;> rfl
theorem jAnd_kept (gx : Good xs) (gy : Good ys) (t n : Int) : keptB (jAnd xs ys) t n = (keptB xs t n && keptB ys t n) := by
  unfold keptB
  rw [jAnd_life gx gy, leO_minO]
  cases decide (n ≤ t) <;> cases leO (some (t - n + 1)) (lifeAt xs (rkI n)) <;> rfl
/-- both counts together are those of both rules -/
theorem jCount (gx : Good xs) (gy : Good ys) (t : Nat) (low high : Int) : cntB low high (t : Int) 0 (t : Int) xs + cntB low high (t : Int) 0 (t : Int) ys = cntB low high (t : Int) 0 (t : Int) (jOr xs ys) + cntB low high (t : Int) 0 (t : Int) (jAnd xs ys) := by
  rw [cnt_kept gx, cnt_kept gy, cnt_kept (jOr_good gx gy), cnt_kept (jAnd_good gx gy)]
  have key : ∀ ls : List (Option Int), ((keptL ls t).filter fun n : Nat => inR low high ((n : Nat) : Int)).length = (((List.range (t + 1)).filter fun n : Nat => inR low high ((n : Nat) : Int)).filter fun n : Nat => keptB ls (t : Int) ((n : Nat) : Int)).length := fun ls => by
    unfold keptL
    rw [List.filter_filter, List.filter_filter]
    congr 2
    funext n
    exact Bool.and_comm _ _
  rw [key, key, key, key]
  have h := cnt_or_and (fun n : Nat => keptB xs (t : Int) ((n : Nat) : Int)) (fun n : Nat => keptB ys (t : Int) ((n : Nat) : Int)) ((List.range (t + 1)).filter fun n : Nat => inR low high ((n : Nat) : Int))
  have e1 : (fun n : Nat => keptB (jOr xs ys) (t : Int) ((n : Nat) : Int)) = fun n : Nat => keptB xs (t : Int) ((n : Nat) : Int) || keptB ys (t : Int) ((n : Nat) : Int) := funext fun n => jOr_kept gx gy _ _
  have e2 : (fun n : Nat => keptB (jAnd xs ys) (t : Int) ((n : Nat) : Int)) = fun n : Nat => keptB xs (t : Int) ((n : Nat) : Int) && keptB ys (t : Int) ((n : Nat) : Int) := funext fun n => jAnd_kept gx gy _ _
  rw [e1, e2]
  omega
theorem jOr_l (gx : Good xs) (gy : Good ys) : LeL xs (jOr xs ys) := fun i => by rw [jOr_life gx gy]; exact le_maxL _ _
theorem jOr_r (gx : Good xs) (gy : Good ys) : LeL ys (jOr xs ys) := fun i => by rw [jOr_life gx gy]; exact le_maxR _ _
theorem jAnd_l (gx : Good xs) (gy : Good ys) : LeL (jAnd xs ys) xs := fun i => by
  rw [jAnd_life gx gy]
  have h : leO (minO (lifeAt xs i) (lifeAt ys i)) (minO (lifeAt xs i) (lifeAt ys i)) = true := by cases minO (lifeAt xs i) (lifeAt ys i) <;> first | rfl | exact decide_eq_true (Int.le_refl _)
  rw [leO_minO, Bool.and_eq_true] at h
  exact h.1
theorem jAnd_r (gx : Good xs) (gy : Good ys) : LeL (jAnd xs ys) ys := fun i => by
  rw [jAnd_life gx gy]
  have h : leO (minO (lifeAt xs i) (lifeAt ys i)) (minO (lifeAt xs i) (lifeAt ys i)) = true := by cases minO (lifeAt xs i) (lifeAt ys i) <;> first | rfl | exact decide_eq_true (Int.le_refl _)
  rw [leO_minO, Bool.and_eq_true] at h
  exact h.2
/-- the restore point as a number, -1 where there is none -/
def rpN (ls : List (Option Int)) (t e : Int) : Int := match rpO ls t e with
  | none => -1
  | some p => p
theorem rpN_is {ls : List (Option Int)} (g : Good ls) {t : Int} (ht : 0 ≤ t) (e : Int) : (rpN ls t e = -1 ∧ ∀ n, Kept ls t n → ¬ n ≤ e) ∨ (0 ≤ rpN ls t e ∧ Kept ls t (rpN ls t e) ∧ rpN ls t e ≤ e ∧ ∀ n, Kept ls t n → n ≤ e → n ≤ rpN ls t e) := by
  obtain ⟨a, b⟩ := rpO_spec g ht e
  unfold rpN
  cases h : rpO ls t e with
  | none => exact .inl ⟨rfl, b h⟩
  | some p =>
    obtain ⟨c1, c2, c3⟩ := a p h
    exact .inr ⟨c1.1, c1, c2, c3⟩
theorem kept_or (gx : Good xs) (gy : Good ys) {t n : Int} (hn : 0 ≤ n) : Kept (jOr xs ys) t n ↔ Kept xs t n ∨ Kept ys t n := by
  rw [← keptB_iff hn, ← keptB_iff hn, ← keptB_iff hn, jOr_kept gx gy, Bool.or_eq_true]
theorem kept_and (gx : Good xs) (gy : Good ys) {t n : Int} (hn : 0 ≤ n) : Kept (jAnd xs ys) t n ↔ Kept xs t n ∧ Kept ys t n := by
  rw [← keptB_iff hn, ← keptB_iff hn, ← keptB_iff hn, jAnd_kept gx gy, Bool.and_eq_true]
theorem rp_or (gx : Good xs) (gy : Good ys) {t : Int} (ht : 0 ≤ t) (e : Int) : rpN (jOr xs ys) t e = max (rpN xs t e) (rpN ys t e) := by
  rcases rpN_is gx ht e with ⟨a1, a2⟩ | ⟨a0, a1, a2, a3⟩ <;> rcases rpN_is gy ht e with ⟨b1, b2⟩ | ⟨b0, b1, b2, b3⟩ <;> rcases rpN_is (jOr_good gx gy) ht e with ⟨c1, c2⟩ | ⟨c0, c1, c2, c3⟩
  · omega
  · rcases (kept_or gx gy c0).mp c1 with h | h
    · exact absurd c2 (a2 _ h)
    · exact absurd c2 (b2 _ h)
  · exact absurd b2 (c2 _ ((kept_or gx gy b0).mpr (.inr b1)))
  · have h1 := c3 _ ((kept_or gx gy b0).mpr (.inr b1)) b2
    rcases (kept_or gx gy c0).mp c1 with h | h
    · exact absurd c2 (a2 _ h)
    · have := b3 _ h c2
      omega
  · exact absurd a2 (c2 _ ((kept_or gx gy a0).mpr (.inl a1)))
  · have h1 := c3 _ ((kept_or gx gy a0).mpr (.inl a1)) a2
    rcases (kept_or gx gy c0).mp c1 with h | h
    · have := a3 _ h c2
      omega
    · exact absurd c2 (b2 _ h)
  · exact absurd a2 (c2 _ ((kept_or gx gy a0).mpr (.inl a1)))
  · have h1 := c3 _ ((kept_or gx gy a0).mpr (.inl a1)) a2
    have h2 := c3 _ ((kept_or gx gy b0).mpr (.inr b1)) b2
    rcases (kept_or gx gy c0).mp c1 with h | h
    · have := a3 _ h c2
      omega
    · have := b3 _ h c2
      omega
theorem rp_and (gx : Good xs) (gy : Good ys) {t : Int} (ht : 0 ≤ t) (e : Int) : rpN (jAnd xs ys) t e ≤ min (rpN xs t e) (rpN ys t e) := by
  rcases rpN_is (jAnd_good gx gy) ht e with ⟨c1, c2⟩ | ⟨c0, c1, c2, c3⟩
  · rcases rpN_is gx ht e with ⟨a1, a2⟩ | ⟨a0, a1, a2, a3⟩ <;> rcases rpN_is gy ht e with ⟨b1, b2⟩ | ⟨b0, b1, b2, b3⟩ <;> omega
  · obtain ⟨h1, h2⟩ := (kept_and gx gy c0).mp c1
    rcases rpN_is gx ht e with ⟨a1, a2⟩ | ⟨a0, a1, a2, a3⟩
    · exact absurd c2 (a2 _ h1)
    · rcases rpN_is gy ht e with ⟨b1, b2⟩ | ⟨b0, b1, b2, b3⟩
      · exact absurd c2 (b2 _ h2)
      · have := a3 _ h1 c2
        have := b3 _ h2 c2
        omega
end
/-! ### averages of joined rules -/
def lifeI (ls : List (Option Int)) (i : Nat) : Int := (lifeAt ls i).getD 0
theorem psum_add (g h : Nat → Int) (z : Nat) : ∀ i, psum (fun j => g j + h j) z i = psum g z i + psum h z i
  | 0 => rfl
  | i + 1 => by
    show psum (fun j => g j + h j) z i + (g i + h i) * 2 ^ (z - 1 - i) = psum g z i + g i * 2 ^ (z - 1 - i) + (psum h z i + h i * 2 ^ (z - 1 - i))
    rw [psum_add g h z i, Int.add_mul]
    omega
theorem pall_add (g h : Nat → Int) (z k : Nat) : pall (fun j => g j + h j) z k = pall g z k + pall h z k := by
  show (g k + h k) * 2 ^ (z - k) + psum (fun j => g j + h j) z k = g k * 2 ^ (z - k) + psum g z k + (h k * 2 ^ (z - k) + psum h z k)
  rw [psum_add, Int.add_mul]
  omega
theorem Fin.some {xs : List (Option Int)} {is : List Int} {c : Nat} (f : Fin xs is c) (g : Good xs) (i : Nat) : ∃ v, lifeAt xs i = some v := by
  obtain ⟨j, hj, e⟩ := List.mem_iff_getElem.mp (lifeAt_mem g.pos i)
  obtain ⟨v, hv⟩ := f.all j hj
  rw [List.getElem?_eq_getElem hj, e] at hv
  exact ⟨v, Option.some.inj hv⟩
theorem Fin.pallK {xs : List (Option Int)} {is : List Int} {c : Nat} (f : Fin xs is c) (g : Good xs) : ∀ d, pall (lifeI xs) (xs.length - 1 + d) (xs.length - 1 + d) = pall (getI (is.take c)) (c - 1) (c - 1) * 2 ^ (xs.length - 1 + d - (c - 1))
  | 0 => by
    have e : pall (lifeI xs) (xs.length - 1) (xs.length - 1) = pall (getI is) (is.length - 1) (is.length - 1) := by
      rw [f.len]
      refine pall_congr fun j hj => ?_
      have lt : j < xs.length := by have := g.pos; omega
      obtain ⟨v, hv⟩ := f.all j lt
      unfold lifeI
      rw [lifeAt_lt hv, f.at_ j v hv]
      rfl
    have h0 := f.c0
    have h1 := f.c1
    rw [Nat.add_zero, e, f.pa, f.len]
    congr 2
    have := f.len
    omega
  | d + 1 => by
    have h0 := f.c0
    have h1 := f.c1
    have h2 := f.len
    have same : lifeI xs (xs.length - 1 + d + 1) = lifeI xs (xs.length - 1 + d) := by
      unfold lifeI
      have p := g.pos
      rw [← lifeAt_least p (xs.length - 1 + d + 1), ← lifeAt_least p (xs.length - 1 + d)]
      congr 2
      omega
    rw [← Nat.add_assoc, pall_same same, f.pallK g d, show xs.length - 1 + d + 1 - (c - 1) = (xs.length - 1 + d - (c - 1)) + 1 by omega, Int.pow_succ]
    rw [Int.mul_comm 2, Int.mul_assoc]
/-- points and ticks in lowest terms, widened -/
theorem widen {P k K S p t : Int} {G A B : Int} (hP : P = G * p) (hk : k = G * t) (hS : t ∣ S) (ht : 0 < t) (hB : B = k * A) : p * (S / t) * B = P * A * S := by
  obtain ⟨u, rfl⟩ := hS
  rw [Int.mul_ediv_cancel_left u (by omega), hB, hk, hP]
  simp only [Int.mul_assoc, Int.mul_comm, Int.mul_left_comm]
theorem Fin.wide {xs : List (Option Int)} {is : List Int} {c : Nat} (f : Fin xs is c) (g : Good xs) {S G : Int} (G0 : 0 < G) (G1 : G ∣ pall (getI (is.take c)) (c - 1) (c - 1)) (G2 : G ∣ (2 : Int) ^ (c - 1)) (hS : 2 ^ (c - 1) / G ∣ S) :
    pall (getI (is.take c)) (c - 1) (c - 1) / G * (S / (2 ^ (c - 1) / G)) * 2 ^ 100 = pall (lifeI xs) 100 100 * S := by
  have h0 := f.c0
  have h1 := f.c1
  have h2 := f.len
  have hm := g.most
  have p := pow2_pos (c - 1)
  have e1 : xs.length - 1 + (100 - (xs.length - 1)) = 100 := by omega
  have hK := f.pallK g (100 - (xs.length - 1))
  rw [e1] at hK
  have ht : 0 < (2 : Int) ^ (c - 1) / G := Int.ediv_pos_of_pos_of_dvd p (by omega) G2
  have hB : (2 : Int) ^ 100 = 2 ^ (c - 1) * 2 ^ (100 - (c - 1)) := by
    rw [← Int.pow_add]
    congr 1
    omega
  rw [widen (P := pall (getI (is.take c)) (c - 1) (c - 1)) (k := 2 ^ (c - 1)) (K := 0) (G := G) (A := 2 ^ (100 - (c - 1))) (B := 2 ^ 100) (Int.mul_ediv_cancel' G1).symm (Int.mul_ediv_cancel' G2).symm hS ht hB, hK]
theorem jPall {xs ys : List (Option Int)} (gx : Good xs) (gy : Good ys) {is js : List Int} {c d : Nat} (f : Fin xs is c) (e : Fin ys js d) (K : Nat) : pall (lifeI xs) K K + pall (lifeI ys) K K = pall (lifeI (jOr xs ys)) K K + pall (lifeI (jAnd xs ys)) K K := by
  rw [← pall_add, ← pall_add]
  refine pall_congr fun j _ => ?_
  obtain ⟨v, hv⟩ := f.some gx j
  obtain ⟨u, hu⟩ := e.some gy j
  unfold lifeI
  rw [jOr_life gx gy, jAnd_life gx gy, hv, hu, maxO_ss, minO_ss]
  show v + u = max v u + min v u
  omega
/-- four numbers that are equal widened alike are so -/
theorem four_wide {a b c d A B C D S W : Int} (hW : 0 < W) (h1 : a * W = A * S) (h2 : b * W = B * S) (h3 : c * W = C * S) (h4 : d * W = D * S) (h : A + B = C + D) : a + b = c + d := by
  have : (a + b) * W = (c + d) * W := by
    rw [Int.add_mul, Int.add_mul, h1, h2, h3, h4, ← Int.add_mul, ← Int.add_mul, h]
  exact Int.eq_of_mul_eq_mul_right (by omega) this
/-- reduced ticks are powers of 2, and divide the greatest of them -/
theorem tick_pow {k : Nat} {G : Int} (G0 : 0 < G) (G2 : G ∣ (2 : Int) ^ k) : ∃ m : Nat, m ≤ k ∧ (2 : Int) ^ k / G = 2 ^ m := by
  obtain ⟨u, hu⟩ := G2
  have pk := pow2_pos k
  have u0 : 0 < u := by
    rcases Int.lt_or_le 0 u with h | h
    · exact h
    · have := Int.mul_nonpos_of_nonneg_of_nonpos (Int.le_of_lt G0) h
      omega
  obtain ⟨un, rfl⟩ := Int.eq_ofNat_of_zero_le (Int.le_of_lt u0)
  have e : (2 : Int) ^ k / G = (un : Int) := by
    rw [hu]
    exact Int.mul_ediv_cancel_left _ (by omega)
  have hd : un ∣ 2 ^ k := by
    have h : ((un : Nat) : Int) ∣ (2 : Int) ^ k := ⟨G, by rw [hu, Int.mul_comm]⟩
    have h2 : ((un : Nat) : Int) ∣ ((2 ^ k : Nat) : Int) := by rw [Int.natCast_pow]; exact h
    exact Int.natCast_dvd_natCast.mp h2
  obtain ⟨m, hm, em⟩ := dvd_pow2 k un hd
  refine ⟨m, hm, ?_⟩
  rw [e, em, Int.natCast_pow]
  rfl
theorem pow_dvd_max {m : Nat} {S : Int} (hle : (2 : Int) ^ m ≤ S) (hS : ∃ n : Nat, S = 2 ^ n) : (2 : Int) ^ m ∣ S := by
  obtain ⟨n, rfl⟩ := hS
  have : m ≤ n := by
    rcases Nat.lt_or_ge n m with h | h
    · have a := pow2_le (show n + 1 ≤ m from h)
      have b := pow2_pos n
      rw [Int.pow_succ] at a
      omega
    · exact h
  exact ⟨2 ^ (n - m), by rw [← Int.pow_add]; congr 1; omega⟩
end Rk
namespace Rk
open PySem PySem.Spec PyProof.Rows L2

/-! ### a rule made longer by very many ticks -/
theorem addO_inj {n : Int} {x y : Option Int} (h : addO n x = addO n y) : x = y := by
  cases x with
  | none => cases y with
    | none => rfl
    | some y => cases h
  | some x => cases y with
    | none => cases h
    | some y =>
      have e : x + n = y + n := Option.some.inj h
      rw [show x = y by omega]
theorem cutN_add (n : Int) (ls : List (Option Int)) : ∀ k, cutN (ls.map (addO n)) k = cutN ls k
  | 0 => rfl
  | 1 => rfl
  | k + 2 => by
    have iff : (ls.map (addO n))[k + 1]? = (ls.map (addO n))[k]? ↔ ls[k + 1]? = ls[k]? := by
      rw [List.getElem?_map, List.getElem?_map]
      constructor
      · intro h
        cases a : ls[k + 1]? with
        | none => cases b : ls[k]? with
          | none => rfl
          | some y => rw [a, b] at h; cases h
        | some x => cases b : ls[k]? with
          | none => rw [a, b] at h; cases h
          | some y =>
            rw [a, b] at h
            rw [addO_inj (Option.some.inj h)]
      · intro h
        rw [h]
    by_cases h : ls[k + 1]? = ls[k]?
    · rw [cutN_eq h, cutN_eq (iff.mpr h)]
      exact cutN_add n ls (k + 1)
    · rw [cutN_ne h, cutN_ne fun z => h (iff.mp z)]
theorem short_addO (n : Int) (ls : List (Option Int)) : short (ls.map (addO n)) = (short ls).map (addO n) := by
  unfold short
  rw [cutN_add, List.length_map, List.map_take]
section
variable {ls : List (Option Int)}
/-- all points are kept -/
theorem far_kept (g : Good ls) {u t n : Int} (hu : t < u) (h0 : 0 ≤ n) (h1 : n ≤ t) : Kept (ls.map (addO u)) t n := by
  refine ⟨h0, h1, ?_⟩
  rw [lifeAt_map _ g.pos]
  cases e : lifeAt ls (rkI n) with
  | none => rfl
  | some v =>
    have := (g.at _ v e).1
    exact decide_eq_true (show t - n + 1 ≤ v + u by omega)
theorem far_pos (g : Good ls) {u : Int} : 0 < (ls.map (addO u)).length := by rw [List.length_map]; exact g.pos
theorem far_rp (g : Good ls) {u t e : Int} (h18 : t < 10 ^ 18) (hu : t < u) (h0 : 0 ≤ e) (h1 : e ≤ t) : rpO (ls.map (addO u)) t e = some e := by
  rw [← rpO_clip]
  exact rpO_some (good_clip g (by omega) (by omega) h18) (by omega) ((kept_clip (far_pos g)).mpr (far_kept g hu h0 h1)) (Int.le_refl _) fun n _ hn => hn
theorem far_count (g : Good ls) {u : Int} {t : Nat} (h18 : (t : Int) < 10 ^ 18) (hu : (t : Int) < u) : cntB 0 (t : Int) (t : Int) 0 (t : Int) (ls.map (addO u)) = (t : Int) + 1 := by
  rw [← cntB_clip, cnt_all (good_clip g (by omega) (by omega) h18)]
  have e : keptL ((ls.map (addO u)).map (clipO (t : Int))) t = List.range (t + 1) := by
    unfold keptL
    refine List.filter_eq_self.mpr fun n hn => ?_
    have := List.mem_range.mp hn
    exact (keptB_iff (by omega)).mpr ((kept_clip (far_pos g)).mpr (far_kept g hu (by omega) (by omega)))
  rw [e, List.length_range]
  omega
end
/-- what it promises goes on -/
theorem off_add (i : Nat) (u : Int) (l : Option Int) : offO i (addO u l) = addO u (offO i l) := by
  cases l with
  | none => rfl
  | some v =>
    show some (v + u - 2 ^ i) = some (v - 2 ^ i + u)
    congr 1
    omega
theorem leO_add2 (u : Int) (x y : Option Int) : leO (addO u x) (addO u y) = leO x y := by
  cases x with
  | none => cases y <;> rfl
  | some x => cases y with
    | none => rfl
    | some y => exact decide_eq_decide.mpr (show x + u ≤ y + u ↔ x ≤ y by omega)
theorem prom_far {u : Int} : ∀ (ls : List (Option Int)) (i : Nat) (r r' : Option Int), leO r' (addO u r) = true → ∀ p ∈ prom i r ls, (addO u p.1, p.2) ∈ prom i r' (ls.map (addO u))
  | [], _, _, _, _, p, hp => by cases hp
  | l :: t, i, r, r', h, p, hp => by
    have hp' : p ∈ (if leO (offO i l) r = true then prom (i + 1) r t else (offO i l, 2 ^ i - 1) :: prom (i + 1) (offO i l) t) := hp
    show (addO u p.1, p.2) ∈ (if leO (offO i (addO u l)) r' = true then prom (i + 1) r' (t.map (addO u)) else (offO i (addO u l), 2 ^ i - 1) :: prom (i + 1) (offO i (addO u l)) (t.map (addO u)))
    have ho := off_add i u l
    by_cases z : leO (offO i l) r = true
    · rw [if_pos z] at hp'
      by_cases w : leO (offO i (addO u l)) r' = true
      · rw [if_pos w]
        exact prom_far t (i + 1) r r' h p hp'
      · rw [if_neg w]
        refine List.mem_cons_of_mem _ (prom_far t (i + 1) r _ ?_ p hp')
        rw [ho, leO_add2]
        exact z
    · rw [if_neg z] at hp'
      have w : ¬ leO (offO i (addO u l)) r' = true := fun w => z (by
        rw [ho] at w
        have := leO_trans w h
        rwa [leO_add2] at this)
      rw [if_neg w]
      rcases List.mem_cons.mp hp' with rfl | hp'
      · rw [ho]
        exact List.mem_cons_self
      · refine List.mem_cons_of_mem _ (prom_far t (i + 1) (offO i l) _ ?_ p hp')
        rw [ho]
        cases addO u (offO i l) <;> first | rfl | exact decide_eq_true (Int.le_refl _)
/-! the average -/
theorem psum_const (c : Int) (z : Nat) : ∀ i, i ≤ z → psum (fun _ => c) z i = c * (2 ^ z - 2 ^ (z - i))
  | 0, _ => by
    show (0 : Int) = c * (2 ^ z - 2 ^ (z - 0))
    rw [Nat.sub_zero, Int.sub_self, Int.mul_zero]
  | i + 1, h => by
    show psum (fun _ => c) z i + c * 2 ^ (z - 1 - i) = c * (2 ^ z - 2 ^ (z - (i + 1)))
    rw [psum_const c z i (by omega), ← Int.mul_add]
    congr 1
    rw [show z - i = (z - (i + 1)) + 1 by omega, show z - 1 - i = z - (i + 1) by omega, Int.pow_succ]
    omega
theorem pall_const (c : Int) (k : Nat) : pall (fun _ => c) k k = c * 2 ^ k := by
  show c * 2 ^ (k - k) + psum (fun _ => c) k k = _
  rw [psum_const c k k (Nat.le_refl _), Nat.sub_self, ← Int.mul_add]
  congr 1
  have : (2 : Int) ^ 0 = 1 := rfl
  omega
theorem pall_far {is : List Int} {k : Nat} (hk : is.length = k + 1) (u : Int) : pall (getI (is.map (· + u))) k k = pall (getI is) k k + u * 2 ^ k := by
  rw [← pall_const u k, ← pall_add]
  refine pall_congr fun j hj => ?_
  have h := List.getElem?_eq_getElem (l := is) (i := j) (by omega)
  rw [getI_at h]
  refine getI_at ?_
  rw [List.getElem?_map, h]
  rfl
theorem gcd_far {P u : Int} (hP : 0 ≤ P) (hu : 0 ≤ u) (k : Nat) : Nat.gcd (P + u * 2 ^ k).natAbs ((2 : Int) ^ k).natAbs = Nat.gcd P.natAbs ((2 : Int) ^ k).natAbs := by
  obtain ⟨p, rfl⟩ := Int.eq_ofNat_of_zero_le hP
  obtain ⟨v, rfl⟩ := Int.eq_ofNat_of_zero_le hu
  have e : ((p : Nat) : Int) + ((v : Nat) : Int) * 2 ^ k = ((p + v * 2 ^ k : Nat) : Int) := by
    rw [Int.natCast_add, Int.natCast_mul, Int.natCast_pow]
    rfl
  have e2 : ((2 : Int) ^ k).natAbs = 2 ^ k := by
    rw [Int.natAbs_pow]
    rfl
  rw [e, e2, Int.natAbs_natCast, Int.natAbs_natCast, Nat.mul_comm, Nat.gcd_add_mul_left_left]
theorem avg_far {P u G : Int} {k : Nat} (G0 : 0 < G) (G2 : G ∣ (2 : Int) ^ k) : (P + u * 2 ^ k) / G = P / G + u * (2 ^ k / G) := by
  obtain ⟨w, hw⟩ := G2
  rw [hw, Int.mul_ediv_cancel_left w (by omega), show P + u * (G * w) = P + (u * w) * G by rw [Int.mul_assoc, Int.mul_comm w G], Int.add_mul_ediv_right _ _ (by omega)]
/-! the greatest count -/
theorem count_lateG {is : List Int} {k : Nat} (asc : is.Pairwise (· ≤ ·)) (nn : ∀ l ∈ is, 0 ≤ l) (hk : is.length = k + 1) {T : Int} (hT : getI is k ≤ T) : cntT (is.map some) T = baseSum 0 0 is + GG (getI is) k T := by
  have lk : k < is.length := by omega
  have ek := getI_at (List.getElem?_eq_getElem lk)
  have bd : ∀ l ∈ is, 0 ≤ l ∧ l ≤ T := fun l hl => by
    obtain ⟨i, hi, e⟩ := List.mem_iff_getElem.mp hl
    have le : is[i] ≤ is[k] := by
      by_cases c : i = k
      · subst c; exact Int.le_refl _
      · exact (List.pairwise_iff_getElem.mp asc) i k hi lk (by omega)
    have := nn l hl
    omega
  have h := cnt_late is 0 0 T (Int.le_refl _) bd asc
  rw [Int.sub_zero] at h
  unfold cntT
  rw [h, late_split, gnSum_all hk]
theorem gn_shift {g h : Nat → Int} {j k : Nat} {u m : Int} (hu : u = m * 2 ^ k) (hj : j ≤ k) (x : Int) (e1 : h (j - 1) = g (j - 1) + u) (e2 : h j = g j + u) : gn h j x = gn g j x := by
  unfold gn
  have p : u = m * 2 ^ (k - j) * 2 ^ j := by
    rw [hu, Int.mul_assoc, ← Int.pow_add]
    congr 2
    omega
  rw [e1, e2, show g j + u - (g (j - 1) + u) = g j - g (j - 1) by omega, show x - (g (j - 1) + u) = x - g (j - 1) + (-(m * 2 ^ (k - j))) * 2 ^ j by rw [Int.neg_mul, ← p]; omega, Int.add_mul_emod_self_right]
theorem getI_add {is : List Int} {u : Int} {j : Nat} (h : j < is.length) : getI (is.map (· + u)) j = getI is j + u := by
  have e := List.getElem?_eq_getElem h
  rw [getI_at e]
  refine getI_at ?_
  rw [List.getElem?_map, e]
  rfl
theorem GG_shift {is : List Int} {k : Nat} (hk : is.length = k + 1) {u m : Int} (hu : u = m * 2 ^ k) (x : Int) : ∀ j, j ≤ k → GG (getI (is.map (· + u))) j x = GG (getI is) j x
  | 0, _ => rfl
  | j + 1, h => by
    show GG (getI (is.map (· + u))) j x + gn (getI (is.map (· + u))) (j + 1) x = GG (getI is) j x + gn (getI is) (j + 1) x
    rw [GG_shift hk hu x j (by omega), gn_shift hu h x (by rw [Nat.add_sub_cancel]; exact getI_add (by omega)) (getI_add (by omega))]
theorem base_shift (u : Int) : ∀ (r : List Int) (i : Nat) (P : Int), baseSum i (P + u) (r.map (· + u)) = baseSum i P r
  | [], _, _ => rfl
  | l :: r, i, P => by
    show (l + u - (P + u)) / 2 ^ i + baseSum (i + 1) (l + u) (r.map (· + u)) = (l - P) / 2 ^ i + baseSum (i + 1) l r
    rw [base_shift u r (i + 1) l, show l + u - (P + u) = l - P by omega]
theorem base_add {is : List Int} {k : Nat} (hk : is.length = k + 1) (u : Int) : baseSum 0 0 (is.map (· + u)) = baseSum 0 0 is + u := by
  obtain ⟨l, r, rfl⟩ : ∃ l r, is = l :: r := by
    cases is with
    | nil => cases hk
    | cons l r => exact ⟨l, r, rfl⟩
  show (l + u - 0) / 2 ^ 0 + baseSum 1 (l + u) (r.map (· + u)) = (l - 0) / 2 ^ 0 + baseSum 1 l r + u
  rw [base_shift u r 1 l, show ((2 : Int) ^ 0) = 1 from rfl, Int.ediv_one, Int.ediv_one]
  omega
theorem most_far {is : List Int} {k : Nat} (asc : is.Pairwise (· ≤ ·)) (nn : ∀ l ∈ is, 0 ≤ l) (hk : is.length = k + 1) {u m : Int} (hu : u = m * 2 ^ k) (u0 : 0 ≤ u) {T U : Int} (hT : getI is k ≤ T) (hU : getI (is.map (· + u)) k ≤ U)
    (mT : ∀ x, 0 ≤ x → x < 2 ^ k → GG (getI is) k x ≤ GG (getI is) k T) (mU : ∀ x, 0 ≤ x → x < 2 ^ k → GG (getI (is.map (· + u))) k x ≤ GG (getI (is.map (· + u))) k U) : cntT ((is.map (· + u)).map some) U = cntT (is.map some) T + u := by
  have asc2 : (is.map (· + u)).Pairwise (· ≤ ·) := by
    rw [List.pairwise_map]
    exact asc.imp fun h => by omega
  have nn2 : ∀ l ∈ is.map (· + u), 0 ≤ l := fun l hl => by
    obtain ⟨v, hv, rfl⟩ := List.mem_map.mp hl
    have := nn v hv
    omega
  rw [count_lateG asc2 nn2 (by rw [List.length_map]; exact hk) hU, count_lateG asc nn hk hT, base_add hk, GG_shift hk hu U k (Nat.le_refl _)]
  have pk := pow2_pos k
  have a1 := Int.emod_nonneg U (show (2 : Int) ^ k ≠ 0 by omega)
  have a2 := Int.emod_lt_of_pos U pk
  have b1 := Int.emod_nonneg T (show (2 : Int) ^ k ≠ 0 by omega)
  have b2 := Int.emod_lt_of_pos T pk
  have c1 := mT _ a1 a2
  have c2 := mU _ b1 b2
  rw [GG_mod] at c1
  rw [GG_shift hk hu _ k (Nat.le_refl _), GG_shift hk hu _ k (Nat.le_refl _), GG_mod] at c2
  omega
end Rk
namespace Rk
open PySem PySem.Spec PyProof.Rows L2

/-! ### what a store restores -/
/-- the greatest kept point up to e -/
def xLast (ks : List (Option Int)) (t : Nat) (e : Int) : Option Nat := ((keptL ks t).filter fun n => decide (((n : Nat) : Int) ≤ e)).getLast?
/-- the greatest point of the store up to e -/
def rLast (ks : List (Option Int)) (t : Nat) (lost : List Nat) (e : Int) : Option Nat := ((ptsL ks t lost).filter fun n => decide (((n : Nat) : Int) ≤ e)).getLast?
theorem rLast_filter (ks : List (Option Int)) (t : Nat) (lost : List Nat) (e : Int) : (ptsL ks t lost).filter (fun n => decide (((n : Nat) : Int) ≤ e)) = ((keptL ks t).filter fun n => decide (((n : Nat) : Int) ≤ e)).filter (notIn lost) := by
  unfold ptsL
  rw [List.filter_filter, List.filter_filter]
  exact List.filter_congr fun n _ => Bool.and_comm _ _
theorem rLast_none {ks : List (Option Int)} {t : Nat} {lost : List Nat} {e : Int} (h : xLast ks t e = none) : rLast ks t lost e = none := by
  unfold rLast
  rw [rLast_filter, List.getLast?_eq_none_iff.mp h]
  rfl
theorem xLast_split {ks : List (Option Int)} {t : Nat} {e : Int} {p : Nat} (h : xLast ks t e = some p) : ∃ ini, (keptL ks t).filter (fun n => decide (((n : Nat) : Int) ≤ e)) = ini ++ [p] ∧ (∀ q ∈ ini, q < p) ∧ ((p : Nat) : Int) ≤ e ∧ p ≤ t := by
  obtain ⟨ini, hi⟩ := List.getLast?_eq_some_iff.mp h
  have up : ((keptL ks t).filter fun n => decide (((n : Nat) : Int) ≤ e)).Pairwise (· < ·) := (keptL_up ks t).sublist (List.filter_sublist ..)
  have hm : p ∈ (keptL ks t).filter fun n => decide (((n : Nat) : Int) ≤ e) := by rw [hi]; simp
  obtain ⟨h1, h2⟩ := List.mem_filter.mp hm
  rw [hi] at up
  exact ⟨ini, hi, fun q hq => (List.pairwise_append.mp up).2.2 q hq p (List.mem_singleton_self _), of_decide_eq_true h2, (keptL_mem.mp h1).1⟩
theorem rLast_some {ks : List (Option Int)} {t : Nat} {lost : List Nat} {e : Int} {p : Nat} (h : xLast ks t e = some p) (n : p ∉ lost) : rLast ks t lost e = some p := by
  obtain ⟨ini, hi, _⟩ := xLast_split h
  unfold rLast
  rw [rLast_filter, hi, List.filter_append, filter_yes (notIn lost) (by unfold notIn; rw [decide_eq_false n]; rfl)]
  simp
theorem rLast_lost {ks : List (Option Int)} {t : Nat} {lost : List Nat} {e : Int} {p : Nat} (h : xLast ks t e = some p) (n : p ∈ lost) : rLast ks t lost e = rLast ks t lost ((p : Int) - 1) := by
  obtain ⟨ini, hi, hlt, pe, _⟩ := xLast_split h
  unfold rLast
  rw [rLast_filter, rLast_filter]
  have e2 : (keptL ks t).filter (fun n => decide (((n : Nat) : Int) ≤ (p : Int) - 1)) = ini := by
    have q : (keptL ks t).filter (fun n => decide (((n : Nat) : Int) ≤ (p : Int) - 1)) = ((keptL ks t).filter fun n => decide (((n : Nat) : Int) ≤ e)).filter fun n => decide (((n : Nat) : Int) ≤ (p : Int) - 1) := by
      rw [List.filter_filter]
      refine List.filter_congr fun m _ => ?_
      by_cases c : ((m : Nat) : Int) ≤ (p : Int) - 1
      · rw [decide_eq_true c, decide_eq_true (show ((m : Nat) : Int) ≤ e by omega)]
        rfl
      · rw [decide_eq_false c, Bool.false_and]
    rw [q, hi, List.filter_append, filter_no (fun n : Nat => decide (((n : Nat) : Int) ≤ (p : Int) - 1)) (decide_eq_false (by omega)), List.append_nil]
    exact List.filter_eq_self.mpr fun m hm => decide_eq_true (by have := hlt m hm; omega)
  rw [e2, hi, List.filter_append, filter_no (notIn lost) (by unfold notIn; rw [decide_eq_true n]; rfl), List.append_nil]
theorem rp_last {ks : List (Option Int)} (g : Good ks) (t : Nat) (e : Int) (he : e ≤ t) : rpO ks t e = (xLast ks t e).map fun n => ((n : Nat) : Int) := old_last g t e he
end Rk
namespace Rk
open PySem PySem.Spec PyProof.Rows L2
theorem minO_more {r x : Option Int} {T m : Int} (hm : 0 ≤ m) : minO r (addO m (minO r (addO T x))) = minO r (addO (T + m) x) := by
  cases x with
  | none =>
    have e1 : minO r (addO T none) = r := minO_eq (by cases r <;> rfl)
    have e2 : minO r (addO (T + m) none) = r := minO_eq (by cases r <;> rfl)
    rw [e1, e2]
    exact minO_eq (leO_add hm)
  | some v =>
    cases r with
    | none => exact congrArg some (show v + T + m = v + (T + m) by omega)
    | some r =>
      have L : ∀ y : Int, minO (some r) (some y) = some (if r ≤ y then r else y) := fun y => by
        unfold minO
        by_cases h : r ≤ y
        · rw [if_pos (show leO (some r) (some y) = true from decide_eq_true h), if_pos h]
        · rw [if_neg (show ¬ leO (some r) (some y) = true from fun z => h (of_decide_eq_true z)), if_neg h]
      show minO (some r) (addO m (minO (some r) (some (v + T)))) = minO (some r) (some (v + (T + m)))
      rw [L, L]
      show minO (some r) (some ((if r ≤ v + T then r else v + T) + m)) = _
      rw [L]
      congr 1
      split <;> split <;> split <;> omega
theorem chg_more {A rs : List (Option Int)} (h0 : 0 < A.length) (h1 : 0 < rs.length) {T m : Int} (hm : 0 ≤ m) : short (chgL (short (chgL A rs T)) rs m) = short (chgL A rs (T + m)) := by
  have p : 0 < (chgL A rs T).length := by rw [chgL_len]; omega
  refine short_ext (by rw [chgL_len]; omega) (by rw [chgL_len]; omega) fun i => ?_
  rw [lifeAt_chg (short_len_pos p) h1, lifeAt_short p, lifeAt_chg h0 h1, lifeAt_chg h0 h1, minO_more hm]
theorem chg_self {ls : List (Option Int)} (h0 : 0 < ls.length) {m : Int} (hm : 0 ≤ m) : short (chgL ls ls m) = short ls := by
  refine short_ext (by rw [chgL_len]; omega) h0 fun i => ?_
  rw [lifeAt_chg h0 h0, minO_eq (leO_add hm)]
end Rk
namespace Rk
open PySem PySem.Spec PyProof.Rows L2
/-! lives in order, none below 0, of any size (what a store keeps by may be greater than 10 ** 18): the lemmas that ask for Good, for these -/
structure GoodW (ls : List (Option Int)) : Prop where
  pos : 0 < ls.length
  most : ls.length ≤ 61
  asc : ∀ (i : Nat) (x y : Option Int), ls[i]? = some x → ls[i + 1]? = some y → leO x y = true
  nn : ∀ l ∈ ls, ∀ v, l = some v → 0 ≤ v
theorem Good.w {ls : List (Option Int)} (g : Good ls) : GoodW ls := ⟨g.pos, g.most, g.asc, fun l hl v e => (g.bd l hl v e).1⟩
theorem lifeAt_stepW {ls : List (Option Int)} (g : GoodW ls) (j : Nat) : leO (lifeAt ls j) (lifeAt ls (j + 1)) = true := by
  by_cases h : j + 1 < ls.length
  · have e0 := List.getElem?_eq_getElem (show j < ls.length by omega)
    have e1 := List.getElem?_eq_getElem h
    rw [lifeAt_lt e0, lifeAt_lt e1]
    exact g.asc j _ _ e0 e1
  · rw [lifeAt_const g.pos (j + 1) (by omega)]
    by_cases h2 : j = ls.length - 1
    · rw [h2]
      exact leO_refl _
    · rw [lifeAt_const g.pos j (by omega)]
      exact leO_refl _
theorem lifeAt_monoW {ls : List (Option Int)} (g : GoodW ls) {j : Nat} : ∀ k, leO (lifeAt ls j) (lifeAt ls (j + k)) = true
  | 0 => leO_refl _
  | k + 1 => leO_trans (lifeAt_monoW g k) (lifeAt_stepW g (j + k))
theorem lifeAt_leW {ls : List (Option Int)} (g : GoodW ls) {j k : Nat} (h : j ≤ k) : leO (lifeAt ls j) (lifeAt ls k) = true := by
  have := lifeAt_monoW g (j := j) (k - j)
  rw [show j + (k - j) = k by omega] at this
  exact this
theorem inB_keptW {ls : List (Option Int)} (g : GoodW ls) {t : Int} (ht : 0 ≤ t) {n : Int} (hn : 0 ≤ n) (hnt : n ≤ t) : ∀ (r : List (Option Int)) (i : Nat) (hi : Int), ls.drop i = r → i ≤ ls.length → n ≤ hi → (i = 0 ∨ n < bandLo t (lifeAt ls (i - 1))) → (inB t i hi r n ↔ Kept ls t n)
  | [], i, hi, e, hil, hnh, hp => by
    have hi0 : i = ls.length := by
      have := congrArg List.length e
      rw [List.length_drop, List.length_nil] at this
      omega
    have h0 := g.pos
    refine ⟨fun z => z.elim, fun z => ?_⟩
    rcases hp with hp | hp
    · omega
    · have k := (enough_iff hn _).mp z.2.2
      have m : leO (lifeAt ls (rkI n)) (lifeAt ls (i - 1)) = true := by
        by_cases c : rkI n ≤ i - 1
        · exact lifeAt_leW g c
        · rw [hi0, lifeAt_const h0 (rkI n) (by omega)]
          exact leO_refl _
      have := bandLo_mono ht m
      omega
  | l :: r, i, hi, e, hil, hnh, hp => by
    have hi1 : i < ls.length := by
      have := congrArg List.length e
      rw [List.length_drop, List.length_cons] at this
      omega
    have hm := g.most
    have el : lifeAt ls i = l := by
      have e2 := drop_cons (List.getElem?_eq_getElem hi1)
      rw [e] at e2
      have e3 : l = ls[i] := (List.cons.inj e2).1
      rw [lifeAt_lt (List.getElem?_eq_getElem hi1), e3]
    have er : ls.drop (i + 1) = r := by
      have e2 := drop_cons (List.getElem?_eq_getElem hi1)
      rw [e] at e2
      exact (List.cons.inj e2).2.symm
    by_cases c : bandLo t l ≤ n
    · have no : ¬ inB t (i + 1) (bandLo t l - 1) r n := by
        intro z
        have := inB_le ht r (i + 1) (bandLo t l - 1) n (fun m hm2 => by
          have e2 : ls[i + 1]? = some m := by
            rw [← er] at hm2
            rw [List.head?_drop] at hm2
            exact hm2
          have := bandLo_mono ht (g.asc i (ls[i]) m (List.getElem?_eq_getElem hi1) e2)
          rw [← lifeAt_lt (List.getElem?_eq_getElem hi1), el] at this
          omega) (fun j x y hx hy => by
            rw [← er] at hx hy
            rw [List.getElem?_drop] at hx hy
            exact g.asc (i + 1 + j) x y hx (by rw [show i + 1 + j + 1 = i + 1 + (j + 1) by omega]; exact hy)) z
        omega
      have k : Kept ls t n ↔ i ≤ rkI n := by
        constructor
        · intro z
          by_cases d : i ≤ rkI n
          · exact d
          · exfalso
            rcases hp with hp | hp
            · omega
            · have k := (enough_iff hn _).mp z.2.2
              have := bandLo_mono ht (lifeAt_leW g (show rkI n ≤ i - 1 by omega))
              omega
        · intro z
          refine ⟨hn, hnt, (enough_iff hn _).mpr ?_⟩
          have := bandLo_mono ht (lifeAt_leW g z)
          rw [el] at this
          omega
      rw [k, ← rk_dvd hn (by omega : i ≤ 1000)]
      constructor
      · rintro (z | z)
        · exact z.2.2
        · exact absurd z no
      · intro z
        exact .inl ⟨c, hnh, z⟩
    · have ih := inB_keptW g ht hn hnt r (i + 1) (bandLo t l - 1) er (by omega) (by omega) (.inr (by
        show n < bandLo t (lifeAt ls (i + 1 - 1))
        rw [show i + 1 - 1 = i by omega, el]
        omega))
      rw [← ih]
      constructor
      · rintro (z | z)
        · exact absurd z.1 c
        · exact z
      · exact .inr
theorem inB_iffW {ls : List (Option Int)} (g : GoodW ls) {t : Int} (ht : 0 ≤ t) {n : Int} (hn : 0 ≤ n) (hnt : n ≤ t) : inB t 0 t ls n ↔ Kept ls t n := inB_keptW g ht hn hnt ls 0 t rfl (Nat.zero_le _) hnt (.inl rfl)
theorem rpO_specW {ls : List (Option Int)} (g : GoodW ls) {t : Int} (ht : 0 ≤ t) (e : Int) :
    (∀ p, rpO ls t e = some p → Kept ls t p ∧ p ≤ e ∧ ∀ n, Kept ls t n → n ≤ e → n ≤ p) ∧ (rpO ls t e = none → ∀ n, Kept ls t n → ¬ n ≤ e) := by
  have hb : ∀ l ∈ ls, ∀ v, l = some v → 0 ≤ v := fun l hl v e => g.nn l hl v e
  have hd : ∀ l, ls.head? = some l → bandLo t l ≤ t + 1 := fun l hl => (bandLo_le ht (hb l (List.mem_of_mem_head? hl))).2
  obtain ⟨a, b⟩ := rpB_spec ht e ls 0 t hd g.asc
  refine ⟨fun p hp => ?_, fun z n hn => ?_⟩
  · obtain ⟨a1, a2, a3⟩ := a p hp
    have p0 := inB_nonneg ht ls 0 t p hb a1
    have p1 := inB_le ht ls 0 t p hd g.asc a1
    exact ⟨(inB_iffW g ht p0 p1).mp a1, a2, fun n hn hne => a3 n ((inB_iffW g ht hn.1 hn.2.1).mpr hn) hne⟩
  · exact b z n ((inB_iffW g ht hn.1 hn.2.1).mpr hn)
theorem rpO_someW {ls : List (Option Int)} (g : GoodW ls) {t : Int} (ht : 0 ≤ t) {e p : Int} (hp : Kept ls t p) (he : p ≤ e) (h : ∀ n, Kept ls t n → n ≤ e → n ≤ p) : rpO ls t e = some p := by
  obtain ⟨a, b⟩ := rpO_specW g ht e
  cases z : rpO ls t e with
  | none => exact absurd he (b z p hp)
  | some q =>
    obtain ⟨a1, a2, a3⟩ := a q z
    have h1 := a3 p hp he
    have h2 := h q a1 a2
    rw [show q = p by omega]
theorem rpO_noneW {ls : List (Option Int)} (g : GoodW ls) {t : Int} (ht : 0 ≤ t) {e : Int} (h : ∀ n, Kept ls t n → ¬ n ≤ e) : rpO ls t e = none := by
  obtain ⟨a, b⟩ := rpO_specW g ht e
  cases z : rpO ls t e with
  | none => rfl
  | some q =>
    obtain ⟨a1, a2, a3⟩ := a q z
    exact absurd a2 (h q a1)
theorem old_lastW {ls : List (Option Int)} (g : GoodW ls) (t : Nat) (e : Int) (he : e ≤ t) : rpO ls t e = (((keptL ls t).filter fun n => decide (((n : Nat) : Int) ≤ e)).getLast?).map fun n => ((n : Nat) : Int) := by
  unfold keptL
  rw [List.filter_filter]
  rcases filter_last (fun n => (decide (((n : Nat) : Int) ≤ e) && keptB ls t ((n : Nat) : Int))) (t + 1) with ⟨a, b⟩ | ⟨m, a, b, c, d⟩
  · rw [a]
    refine rpO_noneW g (by omega) fun n hn hne => ?_
    obtain ⟨k, rfl⟩ := Int.eq_ofNat_of_zero_le hn.1
    have q := b k (by have := hn.2.1; omega)
    rw [decide_eq_true hne, Bool.true_and, (keptB_iff hn.1).mpr hn] at q
    cases q
  · rw [a]
    rw [Bool.and_eq_true, decide_eq_true_iff] at c
    refine rpO_someW g (by omega) ((keptB_iff (Int.natCast_nonneg _)).mp c.2) c.1 fun n hn hne => ?_
    obtain ⟨k, rfl⟩ := Int.eq_ofNat_of_zero_le hn.1
    have q := d k (by have := hn.2.1; omega) (by rw [decide_eq_true hne, Bool.true_and]; exact (keptB_iff hn.1).mpr hn)
    show ((k : Nat) : Int) ≤ ((m : Nat) : Int)
    omega
theorem genL_keptW {ls : List (Option Int)} (g : GoodW ls) (t : Nat) : genL (bandsOf (t : Int) 0 (t : Int) ls) = (keptL ls t).map fun n => ((n : Nat) : Int) := by
  have ht : (0 : Int) ≤ (t : Int) := Int.natCast_nonneg t
  have h0 : ∀ l, ls.head? = some l → bandLo (t : Int) l ≤ (t : Int) + 1 := fun l hl => (bandLo_le ht (fun v e => g.nn l (List.mem_of_mem_head? hl) v e)).2
  refine up_ext (genL_up ht ls 0 _ h0 g.asc) (up_keptL ls t) fun x => ?_
  rw [genL_mem, List.mem_map]
  constructor
  · intro h
    have h1 := inB_le ht ls 0 _ x h0 g.asc h
    have h2 := inB_nonneg ht ls 0 _ x (fun l hl v e => g.nn l hl v e) h
    obtain ⟨n, rfl⟩ := Int.eq_ofNat_of_zero_le h2
    exact ⟨n, keptL_mem.mpr ⟨by omega, (keptB_iff h2).mpr ((inB_iffW g ht h2 h1).mp h)⟩, rfl⟩
  · rintro ⟨n, hn, rfl⟩
    obtain ⟨q1, q2⟩ := keptL_mem.mp hn
    exact (inB_iffW g ht (Int.natCast_nonneg n) (by omega)).mpr ((keptB_iff (Int.natCast_nonneg n)).mp q2)
theorem cnt_keptW {ls : List (Option Int)} (g : GoodW ls) (t : Nat) (low high : Int) : cntB low high (t : Int) 0 (t : Int) ls = ((((keptL ls t).filter fun n => inR low high ((n : Nat) : Int)).length : Nat) : Int) := by
  rw [← cntB_filter, genL_keptW g, List.filter_map, List.length_map]
  rfl
theorem cnt_allW {ls : List (Option Int)} (g : GoodW ls) (t : Nat) : cntB 0 (t : Int) (t : Int) 0 (t : Int) ls = (((keptL ls t).length : Nat) : Int) := by
  rw [cnt_keptW g, List.filter_eq_self.mpr]
  intro n hn
  have := (keptL_mem.mp hn).1
  exact inR_iff.mpr ⟨by omega, by omega⟩
theorem dist_leW {ls : List (Option Int)} (g : GoodW ls) {a t : Int} (ha : 0 ≤ a) (ht : a ≤ t) {j : Nat} (h : idx 0 ls a = some j) : ∃ d, distO ls t a = some d ∧ 0 ≤ d ∧ d ≤ 2 ^ j - 1 ∧ d ≤ t - a := by
  obtain ⟨h1, h2, h3⟩ := idx_some h
  have hm := g.most
  have p2 := pow2_pos j
  have he : 0 ≤ t - a := by omega
  have m0 := Int.emod_nonneg (t - a) (show (2 : Int) ^ j ≠ 0 by omega)
  have m1 := Int.emod_lt_of_pos (t - a) p2
  have m2 := mult_self (m := t - a) p2
  have m3 := emod_le he p2
  have kp : Kept ls t (t - a - (t - a) % 2 ^ j) := by
    refine ⟨by omega, by omega, ?_⟩
    have r := (rk_dvd (by omega : 0 ≤ t - a - (t - a) % 2 ^ j) (by omega : j ≤ 1000)).mp m2
    exact leO_low (leO_trans h2 (lifeAt_leW g r)) (by omega)
  obtain ⟨s1, s2⟩ := rpO_specW g (by omega : 0 ≤ t) (t - a)
  cases e : rpO ls t (t - a) with
  | none => exact absurd (show t - a - (t - a) % 2 ^ j ≤ t - a by omega) (s2 e _ kp)
  | some p =>
    obtain ⟨k1, k2, k3⟩ := s1 p e
    have := k3 _ kp (by omega)
    have := k1.1
    exact ⟨t - a - p, by unfold distO; rw [e]; rfl, by omega, by omega, by omega⟩
theorem rp_lastW {ks : List (Option Int)} (g : GoodW ks) (t : Nat) (e : Int) (he : e ≤ t) : rpO ks t e = (xLast ks t e).map fun n => ((n : Nat) : Int) := old_lastW g t e he
theorem GoodW.ofF {ls : List (Option Int)} (p : 0 < ls.length) (m : ls.length ≤ 61) (up : ∀ i j, i ≤ j → leO (lifeAt ls i) (lifeAt ls j) = true) (nn : ∀ i v, lifeAt ls i = some v → 0 ≤ v) : GoodW ls :=
  ⟨p, m, fun i x y hx hy => by
    have z := up i (i + 1) (Nat.le_succ i)
    rw [lifeAt_lt hx, lifeAt_lt hy] at z
    exact z, fun l hl v e => by
    obtain ⟨i, hi⟩ := List.mem_iff_getElem?.mp hl
    exact nn i v (by rw [lifeAt_lt hi, e])⟩
theorem GoodW.at {ls : List (Option Int)} (g : GoodW ls) (i : Nat) : ∀ v, lifeAt ls i = some v → 0 ≤ v := g.nn _ (lifeAt_mem g.pos i)
theorem GoodW.short {ls : List (Option Int)} (g : GoodW ls) : GoodW (Rk.short ls) :=
  .ofF (short_len_pos g.pos) (Nat.le_trans (short_len_le ls) g.most) (fun i j h => by rw [lifeAt_short g.pos, lifeAt_short g.pos]; exact lifeAt_leW g h) fun i v e => by
    rw [lifeAt_short g.pos] at e
    exact g.at i v e
theorem GoodW.chg {ks rs : List (Option Int)} (a : GoodW ks) (b : GoodW rs) {u : Int} (hu : 0 ≤ u) : GoodW (Rk.short (chgL ks rs u)) := by
  have l := chgL_len ks rs u
  have p : 0 < (chgL ks rs u).length := by rw [l]; have := a.pos; omega
  refine .short (.ofF p (by rw [l]; have := a.most; have := b.most; omega) (fun i j h => ?_) fun i v e => ?_)
  · rw [lifeAt_chg a.pos b.pos, lifeAt_chg a.pos b.pos]
    exact leO_minO2 (lifeAt_leW b h) (leO_addO (lifeAt_leW a h))
  · rw [lifeAt_chg a.pos b.pos] at e
    cases ex : lifeAt rs i with
    | none =>
      cases ey : lifeAt ks i with
      | none => rw [ex, ey] at e; cases e
      | some y =>
        rw [ex, ey] at e
        have := a.at i y ey
        have : y + u = v := Option.some.inj e
        omega
    | some x =>
      have x0 := b.at i x ex
      cases ey : lifeAt ks i with
      | none =>
        rw [ex, ey] at e
        have : x = v := Option.some.inj e
        omega
      | some y =>
        have y0 := a.at i y ey
        rw [ex, ey] at e
        unfold minO at e
        split at e
        · have : x = v := Option.some.inj e
          omega
        · have : y + u = v := Option.some.inj e
          omega
end Rk
namespace Rk
open PySem PySem.Spec PyProof.Rows L2
/-! ### plans: lives that meet the steps of a wish one by one -/
/-- the greatest rank whose points lie close enough together -/
def wdN (d : Int) : Nat := Nat.log2 (d.toNat + 1)
theorem pow2_cast (j : Nat) : (2 : Int) ^ j = ((2 ^ j : Nat) : Int) := by
  rw [Int.natCast_pow]
  rfl
theorem le_wdN {d : Int} (h : 0 ≤ d) (j : Nat) : j ≤ wdN d ↔ (2 : Int) ^ j - 1 ≤ d := by
  unfold wdN
  rw [Nat.le_log2 (by omega), pow2_cast]
  omega
theorem wdN_le {d e : Int} (h0 : 0 ≤ d) (h : d ≤ e) : wdN d ≤ wdN e := (le_wdN (Int.le_trans h0 h) _).mpr (Int.le_trans ((le_wdN h0 _).mp (Nat.le_refl _)) h)
theorem wdN_59 {d : Int} (h0 : 0 ≤ d) (h : d ≤ 10 ^ 18) : wdN d ≤ 59 := by
  have z : wdN d < 60 := by
    refine Nat.lt_of_not_le fun c => ?_
    have := (le_wdN h0 60).mp c
    have e : (2 : Int) ^ 60 = 1152921504606846976 := by decide
    omega
  omega
theorem wdN_6 {d : Int} (h0 : 0 ≤ d) (h : d ≤ 63) : wdN d ≤ 6 := by
  have z : wdN d < 7 := by
    refine Nat.lt_of_not_le fun c => ?_
    have := (le_wdN h0 7).mp c
    have e : (2 : Int) ^ 7 = 128 := by decide
    omega
  omega
/-- a plan with one step more, met at the rank j -/
def plan1 (age : Int) (p : List Int) (j : Nat) : List Int := p.take j ++ List.replicate (j - p.length) (p.getLast?.getD 0) ++ [age + 2 ^ j]
def longL (age : Int) (W : Nat) (ps : List (List Int)) : List (List Int) := ps.flatMap fun p => (List.range' (p.length - 1) (W + 1 - (p.length - 1))).map (plan1 age p)
def plansF (ws : List (Int × Int)) (ps : List (List Int)) : List (List Int) := ws.foldl (fun ps s => longL s.1 (wdN s.2) ps) ps
theorem plan1_len (age : Int) (p : List Int) (j : Nat) : (plan1 age p j).length = j + 1 := by
  unfold plan1
  rw [List.length_append, List.length_append, List.length_take, List.length_replicate]
  simp only [List.length_cons, List.length_nil]
  omega
theorem plan1_last (age : Int) (p : List Int) (j : Nat) : (plan1 age p j).getLast? = some (age + 2 ^ j) := by
  unfold plan1
  rw [List.getLast?_append]
  rfl
theorem plan1_at (age : Int) (p : List Int) (j i : Nat) : (plan1 age p j)[i]? = if i < j then (if i < p.length then p[i]? else some (p.getLast?.getD 0)) else if i = j then some (age + 2 ^ j) else none := by
  unfold plan1
  have l1 : (p.take j).length = min j p.length := List.length_take
  by_cases h1 : i < j
  · rw [if_pos h1, List.getElem?_append_left (by rw [List.length_append, l1, List.length_replicate]; omega)]
    by_cases h2 : i < p.length
    · rw [if_pos h2, List.getElem?_append_left (by rw [l1]; omega), List.getElem?_take_of_lt h1]
    · rw [if_neg h2, List.getElem?_append_right (by rw [l1]; omega), List.getElem?_replicate, if_pos (by rw [l1]; omega)]
  · rw [if_neg h1, List.getElem?_append_right (by rw [List.length_append, l1, List.length_replicate]; omega), List.length_append, l1, List.length_replicate]
    by_cases h2 : i = j
    · rw [if_pos h2, show i - (min j p.length + (j - p.length)) = 0 by omega]
      rfl
    · rw [if_neg h2, List.getElem?_eq_none (by simp only [List.length_cons, List.length_nil]; omega)]
theorem mem_longL {age : Int} {W : Nat} {ps : List (List Int)} {q : List Int} : q ∈ longL age W ps ↔ ∃ p ∈ ps, ∃ j, p.length - 1 ≤ j ∧ j ≤ W ∧ q = plan1 age p j := by
  unfold longL
  rw [List.mem_flatMap]
  constructor
  · rintro ⟨p, hp, h⟩
    obtain ⟨j, hj, rfl⟩ := List.mem_map.mp h
    rw [List.mem_range'_1] at hj
    exact ⟨p, hp, j, by omega, by omega, rfl⟩
  · rintro ⟨p, hp, j, h1, h2, rfl⟩
    exact ⟨p, hp, List.mem_map.mpr ⟨j, by rw [List.mem_range'_1]; omega, rfl⟩⟩
theorem longL_len {age : Int} {W : Nat} : ∀ {ps : List (List Int)}, (longL age W ps).length ≤ ps.length * (W + 1)
  | [] => Nat.zero_le _
  | p :: ps => by
    have ih := longL_len (age := age) (W := W) (ps := ps)
    show ((List.range' (p.length - 1) (W + 1 - (p.length - 1))).map (plan1 age p) ++ longL age W ps).length ≤ _
    rw [List.length_append, List.length_map, List.length_range', List.length_cons, Nat.succ_mul]
    omega
/-- no life of a plan is greater than what f gives its rank -/
def Bel (p : List Int) (f : Nat → Option Int) : Prop := ∀ (i : Nat) (x : Int), p[i]? = some x → leO (some x) (f i) = true
/-- lives in order, from 0 -/
structure MonF (f : Nat → Option Int) : Prop where
  up : ∀ i j, i ≤ j → leO (f i) (f j) = true
  nn : ∀ i, leO (some 0) (f i) = true
theorem GoodW.mon {ls : List (Option Int)} (g : GoodW ls) : MonF (lifeAt ls) := ⟨fun _ _ h => lifeAt_leW g h, fun i => by
  cases e : lifeAt ls i with
  | none => rfl
  | some v => exact decide_eq_true (g.at i v e)⟩
theorem bel_plan1 {f : Nat → Option Int} {p : List Int} {age : Int} {j : Nat} (m : MonF f) (b : Bel p f) (hj : p.length - 1 ≤ j) (ha : leO (some (age + 2 ^ j)) (f j) = true) : Bel (plan1 age p j) f := by
  intro i x e
  rw [plan1_at] at e
  by_cases h1 : i < j
  · rw [if_pos h1] at e
    by_cases h2 : i < p.length
    · rw [if_pos h2] at e
      exact b i x e
    · rw [if_neg h2] at e
      have e' : p.getLast?.getD 0 = x := by injection e
      cases hl : p.getLast? with
      | none =>
        rw [hl] at e'
        rw [← e']
        exact m.nn i
      | some y =>
        rw [hl] at e'
        have e2 : y = x := e'
        rw [List.getLast?_eq_getElem?] at hl
        rw [← e2]
        exact leO_trans (b _ _ hl) (m.up _ _ (by omega))
  · rw [if_neg h1] at e
    by_cases h2 : i = j
    · rw [if_pos h2] at e
      have e' : age + 2 ^ j = x := by injection e
      rw [← e', h2]
      exact ha
    · rw [if_neg h2] at e
      cases e
/-- a rule's lives meet a step at some rank -/
def metF (f : Nat → Option Int) (s : Int × Int) : Prop := ∃ j, j ≤ wdN s.2 ∧ leO (some (s.1 + 2 ^ j)) (f j) = true
/-- ranks, none below the one ahead, at which the steps are met -/
theorem chain_ex {f : Nat → Option Int} : ∀ {ws : List (Int × Int)}, ws.Pairwise (fun p q => p.1 ≤ q.1) → (∀ s ∈ ws, metF f s) →
    ∃ js : List Nat, js.length = ws.length ∧ js.Pairwise (· ≤ ·) ∧ ∀ (i : Nat) (j : Nat) (s : Int × Int), js[i]? = some j → ws[i]? = some s → j ≤ wdN s.2 ∧ leO (some (s.1 + 2 ^ j)) (f j) = true
  | [], _, _ => ⟨[], rfl, .nil, fun i j s h => by simp at h⟩
  | s :: ws, hp, hm => by
    obtain ⟨p1, p2⟩ := List.pairwise_cons.mp hp
    obtain ⟨js, jl, jp, jh⟩ := chain_ex p2 fun x hx => hm x (List.mem_cons_of_mem _ hx)
    obtain ⟨J, J1, J2⟩ := hm s List.mem_cons_self
    cases js with
    | nil =>
      refine ⟨[J], congrArg (· + 1) jl, List.pairwise_singleton _ _, fun i j s' h1 h2 => ?_⟩
      cases i with
      | zero =>
        cases h1
        cases h2
        exact ⟨J1, J2⟩
      | succ i => simp at h1
    | cons k js =>
      have hw : 0 < ws.length := by rw [← jl]; exact Nat.succ_pos _
      obtain ⟨k1, k2⟩ := jh 0 k _ rfl (List.getElem?_eq_getElem hw)
      have ka := p1 _ (List.getElem_mem hw)
      refine ⟨min J k :: k :: js, congrArg (· + 1) jl, List.pairwise_cons.mpr ⟨fun x hx => ?_, jp⟩, fun i j s' h1 h2 => ?_⟩
      · rcases List.mem_cons.mp hx with rfl | hx
        · exact Nat.min_le_right _ _
        · exact Nat.le_trans (Nat.min_le_right _ _) ((List.pairwise_cons.mp jp).1 x hx)
      · cases i with
        | zero =>
          cases h1
          cases h2
          by_cases c : J ≤ k
          · rw [Nat.min_eq_left c]
            exact ⟨J1, J2⟩
          · rw [Nat.min_eq_right (by omega)]
            exact ⟨by omega, leO_low k2 (by omega)⟩
        | succ i => exact jh i j s' h1 h2
theorem plan_chain {f : Nat → Option Int} (m : MonF f) : ∀ {ws : List (Int × Int)} {js : List Nat} {ps : List (List Int)} {p : List Int}, js.length = ws.length → js.Pairwise (· ≤ ·) → (∀ (i : Nat) (j : Nat) (s : Int × Int), js[i]? = some j → ws[i]? = some s → j ≤ wdN s.2 ∧ leO (some (s.1 + 2 ^ j)) (f j) = true) →
    p ∈ ps → Bel p f → (∀ j, js.head? = some j → p.length - 1 ≤ j) → ∃ q ∈ plansF ws ps, Bel q f
  | [], _, ps, p, _, _, _, hp, hb, _ => ⟨p, hp, hb⟩
  | s :: ws, [], _, _, hl, _, _, _, _, _ => by cases hl
  | s :: ws, j :: js, ps, p, hl, hj, hh, hp, hb, hd => by
    obtain ⟨j1, j2⟩ := hh 0 j s rfl rfl
    have hd' := hd j rfl
    refine plan_chain m (ws := ws) (js := js) (ps := longL s.1 (wdN s.2) ps) (p := plan1 s.1 p j) (by simpa using hl) (List.pairwise_cons.mp hj).2 (fun i j' s' h1 h2 => hh (i + 1) j' s' h1 h2) (mem_longL.mpr ⟨p, hp, j, hd', j1, rfl⟩) (bel_plan1 m hb hd' j2) fun j' hj' => ?_
    rw [plan1_len]
    have := (List.pairwise_cons.mp hj).1 j' (List.mem_of_mem_head? hj')
    omega
/-- each rule that meets a wish is above a plan -/
theorem plan_below {f : Nat → Option Int} (m : MonF f) {ws : List (Int × Int)} (hp : ws.Pairwise fun p q => p.1 ≤ q.1) (hm : ∀ s ∈ ws, metF f s) : ∃ q ∈ plansF ws [[]], Bel q f := by
  obtain ⟨js, h1, h2, h3⟩ := chain_ex hp hm
  exact plan_chain m h1 h2 h3 List.mem_cons_self (fun i x e => by simp at e) fun j _ => Nat.zero_le _
/-- what a plan is: behind the step s -/
structure PlanOk (done : List (Int × Int)) (p : List Int) : Prop where
  asc : p.Pairwise (· ≤ ·)
  nn : ∀ x ∈ p, 0 ≤ x
  met : ∀ s ∈ done, ∃ j, j ≤ wdN s.2 ∧ ∃ x, p[j]? = some x ∧ s.1 + 2 ^ j ≤ x
  last : ∀ x, p.getLast? = some x → ∃ s, done.getLast? = some s ∧ x = s.1 + 2 ^ (p.length - 1) ∧ p.length - 1 ≤ wdN s.2
  len : done ≠ [] → 0 < p.length
theorem asc_last : ∀ {p : List Int} {x y : Int}, p.Pairwise (· ≤ ·) → p.getLast? = some x → y ∈ p → y ≤ x := fun {p} {x} {y} h hl hy => by
  have e := hl
  rw [List.getLast?_eq_some_iff] at e
  obtain ⟨l, rfl⟩ := e
  rcases List.mem_append.mp hy with z | z
  · exact (List.pairwise_append.mp h).2.2 y z x (List.mem_singleton.mpr rfl)
  · rw [List.mem_singleton.mp z]
    exact Int.le_refl _
theorem PlanOk.step {done : List (Int × Int)} {p : List Int} {s : Int × Int} {j : Nat} (h : PlanOk done p) (h0 : 0 ≤ s.1) (ha : ∀ t ∈ done, t.1 ≤ s.1) (h1 : p.length - 1 ≤ j) (h2 : j ≤ wdN s.2) : PlanOk (done ++ [s]) (plan1 s.1 p j) := by
  have pj := pow2_pos j
  have lst : p.getLast?.getD 0 ≤ s.1 + 2 ^ j ∧ 0 ≤ p.getLast?.getD 0 ∧ ∀ y ∈ p, y ≤ p.getLast?.getD 0 := by
    cases e : p.getLast? with
    | none => 
      have e' := List.getLast?_eq_none_iff.mp e
      exact ⟨by show (0 : Int) ≤ _; omega, Int.le_refl _, fun y hy => by rw [e'] at hy; cases hy⟩
    | some x =>
      obtain ⟨t, ht, ex, _⟩ := h.last x e
      have := ha t (List.mem_of_getLast? ht)
      have m := pow2_le (show p.length - 1 ≤ j from h1)
      exact ⟨by show x ≤ _; omega, h.nn x (List.mem_of_getLast? e), fun y hy => asc_last h.asc e hy⟩
  obtain ⟨l1, l2, l3⟩ := lst
  refine ⟨?_, fun x hx => ?_, fun t ht => ?_, fun x hx => ?_, fun _ => by rw [plan1_len]; exact Nat.succ_pos _⟩
  · unfold plan1
    rw [List.pairwise_append, List.pairwise_append]
    refine ⟨⟨h.asc.sublist (List.take_sublist _ _), List.pairwise_replicate.mpr (.inr (Int.le_refl _)), fun x hx y hy => ?_⟩, List.pairwise_singleton _ _, fun x hx y hy => ?_⟩
    · rw [List.eq_of_mem_replicate hy]
      exact l3 x (List.mem_of_mem_take hx)
    · rw [List.mem_singleton.mp hy]
      rcases List.mem_append.mp hx with z | z
      · exact Int.le_trans (l3 x (List.mem_of_mem_take z)) l1
      · rw [List.eq_of_mem_replicate z]
        exact l1
  · unfold plan1 at hx
    rcases List.mem_append.mp hx with z | z
    · rcases List.mem_append.mp z with z | z
      · exact h.nn x (List.mem_of_mem_take z)
      · rw [List.eq_of_mem_replicate z]
        exact l2
    · rw [List.mem_singleton.mp z]
      omega
  · rcases List.mem_append.mp ht with z | z
    · obtain ⟨i, i1, x, ex, hx⟩ := h.met t z
      have il := (List.getElem?_eq_some_iff.mp ex).1
      by_cases c : i < j
      · exact ⟨i, i1, x, by rw [plan1_at, if_pos c, if_pos il]; exact ex, hx⟩
      · have e : i = j := by omega
        refine ⟨i, i1, s.1 + 2 ^ j, by rw [plan1_at, if_neg c, if_pos e], ?_⟩
        have := ha t z
        rw [e]
        omega
    · rw [List.mem_singleton.mp z]
      exact ⟨j, h2, s.1 + 2 ^ j, by rw [plan1_at, if_neg (Nat.lt_irrefl j), if_pos rfl], Int.le_refl _⟩
  · rw [plan1_last] at hx
    refine ⟨s, by rw [List.getLast?_append]; rfl, ?_, by rw [plan1_len]; exact h2⟩
    rw [plan1_len]
    exact (Option.some.inj hx).symm
theorem plansF_ok : ∀ {ws done : List (Int × Int)} {ps : List (List Int)}, (done ++ ws).Pairwise (fun p q => p.1 ≤ q.1) → (∀ s ∈ ws, 0 ≤ s.1) → (∀ p ∈ ps, PlanOk done p) → ∀ q ∈ plansF ws ps, PlanOk (done ++ ws) q
  | [], done, ps, _, _, h, q, hq => by rw [List.append_nil]; exact h q hq
  | s :: ws, done, ps, hp, h0, h, q, hq => by
    have e : done ++ s :: ws = (done ++ [s]) ++ ws := by rw [List.append_assoc]; rfl
    rw [e]
    refine plansF_ok (ws := ws) (done := done ++ [s]) (ps := longL s.1 (wdN s.2) ps) (by rw [← e]; exact hp) (fun x hx => h0 x (List.mem_cons_of_mem _ hx)) (fun r hr => ?_) q hq
    obtain ⟨p, hp', j, h1, h2, rfl⟩ := mem_longL.mp hr
    exact (h p hp').step (h0 s List.mem_cons_self) (fun t ht => (List.pairwise_append.mp hp).2.2 t ht s List.mem_cons_self) h1 h2
theorem planOk_nil : PlanOk [] [] := ⟨.nil, (fun _ h => nomatch h), (fun _ h => nomatch h), (fun x h => nomatch h), fun h => absurd rfl h⟩
theorem plans_ok {ws : List (Int × Int)} (hp : ws.Pairwise fun p q => p.1 ≤ q.1) (h0 : ∀ s ∈ ws, 0 ≤ s.1) : ∀ q ∈ plansF ws [[]], PlanOk ws q := fun q hq => plansF_ok (done := []) hp h0 (fun p h => by rw [List.mem_singleton.mp h]; exact planOk_nil) q hq
end Rk
namespace Rk
open PySem PySem.Spec PyProof.Rows L2
/-! ### no two plans are the same rule; least plans -/
/-- a rank at which a plan's life is another one than ahead -/
def jmp (p : List Int) (j : Nat) : Prop := ∃ x, p[j]? = some x ∧ (if j = 0 then x ≠ 0 else p[j - 1]? ≠ some x)
/-- what a plan is behind its last step s: jumps tell ages, none but the last that of s -/
structure PlanJ (done : List (Int × Int)) (p : List Int) : Prop where
  len : done ≠ [] → 0 < p.length
  last : ∀ s, done.getLast? = some s → jmp p (p.length - 1) ∧ p.getLast? = some (s.1 + 2 ^ (p.length - 1))
  jmp : ∀ s, done.getLast? = some s → ∀ j x, j + 1 < p.length → Rk.jmp p j → p[j]? = some x → x - 2 ^ j < s.1
  top : ∀ s, done.getLast? = some s → ∀ j x, j + 1 < p.length → p[j]? = some x → x < s.1 + 2 ^ (p.length - 1)
  nil : done = [] → p = []
theorem planJ_nil : PlanJ [] [] := ⟨fun h => absurd rfl h, fun s h => (by cases h), fun s h => (by cases h), fun s h => (by cases h), fun _ => rfl⟩
theorem jmp_pre {p q : List Int} {j n : Nat} (h : ∀ i, i < n → p[i]? = q[i]?) (hj : j < n) : jmp p j ↔ jmp q j := by
  unfold jmp
  rw [h j hj]
  by_cases c : j = 0
  · simp only [c, if_true]
  · simp only [c, if_false]
    rw [h (j - 1) (by omega)]
theorem plan1_pre (age : Int) (p : List Int) {j i : Nat} (h1 : i < j) (h2 : i < p.length) : (plan1 age p j)[i]? = p[i]? := by
  rw [plan1_at, if_pos h1, if_pos h2]
theorem PlanJ.step {done : List (Int × Int)} {p : List Int} {s : Int × Int} {j : Nat} (h : PlanJ done p) (h0 : 0 ≤ s.1) (ha : ∀ t ∈ done, t.1 < s.1) (h1 : p.length - 1 ≤ j) : PlanJ (done ++ [s]) (plan1 s.1 p j) := by
  have pj := pow2_pos j
  have ll : (done ++ [s]).getLast? = some s := by rw [List.getLast?_append]; rfl
  have lp : (plan1 s.1 p j).length - 1 = j := by rw [plan1_len]; rfl
  -- what stands ahead of the last place
  have ahead : ∀ i x, i < j → (plan1 s.1 p j)[i]? = some x → x < s.1 + 2 ^ j := fun i x hi hx => by
    rw [plan1_at, if_pos hi] at hx
    cases hd : done.getLast? with
    | none =>
      have hp := h.nil (List.getLast?_eq_none_iff.mp hd)
      rw [hp] at hx
      rw [if_neg (by simp)] at hx
      have : x = 0 := (Option.some.inj hx).symm
      omega
    | some t =>
      have hn : done ≠ [] := fun z => by rw [z] at hd; cases hd
      have l0 := h.len hn
      have at_ := ha t (List.mem_of_getLast? hd)
      have m := pow2_le (show p.length - 1 ≤ j from h1)
      obtain ⟨_, lt⟩ := h.last t hd
      by_cases c : i < p.length
      · rw [if_pos c] at hx
        by_cases c2 : i + 1 < p.length
        · have := h.top t hd i x c2 hx
          omega
        · rw [List.getLast?_eq_getElem?, show p.length - 1 = i by omega, hx] at lt
          have := Option.some.inj lt
          have m2 := pow2_le (show i ≤ j by omega)
          omega
      · rw [if_neg c, lt] at hx
        have : t.1 + 2 ^ (p.length - 1) = x := Option.some.inj hx
        omega
  have atj : (plan1 s.1 p j)[j]? = some (s.1 + 2 ^ j) := by rw [plan1_at, if_neg (Nat.lt_irrefl j), if_pos rfl]
  refine ⟨fun _ => by rw [plan1_len]; exact Nat.succ_pos _, fun s' hs' => ?_, fun s' hs' i x hi hj hx => ?_, fun s' hs' i x hi hx => ?_, fun z => by simp at z⟩
  · rw [ll] at hs'
    cases hs'
    rw [lp]
    refine ⟨⟨_, atj, ?_⟩, plan1_last _ _ _⟩
    by_cases c : j = 0
    · rw [if_pos c]
      omega
    · rw [if_neg c]
      intro z
      have := ahead (j - 1) _ (by omega) z
      omega
  · rw [ll] at hs'
    cases hs'
    rw [plan1_len] at hi
    have hij : i < j := by omega
    cases hd : done.getLast? with
    | none =>
      have hp := h.nil (List.getLast?_eq_none_iff.mp hd)
      obtain ⟨y, hy, hz⟩ := hj
      rw [hx] at hy
      cases hy
      have z0 : ∀ i, i < j → (plan1 s.1 p j)[i]? = some 0 := fun i hi => by
        rw [plan1_at, if_pos hi, hp]
        rw [if_neg (by simp)]
        rfl
      rw [z0 i hij] at hx
      cases hx
      by_cases c : i = 0
      · rw [if_pos c] at hz
        exact absurd rfl hz
      · rw [if_neg c] at hz
        exact absurd (z0 (i - 1) (by omega)) hz
    | some t =>
      have hn : done ≠ [] := fun z => by rw [z] at hd; cases hd
      have l0 := h.len hn
      have at_ := ha t (List.mem_of_getLast? hd)
      obtain ⟨_, lt⟩ := h.last t hd
      by_cases c : i < p.length
      · have pre : ∀ k, k < i + 1 → (plan1 s.1 p j)[k]? = p[k]? := fun k hk => plan1_pre _ _ (by omega) (by omega)
        have hx2 := hx
        rw [pre i (by omega)] at hx2
        by_cases c2 : i + 1 < p.length
        · have := h.jmp t hd i x c2 ((jmp_pre pre (by omega)).mp hj) hx2
          omega
        · rw [List.getLast?_eq_getElem?, show p.length - 1 = i by omega, hx2] at lt
          have := Option.some.inj lt
          omega
      · -- behind the old plan nothing jumps
        obtain ⟨y, hy, hz⟩ := hj
        rw [if_neg (by omega)] at hz
        rw [plan1_at, if_pos hij, if_neg c] at hy
        exfalso
        refine hz ?_
        rw [plan1_at, if_pos (by omega)]
        by_cases c3 : i - 1 < p.length
        · rw [if_pos c3, ← hy, lt, show i - 1 = p.length - 1 by omega, ← List.getLast?_eq_getElem?, lt]
          rfl
        · rw [if_neg c3, ← hy]
  · rw [ll] at hs'
    cases hs'
    rw [plan1_len] at hi
    rw [lp]
    exact ahead i x (by omega) hx
/-- a plan and the rank tell what was ahead -/
theorem plan1_inj {done : List (Int × Int)} {p q : List Int} {s : Int × Int} {j : Nat} (hp : PlanJ done p) (hq : PlanJ done q) (h1 : p.length - 1 ≤ j) (h2 : q.length - 1 ≤ j) (e : plan1 s.1 p j = plan1 s.1 q j) : p = q := by
  cases hd : done.getLast? with
  | none =>
    have z := List.getLast?_eq_none_iff.mp hd
    rw [hp.nil z, hq.nil z]
  | some t =>
    have hn : done ≠ [] := fun z => by rw [z] at hd; cases hd
    -- the shorter one's last place is no last place of the longer one
    have main : ∀ {p q : List Int}, PlanJ done p → PlanJ done q → p.length - 1 ≤ j → q.length - 1 ≤ j → plan1 s.1 p j = plan1 s.1 q j → ¬ p.length < q.length := fun {p q} hp hq h1 h2 e lt => by
      have l0 := hp.len hn
      obtain ⟨⟨x, hx, hz⟩, hl⟩ := hp.last t hd
      have hx' : x = t.1 + 2 ^ (p.length - 1) := by
        rw [List.getLast?_eq_getElem?, hx] at hl
        exact Option.some.inj hl
      have pre : ∀ i, i < p.length → p[i]? = q[i]? := fun i hi => by
        have a : (plan1 s.1 p j)[i]? = (plan1 s.1 q j)[i]? := by rw [e]
        rw [plan1_pre _ _ (by omega) hi, plan1_pre _ _ (by omega) (by omega)] at a
        exact a
      have jq : jmp q (p.length - 1) := (jmp_pre pre (by omega)).mp ⟨x, hx, hz⟩
      have := hq.jmp t hd (p.length - 1) x (by omega) jq (by rw [← pre _ (by omega)]; exact hx)
      omega
    have le := main hp hq h1 h2 e
    have ge := main hq hp h2 h1 e.symm
    have el : p.length = q.length := by omega
    have l0 := hp.len hn
    refine List.ext_getElem? fun i => ?_
    by_cases c : i < p.length
    · by_cases c2 : i < j
      · have a : (plan1 s.1 p j)[i]? = (plan1 s.1 q j)[i]? := by rw [e]
        rw [plan1_pre _ _ c2 c, plan1_pre _ _ c2 (by omega)] at a
        exact a
      · have e1 := (hp.last t hd).2
        have e2 := (hq.last t hd).2
        rw [List.getLast?_eq_getElem?] at e1 e2
        rw [show i = p.length - 1 by omega, e1]
        rw [el, e2]
    · rw [List.getElem?_eq_none (by omega), List.getElem?_eq_none (by omega)]
theorem longL_nodup {done : List (Int × Int)} {s : Int × Int} {W : Nat} : ∀ {ps : List (List Int)}, ps.Nodup → (∀ p ∈ ps, PlanJ done p) → (longL s.1 W ps).Nodup
  | [], _, _ => List.nodup_nil
  | p :: ps, hn, hj => by
    obtain ⟨n1, n2⟩ := List.nodup_cons.mp hn
    have ih := longL_nodup (s := s) (W := W) n2 fun q hq => hj q (List.mem_cons_of_mem _ hq)
    show ((List.range' (p.length - 1) (W + 1 - (p.length - 1))).map (plan1 s.1 p) ++ longL s.1 W ps).Nodup
    rw [List.nodup_append]
    refine ⟨?_, ih, fun x hx y hy e => ?_⟩
    · refine List.pairwise_map.mpr ((List.nodup_range' (s := p.length - 1) (n := W + 1 - (p.length - 1))).imp fun {i k} h e => h ?_)
      have := congrArg List.length e
      rw [plan1_len, plan1_len] at this
      omega
    · obtain ⟨i, hi, rfl⟩ := List.mem_map.mp hx
      rw [List.mem_range'_1] at hi
      obtain ⟨q, hq, k, k1, k2, e2⟩ := mem_longL.mp hy
      rw [← e] at e2
      have ek : i = k := by
        have := congrArg List.length e2
        rw [plan1_len, plan1_len] at this
        omega
      subst ek
      have := plan1_inj (hj p List.mem_cons_self) (hj q (List.mem_cons_of_mem _ hq)) (by omega) k1 e2
      rw [this] at n1
      exact n1 hq
theorem plansF_j : ∀ {ws done : List (Int × Int)} {ps : List (List Int)}, (done ++ ws).Pairwise (fun p q => p.1 < q.1) → (∀ s ∈ ws, 0 ≤ s.1) → ps.Nodup → (∀ p ∈ ps, PlanJ done p) → (plansF ws ps).Nodup ∧ ∀ q ∈ plansF ws ps, PlanJ (done ++ ws) q
  | [], done, ps, _, _, hn, h => ⟨hn, fun q hq => by rw [List.append_nil]; exact h q hq⟩
  | s :: ws, done, ps, hp, h0, hn, h => by
    have e : done ++ s :: ws = (done ++ [s]) ++ ws := by rw [List.append_assoc]; rfl
    rw [e]
    refine plansF_j (ws := ws) (done := done ++ [s]) (ps := longL s.1 (wdN s.2) ps) (by rw [← e]; exact hp) (fun x hx => h0 x (List.mem_cons_of_mem _ hx)) (longL_nodup hn h) fun r hr => ?_
    obtain ⟨p, hp', j, h1, h2, rfl⟩ := mem_longL.mp hr
    exact (h p hp').step (h0 s List.mem_cons_self) (fun t ht => (List.pairwise_append.mp hp).2.2 t ht s List.mem_cons_self) h1
theorem plans_j {ws : List (Int × Int)} (hp : ws.Pairwise fun p q => p.1 < q.1) (h0 : ∀ s ∈ ws, 0 ≤ s.1) : (plansF ws [[]]).Nodup ∧ ∀ q ∈ plansF ws [[]], PlanJ ws q :=
  plansF_j (done := []) hp h0 (by simp) fun p h => by rw [List.mem_singleton.mp h]; exact planJ_nil
end Rk
namespace Rk
open PySem PySem.Spec PyProof.Rows L2
/-! ### meeting a wish, and its least rules -/
theorem due_le_iff {w a : Int} : ∀ (ls : List (Option Int)) (i : Nat), leO (due i ls a) (some w) = true ↔ ∃ k l, ls[k]? = some l ∧ 2 ^ (i + k) - 1 ≤ w ∧ leO (some (a + 2 ^ (i + k))) l = true
  | [], i => by
    constructor
    · intro h
      cases h
    · rintro ⟨k, l, h, _⟩
      simp at h
  | l :: r, i => by
    have ed : due i (l :: r) a = if leO (some (a + 2 ^ i)) l = true then some (2 ^ i - 1) else due (i + 1) r a := rfl
    rw [ed]
    by_cases c : leO (some (a + 2 ^ i)) l = true
    · rw [if_pos c]
      constructor
      · intro h
        exact ⟨0, l, rfl, of_decide_eq_true h, c⟩
      · rintro ⟨k, x, _, h2, _⟩
        have := pow2_le (show i ≤ i + k by omega)
        exact decide_eq_true (by omega)
    · rw [if_neg c, due_le_iff r (i + 1)]
      constructor
      · rintro ⟨k, x, h1, h2, h3⟩
        exact ⟨k + 1, x, h1, by rw [show i + (k + 1) = i + 1 + k by omega]; exact h2, by rw [show i + (k + 1) = i + 1 + k by omega]; exact h3⟩
      · rintro ⟨k, x, h1, h2, h3⟩
        cases k with
        | zero =>
          cases h1
          exact absurd h3 c
        | succ k => exact ⟨k, x, h1, by rw [show i + 1 + k = i + (k + 1) by omega]; exact h2, by rw [show i + 1 + k = i + (k + 1) by omega]; exact h3⟩
theorem okAt_met {ls : List (Option Int)} (h0 : 0 < ls.length) {s : Int × Int} (h1 : 0 ≤ s.2) : okAt ls s = true ↔ metF (lifeAt ls) s := by
  unfold okAt metF
  rw [due_le_iff]
  constructor
  · rintro ⟨k, l, h2, h3, h4⟩
    rw [Nat.zero_add] at h3 h4
    exact ⟨k, (le_wdN h1 k).mpr h3, by rw [lifeAt_lt h2]; exact h4⟩
  · rintro ⟨j, h2, h3⟩
    have h2' := (le_wdN h1 j).mp h2
    by_cases c : j < ls.length
    · have e := List.getElem?_eq_getElem c
      rw [lifeAt_lt e] at h3
      exact ⟨j, _, e, by rw [Nat.zero_add]; exact h2', by rw [Nat.zero_add]; exact h3⟩
    · have c2 : ls.length - 1 < ls.length := by omega
      have e := List.getElem?_eq_getElem c2
      rw [lifeAt_const h0 j (by omega), lifeAt_lt e] at h3
      have m := pow2_le (show ls.length - 1 ≤ j by omega)
      exact ⟨ls.length - 1, _, e, by rw [Nat.zero_add]; omega, by rw [Nat.zero_add]; exact leO_low h3 (by omega)⟩
/-- none of one's lives is greater -/
def leL (ls ms : List (Option Int)) : Bool := (List.range (max ls.length ms.length)).all fun i => leO (lifeAt ls i) (lifeAt ms i)
theorem leL_iff {ls ms : List (Option Int)} (h0 : 0 < ls.length) (h1 : 0 < ms.length) : leL ls ms = true ↔ ∀ i, leO (lifeAt ls i) (lifeAt ms i) = true := by
  unfold leL
  rw [List.all_eq_true]
  constructor
  · intro h i
    by_cases c : i < max ls.length ms.length
    · exact h i (List.mem_range.mpr c)
    · have e := h (max ls.length ms.length - 1) (List.mem_range.mpr (by omega))
      rw [lifeAt_far h0 (Nat.le_max_left _ ms.length) (by omega), lifeAt_far h1 (Nat.le_max_right ls.length _) (by omega)]
      exact e
  · intro h i _
    exact h i
def shp (p : List Int) : List Int := p.take (cutN (p.map some) p.length)
def belP (q p : List Int) : Bool := leL (short (q.map some)) (short (p.map some))
def onlyP (ps : List (List Int)) (p : List Int) : Bool := decide ((ps.filter fun q => belP q p).length = 1)
theorem belP_iff {q p : List Int} (hq : 0 < q.length) (hp : 0 < p.length) : belP q p = true ↔ ∀ i, leO (lifeAt (q.map some) i) (lifeAt (p.map some) i) = true := by
  have a : 0 < (q.map some).length := by rw [List.length_map]; exact hq
  have b : 0 < (p.map some).length := by rw [List.length_map]; exact hp
  unfold belP
  rw [leL_iff (short_len_pos a) (short_len_pos b)]
  simp only [lifeAt_short a, lifeAt_short b]
theorem leO_anti {x y : Option Int} (a : leO x y = true) (b : leO y x = true) : x = y := by
  cases x with
  | none => cases y with
    | none => rfl
    | some y => cases a
  | some x => cases y with
    | none => cases b
    | some y =>
      have a' : x ≤ y := of_decide_eq_true a
      have b' : y ≤ x := of_decide_eq_true b
      rw [show x = y by omega]
theorem short_fullP {xs : List (Option Int)} (h : ∀ n, xs.length = n + 2 → xs[n + 1]? ≠ xs[n]?) : short xs = xs := by
  unfold short
  have c : cutN xs xs.length = xs.length := by
    cases e : xs.length with
    | zero => rfl
    | succ m =>
      cases m with
      | zero => rfl
      | succ n => exact cutN_ne (h n e)
  rw [c, List.take_length]
section
variable {ws : List (Int × Int)} (wo : WOk ws)
include wo
theorem WOk.ne : ws ≠ [] := fun z => by have := wo.pos; rw [z] at this; exact absurd this (by decide)
theorem WOk.lst : ∃ s, ws.getLast? = some s := by
  cases e : ws.getLast? with
  | none => exact absurd (List.getLast?_eq_none_iff.mp e) wo.ne
  | some s => exact ⟨s, rfl⟩
theorem WOk.okP : ∀ q ∈ plansF ws [[]], PlanOk ws q := plans_ok (wo.asc.imp fun h => Int.le_of_lt h.1) fun s hs => (wo.bd s hs).1
theorem WOk.plj : (plansF ws [[]]).Nodup ∧ ∀ q ∈ plansF ws [[]], PlanJ ws q := plans_j (wo.asc.imp fun h => h.1) fun s hs => (wo.bd s hs).1
theorem WOk.posP {q : List Int} (h : q ∈ plansF ws [[]]) : 0 < q.length := (wo.okP q h).len wo.ne
theorem WOk.shortP {q : List Int} (h : q ∈ plansF ws [[]]) : short (q.map some) = q.map some := by
  obtain ⟨s, hs⟩ := wo.lst
  have pj := wo.plj.2 q h
  obtain ⟨⟨x, hx, hz⟩, _⟩ := pj.last s hs
  refine short_fullP fun n hn e => ?_
  rw [List.length_map] at hn
  rw [show q.length - 1 = n + 1 by omega] at hx hz
  rw [if_neg (by omega), Nat.add_sub_cancel] at hz
  rw [List.getElem?_map, List.getElem?_map, hx] at e
  cases y : q[n]? with
  | none => rw [y] at e; cases e
  | some y' =>
    rw [y] at e
    have : x = y' := by
      have := Option.some.inj e
      exact Option.some.inj this
    rw [y, this] at hz
    exact hz rfl
theorem WOk.shpP {q : List Int} (h : q ∈ plansF ws [[]]) : shp q = q := by
  have e := wo.shortP h
  have e2 : (shp q).map some = q.map some := by
    unfold shp
    rw [← short_ints]
    exact e
  exact List.map_inj_right (fun _ _ h => Option.some.inj h) |>.mp e2
theorem WOk.eqP {p q : List Int} (hp : p ∈ plansF ws [[]]) (hq : q ∈ plansF ws [[]]) (h : ∀ i, lifeAt (p.map some) i = lifeAt (q.map some) i) : p = q := by
  have a := short_ext (xs := p.map some) (ys := q.map some) (by rw [List.length_map]; exact wo.posP hp) (by rw [List.length_map]; exact wo.posP hq) h
  rw [wo.shortP hp, wo.shortP hq] at a
  exact List.map_inj_right (fun _ _ h => Option.some.inj h) |>.mp a
theorem WOk.only {p : List Int} (hp : p ∈ plansF ws [[]]) : onlyP (plansF ws [[]]) p = true ↔ ∀ q ∈ plansF ws [[]], belP q p = true → q = p := by
  have refl : belP p p = true := (belP_iff (wo.posP hp) (wo.posP hp)).mpr fun i => leO_refl _
  have nd := wo.plj.1
  unfold onlyP
  rw [decide_eq_true_iff]
  have mem : p ∈ (plansF ws [[]]).filter fun q => belP q p := List.mem_filter.mpr ⟨hp, refl⟩
  constructor
  · intro h q hq hb
    obtain ⟨x, hx⟩ := List.length_eq_one_iff.mp h
    have a : q ∈ (plansF ws [[]]).filter fun q => belP q p := List.mem_filter.mpr ⟨hq, hb⟩
    rw [hx] at mem a
    rw [List.mem_singleton.mp mem, List.mem_singleton.mp a]
  · intro h
    have nf : ((plansF ws [[]]).filter fun q => belP q p).Nodup := nd.filter _
    have all : ∀ q ∈ (plansF ws [[]]).filter (fun q => belP q p), q = p := fun q hq => h q (List.mem_filter.mp hq).1 (List.mem_filter.mp hq).2
    generalize (plansF ws [[]]).filter (fun q => belP q p) = L at mem nf all
    match L, mem, nf, all with
    | [x], _, _, _ => rfl
    | x :: y :: r, _, nf, all =>
      have e1 := all x List.mem_cons_self
      have e2 := all y (List.mem_cons_of_mem _ List.mem_cons_self)
      rw [e1, e2] at nf
      exact absurd nf (by simp)
theorem WOk.lenP {q : List Int} (hq : q ∈ plansF ws [[]]) : q.length ≤ 60 := by
  obtain ⟨s, hs⟩ := wo.lst
  cases e : q.getLast? with
  | none =>
    have := List.getLast?_eq_none_iff.mp e
    rw [this]
    exact Nat.zero_le _
  | some x =>
    obtain ⟨t, ht, _, h⟩ := (wo.okP q hq).last x e
    have b := wo.bd t (List.mem_of_getLast? ht)
    have := wdN_59 b.2.2.1 b.2.2.2
    omega
theorem WOk.goodP {q : List Int} (hq : q ∈ plansF ws [[]]) : GoodW (q.map some) := by
  have ok := wo.okP q hq
  refine ⟨by rw [List.length_map]; exact wo.posP hq, by rw [List.length_map]; have := wo.lenP hq; omega, fun i x y hx hy => ?_, fun l hl v e => ?_⟩
  · rw [List.getElem?_map] at hx hy
    obtain ⟨a, ha, rfl⟩ := Option.map_eq_some_iff.mp hx
    obtain ⟨b, hb, rfl⟩ := Option.map_eq_some_iff.mp hy
    obtain ⟨h1, e1⟩ := List.getElem?_eq_some_iff.mp ha
    obtain ⟨h2, e2⟩ := List.getElem?_eq_some_iff.mp hb
    have := List.pairwise_iff_getElem.mp ok.asc i (i + 1) h1 h2 (by omega)
    exact decide_eq_true (by rw [← e1, ← e2]; exact this)
  · obtain ⟨x, hx, rfl⟩ := List.mem_map.mp hl
    cases e
    exact ok.nn _ hx
theorem WOk.metP {q : List Int} (hq : q ∈ plansF ws [[]]) : ∀ s ∈ ws, metF (lifeAt (q.map some)) s := fun s hs => by
  obtain ⟨j, h1, x, h2, h3⟩ := (wo.okP q hq).met s hs
  exact ⟨j, h1, by rw [lifeAt_lt (by rw [List.getElem?_map, h2]; rfl)]; exact decide_eq_true h3⟩
theorem bel_all {q : List Int} {f : Nat → Option Int} (m : MonF f) (h0 : 0 < q.length) (b : Bel q f) : ∀ i, leO (lifeAt (q.map some) i) (f i) = true := fun i => by
  by_cases c : i < q.length
  · have e := List.getElem?_eq_getElem c
    rw [lifeAt_lt (by rw [List.getElem?_map, e]; rfl)]
    exact b i _ e
  · have e := List.getElem?_eq_getElem (show q.length - 1 < q.length by omega)
    rw [lifeAt_const (by rw [List.length_map]; exact h0) i (by rw [List.length_map]; omega), List.length_map, lifeAt_lt (by rw [List.getElem?_map, e]; rfl)]
    exact leO_trans (b _ _ e) (m.up _ _ (by omega))
/-- each rule that meets a wish is above a least one of it -/
theorem WOk.leastBelow {f : Nat → Option Int} (m : MonF f) (hm : ∀ s ∈ ws, metF f s) : ∃ q ∈ plansF ws [[]], onlyP (plansF ws [[]]) q = true ∧ ∀ i, leO (lifeAt (q.map some) i) (f i) = true := by
  obtain ⟨q0, hq0, b0⟩ := plan_below m (wo.asc.imp fun h => Int.le_of_lt h.1) hm
  have step : ∀ n q, q ∈ plansF ws [[]] → ((plansF ws [[]]).filter fun r => belP r q).length ≤ n → (∀ i, leO (lifeAt (q.map some) i) (f i) = true) → ∃ r ∈ plansF ws [[]], onlyP (plansF ws [[]]) r = true ∧ ∀ i, leO (lifeAt (r.map some) i) (f i) = true := fun n => by
    induction n with
    | zero =>
      intro q hq hl _
      have refl : belP q q = true := (belP_iff (wo.posP hq) (wo.posP hq)).mpr fun i => leO_refl _
      have mem : q ∈ (plansF ws [[]]).filter fun r => belP r q := List.mem_filter.mpr ⟨hq, refl⟩
      have := List.length_pos_of_mem mem
      omega
    | succ n ih =>
      intro q hq hl hf
      by_cases c : onlyP (plansF ws [[]]) q = true
      · exact ⟨q, hq, c, hf⟩
      · have nc : ¬ ∀ r ∈ plansF ws [[]], belP r q = true → r = q := fun z => c ((wo.only hq).mpr z)
        obtain ⟨r, hr⟩ := Classical.not_forall.mp nc
        obtain ⟨hr1, hr⟩ := Classical.not_imp.mp hr
        obtain ⟨hr2, hr3⟩ := Classical.not_imp.mp hr
        have lrq := (belP_iff (wo.posP hr1) (wo.posP hq)).mp hr2
        have nq : ¬ belP q r = true := fun z => hr3 (wo.eqP hr1 hq fun i => leO_anti (lrq i) ((belP_iff (wo.posP hq) (wo.posP hr1)).mp z i))
        refine ih r hr1 ?_ fun i => leO_trans (lrq i) (hf i)
        have sub : ((plansF ws [[]]).filter fun x => belP x r).length < ((plansF ws [[]]).filter fun x => belP x q).length := by
          have e : ((plansF ws [[]]).filter fun x => belP x r) = (((plansF ws [[]]).filter fun x => belP x q).filter fun x => belP x r) := by
            rw [List.filter_filter]
            refine List.filter_congr fun x hx => ?_
            cases h : belP x r with
            | false => simp
            | true =>
              have : belP x q = true := (belP_iff (wo.posP hx) (wo.posP hq)).mpr fun i => leO_trans ((belP_iff (wo.posP hx) (wo.posP hr1)).mp h i) (lrq i)
              rw [this]
              rfl
          rw [e]
          have refl : belP q q = true := (belP_iff (wo.posP hq) (wo.posP hq)).mpr fun i => leO_refl _
          exact List.length_filter_lt_length_iff_exists.mpr ⟨q, List.mem_filter.mpr ⟨hq, refl⟩, nq⟩
        omega
  exact step _ q0 hq0 (Nat.le_refl _) (bel_all wo m (wo.posP hq0) b0)
end
/-! ### in order -/
def insL (found : List (List Int)) (row : List Int) : List (List Int) := found.take ((found.filter fun o => HT.lexLt o row).length) ++ [row] ++ found.drop ((found.filter fun o => HT.lexLt o row).length)
def ascL (rows : List (List Int)) : List (List Int) := rows.foldl insL []
theorem insL_perm (F : List (List Int)) (r : List Int) : (insL F r).Perm (r :: F) := by
  unfold insL
  generalize (F.filter fun o => HT.lexLt o r).length = n
  rw [List.append_assoc]
  refine (List.perm_middle (a := r) (l₁ := F.take n) (l₂ := F.drop n)).trans ?_
  rw [List.take_append_drop]
theorem ascL_perm (rows : List (List Int)) : (ascL rows).Perm rows := by
  have g : ∀ (rows F : List (List Int)), (rows.foldl insL F).Perm (F ++ rows) := fun rows => by
    induction rows with
    | nil => intro F; rw [List.append_nil]; exact .refl _
    | cons r rows ih =>
      intro F
      rw [List.foldl_cons]
      refine (ih (insL F r)).trans ?_
      refine ((insL_perm F r).append_right rows).trans ?_
      rw [List.cons_append]
      exact List.perm_middle.symm
  exact g rows []
def leastL (ws : List (Int × Int)) : List (List Int) := ascL (((plansF ws [[]]).filter (onlyP (plansF ws [[]]))).map shp)
theorem mem_leastL {ws : List (Int × Int)} (wo : WOk ws) {r : List Int} : r ∈ leastL ws ↔ r ∈ plansF ws [[]] ∧ onlyP (plansF ws [[]]) r = true := by
  unfold leastL
  rw [(ascL_perm _).mem_iff, List.mem_map]
  constructor
  · rintro ⟨q, hq, e⟩
    obtain ⟨h1, h2⟩ := List.mem_filter.mp hq
    rw [wo.shpP h1] at e
    rw [← e]
    exact ⟨h1, h2⟩
  · rintro ⟨h1, h2⟩
    exact ⟨r, List.mem_filter.mpr ⟨h1, h2⟩, wo.shpP h1⟩
end Rk
namespace Rk
open PySem PySem.Spec PyProof.Rows L2
/-! ### the cheapest plans of each length are enough -/
/-- what a plan costs in 2 ** z ticks -/
def costP (z : Nat) (p : List Int) : Int := pall (getI p) z (p.length - 1)
theorem psum_diff {g h : Nat → Int} {z m : Nat} : ∀ k, m ≤ k → (∀ i, m ≤ i → i < k → g i = h i) → psum g z k - psum h z k = psum g z m - psum h z m
  | 0, hm, _ => by
    obtain rfl : m = 0 := by omega
    rfl
  | k + 1, hm, e => by
    by_cases c : m = k + 1
    · rw [c]
    · have ih := psum_diff (g := g) (h := h) (z := z) (m := m) k (by omega) fun i a b => e i a (by omega)
      have ek := e k (by omega) (by omega)
      show psum g z k + g k * 2 ^ (z - 1 - k) - (psum h z k + h k * 2 ^ (z - 1 - k)) = _
      rw [ek]
      omega
theorem getI_some {p : List Int} {i : Nat} {x : Int} (h : p[i]? = some x) : getI p i = x := getI_at h
theorem cost_diff {z : Nat} {p q : List Int} (hl : p.length = q.length) (he : p.getLast? = q.getLast?) : costP z p - costP z q = psum (getI p) z (p.length - 1) - psum (getI q) z (p.length - 1) := by
  unfold costP pall
  rw [← hl]
  have e : getI p (p.length - 1) = getI q (p.length - 1) := by
    rw [List.getLast?_eq_getElem?, List.getLast?_eq_getElem?, ← hl] at he
    by_cases c : 0 < p.length
    · have a := List.getElem?_eq_getElem (show p.length - 1 < p.length by omega)
      rw [getI_some a, getI_some (he ▸ a)]
    · have a : p = [] := List.length_eq_zero_iff.mp (by omega)
      have b : q = [] := List.length_eq_zero_iff.mp (by omega)
      rw [a, b]
  rw [e]
  omega
theorem cost_step {z j : Nat} {s : Int} {p q : List Int} (h0 : 0 < p.length) (hl : p.length = q.length) (he : p.getLast? = q.getLast?) (h : costP z p ≤ costP z q) (hj : p.length - 1 ≤ j) : costP z (plan1 s p j) ≤ costP z (plan1 s q j) := by
  have a := cost_diff (z := z) hl he
  have b := cost_diff (z := z) (p := plan1 s p j) (q := plan1 s q j) (by rw [plan1_len, plan1_len]) (by rw [plan1_last, plan1_last])
  rw [plan1_len, Nat.add_sub_cancel] at b
  have pre : ∀ {r : List Int} i, i < r.length - 1 → r.length - 1 ≤ j → getI (plan1 s r j) i = getI r i := fun {r} i hi hr => by
    have x := List.getElem?_eq_getElem (show i < r.length by omega)
    rw [getI_some x, getI_some (x := r[i]) (by rw [plan1_pre _ _ (by omega) (by omega)]; exact x)]
  have lp := List.getElem?_eq_getElem (show p.length - 1 < p.length by omega)
  have he' := he
  rw [List.getLast?_eq_getElem?, List.getLast?_eq_getElem?, ← hl, lp] at he'
  have c := psum_diff (g := getI (plan1 s p j)) (h := getI (plan1 s q j)) (z := z) (m := p.length - 1) j hj fun i h1 h2 => by
    have ep : (plan1 s p j)[i]? = (plan1 s q j)[i]? := by
      rw [plan1_at, plan1_at, if_pos h2, if_pos h2, ← hl, he]
      by_cases c : i < p.length
      · rw [if_pos c, if_pos c, show i = p.length - 1 by omega, lp, ← he']
      · rw [if_neg c, if_neg c]
    have x := List.getElem?_eq_getElem (show i < (plan1 s p j).length by rw [plan1_len]; omega)
    rw [getI_some x, getI_some (ep ▸ x)]
  have ps : ∀ {g h : Nat → Int} k, (∀ i, i < k → g i = h i) → psum g z k = psum h z k := fun {g h} k e => by
    have d := psum_diff (g := g) (h := h) (z := z) (m := 0) k (Nat.zero_le _) fun i _ hi => e i hi
    have d0 : psum g z 0 - psum h z 0 = 0 := by show (0 : Int) - 0 = 0; rfl
    omega
  have c1 := ps (g := getI (plan1 s p j)) (h := getI p) (p.length - 1) fun i hi => pre i hi hj
  have c2 := ps (g := getI (plan1 s q j)) (h := getI q) (p.length - 1) fun i hi => pre i (by omega) (by omega)
  omega
/-- plans that are enough to look for the cheapest one -/
structure CheapR (z : Nat) (done : List (Int × Int)) (ps : List (List Int)) : Prop where
  sub : ∀ p ∈ ps, p ∈ plansF done [[]]
  dom : ∀ q ∈ plansF done [[]], ∃ p ∈ ps, p.length = q.length ∧ (done ≠ [] → costP z p ≤ costP z q)
theorem cheapR_nil (z : Nat) : CheapR z [] [[]] := ⟨fun p h => h, fun q hq => ⟨q, hq, rfl, fun h => absurd rfl h⟩⟩
theorem plansF_snoc (done : List (Int × Int)) (s : Int × Int) (ps : List (List Int)) : plansF (done ++ [s]) ps = longL s.1 (wdN s.2) (plansF done ps) := by
  unfold plansF
  rw [List.foldl_append]
  rfl
theorem CheapR.step {z : Nat} {done : List (Int × Int)} {ps ps2 : List (List Int)} {s : Int × Int} (hp : done.Pairwise fun p q => p.1 < q.1) (h0 : ∀ s ∈ done, 0 ≤ s.1) (h : CheapR z done ps)
    (sub : ∀ p ∈ ps2, p ∈ longL s.1 (wdN s.2) ps) (dom : ∀ q ∈ longL s.1 (wdN s.2) ps, ∃ p ∈ ps2, p.length = q.length ∧ costP z p ≤ costP z q) : CheapR z (done ++ [s]) ps2 := by
  rw [show CheapR z (done ++ [s]) ps2 ↔ CheapR z (done ++ [s]) ps2 from Iff.rfl]
  refine ⟨fun p hp2 => ?_, fun q hq => ?_⟩
  · rw [plansF_snoc]
    obtain ⟨r, hr, j, h1, h2, e⟩ := mem_longL.mp (sub p hp2)
    exact mem_longL.mpr ⟨r, h.sub r hr, j, h1, h2, e⟩
  · rw [plansF_snoc] at hq
    obtain ⟨q0, hq0, j, h1, h2, rfl⟩ := mem_longL.mp hq
    obtain ⟨p0, hp0, el, hc⟩ := h.dom q0 hq0
    have pj := (plans_j hp h0).2
    obtain ⟨p, hp1, e1, c1⟩ := dom (plan1 s.1 p0 j) (mem_longL.mpr ⟨p0, hp0, j, by omega, h2, rfl⟩)
    refine ⟨p, hp1, by rw [e1, plan1_len, plan1_len], fun _ => Int.le_trans c1 ?_⟩
    by_cases hd : done = []
    · subst hd
      have a : q0 = [] := List.mem_singleton.mp hq0
      have b : p0 = [] := List.length_eq_zero_iff.mp (by rw [el, a]; rfl)
      rw [a, b]
      exact Int.le_refl _
    · obtain ⟨t, ht⟩ : ∃ t, done.getLast? = some t := by
        cases e : done.getLast? with
        | none => exact absurd (List.getLast?_eq_none_iff.mp e) hd
        | some t => exact ⟨t, rfl⟩
      have ja := pj q0 hq0
      have jb := pj p0 (h.sub p0 hp0)
      exact cost_step (jb.len hd) el (by rw [(jb.last t ht).2, (ja.last t ht).2, el]) (hc hd) (by omega)
theorem nodup_ltn : ∀ (n : Nat) (l : List Nat), l.Nodup → (∀ x ∈ l, x < n) → l.length ≤ n
  | 0, l, _, h => by
    cases l with
    | nil => exact Nat.le_refl _
    | cons x r => exact absurd (h x List.mem_cons_self) (Nat.not_lt_zero _)
  | n + 1, l, hn, h => by
    by_cases c : n ∈ l
    · have a := nodup_ltn n (l.erase n) (hn.erase n) fun x hx => by
        have := (hn.mem_erase_iff).mp hx
        have := h x this.2
        omega
      rw [List.length_erase_of_mem c] at a
      omega
    · have a := nodup_ltn n l hn fun x hx => by
        have := h x hx
        have : x ≠ n := fun z => c (z ▸ hx)
        omega
      omega
theorem plan_bd {ws : List (Int × Int)} {z : Nat} (asc : ws.Pairwise fun p q => p.1 ≤ q.1) (bd : ∀ s ∈ ws, 0 ≤ s.1 ∧ s.1 ≤ 10 ^ 18) (hz : ∀ s ∈ ws, wdN s.2 ≤ z) (z59 : z ≤ 59) : ∀ q ∈ plansF ws [[]], q.length - 1 ≤ z ∧ ∀ y ∈ q, 0 ≤ y ∧ y ≤ 10 ^ 20 := fun q hq => by
  have ok := plans_ok asc (fun s hs => (bd s hs).1) q hq
  cases e : q.getLast? with
  | none =>
    rw [List.getLast?_eq_none_iff.mp e]
    exact ⟨Nat.zero_le _, fun y hy => nomatch hy⟩
  | some x =>
    obtain ⟨t, ht, ex, h⟩ := ok.last x e
    have tm := List.mem_of_getLast? ht
    have b := bd t tm
    have hl := hz t tm
    have m := pow2_le (show q.length - 1 ≤ 59 by omega)
    have e59 : (2 : Int) ^ 59 = 576460752303423488 := by decide
    exact ⟨by omega, fun y hy => ⟨ok.nn y hy, by have := asc_last ok.asc e hy; omega⟩⟩
theorem valV_found {kvs : List (Key × V)} {k : Key} {v : V} (h : valV kvs k = some v) : ∃ j : Nat, kvs[j]? = some (k, v) := by
  unfold valV at h
  obtain ⟨kv, hf, e⟩ := Option.map_eq_some_iff.mp h
  have a := List.find?_some hf
  have b : kv.1 = k := of_decide_eq_true a
  obtain ⟨j, hj⟩ := List.mem_iff_getElem?.mp (List.mem_of_find?_eq_some hf)
  exact ⟨j, by rw [hj, ← b, ← e]⟩
theorem valV_not {kvs : List (Key × V)} {k : Key} (h : valV kvs k = none) : ∀ kv ∈ kvs, kv.1 ≠ k := fun kv hk e => by
  unfold valV at h
  have a := List.find?_eq_none.mp (Option.map_eq_none_iff.mp h) kv hk
  exact a (decide_eq_true e)
theorem putK_new {kvs : List (Key × V)} {k : Key} {v : V} (h : ∀ kv ∈ kvs, kv.1 ≠ k) : putK kvs k v = kvs ++ [(k, v)] := by
  unfold putK
  rw [if_neg]
  intro z
  obtain ⟨kv, hk, e⟩ := List.any_eq_true.mp z
  exact h kv hk (of_decide_eq_true e)
end Rk
namespace Rk
open PySem PySem.Spec PyProof.Rows L2
/-! ### promises as wishes; the cheapest rule beside any rule that meets a wish -/
theorem prom_facts : ∀ (is : List Int) (i : Nat) (r : Int), (∀ p ∈ prom i (some r) (is.map some), ∃ a, p.1 = some a ∧ r < a ∧ 2 ^ i - 1 ≤ p.2) ∧ (prom i (some r) (is.map some)).Pairwise fun p q => (p.1.getD 0 < q.1.getD 0) ∧ p.2 < q.2
  | [], _, _ => ⟨(fun p h => nomatch h), List.Pairwise.nil⟩
  | x :: is, i, r => by
    have e : prom i (some r) ((x :: is).map some) = if leO (offO i (some x)) (some r) = true then prom (i + 1) (some r) (is.map some) else (offO i (some x), 2 ^ i - 1) :: prom (i + 1) (offO i (some x)) (is.map some) := rfl
    have p2 : (2 : Int) ^ (i + 1) = 2 ^ i * 2 := Int.pow_succ _ _
    have p0 := pow2_pos i
    rw [e]
    by_cases c : leO (offO i (some x)) (some r) = true
    · rw [if_pos c]
      obtain ⟨a, b⟩ := prom_facts is (i + 1) r
      exact ⟨fun p hp => let ⟨y, h1, h2, h3⟩ := a p hp; ⟨y, h1, h2, by omega⟩, b⟩
    · rw [if_neg c]
      have eo : offO i (some x) = some (x - 2 ^ i) := rfl
      rw [eo] at c ⊢
      have c' : ¬ x - 2 ^ i ≤ r := fun z => c (decide_eq_true z)
      obtain ⟨a, b⟩ := prom_facts is (i + 1) (x - 2 ^ i)
      refine ⟨fun p hp => ?_, List.pairwise_cons.mpr ⟨fun q hq => ?_, b⟩⟩
      · rcases List.mem_cons.mp hp with rfl | hp
        · exact ⟨_, rfl, by omega, Int.le_refl _⟩
        · obtain ⟨y, h1, h2, h3⟩ := a p hp
          exact ⟨y, h1, by omega, by omega⟩
      · obtain ⟨y, h1, h2, h3⟩ := a q hq
        rw [h1]
        exact ⟨h2, by show 2 ^ i - 1 < q.2; omega⟩
/-- what a rule that ends nowhere open promises -/
def wpL (is : List Int) : List (Int × Int) := (prom 0 (some (-1)) (is.map some)).map fun p => (p.1.getD 0, p.2)
theorem wpL_prom (is : List Int) : (wpL is).map (fun p => (some p.1, p.2)) = prom 0 (some (-1)) (is.map some) := by
  unfold wpL
  rw [List.map_map]
  refine (List.map_congr_left fun p hp => ?_).trans (List.map_id _)
  obtain ⟨a, h, _⟩ := (prom_facts is 0 (-1)).1 p hp
  show (some (p.1.getD 0), p.2) = p
  rw [h]
  show (some a, p.2) = p
  rw [← h]
theorem wpL_len (is : List Int) : (wpL is).length ≤ is.length := by
  unfold wpL
  rw [List.length_map]
  have := prom_len (is.map some) 0 (some (-1))
  rwa [List.length_map] at this
theorem wpL_mem {is : List Int} {p : Int × Int} (h : p ∈ wpL is) : (some p.1, p.2) ∈ prom 0 (some (-1)) (is.map some) := by
  rw [← wpL_prom]
  exact List.mem_map.mpr ⟨p, h, rfl⟩
theorem due_pow : ∀ (ls : List (Option Int)) (i : Nat) (a g : Int), due i ls a = some g → ∃ j, j < i + ls.length ∧ g = 2 ^ j - 1
  | [], _, _, _, h => by cases h
  | l :: r, i, a, g, h => by
    have e : due i (l :: r) a = if leO (some (a + 2 ^ i)) l = true then some (2 ^ i - 1) else due (i + 1) r a := rfl
    rw [e] at h
    by_cases c : leO (some (a + 2 ^ i)) l = true
    · rw [if_pos c] at h
      exact ⟨i, by rw [List.length_cons]; omega, (Option.some.inj h).symm⟩
    · rw [if_neg c] at h
      obtain ⟨j, h1, h2⟩ := due_pow r (i + 1) a g h
      exact ⟨j, by rw [List.length_cons]; omega, h2⟩
structure StepF (ls : List (Option Int)) (p : Int × Int) : Prop where
  ok : okAt ls p = true
  far : okAt ls (p.1 + 1, p.2) = false
  less : okAt ls (p.1, p.2 - 1) = false
theorem wpL_step {is : List Int} (hl : is.length ≤ 61) {p : Int × Int} (h : p ∈ wpL is) : StepF (is.map some) p := by
  obtain ⟨h1, _, h3, _⟩ := prom_due (is.map some) 0 (some (-1)) p.1 p.2 (by intro z; cases z) (wpL_mem h)
  refine ⟨?_, ?_, ?_⟩
  · unfold okAt
    rw [h1]
    exact decide_eq_true (Int.le_refl _)
  · unfold okAt
    have m := due_mono (a := p.1) (b := p.1 + 1) (by omega) (is.map some) 0 (by rw [List.length_map]; omega)
    show leO (due 0 (is.map some) (p.1 + 1)) (some p.2) = false
    cases e : due 0 (is.map some) (p.1 + 1) with
    | none => rfl
    | some g =>
      rw [h1, e] at m
      rw [e] at h3
      have m' : p.2 ≤ g := m
      have : g ≠ p.2 := fun z => h3 (by rw [z])
      exact decide_eq_false (by omega)
  · unfold okAt
    show leO (due 0 (is.map some) p.1) (some (p.2 - 1)) = false
    rw [h1]
    exact decide_eq_false (by omega)
theorem wpL_wok {is : List Int} (hl : is.length ≤ 12) (hb : ∀ y ∈ is, 0 ≤ y ∧ y ≤ 10 ^ 18) (hn : wpL is ≠ []) : WOk (wpL is) := by
  obtain ⟨f1, f2⟩ := prom_facts is 0 (-1)
  refine ⟨fun p hp => ?_, ?_, List.length_pos_iff.mpr hn, by have := wpL_len is; omega⟩
  · have m := wpL_mem hp
    obtain ⟨a, h1, h2, h3⟩ := f1 _ m
    have ea : p.1 = a := Option.some.inj h1
    obtain ⟨d1, _, _, _⟩ := prom_due (is.map some) 0 (some (-1)) p.1 p.2 (by intro z; cases z) m
    have ok := (wpL_step (by omega) hp).ok
    obtain ⟨j, j1, j2⟩ := due_pow _ _ _ _ d1
    rw [List.length_map] at j1
    have pj := pow2_le (show j ≤ 12 by omega)
    have p0 := pow2_pos j
    -- the age is below some life
    obtain ⟨k, l, k1, k2, k3⟩ := (due_le_iff (w := p.2) (a := p.1) (is.map some) 0).mp ok
    rw [List.getElem?_map] at k1
    obtain ⟨y, hy, ey⟩ := Option.map_eq_some_iff.mp k1
    rw [← ey] at k3
    have k3' : p.1 + 2 ^ (0 + k) ≤ y := of_decide_eq_true k3
    have yb := hb y (List.mem_of_getElem? hy)
    have pk := pow2_pos (0 + k)
    have e12 : (2 : Int) ^ 12 = 4096 := by decide
    exact ⟨by omega, by omega, by omega, by omega⟩
  · unfold wpL
    exact List.pairwise_map.mpr f2
theorem wpL_all {is : List Int} (hl : is.length ≤ 61) : (wpL is).all (okAt (is.map some)) = true := List.all_eq_true.mpr fun p hp => (wpL_step hl hp).ok
/-! #### averages -/
def extI (is : List Int) (i : Nat) : Int := getI is (min i (is.length - 1))
theorem ext_pall {is : List Int} : ∀ d, pall (extI is) (is.length - 1 + d) (is.length - 1 + d) = pall (getI is) (is.length - 1) (is.length - 1) * 2 ^ d
  | 0 => by
    rw [Nat.add_zero, Int.pow_zero, Int.mul_one]
    exact pall_congr fun j hj => by unfold extI; rw [Nat.min_eq_left hj]
  | d + 1 => by
    have h := pall_same (g := extI is) (k := is.length - 1 + d) (by unfold extI; rw [Nat.min_eq_right (by omega), Nat.min_eq_right (by omega)])
    rw [show is.length - 1 + (d + 1) = is.length - 1 + d + 1 by omega, h, ext_pall d, Int.pow_succ, Int.mul_comm 2, Int.mul_assoc]
theorem cost_is {z : Nat} {p : List Int} : ∀ d, costP (p.length - 1 + d) p = pall (getI p) (p.length - 1) (p.length - 1) * 2 ^ d
  | 0 => by
    rw [Int.pow_zero, Int.mul_one]
    rfl
  | d + 1 => by
    have h := pall_wide (g := getI p) (z := p.length - 1 + d) (k := p.length - 1) (by omega)
    have ih := cost_is (z := z) (p := p) d
    unfold costP at ih ⊢
    rw [show p.length - 1 + (d + 1) = p.length - 1 + d + 1 by omega, h, ih, Int.pow_succ, Int.mul_comm 2, Int.mul_assoc]
theorem lifeAt_ext {is : List Int} (h : 0 < is.length) (i : Nat) : lifeAt (is.map some) i = some (extI is i) := by
  have m : min i (is.length - 1) < is.length := by omega
  have e := List.getElem?_eq_getElem m
  have e2 : lifeAt (is.map some) (min i (is.length - 1)) = some (getI is (min i (is.length - 1))) := by
    rw [lifeAt_lt (by rw [List.getElem?_map, e]; rfl), getI_some e]
  have h0 : 0 < (is.map some).length := by rw [List.length_map]; exact h
  unfold extI
  rw [← e2]
  by_cases c : i ≤ is.length - 1
  · rw [Nat.min_eq_left c]
  · rw [Nat.min_eq_right (by omega), lifeAt_const h0 i (by rw [List.length_map]; omega), List.length_map]
theorem mul_pow_le {a b : Int} {d : Nat} (h : a ≤ b) : a * 2 ^ d ≤ b * 2 ^ d := Int.mul_le_mul_of_nonneg_right h (Int.le_of_lt (pow2_pos d))
/-- lives nowhere greater have no greater average -/
theorem ext_le {p q : List Int} (hp : 0 < p.length) (hq : 0 < q.length) (h : ∀ i, leO (lifeAt (p.map some) i) (lifeAt (q.map some) i) = true) : pall (getI p) (p.length - 1) (p.length - 1) * 2 ^ (q.length - 1) ≤ pall (getI q) (q.length - 1) (q.length - 1) * 2 ^ (p.length - 1) := by
  have m := pall_mono (g := extI p) (h := extI q) (z := p.length - 1 + (q.length - 1)) (k := p.length - 1 + (q.length - 1)) fun j _ => by
    have := h j
    rw [lifeAt_ext hp, lifeAt_ext hq] at this
    exact of_decide_eq_true this
  rw [ext_pall] at m
  rw [show p.length - 1 + (q.length - 1) = q.length - 1 + (p.length - 1) by omega, ext_pall] at m
  exact m
theorem le_of_mulpow {a b : Int} {d : Nat} (h : a * 2 ^ d ≤ b * 2 ^ d) : a ≤ b := Int.le_of_mul_le_mul_right h (pow2_pos d)
/-- what costs less in 2 ** z ticks has the lesser average -/
theorem cost_avg {z : Nat} {p q : List Int} (hp : p.length - 1 ≤ z) (hq : q.length - 1 ≤ z) (h : costP z p ≤ costP z q) : pall (getI p) (p.length - 1) (p.length - 1) * 2 ^ (q.length - 1) ≤ pall (getI q) (q.length - 1) (q.length - 1) * 2 ^ (p.length - 1) := by
  obtain ⟨d, rfl⟩ : ∃ d, z = p.length - 1 + d := ⟨z - (p.length - 1), by omega⟩
  have a := cost_is (z := 0) (p := p) d
  obtain ⟨e, he⟩ : ∃ e, p.length - 1 + d = q.length - 1 + e := ⟨p.length - 1 + d - (q.length - 1), by omega⟩
  have b := cost_is (z := 0) (p := q) e
  rw [← he] at b
  rw [a, b] at h
  -- both by 2 ** (both last ranks)
  refine le_of_mulpow (d := d) ?_
  have h2 := mul_pow_le (d := q.length - 1) h
  have e1 : pall (getI p) (p.length - 1) (p.length - 1) * 2 ^ (q.length - 1) * 2 ^ d = pall (getI p) (p.length - 1) (p.length - 1) * 2 ^ d * 2 ^ (q.length - 1) := by
    rw [Int.mul_assoc, Int.mul_assoc, Int.mul_comm (2 ^ (q.length - 1))]
  have e2 : pall (getI q) (q.length - 1) (q.length - 1) * 2 ^ (p.length - 1) * 2 ^ d = pall (getI q) (q.length - 1) (q.length - 1) * 2 ^ e * 2 ^ (q.length - 1) := by
    rw [Int.mul_assoc, Int.mul_assoc, ← Int.pow_add, ← Int.pow_add, he, Nat.add_comm]
  rw [e1, e2]
  exact h2
/-- the cheapest plan beside any rule that meets the wish -/
theorem cheap_le {ws : List (Int × Int)} (wo : WOk ws) {l : Int × Int} (hl : ws.getLast? = some l) {p : List Int} (hp : p ∈ plansF ws [[]]) (hm : ∀ q ∈ plansF ws [[]], costP (wdN l.2) p ≤ costP (wdN l.2) q) {is : List Int} (h0 : 0 < is.length) (g : GoodW (is.map some)) (ok : ws.all (okAt (is.map some)) = true) :
    pall (getI p) (p.length - 1) (p.length - 1) * 2 ^ (is.length - 1) ≤ pall (getI is) (is.length - 1) (is.length - 1) * 2 ^ (p.length - 1) := by
  obtain ⟨q, hq, b⟩ := plan_below g.mon (wo.asc.imp fun h => Int.le_of_lt h.1) fun s hs => (okAt_met g.pos (wo.bd s hs).2.2.1).mp (List.all_eq_true.mp ok s hs)
  have bl := bel_all wo g.mon (wo.posP hq) b
  have w1 : ∀ r ∈ plansF ws [[]], r.length - 1 ≤ wdN l.2 := fun r hr => by
    have pj := (wo.plj.2 r hr).last l hl
    cases e : r.getLast? with
    | none => rw [List.getLast?_eq_none_iff.mp e]; exact Nat.zero_le _
    | some x =>
      obtain ⟨t, ht, _, h⟩ := (wo.okP r hr).last x e
      rw [hl] at ht
      rw [Option.some.inj ht]
      exact h
  have a := cost_avg (w1 p hp) (w1 q hq) (hm q hq)
  have c := ext_le (wo.posP hq) h0 bl
  -- through the plan below
  refine le_of_mulpow (d := q.length - 1) ?_
  have a2 := mul_pow_le (d := is.length - 1) a
  have c2 := mul_pow_le (d := p.length - 1) c
  have e1 : pall (getI p) (p.length - 1) (p.length - 1) * 2 ^ (is.length - 1) * 2 ^ (q.length - 1) = pall (getI p) (p.length - 1) (p.length - 1) * 2 ^ (q.length - 1) * 2 ^ (is.length - 1) := by
    rw [Int.mul_assoc, Int.mul_assoc, Int.mul_comm (2 ^ (is.length - 1))]
  have e2 : pall (getI q) (q.length - 1) (q.length - 1) * 2 ^ (p.length - 1) * 2 ^ (is.length - 1) = pall (getI q) (q.length - 1) (q.length - 1) * 2 ^ (is.length - 1) * 2 ^ (p.length - 1) := by
    rw [Int.mul_assoc, Int.mul_assoc, Int.mul_comm (2 ^ (p.length - 1))]
  have e3 : pall (getI is) (is.length - 1) (is.length - 1) * 2 ^ (p.length - 1) * 2 ^ (q.length - 1) = pall (getI is) (is.length - 1) (is.length - 1) * 2 ^ (q.length - 1) * 2 ^ (p.length - 1) := by
    rw [Int.mul_assoc, Int.mul_assoc, Int.mul_comm (2 ^ (p.length - 1))]
  rw [e1, e3]
  rw [e2] at a2
  exact Int.le_trans a2 c2
/-! #### worst distances -/
theorem due_far2 (u a : Int) : ∀ (ls : List (Option Int)) (i : Nat), due i (ls.map (addO u)) (a + u) = due i ls a
  | [], _ => rfl
  | l :: r, i => by
    have e : due i (l :: r) a = if leO (some (a + 2 ^ i)) l = true then some (2 ^ i - 1) else due (i + 1) r a := rfl
    have e2 : due i ((l :: r).map (addO u)) (a + u) = if leO (some (a + u + 2 ^ i)) (addO u l) = true then some (2 ^ i - 1) else due (i + 1) (r.map (addO u)) (a + u) := rfl
    rw [e, e2, due_far2 u a r (i + 1)]
    have c : leO (some (a + u + 2 ^ i)) (addO u l) = leO (some (a + 2 ^ i)) l := by
      cases l with
      | none => rfl
      | some x =>
        show decide (a + u + 2 ^ i ≤ x + u) = decide (a + 2 ^ i ≤ x)
        rw [decide_eq_decide]
        omega
    rw [c]
theorem wid_below {ls ms : List (Option Int)} (h0 : 0 < ls.length) (h1 : 0 < ms.length) (hl : ms.length ≤ 62) (h : ∀ i, leO (lifeAt ls i) (lifeAt ms i) = true) (a : Int) : wid (due 0 ms a) ≤ wid (due 0 ls a) := by
  cases e : due 0 ls a with
  | none => exact (due_big (a := a) ms 0 (by omega)).2
  | some w =>
    obtain ⟨j, _, ej⟩ := due_pow _ _ _ _ e
    have p0 := pow2_pos j
    have ok : okAt ls (a, w) = true := by
      unfold okAt
      rw [e]
      exact decide_eq_true (Int.le_refl _)
    obtain ⟨i, i1, i2⟩ := (okAt_met h0 (s := (a, w)) (by show 0 ≤ w; omega)).mp ok
    have ok2 := (okAt_met h1 (s := (a, w)) (by show 0 ≤ w; omega)).mpr ⟨i, i1, leO_trans i2 (h i)⟩
    unfold okAt at ok2
    cases f : due 0 ms a with
    | none => rw [f] at ok2; cases ok2
    | some g =>
      rw [f] at ok2
      exact of_decide_eq_true ok2
theorem due_none_of {is : List Int} (h : wpL is = []) : due 0 (is.map some) 0 = none := by
  have e := wpL_prom is
  rw [h] at e
  cases d : due 0 (is.map some) 0 with
  | none => rfl
  | some g =>
    have q := rch_due (w := max g 0) (a := 0) (is.map some) 0 (some (-1)) (by show (1 : Int) - 1 ≤ _; omega)
    rw [← e, d] at q
    have l : leO (some g) (some (max g 0)) = true := decide_eq_true (by omega)
    rw [l, Bool.or_true] at q
    cases q
theorem t_of_pr {H : Hp} : ∀ {xs : List V} {ws : List (Int × Int)}, PrAt H xs (ws.map fun p => (some p.1, p.2)) → TAt H xs (ws.map wV)
  | [], [], _ => trivial
  | _ :: _, _ :: _, h => ⟨h.1, t_of_pr h.2⟩
  | [], _ :: _, h => h.elim
  | _ :: _, [], h => h.elim
end Rk
namespace Rk
open PySem PySem.Spec PyProof.Rows L2
/-! ### comprehensions of which each value stands for something (values may be new objects but lists, some items may be left out) -/
/-- what is kept of all but the lists -/
def ButL (H H' : Hp) : Prop := ∀ b o, H b = some o → (∀ zs, o ≠ .lst zs) → H' b = some o
theorem Same.butL {H H' : Hp} (s : Same H H') : ButL H H' := fun b o e _ => s b o e
theorem ButL.trans {H H' H2 : Hp} (a : ButL H H') (b : ButL H' H2) : ButL H H2 := fun c o e n => b c o (a c o e n) n
theorem butL_upd {H : Hp} {D : Addr} {xs ys : List V} (e : H D = some (.lst xs)) : ButL H (upd H D (.lst ys)) := fun b o z n => by
  rw [upd_ne (fun q => by rw [q, e] at z; exact n _ (Option.some.inj z).symm)]
  exact z
/-- values and what they stand for, one by one -/
def RlL {β : Type} (Rl : Hp → V → β → Prop) (H : Hp) (us : List V) (ys : List β) : Prop := us.length = ys.length ∧ ∀ (j : Nat) (v : V) (y : β), us[j]? = some v → ys[j]? = some y → Rl H v y
section
variable {α β : Type} {Rl : Hp → V → β → Prop}
theorem RlL.nil {H : Hp} : RlL Rl H [] [] := ⟨rfl, fun j v y h => by simp at h⟩
theorem RlL.move {H H' : Hp} {us : List V} {ys : List β} (st : ∀ H H' v y, ButL H H' → Rl H v y → Rl H' v y) (b : ButL H H') (h : RlL Rl H us ys) : RlL Rl H' us ys := ⟨h.1, fun j v y h1 h2 => st _ _ _ _ b (h.2 j v y h1 h2)⟩
theorem RlL.snoc {H : Hp} {us : List V} {ys : List β} {v : V} {y : β} (h : RlL Rl H us ys) (r : Rl H v y) : RlL Rl H (us ++ [v]) (ys ++ [y]) := by
  obtain ⟨l, h⟩ := h
  refine ⟨by rw [List.length_append, List.length_append, l]; rfl, fun j u z hu hz => ?_⟩
  by_cases c : j < us.length
  · rw [List.getElem?_append_left c] at hu
    rw [List.getElem?_append_left (by omega)] at hz
    exact h j u z hu hz
  · have e : j = us.length := by
      have := (List.getElem?_eq_some_iff.mp hu).1
      rw [List.length_append] at this
      simp only [List.length_cons, List.length_nil] at this
      omega
    subst e
    rw [List.getElem?_append_right (Nat.le_refl _), Nat.sub_self] at hu
    rw [l, List.getElem?_append_right (Nat.le_refl _), Nat.sub_self] at hz
    cases hu
    cases hz
    exact r
theorem RlL.get {H : Hp} {us : List V} {ys : List β} {j : Nat} {v : V} (h : RlL Rl H us ys) (e : us[j]? = some v) : ∃ y, ys[j]? = some y ∧ Rl H v y := by
  have lt := (List.getElem?_eq_some_iff.mp e).1
  rw [h.1] at lt
  exact ⟨_, List.getElem?_eq_getElem lt, h.2 j v _ e (List.getElem?_eq_getElem lt)⟩
/-- the pairs of both -/
theorem RlL.zip {H : Hp} {us : List V} {ys : List β} (h : RlL Rl H us ys) : (us.zip ys).map Prod.fst = us ∧ (us.zip ys).map Prod.snd = ys ∧ ∀ p ∈ us.zip ys, Rl H p.1 p.2 := by
  refine ⟨by rw [List.map_fst_zip (by rw [h.1]; exact Nat.le_refl _)], by rw [List.map_snd_zip (by rw [h.1]; exact Nat.le_refl _)], fun p hp => ?_⟩
  obtain ⟨i, hi⟩ := List.mem_iff_getElem?.mp hp
  rw [List.getElem?_zip_eq_some] at hi
  exact h.2 i _ _ hi.1 hi.2
variable {K : PySem.W.Frag} {f : α → V} {ks : List α} {p : α → Bool} {e : α → β} {g : TG} {tt : TT} {te : TE} {vs : List Nat} {σ : L2.St} {H1 : Hp} {D : Addr} {Qd : Hp → Prop} {a : Addr}
def RlT (Rl : Hp → V → β → Prop) (f : α → V) (p : α → Bool) (e : α → β) (g : TG) (tt : TT) (te : TE) (vs : List Nat) (σ : L2.St) (x : α) (H' : Hp) : Prop := ∀ (N : V → Hp → Prop) (S : Hp → Prop), (∀ v H4, p x = true → Same H' H4 → Rl H4 v (e x) → N v H4) → (∀ H4, p x = false → Same H' H4 → S H4) →
  g (f x) (wipe σ vs) H' fun σ2 H2 => wipe σ2 vs = wipe σ vs ∧ tt σ2 H2 fun b H3 => if b = true then te σ2 H3 N else S H3
def RlP (Rl : Hp → V → β → Prop) (p : α → Bool) (e : α → β) (ks : List α) (H1 : Hp) (D : Addr) (i : Nat) (H' : Hp) : Prop := Same H1 H' ∧ ∃ us : List V, H' D = some (.lst us) ∧ us.length ≤ i ∧ RlL Rl H' us (((ks.take i).filter p).map e)
theorem RlP.start (hD : H1 D = none) : RlP Rl p e ks H1 D 0 (upd H1 D (.lst [])) := ⟨same_upd hD, [], upd_same, Nat.le_refl _, .nil⟩
theorem RlP.turn (st : ∀ H H' v y, ButL H H' → Rl H v y → Rl H' v y) (hD : H1 D = none) (hl : ks.length < sizeLine) {i : Nat} {x : α} {H' : Hp} (hx : ks[i]? = some x) (hP : RlP Rl p e ks H1 D i H') (ht : RlT Rl f p e g tt te vs σ x H') :
    g (f x) (wipe σ vs) H' fun σ2 H2 => wipe σ2 vs = wipe σ vs ∧ tt σ2 H2 fun b H3 => if b = true then te σ2 H3 fun y H4 => ∃ acc, H4 D = some (.lst acc) ∧ acc.length < sizeLine ∧ RlP Rl p e ks H1 D (i + 1) (upd H4 D (.lst (acc ++ [y]))) else RlP Rl p e ks H1 D (i + 1) H3 := by
  obtain ⟨sm, us, eD, ul, rl⟩ := hP
  have il := (List.getElem?_eq_some_iff.mp hx).1
  have tk : ks.take (i + 1) = ks.take i ++ [x] := by rw [List.take_add_one, hx]; rfl
  refine ht _ _ (fun v H4 hp s4 r4 => ⟨us, s4 _ _ eD, by omega, fun b o z => ?_, us ++ [v], upd_same, by rw [List.length_append]; exact Nat.succ_le_succ ul, ?_⟩) (fun H4 hp s4 => ⟨sm.trans s4, us, s4 _ _ eD, by omega, ?_⟩)
  · rw [upd_ne (ne_of_none z hD)]
    exact s4 b o (sm b o z)
  · rw [tk, List.filter_append, List.map_append, show ([x].filter p) = [x] by simp [hp]]
    have b4 := butL_upd (ys := us ++ [v]) (s4 _ _ eD)
    exact RlL.snoc (rl.move st ((Same.butL s4).trans b4)) (st _ _ _ _ b4 r4)
  · rw [tk, List.filter_append, List.map_append, show ([x].filter p) = [] by simp [hp], List.map_nil, List.append_nil]
    exact rl.move st (Same.butL s4)
theorem lc_relL (Rl : Hp → V → β → Prop) (st : ∀ H H' v y, ButL H H' → Rl H v y → Rl H' v y) (hD : H1 D = none) (hx : SqL K H1 a (ks.map f)) (hl : ks.length < sizeLine)
    (hs : ∀ x H', x ∈ ks → Same H1 H' → RlT Rl f p e g tt te vs σ x H')
    (hd : ∀ H' us, Same H1 H' → H' D = some (.lst us) → RlL Rl H' us ((ks.filter p).map e) → Qd H') :
    ∃ W : Nat → Nat → Hp → Prop, (∃ m, W 0 m (upd H1 D (.lst []))) ∧ ∀ i m H, W i m H → ((Itl K a).stop i H ∧ Qd H) ∨ ((Itl K a).go i H ∧ ∃ Nx : Hp → Prop, (∀ H', Nx H' → ∃ m', m' < m ∧ W (i + 1) m' H') ∧ ∀ x H', (Itl K a).yld i H x H' → g x (wipe σ vs) H' fun σ2 H2 => wipe σ2 vs = wipe σ vs ∧ tt σ2 H2 fun b H3 => if b = true then te σ2 H3 fun y H4 => ∃ acc, H4 D = some (.lst acc) ∧ acc.length < sizeLine ∧ Nx (upd H4 D (.lst (acc ++ [y]))) else Nx H3) := by
  refine lc_list (xs := ks.map f) (RlP Rl p e ks H1 D) (RlP.start hD) (fun i H' _ z => z.1.seq hx) (fun i x H' hi hP => ?_) (fun H' hP => ?_)
  · obtain ⟨y, hy, rfl⟩ := map_at hi
    exact RlP.turn st hD hl hy hP (hs y H' (List.mem_of_getElem? hy) hP.1)
  · obtain ⟨s, us, e1, l, h⟩ := hP
    rw [List.length_map, List.take_length] at h
    exact hd H' us s e1 h
theorem lc_relTu (Rl : Hp → V → β → Prop) (st : ∀ H H' v y, ButL H H' → Rl H v y → Rl H' v y) (hD : H1 D = none) (hx : SqT K H1 a (ks.map f)) (hl : ks.length < sizeLine)
    (hs : ∀ x H', x ∈ ks → Same H1 H' → RlT Rl f p e g tt te vs σ x H')
    (hd : ∀ H' us, Same H1 H' → H' D = some (.lst us) → RlL Rl H' us ((ks.filter p).map e) → Qd H') :
    ∃ W : Nat → Nat → Hp → Prop, (∃ m, W 0 m (upd H1 D (.lst []))) ∧ ∀ i m H, W i m H → ((Itt K a).stop i H ∧ Qd H) ∨ ((Itt K a).go i H ∧ ∃ Nx : Hp → Prop, (∀ H', Nx H' → ∃ m', m' < m ∧ W (i + 1) m' H') ∧ ∀ x H', (Itt K a).yld i H x H' → g x (wipe σ vs) H' fun σ2 H2 => wipe σ2 vs = wipe σ vs ∧ tt σ2 H2 fun b H3 => if b = true then te σ2 H3 fun y H4 => ∃ acc, H4 D = some (.lst acc) ∧ acc.length < sizeLine ∧ Nx (upd H4 D (.lst (acc ++ [y]))) else Nx H3) := by
  refine lc_tup (xs := ks.map f) (RlP Rl p e ks H1 D) (RlP.start hD) (fun i H' _ z => SqT.same z.1 hx) (fun i x H' hi hP => ?_) (fun H' hP => ?_)
  · obtain ⟨y, hy, rfl⟩ := map_at hi
    exact RlP.turn st hD hl hy hP (hs y H' (List.mem_of_getElem? hy) hP.1)
  · obtain ⟨s, us, e1, l, h⟩ := hP
    rw [List.length_map, List.take_length] at h
    exact hd H' us s e1 h
end
end Rk
set_option maxHeartbeats 1000000
namespace Rk
open PySem PySem.Spec PyProof.Rows L2
open PySem.Sem (wp)
/-! ### zip of a list and a tuple: both kinds of parts at once -/
/-- what zip goes through, and how -/
structure ZK where
  it : Heap → Addr → Addr → Nat → Prop
  sq : Heap → Addr → Array Value → Prop
  itE : ∀ {h h' : Heap} {a b l : Addr} {i : Nat}, it h a l i → Heap.ExtBut b h h' → a ≠ b → it h' a l i
  itAt : ∀ {h h' : Heap} {a l : Addr} {i : Nat}, it h a l i → (∀ o, h.get? a = some o → h'.get? a = some o) → it h' a l i
  itO : ∀ {h : Heap} {a l : Addr} {i : Nat}, it h a l i → ∃ o fs, h.get? a = some o ∧ o.data = .fields fs
  sqE : ∀ {h h' : Heap} {a b : Addr} {xs : Array Value}, sq h a xs → Heap.ExtBut b h h' → a ≠ b → sq h' a xs
  item : ∀ {prog : Program} {w : World} {A : Around} {E : Value → Shared → Prop} {s : Shared} {i l : Addr} {k : Nat} {xs : Array Value} {x : Value} {Q : Value → Shared → Prop}, it s.heap i l k → sq s.heap l xs → xs[k]? = some x →
    (∀ h', it h' i l (k + 1) → Heap.SameBut i s.heap h' → Q x { s with heap := h' }) → wpAny (model prog w) A (Builtin.SmallTypes.nextOf (.ref i)) Q E s
  fin : ∀ {prog : Program} {w : World} {A : Around} {E : Value → Shared → Prop} {s : Shared} {i l : Addr} {k : Nat} {xs : Array Value} {Q : Value → Shared → Prop}, A.handled = none → it s.heap i l k → sq s.heap l xs → xs[k]? = none →
    (∀ h' e, Heap.ExtBut i s.heap h' → (∃ o, h'.get? e = some o ∧ o.cls = .type "StopIteration") → E (.ref e) { s with heap := h' }) → wpAny (model prog w) A (Builtin.SmallTypes.nextOf (.ref i)) Q E s
def zkL : ZK where
  it h a l i := h.IsListIter a l i
  sq h a xs := h.IsList a xs
  itE x e n := x.extBut e n
  itAt x e := x.at e
  itO x := let ⟨o, h, _, d⟩ := x; ⟨o, _, h, d⟩
  sqE x e n := x.extBut e n
  item a b c d := wpAny_nextOf_list_item a b c d
  fin a b c d e := wpAny_nextOf_list_end a b c d e
def zkT : ZK where
  it h a l i := h.IsTupleIter a l i
  sq h a xs := h.IsTuple a xs
  itE x e n := x.extBut e n
  itAt x e := x.at e
  itO x := let ⟨o, h, _, d⟩ := x; ⟨o, _, h, d⟩
  sqE x e n := x.extBut e n
  item a b c d := RZ.nextOf_tuple_item a b c d
  fin a b c d e := RZ.nextOf_tuple_end a b c d e
section
variable {prog : Program} {w : World} {A : Around} {E : Value → Shared → Prop} {s : Shared} (ka kb : ZK)
theorem zk_item {z TI TO i1 i2 l1 l2 : Addr} {k1 k2 : Nat} {xs ys : Array Value} {x y a b : Value} {Q : Value → Shared → Prop} (D : ZipApart z TI TO i1 i2 l1 l2)
    (hz : IsZip s.heap z TI TO .none) (hTI : IsPair s.heap TI (.ref i1) (.ref i2)) (hTO : IsPair s.heap TO a b)
    (h1 : ka.it s.heap i1 l1 k1) (h2 : kb.it s.heap i2 l2 k2) (q1 : ka.sq s.heap l1 xs) (q2 : kb.sq s.heap l2 ys) (hx : xs[k1]? = some x) (hy : ys[k2]? = some y)
    (hQ : ∀ h', IsZip h' z TI TO (rawInt s.heap.objs.size) → IsPair h' TO x y → ka.it h' i1 l1 (k1 + 1) → kb.it h' i2 l2 (k2 + 1) → IsPair h' s.heap.objs.size x y → h'.objs.size = s.heap.objs.size + 1 →
      (∀ c o, c ≠ z → c ≠ TO → c ≠ i1 → c ≠ i2 → s.heap.get? c = some o → h'.get? c = some o) → Q (.ref s.heap.objs.size) { s with heap := h' }) :
    wpAny (model prog w) A (Builtin.«zip.__next__» ⟨[.ref z], []⟩) (fun fin s' => ∃ v, fin = .done (.ret v) ∧ Q v s') E s := by
  show wpAny _ _ (field (.ref z) 2 >>= _) _ _ _
  refine wpAny_bind (wpAny_field hz rfl (x := .bool false) rfl ?_)
  show wpAny _ _ (field (.ref z) 3 >>= _) _ _ _
  refine wpAny_bind (wpAny_field hz rfl (x := .ref TI) rfl (wpAny_bind (wpAny_seqItems hTI rfl ?_)))
  show wpAny _ _ (Builtin.SmallTypes.ownedTupleIsFree (.ref z) >>= _) _ _ _
  refine wpAny_bind ?_
  unfold Builtin.SmallTypes.ownedTupleIsFree
  refine wpAny_bind (wpAny_field hz rfl (x := .none) rfl (wpAny_pure ?_))
  simp only [if_true]
  refine wpAny_bind (wpAny_rule (wpAny_bind (wpAny_field hz rfl (x := .ref TO) rfl (wpAny_bind (wpAny_setField_rec hz (by simp) fun g1 z1 e1 => ?_)))))
  replace z1 : IsZip g1 z TI TO .ellipsis := z1
  refine wpAny_bind ?_
  simp only [List.zipIdx_cons, List.zipIdx_nil, List.forIn_cons, List.forIn_nil]
  refine wpAny_bind (wpAny_bind (wpAny_onRaise ?_))
  show wpAny _ _ (Builtin.SmallTypes.nextOf (.ref i1) >>= _) _ _ _
  refine wpAny_bind (ka.item (ka.itE h1 e1.extBut D.i1z) (ka.sqE q1 e1.extBut D.l1z) hx fun g2 n2 e2 => wpAny_pure ?_)
  have o2 : IsPair g2 TO a b := e2.extBut _ _ D.TOi1 (e1.extBut _ _ D.TOz hTO)
  refine wpAny_bind (wpAny_seqItems o2 rfl (wpAny_bind (wpAny_updateSeq_pair o2 fun g3 o3 e3 => ?_)))
  replace o3 : IsPair g3 TO x b := o3
  refine wpAny_bind (wpAny_letGo (wpAny_pure ?_))
  refine wpAny_bind (wpAny_bind (wpAny_onRaise ?_))
  show wpAny _ _ (Builtin.SmallTypes.nextOf (.ref i2) >>= _) _ _ _
  refine wpAny_bind (kb.item (kb.itE (kb.itE (kb.itE h2 e1.extBut D.i2z) e2.extBut D.i12.symm) e3.extBut D.TOi2.symm) (kb.sqE (kb.sqE (kb.sqE q2 e1.extBut D.l2z) e2.extBut D.l2i1) e3.extBut D.l2TO) hy fun g4 n4 e4 => wpAny_pure ?_)
  have o4 : IsPair g4 TO x b := e4.extBut _ _ D.TOi2 o3
  refine wpAny_bind (wpAny_seqItems o4 rfl (wpAny_bind (wpAny_updateSeq_pair o4 fun g5 o5 e5 => ?_)))
  replace o5 : IsPair g5 TO x y := o5
  refine wpAny_bind (wpAny_letGo (wpAny_pure (wpAny_pure ?_)))
  refine wpAny_bind (wpAny_seqItems o5 rfl (wpAny_bind (wpAny_newTuple ?_)))
  have sz : g5.objs.size = s.heap.objs.size := by rw [e5.1, e4.1, e3.1, e2.1, e1.1]
  have z5 : IsZip g5 z TI TO .ellipsis := e5.extBut _ _ D.TOz.symm (e4.extBut _ _ D.i2z.symm (e3.extBut _ _ D.TOz.symm (e2.extBut _ _ D.i1z.symm z1)))
  have m1 : ka.it g5 i1 l1 (k1 + 1) := ka.itE (ka.itE (ka.itE n2 e3.extBut D.TOi1.symm) e4.extBut D.i12) e5.extBut D.TOi1.symm
  have m2 : kb.it g5 i2 l2 (k2 + 1) := kb.itE n4 e5.extBut D.TOi2.symm
  have zlt : z < g5.objs.size := Heap.lt_size z5
  show wpAny _ _ (Builtin.SmallTypes.ownedTupleHandOut (.ref z) (.ref g5.objs.size) >>= _) _ _ _
  refine wpAny_bind ?_
  unfold Builtin.SmallTypes.ownedTupleHandOut
  have z6 : IsZip (g5.push { cls := .type "tuple", data := .seq #[x, y] }) z TI TO .ellipsis := Heap.get?_push_of_some _ z5
  refine wpAny_bind (wpAny_setField_rec z6 (by simp) fun g7 z7 e7 => ?_)
  replace z7 : IsZip g7 z TI TO (rawInt g5.objs.size) := z7
  refine wpAny_setField_rec z7 (by simp) fun g8 z8 e8 => ?_
  replace z8 : IsZip g8 z TI TO (rawInt g5.objs.size) := z8
  have up : ∀ c o, c ≠ z → g5.get? c = some o → g8.get? c = some o := fun c o c1 e => e8.extBut _ _ c1 (e7.extBut _ _ c1 (Heap.get?_push_of_some _ e))
  have t8 : IsPair g8 g5.objs.size x y := e8.extBut _ _ (Nat.ne_of_gt zlt) (e7.extBut _ _ (Nat.ne_of_gt zlt) (Heap.get?_push_size _ rfl))
  have s8 : g8.objs.size = g5.objs.size + 1 := by rw [e8.1, e7.1, Heap.size_push]
  rw [sz] at z8 t8 s8
  refine wpAny_pure ⟨_, rfl, ?_⟩
  show Q (.ref g5.objs.size) _
  rw [sz]
  exact hQ g8 z8 (up _ _ D.TOz o5) (ka.itAt m1 fun o e => up _ o D.i1z e) (kb.itAt m2 fun o e => up _ o D.i2z e) t8 s8 fun c o c1 c2 c3 c4 e =>
    up c o c1 (e5.extBut _ _ c2 (e4.extBut _ _ c4 (e3.extBut _ _ c2 (e2.extBut _ _ c3 (e1.extBut _ _ c1 e)))))
theorem zk_fin {z TI TO i1 i2 l1 l2 : Addr} {k1 k2 : Nat} {xs ys : Array Value} {a b : Value} {Q : PySem.Fin → Shared → Prop} (hh : A.handled = none) (D : ZipApart z TI TO i1 i2 l1 l2)
    (hz : IsZip s.heap z TI TO .none) (hTI : IsPair s.heap TI (.ref i1) (.ref i2)) (hTO : IsPair s.heap TO a b)
    (h1 : ka.it s.heap i1 l1 k1) (h2 : kb.it s.heap i2 l2 k2) (q1 : ka.sq s.heap l1 xs) (q2 : kb.sq s.heap l2 ys) (hend : xs[k1]? = none ∨ ys[k2]? = none)
    (hE : ∀ h' e, (∀ c o, c ≠ z → c ≠ TO → c ≠ i1 → c ≠ i2 → s.heap.get? c = some o → h'.get? c = some o) → (∃ o, h'.get? e = some o ∧ o.cls = .type "StopIteration") → E (.ref e) { s with heap := h' }) :
    wpAny (model prog w) A (Builtin.«zip.__next__» ⟨[.ref z], []⟩) Q E s := by
  show wpAny _ _ (field (.ref z) 2 >>= _) _ _ _
  refine wpAny_bind (wpAny_field hz rfl (x := .bool false) rfl ?_)
  show wpAny _ _ (field (.ref z) 3 >>= _) _ _ _
  refine wpAny_bind (wpAny_field hz rfl (x := .ref TI) rfl (wpAny_bind (wpAny_seqItems hTI rfl ?_)))
  show wpAny _ _ (Builtin.SmallTypes.ownedTupleIsFree (.ref z) >>= _) _ _ _
  refine wpAny_bind ?_
  unfold Builtin.SmallTypes.ownedTupleIsFree
  refine wpAny_bind (wpAny_field hz rfl (x := .none) rfl (wpAny_pure ?_))
  simp only [if_true]
  refine wpAny_bind (wpAny_rule (wpAny_bind (wpAny_field hz rfl (x := .ref TO) rfl (wpAny_bind (wpAny_setField_rec hz (by simp) fun g1 z1 e1 => ?_)))))
  replace z1 : IsZip g1 z TI TO .ellipsis := z1
  refine wpAny_bind ?_
  simp only [List.zipIdx_cons, List.zipIdx_nil, List.forIn_cons, List.forIn_nil]
  refine wpAny_bind (wpAny_bind (wpAny_onRaise ?_))
  show wpAny _ _ (Builtin.SmallTypes.nextOf (.ref i1) >>= _) _ _ _
  cases hx : xs[k1]? with
  | none =>
    refine wpAny_bind (ka.fin hh (ka.itE h1 e1.extBut D.i1z) (ka.sqE q1 e1.extBut D.l1z) hx fun g2 e e2 he => ?_)
    obtain ⟨oe, hoe, hce⟩ := he
    have z2 : IsZip g2 z TI TO .ellipsis := e2 _ _ D.i1z.symm z1
    have ez : e ≠ z := fun x => by subst x; rw [z2] at hoe; cases hoe; simp at hce
    refine wpAny_setField_rec z2 (by simp) fun g3 _ e3 => hE g3 e (fun c o c1 _ c3 _ x => e3.extBut _ _ c1 (e2 _ _ c3 (e1.extBut _ _ c1 x))) ⟨oe, e3.extBut _ _ ez hoe, hce⟩
  | some x =>
    have hy : ys[k2]? = none := hend.resolve_left (fun h => by rw [hx] at h; cases h)
    refine wpAny_bind (ka.item (ka.itE h1 e1.extBut D.i1z) (ka.sqE q1 e1.extBut D.l1z) hx fun g2 n2 e2 => wpAny_pure ?_)
    have o2 : IsPair g2 TO a b := e2.extBut _ _ D.TOi1 (e1.extBut _ _ D.TOz hTO)
    refine wpAny_bind (wpAny_seqItems o2 rfl (wpAny_bind (wpAny_updateSeq_pair o2 fun g3 o3 e3 => ?_)))
    refine wpAny_bind (wpAny_letGo (wpAny_pure ?_))
    refine wpAny_bind (wpAny_bind (wpAny_onRaise ?_))
    show wpAny _ _ (Builtin.SmallTypes.nextOf (.ref i2) >>= _) _ _ _
    refine wpAny_bind (kb.fin hh (kb.itE (kb.itE (kb.itE h2 e1.extBut D.i2z) e2.extBut D.i12.symm) e3.extBut D.TOi2.symm) (kb.sqE (kb.sqE (kb.sqE q2 e1.extBut D.l2z) e2.extBut D.l2i1) e3.extBut D.l2TO) hy fun g4 e e4 he => ?_)
    obtain ⟨oe, hoe, hce⟩ := he
    have z4 : IsZip g4 z TI TO .ellipsis := e4 _ _ D.i2z.symm (e3.extBut _ _ D.TOz.symm (e2.extBut _ _ D.i1z.symm z1))
    have ez : e ≠ z := fun x => by subst x; rw [z4] at hoe; cases hoe; simp at hce
    refine wpAny_setField_rec z4 (by simp) fun g5 _ e5 => hE g5 e (fun c o c1 c2 c3 c4 x => e5.extBut _ _ c1 (e4 _ _ c4 (e3.extBut _ _ c2 (e2.extBut _ _ c3 (e1.extBut _ _ c1 x))))) ⟨oe, e5.extBut _ _ ez hoe, hce⟩
theorem zk_next {z TI TO i1 i2 l1 l2 : Addr} {k1 k2 : Nat} {xs ys : Array Value} {x y a b : Value} {Q : Option Value → Shared → Prop} (D : ZipApart z TI TO i1 i2 l1 l2)
    (hz : IsZip s.heap z TI TO .none) (hTI : IsPair s.heap TI (.ref i1) (.ref i2)) (hTO : IsPair s.heap TO a b)
    (h1 : ka.it s.heap i1 l1 k1) (h2 : kb.it s.heap i2 l2 k2) (q1 : ka.sq s.heap l1 xs) (q2 : kb.sq s.heap l2 ys) (hx : xs[k1]? = some x) (hy : ys[k2]? = some y)
    (hQ : ∀ h', IsZip h' z TI TO (rawInt s.heap.objs.size) → IsPair h' TO x y → ka.it h' i1 l1 (k1 + 1) → kb.it h' i2 l2 (k2 + 1) → IsPair h' s.heap.objs.size x y → h'.objs.size = s.heap.objs.size + 1 →
      (∀ c o, c ≠ z → c ≠ TO → c ≠ i1 → c ≠ i2 → s.heap.get? c = some o → h'.get? c = some o) → Q (some (.ref s.heap.objs.size)) { s with heap := h' }) :
    wpAny (model prog w) A (pyNext (.ref z)) Q E s := by
  have hT : s.TypeIs (.ref z) "zip" := ⟨_, hz, rfl⟩
  unfold pyNext
  exact wpAny_bind (wpAny_attempt (wpAny_callSpecial?_slot (name := Str.ofString "__next__") hT F.slot_zip_next
    (wpAny_call_entry F.slot_zip_next hT F.entry_zip_next (zk_item ka kb D hz hTI hTO h1 h2 q1 q2 hx hy fun h' a1 a2 a3 a4 a5 a6 a7 => wpAny_pure (hQ h' a1 a2 a3 a4 a5 a6 a7)) (F.args_zip_next_1 _))))
theorem zk_stop {z TI TO i1 i2 l1 l2 : Addr} {k1 k2 : Nat} {xs ys : Array Value} {a b : Value} {Q : Option Value → Shared → Prop} (hh : A.handled = none) (D : ZipApart z TI TO i1 i2 l1 l2)
    (hz : IsZip s.heap z TI TO .none) (hTI : IsPair s.heap TI (.ref i1) (.ref i2)) (hTO : IsPair s.heap TO a b)
    (h1 : ka.it s.heap i1 l1 k1) (h2 : kb.it s.heap i2 l2 k2) (q1 : ka.sq s.heap l1 xs) (q2 : kb.sq s.heap l2 ys) (hend : xs[k1]? = none ∨ ys[k2]? = none)
    (hQ : ∀ h', (∀ c o, c ≠ z → c ≠ TO → c ≠ i1 → c ≠ i2 → s.heap.get? c = some o → h'.get? c = some o) → Q none { s with heap := h' }) : wpAny (model prog w) A (pyNext (.ref z)) Q E s := by
  have hT : s.TypeIs (.ref z) "zip" := ⟨_, hz, rfl⟩
  unfold pyNext
  refine wpAny_bind (wpAny_attempt (wpAny_callSpecial?_slot (name := Str.ofString "__next__") hT F.slot_zip_next
    (wpAny_call_entry F.slot_zip_next hT F.entry_zip_next (zk_fin ka kb hh D hz hTI hTO h1 h2 q1 q2 hend fun h' e hk he => ?_) (F.args_zip_next_1 _))))
  obtain ⟨o, ho, hc⟩ := he
  exact wpAny_bind (wpAny_isInstance (T := "StopIteration") (b := true) ⟨o, ho, hc⟩ isSubtype_stop (wpAny_pure (hQ _ hk)))
end
/-! #### a list first, a tuple second -/
abbrev zmH1 (h : Heap) (l1 : Addr) : Heap := h.push { cls := .type "list_iterator", data := .fields #[.ref l1, .int 0 0] }
abbrev zmH2 (h : Heap) (l1 l2 : Addr) : Heap := (zmH1 h l1).push { cls := .type "tuple_iterator", data := .fields #[.ref l2, .int 0 0] }
abbrev zmH3 (h : Heap) (l1 l2 : Addr) : Heap := (zmH2 h l1 l2).push { cls := .type "tuple", data := .seq #[.ref h.objs.size, .ref (zmH1 h l1).objs.size] }
abbrev zmH4 (h : Heap) (l1 l2 : Addr) : Heap := (zmH3 h l1 l2).push { cls := .type "tuple", data := .seq #[.none, .none] }
abbrev zmH5 (h : Heap) (l1 l2 : Addr) : Heap := (zmH4 h l1 l2).push { cls := .type "zip", data := .fields #[.none, .bool false, .bool false, .ref (zmH2 h l1 l2).objs.size, .ref (zmH3 h l1 l2).objs.size] }
theorem zm_new (l1 l2 : Addr) (xs ys : Array Value) :
    Meets (Builtin.«zip.__new__» ⟨[.type "zip", .ref l1, .ref l2], []⟩) (fun _ R s => s.heap.IsList l1 xs ∧ s.heap.IsTuple l2 ys ∧
      R (.ok (.ret (.ref (zmH4 s.heap l1 l2).objs.size))) { s with heap := zmH5 s.heap l1 l2 }) :=
  .of_wp fun prog w A R s h => by
    obtain ⟨hp, g, d, tk, os⟩ := s
    obtain ⟨a, b, h⟩ := h
    have hsub := sub_zip
    have a1 : Heap.IsList (Shared.heap ⟨hp, g, d, tk, os⟩) l1 xs := a
    have b1 : Heap.IsTuple (Shared.heap ⟨hp.push { cls := .type "list_iterator", data := .fields #[.ref l1, .int 0 0] }, g, d, tk, os⟩) l2 ys := Heap.IsTuple.push b _
    wp_walk using wpAny_pyIter_list a1, wpAny_pyIter_tuple b1
    exact ⟨_, rfl, h⟩
theorem zm_call {prog : Program} {w : World} {A : Around} {E : Value → Shared → Prop} {s : Shared} {l1 l2 : Addr} {xs ys : Array Value} {Q : Value → Shared → Prop} (a : s.heap.IsList l1 xs) (b : s.heap.IsTuple l2 ys)
    (h : ∀ h', IsZip h' (s.heap.objs.size + 4) (s.heap.objs.size + 2) (s.heap.objs.size + 3) .none → IsPair h' (s.heap.objs.size + 2) (.ref s.heap.objs.size) (.ref (s.heap.objs.size + 1)) →
      IsPair h' (s.heap.objs.size + 3) .none .none → h'.IsListIter s.heap.objs.size l1 0 → h'.IsTupleIter (s.heap.objs.size + 1) l2 0 → h'.objs.size = s.heap.objs.size + 5 →
      (∀ c o, s.heap.get? c = some o → h'.get? c = some o) → Q (.ref (s.heap.objs.size + 4)) { s with heap := h' }) :
    wpAny (model prog w) A (call (.type "zip") [.ref l1, .ref l2]) Q E s := by
  refine callType_new F.called_zip (by decide) (F.typeCall_zip_2 _ _) (F.newCall_zip_2 _ _) (fun obj => F.args_object_init_3 obj _ _) F.entry_zip_new (zm_new l1 l2 xs ys) ⟨a, b, ?_⟩
  have z1 : (zmH1 s.heap l1).objs.size = s.heap.objs.size + 1 := Heap.size_push ..
  have z2 : (zmH2 s.heap l1 l2).objs.size = s.heap.objs.size + 2 := by rw [Heap.size_push, z1]
  have z3 : (zmH3 s.heap l1 l2).objs.size = s.heap.objs.size + 3 := by rw [Heap.size_push, z2]
  have z4 : (zmH4 s.heap l1 l2).objs.size = s.heap.objs.size + 4 := by rw [Heap.size_push, z3]
  have z5 : (zmH5 s.heap l1 l2).objs.size = s.heap.objs.size + 5 := by rw [Heap.size_push, z4]
  have up : ∀ {h : Heap} {c : Addr} {o p : Obj}, h.get? c = some o → (h.push p).get? c = some o := fun e => Heap.get?_push_of_some _ e
  have g5 : (zmH5 s.heap l1 l2).get? (zmH4 s.heap l1 l2).objs.size = some _ := Heap.get?_push_size _ rfl
  have g4 : (zmH5 s.heap l1 l2).get? (zmH3 s.heap l1 l2).objs.size = some _ := up (Heap.get?_push_size _ rfl)
  have g3 : (zmH5 s.heap l1 l2).get? (zmH2 s.heap l1 l2).objs.size = some _ := up (up (Heap.get?_push_size _ rfl))
  have g2 : (zmH5 s.heap l1 l2).get? (zmH1 s.heap l1).objs.size = some _ := up (up (up (Heap.get?_push_size _ rfl)))
  have g1 : (zmH5 s.heap l1 l2).get? s.heap.objs.size = some _ := up (up (up (up (Heap.get?_push_size _ rfl))))
  show _ ∧ _
  rw [z2, z3, z4] at g5
  rw [z1, z2] at g3
  rw [z3] at g4
  rw [z1] at g2
  rw [z4]
  exact ⟨⟨_, g5, rfl⟩, h _ g5 g3 g4 ⟨_, g1, rfl, rfl⟩ ⟨_, g2, rfl, rfl⟩ z5 fun c o x => up (up (up (up (up x))))⟩
/-- the list at a and the tuple at b as they stand at each turn, the items in new pairs -/
def ItzM (K : PySem.W.Frag) (a b : Addr) : It :=
  ⟨fun i H => ∃ (xs ys : List V) (x y : V), SqL K H a xs ∧ SqT K H b ys ∧ xs[i]? = some x ∧ ys[i]? = some y,
    fun i H v H' => ∃ T x y, v = .ref T ∧ H T = none ∧ H' = upd H T (.tup [x, y]) ∧ (∀ xs, SqL K H a xs → xs[i]? = some x) ∧ ∀ ys, SqT K H b ys → ys[i]? = some y,
    fun i H => ∃ xs ys : List V, SqL K H a xs ∧ SqT K H b ys ∧ (xs.length ≤ i ∨ ys.length ≤ i)⟩
theorem zm_turn {P : Program} {w : World} {K : PySem.W.Frag} {elts : List Expr} {kk : Nat} {tpos : Pos} {a b z TI TO i1 i2 : Addr} (D : ZipApart z TI TO i1 i2 a b) :
    Turn P w K (.Tuple elts kk tpos) (ItzM K a b) [z, TI, TO, i1, i2] z (fun i h => IsZip h z TI TO .none ∧ IsPair h TI (.ref i1) (.ref i2) ∧ (∃ x y, IsPair h TO x y) ∧ zkL.it h i1 a i ∧ zkT.it h i2 b i) where
  mem := by simp
  obj := fun i h st c hc => by
    obtain ⟨hz, hTI, ⟨x, y, hTO⟩, h1, h2⟩ := st
    obtain ⟨o1, f1, e1, d1⟩ := zkL.itO h1
    obtain ⟨o2, f2, e2, d2⟩ := zkT.itO h2
    have e' : c = z ∨ c = TI ∨ c = TO ∨ c = i1 ∨ c = i2 := by simpa using hc
    rcases e' with rfl | rfl | rfl | rfl | rfl
    · exact ⟨_, hz, fun v q => nomatch q⟩
    · exact ⟨_, hTI, fun v q => nomatch q⟩
    · exact ⟨_, hTO, fun v q => nomatch q⟩
    · exact ⟨o1, e1, fun v q => by rw [d1] at q; cases q⟩
    · exact ⟨o2, e2, fun v q => by rw [d2] at q; cases q⟩
  keep := fun i h h' st k => by
    obtain ⟨hz, hTI, ⟨x, y, hTO⟩, h1, h2⟩ := st
    exact ⟨k z (by simp) _ hz, k TI (by simp) _ hTI, ⟨x, y, k TO (by simp) _ hTO⟩, zkL.itAt h1 fun o q => k i1 (by simp) o q, zkT.itAt h2 fun o q => k i2 (by simp) o q⟩
  item := by
    intro X hP hw hK hc i pins s σ H E I hf st hg
    subst hP hw hK
    obtain ⟨hz, hTI, ⟨x0, y0, hTO⟩, h1, h2⟩ := st
    obtain ⟨xs, ys, x, y, hqx, hqy, hx, hy⟩ := hg
    obtain ⟨its, rv, p, _⟩ := I.list hqx
    obtain ⟨its2, rv2, p2, _⟩ := I.tuple hqy
    obtain ⟨u, hu, ru⟩ := rv.get hx
    obtain ⟨u2, hu2, ru2⟩ := rv2.get hy
    have hzl : z < s.heap.objs.size := Heap.lt_size hz
    refine zk_next zkL zkT D hz hTI hTO h1 h2 p.isList p2 (x := u) (y := u2) (by simpa using hu) (by simpa using hu2) fun h' z' TO' h1' h2' hT hsz hk => ?_
    refine ⟨_, rfl, wpAny_letOwnedTupleGo_zip (s := { s with heap := h' }) z' fun h'' z'' sb => ?_⟩
    have hT2 : h''.get? s.heap.objs.size = some { cls := .type "tuple", data := .seq #[u, u2] } := (sb.2 _ (Nat.ne_of_gt hzl)).trans hT
    have new : ObjOk X.prog X.w (upd H s.heap.objs.size (.tup [x, y])) h'' s.heap.objs.size (.tup [x, y]) :=
      ⟨by show 2 ≤ sizeLine; decide, [u, u2], .cons ru (.cons ru2 .nil), ⟨_, hT2, rfl, _, rfl⟩⟩
    have I1 : Inv X pins σ (upd H s.heap.objs.size (.tup [x, y])) { s with heap := h'' } :=
      I.turnedNew (t' := s.toks) (ch := [z, TI, TO, i1, i2]) (fun c o hb q => (sb.2 c (fun q' => hb (by simp [q']))).trans (hk c o (fun q' => hb (by simp [q'])) (fun q' => hb (by simp [q'])) (fun q' => hb (by simp [q'])) (fun q' => hb (by simp [q'])) q)) hf (Nat.le_refl _) new
    refine ⟨.ref s.heap.objs.size, _, I1, rfl, ⟨_, x, y, rfl, I.hok.fresh (Nat.le_refl _), rfl, fun l hl => by rw [I.list_inj hl hqx]; exact hx, fun l hl => by rw [I.tuple_inj hl hqy]; exact hy⟩, ⟨z'', ?_, ⟨u, u2, ?_⟩, ?_, ?_⟩, fun c hcm => ?_⟩
    · exact (sb.2 _ D.TIz).trans (hk _ _ D.TIz D.TITO D.TIi1 D.TIi2 hTI)
    · exact (sb.2 _ D.TOz).trans TO'
    · exact zkL.itAt h1' fun o q => (sb.2 _ D.i1z).trans q
    · exact zkT.itAt h2' fun o q => (sb.2 _ D.i2z).trans q
    · have hlt : c < s.heap.objs.size := by
        have e' : c = z ∨ c = TI ∨ c = TO ∨ c = i1 ∨ c = i2 := by simpa using hcm
        rcases e' with rfl | rfl | rfl | rfl | rfl
        · exact hzl
        · exact Heap.lt_size hTI
        · exact Heap.lt_size hTO
        · obtain ⟨_, _, e1, _⟩ := zkL.itO h1; exact Heap.lt_size e1
        · obtain ⟨_, _, e2, _⟩ := zkT.itO h2; exact Heap.lt_size e2
      rw [upd_ne (Nat.ne_of_lt hlt)]
      exact (hf c hcm).1
  done := by
    intro X hP hw hK hc i pins s σ H E I hf st hg
    subst hP hw hK
    obtain ⟨hz, hTI, ⟨x0, y0, hTO⟩, h1, h2⟩ := st
    obtain ⟨xs, ys, hqx, hqy, hend⟩ := hg
    obtain ⟨its, rv, p, _⟩ := I.list hqx
    obtain ⟨its2, rv2, p2, _⟩ := I.tuple hqy
    have l1 := rv.length
    have l2 := rv2.length
    have he : its.toArray[i]? = none ∨ its2.toArray[i]? = none := hend.imp (fun q => by simp; omega) (fun q => by simp; omega)
    exact zk_stop zkL zkT (I.ok.hd hc) D hz hTI hTO h1 h2 p.isList p2 he fun h' hk => ⟨rfl, I.turnedL (t' := s.toks) (ch := [z, TI, TO, i1, i2]) (fun c o hb q =>
      hk c o (fun q' => hb (by simp [q'])) (fun q' => hb (by simp [q'])) (fun q' => hb (by simp [q'])) (fun q' => hb (by simp [q'])) q) hf⟩
  self := fun A i s Q E st h => wpAny_pyIter_zip st.1 h
def iZipM (K : PySem.W.Frag) (ta : TA) : TI := fun σ H R => ta σ H fun vs H1 => ∃ a b xs ys, vs = [.ref a, .ref b] ∧ SqL K H1 a xs ∧ SqT K H1 b ys ∧ R (ItzM K a b) H1
theorem pi_zipM {X : Cx} {e e2 : Expr} {ta : TA} {p pos tpos : Pos} {elts : List Expr} {kk : Nat} (hg : Gl X "zip") (hm : X.mg "zip" = none) (ha : PA X [e, e2] ta)
    (hs : starEach [e, e2] X.env = (false, eval e X.env) :: starEach [e2] X.env := by rfl) (hpl : (backTo pos (starEach [e2] X.env)).any (·.1) = false := by rfl) :
    PI X (.Tuple elts kk tpos) (.Call (.Name "zip" p) [e, e2] [] pos) (iZipM X.K ta) := by
  refine ⟨fun pins s σ H R I h => ?_⟩
  refine Call_ (ld_blt I hg hm PyProof.Rows.boot_zip (PyProof.Rows.callWith_type1 (thn (ha.run pos pins s σ H _ I h) fun us s1 ⟨vs, H1, I1, r1, q1⟩ => ?_) hs hpl))
  obtain ⟨a, b, xs, ys, ex, hqx, hqy, q⟩ := q1
  subst ex
  cases r1 with
  | cons r rr =>
    cases rr with
    | cons r' rr =>
      cases rr
      cases r
      cases r'
      obtain ⟨its, rv, p1, _⟩ := I1.list hqx
      obtain ⟨its2, rv2, p2, _⟩ := I1.tuple hqy
      obtain ⟨o2, ho2, _⟩ := id p2
      refine zm_call p1.isList (show s1.heap.IsTuple b its2.toArray from p2) fun h' hz hTI hTO h1 h2 hsz hk => wpAny_pyIter_zip hz ?_
      have I2 : Inv X pins σ H1 { s1 with heap := h' } := I1.kept (t' := s1.toks) hk
      refine ⟨s1.heap.objs.size + 4, [s1.heap.objs.size + 4, s1.heap.objs.size + 2, s1.heap.objs.size + 3, s1.heap.objs.size, s1.heap.objs.size + 1], _, _, H1, rfl, I2, zm_turn (PySem.W.ktu_apart s1.heap.objs.size a b p1.lt (Heap.lt_size ho2)), ⟨hz, hTI, ⟨_, _, hTO⟩, h1, h2⟩, fun c hcm => ?_, q⟩
      have hle : s1.heap.objs.size ≤ c := by
        have e' : c = s1.heap.objs.size + 4 ∨ c = s1.heap.objs.size + 2 ∨ c = s1.heap.objs.size + 3 ∨ c = s1.heap.objs.size ∨ c = s1.heap.objs.size + 1 := by simpa using hcm
        have u : ∀ n, s1.heap.objs.size ≤ s1.heap.objs.size + n := fun n => Nat.le_add_right _ _
        rcases e' with z | z | z | z | z <;> rw [z]
        · exact u 4
        · exact u 2
        · exact u 3
        · exact Nat.le_refl _
        · exact u 1
      exact I1.fpOk hle (I1.hok.fresh hle)
end Rk
namespace Rk
open PySem PySem.Spec PyProof.Rows L2 GenW
def top (i : Nat) : Stmt := PySem.Challenge.pw_rulerkeep_k67_whole_wishes_that_rules_pr.main.body.getD i (.Pass ⟨0, 0, 0, 0⟩)
/-! ### the law's draws: a pot, a number out of it, an item of a list -/
def PotAt (H : Hp) (a : Addr) (n : Nat) : Prop := ∃ g s c : Int, H a = some (.lst [.int g, .int s, .int c]) ∧ 0 ≤ s ∧ s < 2 ^ 62 ∧ 0 ≤ c ∧ c ≤ n
/-- all but what stands at a is as it was -/
def But (a : Addr) (H H' : Hp) : Prop := ∀ b o, H b = some o → b ≠ a → H' b = some o
theorem But.refl {a : Addr} {H : Hp} : But a H H := fun _ _ e _ => e
theorem But.trans {a : Addr} {H H1 H2 : Hp} (x : But a H H1) (y : But a H1 H2) : But a H H2 := fun b o e ne => y b o (x b o e ne) ne
theorem But.of {a : Addr} {H H1 : Hp} (x : Same H H1) : But a H H1 := fun b o e _ => x b o e
theorem But.seq {a b : Addr} {K : PySem.W.Frag} {H H' : Hp} {xs : List V} (x : But a H H') (ne : b ≠ a) (h : SqL K H b xs) : SqL K H' b xs := by
  rcases h with (h | ⟨o, h⟩) | h
  · exact .inl (.inl (x _ _ h ne))
  · exact .inl (.inr ⟨o, x _ _ h ne⟩)
  · exact .inr h
theorem But.tup {a b : Addr} {K : PySem.W.Frag} {H H' : Hp} {xs : List V} (x : But a H H') (ne : b ≠ a) (h : SqT K H b xs) : SqT K H' b xs := by
  rcases h with (h | ⟨o, h⟩) | h
  · exact .inl (.inl (x _ _ h ne))
  · exact .inl (.inr ⟨o, x _ _ h ne⟩)
  · exact .inr h
theorem PotAt.mono {H : Hp} {a : Addr} {n m : Nat} (p : PotAt H a n) (h : n ≤ m) : PotAt H a m := by
  obtain ⟨g, s, c, e, h1, h2, h3, h4⟩ := p
  exact ⟨g, s, c, e, h1, h2, h3, by omega⟩
theorem PotAt.same {H H' : Hp} {a : Addr} {n : Nat} (p : PotAt H a n) (h : Same H H') : PotAt H' a n := by
  obtain ⟨g, s, c, e, r⟩ := p
  exact ⟨g, s, c, h _ _ e, r⟩
theorem PotAt.but {H H' : Hp} {a b : Addr} {n : Nat} (p : PotAt H a n) (h : But b H H') (ne : a ≠ b) : PotAt H' a n := by
  obtain ⟨g, s, c, e, r⟩ := p
  exact ⟨g, s, c, h _ _ e ne, r⟩
theorem PotAt.ne {H : Hp} {a p : Addr} {n : Nat} (h : PotAt H a n) (hp : H p = none) : a ≠ p := by
  obtain ⟨g, s, c, e, _⟩ := h
  exact ne_of_none e hp
theorem PotAt.upd {H : Hp} {a b : Addr} {n : Nat} {o : HO} (p : PotAt H a n) (ne : a ≠ b) : PotAt (upd H b o) a n := by
  obtain ⟨g, s, c, e, r⟩ := p
  exact ⟨g, s, c, by rw [upd_ne ne]; exact e, r⟩
theorem But.new {a F : Addr} {H H' : Hp} {o : HO} (x : But a H H') (hF : H F = none) : But a H (L2.upd H' F o) := fun b u e ne => by
  rw [upd_ne (ne_of_none e hF)]
  exact x b u e ne
theorem But.free {a r : Addr} {n : Nat} {H H' : Hp} (x : But a H H') (p : PotAt H' a n) (h : H' r = none) : H r = none := by
  cases e : H r with
  | none => rfl
  | some o =>
    by_cases z : r = a
    · obtain ⟨g, s, c, e', _⟩ := p
      rw [z, e'] at h
      cases h
    · rw [x r o e z] at h
      cases h
def spTake : Sp := fun vs H Q _ => ∃ (a : Addr) (n : Nat) (z : Int), vs = [.ref a, .int z] ∧ PotAt H a n ∧ n < 1000000 ∧ 0 < z ∧ z.natAbs < 2 ^ 600 ∧
  ∀ (d : Int) (H' : Hp), 0 ≤ d → d < z → PotAt H' a (n + 1) → But a H H' → Q (.int d) H'
def spPick (K : PySem.W.Frag) : Sp := fun vs H Q _ => ∃ (a b : Addr) (n : Nat) (xs : List V), vs = [.ref a, .ref b] ∧ PotAt H a n ∧ n < 1000000 ∧ SqL K H b xs ∧ b ≠ a ∧ 0 < xs.length ∧ xs.length ≤ 1000 ∧
  ∀ (v : V) (H' : Hp), v ∈ xs → PotAt H' a (n + 1) → But a H H' → Q v H'
def spPot (K : PySem.W.Frag) : Sp := fun vs H Q _ => ∃ (a : Addr) (ns : List Int) (k : Nat), vs = [.ref a, .int k] ∧ SqL K H a (ns.map V.int) ∧ ns.length ≤ 63 ∧ k ≤ 100 ∧
  ∀ (p : Addr) (H' : Hp), H p = none → Same H H' → PotAt H' p 0 → Q (.ref p) H'
theorem primes_at {i : Int} (h0 : 0 ≤ i) (h1 : i < 5) : ∃ p : Int, atI [V.int 2147483647, V.int 2147483629, V.int 2147483587, V.int 2147483579, V.int 2147483563] i = some (.int p) ∧ 0 < p ∧ p < 2 ^ 31 := by
  have h : i = 0 ∨ i = 1 ∨ i = 2 ∨ i = 3 ∨ i = 4 := by omega
  rcases h with rfl | rfl | rfl | rfl | rfl
  · exact ⟨_, rfl, by decide, by decide⟩
  · exact ⟨_, rfl, by decide, by decide⟩
  · exact ⟨_, rfl, by decide, by decide⟩
  · exact ⟨_, rfl, by decide, by decide⟩
  · exact ⟨_, rfl, by decide, by decide⟩
theorem pow_room {s c : Int} (h1 : 0 ≤ s) (h2 : s < 2 ^ 62) (h3 : 0 ≤ c) (h4 : c ≤ 1000000) : (s + 8123 * c * c + 41 * c).natAbs < 2 ^ 64 := by
  have e : 8123 * c * c ≤ 8123 * 1000000 * 1000000 := by
    have a1 : 8123 * c ≤ 8123 * 1000000 := by omega
    exact Int.mul_le_mul a1 h4 h3 (by decide)
  have e0 : 0 ≤ 8123 * c * c := Int.mul_nonneg (by omega) h3
  omega
theorem iteF' {A B : Prop} (h : B) : if false = true then A else B := iteF h
structure Bl (mg : Str → Option Value) : Prop where
  len : mg "len" = none
  abs : mg "abs" = none
  min : mg "min" = none
  max : mg "max" = none
  range : mg "range" = none
  all : mg "all" = none
  any : mg "any" = none
  repr : mg "repr" = none
  tuple : mg "tuple" = none
  list : mg "list" = none
  sorted : mg "sorted" = none
  enumerate : mg "enumerate" = none
  zip : mg "zip" = none
  isinstance : mg "isinstance" = none
  int : mg "int" = none
  bool : mg "bool" = none
  sum : mg "sum" = none
theorem cdiv17 : CDivW x 17 := wide_div (b := 5) (by decide) (by decide) (by decide) (by decide)
theorem log2_600 {z : Int} (h : 0 < z) (h2 : z.natAbs < 2 ^ 600) {x : Int} : CDivW x z := wide_div (b := 600) h h2 (by decide) (by decide)
theorem three_of (L : Nat) : ∃ n : Nat, (if (if (L : Int) < 3 then (L : Int) else 3) > 1 then (if (L : Int) < 3 then (L : Int) else 3) else 1) = (n : Int) ∧ 1 ≤ n ∧ n ≤ 3 := by
  by_cases h : (L : Int) < 3
  · rw [if_pos h]
    by_cases h1 : (L : Int) > 1
    · rw [if_pos h1]
      exact ⟨L, rfl, by omega, by omega⟩
    · rw [if_neg h1]
      exact ⟨1, rfl, by omega, by omega⟩
  · rw [if_neg h]
    exact ⟨3, rfl, by omega, by omega⟩
abbrev s_law_draw : Stmt := (top 47)
abbrev N_law_draw : List Str := ["_law_pool_here", "_law_limit", "_law_digit", "_law_turn", "_law_prime", "_law_mixed"]
theorem sc_law_draw : FnScope N_law_draw ["_law_pool_here", "_law_limit"] (defScope s_law_draw) :=
  ⟨rfl, rfl, rfl, by decide +kernel, rfl, by decide +kernel, by decide +kernel⟩
abbrev s_law_pick : Stmt := (top 48)
abbrev N_law_pick : List Str := ["_law_pool_here", "_law_some"]
theorem sc_law_pick : FnScope N_law_pick ["_law_pool_here", "_law_some"] (defScope s_law_pick) :=
  ⟨rfl, rfl, rfl, by decide +kernel, rfl, by decide +kernel, by decide +kernel⟩
abbrev s_law_pool : Stmt := (top 46)
abbrev N_law_pool : List Str := ["_law_script", "_law_k", "_law_great", "_law_own"]
theorem sc_law_pool : FnScope N_law_pool ["_law_script", "_law_k"] (defScope s_law_pool) :=
  ⟨rfl, rfl, rfl, by decide +kernel, rfl, by decide +kernel, by decide +kernel⟩
section
variable {P : Program} {w : World} {K : PySem.W.Frag} {mg : Str → Option Value} {base : Heap}
theorem ok_take (D : Df K mg "_law_draw" s_law_draw ["_law_pool_here", "_law_limit"]) (T : Bl mg) : Has P w K mg base 1 "_law_draw" ["_law_pool_here", "_law_limit"] spTake := by
  refine D.has sc_law_draw (fun vs H Q E h => ?_) (fun f cdv A outer s H vs Q E gd hr h => ?_)
  · obtain ⟨a, n, z, rfl, _⟩ := h
    rfl
  · obtain ⟨a, n, z, rfl, ⟨g, sd, c, hp, hs0, hs1, hc0, hc1⟩, hn, hz, hz2, k⟩ := h
    refine ⟨_, (pss_cons (ps_if (pt_cmpR op_gt (pe_ix ix_list (pv 0) pe_int (fun _ _ => rfl)) pe_int (nomark _)) (pss_cons (ps_set (i := 2) sc_law_draw.nd rfl (Or.inl rfl) (pe_op op_mod (pe_ix ix_list (pv 0) pe_int (fun _ _ => rfl)) (pv 1)))
      (pss_cons (ps_asg (pe_op op_fdivW (pe_ix ix_list (pv 0) pe_int (fun _ _ => rfl)) (pv 1)) (pg_sub (pv 0) pe_int set_list))
      (pss_one (ps_ret (pv 2))))) pss_nil)
      (pss_cons (ps_asg (pe_op op_add (pe_ix ix_list (pv 0) pe_int (fun _ _ => rfl)) pe_int) (pg_sub (pv 0) pe_int set_list))
      (pss_cons (ps_set (i := 3) sc_law_draw.nd rfl (Or.inl rfl) (pe_ix ix_list (pv 0) pe_int (fun _ _ => rfl)))
      (pss_cons (ps_set (i := 4) sc_law_draw.nd rfl (Or.inl rfl) (pe_ix ix_list (pe_lst (pa_cons pe_int (pa_cons pe_int (pa_cons pe_int (pa_cons pe_int (pa_cons pe_int pa_nil)))))) (pe_op op_mod (pv 3) pe_int) (fun _ _ => rfl)))
      (pss_cons (ps_set (i := 5) sc_law_draw.nd rfl (Or.inl rfl) (pe_op op_mod (pe_op op_pow (pe_op op_add (pe_op op_add (pe_ix ix_list (pv 0) pe_int (fun _ _ => rfl)) (pe_op op_mul (pe_op op_mul pe_int (pv 3)) (pv 3))) (pe_op op_mul pe_int (pv 3))) pe_int) (pv 4)))
      (pss_one (ps_ret (pe_op op_mod (pe_op op_fdivW (pe_op op_mod (pe_op op_mul (pv 5) (pe_op op_add (pe_op op_add (pe_op op_mod (pv 5) pe_int) (pe_op op_mul pe_int (pv 3))) pe_int)) (pv 4)) pe_int) (pv 1))))))))), ?_⟩
    refine ⟨_, rfl, a, _, _, _, rfl, rfl, SqL.of hp, rfl, _, _, rfl, rfl, _, rfl, ?_⟩
    refine ite2 (fun _ => ?_) (fun _ => ?_)
    · refine ⟨_, rfl, a, _, _, _, rfl, rfl, SqL.of hp, rfl, _, rfl, _, _, rfl, rfl, hz, _, rfl, a, _, _, _, rfl, rfl, SqL.of hp, rfl, _, rfl, _, _, rfl, rfl, log2_600 hz hz2, _, rfl, a, _, _, 0, rfl, rfl, hp, rfl, _, rfl, ?_⟩
      exact k _ _ (Int.emod_nonneg _ (by omega)) (Int.emod_lt_of_pos _ hz) ⟨_, sd, c, upd_same, hs0, hs1, hc0, by omega⟩ (fun b o e ne => by rw [upd_ne ne]; exact e)
    · refine ⟨_, rfl, a, _, _, _, rfl, rfl, SqL.of hp, rfl, _, _, rfl, rfl, _, rfl, a, _, _, 2, rfl, rfl, hp, rfl, ?_⟩
      have hpa : upd H a (.lst [.int g, .int sd, .int (c + 1)]) a = some (.lst [.int g, .int sd, .int (c + 1)]) := upd_same
      refine ⟨_, rfl, a, _, _, _, rfl, rfl, SqL.of hpa, rfl, by decide, fun l hl => ?_⟩
      have nl : a ≠ l := ne_of_none upd_same hl
      have hp2 : ∀ o, upd (upd H a (.lst [.int g, .int sd, .int (c + 1)])) l o a = some (.lst [.int g, .int sd, .int (c + 1)]) := fun o => by
        rw [upd_ne nl]
        exact upd_same
      obtain ⟨p, hat, hp0, hp1⟩ := primes_at (i := (c + 1) % 5) (Int.emod_nonneg _ (by decide)) (Int.emod_lt_of_pos _ (by decide))
      refine ⟨_, rfl, _, _, rfl, rfl, (by show (0 : Int) < 5; decide), l, _, _, _, rfl, rfl, SqL.of upd_same, hat, ?_⟩
      refine ⟨_, rfl, a, _, _, _, rfl, rfl, SqL.of (hp2 _), rfl, _, rfl, _, _, rfl, rfl, .inl ⟨by decide, by decide⟩, _, rfl, _, _, rfl, rfl, .inl ⟨by omega, by omega⟩, _, _, rfl, rfl, _, rfl, _, _, rfl, rfl, .inl ⟨by decide, by decide⟩,
        _, _, rfl, rfl, _, _, rfl, rfl, ⟨by decide, by decide, pow_room hs0 hs1 (by omega) (by omega)⟩, _, rfl, _, _, rfl, rfl, hp0, ?_⟩
      generalize em : ((sd + 8123 * (c + 1) * (c + 1) + 41 * (c + 1)) ^ (Int.toNat 3) % p) = m
      have m0 : 0 ≤ m := by rw [← em]; exact Int.emod_nonneg _ (by omega)
      have m1 : m < 2 ^ 31 := by have := Int.emod_lt_of_pos ((sd + 8123 * (c + 1) * (c + 1) + 41 * (c + 1)) ^ (Int.toNat 3)) hp0; omega
      refine ⟨_, rfl, _, rfl, _, _, rfl, rfl, (by show (0 : Int) < 1009; decide), _, rfl, _, _, rfl, rfl, .inl ⟨by decide, by decide⟩, _, _, rfl, rfl, _, _, rfl, rfl, _, _, rfl, rfl, .inl ⟨by omega, by omega⟩,
        _, rfl, _, _, rfl, rfl, hp0, _, _, rfl, rfl, cdiv17, _, rfl, _, _, rfl, rfl, hz, ?_⟩
      refine k _ _ (Int.emod_nonneg _ (by omega)) (Int.emod_lt_of_pos _ hz) ⟨g, sd, c + 1, hp2 _, hs0, hs1, by omega, by omega⟩ (fun b o e ne => ?_)
      have hl' : H l = none := by
        rw [upd_ne nl.symm] at hl
        exact hl
      rw [upd_ne (ne_of_none e hl'), upd_ne ne]
      exact e
theorem ok_pick (D : Df K mg "_law_pick" s_law_pick ["_law_pool_here", "_law_some"]) (T : Bl mg) (C_law_draw : Has P w K mg base 1 "_law_draw" ["_law_pool_here", "_law_limit"] spTake) : Has P w K mg base 2 "_law_pick" ["_law_pool_here", "_law_some"] (spPick K) := by
  refine D.has sc_law_pick (fun vs H Q E h => ?_) (fun f cdv A outer s H vs Q E gd hr h => ?_)
  · obtain ⟨a, b, n, xs, rfl, _⟩ := h
    rfl
  · obtain ⟨a, b, n, xs, rfl, hp, hn, hx, ne, h0, h1, k⟩ := h
    refine ⟨_, (pss_one (ps_ret (pe_ix ix_list (pv 1) (pe_has C_law_draw gd (hr.mono (by decide)) rfl (pa_cons (pv 0) (pa_cons (pe_callB call_len_seq (by rfl) T.len PySem.boot_len (pa_cons (pv 1) pa_nil)) pa_nil))) (fun _ _ => rfl)))), ?_⟩
    refine ⟨_, rfl, _, rfl, _, rfl, b, _, rfl, .inl hx, a, n, _, rfl, hp, hn, (by omega), ?_, fun d H' d0 d1 hp' bt => ?_⟩
    · exact Nat.lt_of_le_of_lt (show ((xs.length : Int)).natAbs ≤ 1000 by omega) (by decide)
    · have hi : d.toNat < xs.length := by omega
      refine ⟨b, _, _, xs[d.toNat], rfl, rfl, bt.seq ne hx, at_of (j := d.toNat) (by omega) (List.getElem?_eq_getElem hi), ?_⟩
      exact k _ H' (List.getElem_mem hi) hp' bt
theorem ok_pot (D : Df K mg "_law_pool" s_law_pool ["_law_script", "_law_k"]) (T : Bl mg) : Has P w K mg base 1 "_law_pool" ["_law_script", "_law_k"] (spPot K) := by
  refine D.has sc_law_pool (fun vs H Q E h => ?_) (fun f cdv A outer s H vs Q E gd hr h => ?_)
  · obtain ⟨a, ns, i, rfl, _⟩ := h
    rfl
  · obtain ⟨a, ns, i, rfl, hS, hl, hi, k⟩ := h
    refine ⟨_, (pss_cons (ps_set (i := 2) sc_law_pool.nd rfl (Or.inl rfl) (pe_ifExp (pt_cmpR op_lt (pv 1) (pe_callB call_len_seq (by rfl) T.len PySem.boot_len (pa_cons (pv 0) pa_nil)) (nomark _)) (pe_ix ix_list (pv 0) (pv 1) (fun _ _ => rfl)) (pe_op op_add (pe_op op_mul pe_int (pv 1)) pe_int)))
      (pss_cons (ps_set (i := 3) sc_law_pool.nd rfl (Or.inl rfl) (pe_op op_mul (pe_op op_mod (pe_callB call_abs (by rfl) T.abs (by decide +kernel) (pa_cons (pv 2) pa_nil)) (pe_op op_powB (pe_op op_pow pe_int pe_int) pe_int)) (pe_callTy call_int1 (by rfl) T.int (by decide +kernel) (pa_cons (pe_cmpR op_ge (pe_callB call_abs (by rfl) T.abs (by decide +kernel) (pa_cons (pv 2) pa_nil)) (pe_op op_pow pe_int pe_int) (nomark _)) pa_nil))))
      (pss_one (ps_ret (pe_lst (pa_cons (pv 3) (pa_cons (pe_op op_mod (pe_op op_mul (pe_op op_add (pe_op op_add (pe_op op_mod (pv 2) pe_int) (pe_op op_mul pe_int (pv 1))) pe_int) pe_int) pe_int) (pa_cons pe_int pa_nil)))))))), ?_⟩
    have done : ∀ (cell great : Int) (H0 : Hp) (p : Addr), H p = none → Same H H0 → H0 p = none → Q (.ref p) (upd H0 p (.lst [.int great, .int ((cell % 2305843009213693951 + 6113 * (i : Int) + 57) * 16807 % 2147483399), .int 0])) := by
      intro cell great H0 p hp sm hp0
      refine k p _ hp (sm.trans (same_upd hp0)) ⟨_, _, _, upd_same, Int.emod_nonneg _ (by decide), ?_, Int.le_refl _, Int.le_refl _⟩
      exact Int.lt_trans (Int.emod_lt_of_pos _ (by decide)) (by decide)
    refine ⟨_, rfl, _, rfl, a, _, rfl, .inl hS, _, _, rfl, rfl, _, rfl, ?_⟩
    refine ite2 (fun hlt => ?_) (fun hge => ?_)
    · have hi2 : i < ns.length := by
        have := of_decide_eq_true hlt
        rw [List.length_map] at this
        omega
      refine ⟨_, rfl, _, rfl, a, _, _, _, rfl, rfl, hS, atI_nat (v := V.int ns[i]) (by rw [List.getElem?_map, List.getElem?_eq_getElem hi2]; rfl), ?_⟩
      refine ⟨_, rfl, _, rfl, _, _, rfl, rfl, ⟨by decide, by decide, by decide⟩, _, _, rfl, rfl, ⟨by decide, by decide +kernel⟩, _, _, rfl, rfl, Int.pow_pos (Int.pow_pos (by decide)), ?_⟩
      refine ⟨_, rfl, _, rfl, _, _, rfl, rfl, ⟨by decide, by decide, by decide⟩, _, _, rfl, rfl, .inr ⟨_, rfl, _, _, rfl, rfl, .inr (b01 _), ?_⟩⟩
      refine ⟨_, rfl, _, rfl, _, _, rfl, rfl, (by show (0 : Int) < 2305843009213693951; decide), _, rfl, _, _, rfl, rfl, .inl ⟨by decide, by decide⟩, _, _, rfl, rfl, _, _, rfl, rfl, _, _, rfl, rfl, .inr ⟨by decide, by decide⟩,
        _, _, rfl, rfl, (by show (0 : Int) < 2147483399; decide), by show 3 ≤ sizeLine; decide, fun p hp => ?_⟩
      exact done _ _ _ p hp (Same.refl _) hp
    · refine ⟨_, rfl, _, _, rfl, rfl, .inl ⟨by decide, by decide⟩, _, _, rfl, rfl, ?_⟩
      refine ⟨_, rfl, _, rfl, _, _, rfl, rfl, ⟨by decide, by decide, by decide⟩, _, _, rfl, rfl, ⟨by decide, by decide +kernel⟩, _, _, rfl, rfl, Int.pow_pos (Int.pow_pos (by decide)), ?_⟩
      refine ⟨_, rfl, _, rfl, _, _, rfl, rfl, ⟨by decide, by decide, by decide⟩, _, _, rfl, rfl, .inr ⟨_, rfl, _, _, rfl, rfl, .inr (b01 _), ?_⟩⟩
      refine ⟨_, rfl, _, rfl, _, _, rfl, rfl, (by show (0 : Int) < 2305843009213693951; decide), _, rfl, _, _, rfl, rfl, .inl ⟨by decide, by decide⟩, _, _, rfl, rfl, _, _, rfl, rfl, _, _, rfl, rfl, .inr ⟨by decide, by decide⟩,
        _, _, rfl, rfl, (by show (0 : Int) < 2147483399; decide), by show 3 ≤ sizeLine; decide, fun p hp => ?_⟩
      exact done _ _ _ p hp (Same.refl _) hp
end
abbrev s_law_lives : Stmt := (top 49)
abbrev N_law_lives : List Str := ["_law_pool_here", "_law_top", "_law_upto", "_law_found", "_law_here", "_law_turn", "_law_rise_now"]
theorem sc_law_lives : FnScope N_law_lives ["_law_pool_here", "_law_top", "_law_upto"] (defScope s_law_lives) :=
  ⟨rfl, rfl, rfl, by decide +kernel, rfl, by decide +kernel, by decide +kernel⟩
def spLives : Sp := fun vs H Q _ => ∃ (a : Addr) (n : Nat) (top upto : Int), vs = [.ref a, .int top, .int upto] ∧ PotAt H a n ∧ n < 500000 ∧ 0 ≤ top ∧ top ≤ 10 ^ 18 ∧ 1 ≤ upto ∧ upto ≤ 40 ∧
  ∀ (r : Addr) (ls : List (Option Int)) (H' : Hp), H r = none → H' r = some (.tup (ls.map lv)) → Good ls → (ls.length : Int) ≤ upto → PotAt H' a (n + 200) → But a H H' → Q (.ref r) H'
theorem ixN_last {n : Nat} (h : 0 < n) : ixN n (-1) = some (n - 1) := by
  unfold ixN
  rw [if_neg (by omega), if_pos (by omega)]
  congr 1
  omega
section
variable {P : Program} {w : World} {K : PySem.W.Frag} {mg : Str → Option Value} {base : Heap}
theorem ok_lives (D : Df K mg "_law_lives" s_law_lives ["_law_pool_here", "_law_top", "_law_upto"]) (T : Bl mg) (C_law_draw : Has P w K mg base 1 "_law_draw" ["_law_pool_here", "_law_limit"] spTake) (C_law_pick : Has P w K mg base 2 "_law_pick" ["_law_pool_here", "_law_some"] (spPick K)) : Has P w K mg base 3 "_law_lives" ["_law_pool_here", "_law_top", "_law_upto"] spLives := by
  refine D.has sc_law_lives (fun vs H Q E h => ?_) (fun f cdv A outer s H vs Q E gd hr h => ?_)
  · obtain ⟨a, n, top, upto, rfl, _⟩ := h
    rfl
  · obtain ⟨a, n, top, upto, rfl, hp, hn, t0, t1, l0, l1, k⟩ := h
    have tb : (top + 1).natAbs < 2 ^ 600 := small600 (by omega) (by omega)
    refine ⟨_, (pss_cons (ps_par (i := 3) (j := 4) rfl sc_law_lives.nd rfl rfl (by decide) rfl rfl (pa_cons (pe_lst pa_nil) (pa_cons pe_int pa_nil)) (by rfl))
      (pss_cons (ps_for PassesOwn.never rfl (pi_range1 rfl T.range (pa_cons (pe_op op_add pe_int (pe_has C_law_draw gd (hr.mono (by decide)) rfl (pa_cons (pv 0) (pa_cons (pv 2) pa_nil)))) pa_nil)) (pg_name (i := 5) sc_law_lives.nd rfl (Or.inl rfl)) (pss_cons (ps_set (i := 6) sc_law_lives.nd rfl (Or.inl rfl) (pe_has C_law_pick gd (hr.mono (by decide)) rfl (pa_cons (pv 0) (pa_cons (pe_lst (pa_cons pe_int (pa_cons pe_int (pa_cons pe_int (pa_cons (pe_has C_law_draw gd (hr.mono (by decide)) rfl (pa_cons (pv 0) (pa_cons (pe_op op_add (pv 1) pe_int) pa_nil))) (pa_cons (pe_has C_law_draw gd (hr.mono (by decide)) rfl (pa_cons (pv 0) (pa_cons (pe_op op_add (pv 1) pe_int) pa_nil))) pa_nil)))))) pa_nil))))
      (pss_cons (ps_set (i := 4) sc_law_lives.nd rfl (Or.inl rfl) (pe_callB (call_min2 rfl) (by rfl) T.min (by decide +kernel) (pa_cons (pe_op op_pow pe_int pe_int) (pa_cons (pe_op op_add (pv 4) (pv 6)) pa_nil))))
      (pss_one (ps_expr (pe_bm PySem.F.plainAttrs_list PySem.F.slot_list_append PySem.F.type_list_append mt_append (pv 3) (pa_cons (pv 4) pa_nil)))))))
      (pss_cons (ps_if (pt_cmpR op_eq (pe_has C_law_draw gd (hr.mono (by decide)) rfl (pa_cons (pv 0) (pa_cons pe_int pa_nil))) pe_int (nomark _)) (pss_one (ps_asg pe_non (pg_sub (pv 3) (pe_un un_neg pe_int) set_list))) pss_nil)
      (pss_one (ps_ret (pe_callTy call_tuple_of (by rfl) T.tuple (by decide +kernel) (pa_cons (pv 3) pa_nil))))))), ?_⟩
    refine ⟨Nat.zero_le _, fun F hF => ?_⟩
    have nFa : F ≠ a := (hp.ne hF).symm
    refine ⟨_, _, rfl, ?_⟩
    refine ⟨_, rfl, _, rfl, a, n, upto, rfl, hp.same (same_upd hF), by omega, by omega, small600 (by omega) (by omega), fun d3 H3 v0 v1 p3 b3 => ?_⟩
    obtain ⟨m, rfl⟩ := Int.eq_ofNat_of_zero_le v0
    have em : (1 + (m : Int)).toNat = m + 1 := by omega
    refine ⟨_, _, rfl, rfl, 1 + (m : Int), rfl, by omega, by omega, ?_⟩
    rw [em]
    have b03 : But a H H3 := (But.of (same_upd hF)).trans b3
    refine for_range (n := m + 1) (fun i σ H' => ∃ (x y : Option V) (is : List Int) (life : Int), σ = [some (.ref a), some (.int top), some (.int upto), some (.ref F), some (.int life), x, y] ∧ H' F = some (.lst (is.map V.int)) ∧ is.length = i ∧ Asc is ∧
      (∀ y ∈ is, 0 ≤ y ∧ y ≤ life) ∧ 0 ≤ life ∧ life ≤ 10 ^ 18 ∧ PotAt H' a (n + 1 + 3 * i) ∧ But a H H') ⟨none, none, [], 0, rfl, b3 _ _ upd_same nFa, rfl, asc_nil, (fun y hy => nomatch hy), Int.le_refl _, by decide, p3, b03⟩ ?_ ?_
    · rintro i σ H4 hi ⟨x, y, is, life, rfl, eF, hl, ha, hb, L0, L1, p4, b4⟩
      refine ⟨_, rfl, _, rfl, _, rfl, _, _, rfl, rfl, a, _, _, rfl, p4, by omega, by omega, tb, fun d6 H6 w0 w1 p6 b6 => ?_⟩
      refine ⟨_, rfl, _, rfl, _, _, rfl, rfl, a, _, _, rfl, p6, by omega, by omega, tb, fun d7 H7 y0 y1 p7 b7 => ?_⟩
      refine ⟨by show 5 ≤ sizeLine; decide, fun N hN => ?_⟩
      refine ⟨a, N, _, _, rfl, p7.same (same_upd hN), by omega, SqL.of upd_same, (p7.ne hN).symm, by show 0 < 5; decide, by show 5 ≤ 1000; decide, fun v H8 hv p8 b8 => ?_⟩
      obtain ⟨q, rfl, q0⟩ : ∃ q : Int, v = .int q ∧ 0 ≤ q := by
        rcases List.mem_cons.mp hv with rfl | hv
        · exact ⟨_, rfl, by decide⟩
        rcases List.mem_cons.mp hv with rfl | hv
        · exact ⟨_, rfl, by decide⟩
        rcases List.mem_cons.mp hv with rfl | hv
        · exact ⟨_, rfl, by decide⟩
        rcases List.mem_cons.mp hv with rfl | hv
        · exact ⟨_, rfl, w0⟩
        · rw [List.mem_singleton.mp hv]
          exact ⟨_, rfl, y0⟩
      have eF8 : H8 F = some (.lst (is.map V.int)) := b8 _ _ (same_upd hN _ _ (b7 _ _ (b6 _ _ eF nFa) nFa)) nFa
      have b48 : But a H4 H8 := (b6.trans b7).trans ((But.of (same_upd hN)).trans b8)
      have mn : life ≤ (if life + q < (10 : Int) ^ 18 then life + q else (10 : Int) ^ 18) ∧ (if life + q < (10 : Int) ^ 18 then life + q else (10 : Int) ^ 18) ≤ (10 : Int) ^ 18 := by
        by_cases h : life + q < (10 : Int) ^ 18
        · rw [if_pos h]; omega
        · rw [if_neg h]; omega
      refine ⟨_, _, rfl, rfl, ⟨by decide, by decide, by decide⟩, _, rfl, _, rfl, _, _, rfl, rfl, _, _, rfl, ?_⟩
      refine ⟨_, rfl, .inl ⟨rfl, _, SqL.of eF8⟩, _, rfl, F, _, _, rfl, rfl, eF8, small1000 (by rw [List.length_map]; omega), ?_⟩
      refine ⟨_, _, is ++ [if life + q < (10 : Int) ^ 18 then life + q else (10 : Int) ^ 18], (if life + q < (10 : Int) ^ 18 then life + q else (10 : Int) ^ 18), rfl, by rw [upd_same, List.map_append]; rfl, by rw [List.length_append, hl]; rfl, asc_snoc ha (fun y hy => Int.le_trans (hb y hy).2 mn.1), ?_, by omega, mn.2, (p8.upd nFa.symm).mono (by omega), (b4.trans b48).new hF⟩
      intro y hy
      rcases List.mem_append.mp hy with h | h
      · have := hb y h
        omega
      · rw [List.mem_singleton.mp h]
        omega
    · rintro σ H4 ⟨x, y, is, life, rfl, eF, hl, ha, hb, L0, L1, p4, b4⟩
      obtain ⟨ini, z2, rfl⟩ : ∃ ini z2, is = ini ++ [z2] := ⟨is.dropLast, is.getLast (by intro z; rw [z] at hl; cases hl), (List.dropLast_concat_getLast _).symm⟩
      have li : ini.length = m := by
        rw [List.length_append] at hl
        exact Nat.succ.inj hl
      have hb' : ∀ y ∈ ini ++ [z2], 0 ≤ y ∧ y ≤ 10 ^ 18 := fun y hy => by have := hb y hy; omega
      refine ⟨_, rfl, a, _, 6, rfl, p4, by omega, by decide, by decide, fun d5 H5 w0 w1 p5 b5 => ⟨rfl, _, rfl, ?_⟩⟩
      have eF5 := b5 _ _ eF nFa
      have b45 := b4.trans b5
      have fin : ∀ (G : Hp) (ls : List (Option Int)), G F = some (.lst (ls.map lv)) → Good ls → ls.length = m + 1 → PotAt G a (n + 200) → But a H G → ∀ r, G r = none → Q (.ref r) (upd G r (.tup (ls.map lv))) := fun G ls e g el pg bg r hr => by
        have hr0 := bg.free pg hr
        refine k r ls _ hr0 upd_same g (by omega) (pg.upd (pg.ne hr)) (fun b o e2 ne => ?_)
        rw [upd_ne (ne_of_none e2 hr0)]
        exact bg b o e2 ne
      refine ite2 (fun _ => ?_) (fun _ => ?_)
      · refine ⟨_, rfl, _, rfl, F, _, _, ini.length, rfl, rfl, eF5, (ixN_last (by simp)).trans (by simp), ?_⟩
        have es : (((ini ++ [z2]).map V.int).set ini.length V.non) = (ini.map some ++ [none]).map lv := by
          rw [List.map_append, List.map_append, map_lv_some, List.set_append_right _ _ (by rw [List.length_map]; exact Nat.le_refl _), List.length_map, Nat.sub_self]
          rfl
        rw [es]
        refine ⟨_, rfl, F, _, rfl, .inl ⟨SqL.of upd_same, ?_⟩⟩
        exact fin _ _ upd_same (good_none (by omega) (fun y hy => hb' y (List.mem_append_left _ hy)) (asc_init ha)) (by simp; exact li) ((p5.upd nFa.symm).mono (by omega)) (b45.new hF)
      · have es : (ini ++ [z2]).map V.int = (ini.map some ++ [some z2]).map lv := by
          rw [List.map_append, List.map_append, map_lv_some]
          rfl
        rw [es] at eF5
        refine ⟨_, rfl, F, _, rfl, .inl ⟨SqL.of eF5, ?_⟩⟩
        exact fin _ _ eF5 (good_ints (by omega) hb' ha) (by simp; exact li) (p5.mono (by omega)) b45
end
/-! SPLIT -/
abbrev s_is_natural : Stmt := (top 1)
abbrev N_is_natural : List Str := ["value"]
theorem sc_is_natural : FnScope N_is_natural ["value"] (defScope s_is_natural) :=
  ⟨rfl, rfl, rfl, by decide +kernel, rfl, by decide +kernel, by decide +kernel⟩
abbrev s_at_most : Stmt := (top 3)
abbrev N_at_most : List Str := ["one", "other"]
theorem sc_at_most : FnScope N_at_most ["one", "other"] (defScope s_at_most) :=
  ⟨rfl, rfl, rfl, by decide +kernel, rfl, by decide +kernel, by decide +kernel⟩
abbrev s_shortest : Stmt := (top 24)
abbrev N_shortest : List Str := ["lives", "length"]
theorem sc_shortest : FnScope N_shortest ["lives"] (defScope s_shortest) :=
  ⟨rfl, rfl, rfl, by decide +kernel, rfl, by decide +kernel, by decide +kernel⟩
abbrev s_Rule___init__ : Stmt := (inClass (top 29) 1)
abbrev N_Rule___init__ : List Str := ["self", "lives", "reckoned"]
theorem sc_Rule___init__ : FnScope N_Rule___init__ ["self", "lives"] (defScope s_Rule___init__) :=
  ⟨rfl, rfl, rfl, by decide +kernel, rfl, by decide +kernel, by decide +kernel⟩
abbrev s_Rule_are_lives : Stmt := (inClass (top 29) 2)
abbrev N_Rule_are_lives : List Str := ["value", "integers", "life", "following"]
theorem sc_Rule_are_lives : FnScope N_Rule_are_lives ["value"] (defScope s_Rule_are_lives) :=
  ⟨rfl, rfl, rfl, by decide +kernel, rfl, by decide +kernel, by decide +kernel⟩
abbrev s_Rule_of : Stmt := (inClass (top 29) 3)
abbrev N_Rule_of : List Str := ["cls", "lives"]
theorem sc_Rule_of : FnScope N_Rule_of ["cls", "lives"] (defScope s_Rule_of) :=
  ⟨rfl, rfl, rfl, by decide +kernel, rfl, by decide +kernel, by decide +kernel⟩
abbrev s_Rule___call__ : Stmt := (inClass (top 29) 10)
abbrev N_Rule___call__ : List Str := ["self", "age", "step", "life"]
theorem sc_Rule___call__ : FnScope N_Rule___call__ ["self", "age"] (defScope s_Rule___call__) :=
  ⟨rfl, rfl, rfl, by decide +kernel, rfl, by decide +kernel, by decide +kernel⟩
def spNat : Sp := fun vs H Q _ => ∃ i : Int, vs = [.int i] ∧ Q (.bl (decide (0 ≤ i))) H
def spAtMost : Sp := fun vs H Q _ => ∃ x y : Option Int, vs = [lv x, lv y] ∧ Q (.bl (leO x y)) H
def spShortest : Sp := fun vs H Q _ => ∃ (a : Addr) (ls : List (Option Int)), vs = [.ref a] ∧ H a = some (.tup (ls.map lv)) ∧ 0 < ls.length ∧ ls.length ≤ 1000 ∧ ∀ r H', Same H H' → H' r = some (.tup ((short ls).map lv)) → Q (.ref r) H'
def spAre (K : PySem.W.Frag) : Sp := fun vs H Q _ => ∃ (a : Addr) (ls : List (Option Int)), vs = [.ref a] ∧ SqT K H a (ls.map lv) ∧ Good ls ∧ ∀ H', Same H H' → Q (.bl true) H'
theorem tyx_tup {K : PySem.W.Frag} {H : Hp} {a : Addr} {xs : List V} (h : SqT K H a xs) : TyX K H (.ref a) (.type "tuple") := by
  rcases h with (h | ⟨o, h⟩) | ⟨o, its, n, h, c, _⟩
  · exact .base (.tup h)
  · exact .fTuple h
  · exact .kTuple h c
theorem walk_zipT {K : PySem.W.Frag} {a b : Addr} {xs ys : List V} {n : Nat} (hn : n = min xs.length ys.length) : Walk (RZ.ItzT K a b) n (fun H => SqT K H a xs ∧ SqT K H b ys) (YPair (fun i => xs[i]?) (fun i => ys[i]?)) := by
  subst hn
  constructor
  · intro i H hi q
    exact ⟨xs, ys, xs[i]'(by omega), ys[i]'(by omega), q.1, q.2, List.getElem?_eq_getElem _, List.getElem?_eq_getElem _⟩
  · intro H q
    exact ⟨xs, ys, q.1, q.2, by omega⟩
  · rintro i H v H' _ q ⟨T, x, z, h1, h2, h3, h4, h5⟩
    exact ⟨T, x, z, h1, h2, h3, h4 xs q.1, h5 ys q.2⟩
/-- what the text's top has made of the class and the module's constants -/
structure RuleT (K : PySem.W.Frag) (mg : Str → Option Value) (C CR : Addr) (mc : Value) (fInit pAre fAre : Addr) (fdAre : FuncData) : Prop where
  cl : Cls K C
  mkc : Mk K C fInit
  nL : NoAttr K C "_lives"
  m_Rule : mg "Rule" = some (.ref C)
  m_Reckoned : mg "Reckoned" = some (.ref CR)
  m_Long : ∃ t, mg "LONGEST_LIFE" = some (.int 1000000000000000000 t)
  rd : ClX.CRead K C mc
  most : ∃ u, ClX.CVal K C mc "MOST_LIVES" (.int 61) u
  s_are : SMet K C mc "are_lives" pAre fAre
  b_are : Binds K fdAre ["value"] []
  notR1 : PySem.W.kitOne K (.type "int") (.ref CR) = some false
  notR2 : PySem.W.kitOne K (.type "NoneType") (.ref CR) = some false
section
variable {P : Program} {w : World} {K : PySem.W.Frag} {mg : Str → Option Value} {base : Heap}
theorem ok_natural (D : Df K mg "is_natural" s_is_natural ["value"]) (T : Bl mg) : HasO P w K mg base 1 "is_natural" ["value"] spNat := by
  refine D.hasO sc_is_natural (fun vs H Q E h => ?_) (fun f cdv A outer s H vs Q E hr h => ?_)
  · obtain ⟨i, rfl, _⟩ := h
    rfl
  · obtain ⟨i, rfl, k⟩ := h
    refine ⟨_, (pss_one (ps_ret (pe_and (pe_callB call_isi (by rfl) T.isinstance (by decide +kernel) (pa_cons (pv 0) (pa_cons (pe_bltn (v := .ty "int") (by rfl) T.int (by decide +kernel) rfl) pa_nil))) (pe_and (pe_not (pe_callB call_isi (by rfl) T.isinstance (by decide +kernel) (pa_cons (pv 0) (pa_cons (pe_bltn (v := .ty "bool") (by rfl) T.bool (by decide +kernel) rfl) pa_nil)))) (pe_one (pe_cmpR op_ge (pv 0) pe_int (nomark _))))))), ?_⟩
    refine ⟨_, rfl, _, _, _, _, true, rfl, .ty _, .base (.int i), kit_ty (by decide +kernel), true, rfl, ?_⟩
    refine iteT ?_
    refine ⟨_, rfl, _, _, _, _, false, rfl, .ty _, .base (.int i), kit_ty (by decide +kernel), false, rfl, true, rfl, ?_⟩
    refine iteT ?_
    exact ⟨_, rfl, _, _, rfl, rfl, k⟩
theorem ok_at_most (D : Df K mg "at_most" s_at_most ["one", "other"]) : HasO P w K mg base 1 "at_most" ["one", "other"] spAtMost := by
  refine D.hasO sc_at_most (fun vs H Q E h => ?_) (fun f cdv A outer s H vs Q E hr h => ?_)
  · obtain ⟨x, y, rfl, _⟩ := h
    rfl
  · obtain ⟨x, y, rfl, k⟩ := h
    refine ⟨_, (pss_one (ps_ret (pe_or (pe_cmpR op_isN (pv 1) pe_non (nomark _)) (pe_one (pe_and (pe_cmpR op_notN (pv 0) pe_non (nomark _)) (pe_one (pe_cmpR op_le (pv 0) (pv 1) (nomark _)))))))), ?_⟩
    cases y with
    | none =>
      refine ⟨_, rfl, rfl, true, rfl, ?_⟩
      refine iteT ?_
      exact k
    | some b =>
      refine ⟨_, rfl, rfl, false, rfl, ?_⟩
      refine iteF ?_
      cases x with
      | none =>
        refine ⟨_, rfl, rfl, false, rfl, ?_⟩
        exact k
      | some a =>
        refine ⟨_, rfl, rfl, true, rfl, ?_⟩
        exact ⟨_, rfl, _, rfl, _, _, rfl, rfl, k⟩
theorem ok_shortest (D : Df K mg "shortest" s_shortest ["lives"]) (T : Bl mg) : HasO P w K mg base 1 "shortest" ["lives"] spShortest := by
  refine D.hasO sc_shortest (fun vs H Q E h => ?_) (fun f cdv A outer s H vs Q E hr h => ?_)
  · obtain ⟨a, ls, rfl, _⟩ := h
    rfl
  · obtain ⟨a, ls, rfl, ha, h0, h1, k⟩ := h
    refine ⟨_, (pss_cons (ps_set (i := 1) sc_shortest.nd rfl (Or.inl rfl) (pe_callB call_len_seq (by rfl) T.len PySem.boot_len (pa_cons (pv 0) pa_nil)))
      (pss_cons (ps_while PassesOwn.never (PW.pt (pw_and (pt_cmpR op_gt (pv 1) pe_int (nomark _)) (pw_and1 (pt_cmpR op_eq (pe_ix ix_tup (pv 0) (pe_op op_sub (pv 1) pe_int) (fun _ _ => rfl)) (pe_ix ix_tup (pv 0) (pe_op op_sub (pv 1) pe_int) (fun _ _ => rfl)) (nomark _))))) (pss_one (ps_aug (i := 1) sc_shortest.nd rfl (Or.inl rfl) pe_int ip_sub)))
      (pss_one (ps_ret (pe_slice sl_tupB (pv 0) po_none (po_some (pv 1))))))), ?_⟩
    refine ⟨_, rfl, a, _, rfl, .inr (SqT.of ha), ?_⟩
    refine ⟨fun m σ H' => H' = H ∧ ∃ n : Nat, σ = [some (.ref a), some (.int n)] ∧ 0 < n ∧ n ≤ ls.length ∧ n = m ∧ cutN ls n = cutN ls ls.length, ⟨_, rfl, ls.length, by rw [List.length_map]; rfl, h0, Nat.le_refl _, rfl, rfl⟩, ?_⟩
    rintro m σ H' ⟨rfl, n, rfl, n0, n1, rfl, hc⟩
    refine ⟨_, rfl, _, _, rfl, rfl, _, rfl, ?_⟩
    -- what follows the loop
    have fin : cutN ls n = n → ∀ r H2, (r = a ∧ H2 = H' ∧ cutV (ls.map lv) none (some (n : Int)) = ls.map lv) ∨ (H' r = none ∧ H2 = upd H' r (.tup (cutV (ls.map lv) none (some (n : Int))))) → Q (.ref r) H2 := by
      intro e r H2 hr2
      have ec : cutV (ls.map lv) none (some (n : Int)) = (short ls).map lv := by
        rw [cut_take _ _ (by rw [List.length_map]; exact n1)]
        unfold short
        rw [← hc, e, List.map_take]
      refine k r H2 (rSlB_same hr2) ?_
      rw [ec] at hr2
      rcases hr2 with ⟨e1, e2, e3⟩ | ⟨e1, e2⟩
      · rw [e1, e2, ha, ← e3]
      · rw [e2]
        exact upd_same
    refine ite2 (fun hn => ?_) (fun hn => ?_)
    · have hn' : 1 < n := by
        have := of_decide_eq_true hn
        omega
      obtain ⟨j, rfl⟩ : ∃ j, n = j + 2 := ⟨n - 2, by omega⟩
      have l1 : j + 1 < ls.length := by omega
      have l0 : j < ls.length := by omega
      have a1 : (ls.map lv)[j + 1]? = some (lv ls[j + 1]) := by rw [List.getElem?_map, List.getElem?_eq_getElem l1]; rfl
      have a0 : (ls.map lv)[j]? = some (lv ls[j]) := by rw [List.getElem?_map, List.getElem?_eq_getElem l0]; rfl
      refine ⟨_, rfl, _, rfl, _, _, rfl, rfl, a, _, _, _, rfl, rfl, SqT.of ha, at_of (j := j + 1) (by omega) a1, ?_⟩
      refine ⟨_, rfl, _, rfl, _, _, rfl, rfl, a, _, _, _, rfl, rfl, SqT.of ha, at_of (j := j) (by omega) a0, ?_⟩
      refine ⟨by cases ls[j + 1] <;> cases ls[j] <;> rfl, _, rfl, ?_⟩
      refine ite2 (fun he => ?_) (fun he => ?_)
      · have he' : ls[j + 1]? = ls[j]? := by
          rw [List.getElem?_eq_getElem l1, List.getElem?_eq_getElem l0, lv_inj (of_decide_eq_true he)]
        refine ⟨fun σ' H'' => H'' = H' ∧ σ' = [some (.ref a), some (.int ((j + 1 : Nat) : Int))], ?_, ?_⟩
        · rintro σ' H'' ⟨rfl, rfl⟩
          exact ⟨j + 1, by omega, rfl, j + 1, rfl, by omega, by omega, rfl, by rw [← hc, cutN_eq he']⟩
        · refine ⟨_, rfl, _, _, rfl, rfl, rfl, ?_⟩
          have e : ((j + 2 : Nat) : Int) - 1 = ((j + 1 : Nat) : Int) := by omega
          show [some (V.ref a), some (V.int (((j + 2 : Nat) : Int) - 1))] = _
          rw [e]
      · have he' : ¬ ls[j + 1]? = ls[j]? := by
          rw [List.getElem?_eq_getElem l1, List.getElem?_eq_getElem l0]
          intro z
          exact he (decide_eq_true (by rw [Option.some.inj z]))
        refine ⟨_, rfl, _, rfl, _, rfl, a, _, rfl, SqT.of ha, fin (cutN_ne he')⟩
    · have hn' : n = 1 := by
        have : ¬ (1 : Int) < (n : Int) := fun z => hn (decide_eq_true z)
        omega
      subst hn'
      refine ite2 (fun z => absurd z (by decide)) (fun _ => ?_)
      exact ⟨_, rfl, _, rfl, _, rfl, a, _, rfl, SqT.of ha, fin rfl⟩
variable {C CR : Addr} {mc : Value} {fInit pAre fAre : Addr} {fdAre fdInit : FuncData}
theorem ok_are (F : Fun K "are_lives" "Rule.are_lives" s_Rule_are_lives fAre fdAre) (T : Bl mg) (R : RuleT K mg C CR mc fInit pAre fAre fdAre) (C_is_natural : HasO P w K mg base 1 "is_natural" ["value"] spNat) : FnOk P w K mg base CX0 2 fAre fdAre ["value"] (spAre K) := by
  refine F.ok sc_Rule_are_lives (fun vs H Q E h => ?_) (fun cdv A outer s H vs Q E hr h => ?_)
  · obtain ⟨a, ls, rfl, _⟩ := h
    rfl
  · obtain ⟨a, ls, rfl, hS, g, k⟩ := h
    obtain ⟨tL, hLong⟩ := R.m_Long
    obtain ⟨uM, hMost⟩ := R.most
    refine ⟨_, (pss_cons (ps_if (PW.pt (pw_or (pt_not (pt_val (pe_callB call_isi (by rfl) T.isinstance (by decide +kernel) (pa_cons (pv 0) (pa_cons (pe_bltn (v := .ty "tuple") (by rfl) T.tuple (by decide +kernel) rfl) pa_nil))))) (pw_or1 (pt_not (pt_chain op_le op_le pe_int (pe_callB call_len_seq (by rfl) T.len PySem.boot_len (pa_cons (pv 0) pa_nil)) (ClX.pe_cval (pe_glob (v := .ref C) rfl R.m_Rule rfl))))))) (pss_one (ps_ret pe_bl)) pss_nil)
      (pss_cons (ps_set (i := 1) sc_Rule_are_lives.nd rfl (Or.inl rfl) (pe_ifExp (pt_cmpR op_isN (pe_ix ix_tup (pv 0) (pe_un un_neg pe_int) (fun _ _ => rfl)) pe_non (nomark _)) (pe_slice sl_tupB (pv 0) po_none (po_some (pe_un un_neg pe_int))) (pv 0)))
      (pss_cons (ps_if (pt_not (pt_val (pe_callB (cr_all rfl) (by rfl) T.all (by decide +kernel) (pa_cons (pe_lc (own := [("life", 2)]) (g := gName 2) (tt := tYes) rfl sc_Rule_are_lives.nd (pi_tup (pv 1)) (blkOk_by (N := N_Rule_are_lives) (sc := defScope s_Rule_are_lives) (by decide +kernel)) (fun _ _ _ _ _ => pg_name (i := 2) sc_Rule_are_lives.nd rfl (Or.inl rfl)) (fun _ _ _ _ _ => pts_nil) (fun _ _ _ _ _ => (pe_and (pe_hasO C_is_natural (hr.mono (by decide)) rfl (pa_cons (pv 2) pa_nil)) (pe_one (pe_cmpR op_le (pv 2) (pe_glob (v := .int 1000000000000000000) rfl hLong ⟨_, rfl⟩) (nomark _)))))) pa_nil)))) (pss_one (ps_ret pe_bl)) pss_nil)
      (pss_one (ps_ret (pe_callB (cr_all rfl) (by rfl) T.all (by decide +kernel) (pa_cons (pe_lc (own := [("life", 2), ("following", 3)]) (g := gTup _ 2 (gCons (gName 2) (gCons (gName 3) (gNil)))) (tt := tYes) rfl sc_Rule_are_lives.nd (RZ.pi_zipA rfl T.zip (pa_cons (pv 1) (pa_cons (pe_slice sl_tupB (pv 1) (po_some pe_int) po_none) pa_nil))) (blkOk_by (N := N_Rule_are_lives) (sc := defScope s_Rule_are_lives) (by decide +kernel)) (fun _ _ _ _ _ => pg_tup rfl (pgs_cons (pg_name (i := 2) sc_Rule_are_lives.nd rfl (Or.inl rfl)) (pgs_cons (pg_name (i := 3) sc_Rule_are_lives.nd rfl (Or.inl rfl)) pgs_nil))) (fun _ _ _ _ _ => pts_nil) (fun _ _ _ _ _ => (pe_cmpR op_le (pv 2) (pv 3) (nomark _)))) pa_nil))))))), ?_⟩
    refine ⟨_, rfl, _, _, _, _, true, rfl, .ty _, tyx_tup hS, kit_ty (by decide +kernel), _, rfl, ?_⟩
    refine ite2 (fun z => absurd z (by decide)) (fun _ => ?_)
    have hlen : (ls.map lv).length = ls.length := List.length_map _
    have hpos := g.pos
    have hmost := g.most
    refine ⟨_, rfl, a, _, rfl, .inr hS, _, _, rfl, rfl, _, rfl, ?_⟩
    refine ite2 (fun _ => ?_) (fun z => absurd (decide_eq_true (by omega)) z)
    refine ⟨C, mc, _, _, rfl, R.rd, hMost, _, _, rfl, rfl, _, rfl, ?_⟩
    refine ite2 (fun z => ?_) (fun _ => ?_)
    · have : decide (((ls.map lv).length : Int) ≤ 61) = true := decide_eq_true (by omega)
      rw [this] at z
      cases z
    obtain ⟨is, l, rfl, hb0, hb1⟩ := g.init
    have em : (is.map some ++ [l]).map lv = is.map V.int ++ [lv l] := by
      rw [List.map_append, List.map_map]
      rfl
    rw [em] at hS
    refine ⟨_, rfl, _, rfl, a, _, _, _, rfl, rfl, hS, atI_last _ _, rfl, _, rfl, ?_⟩
    cases l with
    | none =>
      refine iteT ?_
      refine ⟨_, rfl, _, rfl, _, rfl, a, _, rfl, hS, fun r H1 hr0 => ?_⟩
      have sm1 := rSlB_same hr0
      have hr1 := rSlB_at hS hr0
      rw [cut_init] at hr1
      have hlen2 : is.length < 61 := by
        rw [List.length_append, List.length_map] at hmost
        exact hmost
      have hasc : ∀ (i : Nat) (x y : Int), is[i]? = some x → is[i + 1]? = some y → x ≤ y := by
        intro i x y hx hy
        have l2 := (List.getElem?_eq_some_iff.mp hy).1
        have h2 := g.asc i (some x) (some y) (by rw [List.getElem?_append_left (by rw [List.length_map]; omega), List.getElem?_map, hx]; rfl) (by rw [List.getElem?_append_left (by rw [List.length_map]; omega), List.getElem?_map, hy]; rfl)
        exact of_decide_eq_true h2
      have hb := hb0
      generalize is = ns at *
      refine ⟨_, rfl, r, rfl, ⟨_, hr1⟩, fun D hD => lc_tup (xs := ns.map V.int) (fun i H' => H' D = some (.lst (List.replicate i (.bl true))) ∧ Same H1 H') ⟨upd_same, same_upd hD⟩ (fun i H' _ z => SqT.same z.2 hr1) ?_ ?_⟩
      · rintro i x H' hx ⟨e, sm⟩
        obtain ⟨n, hn, rfl⟩ := map_at hx
        have hb := hb n (List.mem_of_getElem? hn)
        have hd0 : decide (0 ≤ n) = true := decide_eq_true hb.1
        have hd1 : decide (n ≤ (1000000000000000000 : Int)) = true := decide_eq_true hb.2
        refine ⟨rfl, _, rfl, n, rfl, _, rfl, ?_⟩
        rw [hd0]
        refine iteT ?_
        refine ⟨_, rfl, _, _, rfl, rfl, ?_⟩
        refine ⟨_, e, ?_, ?_, ?_⟩
        · rw [List.length_replicate]
          have := (List.getElem?_eq_some_iff.mp hn).1
          exact small1000 (by omega)
        · rw [upd_same, List.replicate_succ']
          exact congrArg (fun z => some (HO.lst (List.replicate i (V.bl true) ++ [V.bl z]))) hd1
        · intro b o z
          rw [upd_ne (ne_of_none z hD)]
          exact sm b o z
      · rintro H2 ⟨e2, sm2⟩
        refine ⟨D, List.replicate (ns.map V.int).length true, rfl, SqL.of (by rw [e2, List.map_replicate]), _, rfl, ?_⟩
        refine ite2 (fun z => absurd z (by simp)) (fun _ => ?_)
        have hr2 := SqT.same sm2 hr1
        refine ⟨_, rfl, _, rfl, 1, rfl, r, _, rfl, hr2, fun r3 H3 hr3 => ?_⟩
        have sm3 := rSlB_same hr3
        have at3 := rSlB_at hr2 hr3
        rw [cut_drop] at at3
        refine ⟨r, r3, _, _, rfl, .inr ⟨SqT.same sm3 hr2, at3, fun D2 hD2 => ?_⟩⟩
        refine lc_it (walk_zipT (xs := ns.map V.int) (ys := (ns.map V.int).drop 1) (n := ns.length - 1) (by rw [List.length_drop, List.length_map]; omega)) (fun i H' => H' D2 = some (.lst (List.replicate i (.bl true))) ∧ Same H3 H') ⟨upd_same, same_upd hD2⟩
          (fun i H' _ z => ⟨SqT.same z.2 (SqT.same sm3 hr2), SqT.same z.2 at3⟩) ?_ ?_
        · rintro i x H4 H5 hi ⟨e4, sm4⟩ ⟨t, x0, y0, rfl, ht, rfl, hx0, hy0⟩
          obtain ⟨n0, hn0, rfl⟩ := map_at hx0
          have hy0' : (ns.map V.int)[i + 1]? = some y0 := by
            have z : ((ns.map V.int).drop 1)[i]? = some y0 := hy0
            rw [List.getElem?_drop, Nat.add_comm] at z
            exact z
          obtain ⟨n1, hn1, rfl⟩ := map_at hy0'
          have hle : decide (n0 ≤ n1) = true := decide_eq_true (hasc i n0 n1 hn0 hn1)
          refine ⟨t, _, rfl, SqT.of upd_same, rfl, _, _, rfl, _, _, rfl, rfl, rfl, ?_⟩
          refine ⟨_, rfl, _, rfl, _, _, rfl, rfl, ?_⟩
          have nt : D2 ≠ t := ne_of_none e4 ht
          refine ⟨_, Eq.trans (upd_ne nt) e4, ?_, ?_, ?_⟩
          · rw [List.length_replicate]
            exact small1000 (by omega)
          · rw [upd_same, List.replicate_succ']
            exact congrArg (fun z => some (HO.lst (List.replicate i (V.bl true) ++ [V.bl z]))) hle
          · intro b o z
            rw [upd_ne (ne_of_none z hD2), upd_ne (ne_of_none (sm4 b o z) ht)]
            exact sm4 b o z
        · rintro H4 ⟨e4, sm4⟩
          refine ⟨D2, List.replicate (ns.length - 1) true, rfl, SqL.of (by rw [e4, List.map_replicate]), ?_⟩
          have ea : (List.replicate (ns.length - 1) true).all _root_.id = true := by simp
          rw [ea]
          exact k _ (((sm1.trans sm2).trans sm3).trans sm4)
    | some m =>
      refine iteF ?_
      have hlen2 : (is ++ [m]).length ≤ 61 := by
        rw [List.length_append, List.length_map] at hmost
        rw [List.length_append]
        exact hmost
      have e2 : is.map some ++ [some m] = (is ++ [m]).map some := by rw [List.map_append]; rfl
      have hasc : ∀ (i : Nat) (x y : Int), (is ++ [m])[i]? = some x → (is ++ [m])[i + 1]? = some y → x ≤ y := by
        intro i x y hx hy
        have h2 := g.asc i (some x) (some y) (by rw [e2, List.getElem?_map, hx]; rfl) (by rw [e2, List.getElem?_map, hy]; rfl)
        exact of_decide_eq_true h2
      have hb : ∀ i ∈ (is ++ [m]), 0 ≤ i ∧ i ≤ 10 ^ 18 := by
        intro i hi
        rcases List.mem_append.mp hi with h | h
        · exact hb0 i h
        · exact hb1 i (congrArg some (List.mem_singleton.mp h).symm)
      have e3 : is.map V.int ++ [lv (some m)] = (is ++ [m]).map V.int := by rw [List.map_append]; rfl
      rw [e3] at hS
      generalize is ++ [m] = ns at *
      obtain ⟨r, H1, er, eH⟩ : ∃ r H1, r = a ∧ H1 = H := ⟨a, H, rfl, rfl⟩
      have hr1 : SqT K H1 r (ns.map V.int) := by rw [er, eH]; exact hS
      have sm1 : Same H H1 := by rw [eH]; exact Same.refl H
      rw [← eH, ← er]
      refine ⟨_, rfl, ?_⟩
      refine ⟨_, rfl, r, rfl, ⟨_, hr1⟩, fun D hD => lc_tup (xs := ns.map V.int) (fun i H' => H' D = some (.lst (List.replicate i (.bl true))) ∧ Same H1 H') ⟨upd_same, same_upd hD⟩ (fun i H' _ z => SqT.same z.2 hr1) ?_ ?_⟩
      · rintro i x H' hx ⟨e, sm⟩
        obtain ⟨n, hn, rfl⟩ := map_at hx
        have hb := hb n (List.mem_of_getElem? hn)
        have hd0 : decide (0 ≤ n) = true := decide_eq_true hb.1
        have hd1 : decide (n ≤ (1000000000000000000 : Int)) = true := decide_eq_true hb.2
        refine ⟨rfl, _, rfl, n, rfl, _, rfl, ?_⟩
        rw [hd0]
        refine iteT ?_
        refine ⟨_, rfl, _, _, rfl, rfl, ?_⟩
        refine ⟨_, e, ?_, ?_, ?_⟩
        · rw [List.length_replicate]
          have := (List.getElem?_eq_some_iff.mp hn).1
          exact small1000 (by omega)
        · rw [upd_same, List.replicate_succ']
          exact congrArg (fun z => some (HO.lst (List.replicate i (V.bl true) ++ [V.bl z]))) hd1
        · intro b o z
          rw [upd_ne (ne_of_none z hD)]
          exact sm b o z
      · rintro H2 ⟨e2, sm2⟩
        refine ⟨D, List.replicate (ns.map V.int).length true, rfl, SqL.of (by rw [e2, List.map_replicate]), _, rfl, ?_⟩
        refine ite2 (fun z => absurd z (by simp)) (fun _ => ?_)
        have hr2 := SqT.same sm2 hr1
        refine ⟨_, rfl, _, rfl, 1, rfl, r, _, rfl, hr2, fun r3 H3 hr3 => ?_⟩
        have sm3 := rSlB_same hr3
        have at3 := rSlB_at hr2 hr3
        rw [cut_drop] at at3
        refine ⟨r, r3, _, _, rfl, .inr ⟨SqT.same sm3 hr2, at3, fun D2 hD2 => ?_⟩⟩
        refine lc_it (walk_zipT (xs := ns.map V.int) (ys := (ns.map V.int).drop 1) (n := ns.length - 1) (by rw [List.length_drop, List.length_map]; omega)) (fun i H' => H' D2 = some (.lst (List.replicate i (.bl true))) ∧ Same H3 H') ⟨upd_same, same_upd hD2⟩
          (fun i H' _ z => ⟨SqT.same z.2 (SqT.same sm3 hr2), SqT.same z.2 at3⟩) ?_ ?_
        · rintro i x H4 H5 hi ⟨e4, sm4⟩ ⟨t, x0, y0, rfl, ht, rfl, hx0, hy0⟩
          obtain ⟨n0, hn0, rfl⟩ := map_at hx0
          have hy0' : (ns.map V.int)[i + 1]? = some y0 := by
            have z : ((ns.map V.int).drop 1)[i]? = some y0 := hy0
            rw [List.getElem?_drop, Nat.add_comm] at z
            exact z
          obtain ⟨n1, hn1, rfl⟩ := map_at hy0'
          have hle : decide (n0 ≤ n1) = true := decide_eq_true (hasc i n0 n1 hn0 hn1)
          refine ⟨t, _, rfl, SqT.of upd_same, rfl, _, _, rfl, _, _, rfl, rfl, rfl, ?_⟩
          refine ⟨_, rfl, _, rfl, _, _, rfl, rfl, ?_⟩
          have nt : D2 ≠ t := ne_of_none e4 ht
          refine ⟨_, Eq.trans (upd_ne nt) e4, ?_, ?_, ?_⟩
          · rw [List.length_replicate]
            exact small1000 (by omega)
          · rw [upd_same, List.replicate_succ']
            exact congrArg (fun z => some (HO.lst (List.replicate i (V.bl true) ++ [V.bl z]))) hle
          · intro b o z
            rw [upd_ne (ne_of_none z hD2), upd_ne (ne_of_none (sm4 b o z) ht)]
            exact sm4 b o z
        · rintro H4 ⟨e4, sm4⟩
          refine ⟨D2, List.replicate (ns.length - 1) true, rfl, SqL.of (by rw [e4, List.map_replicate]), ?_⟩
          have ea : (List.replicate (ns.length - 1) true).all _root_.id = true := by simp
          rw [ea]
          exact k _ (((sm1.trans sm2).trans sm3).trans sm4)
/-- a rule stands at r with these (shortest) lives -/
def RuleAt (C : Addr) (H : Hp) (r : Addr) (ls : List (Option Int)) : Prop := ∃ dx t, H r = some (.ins C dx (putF "_lives" (.ref t) [])) ∧ H t = some (.tup (ls.map lv))
theorem RuleAt.same {C r : Addr} {H H' : Hp} {ls : List (Option Int)} (h : RuleAt C H r ls) (s : Same H H') : RuleAt C H' r ls := by
  obtain ⟨dx, t, h1, h2⟩ := h
  exact ⟨dx, t, s _ _ h1, s _ _ h2⟩
def spInit (C : Addr) : Sp := fun vs H Q _ => ∃ (x p dx : Addr) (ls : List (Option Int)), vs = [.ref x, .ref p] ∧ H x = some (.ins C dx []) ∧ H p = some (.tup (ls.map lv)) ∧ Good ls ∧
  ∀ H', (∀ b o, H b = some o → b ≠ x → H' b = some o) → RuleAt C H' x (short ls) → Q .non H'
theorem ok_init (F : Fun K "__init__" "Rule.__init__" s_Rule___init__ fInit fdInit) (T : Bl mg) (R : RuleT K mg C CR mc fInit pAre fAre fdAre) (G_are : FnOk P w K mg base CX0 2 fAre fdAre ["value"] (spAre K)) (C_shortest : HasO P w K mg base 1 "shortest" ["lives"] spShortest) :
    FnR P w K mg base CX0 3 fInit (fun vs H Q E => ∃ ws rest, vs = ws ++ rest ∧ ws.length = ["self"].length ∧ rest.length ≤ sizeLine ∧ ∀ p, H p = Option.none → spInit C (ws ++ [V.ref p]) (upd H p (.tup rest)) Q E) := by
  obtain ⟨oc, od, kV, doc, pm, an, cdv, ct, osl, efd, lk, hcd⟩ := F.ex
  subst efd
  refine StX.fn_star (ps := ["self"]) (pv := "lives") (N := N_Rule___init__) lk hcd sc_Rule___init__ StX.cxUp_none (StX.bind_star1 (B := fun us => bindArgs (PySem.W.fnOf "__init__" "Rule.__init__" (defArgs s_Rule___init__) (defBody s_Rule___init__) (defScope s_Rule___init__) .none kV doc pm an cdv ct) ⟨us, []⟩) (fun _ => rfl) (fun _ _ _ => rfl)) (fun A outer s H vs Q E hr h => ?_)
  obtain ⟨x, p, dx, ls, rfl, hx, hp, g, k⟩ := h
  have body : PSs _ (defBody s_Rule___init__) _ := PSs.nox (X := cxOf CX0 P w K mg base N_Rule___init__ "Rule.__init__" (defScope s_Rule___init__) fInit cdv A outer s H E) (by exact (pss_cons (ps_set (i := 2) sc_Rule___init__.nd rfl (Or.inl rfl) (pe_and (pe_cmpR op_eq (pe_callB call_len_seq (by rfl) T.len PySem.boot_len (pa_cons (pv 1) pa_nil)) pe_int (nomark _)) (pe_one (pe_callB call_isi (by rfl) T.isinstance (by decide +kernel) (pa_cons (pe_ix ix_tup (pv 1) pe_int (fun _ _ => rfl)) (pa_cons (pe_glob (v := .ref CR) rfl R.m_Reckoned rfl) pa_nil))))))
      (pss_cons (ps_if (PW.pt (pw_and (pt_not (pt_val (pv 2))) (pw_and1 (pt_not (pt_val (pe_static (pe_glob (v := .ref C) rfl R.m_Rule rfl) R.rd R.s_are G_are R.b_are (hr.mono (by decide)) (pa_cons (pv 1) pa_nil))))))) (pss_one ps_never) pss_nil)
      (pss_one (ps_fld (pv 0) (pe_hasO C_shortest (hr.mono (by decide)) rfl (pa_cons (pe_ifExp (pt_val (pv 2)) (pe_fld (pe_ix ix_tup (pv 1) pe_int (fun _ _ => rfl)) rfl) (pv 1)) pa_nil)) rfl)))))
  refine ⟨_, body, ?_⟩
  have npx : p ≠ x := ne_of hp hx (by intro z; cases z)
  obtain ⟨is, l, els, hb0, hb1⟩ := g.init
  have hpos := g.pos
  have hmost := g.most
  have h0 : (ls.map lv)[0]? = some (lv ls[0]) := by rw [List.getElem?_map, List.getElem?_eq_getElem hpos]; rfl
  have hlen : (ls.map lv).length = ls.length := List.length_map _
  -- reckoned = len(lives) == 1 and isinstance(lives[0], Reckoned)
  refine ⟨_, rfl, p, _, rfl, .inr (SqT.of hp), rfl, _, rfl, ?_⟩
  refine ite2 (fun h1 => ?_) (fun _ => ?_)
  · have hf : PySem.W.kitOne K (match lv ls[0] with | .int _ => .type "int" | _ => .type "NoneType") (.ref CR) = some false := by
      cases ls[0] with
      | none => exact R.notR2
      | some i => exact R.notR1
    have ht : TyX K H (lv ls[0]) (match lv ls[0] with | .int _ => .type "int" | _ => .type "NoneType") := by
      cases ls[0] with
      | none => exact .base .non
      | some i => exact .base (.int i)
    refine ⟨_, rfl, p, _, _, _, rfl, rfl, SqT.of hp, at_of (j := 0) rfl h0, _, _, _, _, false, rfl, .own CR, ht, hf, ?_⟩
    refine ⟨_, rfl, false, rfl, ?_⟩
    refine ite2 (fun _ => ?_) (fun z => absurd rfl z)
    refine ⟨rfl, _, rfl, p, ls, rfl, SqT.of hp, g, fun H1 s1 => ⟨true, rfl, ?_⟩⟩
    refine ite2 (fun z => absurd z (by decide)) (fun _ => ?_)
    refine ⟨_, rfl, false, rfl, ?_⟩
    refine ite2 (fun z => absurd z (by decide)) (fun _ => ?_)
    refine ⟨_, rfl, p, ls, rfl, s1 _ _ hp, hpos, by omega, fun r H2 s2 e2 => ?_⟩
    have ex2 : H2 x = some (.ins C dx []) := s2 _ _ (s1 _ _ hx)
    have nrx : r ≠ x := ne_of e2 ex2 (by intro z; cases z)
    refine ⟨_, rfl, x, C, dx, [], rfl, ex2, R.cl, R.nL, (by show 0 < 1000; decide), ?_⟩
    exact k _ (fun b o e ne => by rw [upd_ne ne]; exact s2 b o (s1 b o e)) ⟨dx, r, upd_same, by rw [upd_ne nrx]; exact e2⟩
  · skip
    refine ⟨_, rfl, false, rfl, ?_⟩
    refine ite2 (fun _ => ?_) (fun z => absurd rfl z)
    refine ⟨rfl, _, rfl, p, ls, rfl, SqT.of hp, g, fun H1 s1 => ⟨true, rfl, ?_⟩⟩
    refine ite2 (fun z => absurd z (by decide)) (fun _ => ?_)
    refine ⟨_, rfl, false, rfl, ?_⟩
    refine ite2 (fun z => absurd z (by decide)) (fun _ => ?_)
    refine ⟨_, rfl, p, ls, rfl, s1 _ _ hp, hpos, by omega, fun r H2 s2 e2 => ?_⟩
    have ex2 : H2 x = some (.ins C dx []) := s2 _ _ (s1 _ _ hx)
    have nrx : r ≠ x := ne_of e2 ex2 (by intro z; cases z)
    refine ⟨_, rfl, x, C, dx, [], rfl, ex2, R.cl, R.nL, (by show 0 < 1000; decide), ?_⟩
    exact k _ (fun b o e ne => by rw [upd_ne ne]; exact s2 b o (s1 b o e)) ⟨dx, r, upd_same, by rw [upd_ne nrx]; exact e2⟩
theorem fnR_ok {k : Nat} {f : Addr} {fd : FuncData} {ps : List Str} {sp : Sp} (F : FnOk P w K mg base CX0 k f fd ps sp) (b : Binds K fd ps []) : FnR P w K mg base CX0 k f sp := by
  intro A outer s H us vs Q E hr e0 r h
  have hl : us.length = ps.length := r.length.symm.trans (F.len _ _ _ _ h)
  have kin : K.In s.heap := e0.mod.kin.keeps (fun b o e => And.left (e0.bs b o e))
  have hb := b s us kin (by rw [List.append_nil]; exact hl)
  rw [List.append_nil] at hb
  exact F.run A outer s H ⟨us, []⟩ us vs Q E hr e0 hb r h
def spOf (K : PySem.W.Frag) (C : Addr) : Sp := fun vs H Q _ => ∃ (a : Addr) (ls : List (Option Int)), vs = [.ref C, .ref a] ∧ SqT K H a (ls.map lv) ∧ Good ls ∧ ∀ r H', Same H H' → RuleAt C H' r (short ls) → Q (.ref r) H'
theorem ok_of {fOf : Addr} {fdOf : FuncData} (F : Fun K "of" "Rule.of" s_Rule_of fOf fdOf) (T : Bl mg) (R : RuleT K mg C CR mc fInit pAre fAre fdAre) (G_are : FnOk P w K mg base CX0 2 fAre fdAre ["value"] (spAre K))
    (G_init : FnR P w K mg base CX0 3 fInit (fun vs H Q E => ∃ ws rest, vs = ws ++ rest ∧ ws.length = ["self"].length ∧ rest.length ≤ sizeLine ∧ ∀ p, H p = Option.none → spInit C (ws ++ [V.ref p]) (upd H p (.tup rest)) Q E)) :
    FnOk P w K mg base CX0 5 fOf fdOf ["cls", "lives"] (spOf K C) := by
  refine F.ok sc_Rule_of (fun vs H Q E h => ?_) (fun cdv A outer s H vs Q E hr h => ?_)
  · obtain ⟨a, ls, rfl, _⟩ := h
    rfl
  · obtain ⟨a, ls, rfl, hS, g, k⟩ := h
    refine ⟨_, (pss_cons (ps_if (pt_not (pt_val (pe_static (pv 0) R.rd R.s_are G_are R.b_are (hr.mono (by decide)) (pa_cons (pv 1) pa_nil)))) (pss_one ps_never) pss_nil)
      (pss_one (ps_ret (pe_makeS R.mkc G_init (hr.mono (by decide)) rfl R.m_Rule (pv 1))))), ?_⟩
    refine ⟨_, rfl, rfl, _, rfl, a, ls, rfl, hS, g, fun H1 s1 => ⟨true, rfl, ?_⟩⟩
    refine ite2 (fun z => absurd z (by decide)) (fun _ => ?_)
    have hm := g.most
    refine ⟨_, rfl, a, _, rfl, .inl (SqT.same s1 hS), fun x dx nx ndx nex => ⟨[.ref x], ls.map lv, rfl, rfl, by rw [List.length_map]; exact Nat.le_of_lt (small1000 (by omega)), fun p hp => ?_⟩⟩
    have nxp : x ≠ p := ne_of_none upd_same hp
    refine ⟨x, p, dx, ls, rfl, by rw [upd_ne nxp]; exact upd_same, upd_same, g, fun H' kp ra => ⟨rfl, k x H' ?_ ra⟩⟩
    intro b o e
    have e1 := s1 b o e
    have nbx : b ≠ x := ne_of_none e1 nx
    have nbd : b ≠ dx := ne_of_none e1 ndx
    have e2 : upd (upd H1 dx (.own x)) x (.ins C dx []) b = some o := by
      rw [upd_ne nbx, upd_ne nbd]
      exact e1
    exact kp b o (by rw [upd_ne (ne_of_none e2 hp)]; exact e2) nbx
def spCall (C : Addr) : Sp := fun vs H Q _ => ∃ (r : Addr) (a : Int) (ls : List (Option Int)), vs = [.ref r, .int a] ∧ RuleAt C H r ls ∧ ls.length ≤ 61 ∧ Q (lv (due 0 ls a)) H
theorem lives_of (t : Addr) : (putF ("_lives" : Str) (V.ref t) []).lookup ("_lives" : Str) = some (.ref t) := by
  rw [lookup_putF, if_pos rfl]
theorem ok_call {fCall : Addr} {fdCall : FuncData} (F : Fun K "__call__" "Rule.__call__" s_Rule___call__ fCall fdCall) (T : Bl mg) (R : RuleT K mg C CR mc fInit pAre fAre fdAre) (C_at_most : HasO P w K mg base 1 "at_most" ["one", "other"] spAtMost) :
    FnOk P w K mg base CX0 2 fCall fdCall ["self", "age"] (spCall C) := by
  refine F.ok sc_Rule___call__ (fun vs H Q E h => ?_) (fun cdv A outer s H vs Q E hr h => ?_)
  · obtain ⟨r, a, ls, rfl, _⟩ := h
    rfl
  · obtain ⟨r, a, ls, rfl, ⟨dx, t, h1, h2⟩, hm, k⟩ := h
    refine ⟨_, (pss_cons (ps_set (i := 2) sc_Rule___call__.nd rfl (Or.inl rfl) pe_int)
      (pss_cons (ps_for PassesOwn.never rfl (pi_tup (pe_fld (pv 0) rfl)) (pg_name (i := 3) sc_Rule___call__.nd rfl (Or.inl rfl)) (pss_cons (ps_if (pt_val (pe_hasO C_at_most (hr.mono (by decide)) rfl (pa_cons (pe_op op_add (pv 1) (pv 2)) (pa_cons (pv 3) pa_nil)))) (pss_one (ps_ret (pe_op op_sub (pv 2) pe_int))) pss_nil)
      (pss_one (ps_set (i := 2) sc_Rule___call__.nd rfl (Or.inl rfl) (pe_op op_mul pe_int (pv 2))))))
      (pss_one (ps_ret pe_non)))), ?_⟩
    refine ⟨_, rfl, r, C, dx, _, _, rfl, h1, R.cl, R.nL, lives_of _, t, rfl, ⟨_, SqT.of h2⟩, for_tup (xs := ls.map lv) (fun i σ H' => H' = H ∧ ∃ v, σ = [some (.ref r), some (.int a), some (.int (2 ^ i)), v] ∧ due 0 ls a = due i (ls.drop i) a)
      ⟨rfl, none, rfl, rfl⟩ (fun i σ H' _ z => by rw [z.1]; exact SqT.of h2) ?_ ?_⟩
    · rintro i x σ H' hx ⟨rfl, v, rfl, e⟩
      obtain ⟨l, hl, rfl⟩ := map_at hx
      have hi := (List.getElem?_eq_some_iff.mp hl).1
      have ed : ls.drop i = l :: ls.drop (i + 1) := by
        rw [List.drop_eq_getElem_cons hi]
        have := (List.getElem?_eq_some_iff.mp hl).2
        rw [this]
      rw [ed] at e
      refine ⟨_, rfl, _, rfl, _, _, rfl, rfl, _, rfl, some (a + 2 ^ i), l, rfl, _, rfl, ?_⟩
      have eu : due i (l :: ls.drop (i + 1)) a = if leO (some (a + 2 ^ i)) l = true then some (2 ^ i - 1) else due (i + 1) (ls.drop (i + 1)) a := rfl
      rw [eu] at e
      refine ite2 (fun hc => ?_) (fun hc => ?_)
      · rw [if_pos hc] at e
        rw [e] at k
        exact ⟨_, rfl, _, _, rfl, rfl, k⟩
      · rw [if_neg hc] at e
        refine ⟨_, rfl, _, _, rfl, rfl, .inl ⟨by decide, by decide⟩, rfl, some (lv l), ?_, e⟩
        have e2 : (2 : Int) * 2 ^ i = 2 ^ (i + 1) := by rw [Int.pow_succ, Int.mul_comm]
        show [some (V.ref r), some (V.int a), some (V.int (2 * 2 ^ i)), some (lv l)] = _
        rw [e2]
    · rintro σ H' ⟨rfl, v, rfl, e⟩
      rw [List.length_map, List.drop_length] at e
      rw [e] at k
      exact k
end
abbrev s_life_at : Stmt := (top 25)
abbrev N_life_at : List Str := ["lives", "at"]
theorem sc_life_at : FnScope N_life_at ["lives", "at"] (defScope s_life_at) :=
  ⟨rfl, rfl, rfl, by decide +kernel, rfl, by decide +kernel, by decide +kernel⟩
def spLifeAt (K : PySem.W.Frag) : Sp := fun vs H Q _ => ∃ (a : Addr) (ls : List (Option Int)) (n : Nat), vs = [.ref a, .int (n : Nat)] ∧ SqT K H a (ls.map lv) ∧ 0 < ls.length ∧ Q (lv (lifeAt ls n)) H
section
variable {P : Program} {w : World} {K : PySem.W.Frag} {mg : Str → Option Value} {base : Heap}
theorem ok_life_at (D : Df K mg "life_at" s_life_at ["lives", "at"]) (T : Bl mg) : HasO P w K mg base 1 "life_at" ["lives", "at"] (spLifeAt K) := by
  refine D.hasO sc_life_at (fun vs H Q E h => ?_) (fun f cdv A outer s H vs Q E hr h => ?_)
  · obtain ⟨a, ls, n, rfl, _⟩ := h
    rfl
  · obtain ⟨a, ls, n, rfl, hS, h0, k⟩ := h
    refine ⟨_, (pss_one (ps_ret (pe_ifExp (pt_cmpR op_lt (pv 1) (pe_callB call_len_seq (by rfl) T.len PySem.boot_len (pa_cons (pv 0) pa_nil)) (nomark _)) (pe_ix ix_tup (pv 0) (pv 1) (fun _ _ => rfl)) (pe_ix ix_tup (pv 0) (pe_un un_neg pe_int) (fun _ _ => rfl))))), ?_⟩
    refine ⟨_, rfl, _, rfl, a, _, rfl, .inr hS, _, _, rfl, rfl, _, rfl, ?_⟩
    refine ite2 (fun hc => ?_) (fun hc => ?_)
    · have hn : n < ls.length := by
        have := of_decide_eq_true hc
        rw [List.length_map] at this
        omega
      have e := List.getElem?_eq_getElem hn
      rw [lifeAt_lt e] at k
      exact ⟨_, rfl, _, rfl, a, _, _, _, rfl, rfl, hS, atI_nat (by rw [List.getElem?_map, e]; rfl), k⟩
    · have hn : ls.length ≤ n := by
        have : ¬ (n : Int) < ((ls.map lv).length : Int) := fun z => hc (decide_eq_true z)
        rw [List.length_map] at this
        omega
      obtain ⟨ini, x, rfl⟩ : ∃ ini x, ls = ini ++ [x] := ⟨ls.dropLast, ls.getLast (by intro z; rw [z] at h0; simp at h0), (List.dropLast_concat_getLast _).symm⟩
      rw [lifeAt_ge (x := x) hn (by simp)] at k
      have em : (ini ++ [x]).map lv = ini.map lv ++ [lv x] := by rw [List.map_append]; rfl
      rw [em] at hS
      exact ⟨_, rfl, _, rfl, a, _, _, _, rfl, rfl, hS, atI_last _ _, k⟩
end
abbrev s_side_by_side : Stmt := (top 27)
abbrev N_side_by_side : List Str := ["lives", "others", "at"]
theorem sc_side_by_side : FnScope N_side_by_side ["lives", "others"] (defScope s_side_by_side) :=
  ⟨rfl, rfl, rfl, by decide +kernel, rfl, by decide +kernel, by decide +kernel⟩
abbrev s_greater : Stmt := (top 5)
abbrev N_greater : List Str := ["one", "other"]
theorem sc_greater : FnScope N_greater ["one", "other"] (defScope s_greater) :=
  ⟨rfl, rfl, rfl, by decide +kernel, rfl, by decide +kernel, by decide +kernel⟩
abbrev s_lesser : Stmt := (top 4)
abbrev N_lesser : List Str := ["one", "other"]
theorem sc_lesser : FnScope N_lesser ["one", "other"] (defScope s_lesser) :=
  ⟨rfl, rfl, rfl, by decide +kernel, rfl, by decide +kernel, by decide +kernel⟩
abbrev s_Reckoned___init__ : Stmt := (inClass (top 28) 0)
abbrev N_Reckoned___init__ : List Str := ["self", "found"]
theorem sc_Reckoned___init__ : FnScope N_Reckoned___init__ ["self", "found"] (defScope s_Reckoned___init__) :=
  ⟨rfl, rfl, rfl, by decide +kernel, rfl, by decide +kernel, by decide +kernel⟩
abbrev s_Rule_lives : Stmt := (inClass (top 29) 4)
abbrev N_Rule_lives : List Str := ["self"]
theorem sc_Rule_lives : FnScope N_Rule_lives ["self"] (defScope s_Rule_lives) :=
  ⟨rfl, rfl, rfl, by decide +kernel, rfl, by decide +kernel, by decide +kernel⟩
abbrev s_Rule___eq__ : Stmt := (inClass (top 29) 6)
abbrev N_Rule___eq__ : List Str := ["self", "other"]
theorem sc_Rule___eq__ : FnScope N_Rule___eq__ ["self", "other"] (defScope s_Rule___eq__) :=
  ⟨rfl, rfl, rfl, by decide +kernel, rfl, by decide +kernel, by decide +kernel⟩
abbrev s_Rule___le__ : Stmt := (inClass (top 29) 15)
abbrev N_Rule___le__ : List Str := ["self", "other", "pairs", "one", "another"]
theorem sc_Rule___le__ : FnScope N_Rule___le__ ["self", "other"] (defScope s_Rule___le__) :=
  ⟨rfl, rfl, rfl, by decide +kernel, rfl, by decide +kernel, by decide +kernel⟩
abbrev s_Rule___add__ : Stmt := (inClass (top 29) 14)
abbrev N_Rule___add__ : List Str := ["self", "other", "life"]
theorem sc_Rule___add__ : FnScope N_Rule___add__ ["self", "other"] (defScope s_Rule___add__) :=
  ⟨rfl, rfl, rfl, by decide +kernel, rfl, by decide +kernel, by decide +kernel⟩
abbrev s_Rule___and__ : Stmt := (inClass (top 29) 13)
abbrev N_Rule___and__ : List Str := ["self", "other", "pairs", "one", "another"]
theorem sc_Rule___and__ : FnScope N_Rule___and__ ["self", "other"] (defScope s_Rule___and__) :=
  ⟨rfl, rfl, rfl, by decide +kernel, rfl, by decide +kernel, by decide +kernel⟩
abbrev s_Rule___or__ : Stmt := (inClass (top 29) 12)
abbrev N_Rule___or__ : List Str := ["self", "other", "pairs", "one", "another"]
theorem sc_Rule___or__ : FnScope N_Rule___or__ ["self", "other"] (defScope s_Rule___or__) :=
  ⟨rfl, rfl, rfl, by decide +kernel, rfl, by decide +kernel, by decide +kernel⟩
def spGreater : Sp := fun vs H Q _ => ∃ x y : Option Int, vs = [lv x, lv y] ∧ Q (lv (maxO x y)) H
def spLesser : Sp := fun vs H Q _ => ∃ x y : Option Int, vs = [lv x, lv y] ∧ Q (lv (minO x y)) H
def spSide (K : PySem.W.Frag) : Sp := fun vs H Q _ => ∃ (a b : Addr) (ls ms : List (Option Int)), vs = [.ref a, .ref b] ∧ SqT K H a (ls.map lv) ∧ SqT K H b (ms.map lv) ∧ 0 < ls.length ∧ 0 < ms.length ∧ ls.length ≤ 1000 ∧ ms.length ≤ 1000 ∧
  ∀ (D : Addr) (ts : List Addr) (H' : Hp), Same H H' → H' D = some (.lst (ts.map V.ref)) → ts.length = max ls.length ms.length → (∀ (i : Nat) (t : Addr), ts[i]? = some t → H' t = some (.tup [lv (lifeAt ls i), lv (lifeAt ms i)])) → Q (.ref D) H'
section
variable {P : Program} {w : World} {K : PySem.W.Frag} {mg : Str → Option Value} {base : Heap}
theorem ok_greater (D : Df K mg "greater" s_greater ["one", "other"]) (C_at_most : HasO P w K mg base 1 "at_most" ["one", "other"] spAtMost) : HasO P w K mg base 2 "greater" ["one", "other"] spGreater := by
  refine D.hasO sc_greater (fun vs H Q E h => ?_) (fun f cdv A outer s H vs Q E hr h => ?_)
  · obtain ⟨x, y, rfl, _⟩ := h
    rfl
  · obtain ⟨x, y, rfl, k⟩ := h
    refine ⟨_, (pss_one (ps_ret (pe_ifExp (pt_val (pe_hasO C_at_most (hr.mono (by decide)) rfl (pa_cons (pv 0) (pa_cons (pv 1) pa_nil)))) (pv 1) (pv 0)))), ?_⟩
    unfold maxO at k
    refine ⟨_, rfl, _, rfl, x, y, rfl, _, rfl, ?_⟩
    refine ite2 (fun hc => ?_) (fun hc => ?_)
    · rw [if_pos hc] at k
      exact ⟨_, rfl, k⟩
    · rw [if_neg hc] at k
      exact ⟨_, rfl, k⟩
theorem ok_lesser (D : Df K mg "lesser" s_lesser ["one", "other"]) (C_at_most : HasO P w K mg base 1 "at_most" ["one", "other"] spAtMost) : HasO P w K mg base 2 "lesser" ["one", "other"] spLesser := by
  refine D.hasO sc_lesser (fun vs H Q E h => ?_) (fun f cdv A outer s H vs Q E hr h => ?_)
  · obtain ⟨x, y, rfl, _⟩ := h
    rfl
  · obtain ⟨x, y, rfl, k⟩ := h
    refine ⟨_, (pss_one (ps_ret (pe_ifExp (pt_val (pe_hasO C_at_most (hr.mono (by decide)) rfl (pa_cons (pv 0) (pa_cons (pv 1) pa_nil)))) (pv 0) (pv 1)))), ?_⟩
    unfold minO at k
    refine ⟨_, rfl, _, rfl, x, y, rfl, _, rfl, ?_⟩
    refine ite2 (fun hc => ?_) (fun hc => ?_)
    · rw [if_pos hc] at k
      exact ⟨_, rfl, k⟩
    · rw [if_neg hc] at k
      exact ⟨_, rfl, k⟩
theorem ok_side (D : Df K mg "side_by_side" s_side_by_side ["lives", "others"]) (T : Bl mg) (C_life_at : HasO P w K mg base 1 "life_at" ["lives", "at"] (spLifeAt K)) : HasO P w K mg base 2 "side_by_side" ["lives", "others"] (spSide K) := by
  refine D.hasO sc_side_by_side (fun vs H Q E h => ?_) (fun f cdv A outer s H vs Q E hr h => ?_)
  · obtain ⟨a, b, ls, ms, rfl, _⟩ := h
    rfl
  · obtain ⟨a, b, ls, ms, rfl, hA, hB, h0, h1, h2, h3, k⟩ := h
    refine ⟨_, (pss_one (ps_ret (pe_lc (own := [("at", 2)]) (g := gName 2) (tt := tYes) rfl sc_side_by_side.nd (pi_range1 rfl T.range (pa_cons (pe_callB (call_max2 rfl) (by rfl) T.max (by decide +kernel) (pa_cons (pe_callB call_len_seq (by rfl) T.len PySem.boot_len (pa_cons (pv 0) pa_nil)) (pa_cons (pe_callB call_len_seq (by rfl) T.len PySem.boot_len (pa_cons (pv 1) pa_nil)) pa_nil))) pa_nil)) (blkOk_by (N := N_side_by_side) (sc := defScope s_side_by_side) (by decide +kernel)) (fun _ _ _ _ _ => pg_name (i := 2) sc_side_by_side.nd rfl (Or.inl rfl)) (fun _ _ _ _ _ => pts_nil) (fun _ _ _ _ _ => (pe_tup (pa_cons (pe_hasO C_life_at (hr.mono (by decide)) rfl (pa_cons (pv 0) (pa_cons (pv 2) pa_nil))) (pa_cons (pe_hasO C_life_at (hr.mono (by decide)) rfl (pa_cons (pv 1) (pa_cons (pv 2) pa_nil))) pa_nil))))))), ?_⟩
    have em : (if ((ms.map lv).length : Int) > ((ls.map lv).length : Int) then ((ms.map lv).length : Int) else ((ls.map lv).length : Int)) = ((max ls.length ms.length : Nat) : Int) := by
      rw [List.length_map, List.length_map]
      by_cases h : (ms.length : Int) > (ls.length : Int)
      · rw [if_pos h]; omega
      · rw [if_neg h]; omega
    refine ⟨_, rfl, a, _, rfl, .inr hA, _, rfl, b, _, rfl, .inr hB, _, _, rfl, ((max ls.length ms.length : Nat) : Int), congrArg (fun z => [V.int z]) em, by omega, by omega, fun D2 hD2 => lc_range (lo := 0) (n := max ls.length ms.length)
      (fun i H' => Same H H' ∧ ∃ ts : List Addr, H' D2 = some (.lst (ts.map V.ref)) ∧ ts.length = i ∧ ∀ (j : Nat) (t : Addr), ts[j]? = some t → H' t = some (.tup [lv (lifeAt ls j), lv (lifeAt ms j)])) ⟨same_upd hD2, [], upd_same, rfl, fun j t h => by simp at h⟩ ?_ ?_⟩
    · rintro i H' hi ⟨sm, ts, eD, hl, ht⟩
      refine ⟨rfl, _, rfl, _, rfl, a, ls, i, by rw [Int.zero_add]; rfl, SqT.same sm hA, h0, _, rfl, _, rfl, b, ms, i, by rw [Int.zero_add]; rfl, SqT.same sm hB, h1, by show 2 ≤ sizeLine; decide, fun t np => ?_⟩
      have nD : D2 ≠ t := ne_of_none eD np
      refine ⟨_, Eq.trans (upd_ne nD) eD, small1000 (by rw [List.length_map]; omega), fun p o z => ?_, ts ++ [t], ?_, by rw [List.length_append, hl]; rfl, ?_⟩
      · rw [upd_ne (ne_of_none z hD2), upd_ne (ne_of_none (sm p o z) np)]
        exact sm p o z
      · rw [upd_same, List.map_append]
        rfl
      · intro j u hj
        by_cases hjl : j < ts.length
        · rw [List.getElem?_append_left hjl] at hj
          have e := ht j u hj
          have nuD : u ≠ D2 := (ne_of eD e (by intro z; cases z)).symm
          rw [upd_ne nuD, upd_ne (ne_of_none e np)]
          exact e
        · have ej : j = ts.length := by
            have := (List.getElem?_eq_some_iff.mp hj).1
            rw [List.length_append, List.length_singleton] at this
            omega
          subst ej
          rw [List.getElem?_append_right (Nat.le_refl _), Nat.sub_self] at hj
          obtain rfl : t = u := Option.some.inj hj
          rw [upd_ne nD.symm, upd_same, hl]
    · rintro H' ⟨sm, ts, eD, hl, ht⟩
      exact k D2 ts H' sm eD hl ht
variable {C CR : Addr} {mc : Value} {fInit pAre fAre fReck : Addr} {fdAre fdInit fdReck : FuncData}
structure Rule2T (K : PySem.W.Frag) (C CR fReck : Addr) (fdReck : FuncData) : Prop where
  clR : Cls K CR
  mkR : Mk K CR fReck
  nF : NoAttr K CR "found"
  b_reck : Binds K fdReck ["self", "found"] []
  haR : PySem.W.findIn K (.ref CR) "__class__" = some (some (.builtin "object.__class__"))
  haC : PySem.W.findIn K (.ref C) "__class__" = some (some (.builtin "object.__class__"))
  hnO : PySem.W.specialIn K (.builtin "object.__class__") "__get__" = some (some (.builtin "getset_descriptor.__get__"))
  htk : PySem.W.takesIn K (.builtin "object.__class__") = some true
  hmR : PySem.W.mroIn K CR (.type "object") = some true
  hmC : PySem.W.mroIn K C (.type "object") = some true
def spReck (CR : Addr) : Sp := fun vs H Q _ => ∃ (x dx t : Addr), vs = [.ref x, .ref t] ∧ H x = some (.ins CR dx []) ∧ ∀ H', (∀ b o, H b = some o → b ≠ x → H' b = some o) → H' x = some (.ins CR dx (putF "found" (.ref t) [])) → Q .non H'
theorem found_of (t : Addr) : (putF ("found" : Str) (V.ref t) []).lookup ("found" : Str) = some (.ref t) := by
  rw [lookup_putF, if_pos rfl]
theorem ok_reck (F : Fun K "__init__" "Reckoned.__init__" s_Reckoned___init__ fReck fdReck) (R2 : Rule2T K C CR fReck fdReck) : FnOk P w K mg base CX0 1 fReck fdReck ["self", "found"] (spReck CR) := by
  refine F.ok sc_Reckoned___init__ (fun vs H Q E h => ?_) (fun cdv A outer s H vs Q E hr h => ?_)
  · obtain ⟨x, dx, t, rfl, _⟩ := h
    rfl
  · obtain ⟨x, dx, t, rfl, hx, k⟩ := h
    refine ⟨_, (pss_one (ps_fld (pv 0) (pv 1) rfl)), ?_⟩
    refine ⟨_, rfl, _, rfl, x, CR, dx, [], rfl, hx, R2.clR, R2.nF, (by show 0 < 1000; decide), ?_⟩
    exact k _ (fun b o e ne => by rw [upd_ne ne]; exact e) upd_same
def spInitR (C CR : Addr) : Sp := fun vs H Q _ => ∃ (x p dx rk dr t : Addr) (ls : List (Option Int)), vs = [.ref x, .ref p] ∧ H x = some (.ins C dx []) ∧ H p = some (.tup [.ref rk]) ∧ H rk = some (.ins CR dr (putF "found" (.ref t) [])) ∧ H t = some (.tup (ls.map lv)) ∧
  0 < ls.length ∧ ls.length ≤ 1000 ∧ ∀ H', (∀ b o, H b = some o → b ≠ x → H' b = some o) → RuleAt C H' x (short ls) → Q .non H'
abbrev FnStar (P : Program) (w : World) (K : PySem.W.Frag) (mg : Str → Option Value) (base : Heap) (k : Nat) (f : Addr) (sp : Sp) : Prop :=
  FnR P w K mg base CX0 k f (fun vs H Q E => ∃ ws rest, vs = ws ++ rest ∧ ws.length = ["self"].length ∧ rest.length ≤ sizeLine ∧ ∀ p, H p = Option.none → sp (ws ++ [V.ref p]) (upd H p (.tup rest)) Q E)
theorem ok_initR (F : Fun K "__init__" "Rule.__init__" s_Rule___init__ fInit fdInit) (T : Bl mg) (R : RuleT K mg C CR mc fInit pAre fAre fdAre) (R2 : Rule2T K C CR fReck fdReck) (G_are : FnOk P w K mg base CX0 2 fAre fdAre ["value"] (spAre K)) (C_shortest : HasO P w K mg base 1 "shortest" ["lives"] spShortest) :
    FnStar P w K mg base 3 fInit (spInitR C CR) := by
  obtain ⟨oc, od, kV, doc, pm, an, cdv, ct, osl, efd, lk, hcd⟩ := F.ex
  subst efd
  refine StX.fn_star (ps := ["self"]) (pv := "lives") (N := N_Rule___init__) lk hcd sc_Rule___init__ StX.cxUp_none (StX.bind_star1 (B := fun us => bindArgs (PySem.W.fnOf "__init__" "Rule.__init__" (defArgs s_Rule___init__) (defBody s_Rule___init__) (defScope s_Rule___init__) .none kV doc pm an cdv ct) ⟨us, []⟩) (fun _ => rfl) (fun _ _ _ => rfl)) (fun A outer s H vs Q E hr h => ?_)
  obtain ⟨x, p, dx, rk, dr, t, ls, rfl, hx, hp, hk, ht, h0, h1, k⟩ := h
  have body : PSs _ (defBody s_Rule___init__) _ := PSs.nox (X := cxOf CX0 P w K mg base N_Rule___init__ "Rule.__init__" (defScope s_Rule___init__) fInit cdv A outer s H E) (by exact (pss_cons (ps_set (i := 2) sc_Rule___init__.nd rfl (Or.inl rfl) (pe_and (pe_cmpR op_eq (pe_callB call_len_seq (by rfl) T.len PySem.boot_len (pa_cons (pv 1) pa_nil)) pe_int (nomark _)) (pe_one (pe_callB call_isi (by rfl) T.isinstance (by decide +kernel) (pa_cons (pe_ix ix_tup (pv 1) pe_int (fun _ _ => rfl)) (pa_cons (pe_glob (v := .ref CR) rfl R.m_Reckoned rfl) pa_nil))))))
      (pss_cons (ps_if (PW.pt (pw_and (pt_not (pt_val (pv 2))) (pw_and1 (pt_not (pt_val (pe_static (pe_glob (v := .ref C) rfl R.m_Rule rfl) R.rd R.s_are G_are R.b_are (hr.mono (by decide)) (pa_cons (pv 1) pa_nil))))))) (pss_one ps_never) pss_nil)
      (pss_one (ps_fld (pv 0) (pe_hasO C_shortest (hr.mono (by decide)) rfl (pa_cons (pe_ifExp (pt_val (pv 2)) (pe_fld (pe_ix ix_tup (pv 1) pe_int (fun _ _ => rfl)) rfl) (pv 1)) pa_nil)) rfl)))))
  refine ⟨_, body, ?_⟩
  refine ⟨_, rfl, p, _, rfl, .inr (SqT.of hp), rfl, _, rfl, ?_⟩
  refine ite2 (fun _ => ?_) (fun z => absurd (decide_eq_true rfl) z)
  refine ⟨_, rfl, p, _, _, _, rfl, rfl, SqT.of hp, rfl, _, _, _, _, true, rfl, .own CR, .base (.ins hk R2.clR R2.haR R2.hnO R2.htk R2.hmR), if_pos (beq_self_eq_true _), ?_⟩
  refine ⟨_, rfl, true, rfl, ?_⟩
  refine ite2 (fun z => absurd z (by decide)) (fun _ => ?_)
  refine ite2 (fun z => absurd z (by decide)) (fun _ => ?_)
  refine ⟨_, rfl, true, rfl, ?_⟩
  refine ite2 (fun _ => ?_) (fun z => absurd rfl z)
  refine ⟨_, rfl, p, _, _, _, rfl, rfl, SqT.of hp, rfl, rk, CR, dr, _, _, rfl, hk, R2.clR, R2.nF, found_of _, t, ls, rfl, ht, h0, h1, fun r H2 s2 e2 => ?_⟩
  have ex2 : H2 x = some (.ins C dx []) := s2 _ _ hx
  have nrx : r ≠ x := ne_of e2 ex2 (by intro z; cases z)
  refine ⟨_, rfl, x, C, dx, [], rfl, ex2, R.cl, R.nL, (by show 0 < 1000; decide), ?_⟩
  exact k _ (fun b o e ne => by rw [upd_ne ne]; exact s2 b o e) ⟨dx, r, upd_same, by rw [upd_ne nrx]; exact e2⟩
def spJoin (C : Addr) (g : Option Int → Option Int → Option Int) : Sp := fun vs H Q _ => ∃ (a b : Addr) (ls ms : List (Option Int)), vs = [.ref a, .ref b] ∧ RuleAt C H a ls ∧ RuleAt C H b ms ∧ 0 < ls.length ∧ 0 < ms.length ∧ ls.length ≤ 1000 ∧ ms.length ≤ 1000 ∧
  ∀ r H', Same H H' → RuleAt C H' r (short (rows (fun i => g (lifeAt ls i) (lifeAt ms i)) (max ls.length ms.length))) → Q (.ref r) H'
theorem ok_or {fOr : Addr} {fdOr : FuncData} (F : Fun K "__or__" "Rule.__or__" s_Rule___or__ fOr fdOr) (T : Bl mg) (R : RuleT K mg C CR mc fInit pAre fAre fdAre) (R2 : Rule2T K C CR fReck fdReck) (C_side_by_side : HasO P w K mg base 2 "side_by_side" ["lives", "others"] (spSide K))
    (C_greater : HasO P w K mg base 2 "greater" ["one", "other"] spGreater) (G_reck : FnOk P w K mg base CX0 1 fReck fdReck ["self", "found"] (spReck CR)) (G_initR : FnStar P w K mg base 3 fInit (spInitR C CR)) : FnOk P w K mg base CX0 5 fOr fdOr ["self", "other"] (spJoin C maxO) := by
  refine F.ok sc_Rule___or__ (fun vs H Q E h => ?_) (fun cdv A outer s H vs Q E hr h => ?_)
  · obtain ⟨a, b, ls, ms, rfl, _⟩ := h
    rfl
  · obtain ⟨r1, r2, ls, ms, rfl, ⟨dx1, t1, h1, h2⟩, ⟨dx2, t2, h3, h4⟩, p1, p2, q1, q2, k⟩ := h
    refine ⟨_, (pss_cons (ps_set (i := 2) sc_Rule___or__.nd rfl (Or.inl rfl) (pe_hasO C_side_by_side (hr.mono (by decide)) rfl (pa_cons (pe_fld (pv 0) rfl) (pa_cons (pe_fld (pv 1) rfl) pa_nil))))
      (pss_one (ps_ret (StX.pe_makeR R.mkc G_initR (hr.mono (by decide)) rfl R.m_Rule pass0 (pa_cons (pe_make R2.mkR G_reck (hr.mono (by decide)) rfl R.m_Reckoned R2.b_reck .nil pass0 (pa_cons (pe_callTy call_tuple_of (by rfl) T.tuple (by decide +kernel) (pa_cons (pe_lc (own := [("one", 3), ("another", 4)]) (g := gTup _ 2 (gCons (gName 3) (gCons (gName 4) (gNil)))) (tt := tYes) rfl sc_Rule___or__.nd (pi_list (pv 2)) (blkOk_by (N := N_Rule___or__) (sc := defScope s_Rule___or__) (by decide +kernel)) (fun _ _ _ _ _ => pg_tup rfl (pgs_cons (pg_name (i := 3) sc_Rule___or__.nd rfl (Or.inl rfl)) (pgs_cons (pg_name (i := 4) sc_Rule___or__.nd rfl (Or.inl rfl)) pgs_nil))) (fun _ _ _ _ _ => pts_nil) (fun _ _ _ _ _ => (pe_hasO C_greater (hr.mono (by decide)) rfl (pa_cons (pv 3) (pa_cons (pv 4) pa_nil))))) pa_nil)) pa_nil)) pa_nil))))), ?_⟩
    refine ⟨_, rfl, r1, C, dx1, _, _, rfl, h1, R.cl, R.nL, lives_of _, _, rfl, r2, C, dx2, _, _, rfl, h3, R.cl, R.nL, lives_of _, t1, t2, ls, ms, rfl, SqT.of h2, SqT.of h4, p1, p2, q1, q2, fun D ts H1 s1 eD hl ht => ?_⟩
    generalize hG : (fun i => maxO (lifeAt ls i) (lifeAt ms i)) = G at k
    have hGi : ∀ i, G i = maxO (lifeAt ls i) (lifeAt ms i) := fun i => by rw [← hG]
    refine ⟨_, rfl, D, rfl, ⟨_, SqL.of eD⟩, fun D2 hD2 => lc_list (xs := ts.map V.ref) (fun i H' => Same H1 H' ∧ H' D2 = some (.lst ((rows G i).map lv))) ⟨same_upd hD2, upd_same⟩ (fun i H' _ z => SqL.of (z.1 _ _ eD)) ?_ ?_⟩
    · rintro i x H' hx ⟨s2, e2⟩
      obtain ⟨t, hti, rfl⟩ := map_at hx
      have hi := (List.getElem?_eq_some_iff.mp hti).1
      refine ⟨t, _, rfl, SqT.of (s2 _ _ (ht i t hti)), rfl, _, _, rfl, _, _, rfl, rfl, rfl, _, rfl, _, rfl, lifeAt ls i, lifeAt ms i, rfl, _, e2, small1000 (by rw [List.length_map, rows_length]; omega), fun b o z => ?_, ?_⟩
      · rw [upd_ne (ne_of_none z hD2)]
        exact s2 b o z
      · rw [upd_same, rows_succ, List.map_append, hGi]
        rfl
    · rintro H2 ⟨s2, e2⟩
      have s02 := s1.trans s2
      rw [List.length_map, hl] at e2
      have hpos : 0 < (rows G (max ls.length ms.length)).length := by rw [rows_length]; omega
      have hle : (rows G (max ls.length ms.length)).length ≤ 1000 := by rw [rows_length]; omega
      generalize rows G (max ls.length ms.length) = XS at *
      refine ⟨D2, _, rfl, .inl ⟨SqL.of e2, fun tp htp => ?_⟩⟩
      refine fun rk dr n1 n2 n3 => ⟨rk, dr, tp, rfl, upd_same, fun H3 kp3 e3 => ⟨rfl, ?_⟩⟩
      refine fun rr dd m1 m2 m3 => ⟨[.ref rr], [.ref rk], rfl, rfl, by show 1 ≤ sizeLine; decide, fun p hp => ?_⟩
      have sA : Same H2 (upd H2 tp (.tup (XS.map lv))) := same_upd htp
      have s23 : Same (upd H2 tp (.tup (XS.map lv))) H3 := fun b o e => kp3 b o (by rw [upd_ne (ne_of_none e n1), upd_ne (ne_of_none e n2)]; exact e) (ne_of_none e n1)
      have sC : Same H3 (upd (upd H3 dd (.own rr)) rr (.ins C dd [])) := fun b o e => by
        rw [upd_ne (ne_of_none e m1), upd_ne (ne_of_none e m2)]
        exact e
      have sD : Same H3 (upd (upd (upd H3 dd (.own rr)) rr (.ins C dd [])) p (.tup [.ref rk])) := sC.trans (same_upd hp)
      have nrp : rr ≠ p := ne_of_none upd_same hp
      refine ⟨rr, p, dd, rk, dr, tp, XS, rfl, by rw [upd_ne nrp]; exact upd_same, upd_same, sD _ _ e3, sD _ _ (s23 _ _ upd_same), hpos, hle, fun H5 kp ra => ⟨rfl, k rr H5 ?_ ra⟩⟩
      intro b o e
      have e4 := s23 _ _ (sA _ _ (s02 _ _ e))
      exact kp b o (sD _ _ e4) (ne_of_none e4 m1)
theorem ok_and {fAnd : Addr} {fdAnd : FuncData} (F : Fun K "__and__" "Rule.__and__" s_Rule___and__ fAnd fdAnd) (T : Bl mg) (R : RuleT K mg C CR mc fInit pAre fAre fdAre) (R2 : Rule2T K C CR fReck fdReck) (C_side_by_side : HasO P w K mg base 2 "side_by_side" ["lives", "others"] (spSide K))
    (C_lesser : HasO P w K mg base 2 "lesser" ["one", "other"] spLesser) (G_reck : FnOk P w K mg base CX0 1 fReck fdReck ["self", "found"] (spReck CR)) (G_initR : FnStar P w K mg base 3 fInit (spInitR C CR)) : FnOk P w K mg base CX0 5 fAnd fdAnd ["self", "other"] (spJoin C minO) := by
  refine F.ok sc_Rule___and__ (fun vs H Q E h => ?_) (fun cdv A outer s H vs Q E hr h => ?_)
  · obtain ⟨a, b, ls, ms, rfl, _⟩ := h
    rfl
  · obtain ⟨r1, r2, ls, ms, rfl, ⟨dx1, t1, h1, h2⟩, ⟨dx2, t2, h3, h4⟩, p1, p2, q1, q2, k⟩ := h
    refine ⟨_, (pss_cons (ps_set (i := 2) sc_Rule___and__.nd rfl (Or.inl rfl) (pe_hasO C_side_by_side (hr.mono (by decide)) rfl (pa_cons (pe_fld (pv 0) rfl) (pa_cons (pe_fld (pv 1) rfl) pa_nil))))
      (pss_one (ps_ret (StX.pe_makeR R.mkc G_initR (hr.mono (by decide)) rfl R.m_Rule pass0 (pa_cons (pe_make R2.mkR G_reck (hr.mono (by decide)) rfl R.m_Reckoned R2.b_reck .nil pass0 (pa_cons (pe_callTy call_tuple_of (by rfl) T.tuple (by decide +kernel) (pa_cons (pe_lc (own := [("one", 3), ("another", 4)]) (g := gTup _ 2 (gCons (gName 3) (gCons (gName 4) (gNil)))) (tt := tYes) rfl sc_Rule___and__.nd (pi_list (pv 2)) (blkOk_by (N := N_Rule___and__) (sc := defScope s_Rule___and__) (by decide +kernel)) (fun _ _ _ _ _ => pg_tup rfl (pgs_cons (pg_name (i := 3) sc_Rule___and__.nd rfl (Or.inl rfl)) (pgs_cons (pg_name (i := 4) sc_Rule___and__.nd rfl (Or.inl rfl)) pgs_nil))) (fun _ _ _ _ _ => pts_nil) (fun _ _ _ _ _ => (pe_hasO C_lesser (hr.mono (by decide)) rfl (pa_cons (pv 3) (pa_cons (pv 4) pa_nil))))) pa_nil)) pa_nil)) pa_nil))))), ?_⟩
    refine ⟨_, rfl, r1, C, dx1, _, _, rfl, h1, R.cl, R.nL, lives_of _, _, rfl, r2, C, dx2, _, _, rfl, h3, R.cl, R.nL, lives_of _, t1, t2, ls, ms, rfl, SqT.of h2, SqT.of h4, p1, p2, q1, q2, fun D ts H1 s1 eD hl ht => ?_⟩
    generalize hG : (fun i => minO (lifeAt ls i) (lifeAt ms i)) = G at k
    have hGi : ∀ i, G i = minO (lifeAt ls i) (lifeAt ms i) := fun i => by rw [← hG]
    refine ⟨_, rfl, D, rfl, ⟨_, SqL.of eD⟩, fun D2 hD2 => lc_list (xs := ts.map V.ref) (fun i H' => Same H1 H' ∧ H' D2 = some (.lst ((rows G i).map lv))) ⟨same_upd hD2, upd_same⟩ (fun i H' _ z => SqL.of (z.1 _ _ eD)) ?_ ?_⟩
    · rintro i x H' hx ⟨s2, e2⟩
      obtain ⟨t, hti, rfl⟩ := map_at hx
      have hi := (List.getElem?_eq_some_iff.mp hti).1
      refine ⟨t, _, rfl, SqT.of (s2 _ _ (ht i t hti)), rfl, _, _, rfl, _, _, rfl, rfl, rfl, _, rfl, _, rfl, lifeAt ls i, lifeAt ms i, rfl, _, e2, small1000 (by rw [List.length_map, rows_length]; omega), fun b o z => ?_, ?_⟩
      · rw [upd_ne (ne_of_none z hD2)]
        exact s2 b o z
      · rw [upd_same, rows_succ, List.map_append, hGi]
        rfl
    · rintro H2 ⟨s2, e2⟩
      have s02 := s1.trans s2
      rw [List.length_map, hl] at e2
      have hpos : 0 < (rows G (max ls.length ms.length)).length := by rw [rows_length]; omega
      have hle : (rows G (max ls.length ms.length)).length ≤ 1000 := by rw [rows_length]; omega
      generalize rows G (max ls.length ms.length) = XS at *
      refine ⟨D2, _, rfl, .inl ⟨SqL.of e2, fun tp htp => ?_⟩⟩
      refine fun rk dr n1 n2 n3 => ⟨rk, dr, tp, rfl, upd_same, fun H3 kp3 e3 => ⟨rfl, ?_⟩⟩
      refine fun rr dd m1 m2 m3 => ⟨[.ref rr], [.ref rk], rfl, rfl, by show 1 ≤ sizeLine; decide, fun p hp => ?_⟩
      have sA : Same H2 (upd H2 tp (.tup (XS.map lv))) := same_upd htp
      have s23 : Same (upd H2 tp (.tup (XS.map lv))) H3 := fun b o e => kp3 b o (by rw [upd_ne (ne_of_none e n1), upd_ne (ne_of_none e n2)]; exact e) (ne_of_none e n1)
      have sC : Same H3 (upd (upd H3 dd (.own rr)) rr (.ins C dd [])) := fun b o e => by
        rw [upd_ne (ne_of_none e m1), upd_ne (ne_of_none e m2)]
        exact e
      have sD : Same H3 (upd (upd (upd H3 dd (.own rr)) rr (.ins C dd [])) p (.tup [.ref rk])) := sC.trans (same_upd hp)
      have nrp : rr ≠ p := ne_of_none upd_same hp
      refine ⟨rr, p, dd, rk, dr, tp, XS, rfl, by rw [upd_ne nrp]; exact upd_same, upd_same, sD _ _ e3, sD _ _ (s23 _ _ upd_same), hpos, hle, fun H5 kp ra => ⟨rfl, k rr H5 ?_ ra⟩⟩
      intro b o e
      have e4 := s23 _ _ (sA _ _ (s02 _ _ e))
      exact kp b o (sD _ _ e4) (ne_of_none e4 m1)
def spAdd (C : Addr) : Sp := fun vs H Q _ => ∃ (a : Addr) (n : Int) (ls : List (Option Int)), vs = [.ref a, .int n] ∧ RuleAt C H a ls ∧ 0 < ls.length ∧ ls.length ≤ 1000 ∧
  ∀ r H', Same H H' → RuleAt C H' r (short (ls.map (addO n))) → Q (.ref r) H'
theorem ok_add {fAdd : Addr} {fdAdd : FuncData} (F : Fun K "__add__" "Rule.__add__" s_Rule___add__ fAdd fdAdd) (T : Bl mg) (R : RuleT K mg C CR mc fInit pAre fAre fdAre) (R2 : Rule2T K C CR fReck fdReck)
    (G_reck : FnOk P w K mg base CX0 1 fReck fdReck ["self", "found"] (spReck CR)) (G_initR : FnStar P w K mg base 3 fInit (spInitR C CR)) : FnOk P w K mg base CX0 5 fAdd fdAdd ["self", "other"] (spAdd C) := by
  refine F.ok sc_Rule___add__ (fun vs H Q E h => ?_) (fun cdv A outer s H vs Q E hr h => ?_)
  · obtain ⟨a, n, ls, rfl, _⟩ := h
    rfl
  · obtain ⟨a, n, ls, rfl, ⟨dx1, t1, h1, h2⟩, p1, q1, k⟩ := h
    refine ⟨_, (pss_one (ps_ret (StX.pe_makeR R.mkc G_initR (hr.mono (by decide)) rfl R.m_Rule pass0 (pa_cons (pe_make R2.mkR G_reck (hr.mono (by decide)) rfl R.m_Reckoned R2.b_reck .nil pass0 (pa_cons (pe_callTy call_tuple_of (by rfl) T.tuple (by decide +kernel) (pa_cons (pe_lc (own := [("life", 2)]) (g := gName 2) (tt := tYes) rfl sc_Rule___add__.nd (pi_tup (pe_fld (pv 0) rfl)) (blkOk_by (N := N_Rule___add__) (sc := defScope s_Rule___add__) (by decide +kernel)) (fun _ _ _ _ _ => pg_name (i := 2) sc_Rule___add__.nd rfl (Or.inl rfl)) (fun _ _ _ _ _ => pts_nil) (fun _ _ _ _ _ => (pe_ifExp (pt_cmpR op_isN (pv 2) pe_non (nomark _)) pe_non (pe_op op_add (pv 2) (pv 1))))) pa_nil)) pa_nil)) pa_nil)))), ?_⟩
    refine ⟨_, rfl, a, C, dx1, _, _, rfl, h1, R.cl, R.nL, lives_of _, t1, rfl, ⟨_, SqT.of h2⟩, fun D2 hD2 => lc_tup (xs := ls.map lv) (fun i H' => Same H H' ∧ H' D2 = some (.lst (((ls.map (addO n)).take i).map lv))) ⟨same_upd hD2, upd_same⟩ (fun i H' _ z => SqT.of (z.1 _ _ h2)) ?_ ?_⟩
    · rintro i x H' hx ⟨s2, e2⟩
      obtain ⟨l, hl, rfl⟩ := map_at hx
      have hi := (List.getElem?_eq_some_iff.mp hl).1
      have fin : ∀ y : V, y = lv (addO n l) → ∃ acc, H' D2 = some (.lst acc) ∧ acc.length < sizeLine ∧ (Same H (upd H' D2 (.lst (acc ++ [y]))) ∧ upd H' D2 (.lst (acc ++ [y])) D2 = some (.lst (((ls.map (addO n)).take (i + 1)).map lv))) := by
        rintro y rfl
        refine ⟨_, e2, small1000 (by rw [List.length_map, List.length_take, List.length_map]; omega), fun b o z => ?_, ?_⟩
        · rw [upd_ne (ne_of_none z hD2)]
          exact s2 b o z
        · have e3 : (ls.map (addO n))[i]? = some (addO n l) := by rw [List.getElem?_map, hl]; rfl
          rw [upd_same, List.take_add_one, e3, List.map_append]
          rfl
      refine ⟨rfl, _, rfl, rfl, _, rfl, ?_⟩
      cases l with
      | none =>
        refine ite2 (fun _ => ?_) (fun z => absurd rfl z)
        exact fin _ rfl
      | some v =>
        refine ite2 (fun z => by have q := of_decide_eq_true z; cases q) (fun _ => ?_)
        exact ⟨_, rfl, _, rfl, _, _, rfl, rfl, fin _ rfl⟩
    · rintro H2 ⟨s02, e2⟩
      rw [List.length_map, List.take_of_length_le (by rw [List.length_map]; omega)] at e2
      have hpos : 0 < (ls.map (addO n)).length := by rw [List.length_map]; exact p1
      have hle : (ls.map (addO n)).length ≤ 1000 := by rw [List.length_map]; exact q1
      generalize ls.map (addO n) = XS at *
      refine ⟨D2, _, rfl, .inl ⟨SqL.of e2, fun tp htp => ?_⟩⟩
      refine fun rk dr n1 n2 n3 => ⟨rk, dr, tp, rfl, upd_same, fun H3 kp3 e3 => ⟨rfl, ?_⟩⟩
      refine fun rr dd m1 m2 m3 => ⟨[.ref rr], [.ref rk], rfl, rfl, by show 1 ≤ sizeLine; decide, fun p hp => ?_⟩
      have sA : Same H2 (upd H2 tp (.tup (XS.map lv))) := same_upd htp
      have s23 : Same (upd H2 tp (.tup (XS.map lv))) H3 := fun b o e => kp3 b o (by rw [upd_ne (ne_of_none e n1), upd_ne (ne_of_none e n2)]; exact e) (ne_of_none e n1)
      have sC : Same H3 (upd (upd H3 dd (.own rr)) rr (.ins C dd [])) := fun b o e => by
        rw [upd_ne (ne_of_none e m1), upd_ne (ne_of_none e m2)]
        exact e
      have sD : Same H3 (upd (upd (upd H3 dd (.own rr)) rr (.ins C dd [])) p (.tup [.ref rk])) := sC.trans (same_upd hp)
      have nrp : rr ≠ p := ne_of_none upd_same hp
      refine ⟨rr, p, dd, rk, dr, tp, XS, rfl, by rw [upd_ne nrp]; exact upd_same, upd_same, sD _ _ e3, sD _ _ (s23 _ _ upd_same), hpos, hle, fun H5 kp ra => ⟨rfl, k rr H5 ?_ ra⟩⟩
      intro b o e
      have e4 := s23 _ _ (sA _ _ (s02 _ _ e))
      exact kp b o (sD _ _ e4) (ne_of_none e4 m1)
def spLe (C : Addr) : Sp := fun vs H Q _ => ∃ (a b : Addr) (ls ms : List (Option Int)), vs = [.ref a, .ref b] ∧ RuleAt C H a ls ∧ RuleAt C H b ms ∧ 0 < ls.length ∧ 0 < ms.length ∧ ls.length ≤ 1000 ∧ ms.length ≤ 1000 ∧
  ∀ H', Same H H' → Q (.bl ((List.range (max ls.length ms.length)).all fun i => leO (lifeAt ls i) (lifeAt ms i))) H'
theorem ok_le {fLe : Addr} {fdLe : FuncData} (F : Fun K "__le__" "Rule.__le__" s_Rule___le__ fLe fdLe) (T : Bl mg) (R : RuleT K mg C CR mc fInit pAre fAre fdAre) (C_side_by_side : HasO P w K mg base 2 "side_by_side" ["lives", "others"] (spSide K))
    (C_at_most : HasO P w K mg base 1 "at_most" ["one", "other"] spAtMost) : FnOk P w K mg base CX0 3 fLe fdLe ["self", "other"] (spLe C) := by
  refine F.ok sc_Rule___le__ (fun vs H Q E h => ?_) (fun cdv A outer s H vs Q E hr h => ?_)
  · obtain ⟨a, b, ls, ms, rfl, _⟩ := h
    rfl
  · obtain ⟨r1, r2, ls, ms, rfl, ⟨dx1, t1, h1, h2⟩, ⟨dx2, t2, h3, h4⟩, p1, p2, q1, q2, k⟩ := h
    refine ⟨_, (pss_cons (ps_set (i := 2) sc_Rule___le__.nd rfl (Or.inl rfl) (pe_hasO C_side_by_side (hr.mono (by decide)) rfl (pa_cons (pe_fld (pv 0) rfl) (pa_cons (pe_fld (pv 1) rfl) pa_nil))))
      (pss_one (ps_ret (pe_callB (cr_all rfl) (by rfl) T.all (by decide +kernel) (pa_cons (pe_lc (own := [("one", 3), ("another", 4)]) (g := gTup _ 2 (gCons (gName 3) (gCons (gName 4) (gNil)))) (tt := tYes) rfl sc_Rule___le__.nd (pi_list (pv 2)) (blkOk_by (N := N_Rule___le__) (sc := defScope s_Rule___le__) (by decide +kernel)) (fun _ _ _ _ _ => pg_tup rfl (pgs_cons (pg_name (i := 3) sc_Rule___le__.nd rfl (Or.inl rfl)) (pgs_cons (pg_name (i := 4) sc_Rule___le__.nd rfl (Or.inl rfl)) pgs_nil))) (fun _ _ _ _ _ => pts_nil) (fun _ _ _ _ _ => (pe_hasO C_at_most (hr.mono (by decide)) rfl (pa_cons (pv 3) (pa_cons (pv 4) pa_nil))))) pa_nil))))), ?_⟩
    refine ⟨_, rfl, r1, C, dx1, _, _, rfl, h1, R.cl, R.nL, lives_of _, _, rfl, r2, C, dx2, _, _, rfl, h3, R.cl, R.nL, lives_of _, t1, t2, ls, ms, rfl, SqT.of h2, SqT.of h4, p1, p2, q1, q2, fun D ts H1 s1 eD hl ht => ?_⟩
    refine ⟨_, rfl, D, rfl, ⟨_, SqL.of eD⟩, fun D2 hD2 => lc_list (xs := ts.map V.ref) (fun i H' => Same H1 H' ∧ H' D2 = some (.lst (((List.range i).map fun j => leO (lifeAt ls j) (lifeAt ms j)).map V.bl))) ⟨same_upd hD2, upd_same⟩ (fun i H' _ z => SqL.of (z.1 _ _ eD)) ?_ ?_⟩
    · rintro i x H' hx ⟨s2, e2⟩
      obtain ⟨t, hti, rfl⟩ := map_at hx
      have hi := (List.getElem?_eq_some_iff.mp hti).1
      refine ⟨t, _, rfl, SqT.of (s2 _ _ (ht i t hti)), rfl, _, _, rfl, _, _, rfl, rfl, rfl, _, rfl, _, rfl, lifeAt ls i, lifeAt ms i, rfl, _, e2, small1000 (by rw [List.length_map, List.length_map, List.length_range]; omega), fun b o z => ?_, ?_⟩
      · rw [upd_ne (ne_of_none z hD2)]
        exact s2 b o z
      · rw [upd_same, List.range_succ, List.map_append, List.map_append]
        rfl
    · rintro H2 ⟨s2, e2⟩
      rw [List.length_map, hl] at e2
      refine ⟨D2, _, rfl, SqL.of e2, ?_⟩
      have ea : (((List.range (max ls.length ms.length)).map fun j => leO (lifeAt ls j) (lifeAt ms j)).all _root_.id) = (List.range (max ls.length ms.length)).all fun i => leO (lifeAt ls i) (lifeAt ms i) := by
        rw [List.all_map]
        rfl
      rw [ea]
      exact k _ (s1.trans s2)
def spEqR (C : Addr) : Sp := fun vs H Q _ => ∃ (a b : Addr) (ls ms : List (Option Int)), vs = [.ref a, .ref b] ∧ RuleAt C H a ls ∧ RuleAt C H b ms ∧ Q (.bl (decide (ls = ms))) H
theorem ok_eq {fEq : Addr} {fdEq : FuncData} (F : Fun K "__eq__" "Rule.__eq__" s_Rule___eq__ fEq fdEq) (T : Bl mg) (R : RuleT K mg C CR mc fInit pAre fAre fdAre) (R2 : Rule2T K C CR fReck fdReck) : FnOk P w K mg base CX0 1 fEq fdEq ["self", "other"] (spEqR C) := by
  refine F.ok sc_Rule___eq__ (fun vs H Q E h => ?_) (fun cdv A outer s H vs Q E hr h => ?_)
  · obtain ⟨a, b, ls, ms, rfl, _⟩ := h
    rfl
  · obtain ⟨a, b, ls, ms, rfl, ⟨dx1, t1, h1, h2⟩, ⟨dx2, t2, h3, h4⟩, k⟩ := h
    refine ⟨_, (pss_one (ps_ret (pe_and (pe_callB call_isi (by rfl) T.isinstance (by decide +kernel) (pa_cons (pv 1) (pa_cons (pe_glob (v := .ref C) rfl R.m_Rule rfl) pa_nil))) (pe_one (pe_cmpR (op_eqD hr.units) (pe_fld (pv 0) rfl) (pe_fld (pv 1) rfl) (nomark _)))))), ?_⟩
    refine ⟨_, rfl, _, _, _, _, true, rfl, .own C, .base (.ins h3 R.cl R2.haC R2.hnO R2.htk R2.hmC), if_pos (beq_self_eq_true _), true, rfl, ?_⟩
    refine iteT ?_
    refine ⟨_, rfl, a, C, dx1, _, _, rfl, h1, R.cl, R.nL, lives_of _, _, rfl, b, C, dx2, _, _, rfl, h3, R.cl, R.nL, lives_of _, dLs ls, dLs ms, dp_lives (SqT.of h2), dp_lives (SqT.of h4), shaped_lives ls, shaped_lives ms, ?_⟩
    rw [eqv_lives]
    exact k
def spLivesP (C : Addr) : Sp := fun vs H Q _ => ∃ (a : Addr) (ls : List (Option Int)), vs = [.ref a] ∧ RuleAt C H a ls ∧ ∀ t, H t = some (.tup (ls.map lv)) → Q (.ref t) H
theorem ok_livesP {fLv : Addr} {fdLv : FuncData} (F : Fun K "lives" "Rule.lives" s_Rule_lives fLv fdLv) (R : RuleT K mg C CR mc fInit pAre fAre fdAre) : FnOk P w K mg base CX0 1 fLv fdLv ["self"] (spLivesP C) := by
  refine F.ok sc_Rule_lives (fun vs H Q E h => ?_) (fun cdv A outer s H vs Q E hr h => ?_)
  · obtain ⟨a, ls, rfl, _⟩ := h
    rfl
  · obtain ⟨a, ls, rfl, ⟨dx1, t1, h1, h2⟩, k⟩ := h
    refine ⟨_, (pss_one (ps_ret (pe_fld (pv 0) rfl))), ?_⟩
    exact ⟨_, rfl, a, C, dx1, _, _, rfl, h1, R.cl, R.nL, lives_of _, k _ h2⟩
end
structure OpsT (K : PySem.W.Frag) (C fOr fAnd fAdd fLe fEq pLv fLv : Addr) : Prop where
  sf : PySem.W.selfFirst K C = true
  or_ : OwnOp K C fOr (PySem.dunder (Operator.BitOr).info.2)
  and_ : OwnOp K C fAnd (PySem.dunder (Operator.BitAnd).info.2)
  add : OwnOp K C fAdd (PySem.dunder (Operator.Add).info.2)
  addI : OwnInt K C (Operator.Add).info.2
  le : OwnOp K C fLe (cmpInfo .LtE).2.1
  ne : OwnNe K C fEq
  lv : PropOf K C "lives" pLv fLv
theorem to_st {t : TS} {D : Ends} {σ σ' : L2.St} {H : Hp} (e : σ = σ') (h : t D σ' H) : t D σ H := by
  subst e
  exact h
theorem gN_st {i : Nat} {x : V} {σ σ' : L2.St} {H : Hp} {k : L2.St → Hp → Prop} (e : σ.set i (some x) = σ') (h : k σ' H) : gName i x σ H k := by
  subst e
  exact h
/-! SPLIT -/
abbrev s_widest : Stmt := (top 42)
abbrev N_widest : List Str := ["wished"]
theorem sc_widest : FnScope N_widest ["wished"] (defScope s_widest) :=
  ⟨rfl, rfl, rfl, by decide +kernel, rfl, by decide +kernel, by decide +kernel⟩
abbrev s_longer : Stmt := (top 43)
abbrev N_longer : List Str := ["plans", "age", "wished", "longer", "plan", "at", "last", "between"]
theorem sc_longer : FnScope N_longer ["plans", "age", "wished"] (defScope s_longer) :=
  ⟨rfl, rfl, rfl, by decide +kernel, rfl, by decide +kernel, by decide +kernel⟩
def spWidest : Sp := fun vs H Q _ => ∃ d : Int, vs = [.int d] ∧ 0 ≤ d ∧ d ≤ 10 ^ 18 ∧ Q (.int ((wdN d : Nat) : Int)) H
def spLonger (K : PySem.W.Frag) : Sp := fun vs H Q _ => ∃ (P : Addr) (xs : List V) (ps : List (List Int)) (age d : Int), vs = [.ref P, .int age, .int d] ∧ H P = some (.lst xs) ∧ TAt H xs (ps.map fun p => p.map V.int) ∧ ps.length ≤ 5000 ∧ (∀ p ∈ ps, p.length ≤ 61) ∧ 0 ≤ age ∧ age ≤ 10 ^ 18 ∧ 0 ≤ d ∧ d ≤ 10 ^ 18 ∧ ps.length * (wdN d + 1) ≤ 500000 ∧
  ∀ (L : Addr) (ys : List V) (H' : Hp), H L = none → Same H H' → H' L = some (.lst ys) → TAt H' ys ((longL age (wdN d) ps).map fun p => p.map V.int) → Q (.ref L) H'
theorem asg_any {te : TE} {g : V → L2.St → Hp → (L2.St → Hp → Prop) → Prop} {u : TS} {D : Ends} {σ : L2.St} {H : Hp} (P : V → Hp → Prop) (h : ∀ Q : VK, (∀ x H', P x H' → Q x H') → te σ H Q) (k : ∀ x H', P x H' → g x σ H' (u D)) : tSeq (tAsg te g) u D σ H := h _ k
section
variable {P : Program} {w : World} {K : PySem.W.Frag} {mg : Str → Option Value} {base : Heap}
theorem ok_widest (D : Df K mg "_widest" s_widest ["wished"]) (T : Bl mg) : HasO P w K mg base 1 "_widest" ["wished"] spWidest := by
  refine D.hasO sc_widest (fun vs H Q E h => ?_) (fun f cdv A outer s H vs Q E hr h => ?_)
  · obtain ⟨d, rfl, _⟩ := h
    rfl
  · obtain ⟨d, rfl, h0, h1, k⟩ := h
    refine ⟨_, (pss_one (ps_ret (pe_op op_sub (pe_bits (pe_op op_add (pv 0) pe_int)) pe_int))), ?_⟩
    refine ⟨_, rfl, _, _, rfl, rfl, _, rfl, _, _, rfl, rfl, ?_⟩
    have e : ((Builtin.Int.intBits (d + 1) : Nat) : Int) - 1 = ((wdN d : Nat) : Int) := by
      have hn : (d + 1).natAbs = d.toNat + 1 := by omega
      have hz : ¬ (d + 1 = 0) := by omega
      unfold Builtin.Int.intBits wdN
      simp only [hn]
      simp [hz]
    exact (congrArg (fun z => Q (V.int z) H) e).mpr k
theorem ok_longer (D : Df K mg "_longer" s_longer ["plans", "age", "wished"]) (T : Bl mg) (C_widest : HasO P w K mg base 1 "_widest" ["wished"] spWidest) : HasO P w K mg base 2 "_longer" ["plans", "age", "wished"] (spLonger K) := by
  refine D.hasO sc_longer (fun vs H Q E h => ?_) (fun f cdv A outer s H vs Q E hr h => ?_)
  · obtain ⟨p, xs, ps, age, d, rfl, _⟩ := h
    rfl
  · obtain ⟨PL, xs, ps, age, d, rfl, eP, tP, pl, pb, a0, a1, d0, d1, sz, k⟩ := h
    refine ⟨_, (pss_cons (ps_set (i := 3) sc_longer.nd rfl (Or.inl rfl) (pe_lst pa_nil))
      (pss_cons (ps_for PassesOwn.never rfl (pi_list (pv 0)) (pg_name (i := 4) sc_longer.nd rfl (Or.inl rfl)) (pss_one (ps_for PassesOwn.never rfl (pi_range2 rfl T.range (pa_cons (pe_callB (call_max2 rfl) (by rfl) T.max (by decide +kernel) (pa_cons pe_int (pa_cons (pe_op op_sub (pe_callB call_len_seq (by rfl) T.len PySem.boot_len (pa_cons (pv 4) pa_nil)) pe_int) pa_nil))) (pa_cons (pe_op op_add (pe_hasO C_widest (hr.mono (by decide)) rfl (pa_cons (pv 2) pa_nil)) pe_int) pa_nil))) (pg_name (i := 5) sc_longer.nd rfl (Or.inl rfl)) (pss_cons (ps_set (i := 6) sc_longer.nd rfl (Or.inl rfl) (pe_ifExp (pt_truth (pv 4) (fun _ => rfl)) (pe_ix ix_tup (pv 4) (pe_un un_neg pe_int) (fun _ _ => rfl)) pe_int))
      (pss_cons (ps_set (i := 7) sc_longer.nd rfl (Or.inl rfl) (pe_op op_repA (pe_tup (pa_cons (pv 6) pa_nil)) (pe_op op_sub (pv 5) (pe_callB call_len_seq (by rfl) T.len PySem.boot_len (pa_cons (pv 4) pa_nil)))))
      (pss_one (ps_expr (pe_bm PySem.F.plainAttrs_list PySem.F.slot_list_append PySem.F.type_list_append mt_append (pv 3) (pa_cons (pe_op op_catH (pe_op op_catH (pe_slice sl_tupB (pv 4) po_none (po_some (pv 5))) (pv 7)) (pe_tup (pa_cons (pe_op op_add (pv 1) (pe_op op_shlW pe_int (pv 5))) pa_nil))) pa_nil)))))))))
      (pss_one (ps_ret (pv 3))))), ?_⟩
    refine ⟨Nat.zero_le _, fun L hL => ?_⟩
    refine gN_st (σ' := [some (.ref PL), some (.int age), some (.int d), some (.ref L), none, none, none, none]) rfl ?_
    have s0 := same_upd (o := .lst []) hL
    have eL := upd_same (H := H) (a := L) (o := .lst [])
    have nLP : L ≠ PL := fun z => by rw [z, eP] at hL; cases hL
    have wsz : longL age (wdN d) [] = [] := rfl
    refine ⟨_, rfl, PL, rfl, ⟨_, SqL.of (s0 _ _ eP)⟩, for_list (xs := xs) (fun i σ H' => ∃ v4 v5 v6 v7 ys, σ = [some (.ref PL), some (.int age), some (.int d), some (.ref L), v4, v5, v6, v7] ∧ Same H H' ∧ H' L = some (.lst ys) ∧ TAt H' ys ((longL age (wdN d) (ps.take i)).map fun p => p.map V.int)) ⟨none, none, none, none, [], rfl, s0, eL, by show TAt _ [] []; exact trivial⟩ (fun i σ H' _ z => ?_) ?_ ?_⟩
    · obtain ⟨_, _, _, _, _, _, z, _⟩ := z
      exact SqL.of (z _ _ eP)
    · rintro i x σ H1 hx ⟨v4, v5, v6, v7, ys, rfl, s1, e1, t1⟩
      obtain ⟨t, p0, rfl, hp0, ht⟩ := tP.get hx
      obtain ⟨p, hp, rfl⟩ : ∃ p, ps[i]? = some p ∧ p0 = p.map V.int := by
        rw [List.getElem?_map] at hp0
        cases e : ps[i]? with
        | none => rw [e] at hp0; cases hp0
        | some p => rw [e] at hp0; exact ⟨p, rfl, (Option.some.inj hp0).symm⟩
      have ht1 := s1 _ _ ht
      have pm : p.length ≤ 61 := pb p (List.mem_of_getElem? hp)
      have il : i < ps.length := (List.getElem?_eq_some_iff.mp hp).1
      have take1 : ps.take (i + 1) = ps.take i ++ [p] := by rw [List.take_add_one, hp]; rfl
      have lg : longL age (wdN d) (ps.take (i + 1)) = longL age (wdN d) (ps.take i) ++ (List.range' (p.length - 1) (wdN d + 1 - (p.length - 1))).map (plan1 age p) := by
        rw [take1]
        unfold longL
        rw [List.flatMap_append]
        simp
      refine gN_st (σ' := [some (.ref PL), some (.int age), some (.int d), some (.ref L), some (.ref t), v5, v6, v7]) rfl ?_
      have w59 := wdN_59 d0 d1
      have lo : (if ((((p.map V.int).length : Nat) : Int) - 1 > 0) then (((p.map V.int).length : Nat) : Int) - 1 else 0) = ((p.length - 1 : Nat) : Int) := by
        rw [List.length_map]
        split <;> omega
      refine ⟨_, rfl, t, _, rfl, .inr (SqT.of ht1), _, _, rfl, rfl, _, _, rfl, ?_⟩
      refine ⟨_, rfl, d, rfl, d0, d1, _, _, rfl, rfl, ?_⟩
      have en : (((wdN d : Nat) : Int) + 1 - ((p.length - 1 : Nat) : Int)).toNat = wdN d + 1 - (p.length - 1) := by omega
      refine ⟨((p.length - 1 : Nat) : Int), ((wdN d : Nat) : Int) + 1, congrArg (fun z => [V.int z, V.int (((wdN d : Nat) : Int) + 1)]) lo, ⟨by omega, by omega, by omega, by omega⟩, for_range (fun m σ H' => ∃ v5 v6 v7 ys, σ = [some (.ref PL), some (.int age), some (.int d), some (.ref L), some (.ref t), v5, v6, v7] ∧ Same H H' ∧ H' L = some (.lst ys) ∧ TAt H' ys ((longL age (wdN d) (ps.take i) ++ (List.range' (p.length - 1) m).map (plan1 age p)).map fun p => p.map V.int)) ⟨v5, v6, v7, ys, rfl, s1, e1, by rw [List.range'_zero, List.map_nil, List.append_nil]; exact t1⟩ ?_ ?_⟩
      · rintro m σ H2 hm ⟨v5, v6, v7, zs, rfl, s2, e2, t2⟩
        refine gN_st (σ' := [some (.ref PL), some (.int age), some (.int d), some (.ref L), some (.ref t), some (.int (((p.length - 1 : Nat) : Int) + (m : Nat))), v6, v7]) rfl ?_
        obtain ⟨j, ej⟩ : ∃ j, j = p.length - 1 + m := ⟨_, rfl⟩
        have ej' : ((p.length - 1 : Nat) : Int) + (m : Nat) = ((j : Nat) : Int) := by omega
        rw [ej']
        have jw : j ≤ wdN d := by omega
        have ht2 := s2 _ _ ht
        refine asg_any (fun x H' => x = V.int (p.getLast?.getD 0) ∧ H' = H2) (fun Q' hQ => ?_) ?_
        · refine ⟨_, rfl, _, .inr (.inl ⟨_, SqT.of ht2, rfl⟩), ?_⟩
          rcases List.eq_nil_or_concat p with e | ⟨ini, z, e⟩
          · rw [e]
            exact ite2 (fun z => absurd z (by decide)) (fun _ => hQ _ _ ⟨by rw [e]; rfl, rfl⟩)
          · rw [List.concat_eq_append] at e
            have em : p.map V.int = ini.map V.int ++ [V.int z] := by rw [e, List.map_append]; rfl
            rw [em]
            refine ite2 (fun _ => ?_) (fun z => absurd (by simp) z)
            refine ⟨_, rfl, _, rfl, t, _, _, _, rfl, rfl, SqT.of ht2, by rw [em]; exact atI_last _ _, hQ _ _ ⟨by rw [e, List.getLast?_concat]; rfl, rfl⟩⟩
        rintro x H' ⟨rfl, rfl⟩
        refine gN_st (σ' := [some (.ref PL), some (.int age), some (.int d), some (.ref L), some (.ref t), some (.int ((j : Nat) : Int)), some (.int (p.getLast?.getD 0)), v7]) rfl ?_
        refine ⟨_, rfl, by show 1 ≤ sizeLine; decide, fun N hN => ⟨_, rfl, _, rfl, t, _, rfl, .inr (SqT.of (same_upd hN _ _ ht2)), _, _, rfl, rfl, N, _, [V.int (p.getLast?.getD 0)], rfl, rfl, upd_same, by simp, by rw [List.length_map]; omega, by rw [List.length_map]; omega, by show 1 ≤ 1000; decide, fun r H3 s3 e3 => ?_⟩⟩
        have s23 := (same_upd hN).trans s3
        have rr : (List.replicate ((((j : Nat) : Int) - ((p.map V.int).length : Nat) : Int).toNat) [V.int (p.getLast?.getD 0)]).flatten = (List.replicate (j - p.length) (p.getLast?.getD 0)).map V.int := by
          rw [List.length_map, show (((j : Nat) : Int) - (p.length : Nat)).toNat = j - p.length by omega]
          generalize j - p.length = k
          induction k with
          | zero => rfl
          | succ q ih => rw [List.replicate_succ, List.flatten_cons, ih, List.replicate_succ]; rfl
        rw [rr] at e3
        refine gN_st (σ' := [some (.ref PL), some (.int age), some (.int d), some (.ref L), some (.ref t), some (.int ((j : Nat) : Int)), some (.int (p.getLast?.getD 0)), some (.ref r)]) rfl ?_
        have eL3 := s23 _ _ e2
        have ht3 := s23 _ _ ht2
        refine ⟨_, rfl, .inl ⟨rfl, _, SqL.of eL3⟩, ?_⟩
        refine ⟨_, rfl, _, rfl, _, rfl, t, _, rfl, SqT.of ht3, fun r1 H4 h4 => ?_⟩
        have ec : cutV (p.map V.int) none (some ((j : Nat) : Int)) = (p.take j).map V.int := by rw [cut_to, List.map_take]
        rw [ec] at h4
        obtain ⟨s4, e4⟩ : Same H3 H4 ∧ H4 r1 = some (.tup ((p.take j).map V.int)) := by
          rcases h4 with ⟨rfl, rfl, hc⟩ | ⟨hn1, rfl⟩
          · exact ⟨Same.refl _, by rw [ht3, hc]⟩
          · exact ⟨same_upd hn1, upd_same⟩
        clear h4
        have b1 : (p.take j).length ≤ 61 := by rw [List.length_take]; omega
        refine ⟨_, rfl, r1, r, _, _, rfl, rfl, e4, s4 _ _ e3, by rw [List.length_map, List.length_map, List.length_replicate, sizeLine_eq]; omega, fun r2 H5 s5 e5 => ?_⟩
        rw [← List.map_append] at e5
        have csh : CShl 1 ((j : Nat) : Int) := ⟨Int.natCast_nonneg _, show ((1 : Nat) : Int) + ((j : Nat) : Int) ≤ 2 ^ 27 by omega⟩
        refine ⟨_, rfl, _, rfl, _, _, rfl, rfl, csh, _, _, rfl, rfl, by show 1 ≤ sizeLine; decide, fun q hq => ?_⟩
        rw [show (((j : Nat) : Int)).toNat = j from rfl, Int.one_mul]
        have s6 := same_upd (o := .tup [V.int (age + 2 ^ j)]) hq
        have e6 := upd_same (H := H5) (a := q) (o := .tup [V.int (age + 2 ^ j)])
        have e56 := s6 _ _ e5
        generalize upd H5 q (.tup [V.int (age + 2 ^ j)]) = H6 at *
        refine ⟨r2, q, _, _, rfl, rfl, e56, e6, ?_, fun r3 H7 s7 e7 => ?_⟩
        · rw [List.length_map, List.length_append, List.length_replicate, sizeLine_eq]
          show _ + 1 ≤ _
          omega
        have e7' : H7 r3 = some (.tup ((plan1 age p j).map V.int)) := by
          rw [e7]
          unfold plan1
          rw [List.map_append (l₂ := [age + 2 ^ j])]
          rfl
        have s37 := s4.trans (s5.trans (s6.trans s7))
        have eL7 := s37 _ _ eL3
        have t7 := t2.same (s23.trans s37)
        have lz : zs.length < 500000 := by
          have q1 := t2.length
          rw [List.length_map, List.length_append, List.length_map, List.length_range'] at q1
          have q2 := longL_len (age := age) (W := wdN d) (ps := ps.take i)
          rw [List.length_take, Nat.min_eq_left (by omega)] at q2
          have q3 : (i + 1) * (wdN d + 1) ≤ ps.length * (wdN d + 1) := Nat.mul_le_mul_right _ il
          rw [Nat.succ_mul] at q3
          omega
        refine ⟨L, zs, _, rfl, rfl, eL7, by rw [sizeLine_eq]; omega, ?_⟩
        refine ⟨_, _, _, zs ++ [.ref r3], rfl, fun b o z => ?_, upd_same, ?_⟩
        · rw [upd_ne (ne_of_none z hL)]
          exact s37 _ _ (s23 _ _ (s2 _ _ z))
        · have em : ((longL age (wdN d) (ps.take i) ++ (List.range' (p.length - 1) (m + 1)).map (plan1 age p)).map fun p => p.map V.int) = ((longL age (wdN d) (ps.take i) ++ (List.range' (p.length - 1) m).map (plan1 age p)).map fun p => p.map V.int) ++ [(plan1 age p j).map V.int] := by
            rw [List.range'_1_concat, ← ej]
            simp
          rw [em]
          exact (TAt.snoc e7' t7).upd eL7
      · rintro σ H2 ⟨v5, v6, v7, zs, rfl, s2, e2, t2⟩
        exact ⟨_, _, _, _, zs, rfl, s2, e2, by rw [lg, ← en]; exact t2⟩
    · rintro σ H1 ⟨v4, v5, v6, v7, ys, rfl, s1, e1, t1⟩
      rw [show xs.length = ps.length by rw [tP.length, List.length_map], List.take_length] at t1
      exact ⟨_, rfl, k L ys H1 hL s1 e1 t1⟩
end
abbrev s_ascending : Stmt := (top 44)
abbrev N_ascending : List Str := ["rows", "found", "row", "lesser_ones", "other"]
theorem sc_ascending : FnScope N_ascending ["rows"] (defScope s_ascending) :=
  ⟨rfl, rfl, rfl, by decide +kernel, rfl, by decide +kernel, by decide +kernel⟩
theorem op_ltTK {X : Cx} {K : PySem.W.Frag} (hK : X.K = K) (hu : X.A.units < cLine) : OpR X (compareOp .Lt) (rLtT K) := hK ▸ op_ltT hu
theorem call_lenK {X : Cx} {K : PySem.W.Frag} (hK : X.K = K) : CallR X (.builtin "len") (fun xs H Q => ∃ p ys, xs = [.ref p] ∧ (SqL K H p ys ∨ SqT K H p ys) ∧ Q (.int ys.length) H) := hK ▸ call_len_seq
theorem pi_lstK {X : Cx} {K : PySem.W.Frag} {tg l : Expr} {tl : TE} (hK : X.K = K) (hl : PE X l tl) : PI X tg l (iList K tl) := hK ▸ pi_list hl
theorem insL_len (F : List (List Int)) (r : List Int) : (insL F r).length = F.length + 1 := by
  unfold insL
  rw [List.length_append, List.length_append, List.length_take, List.length_drop]
  simp only [List.length_cons, List.length_nil]
  omega
theorem TAt.take {H : Hp} : ∀ {xs : List V} {ps : List (List V)} (n : Nat), TAt H xs ps → TAt H (xs.take n) (ps.take n)
  | [], [], n, _ => by rw [List.take_nil, List.take_nil]; exact trivial
  | x :: xs, y :: ys, 0, _ => trivial
  | x :: xs, y :: ys, n + 1, h => ⟨h.1, TAt.take n h.2⟩
theorem TAt.drop {H : Hp} : ∀ {xs : List V} {ps : List (List V)} (n : Nat), TAt H xs ps → TAt H (xs.drop n) (ps.drop n)
  | [], [], n, _ => by rw [List.drop_nil, List.drop_nil]; exact trivial
  | x :: xs, y :: ys, 0, h => h
  | x :: xs, y :: ys, n + 1, h => TAt.drop n h.2
theorem TAt.app {H : Hp} : ∀ {xs ys : List V} {ps qs : List (List V)}, TAt H xs ps → TAt H ys qs → TAt H (xs ++ ys) (ps ++ qs)
  | [], _, [], _, _, h => h
  | x :: xs, _, y :: ys, _, h, k => ⟨h.1, TAt.app h.2 k⟩
theorem TAt.zip {α : Type} {H : Hp} {g : α → List V} : ∀ {ys : List V} {F : List α}, TAt H ys (F.map g) → ∀ q ∈ ys.zip F, ∃ t, q.1 = V.ref t ∧ H t = some (.tup (g q.2))
  | [], _, _, q, hq => by simp at hq
  | y :: ys, [], _, q, hq => by simp at hq
  | y :: ys, x :: F, h, q, hq => by
    rw [List.zip_cons_cons] at hq
    rcases List.mem_cons.mp hq with rfl | hq
    · exact h.1
    · exact TAt.zip h.2 q hq
theorem zip_filter_len {α β : Type} {p : β → Bool} : ∀ {ys : List α} {F : List β}, ys.length = F.length → ((ys.zip F).filter fun q => p q.2).length = (F.filter p).length
  | [], [], _ => rfl
  | y :: ys, x :: F, h => by
    have ih := zip_filter_len (p := p) (ys := ys) (F := F) (by simpa using h)
    rw [List.zip_cons_cons, List.filter_cons, List.filter_cons]
    cases hp : p x with
    | true => exact congrArg (· + 1) ih
    | false => exact ih
def spAsc : Sp := fun vs H Q _ => ∃ (R : Addr) (xs : List V) (rows : List (List Int)), vs = [.ref R] ∧ H R = some (.lst xs) ∧ TAt H xs (rows.map fun p => p.map V.int) ∧ rows.length ≤ 5000 ∧
  ∀ (L : Addr) (ys : List V) (H' : Hp), H L = none → Same H H' → H' L = some (.lst ys) → TAt H' ys ((ascL rows).map fun p => p.map V.int) → Q (.ref L) H'
section
variable {P : Program} {w : World} {K : PySem.W.Frag} {mg : Str → Option Value} {base : Heap}
theorem ok_asc (D : Df K mg "_ascending" s_ascending ["rows"]) (T : Bl mg) : HasO P w K mg base 1 "_ascending" ["rows"] spAsc := by
  refine D.hasO sc_ascending (fun vs H Q E h => ?_) (fun f cdv A outer s H vs Q E hr h => ?_)
  · obtain ⟨R, xs, rows, rfl, _⟩ := h
    rfl
  · obtain ⟨R, xs, rows, rfl, eR, tR, lR, k⟩ := h
    refine ⟨_, (pss_cons (ps_set (i := 1) sc_ascending.nd rfl (Or.inl rfl) (pe_lst pa_nil))
      (pss_cons (ps_for PassesOwn.never rfl (pi_list (pv 0)) (pg_name (i := 2) sc_ascending.nd rfl (Or.inr rfl)) (pss_cons (ps_set (i := 3) sc_ascending.nd rfl (Or.inl rfl) (pe_callB call_len_seq (by rfl) T.len PySem.boot_len (pa_cons (pe_lc (own := [("other", 4)]) (g := gName 4) rfl sc_ascending.nd (pi_list (pv 1)) (blkOk_by (N := N_ascending) (sc := defScope s_ascending) (by decide +kernel)) (fun _ _ _ _ _ => pg_name (i := 4) sc_ascending.nd rfl (Or.inl rfl)) (fun _ _ _ _ _ => (pts_one (pt_cmpR (op_ltTK (K := K) rfl (by have := hr.units; first | omega | exact Nat.lt_of_le_of_lt (Nat.le_add_right _ _) this)) (pv 4) (pv 2) (nomark _)))) (fun _ _ _ _ _ => (pv 4))) pa_nil)))
      (pss_one (ps_expr (pe_bm PySem.F.plainAttrs_list PySem.F.slot_list_insert PySem.F.type_list_insert mt_insert (pv 1) (pa_cons (pv 3) (pa_cons (pv 2) pa_nil)))))))
      (pss_one (ps_ret (pv 1))))), ?_⟩
    refine ⟨Nat.zero_le _, fun L hL => ?_⟩
    refine gN_st (σ' := [some (.ref R), some (.ref L), none, none, none]) rfl ?_
    have s0 := same_upd (o := .lst []) hL
    have eL := upd_same (H := H) (a := L) (o := .lst [])
    have al : ∀ i, i ≤ rows.length → (ascL (rows.take i)).length = i := fun i => by
      induction i with
      | zero => intro _; rfl
      | succ i ih =>
        intro hi
        unfold ascL at ih ⊢
        rw [List.take_add_one, List.getElem?_eq_getElem (show i < rows.length by omega), List.foldl_append]
        show (insL _ _).length = _
        rw [insL_len, ih (by omega)]
    refine ⟨_, rfl, R, rfl, ⟨_, SqL.of (s0 _ _ eR)⟩, for_list (xs := xs) (fun i σ H' => ∃ v2 v3 ys, σ = [some (.ref R), some (.ref L), v2, v3, none] ∧ Same H H' ∧ H' L = some (.lst ys) ∧ TAt H' ys ((ascL (rows.take i)).map fun p => p.map V.int)) ⟨none, none, [], rfl, s0, eL, by show TAt _ [] []; exact trivial⟩ (fun i σ H' _ z => ?_) ?_ ?_⟩
    · obtain ⟨_, _, _, _, z, _⟩ := z
      exact SqL.of (z _ _ eR)
    · rintro i x σ H1 hx ⟨v2, v3, ys, rfl, s1, e1, t1⟩
      obtain ⟨t, r0, rfl, hr0, ht⟩ := tR.get hx
      obtain ⟨r, hr', rfl⟩ : ∃ r, rows[i]? = some r ∧ r0 = r.map V.int := by
        rw [List.getElem?_map] at hr0
        cases e : rows[i]? with
        | none => rw [e] at hr0; cases hr0
        | some p => rw [e] at hr0; exact ⟨p, rfl, (Option.some.inj hr0).symm⟩
      have il := (List.getElem?_eq_some_iff.mp hr').1
      have la := al i (by omega)
      have ly := t1.length
      rw [List.length_map, la] at ly
      have nx : ascL (rows.take (i + 1)) = insL (ascL (rows.take i)) r := by
        unfold ascL
        rw [List.take_add_one, hr', List.foldl_append]
        rfl
      obtain ⟨F, eF⟩ : ∃ F, F = ascL (rows.take i) := ⟨_, rfl⟩
      rw [← eF] at t1 nx la
      have ht1 := s1 _ _ ht
      refine gN_st (σ' := [some (.ref R), some (.ref L), some (.ref t), v3, none]) rfl ?_
      have lyF : ys.length = F.length := by omega
      have zf : (ys.zip F).map Prod.fst = ys := List.map_fst_zip (by omega)
      have zl : (ys.zip F).length = i := by rw [List.length_zip]; omega
      have tz := TAt.zip t1
      refine ⟨_, rfl, L, rfl, ⟨_, SqL.of e1⟩, fun D hD => lc_genL (f := Prod.fst) (p := fun q => HT.lexLt q.2 r) (e := Prod.fst) hD (SqL.of (K := K) (by rw [zf]; exact e1)) (by rw [zl, sizeLine_eq]; omega) (fun q H' hq s2 N S' hN hS => ?_) (fun H2 s2 eD => ?_)⟩
      · obtain ⟨t', et, ht'⟩ := tz q hq
        refine ⟨rfl, _, rfl, _, rfl, t', t, q.2, r, et, rfl, SqT.of (s2 _ _ ht'), SqT.of (s2 _ _ ht1), _, rfl, ?_⟩
        cases hb : HT.lexLt q.2 r with
        | true => exact ite2 (fun _ => ⟨_, rfl, hN hb _ (Same.refl _)⟩) (fun z => absurd rfl z)
        | false => exact ite2 (fun z => absurd z (by decide)) (fun _ => hS hb _ (Same.refl _))
      refine ⟨D, _, rfl, .inl (SqL.of eD), ?_⟩
      have zz : (((ys.zip F).filter fun q => HT.lexLt q.2 r).map Prod.fst).length = (F.filter fun o => HT.lexLt o r).length := by
        rw [List.length_map]
        exact zip_filter_len (p := fun o => HT.lexLt o r) lyF
      rw [zz]
      obtain ⟨n, en⟩ : ∃ n, n = (F.filter fun o => HT.lexLt o r).length := ⟨_, rfl⟩
      have nl : n ≤ F.length := by rw [en]; exact List.length_filter_le _ _
      rw [← en]
      refine gN_st (σ' := [some (.ref R), some (.ref L), some (.ref t), some (.int ((n : Nat) : Int)), none]) rfl ?_
      have e12 := s2 _ _ e1
      refine ⟨_, rfl, .inl ⟨rfl, _, SqL.of e12⟩, _, rfl, _, rfl, L, ys, _, _, rfl, rfl, e12, by rw [sizeLine_eq]; omega, by omega, by omega, ?_⟩
      refine ⟨_, _, _, rfl, fun b o z => ?_, upd_same, ?_⟩
      · rw [upd_ne (ne_of_none z hL)]
        exact s2 _ _ (s1 _ _ z)
      · have em : ((insL F r).map fun p => p.map V.int) = ((F.map fun p => p.map V.int).take n ++ [r.map V.int]) ++ (F.map fun p => p.map V.int).drop n := by
          unfold insL
          rw [← en, List.map_append, List.map_append, List.map_take, List.map_drop]
          rfl
        rw [nx, em]
        have t2 := (t1.same s2).upd (o := .lst (ys.take n ++ [.ref t] ++ ys.drop n)) e12
        have tL : t ≠ L := ne_of (s2 _ _ ht1) e12 (by intro z; cases z)
        exact ((t2.take n).app (show TAt _ [V.ref t] [r.map V.int] from ⟨⟨t, rfl, by rw [upd_ne tL]; exact s2 _ _ ht1⟩, trivial⟩)).app (t2.drop n)
    · rintro σ H1 ⟨v2, v3, ys, rfl, s1, e1, t1⟩
      rw [show xs.length = rows.length by rw [tR.length, List.length_map], List.take_length] at t1
      exact ⟨_, rfl, k L ys H1 hL s1 e1 t1⟩
end
theorem TAt.relL {α : Type} {H : Hp} {g : α → List V} {ys : List V} {F : List α} (h : TAt H ys (F.map g)) : RlL (fun H v x => ∃ t, v = V.ref t ∧ H t = some (.tup (g x))) H ys F := by
  refine ⟨by rw [h.length, List.length_map], fun j v y h1 h2 => ?_⟩
  obtain ⟨t, p, e, hp, ht⟩ := h.get h1
  rw [List.getElem?_map, h2] at hp
  exact ⟨t, e, by rw [ht]; exact congrArg (fun z => some (HO.tup z)) (Option.some.inj hp).symm⟩
theorem RlL.tat {α : Type} {H : Hp} {g : α → List V} : ∀ {ys : List V} {F : List α}, RlL (fun H v x => ∃ t, v = V.ref t ∧ H t = some (.tup (g x))) H ys F → TAt H ys (F.map g)
  | [], [], _ => trivial
  | [], _ :: _, h => nomatch h.1
  | _ :: _, [], h => nomatch h.1
  | y :: ys, x :: F, h => ⟨h.2 0 y x rfl rfl, RlL.tat ⟨by have := h.1; simpa using this, fun j v z h1 h2 => h.2 (j + 1) v z h1 h2⟩⟩
theorem RuleAt.butL {C r : Addr} {H H' : Hp} {ls : List (Option Int)} (h : RuleAt C H r ls) (b : ButL H H') : RuleAt C H' r ls := by
  obtain ⟨dx, t, h1, h2⟩ := h
  exact ⟨dx, t, b _ _ h1 (fun ps z => by cases z), b _ _ h2 (fun ps z => by cases z)⟩
theorem zip_filter_map {α β γ : Type} {p : β → Bool} {g : β → γ} {ys : List α} {F : List β} (h : (ys.zip F).map Prod.snd = F) : ((ys.zip F).filter fun q => p q.2).map (fun q => g q.2) = (F.filter p).map g := by
  conv => rhs; rw [← h, List.filter_map]
  rw [List.map_map]
  rfl
theorem shp_lv (p : List Int) : (short (p.map some)).map lv = (shp p).map V.int := by
  rw [short_ints, List.map_map]
  rfl
theorem reck_rule {C CR t : Addr} {i : Nat} {σ : L2.St} {H : Hp} {Q : VK} {ls : List (Option Int)} (hi : σ[i]? = some (some (.ref t))) (e : H t = some (.tup (ls.map lv))) (h0 : 0 < ls.length) (h1 : ls.length ≤ 1000) (k : ∀ r H', Same H H' → RuleAt C H' r (short ls) → Q (.ref r) H') :
    StX.tMakeR C (fun (vs : List V) (H : Hp) (Q : VK) (E : XK) => ∃ ws rest, vs = ws ++ rest ∧ ws.length = ["self"].length ∧ rest.length ≤ sizeLine ∧ ∀ p, H p = Option.none → spInitR C CR (ws ++ [V.ref p]) (upd H p (.tup rest)) Q E) E0 (tCons (tMake CR (spReck CR) [] E0 (tCons (tVar i) tNil)) tNil) σ H Q := by
  refine ⟨_, hi, fun rk dr n1 n2 n3 => ⟨rk, dr, t, rfl, upd_same, fun H3 kp3 e3 => ⟨rfl, ?_⟩⟩⟩
  refine fun rr dd m1 m2 m3 => ⟨[.ref rr], [.ref rk], rfl, rfl, by show 1 ≤ sizeLine; decide, fun p hp => ?_⟩
  have s23 : Same H H3 := fun b o e => kp3 b o (by rw [upd_ne (ne_of_none e n1), upd_ne (ne_of_none e n2)]; exact e) (ne_of_none e n1)
  have sC : Same H3 (upd (upd H3 dd (.own rr)) rr (.ins C dd [])) := fun b o e => by
    rw [upd_ne (ne_of_none e m1), upd_ne (ne_of_none e m2)]
    exact e
  have sD : Same H3 (upd (upd (upd H3 dd (.own rr)) rr (.ins C dd [])) p (.tup [.ref rk])) := sC.trans (same_upd hp)
  have nrp : rr ≠ p := ne_of_none upd_same hp
  refine ⟨rr, p, dd, rk, dr, t, ls, rfl, by rw [upd_ne nrp]; exact upd_same, upd_same, sD _ _ e3, sD _ _ (s23 _ _ e), h0, h1, fun H5 kp ra => ⟨rfl, k rr H5 ?_ ra⟩⟩
  intro b o e
  have e4 := s23 _ _ e
  exact kp b o (sD _ _ e4) (ne_of_none e4 m1)
abbrev s_least_lives : Stmt := (top 39)
abbrev N_least_lives : List Str := ["wish", "plans", "age", "wished", "rules", "plan", "least", "rule", "other"]
theorem sc_least_lives : FnScope N_least_lives ["wish"] (defScope s_least_lives) :=
  ⟨rfl, rfl, rfl, by decide +kernel, rfl, by decide +kernel, by decide +kernel⟩
def spLeast (C : Addr) : Sp := fun vs H Q _ => ∃ (W : Addr) (xs : List V) (ws : List (Int × Int)), vs = [.ref W] ∧ H W = some (.tup xs) ∧ TAt H xs (ws.map wV) ∧ WOk ws ∧ ws.length ≤ 4 ∧ (∀ p ∈ ws, p.2 ≤ 63) ∧
  ∀ (T : Addr) (ys : List V) (H' : Hp), H T = none → Same H H' → H' T = some (.tup ys) → TAt H' ys ((leastL ws).map fun p => p.map V.int) → Q (.ref T) H'
theorem plansF_len : ∀ {ws : List (Int × Int)} {ps : List (List Int)} {m : Nat}, (∀ s ∈ ws, wdN s.2 ≤ m) → (plansF ws ps).length ≤ ps.length * (m + 1) ^ ws.length
  | [], ps, m, _ => by rw [List.length_nil, Nat.pow_zero, Nat.mul_one]; exact Nat.le_refl _
  | s :: ws, ps, m, h => by
    have ih := plansF_len (ws := ws) (ps := longL s.1 (wdN s.2) ps) (m := m) fun x hx => h x (List.mem_cons_of_mem _ hx)
    have l := longL_len (age := s.1) (W := wdN s.2) (ps := ps)
    have l2 : ps.length * (wdN s.2 + 1) ≤ ps.length * (m + 1) := Nat.mul_le_mul_left _ (Nat.succ_le_succ (h s List.mem_cons_self))
    refine Nat.le_trans ih ?_
    rw [List.length_cons, Nat.pow_succ, Nat.mul_comm ((m + 1) ^ ws.length), ← Nat.mul_assoc]
    exact Nat.mul_le_mul_right _ (Nat.le_trans l l2)
theorem plansF_long : ∀ {ws : List (Int × Int)} {ps : List (List Int)} {m : Nat}, (∀ s ∈ ws, wdN s.2 ≤ m) → (∀ p ∈ ps, p.length ≤ m + 1) → ∀ q ∈ plansF ws ps, q.length ≤ m + 1
  | [], ps, m, _, h => h
  | s :: ws, ps, m, hw, h => plansF_long (ws := ws) (ps := longL s.1 (wdN s.2) ps) (fun x hx => hw x (List.mem_cons_of_mem _ hx)) fun q hq => by
    obtain ⟨p, _, j, _, h2, rfl⟩ := mem_longL.mp hq
    rw [plan1_len]
    have := hw s List.mem_cons_self
    omega
section
variable {P : Program} {w : World} {K : PySem.W.Frag} {mg : Str → Option Value} {base : Heap} {C CR : Addr} {mc : Value} {fInit pAre fAre fReck fOr fAnd fAdd fLe fEq pLv fLv : Addr} {fdAre fdReck fdLv : FuncData}
theorem ok_least (D : Df K mg "least_lives" s_least_lives ["wish"]) (T : Bl mg) (R : RuleT K mg C CR mc fInit pAre fAre fdAre) (R2 : Rule2T K C CR fReck fdReck) (M : OpsT K C fOr fAnd fAdd fLe fEq pLv fLv) (G_reck : FnOk P w K mg base CX0 1 fReck fdReck ["self", "found"] (spReck CR)) (G_initR : FnStar P w K mg base 3 fInit (spInitR C CR)) (G_le : FnR P w K mg base CX0 3 fLe (spLe C))
    (F_lives : FnOk P w K mg base CX0 1 fLv fdLv ["self"] (spLivesP C)) (b_lives : Binds K fdLv ["self"] []) (hLS : ∃ t, mg "MOST_LISTED_STEPS" = some (.int 4 t)) (hLD : ∃ t, mg "GREATEST_LISTED_DISTANCE" = some (.int 63 t))
    (C_longer : HasO P w K mg base 2 "_longer" ["plans", "age", "wished"] (spLonger K)) (C_ascending : HasO P w K mg base 1 "_ascending" ["rows"] spAsc) : HasO P w K mg base 5 "least_lives" ["wish"] (spLeast C) := by
  obtain ⟨tLS, hLS⟩ := hLS
  obtain ⟨tLD, hLD⟩ := hLD
  refine D.hasO sc_least_lives (fun vs H Q E h => ?_) (fun f cdv A outer s H vs Q E hr h => ?_)
  · obtain ⟨W, xs, ws, rfl, _⟩ := h
    rfl
  · obtain ⟨W, xs, ws, rfl, eW, tW, wo, l4, d63, k⟩ := h
    refine ⟨_, (pss_cons (ps_if (pt_cmpR op_gt (pe_callB call_len_seq (by rfl) T.len PySem.boot_len (pa_cons (pv 0) pa_nil)) (pe_glob (v := .int 4) rfl hLS ⟨_, rfl⟩) (nomark _)) (pss_one ps_never) pss_nil)
      (pss_cons (ps_if (pt_cmpR op_gt (pe_ix ix_tup (pe_ix ix_tup (pv 0) (pe_un un_neg pe_int) (fun _ _ => rfl)) pe_int (fun _ _ => rfl)) (pe_glob (v := .int 63) rfl hLD ⟨_, rfl⟩) (nomark _)) (pss_one ps_never) pss_nil)
      (pss_cons (ps_set (i := 1) sc_least_lives.nd rfl (Or.inl rfl) (pe_lst (pa_cons (pe_tup pa_nil) pa_nil)))
      (pss_cons (ps_for PassesOwn.never rfl (pi_tup (pv 0)) (pg_tup rfl (pgs_cons (pg_name (i := 2) sc_least_lives.nd rfl (Or.inl rfl)) (pgs_cons (pg_name (i := 3) sc_least_lives.nd rfl (Or.inl rfl)) pgs_nil))) (pss_one (ps_set (i := 1) sc_least_lives.nd rfl (Or.inl rfl) (pe_hasO C_longer (hr.mono (by decide)) rfl (pa_cons (pv 1) (pa_cons (pv 2) (pa_cons (pv 3) pa_nil)))))))
      (pss_cons (ps_set (i := 4) sc_least_lives.nd rfl (Or.inr rfl) (pe_lc (own := [("plan", 5)]) (g := gName 5) (tt := tYes) rfl sc_least_lives.nd (pi_list (pv 1)) (blkOk_by (N := N_least_lives) (sc := defScope s_least_lives) (by decide +kernel)) (fun _ _ _ _ _ => pg_name (i := 5) sc_least_lives.nd rfl (Or.inl rfl)) (fun _ _ _ _ _ => pts_nil) (fun _ _ _ _ _ => (StX.pe_makeR R.mkc G_initR (hr.mono (by decide)) rfl R.m_Rule pass0 (pa_cons (pe_make R2.mkR G_reck (hr.mono (by decide)) rfl R.m_Reckoned R2.b_reck .nil pass0 (pa_cons (pv 5) pa_nil)) pa_nil)))))
      (pss_cons (ps_setLc (i := 6) (own := [("rule", 7)]) (g := gName 7) rfl sc_least_lives.nd rfl rfl (sw_true rfl rfl rfl (by decide +kernel)) (pi_lstK (K := K) rfl (pv 4)) (blkOk_by (N := N_least_lives) (sc := defScope s_least_lives) (by decide +kernel)) (fun _ _ _ _ _ => pg_name (i := 7) sc_least_lives.nd rfl (Or.inr rfl)) (fun _ _ _ _ _ => (pts_one (pt_cmpR op_eq (pe_callB (call_lenK (K := K) rfl) (by rfl) T.len PySem.boot_len (pa_cons (pe_lc (own := [("other", 8)]) (g := gName 8) rfl sc_least_lives.nd (pi_lstK (K := K) rfl (pv 4)) (blkOk_by (by rfl)) (fun _ _ _ _ _ => pg_name (i := 8) sc_least_lives.nd rfl (Or.inl rfl)) (fun _ _ _ _ _ => (pts_one (pt_cmpR (op_ownC (fun _ _ => rfl) M.le G_le (hr.mono (by decide))) (pv 8) (pv 7) (nomark _)))) (fun _ _ _ _ _ => (pv 8))) pa_nil)) pe_int (nomark _)))) (fun _ _ _ _ _ => (pe_prop (pv 7) R.cl M.lv F_lives (hr.mono (by decide)) b_lives .nil pass0 rfl)))
      (pss_one (ps_ret (pe_callTy call_tuple_of (by rfl) T.tuple (by decide +kernel) (pa_cons (pe_hasO C_ascending (hr.mono (by decide)) rfl (pa_cons (pv 6) pa_nil)) pa_nil)))))))))), ?_⟩
    have lx : xs.length = ws.length := by rw [tW.length, List.length_map]
    have wp := wo.pos
    obtain ⟨xi, xl, exs⟩ : ∃ xi xl, xs = xi ++ [xl] := ⟨xs.dropLast, xs.getLast (by intro z; rw [z] at lx; simp at lx; omega), (List.dropLast_concat_getLast _).symm⟩
    obtain ⟨tl, pl0, exl, hpl, htl⟩ := tW.get (i := xi.length) (x := xl) (by rw [exs, List.getElem?_append_right (Nat.le_refl _), Nat.sub_self]; rfl)
    obtain ⟨sl, hsl, rfl⟩ : ∃ s, ws[xi.length]? = some s ∧ pl0 = wV s := by
      rw [List.getElem?_map] at hpl
      cases e : ws[xi.length]? with
      | none => rw [e] at hpl; cases hpl
      | some s => rw [e] at hpl; exact ⟨s, rfl, (Option.some.inj hpl).symm⟩
    subst exl
    have s63 := d63 sl (List.mem_of_getElem? hsl)
    refine ⟨_, rfl, W, _, rfl, .inr (SqT.of eW), _, _, rfl, rfl, _, rfl, ite2 (fun z => absurd (of_decide_eq_true z) (by omega)) (fun _ => ?_)⟩
    refine ⟨_, rfl, _, rfl, W, _, _, _, rfl, rfl, SqT.of eW, by rw [exs]; exact atI_last _ _, ?_⟩
    refine ⟨tl, _, _, _, rfl, rfl, SqT.of htl, at_of (j := 1) rfl rfl, _, _, rfl, rfl, _, rfl, ite2 (fun z => absurd (of_decide_eq_true z) (by omega)) (fun _ => ?_)⟩
    refine ⟨Nat.zero_le _, fun e0 he0 => ⟨by show 1 ≤ sizeLine; decide, fun P0 hP0 => ?_⟩⟩
    refine gN_st (σ' := [some (.ref W), some (.ref P0), none, none, none, none, none, none, none]) rfl ?_
    have s0 := (same_upd (o := .tup []) he0).trans (same_upd (o := .lst [V.ref e0]) hP0)
    have eP0 := upd_same (H := upd H e0 (.tup [])) (a := P0) (o := .lst [V.ref e0])
    have tP0 : TAt (upd (upd H e0 (.tup [])) P0 (.lst [V.ref e0])) [V.ref e0] (([[]] : List (List Int)).map fun p => p.map V.int) := ⟨⟨e0, rfl, same_upd hP0 _ _ upd_same⟩, trivial⟩
    generalize upd (upd H e0 (.tup [])) P0 (.lst [V.ref e0]) = H0 at *
    have w6 : ∀ s ∈ ws, wdN s.2 ≤ 6 := fun s hs => wdN_6 (wo.bd s hs).2.2.1 (d63 s hs)
    have bnd : ∀ i, (plansF (ws.take i) [[]]).length ≤ 2401 := fun i => by
      refine Nat.le_trans (plansF_len (m := 6) fun s hs => w6 s (List.mem_of_mem_take hs)) ?_
      have l : (ws.take i).length ≤ 4 := by rw [List.length_take]; omega
      exact Nat.le_trans (Nat.mul_le_mul_left _ (Nat.pow_le_pow_right (by decide) l)) (by decide)
    have lng : ∀ i, ∀ p ∈ plansF (ws.take i) [[]], p.length ≤ 7 := fun i => plansF_long (fun s hs => w6 s (List.mem_of_mem_take hs)) fun p hp => by rw [List.mem_singleton.mp hp]; decide
    refine ⟨_, rfl, W, rfl, ⟨_, SqT.of (s0 _ _ eW)⟩, for_tup (xs := xs) (fun i σ H' => ∃ PL ys v2 v3, σ = [some (.ref W), some (.ref PL), v2, v3, none, none, none, none, none] ∧ Same H H' ∧ H' PL = some (.lst ys) ∧ TAt H' ys ((plansF (ws.take i) [[]]).map fun p => p.map V.int)) ⟨P0, _, none, none, rfl, s0, eP0, tP0⟩ (fun i σ H' _ z => ?_) ?_ ?_⟩
    · obtain ⟨_, _, _, _, _, z, _⟩ := z
      exact SqT.of (z _ _ eW)
    · rintro i x σ H1 hx ⟨PL, ys, v2, v3, rfl, s1, eP, tP⟩
      obtain ⟨t, p0, rfl, hp0, ht⟩ := tW.get hx
      obtain ⟨s', hs', rfl⟩ : ∃ s, ws[i]? = some s ∧ p0 = wV s := by
        rw [List.getElem?_map] at hp0
        cases e : ws[i]? with
        | none => rw [e] at hp0; cases hp0
        | some s => rw [e] at hp0; exact ⟨s, rfl, (Option.some.inj hp0).symm⟩
      have b := wo.bd s' (List.mem_of_getElem? hs')
      have w6' := w6 s' (List.mem_of_getElem? hs')
      have bi := bnd i
      have step : plansF (ws.take (i + 1)) [[]] = longL s'.1 (wdN s'.2) (plansF (ws.take i) [[]]) := by
        unfold plansF
        rw [List.take_add_one, hs', List.foldl_append]
        rfl
      refine ⟨t, _, rfl, SqT.of (s1 _ _ ht), rfl, _, _, rfl, _, _, rfl, rfl, ?_⟩
      refine to_st (σ' := [some (.ref W), some (.ref PL), some (.int s'.1), some (.int s'.2), none, none, none, none, none]) rfl ?_
      refine ⟨_, rfl, _, rfl, _, rfl, PL, ys, plansF (ws.take i) [[]], s'.1, s'.2, rfl, eP, tP, by omega, fun p hp => by have := lng i p hp; omega, b.1, b.2.1, b.2.2.1, b.2.2.2, ?_, fun L zs H2 hL s2 eL tL => ?_⟩
      · have q : (plansF (ws.take i) [[]]).length * (wdN s'.2 + 1) ≤ 2401 * 7 := Nat.mul_le_mul bi (by omega)
        omega
      refine gN_st (σ' := [some (.ref W), some (.ref L), some (.int s'.1), some (.int s'.2), none, none, none, none, none]) rfl ?_
      exact ⟨L, zs, _, _, rfl, s1.trans s2, eL, by rw [step]; exact tL⟩
    rintro σ H1 ⟨PL, ys, v2, v3, rfl, s1, eP, tP⟩
    rw [lx, List.take_length] at tP
    obtain ⟨PS, ePS⟩ : ∃ PS, PS = plansF ws [[]] := ⟨_, rfl⟩
    have bP : PS.length ≤ 2401 := by rw [ePS]; have z := bnd ws.length; rwa [List.take_length] at z
    have lP : ∀ p ∈ PS, p.length ≤ 7 := by rw [ePS]; have z := lng ws.length; rwa [List.take_length] at z
    have okP : ∀ q ∈ PS, PlanOk ws q := by rw [ePS]; exact plans_ok (wo.asc.imp fun h => Int.le_of_lt h.1) fun s hs => (wo.bd s hs).1
    have lsP : leastL ws = ascL ((PS.filter (onlyP PS)).map shp) := by rw [ePS]; rfl
    rw [lsP] at k
    rw [← ePS] at tP
    clear ePS lsP bnd lng
    have nP : ∀ q ∈ PS, 0 < q.length := fun q hq => (okP q hq).len (by intro z; rw [z] at wp; exact absurd wp (by decide))
    obtain ⟨z1, z2, z3⟩ := tP.relL.zip
    have zl : (ys.zip PS).length ≤ 2401 := by rw [List.length_zip]; omega
    refine ⟨_, rfl, PL, rfl, ⟨_, SqL.of eP⟩, fun D hD => lc_relL (ks := ys.zip PS) (f := Prod.fst) (p := fun _ => true) (e := Prod.snd) (fun H v q => ∃ r, v = V.ref r ∧ RuleAt C H r (short (q.map some))) (fun H H' v q b ⟨r, e, ra⟩ => ⟨r, e, ra.butL b⟩) hD (SqL.of (K := K) (by rw [z1]; exact eP)) (by rw [sizeLine_eq]; omega) (fun q H' hq s2 N S hN hS => ?_) (fun H2 us s2 eD rl => ?_)⟩
    · obtain ⟨t, et, ht⟩ := z3 q hq
      have hq2 : q.2 ∈ PS := by rw [← z2]; exact List.mem_map.mpr ⟨q, hq, rfl⟩
      have ht2 := s2 _ _ ht
      have em : q.2.map V.int = (q.2.map some).map lv := by rw [List.map_map]; rfl
      rw [em] at ht2
      refine ⟨rfl, ?_⟩
      unfold tYes
      refine ite2 (fun _ => ?_) (fun z => absurd rfl z)
      refine reck_rule (ls := q.2.map some) (by rw [et]; rfl) ht2 (by rw [List.length_map]; exact nP _ hq2) (by rw [List.length_map]; have := lP _ hq2; omega) fun r H3 s3 ra => ?_
      exact hN _ _ rfl s3 ⟨r, rfl, ra⟩
    rw [List.filter_eq_self.mpr (fun _ _ => rfl), z2] at rl
    refine gN_st (σ' := [some (.ref W), some (.ref PL), v2, v3, some (.ref D), none, none, none, none]) rfl ?_
    have s02 := s1.trans s2
    obtain ⟨y1, y2, y3⟩ := rl.zip
    have yl : (us.zip PS).length ≤ 2401 := by rw [List.length_zip]; omega
    dsimp only
    refine ⟨_, rfl, D, rfl, ⟨_, SqL.of eD⟩, fun D2 hD2 => lc_relL (ks := us.zip PS) (f := Prod.fst) (p := fun q => onlyP PS q.2) (e := fun q => shp q.2) (fun H v p => ∃ t, v = V.ref t ∧ H t = some (.tup (p.map V.int))) (fun H H' v q b ⟨r, e, ra⟩ => ⟨r, e, b _ _ ra (fun ps z => by cases z)⟩) hD2 (SqL.of (K := K) (by rw [y1]; exact eD)) (by rw [sizeLine_eq]; omega) (fun q H' hq s3 N S hN hS => ?_) (fun H3 vs s3 eD2 rl2 => ?_)⟩
    · obtain ⟨r, et, ra⟩ := y3 q hq
      have hq2 : q.2 ∈ PS := by rw [← y2]; exact List.mem_map.mpr ⟨q, hq, rfl⟩
      have ra' := ra.same s3
      have eD' := s3 _ _ eD
      have y3' : ∀ p ∈ us.zip PS, ∃ r, p.1 = V.ref r ∧ RuleAt C H' r (short (p.2.map some)) := fun p hp => by
        obtain ⟨r, e, x⟩ := y3 p hp
        exact ⟨r, e, x.same s3⟩
      have sb : ∀ o ∈ PS, 0 < (short (o.map some)).length ∧ (short (o.map some)).length ≤ 1000 := fun o ho => by
        have a := short_len_pos (ls := o.map some) (by rw [List.length_map]; exact nP _ ho)
        have b := short_len_le (o.map some)
        rw [List.length_map] at b
        have := lP _ ho
        exact ⟨a, by omega⟩
      refine ⟨rfl, ?_⟩
      refine ⟨_, rfl, D, rfl, ⟨_, SqL.of eD'⟩, fun D3 hD3 => lc_relL (ks := us.zip PS) (f := Prod.fst) (p := fun o => belP o.2 q.2) (e := fun _ => ()) (fun _ _ _ => True) (fun _ _ _ _ _ _ => trivial) hD3 (SqL.of (K := K) (by rw [y1]; exact eD')) (by rw [sizeLine_eq]; omega) (fun o H4 ho s4 N2 S2 hN2 hS2 => ?_) (fun H4 us2 s4 eD3 rl3 => ?_)⟩
      · obtain ⟨r2, et2, ra2⟩ := y3' o ho
        have ho2 : o.2 ∈ PS := by rw [← y2]; exact List.mem_map.mpr ⟨o, ho, rfl⟩
        have ra4 := ra'.same s4
        have ra24 := ra2.same s4
        obtain ⟨dxa, ta, a1, a2⟩ := id ra24
        obtain ⟨dxb, tb, b1, b2⟩ := id ra4
        refine ⟨rfl, _, rfl, _, rfl, r2, r, dxa, dxb, _, _, et2, et, a1, b1, r2, r, _, _, rfl, ra24, ra4, (sb _ ho2).1, (sb _ hq2).1, (sb _ ho2).2, (sb _ hq2).2, fun H5 s5 => ?_⟩
        refine ⟨_, rfl, ?_⟩
        cases hb : belP o.2 q.2 with
        | true => exact ite2 (fun _ => ⟨_, rfl, hN2 _ _ hb s5 trivial⟩) (fun z => absurd hb z)
        | false => exact ite2 (fun z => absurd (hb.symm.trans z) (by decide)) (fun _ => hS2 _ hb s5)
      refine ⟨D3, _, rfl, .inl (SqL.of eD3), rfl, _, rfl, ?_⟩
      have el : us2.length = (PS.filter fun o => belP o q.2).length := by
        rw [rl3.1, List.length_map]
        exact zip_filter_len (p := fun o => belP o q.2) (by rw [rl.1])
      have ed : decide (V.int ((us2.length : Nat) : Int) = V.int 1) = onlyP PS q.2 := by
        unfold onlyP
        rw [el, decide_eq_decide]
        constructor
        · intro z
          have := V.int.inj z
          omega
        · intro z
          rw [z]
          rfl
      rw [ed]
      cases ho : onlyP PS q.2 with
      | false => exact ite2 (fun z => absurd z (by decide)) (fun _ => hS _ ho s4)
      | true =>
        refine ite2 (fun _ => ?_) (fun z => absurd rfl z)
        have ra4 := ra'.same s4
        obtain ⟨dxb, tb, b1, b2⟩ := id ra4
        refine ⟨_, rfl, r, dxb, _, et, b1, r, _, rfl, ra4, fun T eT => hN _ _ ho s4 ⟨T, rfl, ?_⟩⟩
        rw [eT, shp_lv]
    refine gN_st (σ' := [some (.ref W), some (.ref PL), v2, v3, some (.ref D), none, some (.ref D2), none, none]) rfl ?_
    rw [zip_filter_map (p := onlyP PS) (g := shp) y2] at rl2
    have t2 := RlL.tat (g := fun p : List Int => p.map V.int) rl2
    have lf := List.length_filter_le (onlyP PS) PS
    refine ⟨_, rfl, D2, vs, _, rfl, eD2, t2, by rw [List.length_map]; omega, fun L zs H4 hL s4 eL tL => ⟨L, _, rfl, .inl ⟨SqL.of eL, fun T hT => ?_⟩⟩⟩
    have s14 := s02.trans (s3.trans s4)
    have s5 := same_upd (o := .tup zs) hT
    exact k T zs _ (s14.free hT) (s14.trans s5) upd_same (tL.same s5)
end
/-! SPLIT -/
abbrev s_bands : Stmt := (top 9)
abbrev N_bands : List Str := ["rule", "tick", "bands", "step", "high", "life", "low"]
theorem sc_bands : FnScope N_bands ["rule", "tick"] (defScope s_bands) :=
  ⟨rfl, rfl, rfl, by decide +kernel, rfl, by decide +kernel, by decide +kernel⟩
def spBands (C : Addr) : Sp := fun vs H Q _ => ∃ (r : Addr) (tick : Int) (ls : List (Option Int)), vs = [.ref r, .int tick] ∧ RuleAt C H r ls ∧ ls.length ≤ 61 ∧
  ∀ (D : Addr) (xs : List V) (H' : Hp), Same H H' → H' D = some (.lst xs) → TAt H' xs ((bandsOf tick 0 tick ls).map bandV) → Q (.ref D) H'
section
variable {P : Program} {w : World} {K : PySem.W.Frag} {mg : Str → Option Value} {base : Heap} {C CR : Addr} {mc : Value} {fInit pAre fAre : Addr} {fdAre : FuncData}
theorem ok_bands {fLv pLv : Addr} {fdLv : FuncData} (D : Df K mg "_bands" s_bands ["rule", "tick"]) (T : Bl mg) (R : RuleT K mg C CR mc fInit pAre fAre fdAre) (M_lv : PropOf K C "lives" pLv fLv) (F_lives : FnOk P w K mg base CX0 1 fLv fdLv ["self"] (spLivesP C)) (b_lives : Binds K fdLv ["self"] [])
    (C_at_most : HasO P w K mg base 1 "at_most" ["one", "other"] spAtMost) : HasO P w K mg base 3 "_bands" ["rule", "tick"] (spBands C) := by
  refine D.hasO sc_bands (fun vs H Q E h => ?_) (fun f cdv A outer s H vs Q E hr h => ?_)
  · obtain ⟨r, tick, ls, rfl, _⟩ := h
    rfl
  · obtain ⟨r, tick, ls, rfl, ra, hl, k⟩ := h
    refine ⟨_, (pss_cons (ps_set (i := 2) sc_bands.nd rfl (Or.inl rfl) (pe_lst pa_nil))
      (pss_cons (ps_par (i := 3) (j := 4) rfl sc_bands.nd rfl rfl (by decide) rfl rfl (pa_cons pe_int (pa_cons (pv 1) pa_nil)) (by rfl))
      (pss_cons (ps_for PassesOwn.never rfl (pi_tup (pe_prop (pv 0) R.cl M_lv F_lives (hr.mono (by decide)) b_lives .nil pass0 rfl)) (pg_name (i := 5) sc_bands.nd rfl (Or.inl rfl)) (pss_cons (ps_set (i := 6) sc_bands.nd rfl (Or.inl rfl) (pe_ifExp (pt_val (pe_hasO C_at_most (hr.mono (by decide)) rfl (pa_cons (pe_op op_add (pv 1) pe_int) (pa_cons (pv 5) pa_nil)))) pe_int (pe_op op_sub (pe_op op_add (pv 1) pe_int) (pv 5))))
      (pss_cons (ps_expr (pe_bm PySem.F.plainAttrs_list PySem.F.slot_list_append PySem.F.type_list_append mt_append (pv 2) (pa_cons (pe_tup (pa_cons (pv 6) (pa_cons (pv 4) (pa_cons (pv 3) pa_nil)))) pa_nil)))
      (pss_one (ps_par (i := 3) (j := 4) rfl sc_bands.nd rfl rfl (by decide) rfl rfl (pa_cons (pe_op op_mul pe_int (pv 3)) (pa_cons (pe_op op_sub (pv 6) pe_int) pa_nil)) (by rfl))))))
      (pss_one (ps_ret (pv 2)))))), ?_⟩
    refine ⟨Nat.zero_le _, fun F hF => ?_⟩
    have ra1 := ra.same (same_upd (o := .lst []) hF)
    obtain ⟨dx, t0, hr1, hr2⟩ := id ra1
    refine ⟨_, rfl, _, _, rfl, _, rfl, r, _, _, rfl, hr1, r, ls, rfl, ra1, fun t et => ?_⟩
    have nFt : F ≠ t := (ne_of et (upd_same (H := H) (a := F) (o := .lst [])) (by intro z; cases z)).symm
    have et0 : H t = some (.tup (ls.map lv)) := by
      rw [upd_ne nFt.symm] at et
      exact et
    refine ⟨t, rfl, ⟨_, SqT.of et⟩, for_tup (xs := ls.map lv) (fun i σ H' => ∃ xs acc hi v5 v6, σ = [some (.ref r), some (.int tick), some (.ref F), some (.int (2 ^ i)), some (.int hi), v5, v6] ∧ H' F = some (.lst xs) ∧ TAt H' xs ((acc : List (Int × Int × Int)).map bandV) ∧ acc.length ≤ i ∧ acc ++ bandsOf tick i hi (ls.drop i) = bandsOf tick 0 tick ls ∧ Same H H')
      ⟨[], [], tick, none, none, rfl, upd_same, trivial, Nat.le_refl _, rfl, same_upd hF⟩ (fun i σ H' _ z => ?_) ?_ ?_⟩
    · obtain ⟨_, _, _, _, _, _, _, _, _, _, sm⟩ := z
      exact SqT.of (sm _ _ et0)
    · rintro i x σ H1 hx ⟨xs, acc, hi, v5, v6, rfl, eF, ta, hal, e, sm⟩
      obtain ⟨l, hll, rfl⟩ := map_at hx
      have hi2 := (List.getElem?_eq_some_iff.mp hll).1
      rw [drop_cons hll] at e
      have e2 : (2 : Int) * 2 ^ i = 2 ^ (i + 1) := by rw [Int.pow_succ, Int.mul_comm]
      refine ⟨_, rfl, _, _, rfl, rfl, _, rfl, some (tick + 1), l, rfl, _, rfl, ?_⟩
      cases l with
      | none =>
        refine ite2 (fun _ => ?_) (fun z => absurd rfl z)
        refine ⟨_, rfl, .inl ⟨rfl, _, SqL.of eF⟩, _, rfl, _, rfl, _, rfl, by show 3 ≤ sizeLine; decide, fun p hp => ?_⟩
        have nFp : F ≠ p := ne_of_none eF hp
        refine ⟨F, _, _, rfl, rfl, same_upd hp _ _ eF, small1000 (by rw [ta.length, List.length_map]; omega), ?_⟩
        refine ⟨_, rfl, _, _, rfl, rfl, .inl ⟨by decide, by decide⟩, _, rfl, _, _, rfl, rfl, _, _, rfl, xs ++ [V.ref p], acc ++ [(0, hi, 2 ^ i)], 0 - 1, _, _, congrArg (fun z => [some (V.ref r), some (.int tick), some (V.ref F), some (V.int z), some (V.int (0 - 1)), _, _]) e2, upd_same, ?_, by rw [List.length_append]; show acc.length + 1 ≤ i + 1; omega, by rw [List.append_assoc]; exact e, ?_⟩
        · rw [List.map_append]
          exact TAt.snoc (by rw [upd_ne nFp.symm]; exact upd_same) ((ta.same (same_upd hp)).upd (same_upd hp _ _ eF))
        · intro b o z
          rw [upd_ne (ne_of_none z hF)]
          exact same_upd hp _ _ (sm b o z)
      | some b =>
        have eu : bandsOf tick i hi (some b :: ls.drop (i + 1)) = (if tick + 1 ≤ b then 0 else tick + 1 - b, hi, 2 ^ i) :: bandsOf tick (i + 1) ((if tick + 1 ≤ b then 0 else tick + 1 - b) - 1) (ls.drop (i + 1)) := rfl
        rw [eu] at e
        refine ite2 (fun hc => ?_) (fun hc => ?_)
        · have hc' : tick + 1 ≤ b := of_decide_eq_true hc
          rw [if_pos hc'] at e
          refine ⟨_, rfl, .inl ⟨rfl, _, SqL.of eF⟩, _, rfl, _, rfl, _, rfl, by show 3 ≤ sizeLine; decide, fun p hp => ?_⟩
          have nFp : F ≠ p := ne_of_none eF hp
          refine ⟨F, _, _, rfl, rfl, same_upd hp _ _ eF, small1000 (by rw [ta.length, List.length_map]; omega), ?_⟩
          refine ⟨_, rfl, _, _, rfl, rfl, .inl ⟨by decide, by decide⟩, _, rfl, _, _, rfl, rfl, _, _, rfl, xs ++ [V.ref p], acc ++ [(0, hi, 2 ^ i)], 0 - 1, _, _, congrArg (fun z => [some (V.ref r), some (.int tick), some (V.ref F), some (V.int z), some (V.int (0 - 1)), _, _]) e2, upd_same, ?_, by rw [List.length_append]; show acc.length + 1 ≤ i + 1; omega, by rw [List.append_assoc]; exact e, ?_⟩
          · rw [List.map_append]
            exact TAt.snoc (by rw [upd_ne nFp.symm]; exact upd_same) ((ta.same (same_upd hp)).upd (same_upd hp _ _ eF))
          · intro b o z
            rw [upd_ne (ne_of_none z hF)]
            exact same_upd hp _ _ (sm b o z)
        · have hc' : ¬ tick + 1 ≤ b := fun z => hc (decide_eq_true z)
          rw [if_neg hc'] at e
          refine ⟨_, rfl, _, _, rfl, rfl, _, rfl, _, _, rfl, rfl, ?_⟩
          refine ⟨_, rfl, .inl ⟨rfl, _, SqL.of eF⟩, _, rfl, _, rfl, _, rfl, by show 3 ≤ sizeLine; decide, fun p hp => ?_⟩
          have nFp : F ≠ p := ne_of_none eF hp
          refine ⟨F, _, _, rfl, rfl, same_upd hp _ _ eF, small1000 (by rw [ta.length, List.length_map]; omega), ?_⟩
          refine ⟨_, rfl, _, _, rfl, rfl, .inl ⟨by decide, by decide⟩, _, rfl, _, _, rfl, rfl, _, _, rfl, xs ++ [V.ref p], acc ++ [((tick + 1 - b), hi, 2 ^ i)], (tick + 1 - b) - 1, _, _, congrArg (fun z => [some (V.ref r), some (.int tick), some (V.ref F), some (V.int z), some (V.int ((tick + 1 - b) - 1)), _, _]) e2, upd_same, ?_, by rw [List.length_append]; show acc.length + 1 ≤ i + 1; omega, by rw [List.append_assoc]; exact e, ?_⟩
          · rw [List.map_append]
            exact TAt.snoc (by rw [upd_ne nFp.symm]; exact upd_same) ((ta.same (same_upd hp)).upd (same_upd hp _ _ eF))
          · intro b o z
            rw [upd_ne (ne_of_none z hF)]
            exact same_upd hp _ _ (sm b o z)
    · rintro σ H1 ⟨xs, acc, hi, v5, v6, rfl, eF, ta, hal, e, sm⟩
      rw [List.length_map, List.drop_length] at e
      have e3 : acc = bandsOf tick 0 tick ls := by
        rw [← e]
        exact (List.append_nil acc).symm
      rw [e3] at ta
      exact ⟨_, rfl, k F xs H1 sm eF ta⟩
theorem lv_max (a b : Int) : lv (maxO (some a) (some b)) = .int (max a b) := by
  unfold maxO leO
  by_cases h : a ≤ b
  · rw [if_pos (decide_eq_true h)]
    show V.int b = _
    rw [show max a b = b by omega]
  · rw [if_neg (fun z => h (of_decide_eq_true z))]
    show V.int a = _
    rw [show max a b = a by omega]
theorem lv_min (a b : Int) : lv (minO (some a) (some b)) = .int (min a b) := by
  unfold minO leO
  by_cases h : a ≤ b
  · rw [if_pos (decide_eq_true h)]
    show V.int a = _
    rw [show min a b = a by omega]
  · rw [if_neg (fun z => h (of_decide_eq_true z))]
    show V.int b = _
    rw [show min a b = b by omega]
theorem bands_pow (tick : Int) : ∀ (ls : List (Option Int)) (i : Nat) (hi : Int), i + ls.length ≤ 500 → ∀ b ∈ bandsOf tick i hi ls, 0 < b.2.2 ∧ b.2.2.natAbs < 2 ^ 600
  | [], _, _, _, b, hb => nomatch hb
  | l :: r, i, hi, hl, b, hb => by
    have hl' : i + 1 + r.length ≤ 500 := by simp at hl; omega
    rcases List.mem_cons.mp hb with rfl | hb
    · exact ⟨pow2_pos i, by show ((2 : Int) ^ i).natAbs < 2 ^ 600; rw [pow2_natAbs]; exact Nat.pow_lt_pow_right (by decide) (by omega)⟩
    · exact bands_pow tick r (i + 1) _ hl' b hb
end
abbrev s_restore_point : Stmt := (top 7)
abbrev N_restore_point : List Str := ["rule", "tick", "age", "low", "high", "step", "latest", "point"]
theorem sc_restore_point : FnScope N_restore_point ["rule", "tick", "age"] (defScope s_restore_point) :=
  ⟨rfl, rfl, rfl, by decide +kernel, rfl, by decide +kernel, by decide +kernel⟩
abbrev s_distance : Stmt := (top 8)
abbrev N_distance : List Str := ["rule", "tick", "age", "point"]
theorem sc_distance : FnScope N_distance ["rule", "tick", "age"] (defScope s_distance) :=
  ⟨rfl, rfl, rfl, by decide +kernel, rfl, by decide +kernel, by decide +kernel⟩
def spRp (C : Addr) : Sp := fun vs H Q _ => ∃ (r : Addr) (t a : Int) (ls : List (Option Int)), vs = [.ref r, .int t, .int a] ∧ RuleAt C H r ls ∧ ls.length ≤ 61 ∧ ∀ H', Same H H' → Q (lv (rpO ls t (t - a))) H'
def spDist (C : Addr) : Sp := fun vs H Q _ => ∃ (r : Addr) (t a : Int) (ls : List (Option Int)), vs = [.ref r, .int t, .int a] ∧ RuleAt C H r ls ∧ ls.length ≤ 61 ∧ ∀ H', Same H H' → Q (lv (distO ls t a)) H'
section
variable {P : Program} {w : World} {K : PySem.W.Frag} {mg : Str → Option Value} {base : Heap} {C CR : Addr} {mc : Value} {fInit pAre fAre : Addr} {fdAre : FuncData}
theorem ok_rp (D : Df K mg "restore_point" s_restore_point ["rule", "tick", "age"]) (C_bands : HasO P w K mg base 3 "_bands" ["rule", "tick"] (spBands C)) (C_lesser : HasO P w K mg base 2 "lesser" ["one", "other"] spLesser) : HasO P w K mg base 4 "restore_point" ["rule", "tick", "age"] (spRp C) := by
  refine D.hasO sc_restore_point (fun vs H Q E h => ?_) (fun f cdv A outer s H vs Q E hr h => ?_)
  · obtain ⟨r, t, a, ls, rfl, _⟩ := h
    rfl
  · obtain ⟨r, t, a, ls, rfl, ra, hl, k⟩ := h
    refine ⟨_, (pss_cons (ps_for PassesOwn.never rfl (pi_list (pe_hasO C_bands (hr.mono (by decide)) rfl (pa_cons (pv 0) (pa_cons (pv 1) pa_nil)))) (pg_tup rfl (pgs_cons (pg_name (i := 3) sc_restore_point.nd rfl (Or.inl rfl)) (pgs_cons (pg_name (i := 4) sc_restore_point.nd rfl (Or.inl rfl)) (pgs_cons (pg_name (i := 5) sc_restore_point.nd rfl (Or.inl rfl)) pgs_nil)))) (pss_cons (ps_set (i := 6) sc_restore_point.nd rfl (Or.inl rfl) (pe_hasO C_lesser (hr.mono (by decide)) rfl (pa_cons (pv 4) (pa_cons (pe_op op_sub (pv 1) (pv 2)) pa_nil))))
      (pss_cons (ps_set (i := 7) sc_restore_point.nd rfl (Or.inl rfl) (pe_op op_sub (pv 6) (pe_op op_mod (pv 6) (pv 5))))
      (pss_one (ps_if (pt_cmpR op_le (pv 3) (pv 7) (nomark _)) (pss_one (ps_ret (pv 7))) pss_nil)))))
      (pss_one (ps_ret pe_non))), ?_⟩
    refine ⟨_, rfl, _, rfl, r, t, ls, rfl, ra, hl, fun B xs H1 s1 eB ta => ?_⟩
    have hpw := bands_pow t ls 0 t (by omega)
    unfold rpO at k
    generalize bandsOf t 0 t ls = bs at *
    refine ⟨B, rfl, ⟨_, SqL.of eB⟩, for_list (xs := xs) (fun i σ H' => Same H1 H' ∧ ∃ v3 v4 v5 v6 v7, σ = [some (.ref r), some (.int t), some (.int a), v3, v4, v5, v6, v7] ∧ rpB bs (t - a) = rpB (bs.drop i) (t - a)) ⟨Same.refl _, none, none, none, none, none, rfl, rfl⟩ (fun i σ H' _ z => SqL.of (z.1 _ _ eB)) ?_ ?_⟩
    · rintro i x σ H2 hx ⟨s2, v3, v4, v5, v6, v7, rfl, e⟩
      obtain ⟨u, y, rfl, hy, hu⟩ := ta.get hx
      obtain ⟨⟨b1, b2, b3⟩, hb, rfl⟩ : ∃ b : Int × Int × Int, bs[i]? = some b ∧ y = bandV b := by
        rw [List.getElem?_map] at hy
        cases e : bs[i]? with
        | none => rw [e] at hy; cases hy
        | some b =>
          rw [e] at hy
          exact ⟨b, rfl, (Option.some.inj hy).symm⟩
      obtain ⟨w0, w1⟩ := hpw _ (List.mem_of_getElem? hb)
      rw [drop_cons hb] at e
      have eu : rpB ((b1, b2, b3) :: bs.drop (i + 1)) (t - a) = if b1 ≤ min b2 (t - a) - min b2 (t - a) % b3 then some (min b2 (t - a) - min b2 (t - a) % b3) else rpB (bs.drop (i + 1)) (t - a) := rfl
      rw [eu] at e
      refine ⟨u, _, rfl, SqT.of (s2 _ _ hu), rfl, _, _, rfl, _, _, rfl, _, _, rfl, rfl, ?_⟩
      refine ⟨_, rfl, _, rfl, _, rfl, _, _, rfl, rfl, some b2, some (t - a), rfl, ?_⟩
      rw [lv_min]
      refine ⟨_, rfl, _, rfl, _, rfl, _, _, rfl, rfl, w0, _, _, rfl, rfl, ?_⟩
      refine ⟨_, rfl, _, rfl, _, _, rfl, rfl, _, rfl, ?_⟩
      refine ite2 (fun hc => ?_) (fun hc => ?_)
      · have hc' : b1 ≤ min b2 (t - a) - min b2 (t - a) % b3 := of_decide_eq_true hc
        rw [if_pos hc'] at e
        have q := k H2 (s1.trans s2)
        rw [e] at q
        exact ⟨_, rfl, q⟩
      · have hc' : ¬ b1 ≤ min b2 (t - a) - min b2 (t - a) % b3 := fun z => hc (decide_eq_true z)
        rw [if_neg hc'] at e
        exact ⟨s2, _, _, _, _, _, rfl, e⟩
    · rintro σ H2 ⟨s2, v3, v4, v5, v6, v7, rfl, e⟩
      have el : xs.length = bs.length := by rw [ta.length, List.length_map]
      rw [el, List.drop_length] at e
      have q := k H2 (s1.trans s2)
      rw [e] at q
      exact q
theorem ok_dist (D : Df K mg "distance" s_distance ["rule", "tick", "age"]) (C_restore_point : HasO P w K mg base 4 "restore_point" ["rule", "tick", "age"] (spRp C)) : HasO P w K mg base 5 "distance" ["rule", "tick", "age"] (spDist C) := by
  refine D.hasO sc_distance (fun vs H Q E h => ?_) (fun f cdv A outer s H vs Q E hr h => ?_)
  · obtain ⟨r, t, a, ls, rfl, _⟩ := h
    rfl
  · obtain ⟨r, t, a, ls, rfl, ra, hl, k⟩ := h
    refine ⟨_, (pss_cons (ps_set (i := 3) sc_distance.nd rfl (Or.inl rfl) (pe_hasO C_restore_point (hr.mono (by decide)) rfl (pa_cons (pv 0) (pa_cons (pv 1) (pa_cons (pv 2) pa_nil)))))
      (pss_one (ps_ret (pe_ifExp (pt_cmpR op_isN (pv 3) pe_non (nomark _)) pe_non (pe_op op_sub (pe_op op_sub (pv 1) (pv 2)) (pv 3)))))), ?_⟩
    refine ⟨_, rfl, _, rfl, _, rfl, r, t, a, ls, rfl, ra, hl, fun H1 s1 => ?_⟩
    have q := k H1 s1
    unfold distO at q
    cases e : rpO ls t (t - a) with
    | none =>
      rw [e] at q
      refine ⟨_, rfl, rfl, _, rfl, ?_⟩
      refine ite2 (fun _ => ?_) (fun z => absurd rfl z)
      exact q
    | some p =>
      rw [e] at q
      refine ⟨_, rfl, rfl, _, rfl, ?_⟩
      refine ite2 (fun z => by have q := of_decide_eq_true z; cases q) (fun _ => ?_)
      exact ⟨_, rfl, _, rfl, _, _, rfl, rfl, _, rfl, _, _, rfl, rfl, q⟩
end
theorem wE_get {H : Hp} {xs : List V} {ws : List (Int × Int)} (ta : TAt H xs (ws.map wV)) {i : Nat} {x : V} (hx : xs[i]? = some x) : ∃ t p, x = .ref t ∧ ws[i]? = some p ∧ H t = some (.tup [.int p.1, .int p.2]) := by
  obtain ⟨t, y, ex, hy, ht⟩ := ta.get hx
  rw [List.getElem?_map] at hy
  cases e : ws[i]? with
  | none => rw [e] at hy; cases hy
  | some p =>
    rw [e] at hy
    have e2 : wV p = y := Option.some.inj hy
    exact ⟨t, p, ex, rfl, by rw [← e2] at ht; exact ht⟩
abbrev s_promised : Stmt := (top 13)
abbrev N_promised : List Str := ["rule", "found", "reach", "step", "life", "farther"]
theorem sc_promised : FnScope N_promised ["rule"] (defScope s_promised) :=
  ⟨rfl, rfl, rfl, by decide +kernel, rfl, by decide +kernel, by decide +kernel⟩
def spPromised (C : Addr) : Sp := fun vs H Q _ => ∃ (r : Addr) (ls : List (Option Int)), vs = [.ref r] ∧ RuleAt C H r ls ∧ ls.length ≤ 61 ∧
  ∀ (t : Addr) (xs : List V) (H' : Hp), Same H H' → H' t = some (.tup xs) → PrAt H' xs (prom 0 (some (-1)) ls) → Q (.ref t) H'
section
variable {P : Program} {w : World} {K : PySem.W.Frag} {mg : Str → Option Value} {base : Heap} {C CR : Addr} {mc : Value} {fInit pAre fAre : Addr} {fdAre : FuncData}
theorem ok_promised {fLv pLv : Addr} {fdLv : FuncData} (D : Df K mg "promised" s_promised ["rule"]) (T : Bl mg) (R : RuleT K mg C CR mc fInit pAre fAre fdAre) (M_lv : PropOf K C "lives" pLv fLv) (F_lives : FnOk P w K mg base CX0 1 fLv fdLv ["self"] (spLivesP C)) (b_lives : Binds K fdLv ["self"] [])
    (C_at_most : HasO P w K mg base 1 "at_most" ["one", "other"] spAtMost) : HasO P w K mg base 3 "promised" ["rule"] (spPromised C) := by
  refine D.hasO sc_promised (fun vs H Q E h => ?_) (fun f cdv A outer s H vs Q E hr h => ?_)
  · obtain ⟨r, ls, rfl, _⟩ := h
    rfl
  · obtain ⟨r, ls, rfl, ra, hl, k⟩ := h
    refine ⟨_, (pss_cons (ps_set (i := 1) sc_promised.nd rfl (Or.inl rfl) (pe_lst pa_nil))
      (pss_cons (ps_set (i := 2) sc_promised.nd rfl (Or.inl rfl) (pe_un un_neg pe_int))
      (pss_cons (ps_set (i := 3) sc_promised.nd rfl (Or.inl rfl) pe_int)
      (pss_cons (ps_for PassesOwn.never rfl (pi_tup (pe_prop (pv 0) R.cl M_lv F_lives (hr.mono (by decide)) b_lives .nil pass0 rfl)) (pg_name (i := 4) sc_promised.nd rfl (Or.inl rfl)) (pss_cons (ps_set (i := 5) sc_promised.nd rfl (Or.inl rfl) (pe_ifExp (pt_cmpR op_isN (pv 4) pe_non (nomark _)) pe_non (pe_op op_sub (pv 4) (pv 3))))
      (pss_cons (ps_if (pt_not (pt_val (pe_hasO C_at_most (hr.mono (by decide)) rfl (pa_cons (pv 5) (pa_cons (pv 2) pa_nil))))) (pss_cons (ps_expr (pe_bm PySem.F.plainAttrs_list PySem.F.slot_list_append PySem.F.type_list_append mt_append (pv 1) (pa_cons (pe_tup (pa_cons (pv 5) (pa_cons (pe_op op_sub (pv 3) pe_int) pa_nil))) pa_nil)))
      (pss_one (ps_set (i := 2) sc_promised.nd rfl (Or.inl rfl) (pv 5)))) pss_nil)
      (pss_one (ps_set (i := 3) sc_promised.nd rfl (Or.inl rfl) (pe_op op_mul pe_int (pv 3)))))))
      (pss_one (ps_ret (pe_callTy call_tuple_of (by rfl) T.tuple (by decide +kernel) (pa_cons (pv 1) pa_nil)))))))), ?_⟩
    refine ⟨Nat.zero_le _, fun F hF => ?_⟩
    have ra1 := ra.same (same_upd (o := .lst []) hF)
    obtain ⟨dx, t0, hr1, hr2⟩ := id ra1
    refine ⟨_, rfl, _, rfl, r, _, _, rfl, hr1, r, ls, rfl, ra1, fun t et => ?_⟩
    have nFt : F ≠ t := (ne_of et (upd_same (H := H) (a := F) (o := .lst [])) (by intro z; cases z)).symm
    have et0 : H t = some (.tup (ls.map lv)) := by
      rw [upd_ne nFt.symm] at et
      exact et
    refine ⟨t, rfl, ⟨_, SqT.of et⟩, for_tup (xs := ls.map lv) (fun i σ H' => ∃ xs acc reach v4 v5, σ = [some (.ref r), some (.ref F), some (lv reach), some (.int (2 ^ i)), v4, v5] ∧ H' F = some (.lst xs) ∧ PrAt H' xs acc ∧ acc.length ≤ i ∧ acc ++ prom i reach (ls.drop i) = prom 0 (some (-1)) ls ∧ Same H H')
      ⟨[], [], some (-1), none, none, rfl, upd_same, trivial, Nat.le_refl _, rfl, same_upd hF⟩ (fun i σ H' _ z => ?_) ?_ ?_⟩
    · obtain ⟨_, _, _, _, _, _, _, _, _, _, sm⟩ := z
      exact SqT.of (sm _ _ et0)
    · rintro i x σ H1 hx ⟨xs, acc, reach, v4, v5, rfl, eF, pr, hal, e, sm⟩
      obtain ⟨l, hll, rfl⟩ := map_at hx
      have hi := (List.getElem?_eq_some_iff.mp hll).1
      rw [drop_cons hll] at e
      have eu : prom i reach (l :: ls.drop (i + 1)) = if leO (offO i l) reach = true then prom (i + 1) reach (ls.drop (i + 1)) else (offO i l, 2 ^ i - 1) :: prom (i + 1) (offO i l) (ls.drop (i + 1)) := rfl
      rw [eu] at e
      have e2 : (2 : Int) * 2 ^ i = 2 ^ (i + 1) := by rw [Int.pow_succ, Int.mul_comm]
      have hxl : xs.length < sizeLine := small1000 (by rw [pr.length]; omega)
      refine ⟨_, rfl, rfl, _, rfl, ?_⟩
      cases l with
      | none =>
        refine ite2 (fun _ => ?_) (fun z => absurd rfl z)
        refine ⟨_, rfl, _, rfl, offO i none, reach, rfl, _, rfl, ?_⟩
        refine ite2 (fun hc => ?_) (fun hc => ?_)
        · have hc' : ¬ leO (offO i none) reach = true := by
            intro z
            have hc2 : (!leO (offO i none) reach) = true := hc
            rw [z] at hc2
            cases hc2
          rw [if_neg hc'] at e
          refine ⟨_, rfl, .inl ⟨rfl, _, SqL.of eF⟩, _, rfl, _, rfl, _, _, rfl, rfl, by show 2 ≤ sizeLine; decide, fun p hp => ?_⟩
          have nFp : F ≠ p := ne_of_none eF hp
          refine ⟨F, _, _, rfl, rfl, same_upd hp _ _ eF, hxl, ?_⟩
          refine ⟨_, rfl, _, rfl, _, _, rfl, rfl, .inl ⟨by decide, by decide⟩, xs ++ [.ref p], acc ++ [(offO i none, 2 ^ i - 1)], offO i none, _, _, congrArg (fun z => [some (V.ref r), some (V.ref F), some (lv (offO i none)), some (V.int z), _, _]) e2, upd_same, ?_, by rw [List.length_append]; show acc.length + 1 ≤ i + 1; omega, by rw [List.append_assoc]; exact e, ?_⟩
          · refine PrAt.snoc ?_ (pr.keep fun u ys eu => ?_)
            · rw [upd_ne nFp.symm]
              exact upd_same
            · have nuF : u ≠ F := ne_of eu eF (by intro z; cases z)
              rw [upd_ne nuF]
              exact same_upd hp _ _ eu
          · intro b o z
            rw [upd_ne (ne_of_none z hF)]
            exact same_upd hp _ _ (sm b o z)
        · have hc' : leO (offO i none) reach = true := by
            cases z : leO (offO i none) reach with
            | true => rfl
            | false => exact absurd (show (!leO (offO i none) reach) = true by rw [z]; rfl) hc
          rw [if_pos hc'] at e
          exact ⟨_, rfl, _, _, rfl, rfl, .inl ⟨by decide, by decide⟩, xs, acc, reach, _, _, congrArg (fun z => [some (V.ref r), some (V.ref F), some (lv reach), some (V.int z), _, _]) e2, eF, pr, by omega, e, sm⟩
      | some b =>
        refine ite2 (fun z => by have q := of_decide_eq_true z; cases q) (fun _ => ?_)
        refine ⟨_, rfl, _, rfl, _, _, rfl, rfl, ?_⟩
        refine ⟨_, rfl, _, rfl, offO i (some b), reach, rfl, _, rfl, ?_⟩
        refine ite2 (fun hc => ?_) (fun hc => ?_)
        · have hc' : ¬ leO (offO i (some b)) reach = true := by
            intro z
            have hc2 : (!leO (offO i (some b)) reach) = true := hc
            rw [z] at hc2
            cases hc2
          rw [if_neg hc'] at e
          refine ⟨_, rfl, .inl ⟨rfl, _, SqL.of eF⟩, _, rfl, _, rfl, _, _, rfl, rfl, by show 2 ≤ sizeLine; decide, fun p hp => ?_⟩
          have nFp : F ≠ p := ne_of_none eF hp
          refine ⟨F, _, _, rfl, rfl, same_upd hp _ _ eF, hxl, ?_⟩
          refine ⟨_, rfl, _, rfl, _, _, rfl, rfl, .inl ⟨by decide, by decide⟩, xs ++ [.ref p], acc ++ [(offO i (some b), 2 ^ i - 1)], offO i (some b), _, _, congrArg (fun z => [some (V.ref r), some (V.ref F), some (lv (offO i (some b))), some (V.int z), _, _]) e2, upd_same, ?_, by rw [List.length_append]; show acc.length + 1 ≤ i + 1; omega, by rw [List.append_assoc]; exact e, ?_⟩
          · refine PrAt.snoc ?_ (pr.keep fun u ys eu => ?_)
            · rw [upd_ne nFp.symm]
              exact upd_same
            · have nuF : u ≠ F := ne_of eu eF (by intro z; cases z)
              rw [upd_ne nuF]
              exact same_upd hp _ _ eu
          · intro b o z
            rw [upd_ne (ne_of_none z hF)]
            exact same_upd hp _ _ (sm b o z)
        · have hc' : leO (offO i (some b)) reach = true := by
            cases z : leO (offO i (some b)) reach with
            | true => rfl
            | false => exact absurd (show (!leO (offO i (some b)) reach) = true by rw [z]; rfl) hc
          rw [if_pos hc'] at e
          exact ⟨_, rfl, _, _, rfl, rfl, .inl ⟨by decide, by decide⟩, xs, acc, reach, _, _, congrArg (fun z => [some (V.ref r), some (V.ref F), some (lv reach), some (V.int z), _, _]) e2, eF, pr, by omega, e, sm⟩
    · rintro σ H1 ⟨xs, acc, reach, v4, v5, rfl, eF, pr, hal, e, sm⟩
      rw [List.length_map, List.drop_length] at e
      have e3 : acc = prom 0 (some (-1)) ls := by
        rw [← e]
        exact (List.append_nil acc).symm
      refine ⟨_, rfl, F, _, rfl, .inl ⟨SqL.of eF, fun u hu => ?_⟩⟩
      refine k u xs _ (sm.trans (same_upd hu)) upd_same ?_
      rw [← e3]
      exact pr.same (same_upd hu)
end
abbrev s_worst : Stmt := (top 11)
abbrev N_worst : List Str := ["rule", "age"]
theorem sc_worst : FnScope N_worst ["rule", "age"] (defScope s_worst) :=
  ⟨rfl, rfl, rfl, by decide +kernel, rfl, by decide +kernel, by decide +kernel⟩
theorem short_le (ls : List (Option Int)) : (short ls).length ≤ ls.length := by
  unfold short
  rw [List.length_take]
  omega
theorem RuleAt.but {C r a : Addr} {n : Nat} {H H' : Hp} {ls : List (Option Int)} (h : RuleAt C H r ls) (p : PotAt H a n) (b : But a H H') : RuleAt C H' r ls := by
  obtain ⟨dx, t, h1, h2⟩ := h
  obtain ⟨g, s, c, e, _⟩ := p
  exact ⟨dx, t, b _ _ h1 (ne_of h1 e (by intro z; cases z)), b _ _ h2 (ne_of h2 e (by intro z; cases z))⟩
section
variable {P : Program} {w : World} {K : PySem.W.Frag} {mg : Str → Option Value} {base : Heap} {C fCall : Addr}
theorem ok_worstP (D : Df K mg "worst" s_worst ["rule", "age"]) (MCall : StX.CallO K C fCall) (G_call : FnR P w K mg base CX0 2 fCall (spCall C)) : HasO P w K mg base 3 "worst" ["rule", "age"] (spCall C) := by
  refine D.hasO sc_worst (fun vs H Q E h => ?_) (fun f cdv A outer s H vs Q E hr h => ?_)
  · obtain ⟨r, a, ls, rfl, _⟩ := h
    rfl
  · obtain ⟨r, a, ls, rfl, ra, hl, k⟩ := h
    refine ⟨_, (pss_one (ps_ret (StX.pe_callO (pv 0) MCall G_call (hr.mono (by decide)) pass0 (pa_cons (pv 1) pa_nil)))), ?_⟩
    obtain ⟨dx, t, hr1, hr2⟩ := id ra
    exact ⟨_, rfl, r, rfl, _, rfl, .inr ⟨dx, _, hr1⟩, r, a, ls, rfl, ra, hl, k⟩
end
abbrev s_meets : Stmt := (top 36)
abbrev N_meets : List Str := ["rule", "wish", "age", "wished"]
theorem sc_meets : FnScope N_meets ["rule", "wish"] (defScope s_meets) :=
  ⟨rfl, rfl, rfl, by decide +kernel, rfl, by decide +kernel, by decide +kernel⟩
def spMeets (C : Addr) : Sp := fun vs H Q _ => ∃ (r W : Addr) (ls : List (Option Int)) (xs : List V) (ws : List (Int × Int)), vs = [.ref r, .ref W] ∧ RuleAt C H r ls ∧ ls.length ≤ 61 ∧ H W = some (.tup xs) ∧ TAt H xs (ws.map wV) ∧ ws.length ≤ 12 ∧ ∀ H', Same H H' → Q (.bl (ws.all (okAt ls))) H'
section
variable {P : Program} {w : World} {K : PySem.W.Frag} {mg : Str → Option Value} {base : Heap} {C : Addr}
theorem ok_meets (D : Df K mg "meets" s_meets ["rule", "wish"]) (T : Bl mg) (C_worst : HasO P w K mg base 3 "worst" ["rule", "age"] (spCall C)) (C_at_most : HasO P w K mg base 1 "at_most" ["one", "other"] spAtMost) : HasO P w K mg base 4 "meets" ["rule", "wish"] (spMeets C) := by
  refine D.hasO sc_meets (fun vs H Q E h => ?_) (fun f cdv A outer s H vs Q E hr h => ?_)
  · obtain ⟨r, W, ls, xs, ws, rfl, _⟩ := h
    rfl
  · obtain ⟨r, W, ls, xs, ws, rfl, ra, hl, hW, ta, hw, k⟩ := h
    refine ⟨_, (pss_one (ps_ret (pe_callB (cr_all rfl) (by rfl) T.all (by decide +kernel) (pa_cons (pe_lc (own := [("age", 2), ("wished", 3)]) (g := gTup _ 2 (gCons (gName 2) (gCons (gName 3) (gNil)))) (tt := tYes) rfl sc_meets.nd (pi_tup (pv 1)) (blkOk_by (N := N_meets) (sc := defScope s_meets) (by decide +kernel)) (fun _ _ _ _ _ => pg_tup rfl (pgs_cons (pg_name (i := 2) sc_meets.nd rfl (Or.inl rfl)) (pgs_cons (pg_name (i := 3) sc_meets.nd rfl (Or.inl rfl)) pgs_nil))) (fun _ _ _ _ _ => pts_nil) (fun _ _ _ _ _ => (pe_hasO C_at_most (hr.mono (by decide)) rfl (pa_cons (pe_hasO C_worst (hr.mono (by decide)) rfl (pa_cons (pv 0) (pa_cons (pv 2) pa_nil))) (pa_cons (pv 3) pa_nil))))) pa_nil)))), ?_⟩
    refine ⟨_, rfl, W, rfl, ⟨_, SqT.of hW⟩, fun D hD => lc_tup (xs := xs) (fun i H' => Same H H' ∧ H' D = some (.lst (((ws.take i).map (okAt ls)).map V.bl))) ⟨same_upd hD, upd_same⟩ (fun i H' _ z => SqT.of (z.1 _ _ hW)) ?_ ?_⟩
    · rintro i x H2 hx ⟨s2, eD⟩
      obtain ⟨u, p2, rfl, hpi, hu⟩ := wE_get ta hx
      have et : ws.take (i + 1) = ws.take i ++ [p2] := by rw [List.take_add_one, hpi]; rfl
      have hil := (List.getElem?_eq_some_iff.mp hpi).1
      refine ⟨u, _, rfl, SqT.of (s2 _ _ hu), rfl, _, _, rfl, _, _, rfl, rfl, rfl, ?_⟩
      refine ⟨_, rfl, _, rfl, r, p2.1, ls, rfl, ra.same s2, hl, _, rfl, due 0 ls p2.1, some p2.2, rfl, ?_⟩
      refine ⟨_, eD, small1000 (by rw [List.length_map, List.length_map, List.length_take]; omega), fun b o z => ?_, ?_⟩
      · rw [upd_ne (ne_of_none z hD)]
        exact s2 b o z
      · rw [upd_same, et, List.map_append, List.map_append]
        rfl
    · rintro H2 ⟨s2, eD⟩
      have el : xs.length = ws.length := by rw [ta.length, List.length_map]
      rw [el, List.take_length] at eD
      refine ⟨D, ws.map (okAt ls), rfl, SqL.of eD, ?_⟩
      have ea : (ws.map (okAt ls)).all _root_.id = ws.all (okAt ls) := by rw [List.all_map]; rfl
      rw [ea]
      exact k _ s2
end
abbrev s_worst_tick : Stmt := (top 12)
abbrev N_worst_tick : List Str := ["rule", "age", "found"]
theorem sc_worst_tick : FnScope N_worst_tick ["rule", "age"] (defScope s_worst_tick) :=
  ⟨rfl, rfl, rfl, by decide +kernel, rfl, by decide +kernel, by decide +kernel⟩
def wtO (ls : List (Option Int)) (a : Int) : Int := match idx 0 ls a with
  | some j => a + (2 ^ j - 1)
  | none => a + (2 ^ (ls.length - 1) - 1)
def spWT (C : Addr) : Sp := fun vs H Q _ => ∃ (r : Addr) (a : Int) (ls : List (Option Int)), vs = [.ref r, .int a] ∧ RuleAt C H r ls ∧ 0 < ls.length ∧ ls.length ≤ 61 ∧ ∀ H', Same H H' → Q (.int (wtO ls a)) H'
section
variable {P : Program} {w : World} {K : PySem.W.Frag} {mg : Str → Option Value} {base : Heap} {C CR : Addr} {mc : Value} {fInit pAre fAre : Addr} {fdAre : FuncData}
theorem ok_wt {fLv pLv : Addr} {fdLv : FuncData} (D : Df K mg "worst_tick" s_worst_tick ["rule", "age"]) (T : Bl mg) (R : RuleT K mg C CR mc fInit pAre fAre fdAre) (M_lv : PropOf K C "lives" pLv fLv) (F_lives : FnOk P w K mg base CX0 1 fLv fdLv ["self"] (spLivesP C)) (b_lives : Binds K fdLv ["self"] [])
    (C_worst : HasO P w K mg base 3 "worst" ["rule", "age"] (spCall C)) : HasO P w K mg base 4 "worst_tick" ["rule", "age"] (spWT C) := by
  refine D.hasO sc_worst_tick (fun vs H Q E h => ?_) (fun f cdv A outer s H vs Q E hr h => ?_)
  · obtain ⟨r, a, ls, rfl, _⟩ := h
    rfl
  · obtain ⟨r, a, ls, rfl, ra, h0, hl, k⟩ := h
    refine ⟨_, (pss_cons (ps_set (i := 2) sc_worst_tick.nd rfl (Or.inl rfl) (pe_hasO C_worst (hr.mono (by decide)) rfl (pa_cons (pv 0) (pa_cons (pv 1) pa_nil))))
      (pss_cons (ps_if (pt_cmpR op_isN (pv 2) pe_non (nomark _)) (pss_one (ps_set (i := 2) sc_worst_tick.nd rfl (Or.inl rfl) (pe_op op_sub (pe_op op_shlW pe_int (pe_op op_sub (pe_callB call_len_seq (by rfl) T.len PySem.boot_len (pa_cons (pe_prop (pv 0) R.cl M_lv F_lives (hr.mono (by decide)) b_lives .nil pass0 rfl) pa_nil)) pe_int)) pe_int))) pss_nil)
      (pss_one (ps_ret (pe_op op_add (pv 1) (pv 2)))))), ?_⟩
    have q := k H (Same.refl _)
    unfold wtO at q
    refine ⟨_, rfl, _, rfl, r, a, ls, rfl, ra, hl, ?_⟩
    rw [due_idx]
    cases e : idx 0 ls a with
    | none =>
      rw [e] at q
      refine ⟨_, rfl, rfl, _, rfl, ?_⟩
      refine ite2 (fun _ => ?_) (fun z => absurd rfl z)
      obtain ⟨dx, t0, hr1, hr2⟩ := id ra
      refine ⟨_, rfl, r, _, _, rfl, hr1, r, ls, rfl, ra, fun t et => ?_⟩
      obtain ⟨n, hn⟩ : ∃ n, ls.length = n + 1 := ⟨ls.length - 1, by omega⟩
      have el : (((ls.map lv).length : Nat) : Int) - 1 = (n : Int) := by
        rw [List.length_map, hn]
        omega
      refine ⟨t, _, rfl, .inr (SqT.of et), _, _, rfl, rfl, _, _, rfl, rfl, shl_int (n := 1) (by decide) (by show (0 : Int) ≤ (((ls.map lv).length : Nat) : Int) - 1; omega) (by show ((1 : Nat) : Int) + ((((ls.map lv).length : Nat) : Int) - 1) ≤ 134217728; omega), _, _, rfl, rfl, ?_⟩
      refine ⟨_, rfl, _, rfl, _, _, rfl, rfl, ?_⟩
      have e2 : (1 : Int) * 2 ^ ((((ls.map lv).length : Nat) : Int) - 1).toNat = 2 ^ (ls.length - 1) := by
        rw [el, hn, Int.one_mul, Int.toNat_natCast]
        rfl
      rw [← e2] at q
      exact q
    | some j =>
      rw [e] at q
      refine ⟨_, rfl, rfl, _, rfl, ?_⟩
      refine ite2 (fun z => by have q := of_decide_eq_true z; cases q) (fun _ => ?_)
      exact ⟨_, rfl, _, rfl, _, _, rfl, rfl, q⟩
end
theorem wV_get {H : Hp} {xs : List V} {ws : List (Int × Int)} (ta : TAt H xs (ws.map wV)) {i : Nat} {x : V} (hx : xs[i]? = some x) : ∃ t p, x = .ref t ∧ ws[i]? = some p ∧ H t = some (.tup [.int p.1, .int p.2]) := by
  obtain ⟨t, y, ex, hy, ht⟩ := ta.get hx
  rw [List.getElem?_map] at hy
  cases e : ws[i]? with
  | none => rw [e] at hy; cases hy
  | some p =>
    rw [e] at hy
    have e2 : wV p = y := Option.some.inj hy
    exact ⟨t, p, ex, rfl, by rw [← e2] at ht; exact ht⟩
abbrev s_is_pair : Stmt := (top 2)
abbrev N_is_pair : List Str := ["value", "part"]
theorem sc_is_pair : FnScope N_is_pair ["value"] (defScope s_is_pair) :=
  ⟨rfl, rfl, rfl, by decide +kernel, rfl, by decide +kernel, by decide +kernel⟩
def spPair (K : PySem.W.Frag) : Sp := fun vs H Q _ => ∃ (p : Addr) (x y : Int), vs = [.ref p] ∧ SqT K H p [.int x, .int y] ∧ 0 ≤ x ∧ 0 ≤ y ∧ ∀ H', Same H H' → Q (.bl true) H'
section
variable {P : Program} {w : World} {K : PySem.W.Frag} {mg : Str → Option Value} {base : Heap}
theorem ok_pair (D : Df K mg "is_pair" s_is_pair ["value"]) (T : Bl mg) (C_is_natural : HasO P w K mg base 1 "is_natural" ["value"] spNat) : HasO P w K mg base 2 "is_pair" ["value"] (spPair K) := by
  refine D.hasO sc_is_pair (fun vs H Q E h => ?_) (fun f cdv A outer s H vs Q E hr h => ?_)
  · obtain ⟨p, x, y, rfl, _⟩ := h
    rfl
  · obtain ⟨p, x, y, rfl, hp, hx, hy, k⟩ := h
    refine ⟨_, (pss_one (ps_ret (pe_and (pe_callB call_isi (by rfl) T.isinstance (by decide +kernel) (pa_cons (pv 0) (pa_cons (pe_bltn (v := .ty "tuple") (by rfl) T.tuple (by decide +kernel) rfl) pa_nil))) (pe_and (pe_cmpR op_eq (pe_callB call_len_seq (by rfl) T.len PySem.boot_len (pa_cons (pv 0) pa_nil)) pe_int (nomark _)) (pe_one (pe_callB (cr_all rfl) (by rfl) T.all (by decide +kernel) (pa_cons (pe_lc (own := [("part", 1)]) (g := gName 1) (tt := tYes) rfl sc_is_pair.nd (pi_tup (pv 0)) (blkOk_by (N := N_is_pair) (sc := defScope s_is_pair) (by decide +kernel)) (fun _ _ _ _ _ => pg_name (i := 1) sc_is_pair.nd rfl (Or.inl rfl)) (fun _ _ _ _ _ => pts_nil) (fun _ _ _ _ _ => (pe_hasO C_is_natural (hr.mono (by decide)) rfl (pa_cons (pv 1) pa_nil)))) pa_nil))))))), ?_⟩
    refine ⟨_, rfl, _, _, _, _, true, rfl, .ty _, tyx_tup hp, kit_ty (by decide +kernel), ?_⟩
    refine ⟨_, rfl, ?_⟩
    refine ite2 (fun _ => ?_) (fun z => absurd rfl z)
    refine ⟨_, rfl, p, _, rfl, .inr hp, rfl, _, rfl, ?_⟩
    refine ite2 (fun _ => ?_) (fun z => absurd (decide_eq_true rfl) z)
    have yes : ∀ (i : Nat) (v : V), [V.int x, V.int y][i]? = some v → i < 2 ∧ ∃ n : Int, v = .int n ∧ 0 ≤ n := fun i v e => by
      cases i with
      | zero => exact ⟨by decide, x, (Option.some.inj e).symm, hx⟩
      | succ j =>
        cases j with
        | zero => exact ⟨by decide, y, (Option.some.inj e).symm, hy⟩
        | succ l => cases e
    refine ⟨_, rfl, p, rfl, ⟨_, hp⟩, fun D2 hD2 => lc_tup (xs := [V.int x, V.int y]) (fun i H' => H' D2 = some (.lst (List.replicate i (.bl true))) ∧ Same H H') ⟨upd_same, same_upd hD2⟩ (fun i H' _ z => SqT.same z.2 hp) ?_ ?_⟩
    · rintro i v H2 hv ⟨e2, s2⟩
      obtain ⟨hi, n, rfl, hn⟩ := yes i v hv
      refine ⟨rfl, _, rfl, n, rfl, ?_⟩
      refine ⟨_, e2, small1000 (by rw [List.length_replicate]; omega), ?_, fun b o z => ?_⟩
      · rw [upd_same, List.replicate_succ', decide_eq_true hn]
      · rw [upd_ne (ne_of_none z hD2)]
        exact s2 b o z
    · rintro H2 ⟨e2, s2⟩
      refine ⟨D2, List.replicate 2 true, rfl, SqL.of (by rw [e2, List.map_replicate]; rfl), ?_⟩
      exact k _ s2
end
abbrev s_first_beyond : Stmt := (top 41)
abbrev N_first_beyond : List Str := ["rule", "wished", "reach", "age", "promise"]
theorem sc_first_beyond : FnScope N_first_beyond ["rule", "wished"] (defScope s_first_beyond) :=
  ⟨rfl, rfl, rfl, by decide +kernel, rfl, by decide +kernel, by decide +kernel⟩
abbrev s_first_broken : Stmt := (top 37)
abbrev N_first_broken : List Str := ["rule", "wish", "age", "wished", "broken"]
theorem sc_first_broken : FnScope N_first_broken ["rule", "wish"] (defScope s_first_broken) :=
  ⟨rfl, rfl, rfl, by decide +kernel, rfl, by decide +kernel, by decide +kernel⟩
abbrev s_shows_broken : Stmt := (top 38)
abbrev N_shows_broken : List Str := ["rule", "wish", "value", "age", "tick", "wished", "last", "limit"]
theorem sc_shows_broken : FnScope N_shows_broken ["rule", "wish", "value"] (defScope s_shows_broken) :=
  ⟨rfl, rfl, rfl, by decide +kernel, rfl, by decide +kernel, by decide +kernel⟩
def spBeyond (C : Addr) : Sp := fun vs H Q _ => ∃ (r : Addr) (ls : List (Option Int)) (w : Int), vs = [.ref r, .int w] ∧ RuleAt C H r ls ∧ ls.length ≤ 61 ∧ ∀ H', Same H H' → Q (lv ((reachO ls w).map (· + 1))) H'
def spFirst (C : Addr) : Sp := fun vs H Q _ => ∃ (r W : Addr) (ls : List (Option Int)) (xs : List V) (ws : List (Int × Int)), vs = [.ref r, .ref W] ∧ RuleAt C H r ls ∧ 0 < ls.length ∧ ls.length ≤ 61 ∧ H W = some (.tup xs) ∧ TAt H xs (ws.map wV) ∧
  (fbL ls ws = none → ∀ H', Same H H' → Q .non H') ∧ (∀ b, fbL ls ws = some b → ∀ (t : Addr) (H' : Hp), Same H H' → H' t = some (.tup [.int b, .int (wtO ls b)]) → Q (.ref t) H')
section
variable {P : Program} {w : World} {K : PySem.W.Frag} {mg : Str → Option Value} {base : Heap} {C CR : Addr} {mc : Value} {fInit pAre fAre : Addr} {fdAre : FuncData}
theorem ok_beyond (D : Df K mg "_first_beyond" s_first_beyond ["rule", "wished"]) (C_promised : HasO P w K mg base 3 "promised" ["rule"] (spPromised C)) : HasO P w K mg base 4 "_first_beyond" ["rule", "wished"] (spBeyond C) := by
  refine D.hasO sc_first_beyond (fun vs H Q E h => ?_) (fun f cdv A outer s H vs Q E hr h => ?_)
  · obtain ⟨r, ls, wi, rfl, _⟩ := h
    rfl
  · obtain ⟨r, ls, wi, rfl, ra, hl, k⟩ := h
    refine ⟨_, (pss_cons (ps_set (i := 2) sc_first_beyond.nd rfl (Or.inl rfl) (pe_un un_neg pe_int))
      (pss_cons (ps_for PassesOwn.never rfl (pi_tup (pe_hasO C_promised (hr.mono (by decide)) rfl (pa_cons (pv 0) pa_nil))) (pg_tup rfl (pgs_cons (pg_name (i := 3) sc_first_beyond.nd rfl (Or.inl rfl)) (pgs_cons (pg_name (i := 4) sc_first_beyond.nd rfl (Or.inl rfl)) pgs_nil))) (pss_one (ps_if (pt_cmpR op_le (pv 4) (pv 1) (nomark _)) (pss_one (ps_set (i := 2) sc_first_beyond.nd rfl (Or.inl rfl) (pv 3))) pss_nil)))
      (pss_one (ps_ret (pe_ifExp (pt_cmpR op_isN (pv 2) pe_non (nomark _)) pe_non (pe_op op_add (pv 2) pe_int)))))), ?_⟩
    refine ⟨_, rfl, _, rfl, r, ls, rfl, ra, hl, fun t xs H1 s1 et pr => ?_⟩
    unfold reachO at k
    refine ⟨t, rfl, ⟨_, SqT.of et⟩, for_tup (xs := xs) (fun i σ H' => Same H1 H' ∧ ∃ rc v3 v4, σ = [some (.ref r), some (.int wi), some (lv rc), v3, v4] ∧ rch wi ((prom 0 (some (-1)) ls).drop i) rc = rch wi (prom 0 (some (-1)) ls) (some (-1))) ⟨Same.refl _, some (-1), none, none, rfl, rfl⟩ (fun i σ H' _ z => SqT.of (z.1 _ _ et)) ?_ ?_⟩
    · rintro i x σ H2 hx ⟨s2, rc, v3, v4, rfl, e⟩
      obtain ⟨u, p, rfl, hpi, hu⟩ := pr.get hx
      rw [drop_cons hpi] at e
      refine ⟨u, _, rfl, SqT.of (s2 _ _ hu), rfl, _, _, rfl, _, _, rfl, rfl, ?_⟩
      have e2 : rch wi ((prom 0 (some (-1)) ls).drop (i + 1)) (if p.2 ≤ wi then p.1 else rc) = rch wi (prom 0 (some (-1)) ls) (some (-1)) := e
      refine ⟨_, rfl, _, rfl, _, _, rfl, rfl, _, rfl, ?_⟩
      refine ite2 (fun hc => ?_) (fun hc => ?_)
      · rw [if_pos (of_decide_eq_true hc)] at e2
        exact ⟨_, rfl, s2, _, _, _, rfl, e2⟩
      · rw [if_neg (fun z => hc (decide_eq_true z))] at e2
        exact ⟨s2, _, _, _, rfl, e2⟩
    · rintro σ H2 ⟨s2, rc, v3, v4, rfl, e⟩
      rw [pr.length, List.drop_length] at e
      have e2 : rc = rch wi (prom 0 (some (-1)) ls) (some (-1)) := e
      have q := k H2 (s1.trans s2)
      rw [← e2] at q
      cases rc with
      | none =>
        refine ⟨_, rfl, rfl, _, rfl, ?_⟩
        exact ite2 (fun _ => q) (fun z => absurd rfl z)
      | some b =>
        refine ⟨_, rfl, rfl, _, rfl, ?_⟩
        refine ite2 (fun z => by have q := of_decide_eq_true z; cases q) (fun _ => ?_)
        exact ⟨_, rfl, _, _, rfl, rfl, q⟩
theorem ok_first (D : Df K mg "first_broken" s_first_broken ["rule", "wish"]) (C_first_beyond : HasO P w K mg base 4 "_first_beyond" ["rule", "wished"] (spBeyond C)) (C_at_most : HasO P w K mg base 1 "at_most" ["one", "other"] spAtMost) (C_worst_tick : HasO P w K mg base 4 "worst_tick" ["rule", "age"] (spWT C)) : HasO P w K mg base 5 "first_broken" ["rule", "wish"] (spFirst C) := by
  refine D.hasO sc_first_broken (fun vs H Q E h => ?_) (fun f cdv A outer s H vs Q E hr h => ?_)
  · obtain ⟨r, W, ls, xs, ws, rfl, _⟩ := h
    rfl
  · obtain ⟨r, W, ls, xs, ws, rfl, ra, h0, hl, hW, ta, kn, ks⟩ := h
    refine ⟨_, (pss_cons (ps_for PassesOwn.never rfl (pi_tup (pv 1)) (pg_tup rfl (pgs_cons (pg_name (i := 2) sc_first_broken.nd rfl (Or.inl rfl)) (pgs_cons (pg_name (i := 3) sc_first_broken.nd rfl (Or.inl rfl)) pgs_nil))) (pss_cons (ps_set (i := 4) sc_first_broken.nd rfl (Or.inl rfl) (pe_hasO C_first_beyond (hr.mono (by decide)) rfl (pa_cons (pv 0) (pa_cons (pv 3) pa_nil))))
      (pss_one (ps_if (pt_val (pe_hasO C_at_most (hr.mono (by decide)) rfl (pa_cons (pv 4) (pa_cons (pv 2) pa_nil)))) (pss_one (ps_ret (pe_tup (pa_cons (pv 4) (pa_cons (pe_hasO C_worst_tick (hr.mono (by decide)) rfl (pa_cons (pv 0) (pa_cons (pv 4) pa_nil))) pa_nil))))) pss_nil))))
      (pss_one (ps_ret pe_non))), ?_⟩
    refine ⟨_, rfl, W, rfl, ⟨_, SqT.of hW⟩, for_tup (xs := xs) (fun i σ H' => Same H H' ∧ ∃ v2 v3 v4, σ = [some (.ref r), some (.ref W), v2, v3, v4] ∧ fbL ls ws = fbL ls (ws.drop i)) ⟨Same.refl _, none, none, none, rfl, rfl⟩ (fun i σ H' _ z => SqT.of (z.1 _ _ hW)) ?_ ?_⟩
    · rintro i x σ H1 hx ⟨s1, v2, v3, v4, rfl, e⟩
      obtain ⟨t, p, rfl, hpi, ht⟩ := wV_get ta hx
      rw [drop_cons hpi] at e
      have e' : fbL ls ws = if leO ((reachO ls p.2).map (· + 1)) (some p.1) = true then (reachO ls p.2).map (· + 1) else fbL ls (ws.drop (i + 1)) := e
      refine ⟨t, _, rfl, SqT.of (s1 _ _ ht), rfl, _, _, rfl, _, _, rfl, rfl, ?_⟩
      refine ⟨_, rfl, _, rfl, r, ls, p.2, rfl, ra.same s1, hl, fun H2 s2 => ?_⟩
      generalize ((reachO ls p.2).map (· + 1)) = br at *
      refine ⟨_, rfl, _, rfl, br, some p.1, rfl, _, rfl, ?_⟩
      refine ite2 (fun hc => ?_) (fun hc => ?_)
      · have hc' : leO br (some p.1) = true := hc
        rw [if_pos hc'] at e'
        cases br with
        | none => cases hc'
        | some b =>
          refine ⟨_, rfl, _, rfl, _, rfl, r, b, ls, rfl, (ra.same s1).same s2, h0, hl, fun H3 s3 => ?_⟩
          refine ⟨by show 2 ≤ sizeLine; decide, fun u hu => ?_⟩
          exact ks b e' u _ (s1.trans (s2.trans (s3.trans (same_upd hu)))) upd_same
      · have hc' : ¬ leO br (some p.1) = true := hc
        rw [if_neg hc'] at e'
        exact ⟨s1.trans s2, _, _, _, rfl, e'⟩
    · rintro σ H1 ⟨s1, v2, v3, v4, rfl, e⟩
      have el : xs.length = ws.length := by rw [ta.length, List.length_map]
      rw [el, List.drop_length] at e
      exact kn e H1 s1
theorem wish_last {H : Hp} {xs : List V} {ws : List (Int × Int)} (ta : TAt H xs (ws.map wV)) (h : 0 < ws.length) : ∃ ini t q, xs = ini ++ [V.ref t] ∧ ws.getLast? = some q ∧ H t = some (.tup [.int q.1, .int q.2]) := by
  have el : xs.length = ws.length := by rw [ta.length, List.length_map]
  have hne : xs ≠ [] := by
    intro z
    rw [z] at el
    simp at el
    omega
  have ex : xs = xs.dropLast ++ [xs.getLast hne] := (List.dropLast_concat_getLast hne).symm
  have e1 : xs[xs.length - 1]? = some (xs.getLast hne) := by rw [← List.getLast?_eq_getElem?, List.getLast?_eq_some_getLast hne]
  obtain ⟨t, p, e2, e3, e4⟩ := wV_get ta e1
  rw [e2] at ex
  refine ⟨_, t, p, ex, ?_, e4⟩
  rw [List.getLast?_eq_getElem?, ← el]
  exact e3
theorem last_ge {ws : List (Int × Int)} {p q : Int × Int} (asc : ws.Pairwise fun p q => p.1 < q.1 ∧ p.2 < q.2) (hp : p ∈ ws) (hq : ws.getLast? = some q) : p.1 ≤ q.1 := by
  obtain ⟨ini, rfl⟩ := List.getLast?_eq_some_iff.mp hq
  rcases List.mem_append.mp hp with h | h
  · have := ((List.pairwise_append.mp asc).2.2 p h q (List.mem_singleton.mpr rfl)).1
    omega
  · rw [List.mem_singleton.mp h]
    exact Int.le_refl _
def spShowsB (K : PySem.W.Frag) (C : Addr) : Sp := fun vs H Q _ => ∃ (r W p : Addr) (ls : List (Option Int)) (xs : List V) (ws : List (Int × Int)) (b t : Int) (q : Int × Int), vs = [.ref r, .ref W, .ref p] ∧ RuleAt C H r ls ∧ ls.length ≤ 61 ∧ H W = some (.tup xs) ∧ TAt H xs (ws.map wV) ∧ WOk ws ∧
  SqT K H p [.int b, .int t] ∧ 0 ≤ b ∧ b ≤ t ∧ stepAt ws b = some q ∧ ∀ H', Same H H' → Q (.bl (!leO (distO ls t b) (some q.2))) H'
theorem ok_showsB (D : Df K mg "shows_broken" s_shows_broken ["rule", "wish", "value"]) (C_is_pair : HasO P w K mg base 2 "is_pair" ["value"] (spPair K)) (C_distance : HasO P w K mg base 5 "distance" ["rule", "tick", "age"] (spDist C)) (C_at_most : HasO P w K mg base 1 "at_most" ["one", "other"] spAtMost) : HasO P w K mg base 6 "shows_broken" ["rule", "wish", "value"] (spShowsB K C) := by
  refine D.hasO sc_shows_broken (fun vs H Q E h => ?_) (fun f cdv A outer s H vs Q E hr h => ?_)
  · obtain ⟨r, W, p, ls, xs, ws, b, t, q, rfl, _⟩ := h
    rfl
  · obtain ⟨r, W, p, ls, xs, ws, b, t, q, rfl, ra, hl, hW, ta, ok, hp, b0, bt, hq, k⟩ := h
    refine ⟨_, (pss_cons (ps_if (pt_not (pt_val (pe_hasO C_is_pair (hr.mono (by decide)) rfl (pa_cons (pv 2) pa_nil)))) (pss_one (ps_ret pe_bl)) pss_nil)
      (pss_cons (ps_asg (pv 2) (pg_tup rfl (pgs_cons (pg_name (i := 3) sc_shows_broken.nd rfl (Or.inr rfl)) (pgs_cons (pg_name (i := 4) sc_shows_broken.nd rfl (Or.inl rfl)) pgs_nil))))
      (pss_cons (ps_if (PW.pt (pw_or (pt_cmpR op_gt (pv 3) (pe_ix ix_tup (pe_ix ix_tup (pv 1) (pe_un un_neg pe_int) (fun _ _ => rfl)) pe_int (fun _ _ => rfl)) (nomark _)) (pw_or1 (pt_cmpR op_lt (pv 4) (pv 3) (nomark _))))) (pss_one (ps_ret pe_bl)) pss_nil)
      (pss_cons (ps_set (i := 5) sc_shows_broken.nd rfl (Or.inl rfl) (pe_ix ix_list (pe_lc (own := [("last", 6), ("limit", 7)]) (g := gTup _ 2 (gCons (gName 6) (gCons (gName 7) (gNil)))) rfl sc_shows_broken.nd (pi_tup (pv 1)) (blkOk_by (N := N_shows_broken) (sc := defScope s_shows_broken) (by decide +kernel)) (fun _ _ _ _ _ => pg_tup rfl (pgs_cons (pg_name (i := 6) sc_shows_broken.nd rfl (Or.inl rfl)) (pgs_cons (pg_name (i := 7) sc_shows_broken.nd rfl (Or.inl rfl)) pgs_nil))) (fun _ _ _ _ _ => (pts_one (pt_cmpR op_le (pv 3) (pv 6) (nomark _)))) (fun _ _ _ _ _ => (pv 7))) pe_int (fun _ _ => rfl)))
      (pss_one (ps_ret (pe_not (pe_hasO C_at_most (hr.mono (by decide)) rfl (pa_cons (pe_hasO C_distance (hr.mono (by decide)) rfl (pa_cons (pv 0) (pa_cons (pv 4) (pa_cons (pv 3) pa_nil)))) (pa_cons (pv 5) pa_nil)))))))))), ?_⟩
    obtain ⟨ini, tl, ql, rfl, hql, htl⟩ := wish_last ta ok.pos
    have qm : q ∈ ws := List.mem_of_find?_eq_some hq
    have qb : b ≤ q.1 := of_decide_eq_true (show decide (b ≤ q.1) = true from List.find?_some (p := fun p : Int × Int => decide (b ≤ p.1)) hq)
    have lg := last_ge ok.asc qm hql
    refine ⟨_, rfl, p, b, t, rfl, hp, b0, by omega, fun H1 s1 => ?_⟩
    refine ⟨_, rfl, ?_⟩
    refine ite2 (fun z => absurd z (by decide)) (fun _ => ?_)
    have hW1 := s1 _ _ hW
    refine ⟨_, rfl, p, _, rfl, SqT.same s1 hp, rfl, _, _, rfl, _, _, rfl, rfl, ?_⟩
    refine ⟨_, rfl, _, rfl, _, rfl, W, _, _, _, rfl, rfl, SqT.of hW1, atI_last _ _, tl, _, _, _, rfl, rfl, SqT.of (s1 _ _ htl), rfl, _, _, rfl, rfl, _, rfl, ?_⟩
    refine ite2 (fun z => absurd (of_decide_eq_true z) (by omega)) (fun _ => ?_)
    refine ⟨_, rfl, _, rfl, _, _, rfl, rfl, _, rfl, ?_⟩
    refine ite2 (fun z => absurd (of_decide_eq_true z) (by omega)) (fun _ => ?_)
    generalize ini ++ [V.ref tl] = xs at *
    refine ⟨_, rfl, W, rfl, ⟨_, SqT.of hW1⟩, fun D hD => lc_tup (xs := xs) (fun i H' => Same H1 H' ∧ H' D = some (.lst (((ws.take i).filter fun p => decide (b ≤ p.1)).map fun p => V.int p.2))) ⟨same_upd hD, upd_same⟩ (fun i H' _ z => SqT.of (z.1 _ _ hW1)) ?_ ?_⟩
    · rintro i x H2 hx ⟨s2, eD⟩
      obtain ⟨u, p2, rfl, hpi, hu⟩ := wV_get ta hx
      have et : ws.take (i + 1) = ws.take i ++ [p2] := by rw [List.take_add_one, hpi]; rfl
      have hil := (List.getElem?_eq_some_iff.mp hpi).1
      have hm := ok.most
      refine ⟨u, _, rfl, SqT.of (s2 _ _ (s1 _ _ hu)), rfl, _, _, rfl, _, _, rfl, rfl, rfl, ?_⟩
      refine ⟨_, rfl, _, rfl, _, _, rfl, rfl, _, rfl, ?_⟩
      refine ite2 (fun hc => ?_) (fun hc => ?_)
      · refine ⟨_, rfl, _, eD, small1000 (by rw [List.length_map]; have h2 := List.length_filter_le (fun p : Int × Int => decide (b ≤ p.1)) (ws.take i); rw [List.length_take] at h2; omega), fun b o z => ?_, ?_⟩
        · rw [upd_ne (ne_of_none z hD)]
          exact s2 b o z
        · rw [upd_same, et, List.filter_append, filter_yes (fun p : Int × Int => decide (b ≤ p.1)) hc, List.map_append]
          rfl
      · refine ⟨s2, ?_⟩
        rw [eD, et, List.filter_append, filter_no (fun p : Int × Int => decide (b ≤ p.1)) (by cases z : decide (b ≤ p2.1) with | true => exact absurd z hc | false => rfl), List.append_nil]
    · rintro H2 ⟨s2, eD⟩
      have el : xs.length = ws.length := by rw [ta.length, List.length_map]
      rw [el, List.take_length] at eD
      have e0 : ((ws.filter fun p => decide (b ≤ p.1)).map fun p => V.int p.2)[0]? = some (V.int q.2) := by
        rw [List.getElem?_map, ← List.head?_eq_getElem?, List.head?_filter]
        have hq' : ws.find? (fun p => decide (b ≤ p.1)) = some q := hq
        rw [hq']
        rfl
      refine ⟨D, _, _, _, rfl, rfl, SqL.of eD, at_of (j := 0) rfl e0, ?_⟩
      refine ⟨_, rfl, _, rfl, _, rfl, r, t, b, ls, rfl, (ra.same s1).same s2, hl, fun H3 s3 => ?_⟩
      exact ⟨_, rfl, distO ls t b, some q.2, rfl, _, rfl, k _ (s1.trans (s2.trans s3))⟩
end
theorem lay_pairs : ∀ ps : List (Option Int × Int), PyData.canLayAll0 (ps.map dP) = true ∧ PyData.depthAll (ps.map dP) ≤ 1
  | [] => ⟨rfl, Nat.zero_le _⟩
  | p :: r => by
    have ih := lay_pairs r
    obtain ⟨x, i⟩ := p
    constructor
    · show (PyData.canLay0 (dP (x, i)) && PyData.canLayAll0 (r.map dP)) = true
      rw [ih.1]
      cases x <;> rfl
    · show max (PyData.depth (dP (x, i))) (PyData.depthAll (r.map dP)) ≤ 1
      have : PyData.depth (dP (x, i)) = 1 := by cases x <;> rfl
      rw [this]
      omega
theorem shaped_pairs (ps : List (Option Int × Int)) : SeqAt.shaped (.tuple (ps.map dP)) = true := by
  have h := lay_pairs ps
  unfold SeqAt.shaped
  have e1 : PyData.canLay0 (.tuple (ps.map dP)) = true := h.1
  have e2 : PyData.depth (.tuple (ps.map dP)) ≤ 64 := by
    show PyData.depthAll (ps.map dP) + 1 ≤ 64
    omega
  rw [e1, decide_eq_true e2]
  rfl
theorem eqv_pairs : ∀ ps : List (Option Int × Int), PyData.eqvAll (ps.map dP) (ps.map dP) = true
  | [] => rfl
  | p :: r => by
    show (PyData.eqv (dP p) (dP p) && PyData.eqvAll (r.map dP) (r.map dP)) = true
    rw [eqv_pairs r]
    show ((PyData.eqv (dO p.1) (dO p.1) && (PyData.eqv (dO (some p.2)) (dO (some p.2)) && true)) && true) = true
    rw [eqv_lv, eqv_lv, decide_eq_true rfl, decide_eq_true rfl]
    rfl
theorem pr_of_t {H : Hp} : ∀ {xs : List V} {ws : List (Int × Int)}, TAt H xs (ws.map wV) → PrAt H xs (ws.map fun p => (some p.1, p.2))
  | [], [], _ => trivial
  | _ :: _, _ :: _, h => ⟨h.1, pr_of_t h.2⟩
  | [], _ :: _, h => h.elim
  | _ :: _, [], h => h.elim
/-- t[:n], as it stands or a new one -/
theorem sl_first {K : PySem.W.Frag} {σ : L2.St} {H : Hp} {Q : VK} {S : Addr} {xs : List V} {i n : Nat} (hi : σ[i]? = some (some (.ref S))) (hS : H S = some (.tup xs)) (k : ∀ W H', Same H H' → H' W = some (.tup (xs.take n)) → Q (.ref W) H') : tSl (rSlB K) (tVar i) tNoPart (tPart (tC (.int (n : Nat)))) σ H Q := by
  refine ⟨_, hi, _, rfl, S, xs, rfl, SqT.of hS, fun r H' h => ?_⟩
  rw [cut_to] at h
  rcases h with ⟨rfl, rfl, e⟩ | ⟨hr, rfl⟩
  · exact k _ _ (Same.refl _) (by rw [hS, e])
  · exact k _ _ (same_upd hr) upd_same
theorem ne_pairs (ps : List (Option Int × Int)) : ¬ (!PyData.eqv (.tuple (ps.map dP)) (.tuple (ps.map dP))) = true := by
  have h : PyData.eqv (.tuple (ps.map dP)) (.tuple (ps.map dP)) = true := eqv_pairs ps
  rw [h]
  decide
theorem shaped_pairsL (ps : List (Option Int × Int)) : SeqAt.shaped (.list (ps.map dP)) = true := by
  have h := lay_pairs ps
  unfold SeqAt.shaped
  have e1 : PyData.canLay0 (.list (ps.map dP)) = true := h.1
  have e2 : PyData.depth (.list (ps.map dP)) ≤ 64 := by
    show PyData.depthAll (ps.map dP) + 1 ≤ 64
    omega
  rw [e1, decide_eq_true e2]
  rfl
/-! SPLIT -/
def spNatQ (K : PySem.W.Frag) : Sp := fun vs H Q _ => ∃ (ex : List Addr) (v : V) (d : PyData), vs = [v] ∧ Dq K ex H v d ∧ Q (.bl (natD d)) H
section
variable {P : Program} {w : World} {K : PySem.W.Frag} {mg : Str → Option Value} {base : Heap}
theorem ok_natQ (D : Df K mg "is_natural" s_is_natural ["value"]) (T : Bl mg) : HasO P w K mg base 1 "is_natural" ["value"] (spNatQ K) := by
  refine D.hasO sc_is_natural (fun vs H Q E h => ?_) (fun f cdv A outer s H vs Q E hr h => ?_)
  · obtain ⟨ex, v, d, rfl, _⟩ := h
    rfl
  · obtain ⟨ex, v, d, rfl, hd, k⟩ := h
    refine ⟨_, (pss_one (ps_ret (pe_and (pe_callB call_isi (by rfl) T.isinstance (by decide +kernel) (pa_cons (pv 0) (pa_cons (pe_bltn (v := .ty "int") (by rfl) T.int (by decide +kernel) rfl) pa_nil))) (pe_and (pe_not (pe_callB call_isi (by rfl) T.isinstance (by decide +kernel) (pa_cons (pv 0) (pa_cons (pe_bltn (v := .ty "bool") (by rfl) T.bool (by decide +kernel) rfl) pa_nil)))) (pe_one (pe_cmpR op_ge (pv 0) pe_int (nomark _))))))), ?_⟩
    cases hd with
    | int i =>
      refine ⟨_, rfl, _, _, _, _, true, rfl, .ty _, .base (.int i), kit_ty (by decide +kernel), true, rfl, ?_⟩
      refine iteT ?_
      refine ⟨_, rfl, _, _, _, _, false, rfl, .ty _, .base (.int i), kit_ty (by decide +kernel), false, rfl, true, rfl, ?_⟩
      refine iteT ?_
      exact ⟨_, rfl, _, _, rfl, rfl, k⟩
    | bl b =>
      refine ⟨_, rfl, _, _, _, _, true, rfl, .ty _, .base (.bl b), kit_ty (by decide +kernel), true, rfl, ?_⟩
      refine iteT ?_
      refine ⟨_, rfl, _, _, _, _, true, rfl, .ty _, .base (.bl b), kit_ty (by decide +kernel), true, rfl, false, rfl, ?_⟩
      exact iteF k
    | non => exact ⟨_, rfl, _, _, _, _, false, rfl, .ty _, .base .non, kit_ty (by decide +kernel), false, rfl, iteF k⟩
    | str x => exact ⟨_, rfl, _, _, _, _, false, rfl, .ty _, .base (.str x), kit_ty (by decide +kernel), false, rfl, iteF k⟩
    | lst e n a => exact ⟨_, rfl, _, _, _, _, false, rfl, .ty _, .base (.lst e), kit_ty (by decide +kernel), false, rfl, iteF k⟩
    | tup e a => exact ⟨_, rfl, _, _, _, _, false, rfl, .ty _, tyx_seqt e, kit_ty (by decide +kernel), false, rfl, iteF k⟩
    | dct e n a => exact ⟨_, rfl, _, _, _, _, false, rfl, .ty _, .base (.dK e), kit_ty (by decide +kernel), false, rfl, iteF k⟩
end
abbrev s_is_step : Stmt := (top 40)
abbrev N_is_step : List Str := ["value"]
theorem sc_is_step : FnScope N_is_step ["value"] (defScope s_is_step) :=
  ⟨rfl, rfl, rfl, by decide +kernel, rfl, by decide +kernel, by decide +kernel⟩
/-- a step as data: two numbers from 0 -/
def pairD : PyData → Bool
  | .tuple [x, y] => natD x && natD y
  | _ => false
def stepD : PyData → Option (Int × Int)
  | .tuple [.int a, .int b] => if 0 ≤ a ∧ 0 ≤ b ∧ a ≤ 10 ^ 18 ∧ b ≤ 10 ^ 18 then some (a, b) else none
  | _ => none
theorem pairD_some {d : PyData} (h : pairD d = true) : ∃ a b : Int, d = .tuple [.int a, .int b] ∧ 0 ≤ a ∧ 0 ≤ b := by
  cases d with
  | tuple ds =>
    match ds, h with
    | [x, y], h =>
      have h2 : (natD x && natD y) = true := h
      rw [Bool.and_eq_true] at h2
      cases x with
      | int a =>
        cases y with
        | int b => exact ⟨a, b, rfl, of_decide_eq_true h2.1, of_decide_eq_true h2.2⟩
        | none => cases h2.2
        | bool _ => cases h2.2
        | str _ => cases h2.2
        | list _ => cases h2.2
        | tuple _ => cases h2.2
        | dict _ => cases h2.2
      | none => cases h2.1
      | bool _ => cases h2.1
      | str _ => cases h2.1
      | list _ => cases h2.1
      | tuple _ => cases h2.1
      | dict _ => cases h2.1
  | none => cases h
  | bool _ => cases h
  | int _ => cases h
  | str _ => cases h
  | list _ => cases h
  | dict _ => cases h
theorem stepD_int (a b : Int) : stepD (.tuple [.int a, .int b]) = if 0 ≤ a ∧ 0 ≤ b ∧ a ≤ 10 ^ 18 ∧ b ≤ 10 ^ 18 then some (a, b) else none := rfl
theorem stepD_some {d : PyData} {p : Int × Int} (h : stepD d = some p) : d = .tuple [.int p.1, .int p.2] ∧ 0 ≤ p.1 ∧ 0 ≤ p.2 ∧ p.1 ≤ 10 ^ 18 ∧ p.2 ≤ 10 ^ 18 := by
  unfold stepD at h
  split at h
  · next a b =>
    by_cases c : 0 ≤ a ∧ 0 ≤ b ∧ a ≤ 10 ^ 18 ∧ b ≤ 10 ^ 18
    · rw [if_pos c] at h
      cases h
      exact ⟨rfl, c⟩
    · rw [if_neg c] at h
      cases h
  · cases h
theorem two_items {K : PySem.W.Frag} {ex : List Addr} {H : Hp} {xs : List V} {ds : List PyData} (h : DqAll K ex H xs ds) (hl : xs.length = 2) : ∃ x y d1 d2, xs = [x, y] ∧ ds = [d1, d2] ∧ Dq K ex H x d1 ∧ Dq K ex H y d2 := by
  match xs, ds, h, hl with
  | [x, y], [d1, d2], .cons h1 (.cons h2 .nil), _ => exact ⟨x, y, d1, d2, rfl, rfl, h1, h2⟩
theorem pairD_len {ds : List PyData} (h : ds.length ≠ 2) : pairD (.tuple ds) = false := by
  match ds, h with
  | [], _ => rfl
  | [_], _ => rfl
  | [_, _], h => exact absurd rfl h
  | _ :: _ :: _ :: _, _ => rfl
def spPairQ (K : PySem.W.Frag) : Sp := fun vs H Q _ => ∃ (ex : List Addr) (v : V) (d : PyData), vs = [v] ∧ Dq K ex H v d ∧ ∀ H', Same H H' → Q (.bl (pairD d)) H'
def spStepQ (K : PySem.W.Frag) : Sp := fun vs H Q _ => ∃ (ex : List Addr) (v : V) (d : PyData), vs = [v] ∧ Dq K ex H v d ∧ ∀ H', Same H H' → Q (.bl (stepD d).isSome) H'
section
variable {P : Program} {w : World} {K : PySem.W.Frag} {mg : Str → Option Value} {base : Heap}
theorem ok_pairQ (D : Df K mg "is_pair" s_is_pair ["value"]) (T : Bl mg) (C_is_natural : HasO P w K mg base 1 "is_natural" ["value"] (spNatQ K)) : HasO P w K mg base 2 "is_pair" ["value"] (spPairQ K) := by
  refine D.hasO sc_is_pair (fun vs H Q E h => ?_) (fun f cdv A outer s H vs Q E hr h => ?_)
  · obtain ⟨ex, v, d, rfl, _⟩ := h
    rfl
  · obtain ⟨ex, v, d, rfl, hd, k⟩ := h
    refine ⟨_, (pss_one (ps_ret (pe_and (pe_callB call_isi (by rfl) T.isinstance (by decide +kernel) (pa_cons (pv 0) (pa_cons (pe_bltn (v := .ty "tuple") (by rfl) T.tuple (by decide +kernel) rfl) pa_nil))) (pe_and (pe_cmpR op_eq (pe_callB call_len_seq (by rfl) T.len PySem.boot_len (pa_cons (pv 0) pa_nil)) pe_int (nomark _)) (pe_one (pe_callB (cr_all rfl) (by rfl) T.all (by decide +kernel) (pa_cons (pe_lc (own := [("part", 1)]) (g := gName 1) (tt := tYes) rfl sc_is_pair.nd (pi_tup (pv 0)) (blkOk_by (N := N_is_pair) (sc := defScope s_is_pair) (by decide +kernel)) (fun _ _ _ _ _ => pg_name (i := 1) sc_is_pair.nd rfl (Or.inl rfl)) (fun _ _ _ _ _ => pts_nil) (fun _ _ _ _ _ => (pe_hasO C_is_natural (hr.mono (by decide)) rfl (pa_cons (pv 1) pa_nil)))) pa_nil))))))), ?_⟩
    cases hd with
    | @tup a xs ds hT hall =>
      have hlen := hall.length
      refine ⟨_, rfl, _, _, _, _, true, rfl, .ty _, tyx_seqt hT, kit_ty (by decide +kernel), true, rfl, ?_⟩
      refine iteT ?_
      refine ⟨_, rfl, a, _, rfl, .inr hT, rfl, _, rfl, ?_⟩
      by_cases c : xs.length = 2
      · refine ite2 (fun _ => ?_) (fun z => absurd (decide_eq_true (by rw [c]; rfl)) z)
        obtain ⟨x, y, d1, d2, rfl, rfl, h1, h2⟩ := two_items hall c
        refine ⟨_, rfl, a, rfl, ⟨_, hT⟩, fun D2 hD2 => lc_tup (xs := [x, y]) (fun i H' => Same H H' ∧ H' D2 = some (.lst ((([d1, d2].take i).map natD).map V.bl))) ⟨same_upd hD2, upd_same⟩ (fun i H' _ z => SqT.same z.1 hT) ?_ ?_⟩
        · rintro i v H2 hv ⟨s2, e2⟩
          have hi : i = 0 ∨ i = 1 := by
            have := (List.getElem?_eq_some_iff.mp hv).1
            have h2 : i < 2 := this
            omega
          rcases hi with rfl | rfl
          · cases hv
            refine ⟨rfl, _, rfl, ex, _, d1, rfl, h1.same s2, ?_⟩
            refine ⟨_, e2, by show 0 < sizeLine; decide, fun b o z => ?_, by rw [upd_same]; rfl⟩
            rw [upd_ne (ne_of_none z hD2)]
            exact s2 b o z
          · cases hv
            refine ⟨rfl, _, rfl, ex, _, d2, rfl, h2.same s2, ?_⟩
            refine ⟨_, e2, by show 1 < sizeLine; decide, fun b o z => ?_, by rw [upd_same]; rfl⟩
            rw [upd_ne (ne_of_none z hD2)]
            exact s2 b o z
        · rintro H2 ⟨s2, e2⟩
          refine ⟨D2, [natD d1, natD d2], rfl, SqL.of e2, ?_⟩
          have q := k H2 s2
          have e : [natD d1, natD d2].all _root_.id = pairD (.tuple [d1, d2]) := by
            show (natD d1 && (natD d2 && true)) = (natD d1 && natD d2)
            rw [Bool.and_true]
          rw [e]
          exact q
      · refine ite2 (fun z => absurd (of_decide_eq_true z) (fun w => by injection w with w; omega)) (fun _ => ?_)
        have q := k H (Same.refl _)
        have e : pairD (.tuple ds) = false := pairD_len (by omega)
        rw [e] at q
        exact q
    | int i => exact ⟨_, rfl, _, _, _, _, false, rfl, .ty _, .base (.int i), kit_ty (by decide +kernel), false, rfl, iteF (k H (Same.refl _))⟩
    | bl b => exact ⟨_, rfl, _, _, _, _, false, rfl, .ty _, .base (.bl b), kit_ty (by decide +kernel), false, rfl, iteF (k H (Same.refl _))⟩
    | non => exact ⟨_, rfl, _, _, _, _, false, rfl, .ty _, .base .non, kit_ty (by decide +kernel), false, rfl, iteF (k H (Same.refl _))⟩
    | str x => exact ⟨_, rfl, _, _, _, _, false, rfl, .ty _, .base (.str x), kit_ty (by decide +kernel), false, rfl, iteF (k H (Same.refl _))⟩
    | lst e n a => exact ⟨_, rfl, _, _, _, _, false, rfl, .ty _, .base (.lst e), kit_ty (by decide +kernel), false, rfl, iteF (k H (Same.refl _))⟩
    | dct e n a => exact ⟨_, rfl, _, _, _, _, false, rfl, .ty _, .base (.dK e), kit_ty (by decide +kernel), false, rfl, iteF (k H (Same.refl _))⟩
theorem ok_stepQ (D : Df K mg "_is_step" s_is_step ["value"]) (T : Bl mg) (hGr : ∃ t, mg "GREATEST" = some (.int 1000000000000000000 t)) (C_is_pair : HasO P w K mg base 2 "is_pair" ["value"] (spPairQ K)) : HasO P w K mg base 3 "_is_step" ["value"] (spStepQ K) := by
  obtain ⟨tG, hGr⟩ := hGr
  refine D.hasO sc_is_step (fun vs H Q E h => ?_) (fun f cdv A outer s H vs Q E hr h => ?_)
  · obtain ⟨ex, v, d, rfl, _⟩ := h
    rfl
  · obtain ⟨ex, v, d, rfl, hd, k⟩ := h
    refine ⟨_, (pss_one (ps_ret (pe_and (pe_hasO C_is_pair (hr.mono (by decide)) rfl (pa_cons (pv 0) pa_nil)) (pe_and (pe_cmpR op_le (pe_ix ix_tup (pv 0) pe_int (fun _ _ => rfl)) (pe_glob (v := .int 1000000000000000000) rfl hGr ⟨_, rfl⟩) (nomark _)) (pe_one (pe_cmpR op_le (pe_ix ix_tup (pv 0) pe_int (fun _ _ => rfl)) (pe_glob (v := .int 1000000000000000000) rfl hGr ⟨_, rfl⟩) (nomark _))))))), ?_⟩
    refine ⟨_, rfl, ex, v, d, rfl, hd, fun H1 s1 => ⟨_, rfl, ?_⟩⟩
    have hd1 := hd.same s1
    have q := k H1 s1
    by_cases c : pairD d = true
    · obtain ⟨a, b, rfl, a0, b0⟩ := pairD_some c
      refine ite2 (fun _ => ?_) (fun z => absurd c z)
      cases hd1 with
      | @tup t xs _ hT hall =>
        obtain ⟨x, y, d1, d2, rfl, e2, h1, h2⟩ := two_items hall hall.length
        obtain ⟨rfl, e3⟩ := List.cons.inj e2
        obtain ⟨rfl, _⟩ := List.cons.inj e3
        cases h1
        cases h2
        have es : (stepD (.tuple [.int a, .int b])).isSome = (decide (a ≤ 1000000000000000000) && decide (b ≤ 1000000000000000000)) := by
          rw [stepD_int]
          by_cases c1 : a ≤ 1000000000000000000
          · by_cases c2 : b ≤ 1000000000000000000
            · rw [if_pos ⟨a0, b0, c1, c2⟩, decide_eq_true c1, decide_eq_true c2]
              rfl
            · rw [if_neg (fun z => c2 z.2.2.2), decide_eq_false c2, Bool.and_false]
              rfl
          · rw [if_neg (fun z => c1 z.2.2.1), decide_eq_false c1, Bool.false_and]
            rfl
        rw [es] at q
        refine ⟨_, rfl, t, _, _, _, rfl, rfl, hT, at_of (j := 0) rfl rfl, _, _, rfl, rfl, _, rfl, ?_⟩
        by_cases c1 : a ≤ 1000000000000000000
        · refine ite2 (fun _ => ?_) (fun z => absurd (decide_eq_true c1) z)
          rw [decide_eq_true c1, Bool.true_and] at q
          exact ⟨_, rfl, t, _, _, _, rfl, rfl, hT, at_of (j := 1) rfl rfl, _, _, rfl, rfl, q⟩
        · refine ite2 (fun z => absurd (of_decide_eq_true z) c1) (fun _ => ?_)
          rw [decide_eq_false c1, Bool.false_and] at q
          exact q
    · refine ite2 (fun z => absurd z c) (fun _ => ?_)
      have e : (stepD d).isSome = false := by
        cases z : stepD d with
        | none => rfl
        | some p =>
          exfalso
          apply c
          obtain ⟨rfl, z1, z2, _⟩ := stepD_some z
          show (decide (0 ≤ p.1) && decide (0 ≤ p.2)) = true
          rw [decide_eq_true z1, decide_eq_true z2]
          rfl
      rw [e] at q
      exact q
end
abbrev s_is_wish : Stmt := (top 35)
abbrev N_is_wish : List Str := ["value", "step", "later"]
theorem sc_is_wish : FnScope N_is_wish ["value"] (defScope s_is_wish) :=
  ⟨rfl, rfl, rfl, by decide +kernel, rfl, by decide +kernel, by decide +kernel⟩
def stD (p : Int × Int) : PyData := .tuple [.int p.1, .int p.2]
def ascAt (ws : List (Int × Int)) (i : Nat) : Bool := match ws[i]?, ws[i + 1]? with
  | some p, some q => decide (p.1 < q.1) && decide (p.2 < q.2)
  | _, _ => true
def ascB (ws : List (Int × Int)) : Bool := (List.range (ws.length - 1)).all (ascAt ws)
def wishD : PyData → Bool
  | .tuple ds => decide (1 ≤ ds.length) && (decide (ds.length ≤ 12) && (ds.all (fun d => (stepD d).isSome) && ascB (ds.filterMap stepD)))
  | _ => false
theorem all_steps : ∀ ds : List PyData, ds.all (fun d => (stepD d).isSome) = true → ds = (ds.filterMap stepD).map stD
  | [], _ => rfl
  | d :: r, h => by
    rw [List.all_cons, Bool.and_eq_true] at h
    cases e : stepD d with
    | none => rw [e] at h; cases h.1
    | some p =>
      rw [List.filterMap_cons, e, List.map_cons, ← all_steps r h.2]
      show d :: r = stD p :: r
      rw [(stepD_some e).1]
      rfl
def spWishQ (K : PySem.W.Frag) : Sp := fun vs H Q _ => ∃ (ex : List Addr) (v : V) (d : PyData), vs = [v] ∧ Dq K ex H v d ∧ ∀ H', Same H H' → Q (.bl (wishD d)) H'
/-- the items of a tuple of steps -/
theorem steps_at {K : PySem.W.Frag} {ex : List Addr} {H : Hp} {xs : List V} {ws : List (Int × Int)} (h : DqAll K ex H xs (ws.map stD)) {i : Nat} {x : V} (hx : xs[i]? = some x) : ∃ t p, x = .ref t ∧ ws[i]? = some p ∧ SqT K H t [.int p.1, .int p.2] := by
  obtain ⟨d, hd, h1⟩ := h.at hx
  obtain ⟨p, hp, rfl⟩ : ∃ p, ws[i]? = some p ∧ d = stD p := by
    rw [List.getElem?_map] at hd
    cases e : ws[i]? with
    | none => rw [e] at hd; cases hd
    | some p => rw [e] at hd; exact ⟨p, rfl, (Option.some.inj hd).symm⟩
  have h2 : Dq K ex H x (.tuple [.int p.1, .int p.2]) := h1
  cases h2 with
  | @tup t ys _ hT hall =>
    obtain ⟨y, z, d1, d2, rfl, e2, g1, g2⟩ := two_items hall hall.length
    obtain ⟨rfl, e3⟩ := List.cons.inj e2
    obtain ⟨rfl, _⟩ := List.cons.inj e3
    cases g1
    cases g2
    exact ⟨t, p, rfl, hp, hT⟩
theorem small13 {n : Nat} (h : n ≤ 12) : n < sizeLine := small1000 (by omega)
section
variable {P : Program} {w : World} {K : PySem.W.Frag} {mg : Str → Option Value} {base : Heap}
theorem ok_wishQ (D : Df K mg "is_wish" s_is_wish ["value"]) (T : Bl mg) (hMS : ∃ t, mg "MOST_STEPS" = some (.int 12 t)) (C_is_step : HasO P w K mg base 3 "_is_step" ["value"] (spStepQ K)) : HasO P w K mg base 4 "is_wish" ["value"] (spWishQ K) := by
  obtain ⟨tM, hMS⟩ := hMS
  refine D.hasO sc_is_wish (fun vs H Q E h => ?_) (fun f cdv A outer s H vs Q E hr h => ?_)
  · obtain ⟨ex, v, d, rfl, _⟩ := h
    rfl
  · obtain ⟨ex, v, d, rfl, hd, k⟩ := h
    refine ⟨_, (pss_cons (ps_if (PW.pt (pw_or (pt_not (pt_val (pe_callB call_isi (by rfl) T.isinstance (by decide +kernel) (pa_cons (pv 0) (pa_cons (pe_bltn (v := .ty "tuple") (by rfl) T.tuple (by decide +kernel) rfl) pa_nil))))) (pw_or1 (pt_not (pt_chain op_le op_le pe_int (pe_callB call_len_seq (by rfl) T.len PySem.boot_len (pa_cons (pv 0) pa_nil)) (pe_glob (v := .int 12) rfl hMS ⟨_, rfl⟩)))))) (pss_one (ps_ret pe_bl)) pss_nil)
      (pss_cons (ps_if (pt_not (pt_val (pe_callB (cr_all rfl) (by rfl) T.all (by decide +kernel) (pa_cons (pe_lc (own := [("step", 1)]) (g := gName 1) (tt := tYes) rfl sc_is_wish.nd (pi_tup (pv 0)) (blkOk_by (N := N_is_wish) (sc := defScope s_is_wish) (by decide +kernel)) (fun _ _ _ _ _ => pg_name (i := 1) sc_is_wish.nd rfl (Or.inl rfl)) (fun _ _ _ _ _ => pts_nil) (fun _ _ _ _ _ => (pe_hasO C_is_step (hr.mono (by decide)) rfl (pa_cons (pv 1) pa_nil)))) pa_nil)))) (pss_one (ps_ret pe_bl)) pss_nil)
      (pss_one (ps_ret (pe_callB (cr_all rfl) (by rfl) T.all (by decide +kernel) (pa_cons (pe_lc (own := [("step", 1), ("later", 2)]) (g := gTup _ 2 (gCons (gName 1) (gCons (gName 2) (gNil)))) (tt := tYes) rfl sc_is_wish.nd (RZ.pi_zipA rfl T.zip (pa_cons (pv 0) (pa_cons (pe_slice sl_tupB (pv 0) (po_some pe_int) po_none) pa_nil))) (blkOk_by (N := N_is_wish) (sc := defScope s_is_wish) (by decide +kernel)) (fun _ _ _ _ _ => pg_tup rfl (pgs_cons (pg_name (i := 1) sc_is_wish.nd rfl (Or.inl rfl)) (pgs_cons (pg_name (i := 2) sc_is_wish.nd rfl (Or.inl rfl)) pgs_nil))) (fun _ _ _ _ _ => pts_nil) (fun _ _ _ _ _ => (pe_and (pe_cmpR op_lt (pe_ix (ix_tupK (K := K) rfl) (pv 1) pe_int (fun _ _ => rfl)) (pe_ix (ix_tupK (K := K) rfl) (pv 2) pe_int (fun _ _ => rfl)) (nomark _)) (pe_one (pe_cmpR op_lt (pe_ix (ix_tupK (K := K) rfl) (pv 1) pe_int (fun _ _ => rfl)) (pe_ix (ix_tupK (K := K) rfl) (pv 2) pe_int (fun _ _ => rfl)) (nomark _)))))) pa_nil)))))), ?_⟩
    cases hd with
    | @tup a xs ds hT hall =>
      have hlen := hall.length
      refine ⟨_, rfl, _, _, _, _, true, rfl, .ty _, tyx_seqt hT, kit_ty (by decide +kernel), _, rfl, ?_⟩
      refine ite2 (fun z => absurd z (by decide)) (fun _ => ?_)
      refine ⟨_, rfl, a, _, rfl, .inr hT, _, _, rfl, rfl, _, rfl, ?_⟩
      by_cases c1 : 1 ≤ ds.length
      · refine ite2 (fun _ => ?_) (fun z => absurd (decide_eq_true (show (1 : Int) ≤ ((xs.length : Nat) : Int) by omega)) z)
        refine ⟨_, _, rfl, rfl, _, rfl, ?_⟩
        by_cases c2 : ds.length ≤ 12
        · refine ite2 (fun z => absurd (z.symm.trans (congrArg (fun c => !c) (decide_eq_true (show ((xs.length : Nat) : Int) ≤ 12 by omega)))) (by decide)) (fun _ => ?_)
          refine ⟨_, rfl, a, rfl, ⟨_, hT⟩, fun D2 hD2 => lc_tup (xs := xs) (fun i H' => Same H H' ∧ H' D2 = some (.lst (((ds.take i).map fun d => (stepD d).isSome).map V.bl))) ⟨same_upd hD2, upd_same⟩ (fun i H' _ z => SqT.same z.1 hT) ?_ ?_⟩
          · rintro i x H2 hx ⟨s2, e2⟩
            obtain ⟨dd, hdd, h1⟩ := hall.at hx
            have hil := (List.getElem?_eq_some_iff.mp hdd).1
            refine ⟨rfl, _, rfl, ex, x, dd, rfl, h1.same s2, fun H3 s3 => ?_⟩
            refine ⟨_, s3 _ _ e2, small13 (by rw [List.length_map, List.length_map, List.length_take]; omega), fun b o z => ?_, ?_⟩
            · rw [upd_ne (ne_of_none z hD2)]
              exact s3 b o (s2 b o z)
            · rw [upd_same, List.take_add_one, hdd, List.map_append, List.map_append]
              rfl
          · rintro H2 ⟨s2, e2⟩
            rw [hlen, List.take_length] at e2
            refine ⟨D2, ds.map fun d => (stepD d).isSome, rfl, SqL.of e2, _, rfl, ?_⟩
            have ea : (ds.map fun d => (stepD d).isSome).all _root_.id = ds.all fun d => (stepD d).isSome := by rw [List.all_map]; rfl
            rw [ea]
            cases c3 : ds.all fun d => (stepD d).isSome with
            | false =>
              refine ite2 (fun _ => ?_) (fun z => absurd rfl z)
              have q := k H2 s2
              have e : wishD (.tuple ds) = false := by
                show (decide (1 ≤ ds.length) && (decide (ds.length ≤ 12) && ((ds.all fun d => (stepD d).isSome) && ascB (ds.filterMap stepD)))) = false
                rw [c3, Bool.false_and, Bool.and_false, Bool.and_false]
              rw [e] at q
              exact q
            | true =>
              refine ite2 (fun z => absurd z (by decide)) (fun _ => ?_)
              have eds := all_steps ds c3
              obtain ⟨ws, hws⟩ : ∃ ws, ws = ds.filterMap stepD := ⟨_, rfl⟩
              rw [← hws] at eds
              have hal2 : DqAll K ex H2 xs (ws.map stD) := by
                rw [← eds]
                exact hall.same s2
              have wl : ws.length = ds.length := by rw [eds, List.length_map]
              have hT2 := SqT.same s2 hT
              have ew : ∀ H', Same H H' → Q (.bl (ascB ws)) H' := fun H' s' => by
                have q := k H' s'
                have e : wishD (.tuple ds) = ascB ws := by
                  show (decide (1 ≤ ds.length) && (decide (ds.length ≤ 12) && ((ds.all fun d => (stepD d).isSome) && ascB (ds.filterMap stepD)))) = _
                  rw [c3, decide_eq_true c1, decide_eq_true c2, ← hws]
                  rfl
                rw [e] at q
                exact q
              refine ⟨_, rfl, _, rfl, 1, rfl, a, _, rfl, hT2, fun r3 H3 hr3 => ?_⟩
              have sm3 := rSlB_same hr3
              have at3 := rSlB_at hT2 hr3
              rw [cut_drop] at at3
              refine ⟨a, r3, _, _, rfl, .inr ⟨SqT.same sm3 hT2, at3, fun D3 hD3 => ?_⟩⟩
              refine lc_it (walk_zipT (xs := xs) (ys := xs.drop 1) (n := xs.length - 1) (by rw [List.length_drop]; omega)) (fun i H' => H' D3 = some (.lst (((List.range i).map fun j => ascAt ws j).map V.bl)) ∧ Same H3 H') ⟨upd_same, same_upd hD3⟩
                (fun i H' _ z => ⟨SqT.same z.2 (SqT.same sm3 hT2), SqT.same z.2 at3⟩) ?_ ?_
              · rintro i x H4 H5 hi ⟨e4, sm4⟩ ⟨t, x0, y0, rfl, ht, rfl, hx0, hy0⟩
                have hy0' : xs[i + 1]? = some y0 := by
                  have z : (xs.drop 1)[i]? = some y0 := hy0
                  rw [List.getElem?_drop, Nat.add_comm] at z
                  exact z
                obtain ⟨t1, p1, rfl, hp1, hs1⟩ := steps_at hal2 hx0
                obtain ⟨t2, p2, rfl, hp2, hs2⟩ := steps_at hal2 hy0'
                have s5 := (sm3.trans sm4).trans (same_upd (o := .tup [V.ref t1, V.ref t2]) ht)
                have v1 := SqT.same s5 hs1
                have v2 := SqT.same s5 hs2
                have eb : ascAt ws i = (decide (p1.1 < p2.1) && decide (p1.2 < p2.2)) := by
                  unfold ascAt
                  rw [hp1, hp2]
                have fin : ∀ b : Bool, b = ascAt ws i → ∃ acc, (upd H4 t (.tup [V.ref t1, V.ref t2])) D3 = some (.lst acc) ∧ acc.length < sizeLine ∧ ((upd (upd H4 t (.tup [V.ref t1, V.ref t2])) D3 (.lst (acc ++ [V.bl b]))) D3 = some (.lst (((List.range (i + 1)).map fun j => ascAt ws j).map V.bl)) ∧ Same H3 (upd (upd H4 t (.tup [V.ref t1, V.ref t2])) D3 (.lst (acc ++ [V.bl b])))) := by
                  rintro b rfl
                  have nt : D3 ≠ t := ne_of_none e4 ht
                  refine ⟨_, Eq.trans (upd_ne nt) e4, small13 (by rw [List.length_map, List.length_map, List.length_range]; omega), ?_, fun b o z => ?_⟩
                  · rw [upd_same, List.range_succ, List.map_append, List.map_append]
                    rfl
                  · rw [upd_ne (ne_of_none z hD3), upd_ne (ne_of_none (sm4 b o z) ht)]
                    exact sm4 b o z
                refine ⟨t, _, rfl, SqT.of upd_same, rfl, _, _, rfl, _, _, rfl, rfl, rfl, ?_⟩
                refine ⟨_, rfl, t1, _, _, _, rfl, rfl, v1, at_of (j := 0) rfl rfl, _, rfl, t2, _, _, _, rfl, rfl, v2, at_of (j := 0) rfl rfl, _, _, rfl, rfl, _, rfl, ?_⟩
                by_cases d1 : p1.1 < p2.1
                · refine ite2 (fun _ => ?_) (fun z => absurd (decide_eq_true d1) z)
                  refine ⟨_, rfl, t1, _, _, _, rfl, rfl, v1, at_of (j := 1) rfl rfl, _, rfl, t2, _, _, _, rfl, rfl, v2, at_of (j := 1) rfl rfl, _, _, rfl, rfl, fin _ ?_⟩
                  rw [eb, decide_eq_true d1, Bool.true_and]
                · refine ite2 (fun z => absurd (of_decide_eq_true z) d1) (fun _ => fin false ?_)
                  rw [eb, decide_eq_false d1, Bool.false_and]
              · rintro H4 ⟨e4, sm4⟩
                refine ⟨D3, (List.range (xs.length - 1)).map fun j => ascAt ws j, rfl, SqL.of e4, ?_⟩
                have ea2 : ((List.range (xs.length - 1)).map fun j => ascAt ws j).all _root_.id = ascB ws := by
                  rw [List.all_map, hlen, ← wl]
                  rfl
                rw [ea2]
                exact ew H4 ((s2.trans sm3).trans sm4)
        · refine ite2 (fun _ => ?_) (fun z => absurd (congrArg (fun c => !c) (decide_eq_false (show ¬ ((xs.length : Nat) : Int) ≤ 12 by omega))) z)
          have q := k H (Same.refl _)
          have e : wishD (.tuple ds) = false := by
            show (decide (1 ≤ ds.length) && (decide (ds.length ≤ 12) && ((ds.all fun d => (stepD d).isSome) && ascB (ds.filterMap stepD)))) = false
            rw [decide_eq_false c2, Bool.false_and, Bool.and_false]
          rw [e] at q
          exact q
      · refine ite2 (fun z => absurd (of_decide_eq_true z) (by omega)) (fun _ => ?_)
        have q := k H (Same.refl _)
        have e : wishD (.tuple ds) = false := by
          show (decide (1 ≤ ds.length) && (decide (ds.length ≤ 12) && ((ds.all fun d => (stepD d).isSome) && ascB (ds.filterMap stepD)))) = false
          rw [decide_eq_false c1, Bool.false_and]
        rw [e] at q
        exact ⟨_, rfl, ite2 (fun _ => q) (fun z => absurd rfl z)⟩
    | int i => exact ⟨_, rfl, _, _, _, _, false, rfl, .ty _, .base (.int i), kit_ty (by decide +kernel), _, rfl, ite2 (fun _ => k H (Same.refl _)) (fun z => absurd rfl z)⟩
    | bl b => exact ⟨_, rfl, _, _, _, _, false, rfl, .ty _, .base (.bl b), kit_ty (by decide +kernel), _, rfl, ite2 (fun _ => k H (Same.refl _)) (fun z => absurd rfl z)⟩
    | non => exact ⟨_, rfl, _, _, _, _, false, rfl, .ty _, .base .non, kit_ty (by decide +kernel), _, rfl, ite2 (fun _ => k H (Same.refl _)) (fun z => absurd rfl z)⟩
    | str x => exact ⟨_, rfl, _, _, _, _, false, rfl, .ty _, .base (.str x), kit_ty (by decide +kernel), _, rfl, ite2 (fun _ => k H (Same.refl _)) (fun z => absurd rfl z)⟩
    | lst e n a => exact ⟨_, rfl, _, _, _, _, false, rfl, .ty _, .base (.lst e), kit_ty (by decide +kernel), _, rfl, ite2 (fun _ => k H (Same.refl _)) (fun z => absurd rfl z)⟩
    | dct e n a => exact ⟨_, rfl, _, _, _, _, false, rfl, .ty _, .base (.dK e), kit_ty (by decide +kernel), _, rfl, ite2 (fun _ => k H (Same.refl _)) (fun z => absurd rfl z)⟩
end
abbrev s_law_rule : Stmt := (top 50)
abbrev N_law_rule : List Str := ["_law_pool_here", "_law_top", "_law_upto"]
theorem sc_law_rule : FnScope N_law_rule ["_law_pool_here", "_law_top", "_law_upto"] (defScope s_law_rule) :=
  ⟨rfl, rfl, rfl, by decide +kernel, rfl, by decide +kernel, by decide +kernel⟩
def spRuleL (C : Addr) : Sp := fun vs H Q _ => ∃ (a : Addr) (n : Nat) (top upto : Int), vs = [.ref a, .int top, .int upto] ∧ PotAt H a n ∧ n < 500000 ∧ 0 ≤ top ∧ top ≤ 10 ^ 18 ∧ 1 ≤ upto ∧ upto ≤ 40 ∧
  ∀ (r : Addr) (ls : List (Option Int)) (H' : Hp), RuleAt C H' r (short ls) → Good ls → (ls.length : Int) ≤ upto → PotAt H' a (n + 200) → But a H H' → Q (.ref r) H'
section
variable {P : Program} {w : World} {K : PySem.W.Frag} {mg : Str → Option Value} {base : Heap} {C CR : Addr} {mc : Value} {fInit pAre fAre pOf fOf : Addr} {fdAre : FuncData}
theorem ok_ruleL (D : Df K mg "_law_rule" s_law_rule ["_law_pool_here", "_law_top", "_law_upto"]) (T : Bl mg) (R : RuleT K mg C CR mc fInit pAre fAre fdAre) (MOf : ClX.CMet K C mc "of" pOf fOf) (G_of : FnR P w K mg base CX0 5 fOf (spOf K C)) (C_law_lives : Has P w K mg base 3 "_law_lives" ["_law_pool_here", "_law_top", "_law_upto"] spLives) : Has P w K mg base 6 "_law_rule" ["_law_pool_here", "_law_top", "_law_upto"] (spRuleL C) := by
  refine D.has sc_law_rule (fun vs H Q E h => ?_) (fun f cdv A outer s H vs Q E gd hr h => ?_)
  · obtain ⟨a, n, top, upto, rfl, _⟩ := h
    rfl
  · obtain ⟨a, n, top, upto, rfl, hp, hn, t0, t1, u0, u1, k⟩ := h
    refine ⟨_, (pss_one (ps_ret (ClX.pe_cmeth (pe_glob (v := .ref C) rfl R.m_Rule rfl) R.rd MOf G_of (hr.mono (by decide)) pass0 (pa_cons (pe_has C_law_lives gd (hr.mono (by decide)) rfl (pa_cons (pv 0) (pa_cons (pv 1) (pa_cons (pv 2) pa_nil)))) pa_nil)))), ?_⟩
    refine ⟨rfl, _, rfl, _, rfl, _, rfl, a, n, top, upto, rfl, hp, hn, t0, t1, u0, u1, fun S ls H1 nS eS g len p1 b1 => ⟨S, ls, rfl, SqT.of eS, g, fun r H2 s2 ra => ?_⟩⟩
    exact k r ls H2 ra g len (p1.same s2) (b1.trans (But.of s2))
end
/-! SPLIT -/
/-- what a rule promises, its steps without an end at 10 ** 18 -/
def pvO (p : Option Int × Int) : Int × Int := (p.1.getD (10 ^ 18), p.2)
structure PrOk (i : Nat) (r : Int) (ps : List (Option Int × Int)) : Prop where
  each : ∀ p ∈ ps, r < p.1.getD (10 ^ 18) ∧ p.1.getD (10 ^ 18) ≤ 10 ^ 18 ∧ 2 ^ i - 1 ≤ p.2 ∧ (∀ a, p.1 = some a → a < 10 ^ 18)
  asc : ps.Pairwise fun p q => p.1 ≠ none ∧ p.1.getD (10 ^ 18) < q.1.getD (10 ^ 18) ∧ p.2 < q.2
theorem prom_ok : ∀ (ls : List (Option Int)) (i : Nat) (r : Int), r < 10 ^ 18 → (∀ x ∈ ls, ∀ v, x = some v → v ≤ 10 ^ 18) → PrOk i r (prom i (some r) ls)
  | [], _, _, _, _ => ⟨(fun p h => nomatch h), List.Pairwise.nil⟩
  | x :: is, i, r, hr, hb => by
    have e : prom i (some r) (x :: is) = if leO (offO i x) (some r) = true then prom (i + 1) (some r) is else (offO i x, 2 ^ i - 1) :: prom (i + 1) (offO i x) is := rfl
    have p2 : (2 : Int) ^ (i + 1) = 2 ^ i * 2 := Int.pow_succ _ _
    have p0 := pow2_pos i
    have hb' : ∀ y ∈ is, ∀ v, y = some v → v ≤ 10 ^ 18 := fun y hy => hb y (List.mem_cons_of_mem _ hy)
    rw [e]
    by_cases c : leO (offO i x) (some r) = true
    · rw [if_pos c]
      obtain ⟨a, b⟩ := prom_ok is (i + 1) r hr hb'
      exact ⟨fun p hp => by have := a p hp; exact ⟨this.1, this.2.1, by omega, this.2.2.2⟩, b⟩
    · rw [if_neg c]
      cases x with
      | none =>
        have eo : offO i none = none := rfl
        rw [eo, prom_none]
        refine ⟨fun p hp => ?_, List.pairwise_cons.mpr ⟨(fun q hq => nomatch hq), List.Pairwise.nil⟩⟩
        rw [List.mem_singleton.mp hp]
        exact ⟨hr, Int.le_refl _, Int.le_refl _, fun a z => nomatch z⟩
      | some v =>
        have eo : offO i (some v) = some (v - 2 ^ i) := rfl
        rw [eo] at c ⊢
        have c' : ¬ v - 2 ^ i ≤ r := fun z => c (decide_eq_true z)
        have hv := hb (some v) List.mem_cons_self v rfl
        obtain ⟨a, b⟩ := prom_ok is (i + 1) (v - 2 ^ i) (by omega) hb'
        refine ⟨fun p hp => ?_, List.pairwise_cons.mpr ⟨fun q hq => ?_, b⟩⟩
        · rcases List.mem_cons.mp hp with rfl | hp
          · exact ⟨by show r < v - 2 ^ i; omega, by show v - 2 ^ i ≤ 10 ^ 18; omega, Int.le_refl _, fun a z => by have := Option.some.inj z; omega⟩
          · have := a p hp
            exact ⟨by omega, this.2.1, by omega, this.2.2.2⟩
        · have := a q hq
          exact ⟨(fun z => nomatch z), this.1, by show 2 ^ i - 1 < q.2; omega⟩
theorem rch_mid {w : Int} : ∀ (ps : List (Option Int × Int)) (r : Option Int) (k : Nat) (p : Option Int × Int), (ps.Pairwise fun p q => p.2 < q.2) → ps[k]? = some p → p.2 ≤ w → (∀ q, ps[k + 1]? = some q → w < q.2) → rch w ps r = p.1
  | [], _, _, _, _, h, _, _ => by simp at h
  | h :: t, r, 0, p, asc, hk, hp, hq => by
    obtain rfl : h = p := Option.some.inj hk
    show rch w t (if h.2 ≤ w then h.1 else r) = h.1
    rw [if_pos hp]
    refine rch_stay t _ fun q hm => ?_
    cases t with
    | nil => cases hm
    | cons x t =>
      have wx := hq x rfl
      rcases List.mem_cons.mp hm with rfl | hm
      · exact wx
      · have := (List.pairwise_cons.mp (List.pairwise_cons.mp asc).2).1 q hm
        omega
  | h :: t, r, k + 1, p, asc, hk, hp, hq => rch_mid t _ k p (List.pairwise_cons.mp asc).2 hk hp hq
theorem fb_at {ls : List (Option Int)} {q : Int × Int} {b0 : Int} {post : List (Int × Int)} (hr : reachO ls q.2 = some (b0 - 1)) (hb : b0 ≤ q.1) : ∀ {pre : List (Int × Int)}, (∀ p ∈ pre, okAt ls p = true ∧ 0 ≤ p.1 ∧ 0 ≤ p.2) → fbL ls (pre ++ [q] ++ post) = some b0
  | [], _ => by
    show (if leO ((reachO ls q.2).map (· + 1)) (some q.1) = true then (reachO ls q.2).map (· + 1) else fbL ls post) = some b0
    rw [hr]
    show (if leO (some (b0 - 1 + 1)) (some q.1) = true then some (b0 - 1 + 1) else fbL ls post) = some b0
    rw [show b0 - 1 + 1 = b0 by omega, if_pos (show leO (some b0) (some q.1) = true from decide_eq_true hb)]
  | p :: pre, h => by
    obtain ⟨o, p1, p2⟩ := h p List.mem_cons_self
    show (if leO ((reachO ls p.2).map (· + 1)) (some p.1) = true then (reachO ls p.2).map (· + 1) else fbL ls (pre ++ [q] ++ post)) = some b0
    have e : leO (some p.1) (reachO ls p.2) = true := by rw [← reach_ok p2 p1]; exact o
    rw [if_neg (fun z => by have := fb_head.mp z; rw [e] at this; cases this)]
    exact fb_at hr hb fun x hx => h x (List.mem_cons_of_mem _ hx)
/-- what a law asks of a rule's promises -/
structure ProS (ls : List (Option Int)) (ws : List (Int × Int)) : Prop where
  wok : ws ≠ [] → WOk ws
  ok : ∀ p ∈ ws, okAt ls p = true
  less : ∀ (k : Nat) (p : Int × Int), ws[k]? = some p → 0 ≤ p.2 - 1 → reachO ls (p.2 - 1) = some ((if k = 0 then 0 else (ws.getD (k - 1) (0, 0)).1 + 1) - 1) ∧ (if k = 0 then 0 else (ws.getD (k - 1) (0, 0)).1 + 1) ≤ p.1
  more : ∀ (k : Nat) (p : Int × Int), ws[k]? = some p → p.1 + 1 ≤ 10 ^ 18 → reachO ls p.2 = some (p.1 + 1 - 1)
theorem pro_s {ls : List (Option Int)} (hb : ∀ x ∈ ls, ∀ v, x = some v → v ≤ 10 ^ 18) (hl : ls.length ≤ 12) (h2 : ∀ p ∈ prom 0 (some (-1)) ls, p.2 ≤ 10 ^ 18) : ProS ls ((prom 0 (some (-1)) ls).map pvO) := by
  obtain ⟨e, asc⟩ := prom_ok ls 0 (-1) (by decide) hb
  have pl := prom_len ls 0 (some (-1))
  have ascw : (prom 0 (some (-1)) ls).Pairwise fun p q => p.2 < q.2 := asc.imp fun h => h.2.2
  have rd : ∀ w, reachO ls w = rch w (prom 0 (some (-1)) ls) (some (-1)) := fun _ => rfl
  generalize prom 0 (some (-1)) ls = ps at *
  have pv : ∀ {k : Nat} {q : Int × Int}, (ps.map pvO)[k]? = some q → ∃ p, ps[k]? = some p ∧ q = pvO p := fun {k q} h => by
    rw [List.getElem?_map] at h
    obtain ⟨p, hp, e⟩ := Option.map_eq_some_iff.mp h
    exact ⟨p, hp, e.symm⟩
  have at_ : ∀ {k : Nat} {p : Option Int × Int}, ps[k]? = some p → reachO ls p.2 = p.1 := fun {k p} h => by
    rw [rd]
    refine rch_mid ps _ k p ascw h (Int.le_refl _) fun q hq => ?_
    obtain ⟨a1, a2⟩ := List.getElem?_eq_some_iff.mp h
    obtain ⟨b1, b2⟩ := List.getElem?_eq_some_iff.mp hq
    have := List.pairwise_iff_getElem.mp ascw k (k + 1) a1 b1 (by omega)
    rw [a2, b2] at this
    exact this
  refine ⟨fun hn => ⟨fun q hq => ?_, ?_, List.length_pos_iff.mpr hn, by rw [List.length_map]; omega⟩, fun q hq => ?_, fun k q hq q0 => ?_, fun k q hq q1 => ?_⟩
  · obtain ⟨p, hp, rfl⟩ := List.mem_map.mp hq
    have := e p hp
    have h3 := h2 p hp
    have p0 := pow2_pos 0
    exact ⟨by show 0 ≤ p.1.getD _; omega, this.2.1, by show 0 ≤ p.2; omega, h3⟩
  · exact List.pairwise_map.mpr (asc.imp fun h => h.2)
  · obtain ⟨p, hp, rfl⟩ := List.mem_map.mp hq
    have ep := e p hp
    have p0 := pow2_pos 0
    obtain ⟨k, hk⟩ := List.mem_iff_getElem?.mp hp
    unfold okAt
    show leO (due 0 ls (p.1.getD (10 ^ 18))) (some p.2) = true
    rw [reach_ok (by omega) (by omega), at_ hk]
    cases p.1 with
    | none => rfl
    | some a => exact leO_refl _
  · obtain ⟨p, hp, rfl⟩ := pv hq
    have ep := e p (List.mem_of_getElem? hp)
    cases k with
    | zero =>
      refine ⟨?_, ?_⟩
      · rw [rd, if_pos rfl]
        refine rch_stay ps _ fun x hx => ?_
        show (pvO p).2 - 1 < x.2
        have : p.2 ≤ x.2 := by
          cases ps with
          | nil => cases hp
          | cons y t =>
            obtain rfl : y = p := Option.some.inj hp
            rcases List.mem_cons.mp hx with rfl | hx
            · exact Int.le_refl _
            · exact Int.le_of_lt ((List.pairwise_cons.mp ascw).1 x hx)
        show p.2 - 1 < x.2
        omega
      · rw [if_pos rfl]
        show 0 ≤ p.1.getD _
        omega
    | succ k =>
      have kl := (List.getElem?_eq_some_iff.mp hp).1
      have hx := List.getElem?_eq_getElem (show k < ps.length by omega)
      obtain ⟨x, ex⟩ : ∃ x, x = ps[k]'(by omega) := ⟨_, rfl⟩
      rw [← ex] at hx
      have xp : x.1 ≠ none ∧ x.1.getD (10 ^ 18) < p.1.getD (10 ^ 18) ∧ x.2 < p.2 := by
        obtain ⟨a1, a2⟩ := List.getElem?_eq_some_iff.mp hx
        obtain ⟨b1, b2⟩ := List.getElem?_eq_some_iff.mp hp
        have := List.pairwise_iff_getElem.mp asc k (k + 1) a1 b1 (by omega)
        rw [a2, b2] at this
        exact this
      have eg : ((ps.map pvO).getD (k + 1 - 1) (0, 0)).1 = x.1.getD (10 ^ 18) := by
        rw [Nat.add_sub_cancel, List.getD_eq_getElem?_getD, List.getElem?_map, hx]
        rfl
      rw [if_neg (by omega), eg]
      refine ⟨?_, ?_⟩
      · rw [rd]
        rw [rch_mid ps _ k x ascw hx (by show x.2 ≤ p.2 - 1; omega) (fun q hq => by
          rw [hp] at hq
          obtain rfl := Option.some.inj hq
          show p.2 - 1 < p.2
          omega)]
        cases z : x.1 with
        | none => exact absurd z xp.1
        | some a =>
          show some a = some (a + 1 - 1)
          rw [show a + 1 - 1 = a by omega]
      · show x.1.getD (10 ^ 18) + 1 ≤ p.1.getD _
        omega
  · obtain ⟨p, hp, rfl⟩ := pv hq
    have q1' : p.1.getD (10 ^ 18) + 1 ≤ 10 ^ 18 := q1
    show reachO ls p.2 = some (p.1.getD (10 ^ 18) + 1 - 1)
    rw [at_ hp]
    cases z : p.1 with
    | none =>
      rw [z] at q1'
      have : (10 : Int) ^ 18 + 1 ≤ 10 ^ 18 := q1'
      omega
    | some a =>
      show some a = some (a + 1 - 1)
      rw [show a + 1 - 1 = a by omega]
theorem asc_pair : ∀ ws : List (Int × Int), (∀ i p q, ws[i]? = some p → ws[i + 1]? = some q → p.1 < q.1 ∧ p.2 < q.2) → ws.Pairwise fun p q => p.1 < q.1 ∧ p.2 < q.2
  | [], _ => List.Pairwise.nil
  | [_], _ => List.pairwise_cons.mpr ⟨(fun q hq => nomatch hq), List.Pairwise.nil⟩
  | p :: h :: t, hs => by
    have ih := asc_pair (h :: t) fun i p q a b => hs (i + 1) p q a b
    have ph := hs 0 p h rfl rfl
    refine List.pairwise_cons.mpr ⟨fun q hq => ?_, ih⟩
    rcases List.mem_cons.mp hq with rfl | hq
    · exact ph
    · have := (List.pairwise_cons.mp ih).1 q hq
      omega
theorem steps_filter : ∀ ws : List (Int × Int), (ws.map stD).all (fun d => (stepD d).isSome) = true → (ws.map stD).filterMap stepD = ws ∧ ∀ p ∈ ws, 0 ≤ p.1 ∧ 0 ≤ p.2 ∧ p.1 ≤ 10 ^ 18 ∧ p.2 ≤ 10 ^ 18
  | [], _ => ⟨rfl, fun p h => nomatch h⟩
  | p :: t, h => by
    rw [List.map_cons, List.all_cons, Bool.and_eq_true] at h
    obtain ⟨a, b⟩ := steps_filter t h.2
    have e : stepD (stD p) = if 0 ≤ p.1 ∧ 0 ≤ p.2 ∧ p.1 ≤ 10 ^ 18 ∧ p.2 ≤ 10 ^ 18 then some (p.1, p.2) else none := stepD_int _ _
    by_cases c : 0 ≤ p.1 ∧ 0 ≤ p.2 ∧ p.1 ≤ 10 ^ 18 ∧ p.2 ≤ 10 ^ 18
    · rw [if_pos c] at e
      refine ⟨by rw [List.map_cons, List.filterMap_cons, e, a], fun q hq => ?_⟩
      rcases List.mem_cons.mp hq with rfl | hq
      · exact c
      · exact b q hq
    · rw [e, if_neg c] at h
      cases h.1
theorem wish_wok {ws : List (Int × Int)} (h : wishD (.tuple (ws.map stD)) = true) : WOk ws := by
  have h' : (decide (1 ≤ (ws.map stD).length) && (decide ((ws.map stD).length ≤ 12) && ((ws.map stD).all (fun d => (stepD d).isSome) && ascB ((ws.map stD).filterMap stepD)))) = true := h
  rw [Bool.and_eq_true, Bool.and_eq_true, Bool.and_eq_true] at h'
  obtain ⟨h1, h2, h3, h4⟩ := h'
  obtain ⟨a, b⟩ := steps_filter ws h3
  rw [a] at h4
  have h1' := of_decide_eq_true h1
  have h2' := of_decide_eq_true h2
  rw [List.length_map] at h1' h2'
  refine ⟨fun p hp => by have := b p hp; exact ⟨this.1, this.2.2.1, this.2.1, this.2.2.2⟩, asc_pair ws fun i p q hp hq => ?_, h1', h2'⟩
  have il := (List.getElem?_eq_some_iff.mp hq).1
  have z := List.all_eq_true.mp h4 i (List.mem_range.mpr (by omega))
  unfold ascAt at z
  rw [hp, hq] at z
  have z' : (decide (p.1 < q.1) && decide (p.2 < q.2)) = true := z
  rw [Bool.and_eq_true] at z'
  exact ⟨of_decide_eq_true z'.1, of_decide_eq_true z'.2⟩
theorem dq_steps {K : PySem.W.Frag} {ex : List Addr} {H : Hp} : ∀ {xs : List V} {ws : List (Int × Int)}, TAt H xs (ws.map wV) → DqAll K ex H xs (ws.map stD)
  | [], [], _ => .nil
  | _ :: _, _ :: _, ⟨⟨t, e, ht⟩, h⟩ => by
    rw [e]
    exact .cons (.tup (SqT.of ht) (.cons (.int _) (.cons (.int _) .nil))) (dq_steps h)
  | [], _ :: _, h => h.elim
  | _ :: _, [], h => h.elim
theorem wt_fact {ls : List (Option Int)} (g : Good ls) {b : Int} (hb : 0 ≤ b) : b ≤ wtO ls b ∧ distO ls (wtO ls b) b = due 0 ls b := by
  have hm := g.most
  unfold wtO
  rw [due_idx]
  cases e : idx 0 ls b with
  | none =>
    have h := dist_none g hb e
    have p := pow2_pos (ls.length - 1)
    refine ⟨?_, ?_⟩
    · show b ≤ b + (2 ^ (ls.length - 1) - 1)
      omega
    · show distO ls (b + (2 ^ (ls.length - 1) - 1)) b = none
      rw [show b + ((2 : Int) ^ (ls.length - 1) - 1) = b + 2 ^ (ls.length - 1) - 1 by omega]
      exact h
  | some j =>
    have h := dist_at g hb e
    have p := pow2_pos j
    refine ⟨?_, ?_⟩
    · show b ≤ b + (2 ^ j - 1)
      omega
    · show distO ls (b + (2 ^ j - 1)) b = some (2 ^ j - 1)
      rw [show b + ((2 : Int) ^ j - 1) = b + 2 ^ j - 1 by omega]
      exact h
/-! SPLIT -/
theorem seq_if {A : TT} {B U : TS} {D : Ends} {σ : L2.St} {H : Hp} (rest : ∀ H', Same H H' → U D σ H') (h : ∀ k' : Bool → Hp → Prop, (∀ H', Same H H' → k' false H') → A σ H k') : tSeq (tIfS A B tNext) U D σ H :=
  h (fun b H1 => if b = true then B { D with nx := U D } σ H1 else tNext { D with nx := U D } σ H1) fun H' s' => ite2 (fun z => absurd z (by decide)) (fun _ => rest H' s')
theorem seq_ifP {A : TT} {B U : TS} {D : Ends} {σ : L2.St} {H : Hp} (R : Hp → Prop) (rest : ∀ H', R H' → U D σ H') (h : ∀ k' : Bool → Hp → Prop, (∀ H', R H' → k' false H') → A σ H k') : tSeq (tIfS A B tNext) U D σ H :=
  h (fun b H1 => if b = true then B { D with nx := U D } σ H1 else tNext { D with nx := U D } σ H1) fun H' s' => ite2 (fun z => absurd z (by decide)) (fun _ => rest H' s')
theorem if_end {A : TT} {B : TS} {D : Ends} {σ : L2.St} {H : Hp} (rest : ∀ H', Same H H' → D.nx σ H') (h : ∀ k' : Bool → Hp → Prop, (∀ H', Same H H' → k' false H') → A σ H k') : tIfS A B tNext D σ H :=
  h (fun b H1 => if b = true then B D σ H1 else tNext D σ H1) fun H' s' => ite2 (fun z => absurd z (by decide)) (fun _ => rest H' s')
theorem or_first2 {A B : TT} {σ : L2.St} {H : Hp} {k : Bool → Hp → Prop} (hB : ∀ H', Same H H' → B σ H' k) (h : ∀ k' : Bool → Hp → Prop, (∀ H', Same H H' → k' false H') → A σ H k') : tOr A B σ H k :=
  h (fun b H1 => if b = true then k true H1 else B σ H1 k) fun H' s' => ite2 (fun z => absurd z (by decide)) (fun _ => hB H' s')
theorem all_yes {α : Type} (xs : List α) : (xs.map fun _ => true).all _root_.id = true := List.all_eq_true.mpr fun x hx => by
  obtain ⟨_, _, rfl⟩ := List.mem_map.mp hx
  rfl
theorem ne_no {x y : Int} (h : x = y) : (!decide (V.int x = V.int y)) = false := by
  subst h
  simp
theorem seq_ways {A : TT} {B U : TS} {D : Ends} {σ : L2.St} {H : Hp} (R : L2.St → Hp → Prop) (h : ∀ D' : Ends, (∀ σ' H', R σ' H' → D'.nx σ' H') → tIfS A B tNext D' σ H) (rest : ∀ σ' H', R σ' H' → U D σ' H') : tSeq (tIfS A B tNext) U D σ H := h { D with nx := U D } rest
abbrev s_law_is_broken_at : Stmt := (top 52)
abbrev N_law_is_broken_at : List Str := ["_law_rule_now", "_law_wanted", "_law_old", "_law_told"]
theorem sc_law_is_broken_at : FnScope N_law_is_broken_at ["_law_rule_now", "_law_wanted", "_law_old"] (defScope s_law_is_broken_at) :=
  ⟨rfl, rfl, rfl, by decide +kernel, rfl, by decide +kernel, by decide +kernel⟩
def spBrokenAt (C : Addr) : Sp := fun vs H Q _ => ∃ (r W : Addr) (ls : List (Option Int)) (xs : List V) (ws : List (Int × Int)) (b : Int), vs = [.ref r, .ref W, .int b] ∧ RuleAt C H r ls ∧ Good ls ∧ H W = some (.tup xs) ∧ TAt H xs (ws.map wV) ∧ (WOk ws → fbL ls ws = some b) ∧ ∀ H', Same H H' → Q (.bl true) H'
section
variable {P : Program} {w : World} {K : PySem.W.Frag} {mg : Str → Option Value} {base : Heap} {C CR : Addr} {mc : Value}
theorem ok_brokenAt (D : Df K mg "_law_is_broken_at" s_law_is_broken_at ["_law_rule_now", "_law_wanted", "_law_old"]) (C_is_wish : HasO P w K mg base 4 "is_wish" ["value"] (spWishQ K)) (C_first_broken : HasO P w K mg base 5 "first_broken" ["rule", "wish"] (spFirst C)) (C_meets : HasO P w K mg base 4 "meets" ["rule", "wish"] (spMeets C)) (C_shows_broken : HasO P w K mg base 6 "shows_broken" ["rule", "wish", "value"] (spShowsB K C)) : Has P w K mg base 7 "_law_is_broken_at" ["_law_rule_now", "_law_wanted", "_law_old"] (spBrokenAt C) := by
  refine D.has sc_law_is_broken_at (fun vs H Q E h => ?_) (fun f cdv A outer s H vs Q E gd hr h => ?_)
  · obtain ⟨r, W, ls, xs, ws, b, rfl, _⟩ := h
    rfl
  · obtain ⟨r, W, ls, xs, ws, b, rfl, ra, g, eW, tw, fb, k⟩ := h
    refine ⟨_, (pss_cons (ps_if (pt_not (pt_val (pe_hasO C_is_wish (hr.mono (by decide)) rfl (pa_cons (pv 1) pa_nil)))) (pss_one (ps_ret pe_bl)) pss_nil)
      (pss_cons (ps_set (i := 3) sc_law_is_broken_at.nd rfl (Or.inl rfl) (pe_hasO C_first_broken (hr.mono (by decide)) rfl (pa_cons (pv 0) (pa_cons (pv 1) pa_nil))))
      (pss_cons (ps_if (PW.pt (pw_or (pt_val (pe_hasO C_meets (hr.mono (by decide)) rfl (pa_cons (pv 0) (pa_cons (pv 1) pa_nil)))) (pw_or (pt_cmpR op_isN (pv 3) pe_non (nomark _)) (pw_or1 (pt_cmpR op_ne (pe_ix ix_tup (pv 3) pe_int (fun _ _ => rfl)) (pv 2) (nomark _)))))) (pss_one (ps_ret pe_bl)) pss_nil)
      (pss_one (ps_ret (pe_cmpR op_isBl (pe_hasO C_shows_broken (hr.mono (by decide)) rfl (pa_cons (pv 0) (pa_cons (pv 1) (pa_cons (pv 3) pa_nil)))) pe_bl (nomark _))))))), ?_⟩
    refine ⟨_, rfl, [], .ref W, .tuple (ws.map stD), rfl, .tup (SqT.of eW) (dq_steps tw), fun H1 s1 => ?_⟩
    cases hw : wishD (.tuple (ws.map stD)) with
    | false => exact ⟨_, rfl, ite2 (fun _ => k _ s1) (fun z => absurd rfl z)⟩
    | true =>
      refine ⟨_, rfl, ite2 (fun z => absurd z (by decide)) (fun _ => ?_)⟩
      have wo := wish_wok hw
      have e := fb wo
      have nn : ∀ p ∈ ws, 0 ≤ p.1 ∧ 0 ≤ p.2 := fun p hp => ⟨(wo.bd p hp).1, (wo.bd p hp).2.2.1⟩
      obtain ⟨b0, ⟨q, hq, qb, bad⟩, _⟩ := fb_some ws b nn wo.asc e
      obtain ⟨w1, w2⟩ := wt_fact g b0
      have nall : ws.all (okAt ls) = false := by
        cases z : ws.all (okAt ls) with
        | false => rfl
        | true =>
          have := (fb_none (ls := ls) ws nn).mpr z
          rw [e] at this
          cases this
      unfold tNext
      dsimp only
      refine ⟨_, rfl, _, rfl, r, W, ls, xs, ws, rfl, ra.same s1, g.pos, g.most, s1 _ _ eW, tw.same s1, fun z => absurd (e.symm.trans z) (by intro q; cases q), fun b' hb' t H2 s2 et => ?_⟩
      obtain rfl : b = b' := Option.some.inj (e.symm.trans hb')
      refine gN_st (σ' := [some (.ref r), some (.ref W), some (.int b), some (.ref t)]) rfl ?_
      have s12 := s1.trans s2
      dsimp only
      refine seq_if (fun H3 s3 => ?_) (fun k' hk' => ?_)
      rotate_left
      · refine or_first2 (fun HA sA => ?_) (fun k2 hk2 => ?_)
        rotate_left
        · refine ⟨_, rfl, _, rfl, r, W, ls, xs, ws, rfl, ra.same s12, g.most, s12 _ _ eW, tw.same s12, wo.most, fun H3 s3 => ?_⟩
          rw [nall]
          exact ⟨_, rfl, hk2 _ s3⟩
        · refine or_first2 (fun HB sB => ?_) (fun k2 hk2 => ?_)
          rotate_left
          · exact ⟨_, rfl, rfl, _, rfl, hk2 _ (Same.refl _)⟩
          · refine ⟨_, rfl, t, _, _, _, rfl, rfl, SqT.of (sB _ _ (sA _ _ et)), at_of (j := 0) rfl rfl, _, rfl, rfl, _, rfl, ?_⟩
            rw [decide_eq_true rfl]
            exact hk' _ (sA.trans sB)
      have s13 := s12.trans s3
      refine ⟨_, rfl, _, rfl, _, rfl, r, W, t, ls, xs, ws, b, wtO ls b, q, rfl, ra.same s13, g.most, s13 _ _ eW, tw.same s13, wo, SqT.of (s3 _ _ et), b0, w1, hq, fun H4 s4 => ?_⟩
      rw [w2, bad]
      exact ⟨_, _, rfl, rfl, k _ (s13.trans s4)⟩
end
/-! SPLIT -/
abbrev s_law_promise_right : Stmt := (top 53)
abbrev N_law_promise_right : List Str := ["_law_rule_now", "_law_steps_now", "_law_old", "_law_far", "_law_pair", "_law_k", "_law_begin", "_law_sharper", "_law_longer"]
theorem sc_law_promise_right : FnScope N_law_promise_right ["_law_rule_now"] (defScope s_law_promise_right) :=
  ⟨rfl, rfl, rfl, by decide +kernel, rfl, by decide +kernel, by decide +kernel⟩
theorem prom_w : ∀ (ls : List (Option Int)) (i : Nat) (r : Option Int), ∀ p ∈ prom i r ls, p.2 ≤ 2 ^ (i + ls.length) - 1
  | [], _, _, p, hp => nomatch hp
  | l :: t, i, r, p, hp => by
    have h' : p ∈ (if leO (offO i l) r = true then prom (i + 1) r t else (offO i l, 2 ^ i - 1) :: prom (i + 1) (offO i l) t) := hp
    have el : i + (l :: t).length = i + 1 + t.length := by rw [List.length_cons]; omega
    rw [el]
    by_cases c : leO (offO i l) r = true
    · rw [if_pos c] at h'
      exact prom_w t (i + 1) r p h'
    · rw [if_neg c] at h'
      rcases List.mem_cons.mp h' with e | h''
      · rw [e]
        have := pow2_le (show i ≤ i + 1 + t.length by omega)
        show (2 : Int) ^ i - 1 ≤ 2 ^ (i + 1 + t.length) - 1
        omega
      · exact prom_w t (i + 1) _ p h''
theorem pr_zip {H : Hp} {xs : List V} {ps : List (Option Int × Int)} (h : PrAt H xs ps) : (xs.zip ps).map Prod.fst = xs ∧ (xs.zip ps).map Prod.snd = ps ∧ ∀ q ∈ xs.zip ps, ∃ t, q.1 = V.ref t ∧ H t = some (.tup [lv q.2.1, .int q.2.2]) := by
  refine ⟨by rw [List.map_fst_zip (by rw [h.length]; exact Nat.le_refl _)], by rw [List.map_snd_zip (by rw [h.length]; exact Nat.le_refl _)], fun q hq => ?_⟩
  obtain ⟨i, hi⟩ := List.mem_iff_getElem?.mp hq
  rw [List.getElem?_zip_eq_some] at hi
  obtain ⟨t, p, e1, e2, e3⟩ := h.get hi.1
  rw [hi.2] at e2
  obtain rfl := Option.some.inj e2
  exact ⟨t, e1, e3⟩
theorem upd_step {H : Hp} {xs : List V} {ws : List (Int × Int)} {i : Nat} {q : Addr} {b : Int × Int} (ta : TAt H xs (ws.map wV)) (eq : H q = some (.tup [.int b.1, .int b.2])) : TAt H (xs.take i ++ [V.ref q] ++ xs.drop (i + 1)) ((ws.take i ++ [b] ++ ws.drop (i + 1)).map wV) := by
  rw [List.map_append, List.map_append, List.map_take, List.map_drop]
  exact TAt.app (TAt.app (ta.take i) (show TAt H [V.ref q] [wV b] from ⟨⟨q, rfl, eq⟩, trivial⟩)) (TAt.drop (i + 1) ta)
def spPromR (C : Addr) : Sp := fun vs H Q _ => ∃ (r : Addr) (ls : List (Option Int)), vs = [.ref r] ∧ RuleAt C H r ls ∧ Good ls ∧ ls.length ≤ 12 ∧ ∀ H', Same H H' → Q (.bl true) H'
section
variable {P : Program} {w : World} {K : PySem.W.Frag} {mg : Str → Option Value} {base : Heap} {C CR : Addr} {mc : Value}
theorem ok_promR (D : Df K mg "_law_promise_right" s_law_promise_right ["_law_rule_now"]) (T : Bl mg) (C_promised : HasO P w K mg base 3 "promised" ["rule"] (spPromised C)) (C_meets : HasO P w K mg base 4 "meets" ["rule", "wish"] (spMeets C)) (C_first_broken : HasO P w K mg base 5 "first_broken" ["rule", "wish"] (spFirst C)) (C_law_is_broken_at : Has P w K mg base 7 "_law_is_broken_at" ["_law_rule_now", "_law_wanted", "_law_old"] (spBrokenAt C)) : Has P w K mg base 8 "_law_promise_right" ["_law_rule_now"] (spPromR C) := by
  refine D.has sc_law_promise_right (fun vs H Q E h => ?_) (fun f cdv A outer s H vs Q E gd hr h => ?_)
  · obtain ⟨r, ls, rfl, _⟩ := h
    rfl
  · obtain ⟨r, ls, rfl, ra, g, l12, k⟩ := h
    refine ⟨_, (pss_cons (ps_setLc (i := 1) (own := [("_law_old", 2), ("_law_far", 3)]) (g := gTup _ 2 (gCons (gName 2) (gCons (gName 3) (gNil)))) (tt := tYes) rfl sc_law_promise_right.nd rfl rfl (sw_true rfl rfl rfl (by decide +kernel)) (pi_tup (pe_hasO C_promised (hr.mono (by decide)) rfl (pa_cons (pv 0) pa_nil))) (blkOk_by (N := N_law_promise_right) (sc := defScope s_law_promise_right) (by decide +kernel)) (fun _ _ _ _ _ => pg_tup rfl (pgs_cons (pg_name (i := 2) sc_law_promise_right.nd rfl (Or.inl rfl)) (pgs_cons (pg_name (i := 3) sc_law_promise_right.nd rfl (Or.inl rfl)) pgs_nil))) (fun _ _ _ _ _ => pts_nil) (fun _ _ _ _ _ => (pe_tup (pa_cons (pe_ifExp (pt_cmpR op_isN (pv 2) pe_non (nomark _)) (pe_op op_pow pe_int pe_int) (pv 2)) (pa_cons (pv 3) pa_nil)))))
      (pss_cons (ps_set (i := 1) sc_law_promise_right.nd rfl (Or.inl rfl) (pe_slice sl_list (pe_lc (own := [("_law_pair", 4)]) (g := gName 4) rfl sc_law_promise_right.nd (pi_list (pv 1)) (blkOk_by (N := N_law_promise_right) (sc := defScope s_law_promise_right) (by decide +kernel)) (fun _ _ _ _ _ => pg_name (i := 4) sc_law_promise_right.nd rfl (Or.inl rfl)) (fun _ _ _ _ _ => (pts_one (pt_cmpR op_le (pe_callB (cr_maxK (K := K) rfl rfl) (by rfl) T.max (by decide +kernel) (pa_cons (pv 4) pa_nil)) (pe_op op_pow pe_int pe_int) (nomark _)))) (fun _ _ _ _ _ => (pv 4))) po_none (po_some pe_int)))
      (pss_cons (ps_if (pt_cmpR (op_eqD hr.units) (pv 1) (pe_lst pa_nil) (nomark _)) (pss_one (ps_ret pe_bl)) pss_nil)
      (pss_cons (ps_if (PW.pt (pw_or (pt_not (pt_val (pe_hasO C_meets (hr.mono (by decide)) rfl (pa_cons (pv 0) (pa_cons (pe_callTy call_tuple_of (by rfl) T.tuple (by decide +kernel) (pa_cons (pv 1) pa_nil)) pa_nil))))) (pw_or1 (pt_cmpR op_notN (pe_hasO C_first_broken (hr.mono (by decide)) rfl (pa_cons (pv 0) (pa_cons (pe_callTy call_tuple_of (by rfl) T.tuple (by decide +kernel) (pa_cons (pv 1) pa_nil)) pa_nil))) pe_non (nomark _))))) (pss_one (ps_ret pe_bl)) pss_nil)
      (pss_cons (ps_for PassesOwn.never rfl (pi_range1 rfl T.range (pa_cons (pe_callB call_len_seq (by rfl) T.len PySem.boot_len (pa_cons (pv 1) pa_nil)) pa_nil)) (pg_name (i := 5) sc_law_promise_right.nd rfl (Or.inl rfl)) (pss_cons (ps_asg (pe_ix ix_list (pv 1) (pv 5) (fun _ _ => rfl)) (pg_tup rfl (pgs_cons (pg_name (i := 2) sc_law_promise_right.nd rfl (Or.inl rfl)) (pgs_cons (pg_name (i := 3) sc_law_promise_right.nd rfl (Or.inl rfl)) pgs_nil))))
      (pss_cons (ps_set (i := 6) sc_law_promise_right.nd rfl (Or.inl rfl) (pe_ifExp (pt_cmpR op_eq (pv 5) pe_int (nomark _)) pe_int (pe_op op_add (pe_ix ix_tup (pe_ix ix_list (pv 1) (pe_op op_sub (pv 5) pe_int) (fun _ _ => rfl)) pe_int (fun _ _ => rfl)) pe_int)))
      (pss_cons (ps_set (i := 7) sc_law_promise_right.nd rfl (Or.inl rfl) (pe_callTy call_tuple_of (by rfl) T.tuple (by decide +kernel) (pa_cons (pe_op op_cat (pe_op op_cat (pe_slice sl_list (pv 1) po_none (po_some (pv 5))) (pe_lst (pa_cons (pe_tup (pa_cons (pv 2) (pa_cons (pe_op op_sub (pv 3) pe_int) pa_nil))) pa_nil))) (pe_slice sl_list (pv 1) (po_some (pe_op op_add (pv 5) pe_int)) po_none)) pa_nil)))
      (pss_cons (ps_set (i := 8) sc_law_promise_right.nd rfl (Or.inl rfl) (pe_callTy call_tuple_of (by rfl) T.tuple (by decide +kernel) (pa_cons (pe_op op_cat (pe_op op_cat (pe_slice sl_list (pv 1) po_none (po_some (pv 5))) (pe_lst (pa_cons (pe_tup (pa_cons (pe_op op_add (pv 2) pe_int) (pa_cons (pv 3) pa_nil))) pa_nil))) (pe_slice sl_list (pv 1) (po_some (pe_op op_add (pv 5) pe_int)) po_none)) pa_nil)))
      (pss_cons (ps_if (pt_not (pt_val (pe_has C_law_is_broken_at gd (hr.mono (by decide)) rfl (pa_cons (pv 0) (pa_cons (pv 7) (pa_cons (pv 6) pa_nil)))))) (pss_one (ps_ret pe_bl)) pss_nil)
      (pss_one (ps_if (pt_not (pt_val (pe_has C_law_is_broken_at gd (hr.mono (by decide)) rfl (pa_cons (pv 0) (pa_cons (pv 8) (pa_cons (pe_op op_add (pv 2) pe_int) pa_nil)))))) (pss_one (ps_ret pe_bl)) pss_nil))))))))
      (pss_one (ps_ret pe_bl))))))), ?_⟩
    have gp := g.pos
    refine ⟨_, rfl, r, ls, rfl, ra, g.most, fun S xs H1 s1 eS pr => ?_⟩
    have hb : ∀ x ∈ ls, ∀ v, x = some v → v ≤ 10 ^ 18 := fun x hx v e => (g.bd x hx v e).2
    have h2 : ∀ p ∈ prom 0 (some (-1)) ls, p.2 ≤ 10 ^ 18 := fun p hp => by
      have a := prom_w ls 0 (some (-1)) p hp
      have b := pow2_le (show 0 + ls.length ≤ 12 by omega)
      have : (2 : Int) ^ 12 = 4096 := by decide
      omega
    have pS := pro_s hb l12 h2
    have ea := (prom_ok ls 0 (-1) (by decide) hb).each
    have pl := prom_len ls 0 (some (-1))
    generalize prom 0 (some (-1)) ls = ps at *
    obtain ⟨x1, x2, x3⟩ := pr_zip pr
    have xl := pr.length
    refine ⟨S, rfl, ⟨_, SqT.of eS⟩, fun D hD => lc_relTu (ks := xs.zip ps) (f := Prod.fst) (p := fun _ => true) (e := fun q => pvO q.2) (fun H v p => ∃ t, v = V.ref t ∧ H t = some (.tup (wV p))) (fun H H' v p b ⟨r, e, ra⟩ => ⟨r, e, b _ _ ra (fun ps z => by cases z)⟩) hD (SqT.of (by rw [x1]; exact eS)) (by rw [sizeLine_eq, List.length_zip]; omega) (fun q H' hq s2 N Sk hN hS => ?_) (fun H2 us s2 eD rl => ?_)⟩
    · obtain ⟨t, et, ht⟩ := x3 q hq
      obtain ⟨v, o, w⟩ := q
      refine ⟨t, _, et, SqT.of (s2 _ _ ht), rfl, _, _, rfl, _, _, rfl, rfl, rfl, ?_⟩
      unfold tYes
      refine ite2 (fun _ => ?_) (fun z => absurd rfl z)
      cases o with
      | none => exact ⟨_, rfl, rfl, _, rfl, ite2 (fun _ => ⟨_, _, rfl, rfl, ⟨by decide, by decide, by decide⟩, _, rfl, by show 2 ≤ sizeLine; decide, fun T hT => hN _ _ rfl (same_upd hT) ⟨T, rfl, upd_same⟩⟩) (fun z => absurd rfl z)⟩
      | some a => exact ⟨_, rfl, rfl, _, rfl, ite2 (fun z => by have q := of_decide_eq_true z; cases q) (fun _ => ⟨_, rfl, _, rfl, by show 2 ≤ sizeLine; decide, fun T hT => hN _ _ rfl (same_upd hT) ⟨T, rfl, upd_same⟩⟩)⟩
    have ew : ((xs.zip ps).filter fun _ => true).map (fun q => pvO q.2) = ps.map pvO := by
      rw [List.filter_eq_self.mpr (fun _ _ => rfl), ← x2, List.map_map, x2]
      rfl
    rw [ew] at rl
    have wl : (ps.map pvO).length ≤ 12 := by rw [List.length_map]; omega
    have wb : ∀ p ∈ ps.map pvO, p.1 ≤ 10 ^ 18 ∧ p.2 ≤ 10 ^ 18 := fun p hp => by
      obtain ⟨q, hq, rfl⟩ := List.mem_map.mp hp
      exact ⟨(ea q hq).2.1, h2 q hq⟩
    generalize ps.map pvO = ws at *
    refine gN_st (σ' := [some (.ref r), some (.ref D), none, none, none, none, none, none, none]) rfl ?_
    obtain ⟨y1, y2, y3⟩ := rl.zip
    refine ⟨_, rfl, D, rfl, ⟨_, SqL.of eD⟩, fun D2 hD2 => lc_relL (ks := us.zip ws) (f := Prod.fst) (p := fun _ => true) (e := Prod.snd) (fun H v p => ∃ t, v = V.ref t ∧ H t = some (.tup (wV p))) (fun H H' v p b ⟨r, e, ra⟩ => ⟨r, e, b _ _ ra (fun ps z => by cases z)⟩) hD2 (SqL.of (K := K) (by rw [y1]; exact eD)) (by rw [sizeLine_eq, List.length_zip]; omega) (fun q H' hq s3 N Sk hN hS => ?_) (fun H3 us2 s3 eD2 rl2 => ?_)⟩
    · obtain ⟨t, et, ht⟩ := y3 q hq
      have ht3 := s3 _ _ ht
      have hw2 : q.2 ∈ ws := by rw [← y2]; exact List.mem_map.mpr ⟨q, hq, rfl⟩
      have bw := wb _ hw2
      refine ⟨rfl, _, rfl, t, q.2.1, q.2.2, congrArg (fun z => [z]) et, SqT.of ht3, _, _, rfl, rfl, ⟨by decide, by decide, by decide⟩, _, _, rfl, rfl, _, rfl, ite2 (fun _ => ⟨_, rfl, hN _ _ rfl (Same.refl _) ⟨t, et, ht3⟩⟩) (fun z => absurd (decide_eq_true ?_) z)⟩
      show (if q.2.2 > q.2.1 then q.2.2 else q.2.1) ≤ 10 ^ 18
      split
      · exact bw.2
      · exact bw.1
    rw [List.filter_eq_self.mpr (fun _ _ => rfl), y2] at rl2
    have tw2 := RlL.tat (g := wV) rl2
    have ul := rl2.1
    refine ⟨12, rfl, D2, us2, rfl, SqL.of eD2, fun D3 hD3 => ?_⟩
    have c12 : cutV us2 none (some ((12 : Nat) : Int)) = us2 := by
      rw [cut_to]
      exact List.take_of_length_le (by omega)
    have s4 := same_upd (o := .lst (cutV us2 none (some 12))) hD3
    have eD3 := upd_same (H := H3) (a := D3) (o := .lst (cutV us2 none (some 12)))
    rw [show cutV us2 none (some (12 : Int)) = us2 from c12] at s4 eD3 ⊢
    have tw := tw2.same s4
    have s14 := s1.trans (s2.trans (s3.trans s4))
    generalize upd H3 D3 (.lst us2) = H4 at *
    have ra4 := ra.same s14
    refine gN_st (σ' := [some (.ref r), some (.ref D3), none, none, none, none, none, none, none]) rfl ?_
    clear rl y1 y2 y3 rl2 s2 s3 s4 eD eD2 tw2 x1 x2 x3 ew
    dsimp only
    refine ⟨_, rfl, Nat.zero_le _, fun e0 he0 => ?_⟩
    have s5 := same_upd (o := .lst []) he0
    refine ⟨.list ((ws.map fun p => (some p.1, p.2)).map dP), .list [], .lst (SqL.of (s5 _ _ eD3)) ((pr_of_t (tw.same s5)).dp), .lst (SqL.of upd_same) .nil, shaped_pairsL _, rfl, _, rfl, ?_⟩
    by_cases wn : ws = []
    · rw [wn]
      exact ite2 (fun _ => k _ (s14.trans s5)) (fun z => absurd rfl z)
    have wo := pS.wok wn
    have nil_ne : PyData.eqv (.list ((ws.map fun p => (some p.1, p.2)).map dP)) (.list []) = false := by
      cases ws with
      | nil => exact absurd rfl wn
      | cons => rfl
    rw [nil_ne]
    refine ite2 (fun z => absurd z (by decide)) (fun _ => ?_)
    have wa : ws.all (okAt ls) = true := List.all_eq_true.mpr pS.ok
    have nn : ∀ p ∈ ws, 0 ≤ p.1 ∧ 0 ≤ p.2 := fun p hp => ⟨(wo.bd p hp).1, (wo.bd p hp).2.2.1⟩
    have s15 := s14.trans s5
    have ra5 := ra4.same s5
    have eL5 := s5 _ _ eD3
    have tw5 := tw.same s5
    generalize upd H4 e0 (.lst []) = H5 at *
    unfold tNext
    dsimp only
    refine seq_if (fun H6 s6 => ?_) (fun k' hk' => ?_)
    rotate_left
    · refine or_first2 (fun HA sA => ?_) (fun k2 hk2 => ?_)
      rotate_left
      · refine ⟨_, rfl, _, rfl, D3, us2, rfl, .inl ⟨SqL.of eL5, fun T hT => ?_⟩⟩
        have sT := same_upd (o := .tup us2) hT
        refine ⟨r, T, ls, us2, ws, rfl, ra5.same sT, g.most, upd_same, tw5.same sT, wo.most, fun HB sB => ?_⟩
        rw [wa]
        exact ⟨_, rfl, hk2 _ (sT.trans sB)⟩
      · refine ⟨_, rfl, _, rfl, D3, us2, rfl, .inl ⟨SqL.of (sA _ _ eL5), fun T hT => ?_⟩⟩
        have sT := same_upd (o := .tup us2) hT
        refine ⟨r, T, ls, us2, ws, rfl, (ra5.same sA).same sT, gp, g.most, upd_same, (tw5.same sA).same sT, fun _ HB sB => ?_, fun b hb => ?_⟩
        · exact ⟨rfl, _, rfl, hk' _ (sA.trans (sT.trans sB))⟩
        · rw [(fb_none ws nn).mpr wa] at hb
          cases hb
    have s16 := s15.trans s6
    have ra6 := ra5.same s6
    have eL6 := s6 _ _ eL5
    have tw6 := tw5.same s6
    refine ⟨_, rfl, D3, us2, rfl, .inl (SqL.of eL6), ?_⟩
    have wm := wo.most
    refine ⟨((us2.length : Nat) : Int), rfl, by omega, by omega, for_range (n := us2.length) (fun i σ H' => Same H6 H' ∧ ∃ v2 v3 v4 v5 v6 v7 v8, σ = [some (.ref r), some (.ref D3), v2, v3, v4, v5, v6, v7, v8]) ⟨Same.refl _, _, _, _, _, _, _, _, rfl⟩ ?_ ?_⟩
    · rintro i σ H7 hi ⟨s7, v2, v3, v4, v5, v6, v7, v8, rfl⟩
      have eL7 := s7 _ _ eL6
      have tw7 := tw6.same s7
      obtain ⟨u, b, hue, hbw, hu⟩ := wE_get tw7 (List.getElem?_eq_getElem hi)
      have bb := wo.bd b (List.mem_of_getElem? hbw)
      refine gN_st (σ' := [some (.ref r), some (.ref D3), v2, v3, v4, some (.int ((i : Nat) : Int)), v6, v7, v8]) (by rw [Int.zero_add]; rfl) ?_
      refine ⟨_, rfl, _, rfl, D3, _, _, _, rfl, rfl, SqL.of eL7, at_of (j := i) rfl (by rw [List.getElem?_eq_getElem hi, hue]), ?_⟩
      refine ⟨u, _, rfl, SqT.of hu, rfl, _, _, rfl, _, _, rfl, rfl, ?_⟩
      refine to_st (σ' := [some (.ref r), some (.ref D3), some (.int b.1), some (.int b.2), v4, some (.int ((i : Nat) : Int)), v6, v7, v8]) rfl ?_
      obtain ⟨bg, ebg⟩ : ∃ bg, bg = (if i = 0 then 0 else (ws.getD (i - 1) (0, 0)).1 + 1) := ⟨_, rfl⟩
      have less := pS.less i b hbw
      have more := pS.more i b hbw
      rw [← ebg] at less
      dsimp only
      refine asg_any (fun x H' => x = V.int bg ∧ H7 = H') (fun Q' hQ => ?_) ?_
      · refine ⟨_, rfl, rfl, _, rfl, ite2 (fun cc => ?_) (fun cc => ?_)⟩
        · have i0 : i = 0 := by have := V.int.inj (of_decide_eq_true cc); omega
          rw [if_pos i0] at ebg
          exact hQ _ _ ⟨by rw [ebg], rfl⟩
        · have i0 : 0 < i := by
            have : ¬ (((i : Nat) : Int) = 0) := fun z => cc (decide_eq_true (congrArg V.int z))
            omega
          rw [if_neg (by omega)] at ebg
          obtain ⟨u2, b2, hu2x, hb2, hu2⟩ := wE_get (i := i - 1) tw7 (List.getElem?_eq_getElem (by omega))
          rw [List.getD_eq_getElem?_getD, hb2] at ebg
          refine ⟨_, rfl, _, rfl, _, _, rfl, rfl, D3, _, _, _, rfl, rfl, SqL.of eL7, at_of (j := i - 1) (by omega) (by rw [List.getElem?_eq_getElem (by omega), hu2x]), u2, _, _, _, rfl, rfl, SqT.of hu2, at_of (j := 0) rfl rfl, _, _, rfl, rfl, hQ _ _ ⟨?_, rfl⟩⟩
          rw [ebg]
          rfl
      rintro x H' ⟨rfl, rfl⟩
      refine gN_st (σ' := [some (.ref r), some (.ref D3), some (.int b.1), some (.int b.2), v4, some (.int ((i : Nat) : Int)), some (.int bg), v7, v8]) rfl ?_
      refine ⟨_, rfl, _, rfl, _, rfl, D3, us2, rfl, SqL.of eL7, fun p1 hp1 => ?_⟩
      rw [show cutV us2 none (some ((i : Nat) : Int)) = us2.take i from cut_to _ _]
      refine ⟨_, rfl, _, rfl, _, _, rfl, rfl, by show 2 ≤ sizeLine; decide, fun w1 hw1 => ⟨by show 1 ≤ sizeLine; decide, fun w2 hw2 => ?_⟩⟩
      have sa := same_upd (o := .lst (us2.take i)) hp1
      have sb := same_upd (o := .tup [V.int ((b.1, b.2 - 1)).1, .int ((b.1, b.2 - 1)).2]) hw1
      have sc := same_upd (o := .lst [V.ref w1]) hw2
      have ep := (sb.trans sc) _ _ (upd_same (H := H7) (a := p1) (o := .lst (us2.take i)))
      have ew1 := sc _ _ (upd_same (H := upd H7 p1 (.lst (us2.take i))) (a := w1) (o := .tup [V.int ((b.1, b.2 - 1)).1, .int ((b.1, b.2 - 1)).2]))
      refine ⟨p1, w2, _, _, rfl, rfl, ep, upd_same, by rw [sizeLine_eq, List.length_take]; show min _ _ + 1 ≤ _; omega, fun q1 hq1 => ?_⟩
      have sd := same_upd (o := .lst (us2.take i ++ [V.ref w1])) hq1
      have eq1 := upd_same (H := upd (upd (upd H7 p1 (.lst (us2.take i))) w1 (.tup [V.int ((b.1, b.2 - 1)).1, .int ((b.1, b.2 - 1)).2])) w2 (.lst [V.ref w1])) (a := q1) (o := .lst (us2.take i ++ [V.ref w1]))
      have sad := sa.trans (sb.trans (sc.trans sd))
      have ew2 := sd _ _ ew1
      generalize upd (upd (upd (upd H7 p1 (.lst (us2.take i))) w1 (.tup [V.int ((b.1, b.2 - 1)).1, .int ((b.1, b.2 - 1)).2])) w2 (.lst [V.ref w1])) q1 (.lst (us2.take i ++ [V.ref w1])) = HD at *
      refine ⟨_, rfl, _, rfl, _, _, rfl, rfl, _, rfl, D3, us2, rfl, SqL.of (sad _ _ eL7), fun p3 hp3 => ?_⟩
      rw [show cutV us2 (some (((i : Nat) : Int) + 1)) none = us2.drop (i + 1) from cut_from us2 (i + 1)]
      have se := same_upd (o := .lst (us2.drop (i + 1))) hp3
      refine ⟨q1, p3, _, _, rfl, rfl, se _ _ eq1, upd_same, by rw [sizeLine_eq, List.length_append, List.length_take, List.length_drop]; show min _ _ + 1 + _ ≤ _; omega, fun q2 hq2 => ?_⟩
      have sf := same_upd (o := .lst (us2.take i ++ [V.ref w1] ++ us2.drop (i + 1))) hq2
      refine ⟨q2, _, rfl, .inl ⟨SqL.of upd_same, fun T1 hT => ?_⟩⟩
      have sg := same_upd (o := .tup (us2.take i ++ [V.ref w1] ++ us2.drop (i + 1))) hT
      have sT1 := sad.trans (se.trans (sf.trans sg))
      have eT1 := upd_same (H := upd (upd HD p3 (.lst (us2.drop (i + 1)))) q2 (.lst (us2.take i ++ [V.ref w1] ++ us2.drop (i + 1)))) (a := T1) (o := .tup (us2.take i ++ [V.ref w1] ++ us2.drop (i + 1)))
      have tT1 := upd_step (i := i) (b := (b.1, b.2 - 1)) (tw7.same sT1) ((se.trans (sf.trans sg)) _ _ ew2)
      generalize upd (upd (upd HD p3 (.lst (us2.drop (i + 1)))) q2 (.lst (us2.take i ++ [V.ref w1] ++ us2.drop (i + 1)))) T1 (.tup (us2.take i ++ [V.ref w1] ++ us2.drop (i + 1))) = HXT1 at *
      clear sa sb sc ep ew1 sd eq1 sad ew2 se sf sg hp1 hw1 hw2 hq1 hp3 hq2 hT
      refine gN_st (σ' := [some (.ref r), some (.ref D3), some (.int b.1), some (.int b.2), v4, some (.int ((i : Nat) : Int)), some (.int bg), some (.ref T1), v8]) rfl ?_
      dsimp only
      have eL8 := sT1 _ _ eL7
      have tw8 := tw7.same sT1
      refine ⟨_, rfl, _, rfl, _, rfl, D3, us2, rfl, SqL.of eL8, fun p1 hp1 => ?_⟩
      rw [show cutV us2 none (some ((i : Nat) : Int)) = us2.take i from cut_to _ _]
      refine ⟨_, rfl, _, _, rfl, rfl, _, rfl, by show 2 ≤ sizeLine; decide, fun w1 hw1 => ⟨by show 1 ≤ sizeLine; decide, fun w2 hw2 => ?_⟩⟩
      have sa := same_upd (o := .lst (us2.take i)) hp1
      have sb := same_upd (o := .tup [V.int ((b.1 + 1, b.2)).1, .int ((b.1 + 1, b.2)).2]) hw1
      have sc := same_upd (o := .lst [V.ref w1]) hw2
      have ep := (sb.trans sc) _ _ (upd_same (H := HXT1) (a := p1) (o := .lst (us2.take i)))
      have ew1 := sc _ _ (upd_same (H := upd HXT1 p1 (.lst (us2.take i))) (a := w1) (o := .tup [V.int ((b.1 + 1, b.2)).1, .int ((b.1 + 1, b.2)).2]))
      refine ⟨p1, w2, _, _, rfl, rfl, ep, upd_same, by rw [sizeLine_eq, List.length_take]; show min _ _ + 1 ≤ _; omega, fun q1 hq1 => ?_⟩
      have sd := same_upd (o := .lst (us2.take i ++ [V.ref w1])) hq1
      have eq1 := upd_same (H := upd (upd (upd HXT1 p1 (.lst (us2.take i))) w1 (.tup [V.int ((b.1 + 1, b.2)).1, .int ((b.1 + 1, b.2)).2])) w2 (.lst [V.ref w1])) (a := q1) (o := .lst (us2.take i ++ [V.ref w1]))
      have sad := sa.trans (sb.trans (sc.trans sd))
      have ew2 := sd _ _ ew1
      generalize upd (upd (upd (upd HXT1 p1 (.lst (us2.take i))) w1 (.tup [V.int ((b.1 + 1, b.2)).1, .int ((b.1 + 1, b.2)).2])) w2 (.lst [V.ref w1])) q1 (.lst (us2.take i ++ [V.ref w1])) = HD at *
      refine ⟨_, rfl, _, rfl, _, _, rfl, rfl, _, rfl, D3, us2, rfl, SqL.of (sad _ _ eL8), fun p3 hp3 => ?_⟩
      rw [show cutV us2 (some (((i : Nat) : Int) + 1)) none = us2.drop (i + 1) from cut_from us2 (i + 1)]
      have se := same_upd (o := .lst (us2.drop (i + 1))) hp3
      refine ⟨q1, p3, _, _, rfl, rfl, se _ _ eq1, upd_same, by rw [sizeLine_eq, List.length_append, List.length_take, List.length_drop]; show min _ _ + 1 + _ ≤ _; omega, fun q2 hq2 => ?_⟩
      have sf := same_upd (o := .lst (us2.take i ++ [V.ref w1] ++ us2.drop (i + 1))) hq2
      refine ⟨q2, _, rfl, .inl ⟨SqL.of upd_same, fun T2 hT => ?_⟩⟩
      have sg := same_upd (o := .tup (us2.take i ++ [V.ref w1] ++ us2.drop (i + 1))) hT
      have sT2 := sad.trans (se.trans (sf.trans sg))
      have eT2 := upd_same (H := upd (upd HD p3 (.lst (us2.drop (i + 1)))) q2 (.lst (us2.take i ++ [V.ref w1] ++ us2.drop (i + 1)))) (a := T2) (o := .tup (us2.take i ++ [V.ref w1] ++ us2.drop (i + 1)))
      have tT2 := upd_step (i := i) (b := (b.1 + 1, b.2)) (tw8.same sT2) ((se.trans (sf.trans sg)) _ _ ew2)
      generalize upd (upd (upd HD p3 (.lst (us2.drop (i + 1)))) q2 (.lst (us2.take i ++ [V.ref w1] ++ us2.drop (i + 1)))) T2 (.tup (us2.take i ++ [V.ref w1] ++ us2.drop (i + 1))) = HXT2 at *
      clear sa sb sc ep ew1 sd eq1 sad ew2 se sf sg hp1 hw1 hw2 hq1 hp3 hq2 hT
      refine gN_st (σ' := [some (.ref r), some (.ref D3), some (.int b.1), some (.int b.2), v4, some (.int ((i : Nat) : Int)), some (.int bg), some (.ref T1), some (.ref T2)]) rfl ?_
      dsimp only
      have s6b := s7.trans (sT1.trans sT2)
      have pre : ∀ p ∈ ws.take i, okAt ls p = true ∧ 0 ≤ p.1 ∧ 0 ≤ p.2 := fun p hp => ⟨pS.ok p (List.mem_of_mem_take hp), nn p (List.mem_of_mem_take hp)⟩
      refine seq_if (fun H8 s8 => ?_) (fun k' hk' => ?_)
      rotate_left
      · refine ⟨_, rfl, _, rfl, _, rfl, r, T1, ls, _, _, bg, rfl, ra6.same s6b, g, sT2 _ _ eT1, tT1.same sT2, fun wo' => ?_, fun HA sA => ⟨_, rfl, hk' _ sA⟩⟩
        have q := wo'.bd (b.1, b.2 - 1) (List.mem_append_left _ (List.mem_append_right _ (List.mem_singleton.mpr rfl)))
        have l := less q.2.2.1
        exact fb_at (q := (b.1, b.2 - 1)) l.1 l.2 pre
      refine if_end (fun HZ sZ => ⟨s6b.trans (s8.trans sZ), _, _, _, _, _, _, _, rfl⟩) (fun k' hk' => ?_)
      refine ⟨_, rfl, _, rfl, _, rfl, _, _, rfl, rfl, r, T2, ls, _, _, b.1 + 1, rfl, (ra6.same s6b).same s8, g, s8 _ _ eT2, tT2.same s8, fun wo' => ?_, fun HA sA => ⟨_, rfl, hk' _ sA⟩⟩
      have q := wo'.bd (b.1 + 1, b.2) (List.mem_append_left _ (List.mem_append_right _ (List.mem_singleton.mpr rfl)))
      exact fb_at (q := (b.1 + 1, b.2)) (more q.2.1) (Int.le_refl _) pre
    · rintro σ H7 ⟨s7, v2, v3, v4, v5, v6, v7, v8, rfl⟩
      exact k _ (s16.trans s7)
end
/-! SPLIT -/
abbrev s_law_wish : Stmt := (top 51)
abbrev N_law_wish : List Str := ["_law_pool_here", "_law_top", "_law_upto", "_law_found", "_law_old", "_law_far", "_law_turn", "_law_pair"]
theorem sc_law_wish : FnScope N_law_wish ["_law_pool_here", "_law_top", "_law_upto"] (defScope s_law_wish) :=
  ⟨rfl, rfl, rfl, by decide +kernel, rfl, by decide +kernel, by decide +kernel⟩
def spWishP : Sp := fun vs H Q _ => ∃ (a : Addr) (n : Nat), vs = [.ref a, .int 4, .int 4] ∧ PotAt H a n ∧ n < 500000 ∧
  ∀ (W : Addr) (xs : List V) (ws : List (Int × Int)) (H' : Hp), H' W = some (.tup xs) → TAt H' xs (ws.map wV) → WOk ws → ws.length ≤ 4 → (∀ p ∈ ws, p.1 ≤ 100 ∧ p.2 ≤ 63) → PotAt H' a (n + 100) → But a H H' → Q (.ref W) H'
section
variable {P : Program} {w : World} {K : PySem.W.Frag} {mg : Str → Option Value} {base : Heap} {C CR : Addr} {mc : Value}
theorem ok_wishP (D : Df K mg "_law_wish" s_law_wish ["_law_pool_here", "_law_top", "_law_upto"]) (T : Bl mg) (C_law_draw : Has P w K mg base 1 "_law_draw" ["_law_pool_here", "_law_limit"] spTake) (C_law_pick : Has P w K mg base 2 "_law_pick" ["_law_pool_here", "_law_some"] (spPick K)) : Has P w K mg base 3 "_law_wish" ["_law_pool_here", "_law_top", "_law_upto"] spWishP := by
  refine D.has sc_law_wish (fun vs H Q E h => ?_) (fun f cdv A outer s H vs Q E gd hr h => ?_)
  · obtain ⟨a, n, rfl, _⟩ := h
    rfl
  · obtain ⟨a, n, rfl, hp, hn, k⟩ := h
    refine ⟨_, (pss_cons (ps_par (i := 3) (j := 4) rfl sc_law_wish.nd rfl rfl (by decide) rfl rfl (pa_cons (pe_lst pa_nil) (pa_cons (pe_has C_law_pick gd (hr.mono (by decide)) rfl (pa_cons (pv 0) (pa_cons (pe_lst (pa_cons pe_int (pa_cons pe_int (pa_cons (pe_has C_law_draw gd (hr.mono (by decide)) rfl (pa_cons (pv 0) (pa_cons (pe_op op_add (pv 1) pe_int) pa_nil))) pa_nil)))) pa_nil))) pa_nil)) (by rfl))
      (pss_cons (ps_set (i := 5) sc_law_wish.nd rfl (Or.inl rfl) (pe_has C_law_pick gd (hr.mono (by decide)) rfl (pa_cons (pv 0) (pa_cons (pe_lst (pa_cons pe_int (pa_cons pe_int (pa_cons pe_int (pa_cons (pe_has C_law_draw gd (hr.mono (by decide)) rfl (pa_cons (pv 0) (pa_cons (pe_op op_add (pv 1) pe_int) pa_nil))) pa_nil))))) pa_nil))))
      (pss_cons (ps_for PassesOwn.never rfl (pi_range1 rfl T.range (pa_cons (pe_op op_add pe_int (pe_has C_law_draw gd (hr.mono (by decide)) rfl (pa_cons (pv 0) (pa_cons (pv 2) pa_nil)))) pa_nil)) (pg_name (i := 6) sc_law_wish.nd rfl (Or.inl rfl)) (pss_cons (ps_expr (pe_bm PySem.F.plainAttrs_list PySem.F.slot_list_append PySem.F.type_list_append mt_append (pv 3) (pa_cons (pe_tup (pa_cons (pv 4) (pa_cons (pv 5) pa_nil))) pa_nil)))
      (pss_cons (ps_set (i := 4) sc_law_wish.nd rfl (Or.inl rfl) (pe_op op_add (pe_op op_add (pv 4) pe_int) (pe_has C_law_pick gd (hr.mono (by decide)) rfl (pa_cons (pv 0) (pa_cons (pe_lst (pa_cons pe_int (pa_cons pe_int (pa_cons (pe_has C_law_draw gd (hr.mono (by decide)) rfl (pa_cons (pv 0) (pa_cons (pe_op op_add (pv 1) pe_int) pa_nil))) pa_nil)))) pa_nil)))))
      (pss_one (ps_set (i := 5) sc_law_wish.nd rfl (Or.inl rfl) (pe_op op_add (pe_op op_add (pv 5) pe_int) (pe_has C_law_pick gd (hr.mono (by decide)) rfl (pa_cons (pv 0) (pa_cons (pe_lst (pa_cons pe_int (pa_cons pe_int (pa_cons (pe_has C_law_draw gd (hr.mono (by decide)) rfl (pa_cons (pv 0) (pa_cons (pe_op op_add (pv 1) pe_int) pa_nil))) pa_nil)))) pa_nil)))))))))
      (pss_one (ps_ret (pe_callTy call_tuple_of (by rfl) T.tuple (by decide +kernel) (pa_cons (pe_lc (own := [("_law_pair", 7)]) (g := gName 7) rfl sc_law_wish.nd (pi_list (pv 3)) (blkOk_by (N := N_law_wish) (sc := defScope s_law_wish) (by decide +kernel)) (fun _ _ _ _ _ => pg_name (i := 7) sc_law_wish.nd rfl (Or.inl rfl)) (fun _ _ _ _ _ => (pts_one (pt_cmpR op_le (pe_callB (cr_maxK (K := K) rfl rfl) (by rfl) T.max (by decide +kernel) (pa_cons (pv 7) pa_nil)) (pe_op op_pow pe_int pe_int) (nomark _)))) (fun _ _ _ _ _ => (pv 7))) pa_nil))))))), ?_⟩
    refine ⟨Nat.zero_le _, fun F hF => ?_⟩
    have nFa : F ≠ a := (hp.ne hF).symm
    have gb : ((4 : Int) + 1).natAbs < 2 ^ 600 := small600 (by omega) (by omega)
    have mem3 : ∀ {v : V} {d : Int}, v ∈ [V.int 0, V.int 1, V.int d] → 0 ≤ d → d < 5 → ∃ z : Int, v = .int z ∧ 0 ≤ z ∧ z ≤ 4 := fun {v d} hv d0 d1 => by
      rcases List.mem_cons.mp hv with rfl | hv
      · exact ⟨_, rfl, by decide, by decide⟩
      rcases List.mem_cons.mp hv with rfl | hv
      · exact ⟨_, rfl, by decide, by decide⟩
      · rw [List.mem_singleton.mp hv]
        exact ⟨_, rfl, d0, by omega⟩
    refine ⟨_, rfl, _, rfl, _, rfl, _, _, rfl, rfl, a, n, _, rfl, hp.same (same_upd hF), by omega, by omega, gb, fun d1 H1 u0 u1 p1 b1 => ?_⟩
    refine ⟨by show 3 ≤ sizeLine; decide, fun M hM => ?_⟩
    refine ⟨a, M, _, _, rfl, p1.same (same_upd hM), by omega, SqL.of upd_same, (p1.ne hM).symm, by show 0 < 3; decide, by show 3 ≤ 1000; decide, fun v H2 hv p2 b2 => ?_⟩
    obtain ⟨a0, rfl, a00, a01⟩ := mem3 hv u0 u1
    refine ⟨_, _, rfl, ?_⟩
    refine gN_st (σ' := [some (.ref a), some (.int 4), some (.int 4), some (.ref F), some (.int a0), none, none, none]) rfl ?_
    dsimp only
    refine ⟨_, rfl, _, rfl, _, rfl, _, _, rfl, rfl, a, _, _, rfl, p2, by omega, by omega, gb, fun d3 H3 w0 w1 p3 b3 => ?_⟩
    refine ⟨by show 4 ≤ sizeLine; decide, fun M2 hM2 => ?_⟩
    refine ⟨a, M2, _, _, rfl, p3.same (same_upd hM2), by omega, SqL.of upd_same, (p3.ne hM2).symm, by show 0 < 4; decide, by show 4 ≤ 1000; decide, fun v H4 hv p4 b4 => ?_⟩
    obtain ⟨q0, rfl, q00, q01⟩ : ∃ z : Int, v = .int z ∧ 0 ≤ z ∧ z ≤ 4 := by
      rcases List.mem_cons.mp hv with rfl | hv
      · exact ⟨_, rfl, by decide, by decide⟩
      rcases List.mem_cons.mp hv with rfl | hv
      · exact ⟨_, rfl, by decide, by decide⟩
      rcases List.mem_cons.mp hv with rfl | hv
      · exact ⟨_, rfl, by decide, by decide⟩
      · rw [List.mem_singleton.mp hv]
        exact ⟨_, rfl, w0, by omega⟩
    have eF4 : H4 F = some (.lst []) := b4 _ _ (same_upd hM2 _ _ (b3 _ _ (b2 _ _ (same_upd hM _ _ (b1 _ _ upd_same nFa)) nFa) nFa)) nFa
    have b04 : But a H H4 := ((But.of (same_upd hF)).trans b1).trans (((But.of (same_upd hM)).trans b2).trans (b3.trans ((But.of (same_upd hM2)).trans b4)))
    refine gN_st (σ' := [some (.ref a), some (.int 4), some (.int 4), some (.ref F), some (.int a0), some (.int q0), none, none]) rfl ?_
    dsimp only
    refine ⟨_, rfl, _, rfl, a, _, _, rfl, p4, by omega, by omega, small600 (by omega) (by omega), fun d5 H5 x0 x1 p5 b5 => ?_⟩
    obtain ⟨m, rfl⟩ := Int.eq_ofNat_of_zero_le x0
    have em : (1 + (m : Int)).toNat = m + 1 := by omega
    refine ⟨_, _, rfl, rfl, 1 + (m : Int), rfl, by omega, by omega, ?_⟩
    rw [em]
    have b05 := b04.trans b5
    have eF5 := b5 _ _ eF4 nFa
    have m4 : m + 1 ≤ 4 := by omega
    refine for_range (n := m + 1) (fun i σ H' => ∃ (x6 : Option V) (ag gp : Int) (xs : List V) (fs : List (Int × Int)), σ = [some (.ref a), some (.int 4), some (.int 4), some (.ref F), some (.int ag), some (.int gp), x6, none] ∧ H' F = some (.lst xs) ∧ TAt H' xs (fs.map wV) ∧ fs.length = i ∧
      (fs.Pairwise fun p q => p.1 < q.1 ∧ p.2 < q.2) ∧ (∀ p ∈ fs, 0 ≤ p.1 ∧ 0 ≤ p.2 ∧ p.1 < ag ∧ p.2 < gp) ∧ 0 ≤ ag ∧ 0 ≤ gp ∧ ag ≤ 4 + 5 * (i : Int) ∧ gp ≤ 4 + 5 * (i : Int) ∧ PotAt H' a (n + 5 + 4 * i) ∧ But a H H')
      ⟨none, a0, q0, [], [], rfl, eF5, trivial, rfl, List.Pairwise.nil, (fun p hp => nomatch hp), a00, q00, by show a0 ≤ 4 + 5 * ((0 : Nat) : Int); omega, by show q0 ≤ 4 + 5 * ((0 : Nat) : Int); omega, p5.mono (by omega), b05⟩ ?_ ?_
    · rintro i σ H5 hi ⟨x6, ag, gp, xs, fs, rfl, eF, ta, fl, asc, fbd, ag0, gp0, agb, gpb, p5, b5⟩
      refine gN_st (σ' := [some (.ref a), some (.int 4), some (.int 4), some (.ref F), some (.int ag), some (.int gp), some (.int (0 + (i : Int))), none]) rfl ?_
      refine ⟨_, rfl, .inl ⟨rfl, _, SqL.of eF⟩, _, rfl, _, rfl, by show 2 ≤ sizeLine; decide, fun p hp => ?_⟩
      have nFp : F ≠ p := ne_of_none eF hp
      refine ⟨F, _, _, rfl, rfl, same_upd hp _ _ eF, small1000 (by rw [ta.length, List.length_map]; omega), ?_⟩
      have ta6 : TAt (upd (upd H5 p (.tup [.int ag, .int gp])) F (.lst (xs ++ [V.ref p]))) (xs ++ [V.ref p]) ((fs ++ [(ag, gp)]).map wV) := by
        rw [List.map_append]
        exact TAt.snoc (by rw [upd_ne nFp.symm]; exact upd_same) ((ta.same (same_upd hp)).upd (same_upd hp _ _ eF))
      have p6 : PotAt (upd (upd H5 p (.tup [.int ag, .int gp])) F (.lst (xs ++ [V.ref p]))) a (n + 5 + 4 * i) := (p5.same (same_upd hp)).upd nFa.symm
      have eF6 : upd (upd H5 p (.tup [.int ag, .int gp])) F (.lst (xs ++ [V.ref p])) F = some (.lst (xs ++ [V.ref p])) := upd_same
      have b6 : But a H (upd (upd H5 p (.tup [.int ag, .int gp])) F (.lst (xs ++ [V.ref p]))) := (b5.trans (But.of (same_upd hp))).new hF
      generalize upd (upd H5 p (.tup [.int ag, .int gp])) F (.lst (xs ++ [V.ref p])) = H6 at *
      refine ⟨_, rfl, _, _, rfl, rfl, _, rfl, _, rfl, _, rfl, _, _, rfl, rfl, a, _, _, rfl, p6, by omega, by omega, gb, fun d7 H7 y0 y1 p7 b7 => ?_⟩
      refine ⟨by show 3 ≤ sizeLine; decide, fun N hN => ?_⟩
      refine ⟨a, N, _, _, rfl, p7.same (same_upd hN), by omega, SqL.of upd_same, (p7.ne hN).symm, by show 0 < 3; decide, by show 3 ≤ 1000; decide, fun v H8 hv p8 b8 => ?_⟩
      obtain ⟨z1, rfl, z10, z11⟩ := mem3 hv y0 y1
      refine ⟨_, _, rfl, rfl, ?_⟩
      refine gN_st (σ' := [some (.ref a), some (.int 4), some (.int 4), some (.ref F), some (.int (ag + 1 + z1)), some (.int gp), some (.int (0 + (i : Int))), none]) rfl ?_
      refine ⟨_, rfl, _, _, rfl, rfl, _, rfl, _, rfl, _, rfl, _, _, rfl, rfl, a, _, _, rfl, p8, by omega, by omega, gb, fun d9 H9 t0 t1 p9 b9 => ?_⟩
      refine ⟨by show 3 ≤ sizeLine; decide, fun N2 hN2 => ?_⟩
      refine ⟨a, N2, _, _, rfl, p9.same (same_upd hN2), by omega, SqL.of upd_same, (p9.ne hN2).symm, by show 0 < 3; decide, by show 3 ≤ 1000; decide, fun v HA hv pA bA => ?_⟩
      obtain ⟨z2, rfl, z20, z21⟩ := mem3 hv t0 t1
      have b6A : But a H6 HA := (b7.trans ((But.of (same_upd hN)).trans b8)).trans (b9.trans ((But.of (same_upd hN2)).trans bA))
      have taA : TAt HA (xs ++ [V.ref p]) ((fs ++ [(ag, gp)]).map wV) := ta6.keep fun t ys e => b6A _ _ e (ne_of e p6.choose_spec.choose_spec.choose_spec.1 (by intro z; cases z))
      refine ⟨_, _, rfl, rfl, _, ag + 1 + z1, gp + 1 + z2, xs ++ [V.ref p], fs ++ [(ag, gp)], rfl, b6A _ _ eF6 nFa, taA, by rw [List.length_append, fl]; rfl, ?_, ?_, by omega, by omega, by omega, by omega, pA.mono (by omega), b6.trans b6A⟩
      · refine List.pairwise_append.mpr ⟨asc, List.pairwise_singleton _ _, fun x hx y hy => ?_⟩
        rw [List.mem_singleton.mp hy]
        exact ⟨(fbd x hx).2.2.1, (fbd x hx).2.2.2⟩
      · intro x hx
        rcases List.mem_append.mp hx with h | h
        · have := fbd x h
          omega
        · rw [List.mem_singleton.mp h]
          show 0 ≤ ag ∧ 0 ≤ gp ∧ ag < ag + 1 + z1 ∧ gp < gp + 1 + z2
          omega
    · rintro σ H5 ⟨x6, ag, gp, xs, fs, rfl, eF, ta, fl, asc, fbd, ag0, gp0, agb, gpb, p5, b5⟩
      have wo : WOk fs := ⟨fun p hp => by have := fbd p hp; omega, asc, by omega, by omega⟩
      obtain ⟨y1, y2, y3⟩ := ta.relL.zip
      refine ⟨_, rfl, F, rfl, ⟨_, SqL.of eF⟩, fun D2 hD2 => lc_relL (ks := xs.zip fs) (f := Prod.fst) (p := fun _ => true) (e := Prod.snd) (fun H v p => ∃ t, v = V.ref t ∧ H t = some (.tup (wV p))) (fun H H' v p b ⟨r, e, ra⟩ => ⟨r, e, b _ _ ra (fun ps z => by cases z)⟩) hD2 (SqL.of (K := K) (by rw [y1]; exact eF)) (by rw [sizeLine_eq, List.length_zip]; omega) (fun q H' hq s3 N Sk hN hS => ?_) (fun H6 us2 s6 eD2 rl2 => ?_)⟩
      · obtain ⟨t, et, ht⟩ := y3 q hq
        have ht3 := s3 _ _ ht
        have hw2 : q.2 ∈ fs := by rw [← y2]; exact List.mem_map.mpr ⟨q, hq, rfl⟩
        have bw := fbd _ hw2
        refine ⟨rfl, _, rfl, t, q.2.1, q.2.2, congrArg (fun z => [z]) et, SqT.of ht3, _, _, rfl, rfl, ⟨by decide, by decide, by decide⟩, _, _, rfl, rfl, _, rfl, ite2 (fun _ => ⟨_, rfl, hN _ _ rfl (Same.refl _) ⟨t, et, ht3⟩⟩) (fun z => absurd (decide_eq_true ?_) z)⟩
        show (if q.2.2 > q.2.1 then q.2.2 else q.2.1) ≤ 10 ^ 18
        split <;> omega
      · rw [List.filter_eq_self.mpr (fun _ _ => rfl), y2] at rl2
        have tw2 := RlL.tat (g := wV) rl2
        refine ⟨D2, us2, rfl, .inl ⟨SqL.of eD2, fun W hW => ?_⟩⟩
        have sW := same_upd (o := .tup us2) hW
        exact k W us2 fs _ upd_same (tw2.same sW) wo (by omega) (fun p hp => by have := fbd p hp; omega) ((p5.same (s6.trans sW)).mono (by omega)) (b5.trans (But.of (s6.trans sW)))
end
/-! SPLIT -/
abbrev s_law_wish_right : Stmt := (top 54)
abbrev N_law_wish_right : List Str := ["_law_rule_now", "_law_wanted", "_law_ends", "_law_old", "_law_far", "_law_due", "_law_told", "_law_lives_here"]
theorem sc_law_wish_right : FnScope N_law_wish_right ["_law_rule_now", "_law_wanted"] (defScope s_law_wish_right) :=
  ⟨rfl, rfl, rfl, by decide +kernel, rfl, by decide +kernel, by decide +kernel⟩
theorem good_is {is : List Int} (h0 : 0 < is.length) (h1 : is.length ≤ 61) (hb : ∀ x ∈ is, 0 ≤ x ∧ x ≤ 10 ^ 18) (ha : Asc is) : Good (is.map some) := by
  obtain ⟨ini, z, rfl⟩ : ∃ ini z, is = ini ++ [z] := ⟨is.dropLast, is.getLast (by intro w; rw [w] at h0; exact absurd h0 (by decide)), (List.dropLast_concat_getLast _).symm⟩
  rw [List.length_append] at h1
  rw [List.map_append]
  exact good_ints (by simp only [List.length_cons, List.length_nil] at h1; omega) hb ha
theorem walk_zipM {K : PySem.W.Frag} {a b : Addr} {xs ys : List V} {n : Nat} (hn : n = min xs.length ys.length) : Walk (ItzM K a b) n (fun H => SqL K H a xs ∧ SqT K H b ys) (YPair (fun i => xs[i]?) (fun i => ys[i]?)) := by
  subst hn
  constructor
  · intro i H hi q
    exact ⟨xs, ys, xs[i]'(by omega), ys[i]'(by omega), q.1, q.2, List.getElem?_eq_getElem _, List.getElem?_eq_getElem _⟩
  · intro H q
    exact ⟨xs, ys, q.1, q.2, by omega⟩
  · rintro i H v H' _ q ⟨T, x, z, h1, h2, h3, h4, h5⟩
    exact ⟨T, x, z, h1, h2, h3, h4 xs q.1, h5 ys q.2⟩
theorem rep_bool (A : Bool) : (PyData.bool A).showable = true ∧ (PyData.bool A).hasDict = false ∧ (PyData.bool A).depth ≤ 60 ∧ (PyData.bool A).shown.length ≤ sizeLine := by
  cases A <;> exact ⟨rfl, rfl, by decide, Nat.le_trans (show _ ≤ 10 by decide) (by rw [sizeLine_eq]; decide)⟩
theorem least_len {ws : List (Int × Int)} (wo : WOk ws) (w4 : ws.length ≤ 4) (wb : ∀ p ∈ ws, p.2 ≤ 63) : (leastL ws).length ≤ 2401 := by
  unfold leastL
  rw [(ascL_perm _).length_eq, List.length_map]
  refine Nat.le_trans (List.length_filter_le _ _) ?_
  refine Nat.le_trans (plansF_len (m := 6) fun s hs => wdN_6 (wo.bd s hs).2.2.1 (wb s hs)) ?_
  exact Nat.le_trans (Nat.mul_le_mul_left _ (Nat.pow_le_pow_right (by decide) w4)) (by decide)
theorem any_least {ws : List (Int × Int)} (wo : WOk ws) {ls : List (Option Int)} (g : Good ls) : ((leastL ws).any fun q => leL (short (q.map some)) ls) = ws.all (okAt ls) := by
  have gw := g.w
  rw [Bool.eq_iff_iff, List.any_eq_true, List.all_eq_true]
  constructor
  · rintro ⟨q, hq, h⟩ s hs
    obtain ⟨hp, _⟩ := (mem_leastL wo).mp hq
    have q0 := (wo.goodP hp).pos
    have le := (leL_iff (short_len_pos q0) g.pos).mp h
    obtain ⟨j, j1, j2⟩ := wo.metP hp s hs
    refine (okAt_met g.pos (wo.bd s hs).2.2.1).mpr ⟨j, j1, leO_trans j2 ?_⟩
    have := le j
    rwa [lifeAt_short q0] at this
  · intro h
    obtain ⟨q, hq, ho, hb⟩ := wo.leastBelow gw.mon fun s hs => (okAt_met g.pos (wo.bd s hs).2.2.1).mp (h s hs)
    have q0 := (wo.goodP hq).pos
    refine ⟨q, (mem_leastL wo).mpr ⟨hq, ho⟩, (leL_iff (short_len_pos q0) g.pos).mpr fun i => ?_⟩
    rw [lifeAt_short q0]
    exact hb i
/-- least lives that a law can make a rule of -/
theorem least_good {ws : List (Int × Int)} (wo : WOk ws) (wb : ∀ p ∈ ws, p.1 ≤ 10 ^ 17 ∧ p.2 ≤ 63) {q : List Int} (hq : q ∈ plansF ws [[]]) : Good (q.map some) := by
  have ok := wo.okP q hq
  have q0 := wo.posP hq
  refine good_is q0 (by have := wo.lenP hq; omega) (fun x hx => ⟨ok.nn x hx, ?_⟩) ?_
  · cases e : q.getLast? with
    | none =>
      rw [List.getLast?_eq_none_iff.mp e] at q0
      exact absurd q0 (by decide)
    | some z =>
      obtain ⟨s, hs, ez, hz⟩ := ok.last z e
      have b := wb s (List.mem_of_getLast? hs)
      have w6 := wdN_6 (wo.bd s (List.mem_of_getLast? hs)).2.2.1 b.2
      have le := asc_last ok.asc e hx
      have p := pow2_le (show q.length - 1 ≤ 6 by omega)
      have : (2 : Int) ^ 6 = 64 := by decide
      omega
  · intro i x y hx hy
    obtain ⟨h1, e1⟩ := List.getElem?_eq_some_iff.mp hx
    obtain ⟨h2, e2⟩ := List.getElem?_eq_some_iff.mp hy
    have := List.pairwise_iff_getElem.mp ok.asc i (i + 1) h1 h2 (by omega)
    rw [e1, e2] at this
    exact this
def spWishR (C : Addr) : Sp := fun vs H Q _ => ∃ (r W : Addr) (ls : List (Option Int)) (xs : List V) (ws : List (Int × Int)), vs = [.ref r, .ref W] ∧ RuleAt C H r ls ∧ Good ls ∧ H W = some (.tup xs) ∧ TAt H xs (ws.map wV) ∧ WOk ws ∧ ws.length ≤ 4 ∧ (∀ p ∈ ws, p.1 ≤ 100 ∧ p.2 ≤ 63) ∧ ∀ H', Same H H' → Q (.bl true) H'
section
variable {P : Program} {w : World} {K : PySem.W.Frag} {mg : Str → Option Value} {base : Heap} {C CR : Addr} {mc : Value} {fInit pAre fAre pOf fOf pLv fLv fOr fAnd fAdd fLe fEq : Addr} {fdAre fdLv : FuncData}
theorem ok_wishR (D : Df K mg "_law_wish_right" s_law_wish_right ["_law_rule_now", "_law_wanted"]) (T : Bl mg) (R : RuleT K mg C CR mc fInit pAre fAre fdAre) (M : OpsT K C fOr fAnd fAdd fLe fEq pLv fLv) (MOf : ClX.CMet K C mc "of" pOf fOf) (G_of : FnR P w K mg base CX0 5 fOf (spOf K C)) (G_le : FnR P w K mg base CX0 3 fLe (spLe C)) (C_worst : HasO P w K mg base 3 "worst" ["rule", "age"] (spCall C)) (C_meets : HasO P w K mg base 4 "meets" ["rule", "wish"] (spMeets C)) (C_first_broken : HasO P w K mg base 5 "first_broken" ["rule", "wish"] (spFirst C)) (C_least_lives : HasO P w K mg base 5 "least_lives" ["wish"] (spLeast C)) : Has P w K mg base 8 "_law_wish_right" ["_law_rule_now", "_law_wanted"] (spWishR C) := by
  refine D.has sc_law_wish_right (fun vs H Q E h => ?_) (fun f cdv A outer s H vs Q E gd hr h => ?_)
  · obtain ⟨r, W, ls, xs, ws, rfl, _⟩ := h
    rfl
  · obtain ⟨r, W, ls, xs, ws, rfl, ra, g, eW, tw, wo, w4, wb, k⟩ := h
    refine ⟨_, (pss_cons (ps_setLc (i := 2) (own := [("_law_old", 3), ("_law_far", 4)]) (g := gTup _ 2 (gCons (gName 3) (gCons (gName 4) (gNil)))) (tt := tYes) rfl sc_law_wish_right.nd rfl rfl (sw_true rfl rfl rfl (by decide +kernel)) (pi_tup (pv 1)) (blkOk_by (N := N_law_wish_right) (sc := defScope s_law_wish_right) (by decide +kernel)) (fun _ _ _ _ _ => pg_tup rfl (pgs_cons (pg_name (i := 3) sc_law_wish_right.nd rfl (Or.inl rfl)) (pgs_cons (pg_name (i := 4) sc_law_wish_right.nd rfl (Or.inl rfl)) pgs_nil))) (fun _ _ _ _ _ => pts_nil) (fun _ _ _ _ _ => (pe_hasO C_worst (hr.mono (by decide)) rfl (pa_cons (pv 0) (pa_cons (pv 3) pa_nil)))))
      (pss_cons (ps_set (i := 5) sc_law_wish_right.nd rfl (Or.inl rfl) (pe_callB (cr_all rfl) (by rfl) T.all (by decide +kernel) (pa_cons (pe_lc (own := [("_law_told", 6), ("_law_old", 3), ("_law_far", 4)]) (g := gTup _ 2 (gCons (gName 6) (gCons (gTup _ 2 (gCons (gName 3) (gCons (gName 4) (gNil)))) (gNil)))) (tt := tYes) rfl sc_law_wish_right.nd (pi_zipM rfl T.zip (pa_cons (pv 2) (pa_cons (pv 1) pa_nil))) (blkOk_by (N := N_law_wish_right) (sc := defScope s_law_wish_right) (by decide +kernel)) (fun _ _ _ _ _ => pg_tup rfl (pgs_cons (pg_name (i := 6) sc_law_wish_right.nd rfl (Or.inl rfl)) (pgs_cons (pg_tup rfl (pgs_cons (pg_name (i := 3) sc_law_wish_right.nd rfl (Or.inl rfl)) (pgs_cons (pg_name (i := 4) sc_law_wish_right.nd rfl (Or.inl rfl)) pgs_nil))) pgs_nil))) (fun _ _ _ _ _ => pts_nil) (fun _ _ _ _ _ => (pe_and (pe_cmpR op_notN (pv 6) pe_non (nomark _)) (pe_one (pe_cmpR op_le (pv 6) (pv 4) (nomark _)))))) pa_nil)))
      (pss_cons (ps_if (PW.pt (pw_or (pt_cmpR op_ne (pe_callB (call_reprD gd hr.units) (by rfl) T.repr (by decide +kernel) (pa_cons (pe_hasO C_meets (hr.mono (by decide)) rfl (pa_cons (pv 0) (pa_cons (pv 1) pa_nil))) pa_nil)) (pe_callB (call_reprD gd hr.units) (by rfl) T.repr (by decide +kernel) (pa_cons (pv 5) pa_nil)) (nomark _)) (pw_or1 (pt_cmpR op_ne (pe_cmpR op_isN (pe_hasO C_first_broken (hr.mono (by decide)) rfl (pa_cons (pv 0) (pa_cons (pv 1) pa_nil))) pe_non (nomark _)) (pv 5) (nomark _))))) (pss_one (ps_ret pe_bl)) pss_nil)
      (pss_one (ps_ret (pe_cmpR op_eq (pe_callB (cr_any rfl) (by rfl) T.any (by decide +kernel) (pa_cons (pe_lc (own := [("_law_lives_here", 7)]) (g := gName 7) (tt := tYes) rfl sc_law_wish_right.nd (pi_tup (pe_hasO C_least_lives (hr.mono (by decide)) rfl (pa_cons (pv 1) pa_nil))) (blkOk_by (N := N_law_wish_right) (sc := defScope s_law_wish_right) (by decide +kernel)) (fun _ _ _ _ _ => pg_name (i := 7) sc_law_wish_right.nd rfl (Or.inl rfl)) (fun _ _ _ _ _ => pts_nil) (fun _ _ _ _ _ => (pe_cmpR (op_ownC (fun _ _ => rfl) M.le G_le (hr.mono (by decide))) (ClX.pe_cmeth (pe_glob (v := .ref C) rfl R.m_Rule rfl) R.rd MOf G_of (hr.mono (by decide)) pass0 (pa_cons (pv 7) pa_nil)) (pv 0) (nomark _)))) pa_nil)) (pv 5) (nomark _))))))), ?_⟩
    have gm := g.most
    have xl : xs.length = ws.length := by rw [tw.length, List.length_map]
    refine ⟨_, rfl, W, rfl, ⟨_, SqT.of eW⟩, fun D hD => lc_tup (xs := xs) (fun i H' => Same H H' ∧ H' D = some (.lst ((ws.take i).map fun p => lv (due 0 ls p.1)))) ⟨same_upd hD, upd_same⟩ (fun i H' _ z => SqT.of (z.1 _ _ eW)) ?_ ?_⟩
    · rintro i x H2 hx ⟨s2, eD⟩
      obtain ⟨u, p2, rfl, hpi, hu⟩ := wE_get tw hx
      have et : ws.take (i + 1) = ws.take i ++ [p2] := by rw [List.take_add_one, hpi]; rfl
      refine ⟨u, _, rfl, SqT.of (s2 _ _ hu), rfl, _, _, rfl, _, _, rfl, rfl, rfl, ?_⟩
      refine ⟨_, rfl, _, rfl, r, p2.1, ls, rfl, ra.same s2, gm, ?_⟩
      refine ⟨_, eD, small1000 (by rw [List.length_map, List.length_take]; omega), fun b o z => ?_, ?_⟩
      · rw [upd_ne (ne_of_none z hD)]
        exact s2 b o z
      · rw [upd_same, et, List.map_append]
        rfl
    rintro H1 ⟨s1, eD⟩
    rw [xl, List.take_length] at eD
    refine gN_st (σ' := [some (.ref r), some (.ref W), some (.ref D), none, none, none, none, none]) rfl ?_
    have eW1 := s1 _ _ eW
    have tw1 := tw.same s1
    have ra1 := ra.same s1
    dsimp only
    refine ⟨_, rfl, _, rfl, D, W, _, xs, rfl, SqL.of eD, SqT.of eW1, fun D2 hD2 => lc_it (walk_zipM (xs := ws.map fun p => lv (due 0 ls p.1)) (ys := xs) (n := ws.length) (by rw [List.length_map, xl]; omega)) (fun i H' => H' D2 = some (.lst (((ws.take i).map (okAt ls)).map V.bl)) ∧ Same H1 H') ⟨upd_same, same_upd hD2⟩
      (fun i H' _ z => ⟨SqL.of (z.2 _ _ eD), SqT.of (z.2 _ _ eW1)⟩) ?_ ?_⟩
    · rintro i x H4 H5 hi ⟨e4, sm4⟩ ⟨t, x0, y0, rfl, ht, rfl, hx0, hy0⟩
      obtain ⟨u, p2, rfl, hpi, hu⟩ := wE_get tw1 hy0
      have hx0' : (ws.map fun p => lv (due 0 ls p.1))[i]? = some x0 := hx0
      rw [List.getElem?_map, hpi] at hx0'
      obtain rfl : lv (due 0 ls p2.1) = x0 := Option.some.inj hx0'
      have s5 := sm4.trans (same_upd (o := .tup [lv (due 0 ls p2.1), V.ref u]) ht)
      have et : ws.take (i + 1) = ws.take i ++ [p2] := by rw [List.take_add_one, hpi]; rfl
      refine ⟨t, _, rfl, SqT.of upd_same, rfl, _, _, rfl, _, _, rfl, u, _, rfl, SqT.of (s5 _ _ hu), rfl, _, _, rfl, _, _, rfl, rfl, rfl, rfl, ?_⟩
      unfold tYes
      refine ite2 (fun _ => ?_) (fun z => absurd rfl z)
      have nt : D2 ≠ t := ne_of_none e4 ht
      have fin : okAt ls p2 = okAt ls p2 → ∃ acc, (upd H4 t (.tup [lv (due 0 ls p2.1), V.ref u])) D2 = some (.lst acc) ∧ acc.length < sizeLine ∧ upd (upd H4 t (.tup [lv (due 0 ls p2.1), V.ref u])) D2 (.lst (acc ++ [V.bl (okAt ls p2)])) D2 = some (.lst (((ws.take (i + 1)).map (okAt ls)).map V.bl)) ∧ Same H1 (upd (upd H4 t (.tup [lv (due 0 ls p2.1), V.ref u])) D2 (.lst (acc ++ [V.bl (okAt ls p2)]))) := fun _ => by
        refine ⟨_, Eq.trans (upd_ne nt) e4, small1000 (by rw [List.length_map, List.length_map, List.length_take]; omega), ?_, fun b o z => ?_⟩
        · rw [upd_same, et, List.map_append, List.map_append]
          rfl
        · rw [upd_ne (ne_of_none z hD2)]
          exact s5 b o z
      have fin := fin rfl
      unfold okAt at fin
      cases e : due 0 ls p2.1 with
      | none =>
        rw [e] at fin
        exact ⟨_, rfl, rfl, _, rfl, ite2 (fun z => absurd z (by decide)) (fun _ => fin)⟩
      | some d =>
        rw [e] at fin
        exact ⟨_, rfl, rfl, _, rfl, ite2 (fun _ => ⟨_, rfl, _, rfl, _, _, rfl, rfl, fin⟩) (fun z => absurd rfl z)⟩
    rintro H4 ⟨e4, sm4⟩
    rw [List.take_length] at e4
    refine ⟨D2, ws.map (okAt ls), rfl, SqL.of e4, ?_⟩
    have ea : (ws.map (okAt ls)).all _root_.id = ws.all (okAt ls) := by rw [List.all_map]; rfl
    rw [ea]
    refine gN_st (σ' := [some (.ref r), some (.ref W), some (.ref D), none, none, some (.bl (ws.all (okAt ls))), none, none]) rfl ?_
    have s14 := s1.trans sm4
    have ra4 := ra.same s14
    have eW4 := s14 _ _ eW
    have tw4 := tw.same s14
    have nn : ∀ p ∈ ws, 0 ≤ p.1 ∧ 0 ≤ p.2 := fun p hp => ⟨(wo.bd p hp).1, (wo.bd p hp).2.2.1⟩
    have al := any_least wo g
    have fbn := fb_none (ls := ls) ws nn
    generalize hA : ws.all (okAt ls) = A at *
    dsimp only
    refine seq_if (fun H6 s6 => ?_) (fun k' hk' => ?_)
    rotate_left
    · refine or_first2 (fun HA sA => ?_) (fun k2 hk2 => ?_)
      rotate_left
      · refine ⟨_, rfl, _, rfl, r, W, ls, xs, ws, rfl, ra4, gm, eW4, tw4, wo.most, fun HB sB => ?_⟩
        rw [hA]
        obtain ⟨q1, q2, q3, q4⟩ := rep_bool A
        refine ⟨.bl A, .bool A, rfl, .bl A, q1, q2, q3, q4, _, rfl, .bl A, .bool A, rfl, .bl A, q1, q2, q3, q4, rfl, _, rfl, ?_⟩
        rw [decide_eq_true rfl]
        exact hk2 _ sB
      · refine ⟨_, rfl, _, rfl, r, W, ls, xs, ws, rfl, ra4.same sA, g.pos, gm, sA _ _ eW4, tw4.same sA, fun hn HB sB => ?_, fun b hb t HB sB eB => ?_⟩
        · have : A = true := fbn.mp hn
          subst this
          exact ⟨rfl, _, rfl, rfl, _, rfl, hk' _ (sA.trans sB)⟩
        · have : A = false := by
            cases A with
            | false => rfl
            | true =>
              rw [fbn.mpr rfl] at hb
              cases hb
          subst this
          exact ⟨rfl, _, rfl, rfl, _, rfl, hk' _ (sA.trans sB)⟩
    have ra6 := ra4.same s6
    have eW6 := s6 _ _ eW4
    have tw6 := tw4.same s6
    have s16 := s14.trans s6
    refine ⟨_, rfl, W, xs, ws, rfl, eW6, tw6, wo, w4, fun p hp => (wb p hp).2, fun Z ys H7 hZ s7 eZ tZ => ?_⟩
    obtain ⟨y1, y2, y3⟩ := tZ.relL.zip
    have yl := least_len wo w4 fun p hp => (wb p hp).2
    refine ⟨Z, rfl, ⟨_, SqT.of eZ⟩, fun D3 hD3 => lc_genT (ks := ys.zip (leastL ws)) (f := Prod.fst) (p := fun _ => true) (e := fun q => V.bl (leL (short (q.2.map some)) ls)) hD3 (SqT.of (by rw [y1]; exact eZ)) (by rw [sizeLine_eq, List.length_zip]; omega) (fun q H' hq s8 N Sk hN hS => ?_) (fun H8 s8 eD3 => ?_)⟩
    · obtain ⟨t, et, ht⟩ := y3 q hq
      have hq2 : q.2 ∈ leastL ws := by rw [← y2]; exact List.mem_map.mpr ⟨q, hq, rfl⟩
      obtain ⟨hp, _⟩ := (mem_leastL wo).mp hq2
      have gq := least_good wo (fun p hp => by have := wb p hp; omega) hp
      have ht' := s8 _ _ ht
      have em : q.2.map V.int = (q.2.map some).map lv := by rw [List.map_map]; rfl
      rw [em] at ht'
      refine ⟨rfl, ?_⟩
      unfold tYes
      refine ite2 (fun _ => ?_) (fun z => absurd rfl z)
      refine ⟨rfl, _, rfl, t, q.2.map some, congrArg (fun z => [V.ref C, z]) et, SqT.of ht', gq, fun r2 H9 s9 ra2 => ?_⟩
      have ra9 := ((ra6.same s7).same s8).same s9
      obtain ⟨d1, t1, h11, h12⟩ := id ra2
      obtain ⟨d2, t2, h21, h22⟩ := id ra9
      have b := short_len_le (q.2.map some)
      have gl := gq.most
      refine ⟨_, rfl, r2, r, d1, d2, _, _, rfl, rfl, h11, h21, r2, r, _, _, rfl, ra2, ra9, short_len_pos gq.pos, g.pos, by omega, by omega, fun HA sA => ?_⟩
      exact hN rfl _ (s9.trans sA)
    · rw [List.filter_eq_self.mpr (fun _ _ => rfl)] at eD3
      have em : (ys.zip (leastL ws)).map (fun q => V.bl (leL (short (q.2.map some)) ls)) = ((leastL ws).map fun q => leL (short (q.map some)) ls).map V.bl := by
        conv => rhs; rw [← y2]
        rw [List.map_map, List.map_map]
        rfl
      rw [em] at eD3
      refine ⟨D3, _, rfl, SqL.of eD3, ?_⟩
      have ea2 : ((leastL ws).map fun q => leL (short (q.map some)) ls).any _root_.id = A := by
        rw [List.any_map, ← al]
        rfl
      rw [ea2]
      refine ⟨_, rfl, rfl, ?_⟩
      rw [decide_eq_true rfl]
      exact k _ (s16.trans (s7.trans s8))
end
/-! SPLIT -/
abbrev s_law_right : Stmt := (top 55)
abbrev N_law_right : List Str := ["_law_pool_here", "_law_turn", "_law_rule_now", "_law_small", "_law_again"]
theorem sc_law_right : FnScope N_law_right ["_law_pool_here"] (defScope s_law_right) :=
  ⟨rfl, rfl, rfl, by decide +kernel, rfl, by decide +kernel, by decide +kernel⟩
abbrev s_law : Stmt := (top 56)
abbrev N_law : List Str := ["_law_script", "_law_k"]
theorem sc_law : FnScope N_law ["_law_script"] (defScope s_law) :=
  ⟨rfl, rfl, rfl, by decide +kernel, rfl, by decide +kernel, by decide +kernel⟩
def spLaw (K : PySem.W.Frag) : Sp := fun vs H Q _ => ∃ (a : Addr) (ns : List Int), vs = [.ref a] ∧ SqL K H a (ns.map V.int) ∧ ns.length ≤ 63 ∧ ∀ H', Q (.bl true) H'
def spRight : Sp := fun vs H Q _ => ∃ (a : Addr), vs = [.ref a] ∧ PotAt H a 0 ∧ ∀ H', But a H H' → Q (.bl true) H'
theorem two_of (L : Nat) : ∃ n : Nat, (if (if (L : Int) < 2 then (L : Int) else 2) > 1 then (if (L : Int) < 2 then (L : Int) else 2) else 1) = (n : Int) ∧ 1 ≤ n ∧ n ≤ 2 := by
  by_cases h : (L : Int) < 2
  · rw [if_pos h]
    by_cases h1 : (L : Int) > 1
    · rw [if_pos h1]
      exact ⟨L, rfl, by omega, by omega⟩
    · rw [if_neg h1]
      exact ⟨1, rfl, by omega, by omega⟩
  · rw [if_neg h]
    exact ⟨2, rfl, by omega, by omega⟩
section
variable {P : Program} {w : World} {K : PySem.W.Frag} {mg : Str → Option Value} {base : Heap}
theorem ok_law {kr : Nat} (hk : 1 ≤ kr) (D : Df K mg "law" s_law ["_law_script"]) (T : Bl mg) (C_law_pool : Has P w K mg base 1 "_law_pool" ["_law_script", "_law_k"] (spPot K)) (C_law_right : Has P w K mg base kr "_law_right" ["_law_pool_here"] spRight) : Has P w K mg base (kr + 1) "law" ["_law_script"] (spLaw K) := by
  refine D.has sc_law (fun vs H Q E h => ?_) (fun f cdv A outer s H vs Q E gd hr0 h => ?_)
  · obtain ⟨a, ns, rfl, _⟩ := h
    rfl
  · obtain ⟨a, ns, rfl, hS, hl, k⟩ := h
    refine ⟨_, (pss_one (ps_ret (pe_callB (cr_all rfl) (by rfl) T.all (by decide +kernel) (pa_cons (pe_lc (own := [("_law_k", 1)]) (g := gName 1) (tt := tYes) rfl sc_law.nd (pi_range1 rfl T.range (pa_cons (pe_callB (call_max2 rfl) (by rfl) T.max (by decide +kernel) (pa_cons pe_int (pa_cons (pe_callB (call_min2 rfl) (by rfl) T.min (by decide +kernel) (pa_cons pe_int (pa_cons (pe_callB call_len_seq (by rfl) T.len PySem.boot_len (pa_cons (pv 0) pa_nil)) pa_nil))) pa_nil))) pa_nil)) (blkOk_by (N := N_law) (sc := defScope s_law) (by decide +kernel)) (fun _ _ _ _ _ => pg_name (i := 1) sc_law.nd rfl (Or.inl rfl)) (fun _ _ _ _ _ => pts_nil) (fun _ _ _ _ _ => (pe_has C_law_right gd hr0 rfl (pa_cons (pe_has C_law_pool gd (hr0.mono hk) rfl (pa_cons (pv 0) (pa_cons (pv 1) pa_nil))) pa_nil)))) pa_nil)))), ?_⟩
    obtain ⟨n, en, hn⟩ := two_of (ns.map V.int).length
    refine ⟨_, rfl, _, _, rfl, .inl hS, _, _, rfl, _, _, rfl, (n : Int), congrArg (fun z => [V.int z]) en, by omega, by omega, fun D2 hD2 => lc_range (lo := 0) (n := (n : Int).toNat) (fun i H2 => H2 D2 = some (.lst (List.replicate i (.bl true))) ∧ Same H H2) ⟨upd_same, same_upd hD2⟩ ?_ ?_⟩
    · rintro i H2 hi ⟨e2, sm2⟩
      refine ⟨rfl, _, rfl, _, rfl, a, ns, i, by rw [Int.zero_add]; rfl, sm2.seq hS, hl, by omega, fun p H3 np s3 p3 => ?_⟩
      refine ⟨p, rfl, p3, fun H4 b4 => ?_⟩
      have nD : D2 ≠ p := ne_of_none e2 np
      have e4 : H4 D2 = some (.lst (List.replicate i (.bl true))) := b4 _ _ (s3 _ _ e2) nD
      refine ⟨_, e4, ?_, ?_, ?_⟩
      · rw [List.length_replicate]
        exact Nat.lt_of_lt_of_le (show i < 4 by omega) (by decide)
      · rw [upd_same, List.replicate_succ']
      · intro b o z
        have z2 := sm2 b o z
        have nb : b ≠ D2 := ne_of_none z hD2
        rw [upd_ne nb]
        exact b4 b o (s3 b o z2) (ne_of_none z2 np)
    · rintro H2 ⟨e2, sm2⟩
      refine ⟨D2, List.replicate (n : Int).toNat true, rfl, SqL.of (by rw [e2, List.map_replicate]), ?_⟩
      have ea : (List.replicate (n : Int).toNat true).all _root_.id = true := by simp
      rw [ea]
      exact k _
end
section
variable {P : Program} {w : World} {K : PySem.W.Frag} {mg : Str → Option Value} {base : Heap} {C CR : Addr} {mc : Value}
theorem ok_right (D : Df K mg "_law_right" s_law_right ["_law_pool_here"]) (T : Bl mg) (C_law_pick : Has P w K mg base 2 "_law_pick" ["_law_pool_here", "_law_some"] (spPick K)) (C_law_rule : Has P w K mg base 6 "_law_rule" ["_law_pool_here", "_law_top", "_law_upto"] (spRuleL C)) (C_law_wish : Has P w K mg base 3 "_law_wish" ["_law_pool_here", "_law_top", "_law_upto"] spWishP) (C_law_promise_right : Has P w K mg base 8 "_law_promise_right" ["_law_rule_now"] (spPromR C)) (C_law_wish_right : Has P w K mg base 8 "_law_wish_right" ["_law_rule_now", "_law_wanted"] (spWishR C)) : Has P w K mg base 9 "_law_right" ["_law_pool_here"] spRight := by
  refine D.has sc_law_right (fun vs H Q E h => ?_) (fun f cdv A outer s H vs Q E gd hr h => ?_)
  · obtain ⟨a, rfl, _⟩ := h
    rfl
  · obtain ⟨a, rfl, hp, k⟩ := h
    refine ⟨_, (pss_cons (ps_for PassesOwn.never rfl (pi_range1 rfl T.range (pa_cons pe_int pa_nil)) (pg_name (i := 1) sc_law_right.nd rfl (Or.inl rfl)) (pss_cons (ps_set (i := 2) sc_law_right.nd rfl (Or.inl rfl) (pe_has C_law_rule gd (hr.mono (by decide)) rfl (pa_cons (pv 0) (pa_cons (pe_has C_law_pick gd (hr.mono (by decide)) rfl (pa_cons (pv 0) (pa_cons (pe_lst (pa_cons pe_int (pa_cons pe_int (pa_cons (pe_op op_pow pe_int pe_int) pa_nil)))) pa_nil))) (pa_cons pe_int pa_nil)))))
      (pss_cons (ps_if (pt_not (pt_val (pe_has C_law_promise_right gd (hr.mono (by decide)) rfl (pa_cons (pv 2) pa_nil)))) (pss_one (ps_ret pe_bl)) pss_nil)
      (pss_cons (ps_set (i := 3) sc_law_right.nd rfl (Or.inl rfl) (pe_has C_law_rule gd (hr.mono (by decide)) rfl (pa_cons (pv 0) (pa_cons pe_int (pa_cons pe_int pa_nil)))))
      (pss_one (ps_for PassesOwn.never rfl (pi_range1 rfl T.range (pa_cons pe_int pa_nil)) (pg_name (i := 4) sc_law_right.nd rfl (Or.inl rfl)) (pss_one (ps_if (pt_not (pt_val (pe_has C_law_wish_right gd (hr.mono (by decide)) rfl (pa_cons (pv 3) (pa_cons (pe_has C_law_wish gd (hr.mono (by decide)) rfl (pa_cons (pv 0) (pa_cons pe_int (pa_cons pe_int pa_nil)))) pa_nil))))) (pss_one (ps_ret pe_bl)) pss_nil))))))))
      (pss_one (ps_ret pe_bl))), ?_⟩
    refine ⟨4, rfl, by decide, by decide, for_range (n := 4) (fun i σ H' => (∃ v1 v2 v3 v4, σ = [some (.ref a), v1, v2, v3, v4]) ∧ PotAt H' a (1000 * i) ∧ But a H H') ⟨⟨_, _, _, _, rfl⟩, hp, But.refl⟩ ?_ ?_⟩
    · rintro i σ H1 hi ⟨⟨v1, v2, v3, v4, rfl⟩, p1, b1⟩
      refine gN_st (σ' := [some (.ref a), some (.int (0 + (i : Int))), v2, v3, v4]) rfl ?_
      refine ⟨_, rfl, _, rfl, _, _, rfl, rfl, ⟨by decide, by decide, by decide⟩, by show 3 ≤ sizeLine; decide, fun Mm hM => ?_⟩
      refine ⟨a, Mm, _, _, rfl, p1.same (same_upd hM), by omega, SqL.of upd_same, (p1.ne hM).symm, by show 0 < 3; decide, by show 3 ≤ 1000; decide, fun v H2 hv p2 b2 => ?_⟩
      obtain ⟨top, rfl, t0, t1⟩ : ∃ top : Int, v = .int top ∧ 0 ≤ top ∧ top ≤ 10 ^ 18 := by
        rcases List.mem_cons.mp hv with rfl | hv
        · exact ⟨_, rfl, by decide, by decide⟩
        rcases List.mem_cons.mp hv with rfl | hv
        · exact ⟨_, rfl, by decide, by decide⟩
        · rw [List.mem_singleton.mp hv]
          exact ⟨_, rfl, by decide, by decide⟩
      refine ⟨a, _, top, 5, rfl, p2, by omega, t0, t1, by decide, by decide, fun r ls0 H3 ra0 g0 l0 p3 b3 => ?_⟩
      refine gN_st (σ' := [some (.ref a), some (.int (0 + (i : Int))), some (.ref r), v3, v4]) rfl ?_
      have b03 : But a H H3 := b1.trans ((But.of (same_upd hM)).trans (b2.trans b3))
      have g := good_short g0
      have gl := short_len_le ls0
      dsimp only
      refine seq_if (fun H4 s4 => ?_) (fun k' hk' => ?_)
      rotate_left
      · exact ⟨_, rfl, r, _, rfl, ra0, g, by omega, fun HA sA => ⟨_, rfl, hk' _ sA⟩⟩
      have p4 := p3.same s4
      refine ⟨_, rfl, a, _, 9, 5, rfl, p4, by omega, by decide, by decide, by decide, by decide, fun r2 ls2 H5 ra2 g2 l2 p5 b5 => ?_⟩
      refine gN_st (σ' := [some (.ref a), some (.int (0 + (i : Int))), some (.ref r), some (.ref r2), v4]) rfl ?_
      have b05 := b03.trans ((But.of s4).trans b5)
      have gg := good_short g2
      dsimp only
      refine ⟨2, rfl, by decide, by decide, for_range (n := 2) (fun j σ H' => (∃ v4, σ = [some (.ref a), some (.int (0 + (i : Int))), some (.ref r), some (.ref r2), v4]) ∧ PotAt H' a (1000 * i + 500 + 100 * j) ∧ But a H H' ∧ RuleAt C H' r2 (short ls2)) ⟨⟨_, rfl⟩, p5.mono (by omega), b05, ra2⟩ ?_ ?_⟩
      · rintro j σ H6 hj ⟨⟨v4, rfl⟩, p6, b6, ra6⟩
        refine gN_st (σ' := [some (.ref a), some (.int (0 + (i : Int))), some (.ref r), some (.ref r2), some (.int (0 + (j : Int)))]) rfl ?_
        refine ⟨_, rfl, _, rfl, a, _, rfl, p6, by omega, fun W xs ws H7 eW tW wo w4 wb p7 b7 => ?_⟩
        have ra7 := ra6.but p6 b7
        refine ⟨r2, W, short ls2, xs, ws, rfl, ra7, gg, eW, tW, wo, w4, wb, fun H8 s8 => ?_⟩
        refine ⟨_, rfl, ite2 (fun z => absurd z (by decide)) (fun _ => ⟨⟨_, rfl⟩, (p7.same s8).mono (by omega), b6.trans (b7.trans (But.of s8)), ra7.same s8⟩)⟩
      · rintro σ H6 ⟨⟨v4, rfl⟩, p6, b6, ra6⟩
        exact ⟨⟨_, _, _, _, rfl⟩, p6.mono (by omega), b6⟩
    · rintro σ H1 ⟨⟨v1, v2, v3, v4, rfl⟩, p1, b1⟩
      exact k _ b1
end
/-! SPLIT -/
theorem all_mk {l : PySem.W.OpenLaw} {w : World} {K : PySem.W.Frag} {mg : Str → Option Value} {base : Heap} {C CR : Addr} {mc : Value} {fInit pAre fAre pOf fOf fCall fReck fOr fAnd fAdd fLe fEq pLv fLv : Addr} {fdInit fdAre fdOf fdCall fdReck fdOr fdAnd fdAdd fdLe fdEq fdLv : FuncData} (T : Bl mg) (R : RuleT K mg C CR mc fInit pAre fAre fdAre)
    (R2 : Rule2T K C CR fReck fdReck) (M : OpsT K C fOr fAnd fAdd fLe fEq pLv fLv)
    (FI : Fun K "__init__" "Rule.__init__" s_Rule___init__ fInit fdInit) (FA : Fun K "are_lives" "Rule.are_lives" s_Rule_are_lives fAre fdAre) (FO : Fun K "of" "Rule.of" s_Rule_of fOf fdOf) (MOf : ClX.CMet K C mc "of" pOf fOf) (FC : Fun K "__call__" "Rule.__call__" s_Rule___call__ fCall fdCall) (MCall : StX.CallO K C fCall)
    (FR : Fun K "__init__" "Reckoned.__init__" s_Reckoned___init__ fReck fdReck) (FOr : Fun K "__or__" "Rule.__or__" s_Rule___or__ fOr fdOr) (FAn : Fun K "__and__" "Rule.__and__" s_Rule___and__ fAnd fdAnd) (FAd : Fun K "__add__" "Rule.__add__" s_Rule___add__ fAdd fdAdd) (FLe : Fun K "__le__" "Rule.__le__" s_Rule___le__ fLe fdLe)
    (FEq : Fun K "__eq__" "Rule.__eq__" s_Rule___eq__ fEq fdEq) (FLv : Fun K "lives" "Rule.lives" s_Rule_lives fLv fdLv) (hMS : ∃ t, mg "MOST_STEPS" = some (.int 12 t)) (hGr : ∃ t, mg "GREATEST" = some (.int 1000000000000000000 t)) (hLS : ∃ t, mg "MOST_LISTED_STEPS" = some (.int 4 t)) (hLD : ∃ t, mg "GREATEST_LISTED_DISTANCE" = some (.int 63 t))
    (D_is_natural : Df K mg "is_natural" s_is_natural ["value"]) (D_is_pair : Df K mg "is_pair" s_is_pair ["value"]) (D_at_most : Df K mg "at_most" s_at_most ["one", "other"]) (D_lesser : Df K mg "lesser" s_lesser ["one", "other"]) (D_greater : Df K mg "greater" s_greater ["one", "other"]) (D_restore_point : Df K mg "restore_point" s_restore_point ["rule", "tick", "age"]) (D_distance : Df K mg "distance" s_distance ["rule", "tick", "age"]) (D_bands : Df K mg "_bands" s_bands ["rule", "tick"]) (D_worst : Df K mg "worst" s_worst ["rule", "age"]) (D_worst_tick : Df K mg "worst_tick" s_worst_tick ["rule", "age"]) (D_promised : Df K mg "promised" s_promised ["rule"]) (D_shortest : Df K mg "shortest" s_shortest ["lives"]) (D_life_at : Df K mg "life_at" s_life_at ["lives", "at"]) (D_side_by_side : Df K mg "side_by_side" s_side_by_side ["lives", "others"]) (D_is_wish : Df K mg "is_wish" s_is_wish ["value"]) (D_meets : Df K mg "meets" s_meets ["rule", "wish"]) (D_first_broken : Df K mg "first_broken" s_first_broken ["rule", "wish"]) (D_shows_broken : Df K mg "shows_broken" s_shows_broken ["rule", "wish", "value"]) (D_least_lives : Df K mg "least_lives" s_least_lives ["wish"]) (D_is_step : Df K mg "_is_step" s_is_step ["value"]) (D_first_beyond : Df K mg "_first_beyond" s_first_beyond ["rule", "wished"]) (D_widest : Df K mg "_widest" s_widest ["wished"]) (D_longer : Df K mg "_longer" s_longer ["plans", "age", "wished"]) (D_ascending : Df K mg "_ascending" s_ascending ["rows"]) (D_law_pool : Df K mg "_law_pool" s_law_pool ["_law_script", "_law_k"]) (D_law_draw : Df K mg "_law_draw" s_law_draw ["_law_pool_here", "_law_limit"]) (D_law_pick : Df K mg "_law_pick" s_law_pick ["_law_pool_here", "_law_some"]) (D_law_lives : Df K mg "_law_lives" s_law_lives ["_law_pool_here", "_law_top", "_law_upto"]) (D_law_rule : Df K mg "_law_rule" s_law_rule ["_law_pool_here", "_law_top", "_law_upto"]) (D_law_wish : Df K mg "_law_wish" s_law_wish ["_law_pool_here", "_law_top", "_law_upto"]) (D_law_is_broken_at : Df K mg "_law_is_broken_at" s_law_is_broken_at ["_law_rule_now", "_law_wanted", "_law_old"]) (D_law_promise_right : Df K mg "_law_promise_right" s_law_promise_right ["_law_rule_now"]) (D_law_wish_right : Df K mg "_law_wish_right" s_law_wish_right ["_law_rule_now", "_law_wanted"]) (D_law_right : Df K mg "_law_right" s_law_right ["_law_pool_here"]) (D_law : Df K mg "law" s_law ["_law_script"]) :
    Has l.prog w K mg base 10 "law" ["_law_script"] (spLaw K) :=
  let nat := ok_natural (P := l.prog) (w := w) (base := base) D_is_natural T
  let natQ := ok_natQ (P := l.prog) (w := w) (base := base) D_is_natural T
  let are := ok_are FA T R nat
  let sho := ok_shortest (P := l.prog) (w := w) (base := base) D_shortest T
  let init := ok_init FI T R are sho
  let initR := ok_initR FI T R R2 are sho
  let gof := fnR_ok (ok_of FO T R are init) (FO.binds (ps := ["cls", "lives"]) fun _ _ _ _ _ _ us hl => match us, hl with | [_, _], _ => rfl)
  let am := ok_at_most (P := l.prog) (w := w) (base := base) D_at_most
  let side := ok_side (P := l.prog) (w := w) (base := base) D_side_by_side T (ok_life_at D_life_at T)
  let reck := ok_reck (P := l.prog) (w := w) (mg := mg) (base := base) FR R2
  let g_le := fnR_ok (ok_le FLe T R side am) (FLe.binds (ps := ["self", "other"]) fun _ _ _ _ _ _ us hl => match us, hl with | [_, _], _ => rfl)
  let gcall := fnR_ok (ok_call FC T R am) (FC.binds (ps := ["self", "age"]) fun _ _ _ _ _ _ us hl => match us, hl with | [_, _], _ => rfl)
  let bLv := FLv.binds (ps := ["self"]) fun _ _ _ _ _ _ us hl => match us, hl with | [_], _ => rfl
  let lives := ok_livesP (P := l.prog) (w := w) (base := base) (mg := mg) FLv R
  let les := ok_lesser (P := l.prog) (w := w) (base := base) D_lesser am
  let bands := ok_bands D_bands T R M.lv lives bLv am
  let rp := ok_rp D_restore_point bands les
  let dist := ok_dist D_distance rp
  let wor := ok_worstP D_worst MCall gcall
  let prm := ok_promised D_promised T R M.lv lives bLv am
  let mts := ok_meets D_meets T wor am
  let fst := ok_first D_first_broken (ok_beyond D_first_beyond prm) am (ok_wt D_worst_tick T R M.lv lives bLv wor)
  let shb := ok_showsB D_shows_broken (ok_pair D_is_pair T nat) dist am
  let wis := ok_wishQ D_is_wish T hMS (ok_stepQ D_is_step T hGr (ok_pairQ D_is_pair T natQ))
  let wid := ok_widest (P := l.prog) (w := w) (base := base) D_widest T
  let lst := ok_least D_least_lives T R R2 M reck initR g_le lives bLv hLS hLD (ok_longer D_longer T wid) (ok_asc D_ascending T)
  let take := ok_take (P := l.prog) (w := w) (base := base) D_law_draw T
  let pick := ok_pick D_law_pick T take
  let rul := ok_ruleL D_law_rule T R MOf gof (ok_lives D_law_lives T take pick)
  ok_law (by decide) D_law T (ok_pot D_law_pool T) (ok_right D_law_right T pick rul (ok_wishP D_law_wish T take pick) (ok_promR D_law_promise_right T prm mts fst (ok_brokenAt D_law_is_broken_at wis fst mts shb)) (ok_wishR D_law_wish_right T R M MOf gof g_le wor mts fst lst))
end Rk
open PySem PySem.W L2 in
set_option maxHeartbeats 0 in
theorem Rk.end_mk {l : OpenLaw} {w : World} {K : Frag} {mg : Str → Option Value} {h base : Heap} (X : K.In h) (G : h.Ns mainGlobals mg) {C CR : Addr} {tL tM : Tok} {pA pO : Addr} {rA rO : List Value}
    (aC : nsIn K mainGlobals "Rule" = some (some (.ref C)))
    (aR : nsIn K mainGlobals "Reckoned" = some (some (.ref CR)))
    (aL : nsIn K mainGlobals "LONGEST_LIFE" = some (some (.int 1000000000000000000 tL)))
    {fI : Addr} {ocI kVI docI pmI cdvI ctI : Value} {odI anI : Option Addr} {oslI : Array (Option Value)}
    {fA : Addr} {ocA kVA docA pmA cdvA ctA : Value} {odA anA : Option Addr} {oslA : Array (Option Value)}
    {fO : Addr} {ocO kVO docO pmO cdvO ctO : Value} {odO anO : Option Addr} {oslO : Array (Option Value)}
    {fK : Addr} {ocK kVK docK pmK cdvK ctK : Value} {odK anK : Option Addr} {oslK : Array (Option Value)}
    {fR : Addr} {ocR kVR docR pmR cdvR ctR : Value} {odR anR : Option Addr} {oslR : Array (Option Value)}
    {fOr : Addr} {ocOr kVOr docOr pmOr cdvOr ctOr : Value} {odOr anOr : Option Addr} {oslOr : Array (Option Value)}
    {fAn : Addr} {ocAn kVAn docAn pmAn cdvAn ctAn : Value} {odAn anAn : Option Addr} {oslAn : Array (Option Value)}
    {fAd : Addr} {ocAd kVAd docAd pmAd cdvAd ctAd : Value} {odAd anAd : Option Addr} {oslAd : Array (Option Value)}
    {fLe : Addr} {ocLe kVLe docLe pmLe cdvLe ctLe : Value} {odLe anLe : Option Addr} {oslLe : Array (Option Value)}
    {fEq : Addr} {ocEq kVEq docEq pmEq cdvEq ctEq : Value} {odEq anEq : Option Addr} {oslEq : Array (Option Value)}
    {fLv : Addr} {ocLv kVLv docLv pmLv cdvLv ctLv : Value} {odLv anLv : Option Addr} {oslLv : Array (Option Value)}
    (aI : findIn K (.ref C) "__init__" = some (some (.ref fI)))
    (aA : findCls K (.ref C) (.type "type") "are_lives" = some (.get (.builtin "staticmethod.__get__") (.ref pA) .none (.ref C)))
    (xA : recIn K pA "staticmethod" = some (.ref fA :: rA))
    (aO : findCls K (.ref C) (.type "type") "of" = some (.get (.builtin "classmethod.__get__") (.ref pO) .none (.ref C)))
    (xO : recIn K pO "classmethod" = some (.ref fO :: rO))
    (aK : findIn K (.ref C) "__call__" = some (some (.ref fK)))
    {pLv : Addr} {rLv : List Value} {foI roI : Option Value}
    (aRk : findIn K (.ref CR) "__init__" = some (some (.ref fR)))
    (aOr : findIn K (.ref C) "__or__" = some (some (.ref fOr)))
    (iOr : isFn K (.ref fOr) = true)
    (aAn : findIn K (.ref C) "__and__" = some (some (.ref fAn)))
    (iAn : isFn K (.ref fAn) = true)
    (aAd : findIn K (.ref C) "__add__" = some (some (.ref fAd)))
    (iAd : isFn K (.ref fAd) = true)
    (aLe : findIn K (.ref C) "__le__" = some (some (.ref fLe)))
    (iLe : isFn K (.ref fLe) = true)
    (aEq : findIn K (.ref C) "__eq__" = some (some (.ref fEq)))
    (iEq : isFn K (.ref fEq) = true)
    (aLv : findIn K (.ref C) "lives" = some (some (.ref pLv)))
    (gLv : specialIn K (.ref pLv) "__get__" = some (some (.builtin "property.__get__")))
    (tLv : takesIn K (.ref pLv) = some true)
    (xLv : recIn K pLv "property" = some (.ref fLv :: rLv))
    (sF : selfFirst K C = true)
    (rvA : findIn K (.ref C) (dunderR (Operator.Add).info.2) = some none)
    (foA : findIn K (.type "int") (PySem.dunder (Operator.Add).info.2) = some foI)
    (roA : findIn K (.type "int") (dunderR (Operator.Add).info.2) = some roI)
    (suA : subIn K (.type "int") (.ref C) = some false)
    (neE : findIn K (.ref C) "__ne__" = some (some (.builtin "object.__ne__")))
    (obE : mroIn K C (.type "object") = some true)
    (p1 : plainGet K CR Str.empty = true)
    (p2 : hasDictIn K CR = true)
    (p3 : plainOver K CR = true)
    (p4 : findIn K (.ref CR) "__setattr__" = some (some (.builtin "object.__setattr__")))
    (p5 : makesIn K CR = true)
    (p6 : isFn K (.ref fR) = true)
    (p7 : keepIn K (.ref CR) = true)
    (p8 : findIn K (.ref CR) "found" = some none)
    (haR : findIn K (.ref CR) "__class__" = some (some (.builtin "object.__class__")))
    (haC : findIn K (.ref C) "__class__" = some (some (.builtin "object.__class__")))
    (hnO : specialIn K (.builtin "object.__class__") "__get__" = some (some (.builtin "getset_descriptor.__get__")))
    (htk : takesIn K (.builtin "object.__class__") = some true)
    (hmR : mroIn K CR (.type "object") = some true)
    {tcc0 : Tok}
    (cc0 : nsIn K mainGlobals "MOST_STEPS" = some (some (.int 12 tcc0)))
    {tcc1 : Tok}
    (cc1 : nsIn K mainGlobals "GREATEST" = some (some (.int 1000000000000000000 tcc1)))
    {tcc2 : Tok}
    (cc2 : nsIn K mainGlobals "MOST_LISTED_STEPS" = some (some (.int 4 tcc2)))
    {tcc3 : Tok}
    (cc3 : nsIn K mainGlobals "GREATEST_LISTED_DISTANCE" = some (some (.int 63 tcc3)))
    (lI : K.lookup fI = some ⟨ocI, odI, .func (fnOf "__init__" "Rule.__init__" (defArgs Rk.s_Rule___init__) (defBody Rk.s_Rule___init__) (defScope Rk.s_Rule___init__) .none kVI docI pmI anI cdvI ctI), oslI⟩)
    (cI : codeIn K cdvI "Rule.__init__" = true)
    (kI : keepIn K (.ref fI) = true)
    (lA : K.lookup fA = some ⟨ocA, odA, .func (fnOf "are_lives" "Rule.are_lives" (defArgs Rk.s_Rule_are_lives) (defBody Rk.s_Rule_are_lives) (defScope Rk.s_Rule_are_lives) .none kVA docA pmA anA cdvA ctA), oslA⟩)
    (cA : codeIn K cdvA "Rule.are_lives" = true)
    (kA : keepIn K (.ref fA) = true)
    (lO : K.lookup fO = some ⟨ocO, odO, .func (fnOf "of" "Rule.of" (defArgs Rk.s_Rule_of) (defBody Rk.s_Rule_of) (defScope Rk.s_Rule_of) .none kVO docO pmO anO cdvO ctO), oslO⟩)
    (cO : codeIn K cdvO "Rule.of" = true)
    (kO : keepIn K (.ref fO) = true)
    (lK : K.lookup fK = some ⟨ocK, odK, .func (fnOf "__call__" "Rule.__call__" (defArgs Rk.s_Rule___call__) (defBody Rk.s_Rule___call__) (defScope Rk.s_Rule___call__) .none kVK docK pmK anK cdvK ctK), oslK⟩)
    (cK : codeIn K cdvK "Rule.__call__" = true)
    (kK : keepIn K (.ref fK) = true)
    (lR : K.lookup fR = some ⟨ocR, odR, .func (fnOf "__init__" "Reckoned.__init__" (defArgs Rk.s_Reckoned___init__) (defBody Rk.s_Reckoned___init__) (defScope Rk.s_Reckoned___init__) .none kVR docR pmR anR cdvR ctR), oslR⟩)
    (cR : codeIn K cdvR "Reckoned.__init__" = true)
    (kR : keepIn K (.ref fR) = true)
    (lOr : K.lookup fOr = some ⟨ocOr, odOr, .func (fnOf "__or__" "Rule.__or__" (defArgs Rk.s_Rule___or__) (defBody Rk.s_Rule___or__) (defScope Rk.s_Rule___or__) .none kVOr docOr pmOr anOr cdvOr ctOr), oslOr⟩)
    (cOr : codeIn K cdvOr "Rule.__or__" = true)
    (kOr : keepIn K (.ref fOr) = true)
    (lAn : K.lookup fAn = some ⟨ocAn, odAn, .func (fnOf "__and__" "Rule.__and__" (defArgs Rk.s_Rule___and__) (defBody Rk.s_Rule___and__) (defScope Rk.s_Rule___and__) .none kVAn docAn pmAn anAn cdvAn ctAn), oslAn⟩)
    (cAn : codeIn K cdvAn "Rule.__and__" = true)
    (kAn : keepIn K (.ref fAn) = true)
    (lAd : K.lookup fAd = some ⟨ocAd, odAd, .func (fnOf "__add__" "Rule.__add__" (defArgs Rk.s_Rule___add__) (defBody Rk.s_Rule___add__) (defScope Rk.s_Rule___add__) .none kVAd docAd pmAd anAd cdvAd ctAd), oslAd⟩)
    (cAd : codeIn K cdvAd "Rule.__add__" = true)
    (kAd : keepIn K (.ref fAd) = true)
    (lLe : K.lookup fLe = some ⟨ocLe, odLe, .func (fnOf "__le__" "Rule.__le__" (defArgs Rk.s_Rule___le__) (defBody Rk.s_Rule___le__) (defScope Rk.s_Rule___le__) .none kVLe docLe pmLe anLe cdvLe ctLe), oslLe⟩)
    (cLe : codeIn K cdvLe "Rule.__le__" = true)
    (kLe : keepIn K (.ref fLe) = true)
    (lEq : K.lookup fEq = some ⟨ocEq, odEq, .func (fnOf "__eq__" "Rule.__eq__" (defArgs Rk.s_Rule___eq__) (defBody Rk.s_Rule___eq__) (defScope Rk.s_Rule___eq__) .none kVEq docEq pmEq anEq cdvEq ctEq), oslEq⟩)
    (cEq : codeIn K cdvEq "Rule.__eq__" = true)
    (kEq : keepIn K (.ref fEq) = true)
    (lLv : K.lookup fLv = some ⟨ocLv, odLv, .func (fnOf "lives" "Rule.lives" (defArgs Rk.s_Rule_lives) (defBody Rk.s_Rule_lives) (defScope Rk.s_Rule_lives) .none kVLv docLv pmLv anLv cdvLv ctLv), oslLv⟩)
    (cLv : codeIn K cdvLv "Rule.lives" = true)
    (kLv : keepIn K (.ref fLv) = true)
    (q1 : plainGet K C Str.empty = true)
    (q2 : hasDictIn K C = true)
    (q3 : plainOver K C = true)
    (q4 : findIn K (.ref C) "__setattr__" = some (some (.builtin "object.__setattr__")))
    (q5 : makesIn K C = true)
    (q6 : isFn K (.ref fI) = true)
    (q7 : keepIn K (.ref C) = true)
    (q8 : findIn K (.ref C) "_lives" = some none)
    (q9 : readsIn K C (.type "type") = true)
    (r1 : specialIn K (.ref C) "__getattribute__" = some (some (.builtin "type.__getattribute__")))
    (r2 : findCls K (.ref C) (.type "type") "MOST_LIVES" = some (.val (.int 61 tM)))
    (r4 : fnIn K fO = true)
    (r5 : isFn K (.ref fK) = true)
    (r6 : fnIn K fK = true)
    (r7 : kitOne K (.type "int") (.ref CR) = some false)
    (r8 : kitOne K (.type "NoneType") (.ref CR) = some false)
    {f1 : Addr} {oc1 kV1 doc1 pm1 cdv1 ct1 : Value} {od1 an1 : Option Addr} {osl1 : Array (Option Value)}
    (a1 : nsIn K mainGlobals "is_natural" = some (some (.ref f1)))
    (l1 : K.lookup f1 = some ⟨oc1, od1, .func (fnOf "is_natural" "is_natural" (defArgs Rk.s_is_natural) (defBody Rk.s_is_natural) (defScope Rk.s_is_natural) .none kV1 doc1 pm1 an1 cdv1 ct1), osl1⟩)
    (c1 : codeIn K cdv1 "is_natural" = true)
    (k1 : keepIn K (.ref f1) = true)
    {f2 : Addr} {oc2 kV2 doc2 pm2 cdv2 ct2 : Value} {od2 an2 : Option Addr} {osl2 : Array (Option Value)}
    (a2 : nsIn K mainGlobals "is_pair" = some (some (.ref f2)))
    (l2 : K.lookup f2 = some ⟨oc2, od2, .func (fnOf "is_pair" "is_pair" (defArgs Rk.s_is_pair) (defBody Rk.s_is_pair) (defScope Rk.s_is_pair) .none kV2 doc2 pm2 an2 cdv2 ct2), osl2⟩)
    (c2 : codeIn K cdv2 "is_pair" = true)
    (k2 : keepIn K (.ref f2) = true)
    {f3 : Addr} {oc3 kV3 doc3 pm3 cdv3 ct3 : Value} {od3 an3 : Option Addr} {osl3 : Array (Option Value)}
    (a3 : nsIn K mainGlobals "at_most" = some (some (.ref f3)))
    (l3 : K.lookup f3 = some ⟨oc3, od3, .func (fnOf "at_most" "at_most" (defArgs Rk.s_at_most) (defBody Rk.s_at_most) (defScope Rk.s_at_most) .none kV3 doc3 pm3 an3 cdv3 ct3), osl3⟩)
    (c3 : codeIn K cdv3 "at_most" = true)
    (k3 : keepIn K (.ref f3) = true)
    {f4 : Addr} {oc4 kV4 doc4 pm4 cdv4 ct4 : Value} {od4 an4 : Option Addr} {osl4 : Array (Option Value)}
    (a4 : nsIn K mainGlobals "lesser" = some (some (.ref f4)))
    (l4 : K.lookup f4 = some ⟨oc4, od4, .func (fnOf "lesser" "lesser" (defArgs Rk.s_lesser) (defBody Rk.s_lesser) (defScope Rk.s_lesser) .none kV4 doc4 pm4 an4 cdv4 ct4), osl4⟩)
    (c4 : codeIn K cdv4 "lesser" = true)
    (k4 : keepIn K (.ref f4) = true)
    {f5 : Addr} {oc5 kV5 doc5 pm5 cdv5 ct5 : Value} {od5 an5 : Option Addr} {osl5 : Array (Option Value)}
    (a5 : nsIn K mainGlobals "greater" = some (some (.ref f5)))
    (l5 : K.lookup f5 = some ⟨oc5, od5, .func (fnOf "greater" "greater" (defArgs Rk.s_greater) (defBody Rk.s_greater) (defScope Rk.s_greater) .none kV5 doc5 pm5 an5 cdv5 ct5), osl5⟩)
    (c5 : codeIn K cdv5 "greater" = true)
    (k5 : keepIn K (.ref f5) = true)
    {f6 : Addr} {oc6 kV6 doc6 pm6 cdv6 ct6 : Value} {od6 an6 : Option Addr} {osl6 : Array (Option Value)}
    (a6 : nsIn K mainGlobals "restore_point" = some (some (.ref f6)))
    (l6 : K.lookup f6 = some ⟨oc6, od6, .func (fnOf "restore_point" "restore_point" (defArgs Rk.s_restore_point) (defBody Rk.s_restore_point) (defScope Rk.s_restore_point) .none kV6 doc6 pm6 an6 cdv6 ct6), osl6⟩)
    (c6 : codeIn K cdv6 "restore_point" = true)
    (k6 : keepIn K (.ref f6) = true)
    {f7 : Addr} {oc7 kV7 doc7 pm7 cdv7 ct7 : Value} {od7 an7 : Option Addr} {osl7 : Array (Option Value)}
    (a7 : nsIn K mainGlobals "distance" = some (some (.ref f7)))
    (l7 : K.lookup f7 = some ⟨oc7, od7, .func (fnOf "distance" "distance" (defArgs Rk.s_distance) (defBody Rk.s_distance) (defScope Rk.s_distance) .none kV7 doc7 pm7 an7 cdv7 ct7), osl7⟩)
    (c7 : codeIn K cdv7 "distance" = true)
    (k7 : keepIn K (.ref f7) = true)
    {f8 : Addr} {oc8 kV8 doc8 pm8 cdv8 ct8 : Value} {od8 an8 : Option Addr} {osl8 : Array (Option Value)}
    (a8 : nsIn K mainGlobals "_bands" = some (some (.ref f8)))
    (l8 : K.lookup f8 = some ⟨oc8, od8, .func (fnOf "_bands" "_bands" (defArgs Rk.s_bands) (defBody Rk.s_bands) (defScope Rk.s_bands) .none kV8 doc8 pm8 an8 cdv8 ct8), osl8⟩)
    (c8 : codeIn K cdv8 "_bands" = true)
    (k8 : keepIn K (.ref f8) = true)
    {f9 : Addr} {oc9 kV9 doc9 pm9 cdv9 ct9 : Value} {od9 an9 : Option Addr} {osl9 : Array (Option Value)}
    (a9 : nsIn K mainGlobals "worst" = some (some (.ref f9)))
    (l9 : K.lookup f9 = some ⟨oc9, od9, .func (fnOf "worst" "worst" (defArgs Rk.s_worst) (defBody Rk.s_worst) (defScope Rk.s_worst) .none kV9 doc9 pm9 an9 cdv9 ct9), osl9⟩)
    (c9 : codeIn K cdv9 "worst" = true)
    (k9 : keepIn K (.ref f9) = true)
    {f10 : Addr} {oc10 kV10 doc10 pm10 cdv10 ct10 : Value} {od10 an10 : Option Addr} {osl10 : Array (Option Value)}
    (a10 : nsIn K mainGlobals "worst_tick" = some (some (.ref f10)))
    (l10 : K.lookup f10 = some ⟨oc10, od10, .func (fnOf "worst_tick" "worst_tick" (defArgs Rk.s_worst_tick) (defBody Rk.s_worst_tick) (defScope Rk.s_worst_tick) .none kV10 doc10 pm10 an10 cdv10 ct10), osl10⟩)
    (c10 : codeIn K cdv10 "worst_tick" = true)
    (k10 : keepIn K (.ref f10) = true)
    {f11 : Addr} {oc11 kV11 doc11 pm11 cdv11 ct11 : Value} {od11 an11 : Option Addr} {osl11 : Array (Option Value)}
    (a11 : nsIn K mainGlobals "promised" = some (some (.ref f11)))
    (l11 : K.lookup f11 = some ⟨oc11, od11, .func (fnOf "promised" "promised" (defArgs Rk.s_promised) (defBody Rk.s_promised) (defScope Rk.s_promised) .none kV11 doc11 pm11 an11 cdv11 ct11), osl11⟩)
    (c11 : codeIn K cdv11 "promised" = true)
    (k11 : keepIn K (.ref f11) = true)
    {f12 : Addr} {oc12 kV12 doc12 pm12 cdv12 ct12 : Value} {od12 an12 : Option Addr} {osl12 : Array (Option Value)}
    (a12 : nsIn K mainGlobals "shortest" = some (some (.ref f12)))
    (l12 : K.lookup f12 = some ⟨oc12, od12, .func (fnOf "shortest" "shortest" (defArgs Rk.s_shortest) (defBody Rk.s_shortest) (defScope Rk.s_shortest) .none kV12 doc12 pm12 an12 cdv12 ct12), osl12⟩)
    (c12 : codeIn K cdv12 "shortest" = true)
    (k12 : keepIn K (.ref f12) = true)
    {f13 : Addr} {oc13 kV13 doc13 pm13 cdv13 ct13 : Value} {od13 an13 : Option Addr} {osl13 : Array (Option Value)}
    (a13 : nsIn K mainGlobals "life_at" = some (some (.ref f13)))
    (l13 : K.lookup f13 = some ⟨oc13, od13, .func (fnOf "life_at" "life_at" (defArgs Rk.s_life_at) (defBody Rk.s_life_at) (defScope Rk.s_life_at) .none kV13 doc13 pm13 an13 cdv13 ct13), osl13⟩)
    (c13 : codeIn K cdv13 "life_at" = true)
    (k13 : keepIn K (.ref f13) = true)
    {f14 : Addr} {oc14 kV14 doc14 pm14 cdv14 ct14 : Value} {od14 an14 : Option Addr} {osl14 : Array (Option Value)}
    (a14 : nsIn K mainGlobals "side_by_side" = some (some (.ref f14)))
    (l14 : K.lookup f14 = some ⟨oc14, od14, .func (fnOf "side_by_side" "side_by_side" (defArgs Rk.s_side_by_side) (defBody Rk.s_side_by_side) (defScope Rk.s_side_by_side) .none kV14 doc14 pm14 an14 cdv14 ct14), osl14⟩)
    (c14 : codeIn K cdv14 "side_by_side" = true)
    (k14 : keepIn K (.ref f14) = true)
    {f15 : Addr} {oc15 kV15 doc15 pm15 cdv15 ct15 : Value} {od15 an15 : Option Addr} {osl15 : Array (Option Value)}
    (a15 : nsIn K mainGlobals "is_wish" = some (some (.ref f15)))
    (l15 : K.lookup f15 = some ⟨oc15, od15, .func (fnOf "is_wish" "is_wish" (defArgs Rk.s_is_wish) (defBody Rk.s_is_wish) (defScope Rk.s_is_wish) .none kV15 doc15 pm15 an15 cdv15 ct15), osl15⟩)
    (c15 : codeIn K cdv15 "is_wish" = true)
    (k15 : keepIn K (.ref f15) = true)
    {f16 : Addr} {oc16 kV16 doc16 pm16 cdv16 ct16 : Value} {od16 an16 : Option Addr} {osl16 : Array (Option Value)}
    (a16 : nsIn K mainGlobals "meets" = some (some (.ref f16)))
    (l16 : K.lookup f16 = some ⟨oc16, od16, .func (fnOf "meets" "meets" (defArgs Rk.s_meets) (defBody Rk.s_meets) (defScope Rk.s_meets) .none kV16 doc16 pm16 an16 cdv16 ct16), osl16⟩)
    (c16 : codeIn K cdv16 "meets" = true)
    (k16 : keepIn K (.ref f16) = true)
    {f17 : Addr} {oc17 kV17 doc17 pm17 cdv17 ct17 : Value} {od17 an17 : Option Addr} {osl17 : Array (Option Value)}
    (a17 : nsIn K mainGlobals "first_broken" = some (some (.ref f17)))
    (l17 : K.lookup f17 = some ⟨oc17, od17, .func (fnOf "first_broken" "first_broken" (defArgs Rk.s_first_broken) (defBody Rk.s_first_broken) (defScope Rk.s_first_broken) .none kV17 doc17 pm17 an17 cdv17 ct17), osl17⟩)
    (c17 : codeIn K cdv17 "first_broken" = true)
    (k17 : keepIn K (.ref f17) = true)
    {f18 : Addr} {oc18 kV18 doc18 pm18 cdv18 ct18 : Value} {od18 an18 : Option Addr} {osl18 : Array (Option Value)}
    (a18 : nsIn K mainGlobals "shows_broken" = some (some (.ref f18)))
    (l18 : K.lookup f18 = some ⟨oc18, od18, .func (fnOf "shows_broken" "shows_broken" (defArgs Rk.s_shows_broken) (defBody Rk.s_shows_broken) (defScope Rk.s_shows_broken) .none kV18 doc18 pm18 an18 cdv18 ct18), osl18⟩)
    (c18 : codeIn K cdv18 "shows_broken" = true)
    (k18 : keepIn K (.ref f18) = true)
    {f19 : Addr} {oc19 kV19 doc19 pm19 cdv19 ct19 : Value} {od19 an19 : Option Addr} {osl19 : Array (Option Value)}
    (a19 : nsIn K mainGlobals "least_lives" = some (some (.ref f19)))
    (l19 : K.lookup f19 = some ⟨oc19, od19, .func (fnOf "least_lives" "least_lives" (defArgs Rk.s_least_lives) (defBody Rk.s_least_lives) (defScope Rk.s_least_lives) .none kV19 doc19 pm19 an19 cdv19 ct19), osl19⟩)
    (c19 : codeIn K cdv19 "least_lives" = true)
    (k19 : keepIn K (.ref f19) = true)
    {f20 : Addr} {oc20 kV20 doc20 pm20 cdv20 ct20 : Value} {od20 an20 : Option Addr} {osl20 : Array (Option Value)}
    (a20 : nsIn K mainGlobals "_is_step" = some (some (.ref f20)))
    (l20 : K.lookup f20 = some ⟨oc20, od20, .func (fnOf "_is_step" "_is_step" (defArgs Rk.s_is_step) (defBody Rk.s_is_step) (defScope Rk.s_is_step) .none kV20 doc20 pm20 an20 cdv20 ct20), osl20⟩)
    (c20 : codeIn K cdv20 "_is_step" = true)
    (k20 : keepIn K (.ref f20) = true)
    {f21 : Addr} {oc21 kV21 doc21 pm21 cdv21 ct21 : Value} {od21 an21 : Option Addr} {osl21 : Array (Option Value)}
    (a21 : nsIn K mainGlobals "_first_beyond" = some (some (.ref f21)))
    (l21 : K.lookup f21 = some ⟨oc21, od21, .func (fnOf "_first_beyond" "_first_beyond" (defArgs Rk.s_first_beyond) (defBody Rk.s_first_beyond) (defScope Rk.s_first_beyond) .none kV21 doc21 pm21 an21 cdv21 ct21), osl21⟩)
    (c21 : codeIn K cdv21 "_first_beyond" = true)
    (k21 : keepIn K (.ref f21) = true)
    {f22 : Addr} {oc22 kV22 doc22 pm22 cdv22 ct22 : Value} {od22 an22 : Option Addr} {osl22 : Array (Option Value)}
    (a22 : nsIn K mainGlobals "_widest" = some (some (.ref f22)))
    (l22 : K.lookup f22 = some ⟨oc22, od22, .func (fnOf "_widest" "_widest" (defArgs Rk.s_widest) (defBody Rk.s_widest) (defScope Rk.s_widest) .none kV22 doc22 pm22 an22 cdv22 ct22), osl22⟩)
    (c22 : codeIn K cdv22 "_widest" = true)
    (k22 : keepIn K (.ref f22) = true)
    {f23 : Addr} {oc23 kV23 doc23 pm23 cdv23 ct23 : Value} {od23 an23 : Option Addr} {osl23 : Array (Option Value)}
    (a23 : nsIn K mainGlobals "_longer" = some (some (.ref f23)))
    (l23 : K.lookup f23 = some ⟨oc23, od23, .func (fnOf "_longer" "_longer" (defArgs Rk.s_longer) (defBody Rk.s_longer) (defScope Rk.s_longer) .none kV23 doc23 pm23 an23 cdv23 ct23), osl23⟩)
    (c23 : codeIn K cdv23 "_longer" = true)
    (k23 : keepIn K (.ref f23) = true)
    {f24 : Addr} {oc24 kV24 doc24 pm24 cdv24 ct24 : Value} {od24 an24 : Option Addr} {osl24 : Array (Option Value)}
    (a24 : nsIn K mainGlobals "_ascending" = some (some (.ref f24)))
    (l24 : K.lookup f24 = some ⟨oc24, od24, .func (fnOf "_ascending" "_ascending" (defArgs Rk.s_ascending) (defBody Rk.s_ascending) (defScope Rk.s_ascending) .none kV24 doc24 pm24 an24 cdv24 ct24), osl24⟩)
    (c24 : codeIn K cdv24 "_ascending" = true)
    (k24 : keepIn K (.ref f24) = true)
    {f25 : Addr} {oc25 kV25 doc25 pm25 cdv25 ct25 : Value} {od25 an25 : Option Addr} {osl25 : Array (Option Value)}
    (a25 : nsIn K mainGlobals "_law_pool" = some (some (.ref f25)))
    (l25 : K.lookup f25 = some ⟨oc25, od25, .func (fnOf "_law_pool" "_law_pool" (defArgs Rk.s_law_pool) (defBody Rk.s_law_pool) (defScope Rk.s_law_pool) .none kV25 doc25 pm25 an25 cdv25 ct25), osl25⟩)
    (c25 : codeIn K cdv25 "_law_pool" = true)
    (k25 : keepIn K (.ref f25) = true)
    {f26 : Addr} {oc26 kV26 doc26 pm26 cdv26 ct26 : Value} {od26 an26 : Option Addr} {osl26 : Array (Option Value)}
    (a26 : nsIn K mainGlobals "_law_draw" = some (some (.ref f26)))
    (l26 : K.lookup f26 = some ⟨oc26, od26, .func (fnOf "_law_draw" "_law_draw" (defArgs Rk.s_law_draw) (defBody Rk.s_law_draw) (defScope Rk.s_law_draw) .none kV26 doc26 pm26 an26 cdv26 ct26), osl26⟩)
    (c26 : codeIn K cdv26 "_law_draw" = true)
    (k26 : keepIn K (.ref f26) = true)
    {f27 : Addr} {oc27 kV27 doc27 pm27 cdv27 ct27 : Value} {od27 an27 : Option Addr} {osl27 : Array (Option Value)}
    (a27 : nsIn K mainGlobals "_law_pick" = some (some (.ref f27)))
    (l27 : K.lookup f27 = some ⟨oc27, od27, .func (fnOf "_law_pick" "_law_pick" (defArgs Rk.s_law_pick) (defBody Rk.s_law_pick) (defScope Rk.s_law_pick) .none kV27 doc27 pm27 an27 cdv27 ct27), osl27⟩)
    (c27 : codeIn K cdv27 "_law_pick" = true)
    (k27 : keepIn K (.ref f27) = true)
    {f28 : Addr} {oc28 kV28 doc28 pm28 cdv28 ct28 : Value} {od28 an28 : Option Addr} {osl28 : Array (Option Value)}
    (a28 : nsIn K mainGlobals "_law_lives" = some (some (.ref f28)))
    (l28 : K.lookup f28 = some ⟨oc28, od28, .func (fnOf "_law_lives" "_law_lives" (defArgs Rk.s_law_lives) (defBody Rk.s_law_lives) (defScope Rk.s_law_lives) .none kV28 doc28 pm28 an28 cdv28 ct28), osl28⟩)
    (c28 : codeIn K cdv28 "_law_lives" = true)
    (k28 : keepIn K (.ref f28) = true)
    {f29 : Addr} {oc29 kV29 doc29 pm29 cdv29 ct29 : Value} {od29 an29 : Option Addr} {osl29 : Array (Option Value)}
    (a29 : nsIn K mainGlobals "_law_rule" = some (some (.ref f29)))
    (l29 : K.lookup f29 = some ⟨oc29, od29, .func (fnOf "_law_rule" "_law_rule" (defArgs Rk.s_law_rule) (defBody Rk.s_law_rule) (defScope Rk.s_law_rule) .none kV29 doc29 pm29 an29 cdv29 ct29), osl29⟩)
    (c29 : codeIn K cdv29 "_law_rule" = true)
    (k29 : keepIn K (.ref f29) = true)
    {f30 : Addr} {oc30 kV30 doc30 pm30 cdv30 ct30 : Value} {od30 an30 : Option Addr} {osl30 : Array (Option Value)}
    (a30 : nsIn K mainGlobals "_law_wish" = some (some (.ref f30)))
    (l30 : K.lookup f30 = some ⟨oc30, od30, .func (fnOf "_law_wish" "_law_wish" (defArgs Rk.s_law_wish) (defBody Rk.s_law_wish) (defScope Rk.s_law_wish) .none kV30 doc30 pm30 an30 cdv30 ct30), osl30⟩)
    (c30 : codeIn K cdv30 "_law_wish" = true)
    (k30 : keepIn K (.ref f30) = true)
    {f31 : Addr} {oc31 kV31 doc31 pm31 cdv31 ct31 : Value} {od31 an31 : Option Addr} {osl31 : Array (Option Value)}
    (a31 : nsIn K mainGlobals "_law_is_broken_at" = some (some (.ref f31)))
    (l31 : K.lookup f31 = some ⟨oc31, od31, .func (fnOf "_law_is_broken_at" "_law_is_broken_at" (defArgs Rk.s_law_is_broken_at) (defBody Rk.s_law_is_broken_at) (defScope Rk.s_law_is_broken_at) .none kV31 doc31 pm31 an31 cdv31 ct31), osl31⟩)
    (c31 : codeIn K cdv31 "_law_is_broken_at" = true)
    (k31 : keepIn K (.ref f31) = true)
    {f32 : Addr} {oc32 kV32 doc32 pm32 cdv32 ct32 : Value} {od32 an32 : Option Addr} {osl32 : Array (Option Value)}
    (a32 : nsIn K mainGlobals "_law_promise_right" = some (some (.ref f32)))
    (l32 : K.lookup f32 = some ⟨oc32, od32, .func (fnOf "_law_promise_right" "_law_promise_right" (defArgs Rk.s_law_promise_right) (defBody Rk.s_law_promise_right) (defScope Rk.s_law_promise_right) .none kV32 doc32 pm32 an32 cdv32 ct32), osl32⟩)
    (c32 : codeIn K cdv32 "_law_promise_right" = true)
    (k32 : keepIn K (.ref f32) = true)
    {f33 : Addr} {oc33 kV33 doc33 pm33 cdv33 ct33 : Value} {od33 an33 : Option Addr} {osl33 : Array (Option Value)}
    (a33 : nsIn K mainGlobals "_law_wish_right" = some (some (.ref f33)))
    (l33 : K.lookup f33 = some ⟨oc33, od33, .func (fnOf "_law_wish_right" "_law_wish_right" (defArgs Rk.s_law_wish_right) (defBody Rk.s_law_wish_right) (defScope Rk.s_law_wish_right) .none kV33 doc33 pm33 an33 cdv33 ct33), osl33⟩)
    (c33 : codeIn K cdv33 "_law_wish_right" = true)
    (k33 : keepIn K (.ref f33) = true)
    {f34 : Addr} {oc34 kV34 doc34 pm34 cdv34 ct34 : Value} {od34 an34 : Option Addr} {osl34 : Array (Option Value)}
    (a34 : nsIn K mainGlobals "_law_right" = some (some (.ref f34)))
    (l34 : K.lookup f34 = some ⟨oc34, od34, .func (fnOf "_law_right" "_law_right" (defArgs Rk.s_law_right) (defBody Rk.s_law_right) (defScope Rk.s_law_right) .none kV34 doc34 pm34 an34 cdv34 ct34), osl34⟩)
    (c34 : codeIn K cdv34 "_law_right" = true)
    (k34 : keepIn K (.ref f34) = true)
    {f35 : Addr} {oc35 kV35 doc35 pm35 cdv35 ct35 : Value} {od35 an35 : Option Addr} {osl35 : Array (Option Value)}
    (a35 : nsIn K mainGlobals "law" = some (some (.ref f35)))
    (l35 : K.lookup f35 = some ⟨oc35, od35, .func (fnOf "law" "law" (defArgs Rk.s_law) (defBody Rk.s_law) (defScope Rk.s_law) .none kV35 doc35 pm35 an35 cdv35 ct35), osl35⟩)
    (c35 : codeIn K cdv35 "law" = true)
    (k35 : keepIn K (.ref f35) = true)
    (z0 : nsIn K mainGlobals "len" = some none)
    (z1 : nsIn K mainGlobals "abs" = some none)
    (z2 : nsIn K mainGlobals "min" = some none)
    (z3 : nsIn K mainGlobals "max" = some none)
    (z4 : nsIn K mainGlobals "range" = some none)
    (z5 : nsIn K mainGlobals "all" = some none)
    (z6 : nsIn K mainGlobals "any" = some none)
    (z7 : nsIn K mainGlobals "repr" = some none)
    (z8 : nsIn K mainGlobals "tuple" = some none)
    (z9 : nsIn K mainGlobals "list" = some none)
    (z10 : nsIn K mainGlobals "sorted" = some none)
    (z11 : nsIn K mainGlobals "enumerate" = some none)
    (z12 : nsIn K mainGlobals "zip" = some none)
    (z13 : nsIn K mainGlobals "isinstance" = some none)
    (z14 : nsIn K mainGlobals "int" = some none)
    (z15 : nsIn K mainGlobals "bool" = some none)
    (z16 : nsIn K mainGlobals "sum" = some none) :
    Rk.Has l.prog w K mg base 10 "law" ["_law_script"] (Rk.spLaw K) := by
  have T : Rk.Bl mg := ⟨mg_none_of X G z0, mg_none_of X G z1, mg_none_of X G z2, mg_none_of X G z3, mg_none_of X G z4, mg_none_of X G z5, mg_none_of X G z6, mg_none_of X G z7, mg_none_of X G z8, mg_none_of X G z9, mg_none_of X G z10, mg_none_of X G z11, mg_none_of X G z12, mg_none_of X G z13, mg_none_of X G z14, mg_none_of X G z15, mg_none_of X G z16⟩
  have D1 : Rk.Df K mg "is_natural" Rk.s_is_natural ["value"] := Rk.df_mk X G a1 l1 c1 k1 fun _ _ _ _ _ _ us hl => match us, hl with | [_], _ => rfl
  have D2 : Rk.Df K mg "is_pair" Rk.s_is_pair ["value"] := Rk.df_mk X G a2 l2 c2 k2 fun _ _ _ _ _ _ us hl => match us, hl with | [_], _ => rfl
  have D3 : Rk.Df K mg "at_most" Rk.s_at_most ["one", "other"] := Rk.df_mk X G a3 l3 c3 k3 fun _ _ _ _ _ _ us hl => match us, hl with | [_, _], _ => rfl
  have D4 : Rk.Df K mg "lesser" Rk.s_lesser ["one", "other"] := Rk.df_mk X G a4 l4 c4 k4 fun _ _ _ _ _ _ us hl => match us, hl with | [_, _], _ => rfl
  have D5 : Rk.Df K mg "greater" Rk.s_greater ["one", "other"] := Rk.df_mk X G a5 l5 c5 k5 fun _ _ _ _ _ _ us hl => match us, hl with | [_, _], _ => rfl
  have D6 : Rk.Df K mg "restore_point" Rk.s_restore_point ["rule", "tick", "age"] := Rk.df_mk X G a6 l6 c6 k6 fun _ _ _ _ _ _ us hl => match us, hl with | [_, _, _], _ => rfl
  have D7 : Rk.Df K mg "distance" Rk.s_distance ["rule", "tick", "age"] := Rk.df_mk X G a7 l7 c7 k7 fun _ _ _ _ _ _ us hl => match us, hl with | [_, _, _], _ => rfl
  have D8 : Rk.Df K mg "_bands" Rk.s_bands ["rule", "tick"] := Rk.df_mk X G a8 l8 c8 k8 fun _ _ _ _ _ _ us hl => match us, hl with | [_, _], _ => rfl
  have D9 : Rk.Df K mg "worst" Rk.s_worst ["rule", "age"] := Rk.df_mk X G a9 l9 c9 k9 fun _ _ _ _ _ _ us hl => match us, hl with | [_, _], _ => rfl
  have D10 : Rk.Df K mg "worst_tick" Rk.s_worst_tick ["rule", "age"] := Rk.df_mk X G a10 l10 c10 k10 fun _ _ _ _ _ _ us hl => match us, hl with | [_, _], _ => rfl
  have D11 : Rk.Df K mg "promised" Rk.s_promised ["rule"] := Rk.df_mk X G a11 l11 c11 k11 fun _ _ _ _ _ _ us hl => match us, hl with | [_], _ => rfl
  have D12 : Rk.Df K mg "shortest" Rk.s_shortest ["lives"] := Rk.df_mk X G a12 l12 c12 k12 fun _ _ _ _ _ _ us hl => match us, hl with | [_], _ => rfl
  have D13 : Rk.Df K mg "life_at" Rk.s_life_at ["lives", "at"] := Rk.df_mk X G a13 l13 c13 k13 fun _ _ _ _ _ _ us hl => match us, hl with | [_, _], _ => rfl
  have D14 : Rk.Df K mg "side_by_side" Rk.s_side_by_side ["lives", "others"] := Rk.df_mk X G a14 l14 c14 k14 fun _ _ _ _ _ _ us hl => match us, hl with | [_, _], _ => rfl
  have D15 : Rk.Df K mg "is_wish" Rk.s_is_wish ["value"] := Rk.df_mk X G a15 l15 c15 k15 fun _ _ _ _ _ _ us hl => match us, hl with | [_], _ => rfl
  have D16 : Rk.Df K mg "meets" Rk.s_meets ["rule", "wish"] := Rk.df_mk X G a16 l16 c16 k16 fun _ _ _ _ _ _ us hl => match us, hl with | [_, _], _ => rfl
  have D17 : Rk.Df K mg "first_broken" Rk.s_first_broken ["rule", "wish"] := Rk.df_mk X G a17 l17 c17 k17 fun _ _ _ _ _ _ us hl => match us, hl with | [_, _], _ => rfl
  have D18 : Rk.Df K mg "shows_broken" Rk.s_shows_broken ["rule", "wish", "value"] := Rk.df_mk X G a18 l18 c18 k18 fun _ _ _ _ _ _ us hl => match us, hl with | [_, _, _], _ => rfl
  have D19 : Rk.Df K mg "least_lives" Rk.s_least_lives ["wish"] := Rk.df_mk X G a19 l19 c19 k19 fun _ _ _ _ _ _ us hl => match us, hl with | [_], _ => rfl
  have D20 : Rk.Df K mg "_is_step" Rk.s_is_step ["value"] := Rk.df_mk X G a20 l20 c20 k20 fun _ _ _ _ _ _ us hl => match us, hl with | [_], _ => rfl
  have D21 : Rk.Df K mg "_first_beyond" Rk.s_first_beyond ["rule", "wished"] := Rk.df_mk X G a21 l21 c21 k21 fun _ _ _ _ _ _ us hl => match us, hl with | [_, _], _ => rfl
  have D22 : Rk.Df K mg "_widest" Rk.s_widest ["wished"] := Rk.df_mk X G a22 l22 c22 k22 fun _ _ _ _ _ _ us hl => match us, hl with | [_], _ => rfl
  have D23 : Rk.Df K mg "_longer" Rk.s_longer ["plans", "age", "wished"] := Rk.df_mk X G a23 l23 c23 k23 fun _ _ _ _ _ _ us hl => match us, hl with | [_, _, _], _ => rfl
  have D24 : Rk.Df K mg "_ascending" Rk.s_ascending ["rows"] := Rk.df_mk X G a24 l24 c24 k24 fun _ _ _ _ _ _ us hl => match us, hl with | [_], _ => rfl
  have D25 : Rk.Df K mg "_law_pool" Rk.s_law_pool ["_law_script", "_law_k"] := Rk.df_mk X G a25 l25 c25 k25 fun _ _ _ _ _ _ us hl => match us, hl with | [_, _], _ => rfl
  have D26 : Rk.Df K mg "_law_draw" Rk.s_law_draw ["_law_pool_here", "_law_limit"] := Rk.df_mk X G a26 l26 c26 k26 fun _ _ _ _ _ _ us hl => match us, hl with | [_, _], _ => rfl
  have D27 : Rk.Df K mg "_law_pick" Rk.s_law_pick ["_law_pool_here", "_law_some"] := Rk.df_mk X G a27 l27 c27 k27 fun _ _ _ _ _ _ us hl => match us, hl with | [_, _], _ => rfl
  have D28 : Rk.Df K mg "_law_lives" Rk.s_law_lives ["_law_pool_here", "_law_top", "_law_upto"] := Rk.df_mk X G a28 l28 c28 k28 fun _ _ _ _ _ _ us hl => match us, hl with | [_, _, _], _ => rfl
  have D29 : Rk.Df K mg "_law_rule" Rk.s_law_rule ["_law_pool_here", "_law_top", "_law_upto"] := Rk.df_mk X G a29 l29 c29 k29 fun _ _ _ _ _ _ us hl => match us, hl with | [_, _, _], _ => rfl
  have D30 : Rk.Df K mg "_law_wish" Rk.s_law_wish ["_law_pool_here", "_law_top", "_law_upto"] := Rk.df_mk X G a30 l30 c30 k30 fun _ _ _ _ _ _ us hl => match us, hl with | [_, _, _], _ => rfl
  have D31 : Rk.Df K mg "_law_is_broken_at" Rk.s_law_is_broken_at ["_law_rule_now", "_law_wanted", "_law_old"] := Rk.df_mk X G a31 l31 c31 k31 fun _ _ _ _ _ _ us hl => match us, hl with | [_, _, _], _ => rfl
  have D32 : Rk.Df K mg "_law_promise_right" Rk.s_law_promise_right ["_law_rule_now"] := Rk.df_mk X G a32 l32 c32 k32 fun _ _ _ _ _ _ us hl => match us, hl with | [_], _ => rfl
  have D33 : Rk.Df K mg "_law_wish_right" Rk.s_law_wish_right ["_law_rule_now", "_law_wanted"] := Rk.df_mk X G a33 l33 c33 k33 fun _ _ _ _ _ _ us hl => match us, hl with | [_, _], _ => rfl
  have D34 : Rk.Df K mg "_law_right" Rk.s_law_right ["_law_pool_here"] := Rk.df_mk X G a34 l34 c34 k34 fun _ _ _ _ _ _ us hl => match us, hl with | [_], _ => rfl
  have D35 : Rk.Df K mg "law" Rk.s_law ["_law_script"] := Rk.df_mk X G a35 l35 c35 k35 fun _ _ _ _ _ _ us hl => match us, hl with | [_], _ => rfl
  have FI := fun_mk (st := Rk.s_Rule___init__) lI cI kI
  have FA := fun_mk (st := Rk.s_Rule_are_lives) lA cA kA
  have FO := fun_mk (st := Rk.s_Rule_of) lO cO kO
  have FK := fun_mk (st := Rk.s_Rule___call__) lK cK kK
  have FR := fun_mk (st := Rk.s_Reckoned___init__) lR cR kR
  have FOr := fun_mk (st := Rk.s_Rule___or__) lOr cOr kOr
  have FAn := fun_mk (st := Rk.s_Rule___and__) lAn cAn kAn
  have FAd := fun_mk (st := Rk.s_Rule___add__) lAd cAd kAd
  have FLe := fun_mk (st := Rk.s_Rule___le__) lLe cLe kLe
  have FEq := fun_mk (st := Rk.s_Rule___eq__) lEq cEq kEq
  have FLv := fun_mk (st := Rk.s_Rule_lives) lLv cLv kLv
  have bA := FA.binds (ps := ["value"]) fun _ _ _ _ _ _ us hl => match us, hl with | [_], _ => rfl
  have R : Rk.RuleT K mg C CR (.type "type") fI pA fA _ := ⟨⟨q1, q2, q3, q4⟩, ⟨q5, aI, q6, q7⟩, q8, mg_of X G aC, mg_of X G aR, ⟨_, mg_of X G aL⟩, ⟨q9, r1⟩, ⟨_, r2, ⟨_, rfl⟩⟩, ⟨aA, ⟨_, xA⟩, rfl, kA⟩, bA, r7, r8⟩
  have bR := FR.binds (ps := ["self", "found"]) fun _ _ _ _ _ _ us hl => match us, hl with | [_, _], _ => rfl
  have R2 : Rk.Rule2T K C CR fR _ := ⟨⟨p1, p2, p3, p4⟩, ⟨p5, aRk, p6, p7⟩, p8, bR, haR, haC, hnO, htk, hmR, obE⟩
  have mOr : Rk.OwnOp K C fOr (PySem.dunder (Operator.BitOr).info.2) := ⟨by rw [show PySem.dunder (Operator.BitOr).info.2 = ("__or__" : Str) from by decide +kernel]; exact aOr, iOr⟩
  have mAn : Rk.OwnOp K C fAn (PySem.dunder (Operator.BitAnd).info.2) := ⟨by rw [show PySem.dunder (Operator.BitAnd).info.2 = ("__and__" : Str) from by decide +kernel]; exact aAn, iAn⟩
  have mAd : Rk.OwnOp K C fAd (PySem.dunder (Operator.Add).info.2) := ⟨by rw [show PySem.dunder (Operator.Add).info.2 = ("__add__" : Str) from by decide +kernel]; exact aAd, iAd⟩
  have mLe : Rk.OwnOp K C fLe ((cmpInfo .LtE).2.1) := ⟨by rw [show (cmpInfo .LtE).2.1 = ("__le__" : Str) from by decide +kernel]; exact aLe, iLe⟩
  have M : Rk.OpsT K C fOr fAn fAd fLe fEq pLv fLv := ⟨sF, mOr, mAn, mAd, ⟨⟨_, rvA, .inl rfl⟩, ⟨_, foA⟩, ⟨_, roA⟩, suA⟩, mLe, ⟨⟨aEq, iEq⟩, neE, obE⟩, ⟨aLv, gLv, tLv, ⟨_, xLv⟩⟩⟩
  exact Rk.all_mk (l := l) (w := w) (base := base) T R R2 M FI FA FO ⟨aO, ⟨_, xO⟩, r4⟩ FK ⟨aK, r5, r6⟩ FR FOr FAn FAd FLe FEq FLv ⟨_, mg_of X G cc0⟩ ⟨_, mg_of X G cc1⟩ ⟨_, mg_of X G cc2⟩ ⟨_, mg_of X G cc3⟩ D1 D2 D3 D4 D5 D6 D7 D8 D9 D10 D11 D12 D13 D14 D15 D16 D17 D18 D19 D20 D21 D22 D23 D24 D25 D26 D27 D28 D29 D30 D31 D32 D33 D34 D35
open PySem PySem.W PyProof.Rows in
set_option maxRecDepth 100000 in
set_option maxHeartbeats 0 in
theorem PySem.Challenge.cw_rulerkeep_k67_whole_wishes_that_rules_pr_holds : PySem.Challenge.rw_rulerkeep_k67_whole_wishes_that_rules_pr.Holds := by
  w_on; o_law; k_head; (case hw => w_witness2)
  k_fill
  refine Rk.walkG (l := PySem.Challenge.rw_rulerkeep_k67_whole_wishes_that_rules_pr) (n := 63) (k := 10) (x := "_law_script") (sp := Rk.spLaw) rfl (by decide) rfl ⟨rfl, by decide, by decide⟩ (fun w h Y => PySem.W.kIn_of Y) ?F (fun _ _ a ns hl _ hS => ⟨a, ns, rfl, hS, hl, fun _ => rfl⟩)
  case F =>
    intro w mg h KX G base _ _
    refine' Rk.end_mk KX G ?aC ?aR ?aL ?aI ?aA ?xA ?aO ?xO ?aK ?aRk ?aOr ?iOr ?aAn ?iAn ?aAd ?iAd ?aLe ?iLe ?aEq ?iEq ?aLv ?gLv ?tLv ?xLv ?sF ?rvA ?foA ?roA ?suA ?neE ?obE ?p1 ?p2 ?p3 ?p4 ?p5 ?p6 ?p7 ?p8 ?haR ?haC ?hnO ?htk ?hmR ?cc0 ?cc1 ?cc2 ?cc3 ?lI ?cI ?kI ?lA ?cA ?kA ?lO ?cO ?kO ?lK ?cK ?kK ?lR ?cR ?kR ?lOr ?cOr ?kOr ?lAn ?cAn ?kAn ?lAd ?cAd ?kAd ?lLe ?cLe ?kLe ?lEq ?cEq ?kEq ?lLv ?cLv ?kLv ?q1 ?q2 ?q3 ?q4 ?q5 ?q6 ?q7 ?q8 ?q9 ?r1 ?r2 ?r4 ?r5 ?r6 ?r7 ?r8 ?a1 ?l1 ?c1 ?k1 ?a2 ?l2 ?c2 ?k2 ?a3 ?l3 ?c3 ?k3 ?a4 ?l4 ?c4 ?k4 ?a5 ?l5 ?c5 ?k5 ?a6 ?l6 ?c6 ?k6 ?a7 ?l7 ?c7 ?k7 ?a8 ?l8 ?c8 ?k8 ?a9 ?l9 ?c9 ?k9 ?a10 ?l10 ?c10 ?k10 ?a11 ?l11 ?c11 ?k11 ?a12 ?l12 ?c12 ?k12 ?a13 ?l13 ?c13 ?k13 ?a14 ?l14 ?c14 ?k14 ?a15 ?l15 ?c15 ?k15 ?a16 ?l16 ?c16 ?k16 ?a17 ?l17 ?c17 ?k17 ?a18 ?l18 ?c18 ?k18 ?a19 ?l19 ?c19 ?k19 ?a20 ?l20 ?c20 ?k20 ?a21 ?l21 ?c21 ?k21 ?a22 ?l22 ?c22 ?k22 ?a23 ?l23 ?c23 ?k23 ?a24 ?l24 ?c24 ?k24 ?a25 ?l25 ?c25 ?k25 ?a26 ?l26 ?c26 ?k26 ?a27 ?l27 ?c27 ?k27 ?a28 ?l28 ?c28 ?k28 ?a29 ?l29 ?c29 ?k29 ?a30 ?l30 ?c30 ?k30 ?a31 ?l31 ?c31 ?k31 ?a32 ?l32 ?c32 ?k32 ?a33 ?l33 ?c33 ?k33 ?a34 ?l34 ?c34 ?k34 ?a35 ?l35 ?c35 ?k35 ?z0 ?z1 ?z2 ?z3 ?z4 ?z5 ?z6 ?z7 ?z8 ?z9 ?z10 ?z11 ?z12 ?z13 ?z14 ?z15 ?z16
    (case aC => k_is)
    (case aR => k_is)
    (case aL => k_is)
    (case aI => k_is)
    (case aA => k_is)
    (case xA => k_is)
    (case aO => k_is)
    (case xO => k_is)
    (case aK => k_is)
    (case aRk => k_is)
    (case aOr => k_is)
    (case iOr => k_is)
    (case aAn => k_is)
    (case iAn => k_is)
    (case aAd => k_is)
    (case iAd => k_is)
    (case aLe => k_is)
    (case iLe => k_is)
    (case aEq => k_is)
    (case iEq => k_is)
    (case aLv => k_is)
    (case gLv => k_is)
    (case tLv => k_is)
    (case xLv => k_is)
    (case sF => k_is)
    (case rvA => k_is)
    (case foA => k_is)
    (case roA => k_is)
    (case suA => k_is)
    (case neE => k_is)
    (case obE => k_is)
    (case p1 => k_is)
    (case p2 => k_is)
    (case p3 => k_is)
    (case p4 => k_is)
    (case p5 => k_is)
    (case p6 => k_is)
    (case p7 => k_is)
    (case p8 => k_is)
    (case haR => k_is)
    (case haC => k_is)
    (case hnO => k_is)
    (case htk => k_is)
    (case hmR => k_is)
    (case cc0 => k_is)
    (case cc1 => k_is)
    (case cc2 => k_is)
    (case cc3 => k_is)
    (case lI => k_is)
    (case cI => k_is)
    (case kI => k_is)
    (case lA => k_is)
    (case cA => k_is)
    (case kA => k_is)
    (case lO => k_is)
    (case cO => k_is)
    (case kO => k_is)
    (case lK => k_is)
    (case cK => k_is)
    (case kK => k_is)
    (case lR => k_is)
    (case cR => k_is)
    (case kR => k_is)
    (case lOr => k_is)
    (case cOr => k_is)
    (case kOr => k_is)
    (case lAn => k_is)
    (case cAn => k_is)
    (case kAn => k_is)
    (case lAd => k_is)
    (case cAd => k_is)
    (case kAd => k_is)
    (case lLe => k_is)
    (case cLe => k_is)
    (case kLe => k_is)
    (case lEq => k_is)
    (case cEq => k_is)
    (case kEq => k_is)
    (case lLv => k_is)
    (case cLv => k_is)
    (case kLv => k_is)
    (case q1 => k_is)
    (case q2 => k_is)
    (case q3 => k_is)
    (case q4 => k_is)
    (case q5 => k_is)
    (case q6 => k_is)
    (case q7 => k_is)
    (case q8 => k_is)
    (case q9 => k_is)
    (case r1 => k_is)
    (case r2 => k_is)
    (case r4 => k_is)
    (case r5 => k_is)
    (case r6 => k_is)
    (case r7 => kit_is)
    (case r8 => kit_is)
    (case a1 => k_is)
    (case l1 => k_is)
    (case c1 => k_is)
    (case k1 => k_is)
    (case a2 => k_is)
    (case l2 => k_is)
    (case c2 => k_is)
    (case k2 => k_is)
    (case a3 => k_is)
    (case l3 => k_is)
    (case c3 => k_is)
    (case k3 => k_is)
    (case a4 => k_is)
    (case l4 => k_is)
    (case c4 => k_is)
    (case k4 => k_is)
    (case a5 => k_is)
    (case l5 => k_is)
    (case c5 => k_is)
    (case k5 => k_is)
    (case a6 => k_is)
    (case l6 => k_is)
    (case c6 => k_is)
    (case k6 => k_is)
    (case a7 => k_is)
    (case l7 => k_is)
    (case c7 => k_is)
    (case k7 => k_is)
    (case a8 => k_is)
    (case l8 => k_is)
    (case c8 => k_is)
    (case k8 => k_is)
    (case a9 => k_is)
    (case l9 => k_is)
    (case c9 => k_is)
    (case k9 => k_is)
    (case a10 => k_is)
    (case l10 => k_is)
    (case c10 => k_is)
    (case k10 => k_is)
    (case a11 => k_is)
    (case l11 => k_is)
    (case c11 => k_is)
    (case k11 => k_is)
    (case a12 => k_is)
    (case l12 => k_is)
    (case c12 => k_is)
    (case k12 => k_is)
    (case a13 => k_is)
    (case l13 => k_is)
    (case c13 => k_is)
    (case k13 => k_is)
    (case a14 => k_is)
    (case l14 => k_is)
    (case c14 => k_is)
    (case k14 => k_is)
    (case a15 => k_is)
    (case l15 => k_is)
    (case c15 => k_is)
    (case k15 => k_is)
    (case a16 => k_is)
    (case l16 => k_is)
    (case c16 => k_is)
    (case k16 => k_is)
    (case a17 => k_is)
    (case l17 => k_is)
    (case c17 => k_is)
    (case k17 => k_is)
    (case a18 => k_is)
    (case l18 => k_is)
    (case c18 => k_is)
    (case k18 => k_is)
    (case a19 => k_is)
    (case l19 => k_is)
    (case c19 => k_is)
    (case k19 => k_is)
    (case a20 => k_is)
    (case l20 => k_is)
    (case c20 => k_is)
    (case k20 => k_is)
    (case a21 => k_is)
    (case l21 => k_is)
    (case c21 => k_is)
    (case k21 => k_is)
    (case a22 => k_is)
    (case l22 => k_is)
    (case c22 => k_is)
    (case k22 => k_is)
    (case a23 => k_is)
    (case l23 => k_is)
    (case c23 => k_is)
    (case k23 => k_is)
    (case a24 => k_is)
    (case l24 => k_is)
    (case c24 => k_is)
    (case k24 => k_is)
    (case a25 => k_is)
    (case l25 => k_is)
    (case c25 => k_is)
    (case k25 => k_is)
    (case a26 => k_is)
    (case l26 => k_is)
    (case c26 => k_is)
    (case k26 => k_is)
    (case a27 => k_is)
    (case l27 => k_is)
    (case c27 => k_is)
    (case k27 => k_is)
    (case a28 => k_is)
    (case l28 => k_is)
    (case c28 => k_is)
    (case k28 => k_is)
    (case a29 => k_is)
    (case l29 => k_is)
    (case c29 => k_is)
    (case k29 => k_is)
    (case a30 => k_is)
    (case l30 => k_is)
    (case c30 => k_is)
    (case k30 => k_is)
    (case a31 => k_is)
    (case l31 => k_is)
    (case c31 => k_is)
    (case k31 => k_is)
    (case a32 => k_is)
    (case l32 => k_is)
    (case c32 => k_is)
    (case k32 => k_is)
    (case a33 => k_is)
    (case l33 => k_is)
    (case c33 => k_is)
    (case k33 => k_is)
    (case a34 => k_is)
    (case l34 => k_is)
    (case c34 => k_is)
    (case k34 => k_is)
    (case a35 => k_is)
    (case l35 => k_is)
    (case c35 => k_is)
    (case k35 => k_is)
    (case z0 => k_is)
    (case z1 => k_is)
    (case z2 => k_is)
    (case z3 => k_is)
    (case z4 => k_is)
    (case z5 => k_is)
    (case z6 => k_is)
    (case z7 => k_is)
    (case z8 => k_is)
    (case z9 => k_is)
    (case z10 => k_is)
    (case z11 => k_is)
    (case z12 => k_is)
    (case z13 => k_is)
    (case z14 => k_is)
    (case z15 => k_is)
    (case z16 => k_is)
